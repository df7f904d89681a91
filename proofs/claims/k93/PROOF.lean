import PyProof.Rows.All
import Wide.All
import OpenK.AllK
import Wide.FinOn
import Lean
import PyProof.EqAt
import PyProof.EqKinds
import PyProof.TupleCall
import PyProof.NeKinds
import PyProof.ReprRoads
import PyProof.ReprBulk
import PyProof.Draws
import PyProof.EnumMake
import KE.BitLaws
import PyProof.ListIndex
import PyProof.AttrMissHeap
import PyProof.DictUpdate
import KE.KDictOf
import PyProof.FactsAll.enumerate_1
import PyProof.FactsAll.tuple_2
import PyProof.ListMulRoad
import PyProof.ListRange
import PyProof.FactsAll.list_3
import PyProof.Rows.SortWalk
import PyProof.Rows.MinMaxN
import KE.KEqDict
import PySem.Challenge.RW_flips_k93_whole_side_by_side
set_option Elab.async false
set_option linter.all false
set_option maxRecDepth 100000
set_option maxHeartbeats 4000000
-- CHANGE: your row's module here, as the last of these rows
namespace L2
open PySem PySem.Spec PyProof.Rows
abbrev Key := Sum Int Str
def keyIs : Key -> Value -> Bool
  | .inl k, v => Value.isInt k v
  | .inr x, v => Value.isStrOf x v
def keyH (w : World) : Key -> Int
  | .inl k => hashInt k
  | .inr x => hashStr w x
theorem keyIs_shape : ∀ {k : Key} {v : Value}, keyIs k v = true -> (∃ i t, k = Sum.inl i /\ v = Value.int i t) \/ (∃ x t, k = Sum.inr x /\ v = Value.str x t)
  | .inl i, v, h => by
    obtain ⟨t, e⟩ := Value.isInt_shape (k := i) (v := v) h
    exact .inl ⟨i, t, rfl, e⟩
  | .inr x, v, h => by
    obtain ⟨t, e⟩ := Value.isStrOf_shape (x := x) (v := v) h
    exact .inr ⟨x, t, rfl, e⟩
theorem keyIs_int (i : Int) (t : Tok) : keyIs (.inl i) (.int i t) = true := by simp [keyIs, Value.isInt]
theorem keyIs_str (x : Str) (t : Tok) : keyIs (.inr x) (.str x t) = true := by simp [keyIs, Value.isStrOf]
theorem key_ll (a b : Int) : decide ((Sum.inl a : Key) = Sum.inl b) = (a == b) := by
  by_cases e : a = b
  . subst e; simp
  . have h : ¬ (Sum.inl a : Key) = Sum.inl b := fun q => e (Sum.inl.inj q)
    rw [decide_eq_false h]
    exact (beq_eq_false_iff_ne.mpr e).symm
theorem key_rr (a b : Str) : decide ((Sum.inr a : Key) = Sum.inr b) = decide (a = b) := by
  by_cases e : a = b
  . subst e; simp
  . have h : ¬ (Sum.inr a : Key) = Sum.inr b := fun q => e (Sum.inr.inj q)
    rw [decide_eq_false h, decide_eq_false e]
theorem key_lr (a : Int) (b : Str) : decide ((Sum.inl a : Key) = Sum.inr b) = false := decide_eq_false (fun q => nomatch q)
theorem key_rl (a : Str) (b : Int) : decide ((Sum.inr a : Key) = Sum.inl b) = false := decide_eq_false (fun q => nomatch q)
def mixKind (prog : Program) (w : World) : PySem.KeyKind prog w Key where
  is := keyIs
  hash := keyH w
  inj := fun v a b ha hb => by
    rcases keyIs_shape ha with ⟨i, t, rfl, rfl⟩ | ⟨x, t, rfl, rfl⟩
    . rcases keyIs_shape hb with ⟨j, u, rfl, e⟩ | ⟨y, u, rfl, e⟩
      . injection e with e1 _; rw [e1]
      . exact nomatch e
    . rcases keyIs_shape hb with ⟨j, u, rfl, e⟩ | ⟨y, u, rfl, e⟩
      . exact nomatch e
      . injection e with e1 _; rw [e1]
  byValue := fun k v h => by
    rcases keyIs_shape h with ⟨i, t, rfl, rfl⟩ | ⟨x, t, rfl, rfl⟩ <;> rfl
  pyHash := fun hv h => by
    rcases keyIs_shape hv with ⟨i, t, rfl, rfl⟩ | ⟨x, t, rfl, rfl⟩
    . exact wpAny_pyHash_int h
    . exact wpAny_pyHash_str h
  eqBool := fun hu hv h => by
    rcases keyIs_shape hu with ⟨i, t, rfl, rfl⟩ | ⟨x, t, rfl, rfl⟩
    . rcases keyIs_shape hv with ⟨j, u, rfl, rfl⟩ | ⟨y, u, rfl, rfl⟩
      . rw [key_ll] at h; exact wpAny_eqBool_int h
      . rw [key_lr] at h; exact SeqAt.EqAt.int_str i t y u _ _ _ _ h
    . rcases keyIs_shape hv with ⟨j, u, rfl, rfl⟩ | ⟨y, u, rfl, rfl⟩
      . rw [key_rl] at h; exact SeqAt.EqAt.str_int x t j u _ _ _ _ h
      . rw [key_rr] at h; exact wpAny_eqBool_str h
  «strs» := fun k x t v h => by
    rcases keyIs_shape h with ⟨i, u, rfl, e⟩ | ⟨y, u, rfl, e⟩
    . exact nomatch e
    . injection e with e1 _
      subst e1
      cases v <;> rfl
theorem mixKind_int (prog : Program) (w : World) (i : Int) (t : Tok) : (mixKind prog w).is (.inl i) (.int i t) = true := keyIs_int i t
theorem mixKind_str (prog : Program) (w : World) (x : Str) (t : Tok) : (mixKind prog w).is (.inr x) (.str x t) = true := keyIs_str x t
inductive V where
  | non | bl (b : Bool) | int (i : Int) | str (x : Str) | byt (b : Array UInt8) | flt (b : UInt64) | ref (a : Addr) | ty (n : String)
  deriving DecidableEq
def RelV : V -> Value -> Prop
  | .non, u => u = Value.none
  | .bl b, u => u = Value.bool b
  | .int i, u => ∃ t, u = Value.int i t
  | .str x, u => ∃ t, u = Value.str x t
  | .byt b, u => ∃ t, u = Value.bytes b t
  | .flt b, u => ∃ t, u = Value.float b t
  | .ref a, u => u = Value.ref a
  | .ty n, u => u = Value.type n
abbrev Vals : List V -> List Value -> Prop := Paired RelV
theorem Vals.length {xs : List V} {us : List Value} (r : Vals xs us) : xs.length = us.length := Paired.length r
theorem Vals.get : ∀ {xs : List V} {us : List Value} {i : Nat} {x : V}, Vals xs us -> xs[i]? = some x -> ∃ u, us[i]? = some u /\ RelV x u
  | _, _, _, _, .nil, e => by simp at e
  | _, _, 0, _, .cons r _, e => by simp at e; subst e; exact ⟨_, rfl, r⟩
  | _, _, i + 1, x, .cons _ t, e => by
    obtain ⟨u, h1, h2⟩ := Vals.get (i := i) (x := x) t (by simpa using e)
    exact ⟨u, by simpa using h1, h2⟩
theorem Vals.set {x : V} {u : Value} (r : RelV x u) : ∀ {xs : List V} {us : List Value} (i : Nat), Vals xs us -> Vals (xs.set i x) (us.set i u)
  | _, _, _, .nil => .nil
  | _, _, 0, .cons _ t => .cons r t
  | _, _, i + 1, .cons q t => .cons q (Vals.set r i t)
theorem Vals.append : ∀ {xs ys : List V} {us ws : List Value}, Vals xs us -> Vals ys ws -> Vals (xs ++ ys) (us ++ ws)
  | _, _, _, _, .nil, s => s
  | _, _, _, _, .cons r t, s => .cons r (Vals.append t s)
def RelO : Option V -> Option Value -> Prop
  | some v, some u => RelV v u
  | none, none => True
  | _, _ => False
def KV {κ : Type} : List (κ × V) -> List (κ × Value) -> Prop := Paired fun (p : κ × V) (q : κ × Value) => p.1 = q.1 /\ RelV p.2 q.2
def kV : Key -> V
  | .inl i => .int i
  | .inr x => .str x
inductive HO where
    | lst (xs : List V)
    | tup (xs : List V)
    | dK (kvs : List (Key × V)) | dT (kvs : List (List Key × V))
    | set (S : Int -> Bool) (n : Nat)
    | ins (C dx : Addr) (fs : List (Str × V))
    | own (x : Addr)
    | xd (fs : List (Str × V))
    | met (f x : Addr)
    | rng (lo hi : Int)
    | frz (o : Obj) (u : HO)
    | tbl (ps : Array Value)
    | ext (φ : Heap -> Prop)
abbrev Hp := Addr -> Option HO
def upd (H : Hp) (a : Addr) (o : HO) : Hp := fun b => if b = a then some o else H b
theorem upd_same {H : Hp} {a : Addr} {o : HO} : upd H a o a = some o := by unfold upd; rw [if_pos rfl]
theorem upd_ne {H : Hp} {a b : Addr} {o : HO} (h : b ≠ a) : upd H a o b = H b := by unfold upd; rw [if_neg h]
theorem ne_of {H : Hp} {a b : Addr} {o u : HO} (h : H a = some o) (h' : H b = some u) (d : o ≠ u) : a ≠ b := by
  intro e; subst e; rw [h] at h'; exact d (Option.some.inj h')
theorem ne_of_none {H : Hp} {a b : Addr} {o : HO} (h : H a = some o) (h' : H b = none) : a ≠ b := by
  intro e; subst e; rw [h] at h'; cases h'
def IsTupN (h : Heap) (a : Addr) (items : Array Value) : Prop := ∃ o, h.get? a = some o /\ o.cls = .type "tuple" /\ (∃ n, o.data = .seq items n) /\ o.dict = none
theorem IsTupN.tup {h : Heap} {a : Addr} {items : Array Value} (x : IsTupN h a items) : PyProof.Rows.IsTup h a items := by
  obtain ⟨o, e, c, d, _⟩ := x
  exact ⟨o, e, c, d⟩
theorem IsTupN.new (h : Heap) (items : Array Value) : IsTupN (h.push { cls := .type "tuple", data := .seq items }) h.objs.size items := ⟨_, Heap.get?_push_size _ rfl, rfl, ⟨_, rfl⟩, rfl⟩
section
variable (P : Program) (w : World)
def ObjOk (H : Hp) (h : Heap) (a : Addr) : HO -> Prop
  | .lst xs => xs.length <= sizeLine /\ ∃ (its : List Value) (n : Nat), Vals xs its /\ h.get? a = some { cls := .type "list", data := .seq its.toArray n }
  | .tup xs => xs.length <= sizeLine /\ ∃ its : List Value, Vals xs its /\ IsTupN h a its.toArray
  | .dK kvs => kvs.length <= sizeLine /\ (a == sysModules) = false /\ ∃ vs, KV kvs vs /\ h.DictOf (mixKind P w) a vs
  | .dT kvs => kvs.length <= sizeLine /\ (a == sysModules) = false /\ ∃ xs : List (List Key × Addr × Value),
      Paired (fun (p : List Key × V) (q : List Key × Addr × Value) => p.1 = q.1 /\ H q.2.1 = some (.tup (p.1.map kV)) /\ RelV p.2 q.2.2) kvs xs /\
      ∃ o es ep, h.get? a = some o /\ o.ExactDict /\ o.data = .dict es ep /\ es.toList = xs.map (entryOfKey (tupleKind (mixKind P w))) /\ (xs.map (·.1)).Nodup
  | .set S n => h.SetOf (intKind P w) a S n
  | .ins C dx fs => H dx = some (.own a) /\ fs.length <= 1000 /\ dx ≠ a /\ h.get? a = some (PySem.W.instObj C dx) /\
      ∃ mA, h.Ns1 dx mA /\ (∀ f, RelO (fs.lookup f) (mA f)) /\ PySem.Within mA (fs.map (·.1))
  | .own _ => ∃ o, h.get? a = some o
  | .xd fs => ∃ mA, h.Ns1 a mA /\ ∀ f, RelO (fs.lookup f) (mA f)
  | .rng lo hi => ∃ t u v, h.get? a = some { cls := .type "range", data := .fields #[.int lo t, .int hi u, .int 1 v] }
  | .frz o u => h.get? a = some o /\ ObjOk H h a u
  | .tbl ps => h.get? a = some { cls := .none, data := .fields ps }
  | .met f x => h.get? a = some (PySem.W.methodObj (.ref f) (.ref x))
  | .ext φ => φ h /\ (∃ o, h.get? a = some o) /\ ∀ h1 h2 : Heap, φ h1 -> (∀ o, h1.get? a = some o -> h2.get? a = some o) -> φ h2
def HOk (H : Hp) (h : Heap) : Prop := ∀ a o, H a = some o -> ObjOk P w H h a o
end
section
variable {P : Program} {w : World} {H H' : Hp} {h h' : Heap} {a : Addr} {o : HO}
theorem ObjOk.lt (x : ObjOk P w H h a o) : a < h.objs.size := by
  cases o with
  | lst xs => obtain ⟨_, _, _, _, e⟩ := x; exact Heap.lt_size e
  | tup xs => obtain ⟨_, _, _, p⟩ := x; exact p.tup.lt
  | dK kvs => obtain ⟨_, _, _, _, o, _, _, e, _⟩ := x; exact Heap.lt_size e
  | dT kvs => obtain ⟨_, _, _, _, o, _, _, e, _⟩ := x; exact Heap.lt_size e
  | set S n => obtain ⟨o, _, _, _, e, _⟩ := x; exact Heap.lt_size e
  | ins C dx fs => obtain ⟨_, _, _, e, _⟩ := x; exact Heap.lt_size e
  | own y => obtain ⟨_, e⟩ := x; exact Heap.lt_size e
  | xd fs => obtain ⟨_, ⟨_, _, _, e, _⟩, _⟩ := x; exact Heap.lt_size e
  | rng lo hi => obtain ⟨_, _, _, e⟩ := x; exact Heap.lt_size e
  | frz ob u => obtain ⟨e, _⟩ := x; exact Heap.lt_size e
  | tbl ps => exact Heap.lt_size (show h.get? a = some _ from x)
  | met f y => exact Heap.lt_size (show h.get? a = some _ from x)
  | ext φ => obtain ⟨_, ⟨_, e⟩, _⟩ := x; exact Heap.lt_size e
theorem Paired.mapP {α β : Type} {F G : α -> β -> Prop} : ∀ {l₁ : List α} {l₂ : List β}, Paired F l₁ l₂ -> (∀ a b, F a b -> G a b) -> Paired G l₁ l₂
  | _, _, .nil, _ => .nil
  | _, _, .cons r t, f => .cons (f _ _ r) (Paired.mapP t f)
theorem ObjOk.stay (x : ObjOk P w H h a o) (k : ∀ b u, (b = a \/ H b = some (.own a)) -> h.get? b = some u -> h'.get? b = some u)
    (ho : ∀ b, H b = some (.own a) -> H' b = some (.own a)) (ht : ∀ b xs, H b = some (.tup xs) -> H' b = some (.tup xs)) : ObjOk P w H' h' a o := by
  induction o with
  | lst xs => obtain ⟨z, its, n, r, e⟩ := x; exact ⟨z, its, n, r, k _ _ (.inl rfl) e⟩
  | tup xs => obtain ⟨z, its, r, ob, e, c⟩ := x; exact ⟨z, its, r, ob, k _ _ (.inl rfl) e, c⟩
  | dK kvs => obtain ⟨z, y, vs, r, ob, es, ep, e, c⟩ := x; exact ⟨z, y, vs, r, ob, es, ep, k _ _ (.inl rfl) e, c⟩
  | dT kvs =>
    obtain ⟨z, y, xs, r, ob, es, ep, e, c⟩ := x
    exact ⟨z, y, xs, Paired.mapP r fun p q z => ⟨z.1, ht _ _ z.2.1, z.2.2⟩, ob, es, ep, k _ _ (.inl rfl) e, c⟩
  | set S n => obtain ⟨ob, es, ep, t, e, c⟩ := x; exact ⟨ob, es, ep, t, k _ _ (.inl rfl) e, c⟩
  | ins C dx fs =>
    obtain ⟨d, z, ne, e, mA, ⟨od, es, ep, e2, c⟩, r⟩ := x
    exact ⟨ho _ d, z, ne, k _ _ (.inl rfl) e, mA, ⟨od, es, ep, k _ _ (.inr d) e2, c⟩, r⟩
  | own y => obtain ⟨ob, e⟩ := x; exact ⟨ob, k _ _ (.inl rfl) e⟩
  | xd fs => obtain ⟨mA, ⟨od, es, ep, e, c⟩, r⟩ := x; exact ⟨mA, ⟨od, es, ep, k _ _ (.inl rfl) e, c⟩, r⟩
  | rng lo hi => obtain ⟨t, u, v, e⟩ := x; exact ⟨t, u, v, k _ _ (.inl rfl) e⟩
  | frz ob u ih => obtain ⟨e, q⟩ := x; exact ⟨k _ _ (.inl rfl) e, ih q⟩
  | tbl ps =>
    have e : h.get? a = some { cls := .none, data := .fields ps } := x
    show h'.get? a = some { cls := .none, data := .fields ps }
    exact k a _ (.inl rfl) e
  | met f y =>
    have e : h.get? a = some (PySem.W.methodObj (.ref f) (.ref y)) := x
    show h'.get? a = some (PySem.W.methodObj (.ref f) (.ref y))
    exact k a _ (.inl rfl) e
  | ext φ => obtain ⟨p, ⟨o, e⟩, st⟩ := x; exact ⟨st _ _ p fun o q => k _ _ (.inl rfl) q, ⟨o, k _ _ (.inl rfl) e⟩, st⟩
theorem HOk.lt (x : HOk P w H h) (e : H a = some o) : a < h.objs.size := (x a o e).lt
theorem HOk.fresh (x : HOk P w H h) (e : h.objs.size <= a) : H a = none := by
  cases q : H a with
  | none => rfl
  | some u => exact absurd (Nat.lt_of_lt_of_le (x.lt q) e) (Nat.lt_irrefl _)
theorem HOk.kept (x : HOk P w H h) (k : ∀ b u, h.get? b = some u -> h'.get? b = some u) : HOk P w H h' := fun a o e =>
  (x a o e).stay (fun b u _ q => k b u q) (fun _ q => q) fun _ _ q => q
theorem HOk.laid (x : HOk P w H h) (k : ∀ b u, h.get? b = some u -> h'.get? b = some u) (hp : h.objs.size <= a) (new : ObjOk P w (upd H a o) h' a o) : HOk P w (upd H a o) h' := fun b u e => by
  have hn := x.fresh hp
  by_cases hb : b = a
  . subst hb; rw [upd_same] at e; cases e; exact new
  . rw [upd_ne hb] at e
    exact (x b u e).stay (fun c v _ q => k c v q) (fun c q => by rw [upd_ne (ne_of_none q hn)]; exact q) fun c xs q => by rw [upd_ne (ne_of_none q hn)]; exact q
end
def Rd (H : Hp) (a : Addr) (u : HO) : Prop := H a = some u \/ ∃ o, H a = some (.frz o u)
theorem Rd.ok {P : Program} {w : World} {H : Hp} {h : Heap} {a : Addr} {u : HO} (r : Rd H a u) (x : HOk P w H h) : ObjOk P w H h a u := by
  rcases r with r | ⟨o, r⟩
  . exact x a u r
  . obtain ⟨_, q⟩ := x a _ r
    exact q
def Mut : Option HO -> Prop
  | some (.lst _) => True
  | some (.dK _) => True
  | some (.dT _) => True
  | some (.set _ _) => True
  | some (.ins _ _ _) => True
  | some (.ext _) => True
  | _ => False
section
variable {P : Program} {w : World} {H : Hp} {h h' : Heap} {x e : Addr} {o' : HO}
theorem HOk.write (ok : HOk P w H h) (mu : Mut (H x)) (he : e = x \/ H e = some (.own x)) (k : ∀ b u, b ≠ e -> h.get? b = some u -> h'.get? b = some u) (heo : ∃ u, h'.get? e = some u)
    (new : ObjOk P w (upd H x o') h' x o') : HOk P w (upd H x o') h' := fun b u q => by
  have nown : ∀ c y, H c = some (.own y) -> c ≠ x := fun c y r z => by subst z; rw [r] at mu; exact mu
  have ntup : ∀ c xs, H c = some (.tup xs) -> c ≠ x := fun c xs r z => by subst z; rw [r] at mu; exact mu
  by_cases hb : b = x
  . subst hb; rw [upd_same] at q; cases q; exact new
  . rw [upd_ne hb] at q
    by_cases hbe : b = e
    . have q' : H b = some (.own x) := by
        rcases he with z | z
        . exact absurd (hbe.trans z) hb
        . rw [hbe]; exact z
      rw [q] at q'; cases q'
      obtain ⟨v, hv⟩ := heo
      exact ⟨v, by rw [hbe]; exact hv⟩
    . refine (ok b u q).stay (fun c v hc r => k c v ?_ r) (fun c r => by rw [upd_ne (nown c b r)]; exact r) fun c xs r => by rw [upd_ne (ntup c xs r)]; exact r
      rcases hc with rfl | hc
      . exact hbe
      . rintro rfl
        rcases he with z | z
        . exact nown c b hc z
        . rw [hc] at z; cases z; exact hb rfl
end
structure Un (fs ex : List Addr) (H H' : Hp) (h h' : Heap) : Prop where
  keep : ∀ b o, h.get? b = some o -> H b = none -> b ∉ fs -> b ∉ ex -> h'.get? b = some o
  slot : ∀ b o, h.get? b = some o -> H b = none -> b ∈ fs -> b ∉ ex -> ∃ sl, h'.get? b = some { o with slots := sl }
  free : ∀ b o, h.get? b = some o -> H b = none -> b ∉ ex -> H' b = none
  there : ∀ b o, h.get? b = some o -> b ∉ ex -> ∃ o', h'.get? b = some o'
  tups : ∀ b xs, H b = some (.tup xs) -> H' b = some (.tup xs)
  frzs : ∀ b o u, H b = some (.frz o u) -> H' b = some (.frz o u)
  tbls : ∀ b ps, H b = some (.tbl ps) -> ∃ more, H' b = some (.tbl (ps ++ more))
section
variable {fs fs' ex ex' : List Addr} {H H1 H2 : Hp} {h h1 h2 h' : Heap} {a x e : Addr} {o : HO}
theorem Un.any (u : Un fs ex H H1 h h1) {b : Addr} {ob : Obj} (q : h.get? b = some ob) (n : H b = none) (hx : b ∉ ex) : ∃ sl, h1.get? b = some { ob with slots := sl } := by
  by_cases hb : b ∈ fs
  . exact u.slot b ob q n hb hx
  . exact ⟨ob.slots, u.keep b ob q n hb hx⟩
theorem Un.kept (k : ∀ b u, h.get? b = some u -> h'.get? b = some u) : Un fs ex H H h h' :=
  ⟨fun b ob q _ _ _ => k b ob q, fun b ob q _ _ _ => ⟨ob.slots, k b ob q⟩, fun _ _ _ n _ => n, fun b ob q _ => ⟨ob, k b ob q⟩, fun _ _ q => q, fun _ _ _ q => q, fun _ ps q => ⟨#[], by rw [q]; simp⟩⟩
theorem Un.refl : Un fs ex H H h h := Un.kept fun _ _ q => q
theorem Un.laid (k : ∀ b u, h.get? b = some u -> h'.get? b = some u) (hp : h.objs.size <= a) (hn : H a = none) : Un fs ex H (upd H a o) h h' where
  keep := fun b u q _ _ _ => k b u q
  slot := fun b u q _ _ _ => ⟨u.slots, k b u q⟩
  free := fun b u q n _ => by rw [upd_ne (Nat.ne_of_lt (Nat.lt_of_lt_of_le (Heap.lt_size q) hp))]; exact n
  there := fun b u q _ => ⟨u, k b u q⟩
  tups := fun b xs q => by rw [upd_ne (ne_of_none q hn)]; exact q
  frzs := fun b u xs q => by rw [upd_ne (ne_of_none q hn)]; exact q
  tbls := fun b ps q => ⟨#[], by rw [upd_ne (ne_of_none q hn), q]; simp⟩
theorem Un.write (mu : Mut (H x)) (he : e = x \/ H e = some (.own x)) (k : ∀ b u, b ≠ e -> h.get? b = some u -> h'.get? b = some u) (heo : ∃ u, h'.get? e = some u) : Un fs ex H (upd H x o) h h' := by
  have hx : ∀ b, H b = none -> b ≠ x := fun b n z => by subst z; rw [n] at mu; exact mu
  have hb : ∀ b, H b = none -> b ≠ e := fun b n z => by
    subst z
    rcases he with r | r
    . exact hx b n r
    . rw [n] at r; cases r
  have hm : ∀ b u, H b = some u -> ¬ Mut (some u) -> b ≠ x := fun b u q nm z => by subst z; rw [q] at mu; exact nm mu
  refine ⟨fun b u q n _ _ => k b u (hb b n) q, fun b u q n _ _ => ⟨u.slots, k b u (hb b n) q⟩, fun b u q n _ => by rw [upd_ne (hx b n)]; exact n, fun b u q _ => ?_,
    fun b xs q => by rw [upd_ne (hm b _ q fun z => z)]; exact q, fun b u xs q => by rw [upd_ne (hm b _ q fun z => z)]; exact q, fun b ps q => ⟨#[], by rw [upd_ne (hm b _ q fun z => z), q]; simp⟩⟩
  by_cases hbe : b = e
  . subst hbe; exact heo
  . exact ⟨u, k b u hbe q⟩
end
def trk (h : Heap) (H : Hp) : List Addr := (List.range h.objs.size).filter fun a => (H a).isSome
def hidT (h : Heap) (H : Hp) : Heap := PySem.W.hideAll h (trk h H)
theorem hidT_size (h : Heap) (H : Hp) : (hidT h H).objs.size = h.objs.size := PySem.W.hideAll_size _ _
theorem hidT_get {h : Heap} {H : Hp} {b : Addr} {o : Obj} (e : h.get? b = some o) (n : H b = none) : (hidT h H).get? b = some o :=
  PySem.W.hideAll_get _ e fun hm => by
    have q : (H b).isSome = true := (List.mem_filter.mp hm).2
    rw [n] at q; simp at q
theorem of_hidT {h : Heap} {H : Hp} {b : Addr} {o : Obj} (e : (hidT h H).get? b = some o) : h.get? b = some o /\ H b = none := by
  have e' : h.get? b = some o := PySem.W.of_hideAll (trk h H) e
  refine ⟨e', ?_⟩
  cases q : H b with
  | none => rfl
  | some x =>
    have hm : b ∈ trk h H := List.mem_filter.mpr ⟨List.mem_range.mpr (Heap.lt_size e'), by simp [q]⟩
    have z : (hidT h H).get? b = none := PySem.W.hideAll_none (trk h H) hm
    rw [z] at e; cases e
def allNews (g h : Heap) (L : Addr) : List (Addr × Obj) := (List.range h.objs.size).filterMap fun a => if a = L \/ (g.get? a).isSome = true then none else (h.get? a).map fun o => (a, o)
def rest (g h : Heap) (L d : Addr) : List (Addr × Obj) := (allNews g h L).filter fun p => decide (p.1 ≠ d)
structure Mod (K : PySem.W.Frag) (mg : Str -> Option Value) (base : Heap) : Prop where
  kin : K.In base
  glob : base.Ns mainGlobals mg
  blt : ∃ mb, base.Ns builtinsNs mb /\ ∀ x : Str, x ≠ "__name__" -> mb x = bootBuiltins x
  nolimit : base.NoLimit
structure Cx where
  prog : Program
  w : World
  K : PySem.W.Frag
  mg : Str -> Option Value
  base : Heap
  A : Around
  N : List Str
  s₀ : Shared
  H₀ : Hp
  env : Env
  outer : List Env
  stack : List Env
  ex : List Addr
  fn : Str -> Bool
  calm : Bool
  pn : List (Addr × Obj)
  xe : Value -> Shared -> Prop
def frs (l : List Env) : List Addr := l.filterMap (·.frame)
abbrev Cx.fs (X : Cx) : List Addr := frs X.outer
def Vis (sc : Scope) (x : Str) : Prop := sc.names.lookup x = some .local \/ sc.names.lookup x = some .cell \/ sc.names.lookup x = some .free
def Loc (sc : Scope) (x : Str) : Prop := sc.names.lookup x = some .local \/ sc.names.lookup x = some .cell
def Look (env : Env) (h : Heap) (m : Str -> Option Value) (x : Str) (u : Value) : Prop :=
  (env.kindOf x = some .local /\ m x = some u) \/ ((env.kindOf x = some .cell \/ env.kindOf x = some .free) /\ ∃ c, env.cells.lookup x = some c /\ h.IsCell c (some u))
structure Cx.Ok (X : Cx) : Prop where
  mod : Mod X.K X.mg X.base
  kind : X.env.scope.kind = .function
  glob : X.env.globals = mainGlobals
  blt : X.env.builtins = builtinsNs
  above : X.s₀.heap.objs.size <= X.env.locals
  inj : ∀ x y c, X.env.cells.lookup x = some c -> X.env.cells.lookup y = some c -> x = y
  has : ∀ x, (X.env.kindOf x = some .cell \/ X.env.kindOf x = some .free) -> ∃ c, X.env.cells.lookup x = some c
  cab : ∀ x c, X.fn x = true -> X.env.cells.lookup x = some c -> X.s₀.heap.objs.size <= c
  hd : X.calm = true -> X.A.handled = none
  frames : X.A.frames = some X.stack
  stk : X.stack = X.outer \/ (X.stack = X.env :: X.outer /\ X.env.frame = some X.env.locals)
  exf : ∀ b ∈ X.ex, b ≠ X.env.locals /\ ∀ x c, X.env.cells.lookup x = some c -> c ≠ b
  bs : ∀ b o, X.base.get? b = some o -> X.s₀.heap.get? b = some o /\ X.H₀ b = none
  bsz : X.base.objs.size <= X.s₀.heap.objs.size
  noex : ∀ b o, X.base.get? b = some o -> b ∉ X.ex
  exfs : ∀ b ∈ X.ex, b ∉ X.fs
  funs : X.s₀.heap.FunFrames X.base X.outer
  frf : ∀ b ∈ X.fs, X.H₀ b = none
structure Inv (X : Cx) (pins : List (Addr × Obj)) (σ : List (Option V)) (H : Hp) (s : Shared) : Prop where
  ok : X.Ok
  os : s.os = X.s₀.os
  bare : AllBare s.gens
  base : Un X.fs X.ex X.H₀ H X.s₀.heap s.heap
  loc : ∃ m, s.heap.Ns X.env.locals m /\ ∀ (i : Nat) (x : Str) (v : V), X.N[i]? = some x -> σ[i]? = some (some v) -> Vis X.env.scope x -> ∃ u, RelV v u /\ Look X.env s.heap m x u
  cell : ∀ x c, X.env.cells.lookup x = some c -> ∃ v, s.heap.IsCell c v
  free : H X.env.locals = none
  freeC : ∀ x c, X.env.cells.lookup x = some c -> H c = none
  pin : ∀ p ∈ X.pn ++ pins, s.heap.get? p.1 = some p.2 /\ H p.1 = none /\ p.1 ≠ X.env.locals /\ p.1 ∉ X.fs /\ ∀ v, p.2.data ≠ .cell v
  hok : HOk X.prog X.w H s.heap
  len : σ.length = X.N.length
section
variable {X : Cx} {pins : List (Addr × Obj)} {σ : List (Option V)} {H H' : Hp} {s : Shared} {h' : Heap}
theorem Cx.Ok.nofr (ok : X.Ok) {b : Addr} {o : Obj} (e : X.base.get? b = some o) : b ∉ X.fs := fun hb => by
  have := (ok.funs.mem hb).1
  rw [e] at this; cases this
theorem Inv.bs (I : Inv X pins σ H s) : ∀ b o, X.base.get? b = some o -> s.heap.get? b = some o /\ H b = none := fun b o e =>
  ⟨I.base.keep b o (I.ok.bs b o e).1 (I.ok.bs b o e).2 (I.ok.nofr e) (I.ok.noex b o e), I.base.free b o (I.ok.bs b o e).1 (I.ok.bs b o e).2 (I.ok.noex b o e)⟩
theorem Inv.bk (I : Inv X pins σ H s) : ∀ b o, X.base.get? b = some o -> s.heap.get? b = some o := fun b o e => (I.bs b o e).1
theorem Inv.mod (I : Inv X pins σ H s) : Mod X.K X.mg X.base := I.ok.mod
theorem Inv.kIn (I : Inv X pins σ H s) : X.K.In s.heap := I.ok.mod.kin.keeps I.bk
theorem Inv.lt (I : Inv X pins σ H s) : X.env.locals < s.heap.objs.size := let ⟨_, hn, _⟩ := I.loc; hn.lt
theorem Inv.sz (I : Inv X pins σ H s) : X.s₀.heap.objs.size <= s.heap.objs.size := Nat.le_trans I.ok.above (Nat.le_of_lt I.lt)
theorem Inv.nofs (I : Inv X pins σ H s) {a : Addr} (h : s.heap.objs.size <= a) : a ∉ X.fs := fun hb => by
  obtain ⟨_, o, ho, _⟩ := I.ok.funs.mem hb
  exact absurd (Nat.lt_of_lt_of_le (Heap.lt_size ho) (Nat.le_trans I.sz h)) (Nat.lt_irrefl _)
theorem Inv.cne (I : Inv X pins σ H s) : ∀ x c, X.env.cells.lookup x = some c -> c ≠ X.env.locals := fun x c e z => by
  obtain ⟨v, o, ho, hd⟩ := I.cell x c e
  obtain ⟨m, ⟨o', es, ep, ho', hd', _⟩, _⟩ := I.loc
  rw [z, ho'] at ho; cases ho; rw [hd'] at hd; cases hd
theorem Inv.funs (I : Inv X pins σ H s) : s.heap.FunFrames X.base X.outer := by
  have all : ∀ (l : List Env), (∀ b ∈ frs l, b ∈ X.fs) -> X.s₀.heap.FunFrames X.base l -> s.heap.FunFrames X.base l := by
    intro l
    induction l with
    | nil => intro _ _; trivial
    | cons env r ih =>
      intro hs hl
      obtain ⟨hk, ⟨L, o, hf, hn, ho, hd⟩, hr⟩ := hl
      have hL : L ∈ X.fs := hs L (by unfold frs; rw [List.filterMap_cons, hf]; exact List.mem_cons_self)
      obtain ⟨sl, e⟩ := I.base.slot L o ho (I.ok.frf L hL) hL fun z => I.ok.exfs L z hL
      exact ⟨hk, ⟨L, _, hf, hn, e, hd⟩, ih (fun b hb => hs b (by unfold frs; rw [List.filterMap_cons, hf]; exact List.mem_cons_of_mem _ hb)) hr⟩
  exact all X.outer (fun _ hb => hb) I.ok.funs
theorem Inv.stack (I : Inv X pins σ H s) : s.heap.FunFrames X.base X.stack := by
  rcases I.ok.stk with e | ⟨e, hf⟩
  . rw [e]; exact I.funs
  . rw [e]
    obtain ⟨m, hn, _⟩ := I.loc
    refine .cons (by rw [I.ok.kind]; decide) hf hn ?_ I.funs
    exact Heap.get?_none_of_le (Nat.le_trans I.ok.bsz I.ok.above)
theorem Inv.stkSub (I : Inv X pins σ H s) : ∀ b ∈ frs X.stack, b ∈ X.env.locals :: X.fs := fun b hb => by
  rcases I.ok.stk with e | ⟨e, hf⟩
  . rw [e] at hb; exact List.mem_cons_of_mem _ hb
  . rw [e] at hb
    unfold frs at hb
    rw [List.filterMap_cons, hf] at hb
    exact hb
theorem Inv.stkFree (I : Inv X pins σ H s) : ∀ b ∈ frs X.stack, H b = none := fun b hb => by
  rcases List.mem_cons.mp (I.stkSub b hb) with e | hb
  . rw [e]; exact I.free
  . obtain ⟨_, o, ho, _⟩ := I.ok.funs.mem hb
    exact I.base.free b o ho (I.ok.frf b hb) fun z => I.ok.exfs b z hb
theorem Inv.step {g' : Array GenState} {t' : Nat} {d' : Drawn} {ch : List Addr} (I : Inv X pins σ H s)
    (hch : ∀ b ∈ ch, (b ∈ X.ex \/ X.s₀.heap.objs.size <= b) /\ b ≠ X.env.locals /\ (∀ x c, X.env.cells.lookup x = some c -> c ≠ b) /\ ∀ p ∈ X.pn ++ pins, p.1 ≠ b)
    (keep : ∀ b o, b ≠ X.env.locals -> b ∉ X.fs -> b ∉ ch -> s.heap.get? b = some o -> H b = none -> h'.get? b = some o)
    (slot : ∀ b o, b ≠ X.env.locals -> b ∈ X.fs -> b ∉ ch -> s.heap.get? b = some o -> H b = none -> ∃ sl, h'.get? b = some { o with slots := sl }) (free : ∀ b o, b ∉ ch -> s.heap.get? b = some o -> H b = none -> H' b = none)
    (there : ∀ b o, b ∉ ch -> s.heap.get? b = some o -> ∃ o', h'.get? b = some o')
    (tups : ∀ b xs, H b = some (.tup xs) -> H' b = some (.tup xs)) (frzs : ∀ b o u, H b = some (.frz o u) -> H' b = some (.frz o u)) (tbls : ∀ b ps, H b = some (.tbl ps) -> ∃ more, H' b = some (.tbl (ps ++ more)))
    (ns : ∀ m, s.heap.Ns X.env.locals m -> h'.Ns X.env.locals m) (hok : HOk X.prog X.w H' h') (hg : AllBare g') :
    Inv X pins σ H' { s with heap := h', gens := g', drawn := d', toks := t' } := by
  have neL : ∀ b o, X.s₀.heap.get? b = some o -> b ≠ X.env.locals := fun b o e => Nat.ne_of_lt (Nat.lt_of_lt_of_le (Heap.lt_size e) I.ok.above)
  have neC : ∀ b o, X.s₀.heap.get? b = some o -> b ∉ X.ex -> b ∉ ch := fun b o e hx hb => by
    rcases (hch b hb).1 with z | z
    . exact hx z
    . exact absurd (Nat.lt_of_lt_of_le (Heap.lt_size e) z) (Nat.lt_irrefl _)
  have cellK : ∀ x c, X.env.cells.lookup x = some c -> ∀ v, s.heap.IsCell c v -> h'.IsCell c v := fun x c e v ⟨o, ho, hd⟩ => by
    have nch : c ∉ ch := fun z => (hch c z).2.2.1 x c e rfl
    by_cases hc : c ∈ X.fs
    . obtain ⟨sl, q⟩ := slot c o (I.cne x c e) hc nch ho (I.freeC x c e)
      exact ⟨_, q, hd⟩
    . exact ⟨o, keep c o (I.cne x c e) hc nch ho (I.freeC x c e), hd⟩
  refine ⟨I.ok, I.os, hg, ⟨fun b o e n hb hx => ?_, fun b o e n hb hx => ?_, fun b o e n hx => ?_, fun b o e hx => ?_, fun b xs e => tups b xs (I.base.tups b xs e), fun b o xs e => frzs b o xs (I.base.frzs b o xs e), fun b ps e => ?_⟩, ?_, fun x c e => ?_, ?_, fun x c e => ?_, fun p hp => ?_, hok, I.len⟩
  . exact keep b o (neL b o e) hb (neC b o e hx) (I.base.keep b o e n hb hx) (I.base.free b o e n hx)
  . obtain ⟨sl, e1⟩ := I.base.slot b o e n hb hx
    obtain ⟨sl', e2⟩ := slot b _ (neL b o e) hb (neC b o e hx) e1 (I.base.free b o e n hx)
    exact ⟨sl', e2⟩
  . obtain ⟨o', e1⟩ := I.base.there b o e hx
    exact free b o' (neC b o e hx) e1 (I.base.free b o e n hx)
  . obtain ⟨o', e1⟩ := I.base.there b o e hx
    exact there b o' (neC b o e hx) e1
  . obtain ⟨m1, e1⟩ := I.base.tbls b ps e
    obtain ⟨m2, e2⟩ := tbls b _ e1
    exact ⟨m1 ++ m2, by rw [e2, Array.append_assoc]⟩
  . obtain ⟨m, hn, hl⟩ := I.loc
    refine ⟨m, ns m hn, fun i x v e1 e2 e3 => ?_⟩
    obtain ⟨u, r, l⟩ := hl i x v e1 e2 e3
    refine ⟨u, r, ?_⟩
    rcases l with l | ⟨k, c, e, z⟩
    . exact .inl l
    . exact .inr ⟨k, c, e, cellK x c e _ z⟩
  . obtain ⟨v, z⟩ := I.cell x c e
    exact ⟨v, cellK x c e v z⟩
  . obtain ⟨m, ⟨o, _, _, ho, _⟩, _⟩ := I.loc
    exact free _ o (fun z => (hch _ z).2.1 rfl) ho I.free
  . obtain ⟨v, o, ho, hd⟩ := I.cell x c e
    exact free c o (fun z => (hch c z).2.2.1 x c e rfl) ho (I.freeC x c e)
  . obtain ⟨e, n, ne, nf, d⟩ := I.pin p hp
    have nch : p.1 ∉ ch := fun z => (hch p.1 z).2.2.2 p hp rfl
    exact ⟨keep p.1 p.2 ne nf nch e n, free p.1 p.2 nch e n, ne, nf, d⟩
theorem Inv.un {t' : Nat} (I : Inv X pins σ H s) (u : Un X.fs [] H H' s.heap h') (hok : HOk X.prog X.w H' h') : Inv X pins σ H' { s with heap := h', toks := t' } := by
  obtain ⟨m, ⟨o, es, ep, ho, r⟩, _⟩ := id I.loc
  obtain ⟨sl, hL⟩ := u.any ho I.free (by simp)
  exact I.step (g' := s.gens) (d' := s.drawn) (ch := []) (fun _ z => nomatch z) (fun b o _ hb _ e n => u.keep b o e n hb (by simp)) (fun b o _ hb _ e n => u.slot b o e n hb (by simp)) (fun b o _ e n => u.free b o e n (by simp)) (fun b o _ e => u.there b o e (by simp)) u.tups u.frzs u.tbls (fun m' hm => by
    obtain ⟨o', es', ep', ho', r'⟩ := hm
    rw [ho] at ho'; cases ho'
    exact ⟨_, es', ep', hL, r'⟩) hok I.bare
theorem Inv.call {g' : Array GenState} {t' : Nat} {d' : Drawn} {ch : List Addr} (I : Inv X pins σ H s) (u : Un (frs X.stack) ch H H' s.heap h') (hok : HOk X.prog X.w H' h') (hg : AllBare g')
    (hch : ∀ b ∈ ch, (b ∈ X.ex \/ X.s₀.heap.objs.size <= b) /\ b ≠ X.env.locals /\ (∀ x c, X.env.cells.lookup x = some c -> c ≠ b) /\ ∀ p ∈ X.pn ++ pins, p.1 ≠ b) :
    Inv X pins σ H' { s with heap := h', gens := g', drawn := d', toks := t' } := by
  obtain ⟨m, ⟨o, es, ep, ho, r⟩, _⟩ := id I.loc
  obtain ⟨sl, hL⟩ := u.any ho I.free fun z => (hch _ z).2.1 rfl
  exact I.step (ch := ch) hch (fun b o hL hb hc e n => u.keep b o e n (fun z => (List.mem_cons.mp (I.stkSub b z)).elim hL hb) hc) (fun b o _ _ hc e n => u.any e n hc) (fun b o hc e n => u.free b o e n hc) (fun b o hc e => u.there b o e hc) u.tups u.frzs u.tbls (fun m' hm => by
    obtain ⟨o', es', ep', ho', r'⟩ := hm
    rw [ho] at ho'; cases ho'
    exact ⟨_, es', ep', hL, r'⟩) hok hg
theorem Inv.turned {t' : Nat} {it : Addr} (I : Inv X pins σ H s) (k : ∀ b o, b ≠ it -> s.heap.get? b = some o -> h'.get? b = some o) (hn : H it = none) (hL : it ≠ X.env.locals)
    (h1 : it ∈ X.ex \/ X.s₀.heap.objs.size <= it) (h2 : ∀ x c, X.env.cells.lookup x = some c -> c ≠ it) (h3 : ∀ p ∈ X.pn ++ pins, p.1 ≠ it) : Inv X pins σ H { s with heap := h', toks := t' } := by
  have nit : ∀ b u, H b = some u -> b ≠ it := fun b u e z => by rw [z, hn] at e; cases e
  refine I.step (g' := s.gens) (d' := s.drawn) (ch := [it]) (fun b hb => ?_) (fun b o _ _ hc e _ => k b o (fun z => hc (by simp [z])) e) (fun b o _ _ hc e _ => ⟨o.slots, k b o (fun z => hc (by simp [z])) e⟩) (fun _ _ _ _ n => n)
    (fun b o hc e => ⟨o, k b o (fun z => hc (by simp [z])) e⟩) (fun _ _ e => e) (fun _ _ _ e => e) (fun b ps e => ⟨#[], by rw [e]; simp⟩) (fun m hm => ?_) (fun b u e => ?_) I.bare
  . have e : b = it := by simpa using hb
    subst e
    exact ⟨h1, hL, h2, h3⟩
  . obtain ⟨o, es, ep, ho, r⟩ := hm
    exact ⟨o, es, ep, k _ o (Ne.symm hL) ho, r⟩
  . refine (I.hok b u e).stay (fun c v hc q => k c v ?_ q) (fun _ q => q) fun _ _ q => q
    rcases hc with z | z
    . rw [z]; exact nit b u e
    . exact nit c _ z
theorem Inv.tok (I : Inv X pins σ H s) (t : Nat) : Inv X pins σ H { s with toks := t } := I.un (h' := s.heap) (t' := t) Un.refl I.hok
theorem Inv.kept {t' : Nat} (I : Inv X pins σ H s) (k : ∀ b u, s.heap.get? b = some u -> h'.get? b = some u) : Inv X pins σ H { s with heap := h', toks := t' } := I.un (Un.kept k) (I.hok.kept k)
theorem Inv.laid {a : Addr} {o : HO} {t' : Nat} (I : Inv X pins σ H s) (k : ∀ b u, s.heap.get? b = some u -> h'.get? b = some u) (hp : s.heap.objs.size <= a) (new : ObjOk X.prog X.w (upd H a o) h' a o) :
    Inv X pins σ (upd H a o) { s with heap := h', toks := t' } := I.un (Un.laid k hp (I.hok.fresh hp)) (I.hok.laid k hp new)
theorem Inv.write {x e : Addr} {o : HO} {t' : Nat} (I : Inv X pins σ H s) (mu : Mut (H x)) (he : e = x \/ H e = some (.own x)) (k : ∀ b u, b ≠ e -> s.heap.get? b = some u -> h'.get? b = some u) (heo : ∃ u, h'.get? e = some u)
    (new : ObjOk X.prog X.w (upd H x o) h' x o) : Inv X pins σ (upd H x o) { s with heap := h', toks := t' } := I.un (Un.write mu he k heo) (I.hok.write mu he k heo new)
theorem Inv.weak {σ' : List (Option V)} (I : Inv X pins σ H s) (hl : σ'.length = σ.length) (w : ∀ (i : Nat) v, σ'[i]? = some (some v) -> σ[i]? = some (some v)) : Inv X pins σ' H s :=
  ⟨I.ok, I.os, I.bare, I.base, let ⟨m, hn, hl'⟩ := I.loc; ⟨m, hn, fun i x v e1 e2 e3 => hl' i x v e1 (w i v e2) e3⟩, I.cell, I.free, I.freeC, I.pin, I.hok, hl.trans I.len⟩
theorem Inv.pins_of {pins' : List (Addr × Obj)} (I : Inv X pins σ H s) (h : ∀ p ∈ pins', s.heap.get? p.1 = some p.2 /\ H p.1 = none /\ p.1 ≠ X.env.locals /\ p.1 ∉ X.fs /\ ∀ v, p.2.data ≠ .cell v) : Inv X pins' σ H s :=
  ⟨I.ok, I.os, I.bare, I.base, I.loc, I.cell, I.free, I.freeC, fun p hp => (List.mem_append.mp hp).elim (fun z => I.pin p (List.mem_append_left _ z)) (h p), I.hok, I.len⟩
theorem nodup_ix {N : List Str} (hN : N.Nodup) {i j : Nat} {x : Str} (a : N[i]? = some x) (b : N[j]? = some x) : i = j := by
  obtain ⟨h1, e1⟩ := List.getElem?_eq_some_iff.mp a
  obtain ⟨h2, e2⟩ := List.getElem?_eq_some_iff.mp b
  exact (List.getElem_inj hN).mp (e1.trans e2.symm)
theorem store_ok2 {M : Model} {A : Around} {E : Value -> Shared -> Prop} {i : Nat} {x : Str} {v : V} {u : Value} {Q : Unit -> Shared -> Prop} (I : Inv X pins σ H s) (hN : X.N.Nodup) (hi : X.N[i]? = some x) (hx : Loc X.env.scope x) (r : RelV v u)
    (h : ∀ s', Inv X pins (σ.set i (some v)) H s' -> (∃ a, Heap.SameBut a s.heap s'.heap /\ (a = X.env.locals \/ X.env.cells.lookup x = some a)) -> Q () s') (hf : X.fn x = true \/ X.env.scope.names.lookup x = some .local := by first | exact .inl rfl | exact .inr rfl | assumption) : wpAny M A (storeName X.env x u) Q E s := by
  obtain ⟨m, hn, hl⟩ := id I.loc
  have hcls : (X.env.scope.kind == .class || (X.env.scope.kind == .module && X.env.locals != X.env.globals)) = false := by rw [I.ok.kind]; rfl
  have hiσ : i < σ.length := by rw [I.len]; exact (List.getElem?_eq_some_iff.mp hi).1
  have cne := I.cne
  have tracked : ∀ {a : Addr} {h' : Heap}, (∃ o, s.heap.get? a = some o /\ H a = none) -> Heap.SameBut a s.heap h' -> HOk X.prog X.w H h' := fun {a h'} ha hs b ob e => by
    obtain ⟨_, _, hfree⟩ := ha
    refine (I.hok b ob e).stay (fun c w' hc q => (hs.2 c ?_).trans q) (fun _ q => q) fun _ _ q => q
    rintro rfl
    rcases hc with rfl | hc
    . rw [hfree] at e; cases e
    . rw [hfree] at hc; cases hc
  rcases hx with hk | hk
  . refine wpAny_storeName_local hk hn (fun h' hn' hs => ?_) hcls
    obtain ⟨oL, _, _, hoL, _⟩ := id hn
    refine h _ ⟨I.ok, I.os, I.bare, ⟨fun b o e n hb hx => ?_, fun b o e n hb hx => ?_, I.base.free, fun b o e hx => ?_, I.base.tups, I.base.frzs, I.base.tbls⟩, ⟨_, hn', fun j y v' e1 e2 e3 => ?_⟩, fun y c e => ?_, I.free, I.freeC, fun p hp => ?_, tracked ⟨oL, hoL, I.free⟩ hs, by simpa using I.len⟩ ⟨_, hs, .inl rfl⟩
    . exact (hs.2 b (Nat.ne_of_lt (Nat.lt_of_lt_of_le (Heap.lt_size e) I.ok.above))).trans (I.base.keep b o e n hb hx)
    . obtain ⟨sl, e1⟩ := I.base.slot b o e n hb hx
      exact ⟨sl, (hs.2 b (Nat.ne_of_lt (Nat.lt_of_lt_of_le (Heap.lt_size e) I.ok.above))).trans e1⟩
    . obtain ⟨o', e1⟩ := I.base.there b o e hx
      exact ⟨o', (hs.2 b (Nat.ne_of_lt (Nat.lt_of_lt_of_le (Heap.lt_size e) I.ok.above))).trans e1⟩
    . by_cases hj : j = i
      . subst hj
        rw [hi] at e1; cases e1
        rw [List.getElem?_set_self hiσ] at e2
        cases e2
        exact ⟨u, r, .inl ⟨hk, by simp⟩⟩
      . rw [List.getElem?_set_ne (Ne.symm hj)] at e2
        obtain ⟨u', r', q⟩ := hl j y v' e1 e2 e3
        refine ⟨u', r', ?_⟩
        rcases q with ⟨k, e⟩ | ⟨k, c, e, z⟩
        . refine .inl ⟨k, ?_⟩
          have : y ≠ x := fun e => hj (nodup_ix hN e1 (e ▸ hi))
          simp [this, e]
        . exact .inr ⟨k, c, e, z.sameBut hs (cne y c e)⟩
    . obtain ⟨w', z⟩ := I.cell y c e
      exact ⟨w', z.sameBut hs (cne y c e)⟩
    . obtain ⟨e, n, ne, nf, d⟩ := I.pin p hp
      exact ⟨(hs.2 p.1 ne).trans e, n, ne, nf, d⟩
  . have hfn : X.fn x = true := by
      rcases hf with z | z
      . exact z
      . rw [z] at hk; cases hk
    obtain ⟨c, hc⟩ := I.ok.has x (.inl hk)
    obtain ⟨w', z⟩ := I.cell x c hc
    refine wpAny_storeName_cell I.ok.kind hk hc z (fun h' hc' hs => ?_)
    obtain ⟨oc, hoc, hocd⟩ := id z
    refine h { s with heap := h' } ⟨I.ok, I.os, I.bare, ⟨fun b o e n hb hx => ?_, fun b o e n hb hx => ?_, I.base.free, fun b o e hx => ?_, I.base.tups, I.base.frzs, I.base.tbls⟩, ⟨m, hn.sameBut hs (Ne.symm (cne x c hc)), fun j y v' e1 e2 e3 => ?_⟩, fun y c' e => ?_, I.free, I.freeC, fun p hp => ?_, tracked ⟨oc, hoc, I.freeC x c hc⟩ hs, by simpa using I.len⟩ ⟨c, hs, .inr hc⟩
    . exact (hs.2 b (Nat.ne_of_lt (Nat.lt_of_lt_of_le (Heap.lt_size e) (I.ok.cab x c hfn hc)))).trans (I.base.keep b o e n hb hx)
    . obtain ⟨sl, e1⟩ := I.base.slot b o e n hb hx
      exact ⟨sl, (hs.2 b (Nat.ne_of_lt (Nat.lt_of_lt_of_le (Heap.lt_size e) (I.ok.cab x c hfn hc)))).trans e1⟩
    . obtain ⟨o', e1⟩ := I.base.there b o e hx
      exact ⟨o', (hs.2 b (Nat.ne_of_lt (Nat.lt_of_lt_of_le (Heap.lt_size e) (I.ok.cab x c hfn hc)))).trans e1⟩
    . by_cases hj : j = i
      . subst hj
        rw [hi] at e1; cases e1
        rw [List.getElem?_set_self hiσ] at e2
        cases e2
        exact ⟨u, r, .inr ⟨.inl hk, c, hc, hc'⟩⟩
      . rw [List.getElem?_set_ne (Ne.symm hj)] at e2
        obtain ⟨u', r', q⟩ := hl j y v' e1 e2 e3
        refine ⟨u', r', ?_⟩
        rcases q with q | ⟨k, c', e, z'⟩
        . exact .inl q
        . refine .inr ⟨k, c', e, z'.sameBut hs ?_⟩
          rintro rfl
          exact hj (nodup_ix hN e1 (I.ok.inj _ _ _ e hc ▸ hi))
    . by_cases hcc : c' = c
      . subst hcc; exact ⟨_, hc'⟩
      . obtain ⟨w2, z2⟩ := I.cell y c' e
        exact ⟨w2, z2.sameBut hs hcc⟩
    . obtain ⟨e, n, ne, nf, d⟩ := I.pin p hp
      refine ⟨(hs.2 p.1 ?_).trans e, n, ne, nf, d⟩
      intro q
      rw [q, hoc] at e
      have q' : oc = p.2 := Option.some.inj e
      exact d w' (by rw [<- q']; exact hocd)
theorem store_ok {M : Model} {A : Around} {E : Value -> Shared -> Prop} {i : Nat} {x : Str} {v : V} {u : Value} {Q : Unit -> Shared -> Prop} (I : Inv X pins σ H s) (hN : X.N.Nodup) (hi : X.N[i]? = some x) (hx : Loc X.env.scope x) (r : RelV v u)
    (h : ∀ s', Inv X pins (σ.set i (some v)) H s' -> Q () s') (hf : X.fn x = true \/ X.env.scope.names.lookup x = some .local := by first | exact .inl rfl | exact .inr rfl | assumption) : wpAny M A (storeName X.env x u) Q E s :=
  store_ok2 I hN hi hx r (fun s' I' _ => h s' I') hf
theorem Inv.call' {s' : Shared} {ch : List Addr} (I : Inv X pins σ H s) (ho : s'.os = s.os) (u : Un (frs X.stack) ch H H' s.heap s'.heap) (hok : HOk X.prog X.w H' s'.heap) (hg : AllBare s'.gens)
    (hch : ∀ b ∈ ch, (b ∈ X.ex \/ X.s₀.heap.objs.size <= b) /\ b ≠ X.env.locals /\ (∀ x c, X.env.cells.lookup x = some c -> c ≠ b) /\ ∀ p ∈ X.pn ++ pins, p.1 ≠ b) : Inv X pins σ H' s' := by
  obtain ⟨h', g', d', t', o'⟩ := s'
  have e : o' = s.os := ho
  subst e
  exact I.call (g' := g') (t' := t') (d' := d') u hok hg hch
end
abbrev XK := Value -> Option Addr -> Hp -> Prop
abbrev St := List (Option V)
abbrev VK := V -> Hp -> Prop
abbrev TE := St -> Hp -> VK -> Prop
abbrev TT := St -> Hp -> (Bool -> Hp -> Prop) -> Prop
abbrev TA := St -> Hp -> (List V -> Hp -> Prop) -> Prop
structure Ends where
  nx : St -> Hp -> Prop
  rt : VK
  bk : St -> Hp -> Prop := fun _ _ => False
  ct : St -> Hp -> Prop := fun _ _ => False
abbrev TS := Ends -> St -> Hp -> Prop
def EP (X : Cx) (pins : List (Addr × Obj)) (σ : St) (Q : VK) (u : Value) (s' : Shared) : Prop := ∃ v H', Inv X pins σ H' s' /\ RelV v u /\ Q v H'
def TP (X : Cx) (pins : List (Addr × Obj)) (σ : St) (Q : Bool -> Hp -> Prop) (b : Bool) (s' : Shared) : Prop := ∃ H', Inv X pins σ H' s' /\ Q b H'
def AP (X : Cx) (pins : List (Addr × Obj)) (σ : St) (Q : List V -> Hp -> Prop) (us : List Value) (s' : Shared) : Prop := ∃ vs H', Inv X pins σ H' s' /\ Vals vs us /\ Q vs H'
def SP (X : Cx) (pins : List (Addr × Obj)) (D : Ends) (f : Flow) (s' : Shared) : Prop :=
  match f with
  | .next => ∃ σ' H', Inv X pins σ' H' s' /\ D.nx σ' H'
  | .brk => ∃ σ' H', Inv X pins σ' H' s' /\ D.bk σ' H'
  | .cont => ∃ σ' H', Inv X pins σ' H' s' /\ D.ct σ' H'
  | .ret u => ∃ v σ' H', Inv X pins σ' H' s' /\ RelV v u /\ D.rt v H'
def PE (X : Cx) (e : Expr) (t : TE) : Prop :=
  ∀ (pins : List (Addr × Obj)) (s : Shared) (σ : St) (H : Hp) (Q : VK), Inv X pins σ H s -> t σ H Q -> wpAny (model X.prog X.w) X.A (eval e X.env) (EP X pins σ Q) X.xe s
def PT (X : Cx) (e : Expr) (t : TT) : Prop :=
  ∀ (pins : List (Addr × Obj)) (s : Shared) (σ : St) (H : Hp) (Q : Bool -> Hp -> Prop), Inv X pins σ H s -> t σ H Q -> wpAny (model X.prog X.w) X.A (isTrue e X.env (eval e X.env)) (TP X pins σ Q) X.xe s
def PW (X : Cx) (e : Expr) (t : TT) : Prop :=
  ∀ (whole : Sem Value) (pins : List (Addr × Obj)) (s : Shared) (σ : St) (H : Hp) (Q : Bool -> Hp -> Prop), Inv X pins σ H s -> t σ H Q -> wpAny (model X.prog X.w) X.A (isTrue e X.env whole) (TP X pins σ Q) X.xe s
theorem PW.pt {X : Cx} {e : Expr} {t : TT} (h : PW X e t) : PT X e t := h _
def PA (X : Cx) (es : List Expr) (t : TA) : Prop :=
  ∀ (pos : Pos) (pins : List (Addr × Obj)) (s : Shared) (σ : St) (H : Hp) (Q : List V -> Hp -> Prop), Inv X pins σ H s -> t σ H Q -> wpAny (model X.prog X.w) X.A (spliced (backTo pos (starEach es X.env))) (AP X pins σ Q) X.xe s
def PS (X : Cx) (st : Stmt) (t : TS) : Prop :=
  ∀ (pins : List (Addr × Obj)) (s : Shared) (σ : St) (H : Hp) (D : Ends), Inv X pins σ H s -> t D σ H -> wpAny (model X.prog X.w) X.A (exec st X.env) (SP X pins D) X.xe s
def PSs (X : Cx) (st : List Stmt) (t : TS) : Prop :=
  ∀ (pins : List (Addr × Obj)) (s : Shared) (σ : St) (H : Hp) (D : Ends), Inv X pins σ H s -> t D σ H -> wpAny (model X.prog X.w) X.A (execs st X.env) (SP X pins D) X.xe s
theorem thn {α : Type} {t : Sem α} {Q Q' : α -> Shared -> Prop} {M : Model} {A : Around} {E : Value -> Shared -> Prop} {s : Shared} (h : wpAny M A t Q E s) (hQ : ∀ a s, Q a s -> Q' a s) : wpAny M A t Q' E s := wpAny_mono h hQ fun _ _ x => x
section
variable {X : Cx}
def tVar (i : Nat) : TE := fun σ H Q => ∃ v, σ[i]? = some (some v) /\ Q v H
def tC (v : V) : TE := fun _ H Q => Q v H
theorem pe_var {i : Nat} {x : Str} {pos : Pos} (hN : X.N[i]? = some x) (hv : Vis X.env.scope x) (hd : (x == ("__debug__" : Str)) = false := by decide) (hcd : (x == ("__classdict__" : Str)) = false := by decide) : PE X (.Name x pos) (tVar i) := by
  intro pins s σ H Q I h
  obtain ⟨v, e, h⟩ := h
  obtain ⟨m, hn, hl⟩ := I.loc
  obtain ⟨u, r, l⟩ := hl i x v hN e hv
  have fin : EP X pins σ Q u s := ⟨v, H, I, r, h⟩
  rcases l with ⟨hk, hm⟩ | ⟨hk, c, hc, hcell⟩
  . exact wpAny_Name (wpAny_loadName_local I.ok.kind hk hn hm fin) hd
  . rcases hk with hk | hk
    . exact wpAny_Name (wpAny_loadName_cell I.ok.kind hk hc hcell fin) hd
    . exact wpAny_Name (wpAny_loadName_free I.ok.kind hk hc hcell fin hcd) hd
theorem pe_int {i j pos} : PE X (.Constant (.int i) j pos) (tC (.int i)) := fun _ _ _ H _ I h => wpAny_Constant_int ⟨.int i, H, I.tok _, ⟨_, rfl⟩, h⟩
theorem pe_bl {b j pos} : PE X (.Constant (.bool b) j pos) (tC (.bl b)) := fun _ _ _ H _ I h => Constant_bool ⟨.bl b, H, I, rfl, h⟩
def Gl (X : Cx) (x : Str) : Prop := X.env.kindOf x = some .globalImplicit
theorem ld_glob {E : Value -> Shared -> Prop} {pins : List (Addr × Obj)} {s : Shared} {σ : St} {H : Hp} {x : Str} {u : Value} {pos : Pos} {Q : Value -> Shared -> Prop} (I : Inv X pins σ H s) (hg : Gl X x) (hm : X.mg x = some u) (h : Q u s)
    (hd : (x == ("__debug__" : Str)) = false := by decide) : wpAny (model X.prog X.w) X.A (eval (.Name x pos) X.env) Q E s :=
  Calls.Name_function_global I.ok.kind hg (Calls.loadGlobal_global (by rw [I.ok.glob]; exact I.mod.glob.keeps I.bk) hm h) hd
theorem ld_blt {E : Value -> Shared -> Prop} {pins : List (Addr × Obj)} {s : Shared} {σ : St} {H : Hp} {x : Str} {u : Value} {pos : Pos} {Q : Value -> Shared -> Prop} (I : Inv X pins σ H s) (hg : Gl X x) (hm : X.mg x = none) (hv : bootBuiltins x = some u) (h : Q u s)
    (hn : x ≠ "__name__" := by decide) (hd : (x == ("__debug__" : Str)) = false := by decide) : wpAny (model X.prog X.w) X.A (eval (.Name x pos) X.env) Q E s := by
  obtain ⟨mb, h1, h2⟩ := I.mod.blt
  exact Calls.Name_function_global I.ok.kind hg (Calls.loadGlobal_builtin (by rw [I.ok.glob]; exact I.mod.glob.keeps I.bk) hm (by rw [I.ok.blt]; exact h1.keeps I.bk) ((h2 x hn).trans hv) h) hd
variable {a b : Expr} {ta tb : TE} {pos : Pos}
theorem nobehind (b : Expr) {op : CmpOp} (h : op ≠ .In) (h2 : op ≠ .NotIn) : behindInMarks op b = false := by
  have e1 : (op == CmpOp.In) = false := by cases op <;> first | rfl | exact absurd rfl h
  have e2 : (op == CmpOp.NotIn) = false := by cases op <;> first | rfl | exact absurd rfl h2
  cases b <;> simp [behindInMarks, e1, e2]
variable {tA tB' : TT} {rest : List Expr}
def tAnd (t u : TT) : TT := fun σ H Q => t σ H fun c H1 => if c = true then u σ H1 Q else Q false H1
def tOr (t u : TT) : TT := fun σ H Q => t σ H fun c H1 => if c = true then Q true H1 else u σ H1 Q
def tNot (t : TT) : TT := fun σ H Q => t σ H fun c H1 => Q (!c) H1
theorem pw_and1 (ha : PT X a tA) : PW X (.BoolOp .And [a] pos) tA := by
  intro wh pins s σ H Q I h
  refine isTrue_and (thn (ha pins s σ H Q I h) fun c s1 e => ?_)
  cases c with
  | true => exact isTrue_and_nil e
  | false => exact e
theorem pw_or1 (ha : PT X a tA) : PW X (.BoolOp .Or [a] pos) tA := by
  intro wh pins s σ H Q I h
  refine isTrue_or (thn (ha pins s σ H Q I h) fun c s1 e => ?_)
  cases c with
  | false => exact isTrue_or_nil e
  | true => exact e
theorem pw_and (ha : PT X a tA) (hb : PW X (.BoolOp .And (b :: rest) pos) tB') : PW X (.BoolOp .And (a :: b :: rest) pos) (tAnd tA tB') := by
  intro wh pins s σ H Q I h
  refine isTrue_and (thn (ha pins s σ H _ I h) fun c s1 ⟨H1, I1, q1⟩ => ?_)
  cases c with
  | true => exact hb wh pins s1 σ H1 Q I1 q1
  | false => exact ⟨H1, I1, q1⟩
theorem pw_or (ha : PT X a tA) (hb : PW X (.BoolOp .Or (b :: rest) pos) tB') : PW X (.BoolOp .Or (a :: b :: rest) pos) (tOr tA tB') := by
  intro wh pins s σ H Q I h
  refine isTrue_or (thn (ha pins s σ H _ I h) fun c s1 ⟨H1, I1, q1⟩ => ?_)
  cases c with
  | true => exact ⟨H1, I1, q1⟩
  | false => exact hb wh pins s1 σ H1 Q I1 q1
theorem pt_not (ha : PT X a tA) : PT X (.UnaryOp .Not a pos) (tNot tA) := by
  intro pins s σ H Q I h
  exact isTrue_not (ha pins s σ H (fun c H1 => Q (!c) H1) I h)
def tAndV (ta tb : TE) : TE := fun σ H Q => ta σ H fun x H1 => ∃ c, x = .bl c /\ if c = true then tb σ H1 Q else Q (.bl false) H1
def tNotV (ta : TE) : TE := fun σ H Q => ta σ H fun x H1 => ∃ c, x = .bl c /\ Q (.bl (!c)) H1
theorem pe_one {op} {t : TE} (h : PE X a t) : PE X (.BoolOp op [a] pos) t := fun pins s σ H Q I hw => BoolOp_one (h pins s σ H Q I hw)
theorem pe_and (ha : PE X a ta) (hb : PE X (.BoolOp .And (b :: rest) pos) tb) : PE X (.BoolOp .And (a :: b :: rest) pos) (tAndV ta tb) := by
  intro pins s σ H Q I h
  refine BoolOp_and (thn (ha pins s σ H _ I h) fun v s1 ⟨x, H1, I1, r1, q1⟩ => ?_)
  obtain ⟨c, rfl, q1⟩ := q1
  cases r1
  refine wpAny_truthy_bool ?_
  cases c with
  | true => exact hb pins s1 σ H1 Q I1 q1
  | false => exact ⟨.bl false, H1, I1, rfl, q1⟩
theorem pe_not (ha : PE X a ta) : PE X (.UnaryOp .Not a pos) (tNotV ta) := by
  intro pins s σ H Q I h
  refine UnaryOp_ (thn (ha pins s σ H _ I h) fun v s1 ⟨x, H1, I1, r1, q1⟩ => ?_)
  obtain ⟨c, rfl, q1⟩ := q1
  cases r1
  exact not_of (wpAny_truthy_bool ⟨.bl (!c), H1, I1, rfl, q1⟩)
def tIf (t : TT) (ta tb : TE) : TE := fun σ H Q => t σ H fun c H1 => if c = true then ta σ H1 Q else tb σ H1 Q
theorem pe_ifExp {c : Expr} (hc : PT X c tA) (ha : PE X a ta) (hb : PE X b tb) : PE X (.IfExp c a b pos) (tIf tA ta tb) := by
  intro pins s σ H Q I h
  refine wpAny_IfExp (thn (hc pins s σ H _ I h) fun d s1 ⟨H1, I1, q1⟩ => ?_)
  cases d with
  | true => exact ha pins s1 σ H1 Q I1 q1
  | false => exact hb pins s1 σ H1 Q I1 q1
end
def SqL (K : PySem.W.Frag) (H : Hp) (a : Addr) (xs : List V) : Prop :=
  Rd H a (.lst xs) \/
    ∃ (o : Obj) (its : Array Value) (n : Nat), K.lookup a = some o /\ o.cls = .type "list" /\ o.dict = none /\ o.data = .seq its n /\ its.size <= sizeLine /\ Vals xs its.toList
def SqT (K : PySem.W.Frag) (H : Hp) (a : Addr) (xs : List V) : Prop :=
  Rd H a (.tup xs) \/
    ∃ (o : Obj) (its : Array Value) (n : Nat), K.lookup a = some o /\ o.cls = .type "tuple" /\ o.dict = none /\ o.data = .seq its n /\ its.size <= sizeLine /\ Vals xs its.toList
def absV : Value -> Option V
  | .none => some .non
  | .bool b => some (.bl b)
  | .int i _ => some (.int i)
  | .str x _ => some (.str x)
  | .bytes b _ => some (.byt b)
  | .float b _ => some (.flt b)
  | .ref a => some (.ref a)
  | .type n => some (.ty n)
  | _ => none
theorem RelV.abs {x : V} {u : Value} (r : RelV x u) : absV u = some x := by
  cases x with
  | non => cases r; rfl
  | bl _ => cases r; rfl
  | int _ => obtain ⟨t, rfl⟩ := r; rfl
  | str _ => obtain ⟨t, rfl⟩ := r; rfl
  | byt _ => obtain ⟨t, rfl⟩ := r; rfl
  | flt _ => obtain ⟨t, rfl⟩ := r; rfl
  | ref _ => cases r; rfl
  | ty _ => cases r; rfl
theorem RelV.inj {x y : V} {u : Value} (r : RelV x u) (q : RelV y u) : x = y := Option.some.inj (r.abs.symm.trans q.abs)
theorem Vals.inj : ∀ {xs ys : List V} {us : List Value}, Vals xs us -> Vals ys us -> xs = ys
  | _, _, _, .nil, .nil => rfl
  | _, _, _, .cons r t, .cons r' t' => by rw [r.inj r', Vals.inj t t']
section
variable {X : Cx} {pins : List (Addr × Obj)} {σ : St} {H : Hp} {s : Shared} {a : Addr} {xs ys : List V}
theorem SqL.of {K : PySem.W.Frag} (h : H a = some (.lst xs)) : SqL K H a xs := .inl (.inl h)
theorem SqT.of {K : PySem.W.Frag} (h : H a = some (.tup xs)) : SqT K H a xs := .inl (.inl h)
theorem Inv.list (I : Inv X pins σ H s) (h : SqL X.K H a xs) : ∃ its : List Value, Vals xs its /\ PlainL s.heap a its.toArray /\ xs.length <= sizeLine := by
  rcases h with h | ⟨o, its, n, hk, hc, hd, hs, hz, r⟩
  . obtain ⟨z, its, n, r, e⟩ := h.ok I.hok
    exact ⟨its, r, ⟨_, n, e, rfl, rfl, rfl⟩, z⟩
  . refine ⟨its.toList, r, ⟨o, n, I.kIn a o hk, hc, hd, by simpa using hs⟩, ?_⟩
    have e := r.length
    simp only [Array.length_toList] at e
    omega
theorem Inv.tuple (I : Inv X pins σ H s) (h : SqT X.K H a xs) : ∃ its : List Value, Vals xs its /\ IsTup s.heap a its.toArray /\ xs.length <= sizeLine := by
  rcases h with h | ⟨o, its, n, hk, hc, hdd, hs, hz, r⟩
  . obtain ⟨z, its, r, p⟩ := h.ok I.hok
    exact ⟨its, r, p.tup, z⟩
  . refine ⟨its.toList, r, ⟨o, I.kIn a o hk, hc, n, by simpa using hs⟩, ?_⟩
    have e := r.length
    simp only [Array.length_toList] at e
    omega
theorem Inv.tupleN (I : Inv X pins σ H s) (h : SqT X.K H a xs) : ∃ its : List Value, Vals xs its /\ IsTupN s.heap a its.toArray /\ xs.length <= sizeLine := by
  rcases h with h | ⟨o, its, n, hk, hc, hdd, hs, hz, r⟩
  . obtain ⟨z, its, r, p⟩ := h.ok I.hok
    exact ⟨its, r, p, z⟩
  . refine ⟨its.toList, r, ⟨o, I.kIn a o hk, hc, ⟨n, by simpa using hs⟩, hdd⟩, ?_⟩
    have e := r.length
    simp only [Array.length_toList] at e
    omega
theorem Inv.list_inj (I : Inv X pins σ H s) (h : SqL X.K H a xs) (h' : SqL X.K H a ys) : xs = ys := by
  obtain ⟨its, r, ⟨o, n, e, _, _, d⟩, _⟩ := I.list h
  obtain ⟨its', r', ⟨o', n', e', _, _, d'⟩, _⟩ := I.list h'
  rw [e] at e'; cases e'
  rw [d] at d'
  injection d' with d1 _
  have : its = its' := by simpa using congrArg Array.toList d1
  subst this
  exact r.inj r'
theorem Inv.tuple_inj (I : Inv X pins σ H s) (h : SqT X.K H a xs) (h' : SqT X.K H a ys) : xs = ys := by
  obtain ⟨its, r, ⟨o, e, _, n, d⟩, _⟩ := I.tuple h
  obtain ⟨its', r', ⟨o', e', _, n', d'⟩, _⟩ := I.tuple h'
  rw [e] at e'; cases e'
  rw [d] at d'
  injection d' with d1 _
  have : its = its' := by simpa using congrArg Array.toList d1
  subst this
  exact r.inj r'
end
abbrev Cx.wish (X : Cx) (E : Value -> Shared -> Prop) : Cx := { X with xe := E }
abbrev Cx.nox (X : Cx) : Cx := X.wish fun _ _ => False
theorem Cx.Ok.wish {X : Cx} (ok : X.Ok) (E : Value -> Shared -> Prop) : (X.wish E).Ok :=
  ⟨ok.mod, ok.kind, ok.glob, ok.blt, ok.above, ok.inj, ok.has, ok.cab, ok.hd, ok.frames, ok.stk, ok.exf, ok.bs, ok.bsz, ok.noex, ok.exfs, ok.funs, ok.frf⟩
theorem Cx.Ok.unwish {X : Cx} {E : Value -> Shared -> Prop} (ok : (X.wish E).Ok) : X.Ok :=
  ⟨ok.mod, ok.kind, ok.glob, ok.blt, ok.above, ok.inj, ok.has, ok.cab, ok.hd, ok.frames, ok.stk, ok.exf, ok.bs, ok.bsz, ok.noex, ok.exfs, ok.funs, ok.frf⟩
section
variable {X : Cx} {pins : List (Addr × Obj)} {σ : St} {H : Hp} {s : Shared} {E : Value -> Shared -> Prop}
theorem Inv.wish (I : Inv X pins σ H s) (E : Value -> Shared -> Prop) : Inv (X.wish E) pins σ H s := ⟨I.ok.wish E, I.os, I.bare, I.base, I.loc, I.cell, I.free, I.freeC, I.pin, I.hok, I.len⟩
theorem Inv.unwish (I : Inv (X.wish E) pins σ H s) : Inv X pins σ H s := ⟨I.ok.unwish, I.os, I.bare, I.base, I.loc, I.cell, I.free, I.freeC, I.pin, I.hok, I.len⟩
theorem SP.unwish {D : Ends} {f : Flow} {s' : Shared} (h : SP (X.wish E) pins D f s') : SP X pins D f s' := by
  cases f with
  | next => obtain ⟨σ', H', I, q⟩ := h; exact ⟨σ', H', I.unwish, q⟩
  | brk => obtain ⟨σ', H', I, q⟩ := h; exact ⟨σ', H', I.unwish, q⟩
  | cont => obtain ⟨σ', H', I, q⟩ := h; exact ⟨σ', H', I.unwish, q⟩
  | ret u => obtain ⟨v, σ', H', I, r, q⟩ := h; exact ⟨v, σ', H', I.unwish, r, q⟩
theorem PSs.nox {st : List Stmt} {t : TS} (h : PSs X.nox st t) : PSs X st t := fun pins s σ H D I hw =>
  wpAny_mono (h pins s σ H D (I.wish _) hw) (fun _ _ q => q.unwish) fun _ _ z => False.elim z
end
section
variable {X : Cx} {st : Stmt} {rest : List Stmt} {t u : TS} {e : Expr} {te : TE} {pos : Pos}
def tNext : TS := fun D σ H => D.nx σ H
def tSeq (t u : TS) : TS := fun D σ H => t { D with nx := u D } σ H
theorem pss_nil : PSs X [] tNext := fun _ _ σ H _ I h => wpAny_execs_nil ⟨σ, H, I, h⟩
theorem pss_cons (h1 : PS X st t) (h2 : PSs X rest u) : PSs X (st :: rest) (tSeq t u) := by
  intro pins s σ H D I h
  refine wpAny_execs_cons (thn (h1 pins s σ H { D with nx := u D } I h) fun f s1 q => ?_)
  cases f with
  | next =>
    obtain ⟨σ', H', I', q⟩ := q
    exact h2 pins s1 σ' H' D I' q
  | ret v => exact q
  | brk => exact q
  | cont => exact q
theorem pss_one (h1 : PS X st t) : PSs X [st] t := by
  intro pins s σ H D I h
  refine wpAny_execs_cons (thn (h1 pins s σ H D I h) fun f s1 q => ?_)
  cases f with
  | next => exact wpAny_execs_nil q
  | ret v => exact q
  | brk => exact q
  | cont => exact q
theorem Inv.quiet {pins : List (Addr × Obj)} {σ : St} {H : Hp} {s : Shared} (I : Inv X pins σ H s) : interactive X.env = false := by simp [interactive, I.ok.kind]
def tDrop (te : TE) : TS := fun D σ H => te σ H fun _ H1 => D.nx σ H1
theorem ps_expr (he : PE X e te) (hs : swapsWith e none pos.line X.env = pure false := by rfl) : PS X (.Expr e pos) (tDrop te) := by
  intro pins s σ H D I h
  exact wpAny_Expr_any (thn (he pins s σ H _ I h) fun v s1 ⟨x, H1, I1, r1, q1⟩ => ⟨σ, H1, I1, q1⟩) I.quiet hs
def tRet (te : TE) : TS := fun D σ H => te σ H D.rt
theorem ps_ret (he : PE X e te) : PS X (.Return (some e) pos) (tRet te) := by
  intro pins s σ H D I h
  exact wpAny_Return_some (thn (he pins s σ H _ I h) fun v s1 ⟨x, H1, I1, r1, q1⟩ => ⟨x, σ, H1, I1, r1, q1⟩)
def tIfS (c : TT) (t u : TS) : TS := fun D σ H => c σ H fun b H1 => if b = true then t D σ H1 else u D σ H1
theorem ps_if {c : Expr} {a b : List Stmt} {tc : TT} (hc : PT X c tc) (ha : PSs X a t) (hb : PSs X b u) : PS X (.If c a b pos) (tIfS tc t u) := by
  intro pins s σ H D I h
  refine wpAny_If (thn (hc pins s σ H _ I h) fun d s1 ⟨H1, I1, q1⟩ => ?_)
  cases d with
  | true => exact ha pins s1 σ H1 D I1 q1
  | false => exact hb pins s1 σ H1 D I1 q1
end
abbrev TG := V -> St -> Hp -> (St -> Hp -> Prop) -> Prop
abbrev TGs := List V -> St -> Hp -> (St -> Hp -> Prop) -> Prop
def PG (X : Cx) (target : Expr) (t : TG) : Prop :=
  ∀ (pins : List (Addr × Obj)) (s : Shared) (σ : St) (H : Hp) (v : V) (u : Value) (Q : St -> Hp -> Prop), Inv X pins σ H s -> RelV v u -> t v σ H Q ->
    wpAny (model X.prog X.w) X.A (assign target X.env u) (fun _ s' => ∃ σ' H', Inv X pins σ' H' s' /\ Q σ' H') X.xe s
def PGs (X : Cx) (ts : List Expr) (t : TGs) : Prop :=
  ∀ (pins : List (Addr × Obj)) (s : Shared) (σ : St) (H : Hp) (vs : List V) (us : List Value) (Q : St -> Hp -> Prop), Inv X pins σ H s -> Vals vs us -> t vs σ H Q ->
    wpAny (model X.prog X.w) X.A (assignInOrder ((assignEach ts X.env).map (·.2)) us) (fun _ s' => ∃ σ' H', Inv X pins σ' H' s' /\ Q σ' H') X.xe s
abbrev TSet := V -> V -> V -> Hp -> (Hp -> Prop) -> Prop
def PSet (X : Cx) (t : TSet) : Prop :=
  ∀ (pins : List (Addr × Obj)) (s : Shared) (σ : St) (H : Hp) (o i v : V) (ov iv u : Value) (Q : Hp -> Prop), Inv X pins σ H s -> RelV o ov -> RelV i iv -> RelV v u -> t o i v H Q ->
    wpAny (model X.prog X.w) X.A (setItem ov iv u) (fun _ s' => ∃ H', Inv X pins σ H' s' /\ Q H') X.xe s
section
variable {X : Cx} {pos : Pos}
def gName (i : Nat) : TG := fun v σ H Q => Q (σ.set i (some v)) H
theorem pg_name {i : Nat} {x : Str} (hN : X.N.Nodup) (hi : X.N[i]? = some x) (hx : Loc X.env.scope x) (hf : X.fn x = true \/ X.env.scope.names.lookup x = some .local := by first | exact .inl rfl | exact .inr rfl | assumption) : PG X (.Name x pos) (gName i) := by
  intro pins s σ H v u Q I r h
  exact wpAny_assign_Name (store_ok I hN hi hx r (fun s' I' => ⟨_, H, I', h⟩) hf)
def gNil : TGs := fun vs σ H Q => vs = [] /\ Q σ H
def gCons (t : TG) (u : TGs) : TGs := fun vs σ H Q => ∃ v r, vs = v :: r /\ t v σ H fun σ' H' => u r σ' H' Q
theorem pgs_nil : PGs X [] gNil := by
  intro pins s σ H vs us Q I r h
  obtain ⟨e, h⟩ := h
  subst e
  cases r
  exact assignInOrder_nil ⟨σ, H, I, h⟩
theorem pgs_cons {e : Expr} {es : List Expr} {t : TG} {u : TGs} (h1 : PG X e t) (h2 : PGs X es u)
    (hs : (assignEach (e :: es) X.env).map (·.2) = assign e X.env :: (assignEach es X.env).map (·.2) := by rfl) : PGs X (e :: es) (gCons t u) := by
  intro pins s σ H vs us Q I r h
  obtain ⟨v, vr, e1, h⟩ := h
  subst e1
  cases r with
  | cons r rr =>
    rw [hs]
    refine assignInOrder_cons (thn (h1 pins s σ H _ _ _ I r h) fun _ s1 ⟨σ1, H1, I1, q1⟩ => ?_)
    exact h2 pins s1 σ1 H1 _ _ Q I1 rr q1
def gTup (K : PySem.W.Frag) (n : Nat) (t : TGs) : TG := fun v σ H Q => ∃ a xs, v = .ref a /\ SqT K H a xs /\ xs.length = n /\ t xs σ H Q
theorem pg_tup {es : List Expr} {k : Nat} {t : TGs} {n : Nat} (hc : X.calm = true) (h : PGs X es t)
    (hn : (assignEach es X.env).length = n := by rfl) (hst : (assignEach es X.env).findIdx? (·.1) = none := by rfl) : PG X (.Tuple es k pos) (gTup X.K n t) := by
  intro pins s σ H v u Q I r hw
  obtain ⟨a, xs, e1, hq, hl, hw⟩ := hw
  subst e1
  cases r
  obtain ⟨its, rv, ht, hz⟩ := I.tuple hq
  refine assign_Tuple_tuple (I.ok.hd hc) ht (by simp [hn, <- hl, rv.length]) hst fun h' hx => ?_
  have I1 : Inv X pins σ H { s with heap := h' } := I.kept (t' := s.toks) fun b o e => hx b o (Nat.ne_of_lt (Heap.lt_size e)) e
  exact h pins _ σ H xs _ Q I1 (by simpa using rv) hw
def gSub (to ti : TE) (t : TSet) : TG := fun v σ H Q => to σ H fun o H1 => ti σ H1 fun i H2 => t o i v H2 fun H3 => Q σ H3
theorem pg_sub {o i : Expr} {to ti : TE} {t : TSet} (ho : PE X o to) (hi : PE X i ti) (hs : PSet X t)
    (ha : ∀ v, assign (.Subscript o i pos) X.env v = (do
      let ov <- holding [v] (eval o X.env)
      let iv <- holding [v, ov] (eval i X.env)
      standAt pos
      holding [v, ov, iv] (setItem ov iv v)
      release [v, ov, iv] []) := by intro _; rfl) : PG X (.Subscript o i pos) (gSub to ti t) := by
  intro pins s σ H v u Q I r h
  rw [ha]
  refine wpAny_bind (wpAny_holding (thn (ho pins s σ H _ I h) fun ov s1 ⟨x, H1, I1, r1, q1⟩ => ?_))
  refine wpAny_bind (wpAny_holding (thn (hi pins s1 σ H1 _ I1 q1) fun iv s2 ⟨y, H2, I2, r2, q2⟩ => ?_))
  refine wpAny_bind (wpAny_standAt (wpAny_bind (wpAny_holding (thn (hs pins s2 σ H2 x y v ov iv u _ I2 r1 r2 r q2) fun _ s3 ⟨H3, I3, q3⟩ => ?_))))
  exact wpAny_release ⟨σ, H3, I3, q3⟩
def tAsg (te : TE) (g : TG) : TS := fun D σ H => te σ H fun x H1 => g x σ H1 D.nx
theorem ps_asg {tg e : Expr} {te : TE} {g : TG} (he : PE X e te) (hg : PG X tg g) (hs : swapsWithSole [tg] e pos.line X.env = pure false := by rfl) (hw : swappedStores [tg] e X.env = pure none := by rfl)
    (h1 : (assignEach [tg] X.env).map (·.2) = [assign tg X.env] := by rfl) : PS X (.Assign [tg] e pos) (tAsg te g) := by
  intro pins s σ H D I h
  refine wpAny_Assign_stores (thn (he pins s σ H _ I h) fun v s1 ⟨x, H1, I1, r1, q1⟩ => ?_) hs hw
  rw [h1]
  exact thn (hg pins s1 σ H1 x v _ I1 r1 q1) fun _ s2 q => q
theorem ps_set {i : Nat} {x : Str} {e : Expr} {te : TE} {pos' : Pos} (hN : X.N.Nodup) (hi : X.N[i]? = some x) (hx : Loc X.env.scope x) (he : PE X e te) (hs : swapsWith e (some (.Name x pos')) pos.line X.env = pure false := by rfl) (hf : X.fn x = true \/ X.env.scope.names.lookup x = some .local := by first | exact .inl rfl | exact .inr rfl | assumption) :
    PS X (.Assign [.Name x pos'] e pos) (tAsg te (gName i)) := by
  intro pins s σ H D I h
  refine wpAny_Assign_Name (thn (he pins s σ H _ I h) fun v s1 ⟨y, H1, I1, r1, q1⟩ => ?_) hs
  exact store_ok I1 hN hi hx r1 (fun s2 I2 => ⟨_, H1, I2, q1⟩) hf
end
section
variable {X : Cx} {pos : Pos}
end
structure It where
  go : Nat -> Hp -> Prop
  yld : Nat -> Hp -> V -> Hp -> Prop
  stop : Nat -> Hp -> Prop
def FpOk (X : Cx) (pins : List (Addr × Obj)) (H : Hp) (b : Addr) : Prop :=
  H b = none /\ b ≠ X.env.locals /\ b ∉ X.fs /\ (b ∈ X.ex \/ X.s₀.heap.objs.size <= b) /\ (∀ x c, X.env.cells.lookup x = some c -> c ≠ b) /\ ∀ p ∈ X.pn ++ pins, p.1 ≠ b
theorem Inv.fpOk {X : Cx} {pins : List (Addr × Obj)} {σ : St} {H H' : Hp} {s : Shared} {b : Addr} (I : Inv X pins σ H s) (hb : s.heap.objs.size <= b) (hn : H' b = none) : FpOk X pins H' b := by
  refine ⟨hn, Nat.ne_of_gt (Nat.lt_of_lt_of_le I.lt hb), I.nofs hb, .inr (Nat.le_trans I.sz hb), fun x c e z => ?_, fun p hp z => ?_⟩
  . obtain ⟨v, q⟩ := I.cell x c e
    exact absurd (Nat.lt_of_lt_of_le q.lt (by rw [z]; exact hb)) (Nat.lt_irrefl _)
  . exact absurd (Nat.lt_of_lt_of_le (Heap.lt_size (I.pin p hp).1) (by rw [z]; exact hb)) (Nat.lt_irrefl _)
structure Turn (P : Program) (w : World) (K : PySem.W.Frag) (tg : Expr) (J : It) (fp : List Addr) (it : Addr) (tn : Nat -> Heap -> Prop) : Prop where
  mem : it ∈ fp
  obj : ∀ i h, tn i h -> ∀ b ∈ fp, ∃ o, h.get? b = some o /\ ∀ v, o.data ≠ .cell v
  keep : ∀ i h h', tn i h -> (∀ b ∈ fp, ∀ o, h.get? b = some o -> h'.get? b = some o) -> tn i h'
  item : ∀ (X : Cx), X.prog = P -> X.w = w -> X.K = K -> X.calm = true -> ∀ (i : Nat) (pins : List (Addr × Obj)) (s : Shared) (σ : St) (H : Hp) (E : Value -> Shared -> Prop), Inv X pins σ H s -> (∀ b ∈ fp, FpOk X pins H b) -> tn i s.heap -> J.go i H ->
    wpAny (model P w) X.A (pyNext (.ref it)) (fun r s1 => ∃ u, r = some u /\
      wpAny (model P w) X.A (letOwnedTupleGo tg (.ref it) u) (fun _ s2 => ∃ x H', Inv X pins σ H' s2 /\ RelV x u /\ J.yld i H x H' /\ tn (i + 1) s2.heap /\ ∀ b ∈ fp, H' b = none) E s1) E s
  done : ∀ (X : Cx), X.prog = P -> X.w = w -> X.K = K -> X.calm = true -> ∀ (i : Nat) (pins : List (Addr × Obj)) (s : Shared) (σ : St) (H : Hp) (E : Value -> Shared -> Prop), Inv X pins σ H s -> (∀ b ∈ fp, FpOk X pins H b) -> tn i s.heap -> J.stop i H ->
    wpAny (model P w) X.A (pyNext (.ref it)) (fun r s1 => r = none /\ Inv X pins σ H s1) E s
  self : ∀ (A : Around) (i : Nat) (s : Shared) (Q : Value -> Shared -> Prop) (E : Value -> Shared -> Prop), tn i s.heap -> Q (.ref it) s -> wpAny (model P w) A (pyIter (.ref it)) Q E s
abbrev TI := St -> Hp -> (It -> Hp -> Prop) -> Prop
def PIE (X : Cx) (pins : List (Addr × Obj)) (σ : St) (tg : Expr) (R : It -> Hp -> Prop) (itv : Value) (s2 : Shared) : Prop :=
  ∃ (it : Addr) (fp : List Addr) (tn : Nat -> Heap -> Prop) (J : It) (H' : Hp), itv = .ref it /\ Inv X pins σ H' s2 /\ Turn X.prog X.w X.K tg J fp it tn /\ tn 0 s2.heap /\ (∀ b ∈ fp, FpOk X pins H' b) /\ R J H'
def PI (X : Cx) (tg iter : Expr) (wi : TI) : Prop :=
  ∀ (pins : List (Addr × Obj)) (s : Shared) (σ : St) (H : Hp) (R : It -> Hp -> Prop), Inv X pins σ H s -> wi σ H R ->
    wpAny (model X.prog X.w) X.A (eval iter X.env) (fun v s1 => wpAny (model X.prog X.w) X.A (pyIter v) (PIE X pins σ tg R) X.xe s1) X.xe s
theorem go_of {M : Model} {A : Around} {E : Value -> Shared -> Prop} {s : Shared} {tg : Expr} {it : Addr} {u : Value} {o : Obj} {n : String} {vs : Array Value} {Q : Unit -> Shared -> Prop} (ho : s.heap.get? it = some o) (hc : o.cls = .type n) (hd : o.data = .fields vs)
    (hn : ["enumerate", "zip", "dict_itemiterator", "dict_reverseitemiterator", "odict_iterator", "itertools.zip_longest", "itertools.pairwise"].contains n = false) (hQ : Q () s) : wpAny M A (letOwnedTupleGo tg (.ref it) u) Q E s := by
  unfold letOwnedTupleGo
  cases tg <;> first
    | exact wpAny_pure hQ
    | (cases u <;> first
        | exact wpAny_pure hQ
        | (refine wpAny_bind (wpAny_load ho ?_)
           rw [hc, hd]
           show wpAny M A (if (["enumerate", "zip", "dict_itemiterator", "dict_reverseitemiterator", "odict_iterator", "itertools.zip_longest", "itertools.pairwise"].contains n && vs[0]? == some (rawInt _)) = true then _ else _) Q E s
           rw [if_neg (by intro h; rw [hn, Bool.false_and] at h; cases h)]
           exact wpAny_pure hQ))
def Itl (K : PySem.W.Frag) (a : Addr) : It :=
  ⟨fun i H => ∃ xs x, SqL K H a xs /\ xs[i]? = some x, fun i H x H' => H' = H /\ ∀ xs, SqL K H a xs -> xs[i]? = some x, fun i H => ∃ xs, SqL K H a xs /\ xs.length <= i⟩
def Itt (K : PySem.W.Frag) (a : Addr) : It :=
  ⟨fun i H => ∃ xs x, SqT K H a xs /\ xs[i]? = some x, fun i H x H' => H' = H /\ ∀ xs, SqT K H a xs -> xs[i]? = some x, fun i H => ∃ xs, SqT K H a xs /\ xs.length <= i⟩
def Itr (lo : Int) (n : Nat) : It := ⟨fun i _ => i < n, fun i H x H' => H' = H /\ x = .int (lo + i), fun i _ => n <= i⟩
theorem turn_list {P : Program} {w : World} {K : PySem.W.Frag} {tg : Expr} (a it : Addr) : Turn P w K tg (Itl K a) [it] it (fun i h => h.IsListIter it a i) where
  mem := by simp
  obj := fun i h st b hb => by
    have e : b = it := by simpa using hb
    subst e
    obtain ⟨o, e, c, d⟩ := st
    exact ⟨o, e, fun v z => by rw [d] at z; cases z⟩
  keep := fun i h h' st k => st.at fun o e => k it (by simp) o e
  item := by
    intro X hP hw hK hc i pins s σ H E I hf st hg
    subst hP hw hK
    obtain ⟨xs, x, hq, hx⟩ := hg
    obtain ⟨its, rv, p, hz⟩ := I.list hq
    obtain ⟨u, hu, ru⟩ := rv.get hx
    obtain ⟨f0, f1, f2, f3, f4, f5⟩ := hf it (by simp)
    refine wpAny_pyNext_list_item st p.isList (x := u) (by simpa using hu) fun h' st' sb => ?_
    have I1 : Inv X pins σ H { s with heap := h' } := I.turned (t' := s.toks) (fun b o hb e => (sb.2 b hb).trans e) f0 f1 f3 f4 f5
    obtain ⟨o, e, c, d⟩ := id st'
    exact ⟨u, rfl, go_of (s := { s with heap := h' }) e c d (by decide) ⟨x, H, I1, ru, ⟨rfl, fun ys hy => by rw [I.list_inj hy hq]; exact hx⟩, st', fun b hb => (hf b hb).1⟩⟩
  done := by
    intro X hP hw hK hc i pins s σ H E I hf st hg
    subst hP hw hK
    obtain ⟨xs, hq, hx⟩ := hg
    obtain ⟨its, rv, p, hz⟩ := I.list hq
    obtain ⟨f0, f1, f2, f3, f4, f5⟩ := hf it (by simp)
    have hl := rv.length
    exact wpAny_pyNext_list_end (I.ok.hd hc) st p.isList (by simp; omega) fun h' eb => ⟨rfl, I.turned (t' := s.toks) (fun b o hb e => eb b o hb e) f0 f1 f3 f4 f5⟩
  self := fun _ _ _ _ _ st h => wpAny_pyIter_listiter st h
theorem turn_tuple {P : Program} {w : World} {K : PySem.W.Frag} {tg : Expr} (a it : Addr) : Turn P w K tg (Itt K a) [it] it (fun i h => h.IsTupleIter it a i) where
  mem := by simp
  obj := fun i h st b hb => by
    have e : b = it := by simpa using hb
    subst e
    obtain ⟨o, e, c, d⟩ := st
    exact ⟨o, e, fun v z => by rw [d] at z; cases z⟩
  keep := fun i h h' st k => st.at fun o e => k it (by simp) o e
  item := by
    intro X hP hw hK hc i pins s σ H E I hf st hg
    subst hP hw hK
    obtain ⟨xs, x, hq, hx⟩ := hg
    obtain ⟨its, rv, p, hz⟩ := I.tuple hq
    obtain ⟨u, hu, ru⟩ := rv.get hx
    obtain ⟨f0, f1, f2, f3, f4, f5⟩ := hf it (by simp)
    refine wpAny_pyNext_tuple_item st (show s.heap.IsTuple a its.toArray from p) (x := u) (by simpa using hu) fun h' st' sb => ?_
    have I1 : Inv X pins σ H { s with heap := h' } := I.turned (t' := s.toks) (fun b o hb e => (sb.2 b hb).trans e) f0 f1 f3 f4 f5
    obtain ⟨o, e, c, d⟩ := id st'
    exact ⟨u, rfl, go_of (s := { s with heap := h' }) e c d (by decide) ⟨x, H, I1, ru, ⟨rfl, fun ys hy => by rw [I.tuple_inj hy hq]; exact hx⟩, st', fun b hb => (hf b hb).1⟩⟩
  done := by
    intro X hP hw hK hc i pins s σ H E I hf st hg
    subst hP hw hK
    obtain ⟨xs, hq, hx⟩ := hg
    obtain ⟨its, rv, p, hz⟩ := I.tuple hq
    obtain ⟨f0, f1, f2, f3, f4, f5⟩ := hf it (by simp)
    have hl := rv.length
    exact wpAny_pyNext_tuple_end (I.ok.hd hc) st (show s.heap.IsTuple a its.toArray from p) (by simp; omega) fun h' eb => ⟨rfl, I.turned (t' := s.toks) (fun b o hb e => eb b o hb e) f0 f1 f3 f4 f5⟩
  self := fun _ _ _ _ _ st h => wpAny_pyIter_tupleiter st h
theorem turn_range {P : Program} {w : World} {K : PySem.W.Frag} {tg : Expr} (it : Addr) (lo : Int) (n : Nat) : Turn P w K tg (Itr lo n) [it] it (fun i h => IsRangeIter h it (lo + (i : Nat) * 1) ((n : Int) - (i : Nat)) 1) where
  mem := by simp
  obj := fun i h st b hb => by
    have e : b = it := by simpa using hb
    subst e
    exact ⟨_, st, fun v z => by
      have z' : Data.fields _ = Data.cell v := z
      cases z'⟩
  keep := fun i h h' st k => k it (by simp) _ st
  item := by
    intro X hP hw hK hc i pins s σ H E I hf st hg
    subst hP hw hK
    obtain ⟨f0, f1, f2, f3, f4, f5⟩ := hf it (by simp)
    have W := Walks.range (prog := X.prog) (w := X.w) (I.ok.hd hc) it lo 1 n
    refine W.item i s _ _ hg st fun v h' tk hv st' kk => ?_
    obtain ⟨t, rfl⟩ := hv
    have I1 : Inv X pins σ H { s with heap := h', toks := tk } := I.turned (fun b o hb e => kk b o (by simpa using hb) e) f0 f1 f3 f4 f5
    refine ⟨_, rfl, go_of (s := { s with heap := h', toks := tk }) (n := "range_iterator") st' rfl rfl (by decide) ⟨.int (lo + i), H, I1, ⟨t, ?_⟩, ⟨rfl, rfl⟩, st', fun b hb => (hf b hb).1⟩⟩
    rw [Int.mul_one]
  done := by
    intro X hP hw hK hc i pins s σ H E I hf st hg
    subst hP hw hK
    obtain ⟨f0, f1, f2, f3, f4, f5⟩ := hf it (by simp)
    exact wpAny_pyNext_range_end (I.ok.hd hc) st (by have : n <= i := hg; omega) fun h' eb => ⟨rfl, I.turned (t' := s.toks) (fun b o hb e => eb b o hb e) f0 f1 f3 f4 f5⟩
  self := fun _ _ _ _ _ st h => wpAny_pyIter_rangeiter st h
section
variable {X : Cx} {tg : Expr}
theorem range_it {pins : List (Addr × Obj)} {σ : St} {H : Hp} {s : Shared} {R : It -> Hp -> Prop} {E : Value -> Shared -> Prop} {lo hi : Int} {t u v : Tok} {tk : Nat} (I : Inv X pins σ H s) (h1 : -(2 ^ 62) <= lo) (h2 : lo < 2 ^ 62) (h3 : -(2 ^ 62) <= hi) (h4 : hi < 2 ^ 62)
    (q : R (Itr lo (hi - lo).toNat) H) : wpAny (model X.prog X.w) X.A (pyIter (.ref s.heap.objs.size)) (PIE X pins σ tg R) E { s with heap := s.heap.push { cls := .type "range", data := .fields #[.int lo t, .int hi u, .int 1 v] }, toks := tk } := by
  refine wpAny_pyIter_range (IsRange.new ..) (small_one h1 h2 h3 h4) ?_
  have I1 : Inv X pins σ H { s with heap := s.heap.push { cls := .type "range", data := .fields #[.int lo t, .int hi u, .int 1 v] }, toks := tk } := I.kept fun b o e => Heap.get?_push_of_some _ e
  refine ⟨(s.heap.push { cls := .type "range", data := .fields #[.int lo t, .int hi u, .int 1 v] }).objs.size, [(s.heap.push { cls := .type "range", data := .fields #[.int lo t, .int hi u, .int 1 v] }).objs.size], _, _, H, rfl,
    I1.kept (t' := tk) fun b o e => Heap.get?_push_of_some _ e, turn_range _ lo (hi - lo).toNat, ?_, fun b hb => ?_, q⟩
  . have e1 : lo + ((0 : Nat) : Int) * 1 = lo := by simp
    have e2 : (((hi - lo).toNat : Nat) : Int) - ((0 : Nat) : Int) = Builtin.Range.rangeSize lo hi 1 := by rw [rangeSize_one]; split <;> omega
    show IsRangeIter _ _ (lo + ((0 : Nat) : Int) * 1) ((((hi - lo).toNat : Nat) : Int) - ((0 : Nat) : Int)) 1
    rw [e1, e2]
    exact Heap.get?_push_size _ rfl
  . have e : b = (s.heap.push { cls := .type "range", data := .fields #[.int lo t, .int hi u, .int 1 v] }).objs.size := by simpa using hb
    subst e
    exact I1.fpOk (Nat.le_refl _) (I1.hok.fresh (Nat.le_refl _))
def iRng1 (ta : TA) : TI := fun σ H R => ta σ H fun vs H1 => ∃ j : Int, vs = [.int j] /\ -(2 ^ 62) <= j /\ j < 2 ^ 62 /\ R (Itr 0 j.toNat) H1
theorem pi_range1 {a : Expr} {ta : TA} {p pos : Pos} (hg : Gl X "range") (hm : X.mg "range" = none) (ha : PA X [a] ta) (hs : starEach [a] X.env = [(false, eval a X.env)] := by rfl) : PI X tg (.Call (.Name "range" p) [a] [] pos) (iRng1 ta) := by
  intro pins s σ H R I h
  refine Call_ (ld_blt I hg hm boot_range (PyProof.Rows.callWith_type1 (thn (ha pos pins s σ H _ I h) fun us s1 ⟨vs, H1, I1, r1, q1⟩ => ?_) hs rfl))
  obtain ⟨j, e, q1, q2, q⟩ := q1
  subst e
  cases r1 with
  | cons r rr =>
    cases rr
    obtain ⟨t, rfl⟩ := r
    exact call_range_1 (range_it I1 (by omega) (by omega) q1 q2 (by simpa using q))
def tFor (wi : TI) (g : TG) (tb : TS) : TS := fun D σ H => wi σ H fun J H1 => ∃ W : Nat -> Nat -> St -> Hp -> Prop, (∃ m, W 0 m σ H1) /\ ∀ i m σ H, W i m σ H ->
  (J.stop i H /\ D.nx σ H) \/ (J.go i H /\ ∃ N : St -> Hp -> Prop, (∀ σ' H', N σ' H' -> ∃ m', m' < m /\ W (i + 1) m' σ' H') /\ ∀ x H', J.yld i H x H' -> g x σ H' fun σ2 H2 => tb { D with nx := N, ct := N, bk := D.nx } σ2 H2)
def pinsAt (fp : List Addr) (h : Heap) : List (Addr × Obj) := fp.filterMap fun b => (h.get? b).map fun o => (b, o)
theorem mem_pinsAt {fp : List Addr} {h : Heap} {b : Addr} {o : Obj} (hb : b ∈ fp) (e : h.get? b = some o) : (b, o) ∈ pinsAt fp h := List.mem_filterMap.mpr ⟨b, hb, by rw [e]; rfl⟩
theorem of_pinsAt {fp : List Addr} {h : Heap} {p : Addr × Obj} (hp : p ∈ pinsAt fp h) : p.1 ∈ fp /\ h.get? p.1 = some p.2 := by
  obtain ⟨b, hb, e⟩ := List.mem_filterMap.mp hp
  cases q : h.get? b with
  | none => rw [q] at e; cases e
  | some o =>
    rw [q] at e
    have e' : (b, o) = p := Option.some.inj e
    subst e'
    exact ⟨hb, q⟩
theorem Inv.pinned {pins : List (Addr × Obj)} {σ : St} {H : Hp} {s : Shared} {fp : List Addr} (I : Inv X pins σ H s) (hf : ∀ b ∈ fp, FpOk X pins H b) (ho : ∀ b ∈ fp, ∃ o, s.heap.get? b = some o /\ ∀ v, o.data ≠ .cell v) : Inv X (pins ++ pinsAt fp s.heap) σ H s :=
  I.pins_of fun p hp => (List.mem_append.mp hp).elim (fun z => I.pin p (List.mem_append_right _ z)) fun z => by
    obtain ⟨hb, e⟩ := of_pinsAt z
    obtain ⟨f0, f1, f2, _⟩ := hf p.1 hb
    obtain ⟨o, e', d⟩ := ho p.1 hb
    rw [e] at e'; cases e'
    exact ⟨e, f0, f1, f2, d⟩
theorem Inv.unpinned {pins pl : List (Addr × Obj)} {σ : St} {H : Hp} {s : Shared} (I : Inv X (pins ++ pl) σ H s) : Inv X pins σ H s := I.pins_of fun p hp => I.pin p (List.mem_append_right _ (List.mem_append_left _ hp))
theorem ps_for {iter : Expr} {body : List Stmt} {wi : TI} {g : TG} {tb : TS} {pos : Pos} (hp : PassesOwn (model X.prog X.w) X.A X.env X.xe) (hc : X.calm = true) (hi : PI X tg iter wi) (hg : PG X tg g) (hb : PSs X body tb)
    (hs : ∀ x, foldedSetIterable iter X.env x = pure x := by intro _; rfl) : PS X (.For tg iter body [] pos) (tFor wi g tb) := by
  intro pins s σ H D I h
  refine wpAny_For (thn (hi pins s σ H _ I h) fun v s1 h1 => thn h1 fun itv s2 h2 => ?_) hs
  obtain ⟨it, fp, tn, J, H2, e, I2, T, st2, f2, W, ⟨m0, w0⟩, turn⟩ := h2
  subst e
  -- what stays true of the iterator's objects through the loop
  have stat : ∀ {H' : Hp}, (∀ b ∈ fp, H' b = none) -> ∀ b ∈ fp, FpOk X pins H' b := fun hn b hb => ⟨hn b hb, (f2 b hb).2⟩
  refine codeAny_forLoop_any (fun n s' => ∃ i σ' H', Inv X pins σ' H' s' /\ tn i s'.heap /\ (∀ b ∈ fp, H' b = none) /\ W i n σ' H') ?_ m0 ⟨0, σ, H2, I2, st2, fun b hb => (f2 b hb).1, w0⟩
  rintro n s3 ⟨i, σ3, H3, I3, st3, fr3, w3⟩
  rcases turn i n σ3 H3 w3 with ⟨stop, qn⟩ | ⟨go, N, hN, step⟩
  . refine wpAny_passesOwn hp (thn (T.done X rfl rfl rfl hc i pins s3 σ3 H3 X.xe I3 (stat fr3) st3 stop) fun r s4 ⟨hr, I4⟩ => ?_)
    subst hr
    exact wpAny_execs_nil ⟨σ3, H3, I4, qn⟩
  . refine wpAny_passesOwn hp (thn (T.item X rfl rfl rfl hc i pins s3 σ3 H3 X.xe I3 (stat fr3) st3 go) fun r s4 ⟨u, hr, h4⟩ => ?_)
    subst hr
    refine wpAny_passesOwn hp (thn h4 fun _ s5 ⟨x, H5, I5, r5, y5, st5, fr5⟩ => ?_)
    have I5' := I5.pinned (stat fr5) (T.obj _ _ st5)
    refine wpAny_passesOwn hp (thn (hg _ s5 σ3 H5 x u _ I5' r5 (step x H5 y5)) fun _ s6 ⟨σ6, H6, I6, q6⟩ => ?_)
    refine wpAny_passesOwn hp (thn (hb _ s6 σ6 H6 _ I6 q6) fun f s7 q7 => ?_)
    have again : ∀ {σ7 : St} {H7 : Hp}, Inv X (pins ++ pinsAt fp s5.heap) σ7 H7 s7 -> N σ7 H7 -> ∃ m, m < n /\ ∃ i σ' H', Inv X pins σ' H' s7 /\ tn i s7.heap /\ (∀ b ∈ fp, H' b = none) /\ W i m σ' H' := fun {σ7 H7} I7 n7 => by
      obtain ⟨m', hm, w7⟩ := hN σ7 H7 n7
      refine ⟨m', hm, i + 1, σ7, H7, I7.unpinned, T.keep _ _ _ st5 fun b hb o e => (I7.pin (b, o) (List.mem_append_right _ (List.mem_append_right _ (mem_pinsAt hb e)))).1, fun b hb => ?_, w7⟩
      obtain ⟨o, e, d⟩ := T.obj _ _ st5 b hb
      exact (I7.pin (b, o) (List.mem_append_right _ (List.mem_append_right _ (mem_pinsAt hb e)))).2.1
    cases f with
    | next => obtain ⟨σ7, H7, I7, n7⟩ := q7; exact again I7 n7
    | cont => obtain ⟨σ7, H7, I7, n7⟩ := q7; exact again I7 n7
    | brk => obtain ⟨σ7, H7, I7, q7⟩ := q7; exact ⟨σ7, H7, I7.unpinned, q7⟩
    | ret v => obtain ⟨x7, σ7, H7, I7, r7, q7⟩ := q7; exact ⟨x7, σ7, H7, I7.unpinned, r7, q7⟩
end
theorem for_list {K : PySem.W.Frag} {a : Addr} {xs : List V} {g : TG} {tb : TS} {D : Ends} {σ : St} {H : Hp} (Pv : Nat -> St -> Hp -> Prop) (h0 : Pv 0 σ H) (hl : ∀ i σ H, i <= xs.length -> Pv i σ H -> SqL K H a xs)
    (hs : ∀ i x σ H, xs[i]? = some x -> Pv i σ H -> g x σ H fun σ2 H2 => tb { D with nx := Pv (i + 1), ct := Pv (i + 1), bk := D.nx } σ2 H2) (hd : ∀ σ H, Pv xs.length σ H -> D.nx σ H) :
    ∃ W : Nat -> Nat -> St -> Hp -> Prop, (∃ m, W 0 m σ H) /\ ∀ i m σ H, W i m σ H ->
      ((Itl K a).stop i H /\ D.nx σ H) \/ ((Itl K a).go i H /\ ∃ N : St -> Hp -> Prop, (∀ σ' H', N σ' H' -> ∃ m', m' < m /\ W (i + 1) m' σ' H') /\ ∀ x H', (Itl K a).yld i H x H' -> g x σ H' fun σ2 H2 => tb { D with nx := N, ct := N, bk := D.nx } σ2 H2) := by
  refine ⟨fun i m σ H => m = xs.length - i /\ i <= xs.length /\ Pv i σ H, ⟨xs.length, by simp, Nat.zero_le _, h0⟩, ?_⟩
  rintro i m σ H ⟨rfl, hi, p⟩
  have q := hl i σ H hi p
  by_cases hlt : i < xs.length
  . refine .inr ⟨⟨xs, xs[i], q, by simp [hlt]⟩, Pv (i + 1), fun σ' H' p' => ⟨xs.length - (i + 1), by omega, rfl, hlt, p'⟩, fun x H' y => ?_⟩
    obtain ⟨e, y⟩ := y
    subst e
    exact hs i x σ _ (y xs q) p
  . have e : i = xs.length := by omega
    subst e
    exact .inl ⟨⟨xs, q, Nat.le_refl _⟩, hd σ H p⟩
theorem for_tup {K : PySem.W.Frag} {a : Addr} {xs : List V} {g : TG} {tb : TS} {D : Ends} {σ : St} {H : Hp} (Pv : Nat -> St -> Hp -> Prop) (h0 : Pv 0 σ H) (hl : ∀ i σ H, i <= xs.length -> Pv i σ H -> SqT K H a xs)
    (hs : ∀ i x σ H, xs[i]? = some x -> Pv i σ H -> g x σ H fun σ2 H2 => tb { D with nx := Pv (i + 1), ct := Pv (i + 1), bk := D.nx } σ2 H2) (hd : ∀ σ H, Pv xs.length σ H -> D.nx σ H) :
    ∃ W : Nat -> Nat -> St -> Hp -> Prop, (∃ m, W 0 m σ H) /\ ∀ i m σ H, W i m σ H ->
      ((Itt K a).stop i H /\ D.nx σ H) \/ ((Itt K a).go i H /\ ∃ N : St -> Hp -> Prop, (∀ σ' H', N σ' H' -> ∃ m', m' < m /\ W (i + 1) m' σ' H') /\ ∀ x H', (Itt K a).yld i H x H' -> g x σ H' fun σ2 H2 => tb { D with nx := N, ct := N, bk := D.nx } σ2 H2) := by
  refine ⟨fun i m σ H => m = xs.length - i /\ i <= xs.length /\ Pv i σ H, ⟨xs.length, by simp, Nat.zero_le _, h0⟩, ?_⟩
  rintro i m σ H ⟨rfl, hi, p⟩
  have q := hl i σ H hi p
  by_cases hlt : i < xs.length
  . refine .inr ⟨⟨xs, xs[i], q, by simp [hlt]⟩, Pv (i + 1), fun σ' H' p' => ⟨xs.length - (i + 1), by omega, rfl, hlt, p'⟩, fun x H' y => ?_⟩
    obtain ⟨e, y⟩ := y
    subst e
    exact hs i x σ _ (y xs q) p
  . have e : i = xs.length := by omega
    subst e
    exact .inl ⟨⟨xs, q, Nat.le_refl _⟩, hd σ H p⟩
theorem for_range {lo : Int} {n : Nat} {g : TG} {tb : TS} {D : Ends} {σ : St} {H : Hp} (Pv : Nat -> St -> Hp -> Prop) (h0 : Pv 0 σ H)
    (hs : ∀ i σ H, i < n -> Pv i σ H -> g (.int (lo + i)) σ H fun σ2 H2 => tb { D with nx := Pv (i + 1), ct := Pv (i + 1), bk := D.nx } σ2 H2) (hd : ∀ σ H, Pv n σ H -> D.nx σ H) :
    ∃ W : Nat -> Nat -> St -> Hp -> Prop, (∃ m, W 0 m σ H) /\ ∀ i m σ H, W i m σ H ->
      ((Itr lo n).stop i H /\ D.nx σ H) \/ ((Itr lo n).go i H /\ ∃ N : St -> Hp -> Prop, (∀ σ' H', N σ' H' -> ∃ m', m' < m /\ W (i + 1) m' σ' H') /\ ∀ x H', (Itr lo n).yld i H x H' -> g x σ H' fun σ2 H2 => tb { D with nx := N, ct := N, bk := D.nx } σ2 H2) := by
  refine ⟨fun i m σ H => m = n - i /\ i <= n /\ Pv i σ H, ⟨n, by simp, Nat.zero_le _, h0⟩, ?_⟩
  rintro i m σ H ⟨rfl, hi, p⟩
  by_cases hlt : i < n
  . refine .inr ⟨hlt, Pv (i + 1), fun σ' H' p' => ⟨n - (i + 1), by omega, rfl, hlt, p'⟩, fun x H' y => ?_⟩
    obtain ⟨e, y⟩ := y
    subst e y
    exact hs i σ _ hlt p
  . have e : i = n := by omega
    subst e
    exact .inl ⟨Nat.le_refl _, hd σ H p⟩
abbrev R2 := V -> V -> Hp -> VK -> Prop
def OpR (X : Cx) (f : Value -> Value -> Sem Value) (r : R2) : Prop :=
  ∀ (pins : List (Addr × Obj)) (s : Shared) (σ : St) (H : Hp) (x y : V) (v u : Value) (Q : VK), Inv X pins σ H s -> RelV x v -> RelV y u -> r x y H Q ->
    wpAny (model X.prog X.w) X.A (f v u) (EP X pins σ Q) X.xe s
def UnR (X : Cx) (f : Value -> Sem Value) (r : V -> Hp -> VK -> Prop) : Prop :=
  ∀ (pins : List (Addr × Obj)) (s : Shared) (σ : St) (H : Hp) (x : V) (v : Value) (Q : VK), Inv X pins σ H s -> RelV x v -> r x H Q ->
    wpAny (model X.prog X.w) X.A (f v) (EP X pins σ Q) X.xe s
def CallR (X : Cx) (f : Value) (r : List V -> Hp -> VK -> Prop) : Prop :=
  ∀ (pins : List (Addr × Obj)) (s : Shared) (σ : St) (H : Hp) (xs : List V) (us : List Value) (Q : VK), Inv X pins σ H s -> Vals xs us -> r xs H Q ->
    wpAny (model X.prog X.w) X.A (call f us) (EP X pins σ Q) X.xe s
def tOp (r : R2) (ta tb : TE) : TE := fun σ H Q => ta σ H fun x H1 => tb σ H1 fun y H2 => r x y H2 Q
def tUn (r : V -> Hp -> VK -> Prop) (ta : TE) : TE := fun σ H Q => ta σ H fun x H1 => r x H1 Q
def rI (C : Int -> Int -> Prop) (g : Int -> Int -> V) : R2 := fun x y H Q => ∃ i j, x = .int i /\ y = .int j /\ C i j /\ Q (g i j) H
def rI0 (g : Int -> Int -> V) : R2 := fun x y H Q => ∃ i j, x = .int i /\ y = .int j /\ Q (g i j) H
def rU (g : Int -> V) : V -> Hp -> VK -> Prop := fun x H Q => ∃ i, x = .int i /\ Q (g i) H
section
variable {X : Cx} {a b c : Expr} {ta tb tc : TE} {pos : Pos}
theorem binT (ha : PE X a ta) (hb : PE X b tb) {pins : List (Addr × Obj)} {s : Shared} {σ : St} {H : Hp} {R : V -> V -> Hp -> Prop} (I : Inv X pins σ H s)
    (h : ta σ H fun x H1 => tb σ H1 fun y H2 => R x y H2) {Q : Value -> Shared -> Prop} {f : Value -> Value -> Sem Value}
    (hf : ∀ v u s2 x y H2, Inv X pins σ H2 s2 -> RelV x v -> RelV y u -> R x y H2 -> wpAny (model X.prog X.w) X.A (f v u) Q X.xe s2) :
    wpAny (model X.prog X.w) X.A (eval a X.env) (fun v s₁ => wpAny (model X.prog X.w) X.A (eval b X.env) (fun u s₂ => wpAny (model X.prog X.w) X.A (f v u) Q X.xe s₂) X.xe s₁) X.xe s := by
  refine thn (ha pins s σ H _ I h) fun v s1 ⟨x, H1, I1, r1, q1⟩ => ?_
  refine thn (hb pins s1 σ H1 _ I1 q1) fun u s2 ⟨y, H2, I2, r2, q2⟩ => ?_
  exact hf v u s2 x y H2 I2 r1 r2 q2
theorem pe_op {op : Operator} {r : R2} (ho : OpR X (binaryOp op) r) (ha : PE X a ta) (hb : PE X b tb) : PE X (.BinOp a op b pos) (tOp r ta tb) := by
  intro pins s σ H Q I h
  exact wpAny_BinOp (binT ha hb I h fun v u s2 x y H2 I2 rx ry q => ho pins s2 σ H2 x y v u Q I2 rx ry q)
theorem pe_un {op : UnaryOp} {r : V -> Hp -> VK -> Prop} (ho : UnR X (unaryOp op) r) (ha : PE X a ta) : PE X (.UnaryOp op a pos) (tUn r ta) := by
  intro pins s σ H Q I h
  exact UnaryOp_ (thn (ha pins s σ H _ I h) fun v s1 ⟨x, H1, I1, r1, q1⟩ => ho pins s1 σ H1 x v Q I1 r1 q1)
theorem opI {f : Value -> Value -> Sem Value} {C : Int -> Int -> Prop} {g : Int -> Int -> Int}
    (rule : ∀ (i j : Int) (t u : Tok) (s : Shared) (Q : Value -> Shared -> Prop) (E : Value -> Shared -> Prop), C i j -> Q (.int (g i j) s.toks) { s with toks := s.toks + 1 } -> wpAny (model X.prog X.w) X.A (f (.int i t) (.int j u)) Q E s) :
    OpR X f (rI C fun i j => .int (g i j)) := by
  intro pins s σ H x y v u Q I rx ry h
  obtain ⟨i, j, rfl, rfl, hc, q⟩ := h
  obtain ⟨t, rfl⟩ := rx
  obtain ⟨t', rfl⟩ := ry
  exact rule i j t t' s _ _ hc ⟨.int (g i j), H, I.tok _, ⟨_, rfl⟩, q⟩
theorem opI0 {f : Value -> Value -> Sem Value} {g : Int -> Int -> Int}
    (rule : ∀ (i j : Int) (t u : Tok) (s : Shared) (Q : Value -> Shared -> Prop) (E : Value -> Shared -> Prop), Q (.int (g i j) s.toks) { s with toks := s.toks + 1 } -> wpAny (model X.prog X.w) X.A (f (.int i t) (.int j u)) Q E s) :
    OpR X f (rI0 fun i j => .int (g i j)) := by
  intro pins s σ H x y v u Q I rx ry h
  obtain ⟨i, j, rfl, rfl, q⟩ := h
  obtain ⟨t, rfl⟩ := rx
  obtain ⟨t', rfl⟩ := ry
  exact rule i j t t' s _ _ ⟨.int (g i j), H, I.tok _, ⟨_, rfl⟩, q⟩
theorem opB0 {f : Value -> Value -> Sem Value} {g : Int -> Int -> Bool}
    (rule : ∀ (i j : Int) (t u : Tok) (s : Shared) (Q : Value -> Shared -> Prop) (E : Value -> Shared -> Prop), Q (.bool (g i j)) s -> wpAny (model X.prog X.w) X.A (f (.int i t) (.int j u)) Q E s) :
    OpR X f (rI0 fun i j => .bl (g i j)) := by
  intro pins s σ H x y v u Q I rx ry h
  obtain ⟨i, j, rfl, rfl, q⟩ := h
  obtain ⟨t, rfl⟩ := rx
  obtain ⟨t', rfl⟩ := ry
  exact rule i j t t' s _ _ ⟨.bl (g i j), H, I, rfl, q⟩
def CPow (i j : Int) : Prop := 0 <= j /\ j <= 1000000 /\ i.natAbs < 2 ^ 64
def CMul (i j : Int) : Prop := (-(2 ^ 64) < i /\ i < 2 ^ 64) \/ (-(2 ^ 64) < j /\ j < 2 ^ 64)
theorem CMul.ok {i j : Int} (h : CMul i j) : IntMulOk i j := by
  rcases h with ⟨h1, h2⟩ | ⟨h1, h2⟩
  . exact .of_left (intBits_le_64 h1 h2)
  . exact .of_right (intBits_le_64 h1 h2)
theorem op_add : OpR X (binaryOp .Add) (rI0 fun i j => .int (i + j)) := opI0 fun _ _ _ _ _ _ _ q => add_int q
theorem op_sub : OpR X (binaryOp .Sub) (rI0 fun i j => .int (i - j)) := opI0 fun _ _ _ _ _ _ _ q => sub_int q
theorem op_mod : OpR X (binaryOp .Mod) (rI (fun _ j => 0 < j) fun i j => .int (i % j)) := opI fun i j _ _ _ _ _ hc q => by
  have h1 : (0 : Int) < j := hc
  exact mod_int' (by omega) (by rw [Int.fmod_eq_emod_of_nonneg i (by omega)]; exact q)
theorem op_pow : OpR X (binaryOp .Pow) (rI CPow fun i j => .int (i ^ j.toNat)) := opI fun _ _ _ _ _ _ _ hc q => pow_int_small hc.1 hc.2.1 hc.2.2 q
theorem op_and : OpR X (binaryOp .BitAnd) (rI0 fun i j => .int (Builtin.bitAnd i j)) := opI0 fun _ _ _ _ _ _ _ q => and_int q
theorem op_xor : OpR X (binaryOp .BitXor) (rI0 fun i j => .int (Builtin.bitXor i j)) := opI0 fun _ _ _ _ _ _ _ q => xor_int q
theorem unI {f : Value -> Sem Value} {g : Int -> Int}
    (rule : ∀ (i : Int) (t : Tok) (s : Shared) (Q : Value -> Shared -> Prop) (E : Value -> Shared -> Prop), Q (.int (g i) s.toks) { s with toks := s.toks + 1 } -> wpAny (model X.prog X.w) X.A (f (.int i t)) Q E s) :
    UnR X f (rU fun i => .int (g i)) := by
  intro pins s σ H x v Q I rx h
  obtain ⟨i, rfl, q⟩ := h
  obtain ⟨t, rfl⟩ := rx
  exact rule i t s _ _ ⟨.int (g i), H, I.tok _, ⟨_, rfl⟩, q⟩
theorem un_neg : UnR X (unaryOp .USub) (rU fun i => .int (-i)) := unI fun _ _ _ _ _ q => neg_int q
end
section
variable {X : Cx} {a b c : Expr} {ta tb tc : TE} {pos : Pos}
theorem op_lt : OpR X (compareOp .Lt) (rI0 fun i j => .bl (decide (i < j))) := opB0 fun _ _ _ _ _ _ _ q => lt_int q
theorem op_le : OpR X (compareOp .LtE) (rI0 fun i j => .bl (decide (i <= j))) := opB0 fun _ _ _ _ _ _ _ q => le_int q
theorem op_gt : OpR X (compareOp .Gt) (rI0 fun i j => .bl (decide (j < i))) := opB0 fun _ _ _ _ _ _ _ q => gt_int q
theorem pe_cmpR {op : CmpOp} {r : R2} (ho : OpR X (compareOp op) r) (ha : PE X a ta) (hb : PE X b tb) (hm : behindInMarks op b = false) : PE X (.Compare a [op] [b] pos) (tOp r ta tb) := by
  intro pins s σ H Q I h
  exact wpAny_Compare1 (binT ha hb I h fun v u s2 x y H2 I2 rx ry q => ho pins s2 σ H2 x y v u Q I2 rx ry q) hm
theorem line63 : (sizeLine : Nat) < 2 ^ 63 := by rw [sizeLine_eq]; decide
theorem op_add_str : OpR X (binaryOp .Add) (fun x y H Q => ∃ i j, x = .str i /\ y = .str j /\ i.length + j.length <= sizeLine /\ Q (.str (i ++ j)) H) := by
  intro pins s σ H x y v u Q I rx ry h
  obtain ⟨i, j, rfl, rfl, hz, q⟩ := h
  obtain ⟨t, rfl⟩ := rx
  obtain ⟨t', rfl⟩ := ry
  exact add_str (fun t' tk => ⟨.str (i ++ j), H, I.tok _, ⟨_, rfl⟩, q⟩) hz
theorem vals1 {x : V} {us : List Value} (r : Vals [x] us) : ∃ u, us = [u] /\ RelV x u := by
  cases r with
  | cons r1 r2 => cases r2; exact ⟨_, rfl, r1⟩
theorem vals2 {x y : V} {us : List Value} (r : Vals [x, y] us) : ∃ u w', us = [u, w'] /\ RelV x u /\ RelV y w' := by
  cases r with
  | cons r1 r2 =>
    cases r2 with
    | cons r3 r4 => cases r4; exact ⟨_, _, rfl, r1, r3⟩
theorem call_abs : CallR X (.builtin "abs") (fun xs H Q => ∃ i, xs = [.int i] /\ Q (.int (if i < 0 then -i else i)) H) := by
  intro pins s σ H xs us Q I r h
  obtain ⟨i, rfl, q⟩ := h
  obtain ⟨u, rfl, t, rfl⟩ := vals1 r
  exact call_abs_int fun u tk => ⟨.int (if i < 0 then -i else i), H, I.tok _, ⟨_, rfl⟩, q⟩
theorem call_max2 (hc : X.calm = true) : CallR X (.builtin "max") (fun xs H Q => ∃ i j, xs = [.int i, .int j] /\ Q (.int (if j > i then j else i)) H) := by
  intro pins s σ H xs us Q I r h
  obtain ⟨i, j, rfl, q⟩ := h
  obtain ⟨u, w', rfl, ⟨t, rfl⟩, ⟨t', rfl⟩⟩ := vals2 r
  refine max_two_ints (I.ok.hd hc) fun h' tk k => ⟨_, H, I.kept k, ?_, q⟩
  by_cases hj : j > i
  . rw [if_pos hj, if_pos hj]; exact ⟨_, rfl⟩
  . rw [if_neg hj, if_neg hj]; exact ⟨_, rfl⟩
theorem call_int1 : CallR X (.type "int") (fun xs H Q => (∃ i, xs = [.int i] /\ Q (.int i) H) \/ ∃ k, xs = [.bl k] /\ Q (.int (if k then 1 else 0)) H) := by
  intro pins s σ H xs us Q I r h
  rcases h with ⟨i, rfl, q⟩ | ⟨k, rfl, q⟩
  . obtain ⟨u, rfl, t, rfl⟩ := vals1 r
    exact call_int_int ⟨.int i, H, I, ⟨_, rfl⟩, q⟩
  . obtain ⟨u, rfl, r1⟩ := vals1 r
    cases r1
    exact call_int_bool ⟨.int (if k then 1 else 0), H, I.tok _, ⟨_, rfl⟩, q⟩
def LenV (K : PySem.W.Frag) (x : V) (H : Hp) (n : Nat) : Prop :=
  match x with
  | .str y => y.length <= sizeLine /\ n = y.length
  | .byt y => y.size <= sizeLine /\ n = y.size
  | .ref p => (∃ xs, SqL K H p xs /\ n = xs.length) \/ ∃ xs, SqT K H p xs /\ n = xs.length
  | _ => False
theorem call_len : CallR X (.builtin "len") (fun xs H Q => ∃ x n, xs = [x] /\ LenV X.K x H n /\ Q (.int n) H) := by
  intro pins s σ H xs us Q I r h
  obtain ⟨x, n, rfl, e, q⟩ := h
  obtain ⟨u, rfl, rx⟩ := vals1 r
  have hl := line63
  have hs : sizeLine = 16777216 := sizeLine_eq
  cases x with
  | str y =>
    obtain ⟨t, rfl⟩ := rx
    obtain ⟨hy, e'⟩ : y.length <= sizeLine /\ n = y.length := e
    subst e'
    exact len_str (by omega) ⟨.int _, H, I.tok _, ⟨_, rfl⟩, q⟩
  | byt y =>
    obtain ⟨t, rfl⟩ := rx
    obtain ⟨hy, e'⟩ : y.size <= sizeLine /\ n = y.size := e
    subst e'
    exact PySem.W.len_bytes (by omega) ⟨.int _, H, I.tok _, ⟨_, rfl⟩, q⟩
  | ref p =>
    cases rx
    have e' : (∃ xs, SqL X.K H p xs /\ n = xs.length) \/ ∃ xs, SqT X.K H p xs /\ n = xs.length := e
    rcases e' with ⟨xs, hx, e'⟩ | ⟨xs, hx, e'⟩
    . subst e'
      obtain ⟨its, r', pl, hz⟩ := I.list hx
      have hlen := r'.length
      exact Calls.call_len_list pl.isList (by simp only [List.size_toArray]; omega) ⟨.int xs.length, H, I.tok _, ⟨_, by simp only [List.size_toArray]; rw [hlen]⟩, q⟩
    . subst e'
      obtain ⟨its, r', pl, hz⟩ := I.tuple hx
      have hlen := r'.length
      exact len_tuple pl (by simp only [List.size_toArray]; omega) ⟨.int xs.length, H, I.tok _, ⟨_, by simp only [List.size_toArray]; rw [hlen]⟩, q⟩
  | _ => exact (show False from e).elim
end
structure ObjM (h : Heap) (x dx C : Addr) (mA : Str -> Option Value) : Prop where
  obj : h.get? x = some (PySem.W.instObj C dx)
  ns : h.Ns1 dx mA
  ne : dx ≠ x
section
variable {prog : Program} {w : World} {A : Around} {E : Value -> Shared -> Prop} {s : Shared} {K : PySem.W.Frag} {x dx C f : Addr} {mA : Str -> Option Value} {name : Str} {v : Value}
end
section
variable {P : Program} {w : World} {H H' : Hp} {h h' : Heap} {a C dx : Addr} {fs fs' : List (Str × V)}
end
structure Cls (K : PySem.W.Frag) (C : Addr) : Prop where
  pg : PySem.W.plainGet K C Str.empty = true
  hd : PySem.W.hasDictIn K C = true
  po : PySem.W.plainOver K C = true
  sa : PySem.W.findIn K (.ref C) "__setattr__" = some (some (.builtin "object.__setattr__"))
theorem Cls.get {K : PySem.W.Frag} {C : Addr} (c : Cls K C) (f : Str) : PySem.W.plainGet K C f = true := c.pg
structure Con (K : PySem.W.Frag) (C : Addr) (f : Str) (v : V) (u : Value) : Prop where
  at_ : PySem.W.findIn K (.ref C) f = some (some u)
  rel : RelV v u
  get : PySem.W.specialIn K u "__get__" = some none
  cp : PySem.W.copiedNames.contains f = false
structure Meth (K : PySem.W.Frag) (C : Addr) (m : Str) (f : Addr) : Prop where
  at_ : PySem.W.findIn K (.ref C) m = some (some (.ref f))
  fn : PySem.W.isFn K (.ref f) = true
  kp : PySem.W.keepIn K (.ref f) = true
section
variable {X : Cx} {pins : List (Addr × Obj)} {σ : St} {H : Hp} {s : Shared} {a C dx : Addr} {fs : List (Str × V)} {f : Str} {v : V} {A : Around} {E : Value -> Shared -> Prop}
end
section
variable {X : Cx} {o e value : Expr} {f : Str} {pos pos' tpos : Pos} {ta tv : TE}
end
section
variable {X : Cx} {pins : List (Addr × Obj)} {σ : St} {H : Hp} {s : Shared} {A : Around} {E : Value -> Shared -> Prop} {Q : Value -> Shared -> Prop} {c : Value} {b : Bool}
inductive TyOf (K : PySem.W.Frag) (H : Hp) : V -> Value -> Prop where
  | non : TyOf K H .non (.type "NoneType")
  | bl (x : Bool) : TyOf K H (.bl x) (.type "bool")
  | int (i : Int) : TyOf K H (.int i) (.type "int")
  | str (x : Str) : TyOf K H (.str x) (.type "str")
  | flt (x : UInt64) : TyOf K H (.flt x) (.type "float")
  | lst {a : Addr} {xs : List V} (e : H a = some (.lst xs)) : TyOf K H (.ref a) (.type "list")
  | frz {a : Addr} {o : Obj} {xs : List V} (e : H a = some (.frz o (.lst xs))) : TyOf K H (.ref a) (.type "list")
  | tup {a : Addr} {xs : List V} (e : H a = some (.tup xs)) : TyOf K H (.ref a) (.type "tuple")
  | dK {a : Addr} {kvs : List (Key × V)} (e : H a = some (.dK kvs)) : TyOf K H (.ref a) (.type "dict")
  | dT {a : Addr} {kvs : List (List Key × V)} (e : H a = some (.dT kvs)) : TyOf K H (.ref a) (.type "dict")
  | ins {a C dx : Addr} {fs : List (Str × V)} (e : H a = some (.ins C dx fs)) (cl : Cls K C) (ha : PySem.W.findIn K (.ref C) "__class__" = some (some (.builtin "object.__class__")))
      (hn : PySem.W.specialIn K (.builtin "object.__class__") "__get__" = some (some (.builtin "getset_descriptor.__get__"))) (htk : PySem.W.takesIn K (.builtin "object.__class__") = some true)
      (hm : PySem.W.mroIn K C (.type "object") = some true) : TyOf K H (.ref a) (.ref C)
end
structure Room (k : Nat) (A : Around) : Prop where
  hd : A.handled = none
  dp : A.depth + 3 * k + 5 < recursionLimit
  un : A.units + 16 * k + 200 < cLine
  gd : A.guards = some []
theorem Room.mono {j k : Nat} {A : Around} (r : Room k A) (h : j <= k) : Room j A := ⟨r.hd, by have := r.dp; omega, by have := r.un; omega, r.gd⟩
theorem Room.deeper {k : Nat} {A : Around} (r : Room (k + 1) A) (env : Env) : Room k (A.deeper env) :=
  ⟨r.hd, by have := r.dp; show A.depth + 1 + 3 * k + 5 < _; omega, by have := r.un; show A.units + 3 + 16 * k + 200 < _; omega, r.gd⟩
theorem Room.depth {k : Nat} {A : Around} (r : Room k A) : A.depth < recursionLimit := by have := r.dp; omega
def tNil : TA := fun _ H Q => Q [] H
def tCons (ta : TE) (tr : TA) : TA := fun σ H Q => ta σ H fun x H1 => tr σ H1 fun xs H2 => Q (x :: xs) H2
section
variable {X : Cx} {e : Expr} {es : List Expr} {te : TE} {t : TA} {pos : Pos}
theorem pa_nil : PA X [] tNil := fun _ _ _ _ H Q I h => Calls.spliced_nil ⟨[], H, I, .nil, h⟩
theorem pa_cons (ha : PE X e te) (hr : PA X es t) (hs : starEach (e :: es) X.env = (false, eval e X.env) :: starEach es X.env := by rfl) : PA X (e :: es) (tCons te t) := by
  intro pos pins s σ H Q I h
  rw [hs]
  show wpAny _ _ (spliced ((false, eval e X.env) :: backTo pos (starEach es X.env))) _ _ s
  refine Calls.spliced_cons (thn (ha pins s σ H _ I h) fun u s1 ⟨x, H1, I1, r1, q1⟩ => ?_)
  exact thn (hr pos pins s1 σ H1 _ I1 q1) fun us s2 ⟨xs, H2, I2, r2, q2⟩ => ⟨x :: xs, H2, I2, .cons r1 r2, q2⟩
def tTup (t : TA) : TE := fun σ H Q => t σ H fun xs H1 => xs.length <= sizeLine /\ ∀ p, H1 p = none -> Q (.ref p) (upd H1 p (.tup xs))
def tLst (t : TA) : TE := fun σ H Q => t σ H fun xs H1 => xs.length <= sizeLine /\ ∀ p, H1 p = none -> Q (.ref p) (upd H1 p (.lst xs))
theorem pe_tup {x1} (h : PA X es t) : PE X (.Tuple es x1 pos) (tTup t) := by
  intro pins s σ H Q I hq
  refine wpAny_Tuple_spliced (thn (h pos pins s σ H _ I hq) fun us s1 ⟨xs, H1, I1, r, z, q⟩ => ⟨by rw [<- r.length]; exact z, ?_⟩)
  have hf : H1 s1.heap.objs.size = none := I1.hok.fresh (Nat.le_refl _)
  refine ⟨.ref s1.heap.objs.size, upd H1 s1.heap.objs.size (.tup xs), I1.laid (t' := s1.toks) (fun b u e => Heap.get?_push_of_some _ e) (Nat.le_refl _) ?_, rfl, q _ hf⟩
  exact ⟨z, us, r, ⟨_, Heap.get?_push_size _ rfl, rfl, ⟨_, rfl⟩, rfl⟩⟩
theorem pe_lst (h : PA X es t) : PE X (.List es pos) (tLst t) := by
  intro pins s σ H Q I hq
  refine wpAny_List_spliced (thn (h pos pins s σ H _ I hq) fun us s1 ⟨xs, H1, I1, r, z, q⟩ => ⟨by rw [<- r.length]; exact z, ?_⟩)
  have hf : H1 s1.heap.objs.size = none := I1.hok.fresh (Nat.le_refl _)
  refine ⟨.ref s1.heap.objs.size, upd H1 s1.heap.objs.size (.lst xs), I1.laid (t' := s1.toks) (fun b u e => Heap.get?_push_of_some _ e) (Nat.le_refl _) ?_, rfl, q _ hf⟩
  exact ⟨z, us, 0, r, Heap.get?_push_size _ rfl⟩
end
abbrev Sp := List V -> Hp -> VK -> XK -> Prop
abbrev CXT := List Env -> Hp -> Shared -> XK -> Value -> Shared -> Prop
structure Env0 (P : Program) (w : World) (K : PySem.W.Frag) (mg : Str -> Option Value) (base : Heap) (A : Around) (outer : List Env) (s : Shared) (H : Hp) : Prop where
  frames : A.frames = some outer
  mod : Mod K mg base
  bs : ∀ b o, base.get? b = some o -> s.heap.get? b = some o /\ H b = none
  bsz : base.objs.size <= s.heap.objs.size
  funs : s.heap.FunFrames base outer
  frf : ∀ b ∈ frs outer, H b = none
  hok : HOk P w H s.heap
  bare : AllBare s.gens
def CE (outer : List Env) (P : Program) (w : World) (H : Hp) (s : Shared) (Q : VK) (u : Value) (s' : Shared) : Prop :=
  ∃ v H', s'.os = s.os /\ AllBare s'.gens /\ Un (frs outer) [] H H' s.heap s'.heap /\ HOk P w H' s'.heap /\ RelV v u /\ Q v H'
def CR (CX : CXT) (outer : List Env) (P : Program) (w : World) (H : Hp) (s : Shared) (Q : VK) (E : XK) (r : Result) (s' : Shared) : Prop :=
  match r with
  | .ok (.ret u) => CE outer P w H s Q u s'
  | .ok _ => False
  | .error e => CX outer H s E e s'
structure FnOk (P : Program) (w : World) (K : PySem.W.Frag) (mg : Str -> Option Value) (base : Heap) (CX : CXT) (k : Nat) (f : Addr) (fd : FuncData) (ps : List Str) (sp : Sp) : Prop where
  len : ∀ vs H Q E, sp vs H Q E -> vs.length = ps.length
  run : ∀ (A : Around) (outer : List Env) (s : Shared) (H : Hp) (args : Args) (us : List Value) (vs : List V) (Q : VK) (E : XK), Room k A -> Env0 P w K mg base A outer s H -> BindsTo s fd args (ps.zip us) -> Vals vs us -> sp vs H Q E ->
    codeAny (model P w) A (.call (.ref f) args) (CR CX outer P w H s Q E) s
section
variable {X : Cx} {pins : List (Addr × Obj)} {σ : St} {H : Hp} {s s' : Shared}
theorem Inv.env0 (I : Inv X pins σ H s) : Env0 X.prog X.w X.K X.mg X.base X.A X.stack s H :=
  ⟨I.ok.frames, I.ok.mod, I.bs, Nat.le_trans I.ok.bsz I.sz, I.stack, I.stkFree, I.hok, I.bare⟩
theorem Inv.after {Q : VK} {u : Value} (I : Inv X pins σ H s) (h : CE X.stack X.prog X.w H s Q u s') : EP X pins σ Q u s' := by
  obtain ⟨v, H', os, bare, un, hok, r, q⟩ := h
  obtain ⟨hh, g, d, t, os'⟩ := s'
  obtain rfl : os' = s.os := os
  exact ⟨v, H', I.call (h' := hh) (g' := g) (d' := d) (t' := t) (ch := []) un hok bare (fun b z => absurd z (by simp)), r, q⟩
end
def tCall (sp : Sp) (dvs : List V) (E : XK) (t : TA) : TE := fun σ H Q => t σ H fun vs H1 => sp (vs ++ dvs) H1 Q E
def Binds (K : PySem.W.Frag) (fd : FuncData) (ps : List Str) (ds : List Value) : Prop :=
  ∀ (s : Shared) (us : List Value), K.In s.heap -> (us ++ ds).length = ps.length -> BindsTo s fd ⟨us, []⟩ (ps.zip (us ++ ds))
theorem Binds.all {K : PySem.W.Frag} {fd : FuncData} {ps : List Str} (h : ∀ us : List Value, us.length = ps.length -> bindArgs fd ⟨us, []⟩ = pure (ps.zip us)) : Binds K fd ps [] := fun s us _ hl => by
  rw [List.append_nil] at hl ⊢
  exact .of_eq (h us hl)
def Passes (CX : CXT) (X : Cx) (E : XK) : Prop := ∀ (pins : List (Addr × Obj)) (σ : St) (H : Hp) (s : Shared) (e : Value) (s' : Shared), Inv X pins σ H s -> CX X.stack H s E e s' -> X.xe e s'
section
variable {X : Cx} {CX : CXT} {k : Nat} {f C : Addr} {fd : FuncData} {ps : List Str} {sp : Sp} {dvs : List V} {ds : List Value} {E : XK} {x m : Str} {p pos apos : Pos} {e o : Expr} {es : List Expr} {ta : TE} {t : TA}
theorem run_fn {pins : List (Addr × Obj)} {σ : St} {H : Hp} {s : Shared} {Q : VK} {us : List Value} {vs : List V} (F : FnOk X.prog X.w X.K X.mg X.base CX k f fd ps sp) (hr : Room k X.A) (hb : Binds X.K fd ps ds) (hd : Vals dvs ds) (hx : Passes CX X E)
    (I : Inv X pins σ H s) (r : Vals vs us) (h : sp (vs ++ dvs) H Q E) : wpAny (model X.prog X.w) X.A (call (.ref f) us) (EP X pins σ Q) X.xe s := by
  have r2 : Vals (vs ++ dvs) (us ++ ds) := r.append hd
  have hl : (us ++ ds).length = ps.length := by rw [<- r2.length]; exact F.len _ _ _ _ h
  refine wpAny_call (codeAny_mono (F.run X.A X.stack s H ⟨us, []⟩ (us ++ ds) (vs ++ dvs) Q E hr I.env0 (hb s us I.kIn hl) r2 h) fun r s' hq => ?_)
  cases r with
  | error e => exact hx pins σ H s e s' I hq
  | ok fl =>
    cases fl with
    | ret u => exact I.after hq
    | next => exact False.elim hq
    | brk => exact False.elim hq
    | cont => exact False.elim hq
theorem pe_call (F : FnOk X.prog X.w X.K X.mg X.base CX k f fd ps sp) (hr : Room k X.A) (hg : Gl X x) (hm : X.mg x = some (.ref f)) (hk : PySem.W.keepIn X.K (.ref f) = true) (hb : Binds X.K fd ps ds) (hd : Vals dvs ds) (hx : Passes CX X E)
    (ha : PA X (e :: es) t) (hdb : (x == ("__debug__" : Str)) = false := by decide) (he : starEach (e :: es) X.env = (false, eval e X.env) :: starEach es X.env := by rfl) (hpl : (backTo pos (starEach es X.env)).any (·.1) = false := by rfl) :
    PE X (.Call (.Name x p) (e :: es) [] pos) (tCall sp dvs E t) := by
  intro pins s σ H Q I h
  refine wpAny_Call_Name_kw (ld_glob I hg hm ?_ hdb)
  refine PySem.W.callWith_K (h₀ := X.base) I.ok.mod.kin hk (thn (ha pos pins s σ H _ I h) fun us s1 ⟨vs, H1, I1, r, q⟩ => ⟨I1.kIn, ?_⟩) he hpl
  exact run_fn F hr hb hd hx I1 r q
structure Mk (K : PySem.W.Frag) (C f : Addr) : Prop where
  makes : PySem.W.makesIn K C = true
  init : PySem.W.findIn K (.ref C) "__init__" = some (some (.ref f))
  fn : PySem.W.isFn K (.ref f) = true
  kp : PySem.W.keepIn K (.ref C) = true
end
section
variable {X : Cx} {CX : CXT} {k : Nat} {f C : Addr} {fd : FuncData} {ps ks : List Str} {sp : Sp} {E : XK} {x m : Str} {p pos apos kpos : Pos} {e o : Expr} {es : List Expr} {kws : List Keyword} {te ta : TE} {t tk : TA} {nm : Option Str}
structure KBinds (K : PySem.W.Frag) (fd : FuncData) (ps ks : List Str) (g : List Value -> List Value -> List Value) (gV : List V -> List V -> List V) : Prop where
  to : ∀ (s : Shared) (us ws : List Value), K.In s.heap -> (g us ws).length = ps.length -> BindsTo s fd ⟨us, ks.zip ws⟩ (ps.zip (g us ws))
  rel : ∀ {vs : List V} {us : List Value} {zs : List V} {ws : List Value}, Vals vs us -> Vals zs ws -> Vals (gV vs zs) (g us ws)
variable {g : List Value -> List Value -> List Value} {gV : List V -> List V -> List V}
end
structure FnScope (N P : List Str) (sc : Scope) : Prop where
  kind : sc.kind = .function
  co : sc.isCoroutine = false
  gen : sc.isGenerator = false
  nd : N.Nodup
  pre : N.take P.length = P
  par : ∀ x ∈ P, sc.names.lookup x = some .local \/ sc.names.lookup x = some .cell
  nofree : ∀ y ∈ sc.names, y.2 ≠ .free
theorem bindL_out {kindOf : Str -> Option NameKind} {x : Str} : ∀ {binds : List (Str × Value)} {m : Str -> Option Value}, (∀ v, (x, v) ∉ binds) -> bindL kindOf binds m x = m x
  | [], _, _ => rfl
  | (n, v) :: r, m, h => by
    unfold bindL
    rw [bindL_out fun w hw => h w (List.mem_cons_of_mem _ hw)]
    split
    . have : x ≠ n := by rintro rfl; exact h v List.mem_cons_self
      simp [this]
    . rfl
theorem bindC_out {kindOf : Str -> Option NameKind} {x : Str} : ∀ {binds : List (Str × Value)} {m : Str -> Option Value}, (∀ v, (x, v) ∉ binds) -> bindC kindOf binds m x = m x
  | [], _, _ => rfl
  | (n, v) :: r, m, h => by
    unfold bindC
    rw [bindC_out fun w hw => h w (List.mem_cons_of_mem _ hw)]
    split
    . rfl
    . have : x ≠ n := by rintro rfl; exact h v List.mem_cons_self
      simp [this]
theorem bindL_get {kindOf : Str -> Option NameKind} {x : Str} {v : Value} : ∀ {P : List Str} {vs : List Value} {i : Nat} {m : Str -> Option Value}, P.Nodup -> P[i]? = some x -> vs[i]? = some v -> kindOf x = some .local ->
    bindL kindOf (P.zip vs) m x = some v
  | [], _, _, _, _, h, _, _ => by simp at h
  | _ :: _, [], _, _, _, _, h, _ => by simp at h
  | p :: P, w :: vs, 0, m, nd, h1, h2, hk => by
    simp at h1 h2; subst h1; subst h2
    show bindL kindOf ((p, w) :: P.zip vs) m p = _
    unfold bindL
    rw [bindL_out fun v hv => (List.nodup_cons.mp nd).1 (List.of_mem_zip hv).1, if_pos hk]
    simp
  | p :: P, w :: vs, i + 1, m, nd, h1, h2, hk => by
    show bindL kindOf ((p, w) :: P.zip vs) m x = _
    unfold bindL
    exact bindL_get (i := i) (List.nodup_cons.mp nd).2 (by simpa using h1) (by simpa using h2) hk
theorem bindC_get {kindOf : Str -> Option NameKind} {x : Str} {v : Value} : ∀ {P : List Str} {vs : List Value} {i : Nat} {m : Str -> Option Value}, P.Nodup -> P[i]? = some x -> vs[i]? = some v -> kindOf x ≠ some .local ->
    bindC kindOf (P.zip vs) m x = some v
  | [], _, _, _, _, h, _, _ => by simp at h
  | _ :: _, [], _, _, _, _, h, _ => by simp at h
  | p :: P, w :: vs, 0, m, nd, h1, h2, hk => by
    simp at h1 h2; subst h1; subst h2
    show bindC kindOf ((p, w) :: P.zip vs) m p = _
    unfold bindC
    rw [bindC_out fun v hv => (List.nodup_cons.mp nd).1 (List.of_mem_zip hv).1, if_neg hk]
    simp
  | p :: P, w :: vs, i + 1, m, nd, h1, h2, hk => by
    show bindC kindOf ((p, w) :: P.zip vs) m x = _
    unfold bindC
    exact bindC_get (i := i) (List.nodup_cons.mp nd).2 (by simpa using h1) (by simpa using h2) hk
def start (N : List Str) (vs : List V) : St := vs.map some ++ List.replicate (N.length - vs.length) none
def cxOf (CX : CXT) (P : Program) (w : World) (K : PySem.W.Frag) (mg : Str -> Option Value) (base : Heap) (N : List Str) (qual : Str) (scope : Scope) (f : Addr) (cd : Value) (A : Around) (outer : List Env) (s : Shared) (H : Hp) (E : XK) : Cx where
  prog := P
  w := w
  K := K
  mg := mg
  base := base
  A := A.deeper (envOfC qual scope s.heap.objs.size f cd)
  N := N
  s₀ := s
  H₀ := H
  env := envOfC qual scope s.heap.objs.size f cd
  outer := outer
  stack := envOfC qual scope s.heap.objs.size f cd :: outer
  ex := []
  calm := true
  fn := fun _ => true
  pn := []
  xe := fun e s' => wpAny (model P w) (A.deeper (envOfC qual scope s.heap.objs.size f cd)) (leaving (envOfC qual scope s.heap.objs.size f cd) e) (fun _ s'' => CX outer H s E e s'') (fun e' s'' => CX outer H s E e' s'') s'
theorem cell_has {sc : Scope} {n : Nat} {x : Str} (h : sc.names.lookup x = some .cell) : ∃ c, (cellsFrom n sc.names []).lookup x = some c := by
  have q := PySem.W.cellsFrom_some sc.names n [] (.inl h)
  exact Option.isSome_iff_exists.mp q
theorem inv_start {CX : CXT} {P : Program} {w : World} {K : PySem.W.Frag} {mg : Str -> Option Value} {base : Heap} {N ps : List Str} {qual : Str} {scope : Scope} {f : Addr} {cd : Value} {A : Around} {outer : List Env} {s s1 : Shared} {H : Hp} {E : XK} {us : List Value} {vs : List V}
    (S : FnScope N ps scope) (hd : A.handled = none) (e0 : Env0 P w K mg base A outer s H) (hl : vs.length = ps.length) (r : Vals vs us)
    (x : InCallC s s.heap.objs.size (bindL (envOfC qual scope s.heap.objs.size f cd).kindOf (ps.zip us) fun _ => none) (cellsFrom (s.heap.objs.size + 1) scope.names []) (bindC (envOfC qual scope s.heap.objs.size f cd).kindOf (ps.zip us) fun _ => none) s1) :
    Inv (cxOf CX P w K mg base N qual scope f cd A outer s H E) [] (start N vs) H s1 := by
  have hpl : ps.length <= N.length := by have := congrArg List.length S.pre; rw [List.length_take] at this; omega
  obtain ⟨h1, tk, rfl, hk⟩ := x.done
  have noA : ∀ b : Addr, b ∉ (cxOf CX P w K mg base N qual scope f cd A outer s H E).ex := fun b z => absurd (show b ∈ ([] : List Addr) from z) (by simp)
  refine ⟨⟨e0.mod, S.kind, rfl, rfl, Nat.le_refl _, fun y z c h1 h2 => ?_, fun y hy => ?_, fun y c _ h => ?_, fun _ => hd, Around.frames_deeper e0.frames, .inr ⟨rfl, rfl⟩, fun b z => absurd z (noA b), e0.bs, e0.bsz, fun b _ _ => noA b, fun b z => absurd z (noA b), e0.funs, e0.frf⟩,
    rfl, e0.bare, Un.kept hk, ⟨_, x.toInCall.ns, fun i y v h1 h2 h3 => ?_⟩, fun y c h => ⟨_, x.cell y c h⟩, e0.hok.fresh (Nat.le_refl _), fun y c h => ?_, fun p hp => absurd (show p ∈ ([] : List (Addr × Obj)) from hp) (by simp), e0.hok.kept hk, ?_⟩
  . exact name_of_addr x.apart (PySem.mem_of_lookup h1) (PySem.mem_of_lookup h2)
  . have hy : scope.names.lookup y = some .cell \/ scope.names.lookup y = some .free := hy
    rcases hy with hy | hy
    . exact cell_has hy
    . exact absurd rfl (S.nofree _ (PySem.mem_of_lookup hy))
  . exact Nat.le_of_lt (x.above y c (PySem.mem_of_lookup h))
  . have hi : i < vs.length := by
      unfold start at h2
      by_cases hi : i < vs.length
      . exact hi
      . rw [List.getElem?_append_right (by simpa using hi)] at h2
        rw [List.getElem?_replicate] at h2
        split at h2 <;> cases h2
    have ha : vs[i]? = some v := by
      unfold start at h2
      rw [List.getElem?_append_left (by simpa using hi), List.getElem?_map] at h2
      cases e : vs[i]? with
      | none => rw [e] at h2; cases h2
      | some a => rw [e] at h2; cases h2; rfl
    obtain ⟨u, hu, rv⟩ := r.get ha
    have hp : ps[i]? = some y := by
      rw [<- S.pre, List.getElem?_take_of_lt (by omega)]; exact h1
    have ndP : ps.Nodup := by rw [<- S.pre]; exact S.nd.sublist (List.take_sublist _ _)
    refine ⟨u, rv, ?_⟩
    rcases S.par y (List.mem_of_getElem? hp) with k | k
    . exact .inl ⟨k, bindL_get ndP hp hu k⟩
    . obtain ⟨c, e⟩ := cell_has (n := s.heap.objs.size + 1) k
      refine .inr ⟨.inl k, c, e, ?_⟩
      have q := x.cell y c e
      rw [bindC_get ndP hp hu (by show scope.names.lookup y ≠ _; rw [k]; decide)] at q
      exact q
  . exact e0.hok.fresh (Nat.le_of_lt (x.above y c (PySem.mem_of_lookup h)))
  . unfold start
    show _ = N.length
    rw [List.length_append, List.length_map, List.length_replicate]
    omega
theorem fn_of {CX : CXT} {P : Program} {w : World} {K : PySem.W.Frag} {mg : Str -> Option Value} {base : Heap} {k : Nat} {f : Addr} {name qual : Str} {params : Arguments} {body : List Stmt} {scope : Scope} {dV kV doc pm cdv ct oc : Value} {an od : Option Addr}
    {osl : Array (Option Value)} {N ps : List Str} {sp : Sp} (lk : K.lookup f = some ⟨oc, od, .func (PySem.W.fnOf name qual params body scope dV kV doc pm an cdv ct), osl⟩) (hcd : PySem.W.codeIn K cdv qual = true) (S : FnScope N ps scope)
    (len : ∀ vs H Q E, sp vs H Q E -> vs.length = ps.length)
    (hbody : ∀ (A : Around) (outer : List Env) (s : Shared) (H : Hp) (vs : List V) (Q : VK) (E : XK), Room k (A.deeper (envOfC qual scope s.heap.objs.size f cdv)) -> sp vs H Q E ->
      ∃ t, PSs (cxOf CX P w K mg base N qual scope f cdv A outer s H E) body t /\ t { nx := fun _ H' => Q .non H', rt := Q } (start N vs) H) :
    FnOk P w K mg base CX (k + 1) f (PySem.W.fnOf name qual params body scope dV kV doc pm an cdv ct) ps sp := by
  refine ⟨len, fun A outer s H args us vs Q E hr e0 hb r hsp => ?_⟩
  have hl := len _ _ _ _ hsp
  have KX : K.In s.heap := e0.mod.kin.keeps fun b o e => (e0.bs b o e).1
  have lim : s.heap.NoLimit := e0.mod.nolimit.keeps fun b o e => (e0.bs b o e).1
  have hkind : ∀ y ∈ ps.zip us, scope.names.lookup y.1 = some .local \/ (scope.names.lookup y.1 = some .cell /\ ((cellsFrom (s.heap.objs.size + 1) scope.names []).lookup y.1).isSome = true) := fun ⟨n, v⟩ hy => by
    rcases S.par n (List.of_mem_zip hy).1 with q | q
    . exact .inl q
    . exact .inr ⟨q, PySem.W.cellsFrom_some _ _ _ (.inl q)⟩
  refine codeAny_call_function hr.depth (KX _ _ lk) rfl S.co S.gen rfl (PySem.W.codeRec_of KX hcd) (hb _ _ _ _ ?_)
  refine wpAny_newFunctionEnv_cells S.kind hkind fun env he s1 x => ?_
  subst he
  refine ⟨lim.keeps x.toInCall.keep, codeAny_func ?_⟩
  obtain ⟨t, ht, hq⟩ := hbody A outer s H vs Q E (hr.deeper _) hsp
  have I : Inv (cxOf CX P w K mg base N qual scope f cdv A outer s H E) [] (start N vs) H s1 := inv_start S hr.hd e0 hl r x
  refine wpAny_mono (ht [] s1 (start N vs) H _ I hq) (fun fl s' hs => ?_) fun e s' hs => hs
  have fin : ∀ {σ' : St} {H' : Hp} {v : V} {u : Value}, Inv (cxOf CX P w K mg base N qual scope f cdv A outer s H E) [] σ' H' s' -> RelV v u -> Q v H' -> CE outer P w H s Q u s' :=
    fun {σ' H' v u} J rv q => ⟨v, H', J.os, J.bare, J.base, J.hok, rv, q⟩
  cases fl with
  | ret u =>
    obtain ⟨v, σ', H', J, rv, q⟩ := hs
    exact fin J rv q
  | next =>
    obtain ⟨σ', H', J, q⟩ := hs
    exact fin (v := V.non) (u := Value.none) J rfl q
  | brk =>
    obtain ⟨_, _, _, q⟩ := hs
    exact False.elim q
  | cont =>
    obtain ⟨_, _, _, q⟩ := hs
    exact False.elim q
section
variable {X : Cx} {x : Str} {p pos : Pos} {e : Expr} {es : List Expr} {t : TA} {id T : String} {r : List V -> Hp -> VK -> Prop}
def tCB (r : List V -> Hp -> VK -> Prop) (t : TA) : TE := fun σ H Q => t σ H fun vs H1 => r vs H1 Q
theorem pe_callB (hc : CallR X (.builtin id) r) (hg : Gl X x) (hm : X.mg x = none) (hv : bootBuiltins x = some (.builtin id)) (ha : PA X (e :: es) t) (hn : x ≠ "__name__" := by decide) (hdb : (x == ("__debug__" : Str)) = false := by decide)
    (he : starEach (e :: es) X.env = (false, eval e X.env) :: starEach es X.env := by rfl) (hpl : (backTo pos (starEach es X.env)).any (·.1) = false := by rfl) : PE X (.Call (.Name x p) (e :: es) [] pos) (tCB r t) := by
  intro pins s σ H Q I h
  refine wpAny_Call_Name_kw (ld_blt I hg hm hv ?_ hn hdb)
  exact PyProof.Rows.callWith_builtin1 (thn (ha pos pins s σ H _ I h) fun us s1 ⟨vs, H1, I1, r1, q1⟩ => hc pins s1 σ H1 vs us Q I1 r1 q1) he hpl
theorem pe_callTy (hc : CallR X (.type T) r) (hg : Gl X x) (hm : X.mg x = none) (hv : bootBuiltins x = some (.type T)) (ha : PA X (e :: es) t) (hn : x ≠ "__name__" := by decide) (hdb : (x == ("__debug__" : Str)) = false := by decide)
    (he : starEach (e :: es) X.env = (false, eval e X.env) :: starEach es X.env := by rfl) (hpl : (backTo pos (starEach es X.env)).any (·.1) = false := by rfl) : PE X (.Call (.Name x p) (e :: es) [] pos) (tCB r t) := by
  intro pins s σ H Q I h
  refine wpAny_Call_Name_kw (ld_blt I hg hm hv ?_ hn hdb)
  exact PyProof.Rows.callWith_type1 (thn (ha pos pins s σ H _ I h) fun us s1 ⟨vs, H1, I1, r1, q1⟩ => hc pins s1 σ H1 vs us Q I1 r1 q1) he hpl
end
end L2
namespace HT
open PySem PyProof.Rows
section
open PySem.SeqAt
open PySem.AutoSeq1 (wpAny_loadPart')
open PySem.MeetsSeq PySem.MeetsSeq2 PySem.MeetsSeq3
end
section
variable {prog : Program} {w : World} {A : Around} {E : Value -> Shared -> Prop} {s : Shared}
theorem cat_tup {t b : Addr} {vs ws : List Value} {Q : Value -> Shared -> Prop} (ht : IsTup s.heap t vs.toArray) (hb : IsTup s.heap b ws.toArray) (hv : vs ≠ [])
    (h1 : ws = [] -> Q (.ref t) s) (h2 : ws ≠ [] -> Q (.ref s.heap.objs.size) { s with heap := s.heap.push { cls := .type "tuple", data := .seq (vs ++ ws).toArray } })
    (hsz : vs.length + ws.length <= sizeLine) : wpAny (model prog w) A (binaryOp .Add (.ref t) (.ref b)) Q E s := by
  obtain ⟨⟨cls, dd, data, sl⟩, ho, hc, n, hd⟩ := id ht
  obtain ⟨⟨cls2, dd2, data2, sl2⟩, ho2, hc2, n2, hd2⟩ := id hb
  simp only at hc hd hc2 hd2
  subst hc hd hc2 hd2
  have e : vs.toArray ++ ws.toArray = (vs ++ ws).toArray := by simp
  by_cases hw : ws = []
  . exact concat_meets ⟨_, ho, rfl⟩ ⟨_, ho2, rfl⟩ noFill_tuple_add seq_tuple_add PySem.F.slot_tuple_add PySem.F.entry_tuple_add (PySem.F.args_tuple_add_2 _ _)
      (tuple_addW1 t b vs.toArray ws.toArray n n2 dd dd2 sl sl2 (by simpa using hv) (by simp [hw])) ⟨ho, ho2, h1 hw⟩
  . refine concat_meets ⟨_, ho, rfl⟩ ⟨_, ho2, rfl⟩ noFill_tuple_add seq_tuple_add PySem.F.slot_tuple_add PySem.F.entry_tuple_add (PySem.F.args_tuple_add_2 _ _)
      (tuple_addW2 t b vs.toArray ws.toArray n n2 dd dd2 sl sl2 (by simpa using hv) (by simpa using hw) (by rw [List.size_toArray, List.size_toArray]; exact hsz)) ⟨ho, ho2, ?_⟩
    rw [e]
    exact h2 hw
end
end HT
namespace L2
open PySem PySem.Spec PyProof.Rows
abbrev TO := St -> Hp -> (Option Int -> Hp -> Prop) -> Prop
theorem intsAre_of {ns : List Int} : ∀ {us : List Value}, Vals (ns.map V.int) us -> IntsAre us ns := by
  induction ns with
  | nil => intro us r; rw [List.map_nil] at r; cases r; exact .nil
  | cons n ns ih =>
    intro us r
    rw [List.map_cons] at r
    cases r with
    | cons r1 r2 =>
      obtain ⟨t, e⟩ := r1
      subst e
      exact .cons n t (ih r2)
section
variable {X : Cx} {e : Expr} {te : TE} {lo hi : Option Expr} {tl th : TO} {pos p2 : Pos}
def rCatT (K : PySem.W.Frag) : R2 := fun x y H Q => ∃ a b xs ys, x = .ref a /\ y = .ref b /\ SqT K H a xs /\ SqT K H b ys /\ xs ≠ [] /\ xs.length + ys.length <= sizeLine /\
  (ys = [] -> Q (.ref a) H) /\ (ys ≠ [] -> ∀ p, H p = none -> Q (.ref p) (upd H p (.tup (xs ++ ys))))
theorem Vals.nil_iff {xs : List V} {us : List Value} (r : Vals xs us) : us = [] ↔ xs = [] := by
  cases r with
  | nil => simp
  | cons _ _ => simp
theorem op_catT : OpR X (binaryOp .Add) (rCatT X.K) := by
  intro pins s σ H x y v u Q I rx ry h
  obtain ⟨a, b, xs, ys, rfl, rfl, ha, hb, hx, hz, q1, q2⟩ := h
  cases rx
  cases ry
  obtain ⟨its, r1, p1, _⟩ := I.tuple ha
  obtain ⟨its2, r2, p2, _⟩ := I.tuple hb
  refine HT.cat_tup p1 p2 (fun z => hx (r1.nil_iff.mp z)) (fun z => ⟨.ref a, H, I, rfl, q1 (r2.nil_iff.mp z)⟩) (fun z => ?_) (by rw [<- r1.length, <- r2.length]; exact hz)
  refine ⟨.ref s.heap.objs.size, _, I.laid (t' := s.toks) (o := .tup (xs ++ ys)) (fun b ob q => Heap.get?_push_of_some _ q) (Nat.le_refl _) ?_, rfl, q2 (fun w => z (r2.nil_iff.mpr w)) _ (I.hok.fresh (Nat.le_refl _))⟩
  exact ⟨by rw [List.length_append]; exact hz, _, r1.append r2, IsTupN.new _ _⟩
end
def ixN (n : Nat) (i : Int) : Option Nat := if 0 <= i then (if i < n then some i.toNat else none) else if -(n : Int) <= i then some (i + n).toNat else none
def atI {α : Type} (xs : List α) (i : Int) : Option α := (ixN xs.length i).bind fun j => xs[j]?
theorem ixN_seq {n : Nat} {i : Int} {j : Nat} (h : ixN n i = some j) : seqIndex? i n = some j /\ j < n /\ -(n : Int) <= i /\ i < n := by
  unfold ixN at h
  by_cases h0 : 0 <= i
  . rw [if_pos h0] at h
    by_cases h1 : i < n
    . rw [if_pos h1] at h
      have e : i.toNat = j := Option.some.inj h
      exact ⟨by rw [seqIndex_of h0 h1, e], by omega, by omega, h1⟩
    . rw [if_neg h1] at h; cases h
  . rw [if_neg h0] at h
    by_cases h1 : -(n : Int) <= i
    . rw [if_pos h1] at h
      have e : (i + n).toNat = j := Option.some.inj h
      exact ⟨by rw [seqIndex_neg (by omega) h1, e], by omega, h1, by omega⟩
    . rw [if_neg h1] at h; cases h
theorem atI_get {α : Type} {xs : List α} {i : Int} {v : α} (h : atI xs i = some v) : ∃ j, seqIndex? i xs.length = some j /\ xs[j]? = some v /\ j < xs.length /\ -(xs.length : Int) <= i /\ i < xs.length := by
  unfold atI at h
  cases e : ixN xs.length i with
  | none => rw [e] at h; cases h
  | some j =>
    rw [e] at h
    obtain ⟨h1, h2, h3, h4⟩ := ixN_seq e
    exact ⟨j, h1, h, h2, h3, h4⟩
def PlainIx (b : Expr) : Prop := ∀ o i, subscripted b false o i = operate [o, i] (getItem o i)
def IxR (X : Cx) (r : R2) : Prop :=
  ∀ (value slice : Expr) (pins : List (Addr × Obj)) (s : Shared) (σ : St) (H : Hp) (x y : V) (v u : Value) (Q : VK), Inv X pins σ H s -> RelV x v -> RelV y u -> r x y H Q ->
    subscripted slice false v u = operate [v, u] (getItem v u) -> wpAny (model X.prog X.w) X.A (subscriptTail value slice v u) (EP X pins σ Q) X.xe s
def MtR (X : Cx) (id : String) (r : V -> List V -> Hp -> VK -> Prop) : Prop :=
  ∀ (pins : List (Addr × Obj)) (s : Shared) (σ : St) (H : Hp) (x : V) (xs : List V) (v : Value) (us : List Value) (Q : VK), Inv X pins σ H s -> RelV x v -> Vals xs us -> r x xs H Q ->
    wpAny (model X.prog X.w) X.A (call (.builtin id) (v :: us)) (EP X pins σ Q) X.xe s
section
variable {X : Cx} {a b : Expr} {ta tb : TE} {pos : Pos}
theorem IxR.or {r r' : R2} (h : IxR X r) (h' : IxR X r') : IxR X (fun x y H Q => r x y H Q \/ r' x y H Q) := by
  intro value slice pins s σ H x y v u Q I rx ry q hs
  rcases q with q | q
  . exact h value slice pins s σ H x y v u Q I rx ry q hs
  . exact h' value slice pins s σ H x y v u Q I rx ry q hs
theorem pe_ix {r : R2} (hr : IxR X r) (ha : PE X a ta) (hb : PE X b tb) (hs : PlainIx b) : PE X (.Subscript a b pos) (tOp r ta tb) := by
  intro pins s σ H Q I h
  exact Subscript_ (binT ha hb I h fun v u s2 x y H2 I2 rx ry q => hr a b pins s2 σ H2 x y v u Q I2 rx ry q (hs _ _))
def rIxL (K : PySem.W.Frag) : R2 := fun x y H Q => ∃ p xs i v, x = .ref p /\ y = .int i /\ SqL K H p xs /\ atI xs i = some v /\ Q v H
def rIxT (K : PySem.W.Frag) : R2 := fun x y H Q => ∃ p xs i v, x = .ref p /\ y = .int i /\ SqT K H p xs /\ atI xs i = some v /\ Q v H
def rIxS : R2 := fun x y H Q => ∃ z i c, x = .str z /\ y = .int i /\ z.length <= sizeLine /\ atI z.cps.toList i = some c /\ Q (.str ⟨#[c]⟩) H
theorem ix_list : IxR X (rIxL X.K) := by
  intro value slice pins s σ H x y v u Q I rx ry h hs
  obtain ⟨p, xs, i, z, rfl, rfl, hq, he, q⟩ := h
  cases rx
  obtain ⟨t, rfl⟩ := ry
  obtain ⟨its, r, pl, hz⟩ := I.list hq
  obtain ⟨j, h1, h2, h3, h4, h5⟩ := atI_get he
  obtain ⟨w, ew, rw'⟩ := r.get h2
  have hl := r.length
  have hn := line63
  have fin : EP X pins σ Q w s := ⟨z, H, I, rw', q⟩
  by_cases h0 : 0 <= i
  . have hj : i.toNat = j := by
      rw [seqIndex_of h0 h5] at h1
      exact Option.some.inj h1
    exact item_listR pl.isList h0 (by omega) (by rw [hj]; simpa using ew) fin hs
  . have hj : (i + (its.toArray.size : Int)).toNat = j := by
      rw [seqIndex_neg (by omega) h4] at h1
      rw [List.size_toArray, <- hl]
      exact Option.some.inj h1
    exact subscriptTail_builtinR (x := w) pl.isList.typeIs slot_list_getitem.lookup
      (wpAny_getItem_list_neg (Q := fun r s' => r = w /\ EP X pins σ Q r s') pl.isList (by omega) (by rw [List.size_toArray] <;> omega) (by omega) (by rw [hj]; simpa using ew) ⟨rfl, fin⟩) hs
theorem ix_tup : IxR X (rIxT X.K) := by
  intro value slice pins s σ H x y v u Q I rx ry h hs
  obtain ⟨p, xs, i, z, rfl, rfl, hq, he, q⟩ := h
  cases rx
  obtain ⟨t, rfl⟩ := ry
  obtain ⟨its, r, pl, hz⟩ := I.tuple hq
  obtain ⟨j, h1, h2, h3, h4, h5⟩ := atI_get he
  obtain ⟨w, ew, rw'⟩ := r.get h2
  have hl := r.length
  have hn := line63
  have fin : EP X pins σ Q w s := ⟨z, H, I, rw', q⟩
  exact subscriptTail_builtinR (x := w) pl.typeIs slot_tuple_getitem.lookup
    (getItem_tuple (j := j) (Q := fun r s' => r = w /\ EP X pins σ Q r s') pl (by omega) (by omega) (by rw [List.size_toArray, <- hl]; exact h1) (by simpa using ew) ⟨rfl, fin⟩) hs
theorem ix_str : IxR X rIxS := by
  intro value slice pins s σ H x y v u Q I rx ry h hs
  obtain ⟨z, i, c, rfl, rfl, hz, he, q⟩ := h
  obtain ⟨t, rfl⟩ := rx
  obtain ⟨t', rfl⟩ := ry
  obtain ⟨j, h1, h2, h3, h4, h5⟩ := atI_get he
  have hl : z.cps.toList.length = z.length := by simp [Str.length]
  rw [hl] at h1 h4 h5
  have hn := line63
  exact tail_any (typeIs_str s z t) slot_str_getitem.lookup (getItem_str (c := c) (by
    have e1 : decide (i < -(2 ^ 63 : Int)) = false := decide_eq_false (by omega)
    have e2 : decide (i ≥ 2 ^ 63) = false := decide_eq_false (by omega)
    rw [e1, e2, Bool.or_false]) (by rw [h1]; simpa using h2) ⟨.str ⟨#[c]⟩, H, I.tok _, ⟨_, rfl⟩, q⟩) hs
def rIx (K : PySem.W.Frag) : R2 := fun x y H Q => rIxL K x y H Q \/ rIxT K x y H Q \/ rIxS x y H Q
theorem ix_seq : IxR X (rIx X.K) := ix_list.or (ix_tup.or ix_str)
theorem mapSeq_set (its : List Value) (n j : Nat) (u : Value) : Obj.mapSeq (·.setIfInBounds j u) { cls := .type "list", data := .seq its.toArray n } = { cls := .type "list", data := .seq (its.set j u).toArray n } := by
  simp [Obj.mapSeq]
theorem Inv.lst {pins : List (Addr × Obj)} {σ : St} {H : Hp} {s : Shared} {p : Addr} {xs : List V} (I : Inv X pins σ H s) (h : H p = some (.lst xs)) :
    ∃ (its : List Value) (n : Nat), Vals xs its /\ s.heap.get? p = some { cls := .type "list", data := .seq its.toArray n } /\ xs.length <= sizeLine := by
  obtain ⟨z, its, n, r, e⟩ := I.hok p _ h
  exact ⟨its, n, r, e, z⟩
theorem Inv.lstUpd {pins : List (Addr × Obj)} {σ : St} {H : Hp} {s : Shared} {p : Addr} {xs ys : List V} {its its' : List Value} {n n' : Nat} {f : Obj -> Obj} (I : Inv X pins σ H s) (h : H p = some (.lst xs))
    (ho : s.heap.get? p = some { cls := .type "list", data := .seq its.toArray n }) (hf : f { cls := .type "list", data := .seq its.toArray n } = { cls := .type "list", data := .seq its'.toArray n' }) (r : Vals ys its') (hz : ys.length <= sizeLine) (t : Nat) :
    Inv X pins σ (upd H p (.lst ys)) { s with heap := s.heap.update p f, toks := t } := by
  have e : (s.heap.update p f).get? p = some { cls := .type "list", data := .seq its'.toArray n' } := by
    rw [Heap.get?_update_self f ho (by rw [hf] <;> rfl), hf]
  refine I.write (x := p) (e := p) (by rw [h]; trivial) (.inl rfl) (fun b u hb q => (Heap.get?_update_other _ _ (Ne.symm hb)).trans q) ⟨_, e⟩ ?_
  exact ⟨hz, its', n', r, e⟩
def rSetL : V -> V -> V -> Hp -> (Hp -> Prop) -> Prop := fun o i v H Q => ∃ p xs k j, o = .ref p /\ i = .int k /\ H p = some (.lst xs) /\ ixN xs.length k = some j /\ Q (upd H p (.lst (xs.set j v)))
theorem set_list : PSet X rSetL := by
  intro pins s σ H o i v ov iv u Q I ro ri rv h
  obtain ⟨p, xs, k, j, rfl, rfl, hp, hj, q⟩ := h
  cases ro
  obtain ⟨t, rfl⟩ := ri
  obtain ⟨its, n, r, ho, hz⟩ := I.lst hp
  obtain ⟨h1, h2, h3, h4⟩ := ixN_seq hj
  have hl := r.length
  have hn := line63
  have I' : Inv X pins σ (upd H p (.lst (xs.set j v))) { s with heap := s.heap.update p (Obj.mapSeq (·.setIfInBounds j u)) } :=
    I.lstUpd hp ho (mapSeq_set its n j u) (r.set rv j) (by rw [List.length_set]; exact hz) s.toks
  by_cases h0 : 0 <= k
  . have hk : k.toNat = j := by
      rw [seqIndex_of h0 h4] at h1
      exact Option.some.inj h1
    exact PySem.W.ki_setAt ho h0 (by omega) (by rw [List.size_toArray, <- hl]; exact h4) (by rw [hk]; exact ⟨_, I', q⟩)
  . have hk : (k + (its.toArray.size : Int)).toNat = j := by
      rw [seqIndex_neg (by omega) h3] at h1
      rw [List.size_toArray, <- hl]
      exact Option.some.inj h1
    exact PySem.W.ki_setBack ho (by omega) (by rw [List.size_toArray, <- hl]; exact h3) (by omega) (by rw [hk]; exact ⟨_, I', q⟩)
def flatV : V -> Bool
  | .non => true
  | .bl _ => true
  | .int _ => true
  | .str _ => true
  | _ => false
def eqV : V -> V -> Bool
  | .non, .non => true
  | .bl a, .bl b => a == b
  | .bl a, .int b => (if a then 1 else 0) == b
  | .int a, .bl b => a == (if b then 1 else 0)
  | .int a, .int b => a == b
  | .str a, .str b => a == b
  | _, _ => false
theorem eqAt_V {A : Around} {s : Shared} {y x : V} {u v : Value} (ry : RelV y u) (rx : RelV x v) (fy : flatV y = true) (fx : flatV x = true) : SeqAt.EqAt A s u v (eqV y x) := by
  cases y with
  | non =>
    cases ry
    cases x with
    | non => cases rx; exact SeqAt.EqAt.same _
    | bl b => cases rx; exact SeqAt.EqAt.none_bool b
    | int b => obtain ⟨t, rfl⟩ := rx; exact SeqAt.EqAt.none_int b t
    | str b => obtain ⟨t, rfl⟩ := rx; exact SeqAt.EqAt.none_str b t
    | _ => exact absurd (show false = true from fx) Bool.false_ne_true
  | bl a =>
    cases ry
    cases x with
    | non => cases rx; exact SeqAt.EqAt.bool_none a
    | bl b => cases rx; exact SeqAt.EqAt.bool_bool a b
    | int b => obtain ⟨t, rfl⟩ := rx; exact SeqAt.EqAt.bool_int a b t
    | str b => obtain ⟨t, rfl⟩ := rx; exact SeqAt.EqAt.bool_str a b t
    | _ => exact absurd (show false = true from fx) Bool.false_ne_true
  | int a =>
    obtain ⟨t', rfl⟩ := ry
    cases x with
    | non => cases rx; exact SeqAt.EqAt.int_none a t'
    | bl b => cases rx; exact SeqAt.EqAt.int_bool a t' b
    | int b => obtain ⟨t, rfl⟩ := rx; exact SeqAt.EqAt.int_int a t' b t
    | str b => obtain ⟨t, rfl⟩ := rx; exact SeqAt.EqAt.int_str a t' b t
    | _ => exact absurd (show false = true from fx) Bool.false_ne_true
  | str a =>
    obtain ⟨t', rfl⟩ := ry
    cases x with
    | non => cases rx; exact SeqAt.EqAt.str_none a t'
    | bl b => cases rx; exact SeqAt.EqAt.str_bool a t' b
    | int b => obtain ⟨t, rfl⟩ := rx; exact SeqAt.EqAt.str_int a t' b t
    | str b => obtain ⟨t, rfl⟩ := rx; exact SeqAt.EqAt.str_str a t' b t
    | _ => exact absurd (show false = true from fx) Bool.false_ne_true
  | _ => exact absurd (show false = true from fy) Bool.false_ne_true
def eqU (x : V) (u : Value) : Bool := match u with
  | .none => eqV .non x
  | .bool b => eqV (.bl b) x
  | .int i _ => eqV (.int i) x
  | .str z _ => eqV (.str z) x
  | _ => false
theorem eqU_of {x y : V} {u : Value} (r : RelV y u) (f : flatV y = true) : eqU x u = eqV y x := by
  cases y with
  | non => cases r; rfl
  | bl b => cases r; rfl
  | int i => obtain ⟨t, rfl⟩ := r; rfl
  | str z => obtain ⟨t, rfl⟩ := r; rfl
  | _ => exact absurd (show false = true from f) Bool.false_ne_true
theorem any_eqU {x : V} : ∀ {xs : List V} {us : List Value}, Vals xs us -> xs.all flatV = true -> us.any (eqU x) = xs.any fun y => eqV y x
  | _, _, .nil, _ => rfl
  | y :: xs, u :: us, .cons r t, f => by
    rw [List.all_cons, Bool.and_eq_true] at f
    rw [List.any_cons, List.any_cons, eqU_of r f.1, any_eqU t f.2]
theorem mem_eqAt {A : Around} {s : Shared} {x : V} {v : Value} (rx : RelV x v) (fx : flatV x = true) : ∀ {xs : List V} {us : List Value}, Vals xs us -> xs.all flatV = true -> ∀ u ∈ us, SeqAt.EqAt A s u v (eqU x u)
  | _, _, .nil, _ => fun u hu => by cases hu
  | y :: xs, u :: us, .cons r t, f => fun u' hu => by
    rw [List.all_cons, Bool.and_eq_true] at f
    rcases List.mem_cons.mp hu with rfl | hu
    . rw [eqU_of r f.1]; exact eqAt_V r rx f.1 fx
    . exact mem_eqAt rx fx t f.2 u' hu
def inV (x : V) (xs : List V) : Bool := xs.any fun y => eqV y x
def rIn (K : PySem.W.Frag) (neg : Bool) : R2 := fun x y H Q => ∃ p xs, y = .ref p /\ (SqL K H p xs \/ SqT K H p xs) /\ flatV x = true /\ xs.all flatV = true /\ Q (.bl (if neg then !inV x xs else inV x xs)) H
theorem op_in_seq : OpR X (compareOp .In) (rIn X.K false) := by
  intro pins s σ H x y v u Q I rx ry h
  obtain ⟨p, xs, rfl, hq, fx, fs, q⟩ := h
  cases ry
  rcases hq with hq | hq
  . obtain ⟨its, r, pl, hz⟩ := I.list hq
    refine SeqAt.in_listAt (eqU x) pl.isList (fun w hw => mem_eqAt rx fx r fs w (by simpa using hw)) ⟨.bl _, H, I, rfl, ?_⟩
    rw [show its.toArray.any (eqU x) = its.any (eqU x) by simp, any_eqU r fs]
    exact q
  . obtain ⟨its, r, pl, hz⟩ := I.tuple hq
    refine SeqAt.in_tupleAt (eqU x) pl (fun w hw => mem_eqAt rx fx r fs w (by simpa using hw)) ⟨.bl _, H, I, rfl, ?_⟩
    rw [show its.toArray.any (eqU x) = its.any (eqU x) by simp, any_eqU r fs]
    exact q
theorem call_list_of : CallR X (.type "list") (fun xs H Q => ∃ p ys, xs = [.ref p] /\ (SqL X.K H p ys \/ SqT X.K H p ys) /\ ∀ l, H l = none -> Q (.ref l) (upd H l (.lst ys))) := by
  intro pins s σ H xs us Q I r h
  obtain ⟨p, ys, rfl, hq, q⟩ := h
  obtain ⟨u, rfl, rx⟩ := vals1 r
  cases rx
  have fin : ∀ (its : List Value), Vals ys its -> ys.length <= sizeLine -> ∀ (h' : Heap) (c' : Nat), (∀ b o', s.heap.get? b = some o' -> h'.get? b = some o') ->
      h'.get? s.heap.objs.size = some { cls := .type "list", dict := none, data := .seq its.toArray c', slots := #[] } -> EP X pins σ Q (.ref s.heap.objs.size) { s with heap := h' } := fun its r' hz h' c' kp e =>
    ⟨.ref s.heap.objs.size, _, I.laid (t' := s.toks) kp (Nat.le_refl _) (show ObjOk X.prog X.w _ h' _ (.lst ys) from ⟨hz, its, c', r', e⟩), rfl, q _ (I.hok.fresh (Nat.le_refl _))⟩
  rcases hq with hq | hq
  . obtain ⟨its, r', pl, hz⟩ := I.list hq
    have hlen := r'.length
    obtain ⟨o, ho, hc, n, hd⟩ := pl.isList
    exact call_list_seq p (.inl rfl) ho hc hd (fun h' c' kp e => fin its r' hz h' c' kp e) (by simp only [List.size_toArray] <;> omega)
  . obtain ⟨its, r', pl, hz⟩ := I.tuple hq
    have hlen := r'.length
    obtain ⟨o, ho, hc, n, hd⟩ := pl
    exact call_list_seq p (.inr rfl) ho hc hd (fun h' c' kp e => fin its r' hz h' c' kp e) (by simp only [List.size_toArray] <;> omega)
theorem call_tuple_of : CallR X (.type "tuple") (fun xs H Q => ∃ p ys, xs = [.ref p] /\ ((SqL X.K H p ys /\ ∀ l, H l = none -> Q (.ref l) (upd H l (.tup ys))) \/ (SqT X.K H p ys /\ Q (.ref p) H))) := by
  intro pins s σ H xs us Q I r h
  obtain ⟨p, ys, rfl, h⟩ := h
  obtain ⟨u, rfl, rx⟩ := vals1 r
  cases rx
  rcases h with ⟨hq, q⟩ | ⟨hq, q⟩
  . obtain ⟨its, r', pl, hz⟩ := I.list hq
    have hlen := r'.length
    refine call_tuple_list pl.isList (fun h' kp => ?_) (by simp only [List.size_toArray] <;> omega)
    have I1 : Inv X pins σ H { s with heap := h' } := I.kept (t' := s.toks) kp
    have I2 : Inv X pins σ (upd H h'.objs.size (.tup ys)) { s with heap := h'.push { cls := .type "tuple", data := .seq its.toArray } } :=
      I1.laid (t' := s.toks) (fun b o e => Heap.get?_push_of_some _ e) (Nat.le_refl _) (show ObjOk X.prog X.w _ _ _ (.tup ys) from ⟨hz, its, r', IsTupN.new _ _⟩)
    exact ⟨.ref h'.objs.size, _, I2, rfl, q _ (I1.hok.fresh (Nat.le_refl _))⟩
  . obtain ⟨its, r', pl, hz⟩ := I.tuple hq
    exact call_tuple_same pl ⟨.ref p, H, I, rfl, q⟩
def tyV (K : PySem.W.Frag) (T : String) (x : V) (H : Hp) : Prop := match x with
  | .str _ => T = "str"
  | .int _ => T = "int"
  | .ref p => (T = "list" /\ ∃ xs, SqL K H p xs) \/ (T = "tuple" /\ ∃ o, K.lookup p = some o /\ o.cls = .type "tuple" /\ o.dict = none) \/
      (T = "dict" /\ ((∃ kvs, H p = some (.dK kvs)) \/ ∃ kvs, H p = some (.dT kvs))) \/ (T = "set" /\ ∃ S n, H p = some (.set S n))
  | _ => False
theorem tyV_is {pins : List (Addr × Obj)} {σ : St} {H : Hp} {s : Shared} {T : String} {x : V} {v : Value} (I : Inv X pins σ H s) (r : RelV x v) (ty : tyV X.K T x H) :
    s.TypeIs v T /\ ∀ a, v = .ref a -> ∃ ob, s.heap.get? a = some ob /\ ob.dict = none := by
  cases x with
  | str z =>
    obtain ⟨t, rfl⟩ := r
    cases (show T = "str" from ty)
    exact ⟨typeIs_str s z t, fun _ e => nomatch e⟩
  | int i =>
    obtain ⟨t, rfl⟩ := r
    cases (show T = "int" from ty)
    exact ⟨typeIs_int s i t, fun _ e => nomatch e⟩
  | ref p =>
    cases r
    rcases ty with ⟨rfl, xs, hq⟩ | ⟨rfl, o, hk, hc, hd⟩ | ⟨rfl, hk⟩ | ⟨rfl, S, n, hk⟩
    . obtain ⟨its, _, pl, _⟩ := I.list hq
      refine ⟨pl.isList.typeIs, fun a e => ?_⟩
      cases e
      obtain ⟨o, n, e, c, hd, _⟩ := pl
      exact ⟨o, e, hd⟩
    . refine ⟨⟨o, I.kIn p o hk, hc⟩, fun a e => ?_⟩
      cases e
      exact ⟨o, I.kIn _ o hk, hd⟩
    . have z : ∃ o, s.heap.get? p = some o /\ o.ExactDict := by
        rcases hk with ⟨kvs, hk⟩ | ⟨kvs, hk⟩
        . obtain ⟨_, _, _, _, o, _, _, e, ex, _⟩ := I.hok p _ hk
          exact ⟨o, e, ex⟩
        . obtain ⟨_, _, _, _, o, _, _, e, ex, _⟩ := I.hok p _ hk
          exact ⟨o, e, ex⟩
      obtain ⟨o, e, ex⟩ := z
      refine ⟨⟨o, e, ex.1⟩, fun a e2 => ?_⟩
      cases e2
      exact ⟨o, e, ex.2.1⟩
    . obtain ⟨o, _, _, _, e, ex, _⟩ := I.hok p _ hk
      refine ⟨⟨o, e, ex.1⟩, fun a e2 => ?_⟩
      cases e2
      exact ⟨o, e, ex.2.1⟩
  | _ => exact False.elim ty
def tBM0 (K : PySem.W.Frag) (T : String) (r : V -> List V -> Hp -> VK -> Prop) (to : TE) : TE := fun σ H Q => to σ H fun x H1 => tyV K T x H1 /\ r x [] H1 Q
def tBM (K : PySem.W.Frag) (T : String) (r : V -> List V -> Hp -> VK -> Prop) (to : TE) (t : TA) : TE := fun σ H Q => to σ H fun x H1 => tyV K T x H1 /\ t σ H1 fun xs H2 => r x xs H2 Q
variable {o e : Expr} {es : List Expr} {to : TE} {t : TA} {name : Str} {apos cpos : Pos} {T id : String} {r : V -> List V -> Hp -> VK -> Prop}
theorem pe_bm0 (pa : PlainAttrs T) (slot : Slot T name id) (hty : typeOf (.builtin id) = pure (.type "method_descriptor")) (hm : MtR X id r) (ho : PE X o to)
    (hbase : attributeBase o name X.env (eval o X.env) = eval o X.env := by rfl) (hline : (apos.endLine == cpos.line) = true := by rfl) : PE X (.Call (.Attribute o name apos) [] [] cpos) (tBM0 X.K T r to) := by
  intro pins s σ H Q I h
  refine wpAny_Call_method0_late hbase hline (thn (ho pins s σ H _ I h) fun v s1 ⟨x, H1, I1, r1, ty, q1⟩ => ?_)
  obtain ⟨h1, h2⟩ := tyV_is I1 r1 ty
  exact ⟨T, id, pa, slot, hty, h1, h2, Calls.callWith_builtin rfl (PySem.evalArgs_none (hm pins s1 σ H1 x [] v [] Q I1 r1 .nil q1))⟩
theorem pe_bm (pa : PlainAttrs T) (slot : Slot T name id) (hty : typeOf (.builtin id) = pure (.type "method_descriptor")) (hm : MtR X id r) (ho : PE X o to) (ha : PA X (e :: es) t)
    (hbase : attributeBase o name X.env (eval o X.env) = eval o X.env := by rfl)
    (hfew : ((backTo cpos (starEach (e :: es) X.env)).all (fun x => !x.1) && (backToKw cpos (keywordEach [] X.env)).all (fun x => x.1.isSome)
      && decide ((e :: es).length + ([] : List Keyword).length + (if ([] : List Keyword).isEmpty then 0 else 1) < 30)) = true := by rfl)
    (hline : (apos.endLine == cpos.line) = true := by rfl) (hs : starEach (e :: es) X.env = (false, eval e X.env) :: starEach es X.env := by rfl) (hplain : (backTo cpos (starEach es X.env)).any (·.1) = false := by rfl) :
    PE X (.Call (.Attribute o name apos) (e :: es) [] cpos) (tBM X.K T r to t) := by
  intro pins s σ H Q I h
  refine wpAny_Call_method_late hbase hfew hline rfl (thn (ho pins s σ H _ I h) fun v s1 ⟨x, H1, I1, r1, ty, q1⟩ => ?_)
  obtain ⟨h1, h2⟩ := tyV_is I1 r1 ty
  refine ⟨T, id, pa, slot, hty, h1, h2, ?_⟩
  have hA := ha cpos pins s1 σ H1 _ I1 q1
  rw [hs] at hA ⊢
  refine Calls.callWith_builtin (by show (false || (backTo cpos (starEach es X.env)).any (·.1)) = false; rw [hplain] <;> rfl) (Calls.evalArgs_plain ?_)
  exact thn hA fun us s2 ⟨vs, H2, I2, r2, q2⟩ => hm pins s2 σ H2 x vs v us Q I2 r1 r2 q2
end
def MtM (X : Cx) (id : String) (r : V -> List V -> Hp -> VK -> Prop) : Prop :=
  ∀ (pins : List (Addr × Obj)) (s : Shared) (σ : St) (H : Hp) (x : V) (xs : List V) (v : Value) (us : List Value) (Q : VK), Inv X pins σ H s -> RelV x v -> Vals xs us -> r x xs H Q ->
    wpAny (model X.prog X.w) X.A (call (.builtin id) (v :: us)) (EP X pins σ Q) X.xe s
theorem Vals.one : ∀ {x : V} {us : List Value}, Vals [x] us -> ∃ u, us = [u] /\ RelV x u
  | _, _, .cons r .nil => ⟨_, rfl, r⟩
theorem Vals.zero : ∀ {us : List Value}, Vals [] us -> us = []
  | _, .nil => rfl
theorem Vals.rep {xs : List V} {us : List Value} (h : Vals xs us) : ∀ k : Nat, Vals (List.replicate k xs).flatten (List.replicate k us).flatten
  | 0 => .nil
  | k + 1 => by
    rw [List.replicate_succ, List.replicate_succ, List.flatten_cons, List.flatten_cons]
    exact Vals.append h (Vals.rep h k)
theorem foldl_rep (its : List Value) : ∀ (k : Nat) (acc : List Value),
    List.foldl (fun x1 x2 => x1 ++ x2) acc.toArray (List.replicate k its.toArray) = (acc ++ (List.replicate k its).flatten).toArray
  | 0, acc => by simp
  | k + 1, acc => by
    have e : acc.toArray ++ its.toArray = (acc ++ its).toArray := by simp
    have e2 : (acc ++ its) ++ (List.replicate k its).flatten = acc ++ (List.replicate (k + 1) its).flatten := by
      rw [List.replicate_succ, List.flatten_cons, List.append_assoc]
    rw [<- e2, <- foldl_rep its k (acc ++ its), <- e, List.replicate_succ, List.foldl_cons]
section
variable {X : Cx} {pins : List (Addr × Obj)} {σ : St} {H : Hp} {s : Shared} {l b : Addr} {xs ys zs : List V}
theorem Inv.lset {its its' : List Value} {n : Nat} {f : Array Value -> Array Value} {t' : Nat} (I : Inv X pins σ H s) (hH : H l = some (.lst xs))
    (e : s.heap.get? l = some { cls := .type "list", data := .seq its.toArray n }) (hf : f its.toArray = its'.toArray) (hv : Vals ys its') (hz : ys.length <= sizeLine) :
    Inv X pins σ (upd H l (.lst ys)) { s with heap := s.heap.update l (Obj.mapSeq f), toks := t' } := by
  have q := PySem.IsL.update e f
  rw [hf] at q
  refine I.write (x := l) (e := l) (by rw [hH]; exact trivial) (.inl rfl) (fun b' u hb hu => (Heap.get?_update_other s.heap (Obj.mapSeq f) (Ne.symm hb)).trans hu) ⟨_, q⟩ ?_
  exact ⟨hz, its', _, hv, q⟩
theorem Inv.lnew {its : List Value} {t' : Nat} (I : Inv X pins σ H s) (hv : Vals ys its) (hz : ys.length <= sizeLine) :
    Inv X pins σ (upd H s.heap.objs.size (.lst ys)) { s with heap := s.heap.push { cls := .type "list", data := .seq its.toArray }, toks := t' } :=
  I.laid (fun _ _ q => Heap.get?_push_of_some _ q) (Nat.le_refl _) ⟨hz, its, 0, hv, Heap.get?_push_size _ rfl⟩
theorem Inv.fresh (I : Inv X pins σ H s) : H s.heap.objs.size = none := I.hok.fresh (Nat.le_refl _)
theorem Inv.lstM (I : Inv X pins σ H s) (hH : H l = some (.lst xs)) : xs.length <= sizeLine /\ ∃ (its : List Value) (n : Nat), Vals xs its /\ xs.length = its.length /\ s.heap.get? l = some { cls := .type "list", data := .seq its.toArray n } := by
  obtain ⟨z, its, n, r, e⟩ := I.hok l _ hH
  exact ⟨z, its, n, r, r.length, e⟩
theorem notLongL {n : Nat} (h : n <= sizeLine) : Builtin.List.listTooLong n = false := by
  unfold Builtin.List.listTooLong
  exact decide_eq_false (by omega)
end
section
variable {X : Cx}
def rAppend : V -> List V -> Hp -> VK -> Prop := fun x vs H Q => ∃ l xs y, x = .ref l /\ vs = [y] /\ H l = some (.lst xs) /\ xs.length < sizeLine /\ Q .non (upd H l (.lst (xs ++ [y])))
theorem mt_append : MtM X "list.append" rAppend := by
  intro pins s σ H x vs v us Q I rx rv h
  obtain ⟨l, xs, y, rfl, rfl, hH, hz, q⟩ := h
  cases rx
  obtain ⟨u, rfl, ru⟩ := rv.one
  obtain ⟨z, its, n, r, hl, e⟩ := I.lstM hH
  refine call_meets F.slot_list_append ⟨_, e, rfl⟩ F.entry_list_append (F.args_list_append_2 _ _) (PySem.list_append l its.toArray n u (by rw [List.size_toArray]; omega)) ⟨e, ?_⟩
  refine ⟨.non, _, I.lset (its' := its ++ [u]) hH e (by simp) (r.append (.cons ru .nil)) ?_, rfl, q⟩
  rw [List.length_append, List.length_singleton]
  omega
def rCat : R2 := fun x y H Q => ∃ l b xs zs, x = .ref l /\ y = .ref b /\ H l = some (.lst xs) /\ H b = some (.lst zs) /\ xs.length + zs.length <= sizeLine /\ ∀ p, H p = none -> Q (.ref p) (upd H p (.lst (xs ++ zs)))
theorem op_cat : OpR X (binaryOp .Add) rCat := by
  intro pins s σ H x y v u Q I rx ry h
  obtain ⟨l, b, xs, zs, rfl, rfl, hH, hB, hz, q⟩ := h
  cases rx
  cases ry
  obtain ⟨z, its, n, r, hl, e⟩ := I.lstM hH
  obtain ⟨z2, its2, n2, r2, hl2, e2⟩ := I.lstM hB
  refine PySem.P.add_list e e2 ?_ (by rw [List.size_toArray, List.size_toArray]; omega)
  have ea : its.toArray ++ its2.toArray = (its ++ its2).toArray := by simp
  rw [ea]
  exact ⟨.ref _, _, I.lnew (t' := s.toks) (r.append r2) (by rw [List.length_append]; omega), rfl, q _ I.fresh⟩
def rRep : R2 := fun x y H Q => ∃ l k xs, x = .ref l /\ y = .int k /\ H l = some (.lst xs) /\ -(2 ^ 63) <= k /\ k < 2 ^ 63 /\ xs.length * k.toNat <= sizeLine /\
  ∀ p, H p = none -> Q (.ref p) (upd H p (.lst (List.replicate k.toNat xs).flatten))
theorem len_rep {α : Type} (xs : List α) (k : Nat) : (List.replicate k xs).flatten.length = k * xs.length := by
  induction k with
  | zero => simp
  | succ k ih => rw [List.replicate_succ, List.flatten_cons, List.length_append, ih, Nat.succ_mul, Nat.add_comm]
theorem op_rep : OpR X (binaryOp .Mult) rRep := by
  intro pins s σ H x y v u Q I rx ry h
  obtain ⟨l, k, xs, rfl, rfl, hH, h1, h2, hz, q⟩ := h
  cases rx
  obtain ⟨t, rfl⟩ := ry
  obtain ⟨z, its, n, r, hl, e⟩ := I.lstM hH
  have hlen : its.toArray.size * k.toNat <= sizeLine := by rw [List.size_toArray, <- hl]; exact hz
  have hcap : ¬ its.toArray.size * k.toNat > (2 ^ 63 - 1) / 8 := by
    have : (sizeLine : Nat) <= (2 ^ 63 - 1) / 8 := by decide
    omega
  have hfit : ¬ (!Builtin.List.listFitsIndex k) = true := by
    rw [fitsIndex_both h1 h2]
    exact Bool.false_ne_true
  have hlong : ¬ Builtin.List.listTooLong (its.toArray.size * k.toNat) = true := by
    rw [notLongL hlen]
    exact Bool.false_ne_true
  have hnew : List.foldl (fun x1 x2 => x1 ++ x2) #[] (List.replicate (if its.toArray.isEmpty = true then 0 else k.toNat) its.toArray) = (List.replicate k.toNat its).flatten.toArray := by
    have f0 : ∀ m : Nat, List.foldl (fun x1 x2 => x1 ++ x2) #[] (List.replicate m its.toArray) = (List.replicate m its).flatten.toArray := fun m => by
      have := foldl_rep its m []
      rw [List.nil_append] at this
      exact this
    rw [f0]
    cases its with
    | nil => simp
    | cons a r' => rw [if_neg (by simp)]
  refine wpAny_binaryOp_repeat_ref (T := "list") (U := "int") (by decide) ⟨_, e, rfl⟩ (fun s' => typeIs_int s' k t) noFill_list_mul F.fills_int_mul F.slot_int_rmul repeat_list F.slot_int_index.lookup
    (call_meets F.slot_int_rmul (typeIs_int s k t) F.entry_int_rmul (F.args_int_rmul_2 _ _) (int___rmul___int_list k t l its.toArray n)
      ⟨e, rfl, ⟨_, e, rfl⟩, call_meets F.slot_list_mul ⟨_, e, rfl⟩ F.entry_list_mul (F.args_list_mul_2 _ _) (AutoListH.list___mul___list_int_3 l its.toArray n k t hfit hcap hlong) ⟨e, ?_⟩⟩)
  rw [hnew]
  exact ⟨.ref _, _, I.lnew (t' := s.toks) (r.rep k.toNat) (by rw [len_rep, Nat.mul_comm]; exact hz), rfl, q _ I.fresh⟩
end
section
variable {prog : Program} {w : World} {A : Around} {E : Value -> Shared -> Prop} {s : Shared}
end
section
variable {X : Cx}
end
end L2
namespace Att
open PySem PySem.W PySem.Calls PyProof.Rows
theorem ints_of_wellAll {P : Params} {h : Heap} : ∀ (ns : List Int) (vs : List Value), WellAll P h vs (ns.map WData.int) -> IntsAre vs ns := by
  intro ns
  induction ns with
  | nil =>
    intro vs w
    rw [List.map_nil] at w
    cases w
    exact .nil
  | cons n ns ih =>
    intro vs w
    rw [List.map_cons] at w
    cases w with
    | cons a b =>
      cases a
      exact .cons _ _ (ih _ b)
theorem script_of {l : OpenLaw} {n : Nat} (hn : l.most = some n) {P : Params} {h : Heap} {args : List WData} {vals : List Value}
    (hpre : l.row.toRowW.claim.pre args = true) (hwl : WellAll P h vals args) :
    ∃ a vs ns, vals = [Value.ref a] /\ args = [WData.list (ns.map WData.int)] /\ h.get? a = some { cls := .type "list", data := .seq vs.toArray } /\ IntsAre vs ns /\ ns.length <= n := by
  have hsh : WShape.hasAll [] args [.list .int] = true := (pre_splitW hpre).1
  have hc : l.pre.holds [] { args := args } = true := (pre_splitW hpre).2
  obtain ⟨d, r, rfl, h1, h2⟩ := hasAllW_cons hsh
  obtain rfl := hasAllW_nil h2
  obtain ⟨xs, rfl, h3⟩ := hasW_list h1
  obtain ⟨ns, rfl⟩ := items_int h3
  have hlen : ns.length <= n := by
    unfold OpenLaw.pre at hc
    have h4 : (WTm.not (.lt (.lit (.int (n : Int))) (.len (.arg 0)))).holds [] { args := [.list (ns.map .int)] } = true := by
      have h4 := (holds_andW hc).1
      rw [hn] at h4
      exact h4
    have h5 := condW_of h4 (w_not (w_lt w_lit (w_len_list (w_arg rfl))))
    rw [List.length_map] at h5
    refine Nat.le_of_not_lt fun q => ?_
    have q' : (n : Int) < ((ns.length : Nat) : Int) := by omega
    first
      | (rw [decide_eq_true q'] at h5; exact absurd h5 (by decide))
      | (simp at h5; omega)
  cases hwl with
  | cons w1 w2 =>
    cases w2
    cases w1 with
    | list ho hall => exact ⟨_, _, ns, rfl, rfl, ho, ints_of_wellAll ns _ hall, hlen⟩
theorem post_true (l : OpenLaw) (args : List WData) : l.row.toRowW.claim.post args (.bool true) args = true :=
  postW_of (r := l.row.toRowW) (X := (true == true))
    (show WShape.has [] (.bool true) .bool = true by first | rfl | decide | simp [WShape.has, WShape.arms, WShape.armsAll])
    (show (WTm.eq .res (.lit (.bool true))).value [] { args := args, res := some (.bool true), after := args } = some (.bool (true == true)) from w_eq_bool (w_res rfl) w_lit) rfl
theorem attach_call {l : OpenLaw} {n : Nat} {q : Program} {loose : List Str} {XP : (Str -> Option Value) -> Heap -> Prop} {YP : World -> Heap -> Prop} {d : DefRec}
    (hn : l.most = some n) (hdf : d.params.defaults = [])
    (call : ∀ (w : World) (s₀ s₁ : Shared) (mg mb : Str -> Option Value) (fa : Addr) (o : Obj) (pm cd doc : Value) (a : Addr) (vs : List Value) (ns : List Int),
      Ground q loose [] XP w s₀ mg mb s₁.heap -> YP w s₁.heap ->
      s₁.heap.get? fa = some o -> o.data = .func (docDef d.name d.params d.body d.scope pm cd doc) -> s₁.heap.CodeRec cd d.name -> mg d.name = some (.ref fa) ->
      s₁.heap.get? a = some { cls := .type "list", data := .seq vs.toArray } -> IntsAre vs ns -> ns.length <= n -> s₁.gens = #[] ->
      codeAny (model l.prog w) callerA (.call (.ref fa) ⟨[.ref a], []⟩) (fun r s' => r = .ok (.ret (.bool true)) /\ OldK s₁.heap s'.heap /\ s'.os = s₁.os /\ AllBare s'.gens) s₁) :
    WalkO q loose XP YP l.row.toRowW d [] (fun f vs => PySem.call f vs) := by
  intro w s₀ s₁ mg mb G Y fa o pm cd doc dV kV ho hd hcd hD hmg hg args vals as hpre hlay hrd hwl hlo
  obtain rfl : dV = .none := Dflts.none hD hdf
  obtain rfl : kV = .none := Dflts.noKw hD
  obtain ⟨a, vs, ns, rfl, rfl, hobj, hints, hlen⟩ := script_of hn hpre hwl
  refine enter_call (codeAny_mono (call w s₀ s₁ mg mb fa o pm cd doc a vs ns G Y ho (fd_plain hd) hcd hmg hobj hints hlen hg) fun r s' hq => ?_)
  obtain ⟨rfl, h2, h3, h4⟩ := hq
  exact ⟨.inl ⟨.bool true, .bool true, [], rfl, fun _ => rfl, .bool true, post_true l _, fun _ => ⟨List.Pairwise.nil, fun _ hm => (nomatch hm)⟩⟩, h2, h3, h4⟩
section
variable {prog : Program} {w : World} {A : Around} {E : Value -> Shared -> Prop} {s : Shared} {K : Frag}
def noObjs (h : Heap) : Heap := { h with objs := #[] }
theorem noObjs_get (h : Heap) (b : Addr) : (noObjs h).get? b = none := by
  cases e : (noObjs h).get? b with
  | none => rfl
  | some o => exact absurd (Heap.lt_size e) (Nat.not_lt_zero _)
theorem fr_all {h : Heap} {L : Addr} {m : Str -> Option Value} (n : h.Ns L m) : Fr (noObjs h) L h m :=
  ⟨n, fun b o e => (by rw [noObjs_get] at e; cases e), Nat.zero_le _⟩
end
end Att
namespace L2
open PySem PySem.Spec PyProof.Rows
theorem vals_ints : ∀ {vs : List Value} {ns : List Int}, IntsAre vs ns -> Vals (ns.map V.int) vs
  | _, _, .nil => .nil
  | _, _, .cons n t h => .cons ⟨t, rfl⟩ (vals_ints h)
def Only (H : Hp) : Prop := ∀ b, H b = none \/ ∃ o xs, H b = some (.frz o (.lst xs))
theorem law_call {P : Program} {w : World} {K : PySem.W.Frag} {mg mb : Str -> Option Value} {CX : CXT} {k : Nat} {fa a : Addr} {fd : FuncData} {x : Str} {sp : Sp} {s₁ : Shared} {vs : List Value} {ns : List Int}
    (KX : K.In s₁.heap) (hns : s₁.heap.Ns mainGlobals mg) (hb : s₁.heap.Ns builtinsNs mb) (hbb : ∀ x : Str, x ≠ "__name__" -> mb x = bootBuiltins x) (hlim : s₁.heap.NoLimit) (hg : s₁.gens = #[])
    (ha : s₁.heap.get? a = some { cls := .type "list", data := .seq vs.toArray }) (hi : IntsAre vs ns) (hl : ns.length <= sizeLine) (hr : Room k callerA)
    (F : ∀ base : Heap, K.In base -> base.Ns mainGlobals mg -> FnOk P w K mg base CX k fa fd [x] sp) (hbind : ∀ (s : Shared) (u : Value), BindsTo s fd ⟨[u], []⟩ [(x, u)])
    (hsp : ∀ H : Hp, Only H -> SqL K H a (ns.map V.int) -> sp [.ref a] H (fun v _ => v = .bl true) fun _ _ _ => False)
    (hCX : ∀ H e s', CX [] H s₁ (fun _ _ _ => False) e s' -> False) :
    codeAny (model P w) callerA (.call (.ref fa) ⟨[.ref a], []⟩) (fun r s' => r = .ok (.ret (.bool true)) /\ OldK s₁.heap s'.heap /\ s'.os = s₁.os /\ AllBare s'.gens) s₁ := by
  have rv := vals_ints hi
  have lenV := hi.length
  -- from an abstract heap in which nothing but the script may be tracked
  have core : ∀ H : Hp, Only H -> SqL K H a (ns.map V.int) -> HOk P w H s₁.heap -> (∀ b, H b ≠ none -> b = a) -> (H a ≠ none -> K.lookup a = none) ->
      codeAny (model P w) callerA (.call (.ref fa) ⟨[.ref a], []⟩) (fun r s' => r = .ok (.ret (.bool true)) /\ OldK s₁.heap s'.heap /\ s'.os = s₁.os /\ AllBare s'.gens) s₁ := by
    intro H hO hS hok hA hK
    have base_of : ∀ {b : Addr} {o : Obj}, s₁.heap.get? b = some o -> H b = none -> (hidT s₁.heap H).get? b = some o := fun e n => hidT_get e n
    have noA : ∀ {b : Addr} {o : Obj} {es : Array DictEntry} {ep : Nat}, s₁.heap.get? b = some o -> o.data = .dict es ep -> H b = none := fun {b o es ep} e d => by
      cases q : H b with
      | none => rfl
      | some u =>
        have e' : b = a := hA b (by rw [q]; simp)
        subst e'
        rw [ha] at e; cases e
        have d' : Data.seq vs.toArray _ = Data.dict es ep := d
        cases d'
    have nsK : ∀ {b : Addr} {m : Str -> Option Value}, s₁.heap.Ns b m -> (hidT s₁.heap H).Ns b m := fun {b m} ⟨o, es, ep, e, d, r⟩ => ⟨o, es, ep, base_of e (noA e d), d, r⟩
    have hKb : K.In (hidT s₁.heap H) := fun b o e => base_of (KX b o e) (by
      cases q : H b with
      | none => rfl
      | some u =>
        have e' : b = a := hA b (by rw [q]; simp)
        subst e'
        rw [hK (by rw [q]; simp)] at e; cases e)
    have hM : Mod K mg (hidT s₁.heap H) := ⟨hKb, nsK hns, ⟨mb, nsK hb, hbb⟩, let ⟨mc, h1, h2⟩ := hlim; ⟨mc, nsK h1, h2⟩⟩
    have e0 : Env0 P w K mg (hidT s₁.heap H) callerA [] s₁ H := ⟨rfl, hM, fun b o e => of_hidT e, Nat.le_of_eq (hidT_size _ _), trivial, fun b hb => absurd (show b ∈ ([] : List Addr) from hb) (by simp), hok, .of_eq hg⟩
    refine codeAny_mono ((F _ hKb (nsK hns)).run callerA [] s₁ H ⟨[.ref a], []⟩ [.ref a] [.ref a] _ _ hr e0 (hbind s₁ (.ref a)) (.cons rfl .nil) (hsp H hO hS)) fun r s' h => ?_
    cases r with
    | error e => exact (hCX H e s' h).elim
    | ok fl =>
      cases fl with
      | next => exact False.elim h
      | brk => exact False.elim h
      | cont => exact False.elim h
      | ret u =>
        obtain ⟨v, H', os, bare, un, hok', r', q⟩ := h
        have q' : v = .bl true := q
        subst q'
        obtain rfl : u = Value.bool true := r'
        refine ⟨rfl, OldK.of_keep fun b o e => ?_, os, bare⟩
        cases q : H b with
        | none => exact un.keep b o e q (by intro z; exact absurd (show b ∈ ([] : List Addr) from z) (by simp)) (by simp)
        | some u =>
          rcases hO b with z | ⟨ob, xs, z⟩
          . rw [q] at z; cases z
          . have z2 := un.frzs b ob _ z
            obtain ⟨e1, _⟩ := hok b _ z
            obtain ⟨e2, _⟩ := hok' b _ z2
            rw [e] at e1; cases e1
            exact e2
  cases hk : K.lookup a with
  | some o =>
    -- the script is one of the module's own objects
    have e := KX a o hk
    rw [ha] at e
    cases e
    refine core (fun _ => none) (fun _ => .inl rfl) (.inr ⟨_, vs.toArray, _, hk, rfl, rfl, rfl, by rw [List.size_toArray, lenV]; exact hl, by simpa using rv⟩) (fun b u z => by have z' : (none : Option HO) = some u := z; cases z') (fun b z => absurd rfl z) fun z => absurd rfl z
  | none =>
    refine core (fun b => if b = a then some (.frz { cls := .type "list", data := .seq vs.toArray } (.lst (ns.map V.int))) else none) (fun b => ?_) (.inl (.inr ⟨{ cls := .type "list", data := .seq vs.toArray }, if_pos rfl⟩)) (fun b u z => ?_) (fun b z => ?_) fun _ => hk
    . by_cases hb : b = a
      . exact .inr ⟨_, _, if_pos hb⟩
      . exact .inl (if_neg hb)
    . by_cases hb : b = a
      . have z' := (if_pos hb).symm.trans z
        cases z'
        subst hb
        exact ⟨ha, by rw [List.length_map]; exact hl, vs, _, rv, ha⟩
      . have z' := (if_neg hb).symm.trans z
        cases z'
    . by_cases hb : b = a
      . exact hb
      . exact absurd (if_neg hb) z
theorem walk_of {l : PySem.W.OpenLaw} {n k : Nat} {q : Program} {loose : List Str} {XP : (Str -> Option Value) -> Heap -> Prop} {YP : World -> Heap -> Prop} {d : DefRec} {K : Params -> PySem.W.Frag} {CX : World -> CXT} {sp : World -> Sp} {x : Str}
    (hn : l.most = some n) (hn2 : n <= sizeLine) (hdf : d.params.defaults = []) (hr : Room k callerA)
    (hY : ∀ (w : World) (h : Heap), YP w h -> (K w.params).In h)
    (F : ∀ (w : World) (mg : Str -> Option Value) (fa : Addr) (h : Heap), (K w.params).In h -> h.Ns mainGlobals mg -> mg d.name = some (.ref fa) ->
      ∃ fd : FuncData, (∀ (s : Shared) (u : Value), BindsTo s fd ⟨[u], []⟩ [(x, u)]) /\
        ∀ base : Heap, (K w.params).In base -> base.Ns mainGlobals mg -> FnOk l.prog w (K w.params) mg base (CX w) k fa fd [x] (sp w))
    (hsp : ∀ (w : World) (H : Hp) (a : Addr) (ns : List Int), ns.length <= n -> Only H -> SqL (K w.params) H a (ns.map V.int) -> sp w [.ref a] H (fun v _ => v = .bl true) fun _ _ _ => False)
    (hCX : ∀ (w : World) (H : Hp) (s : Shared) (e : Value) (s' : Shared), CX w [] H s (fun _ _ _ => False) e s' -> False) :
    PySem.W.WalkO q loose XP YP l.row.toRowW d [] (fun f vs => PySem.call f vs) := by
  refine Att.attach_call hn hdf fun w s₀ s₁ mg mb fa o pm cd doc a vs ns G Y ho hd hcd hmg hobj hints hlen hg => ?_
  have KX := hY w _ Y
  obtain ⟨fd, hb, hF⟩ := F w mg fa _ KX G.T.g hmg
  exact law_call KX G.T.g G.T.b G.T.builtins G.T.nolimit hg hobj hints (Nat.le_trans hlen hn2) hr hF hb (fun H hO hS => hsp w H a ns hlen hO hS) fun H e s' => hCX w H s₁ e s'
def defArgs (s : Stmt) : Arguments := match s with
  | .FunctionDef _ a _ _ _ _ _ _ _ _ => a
  | _ => { posonlyargs := [], args := [], vararg := none, kwonlyargs := [], kw_defaults := [], kwarg := none, defaults := [] }
def defBody (s : Stmt) : List Stmt := match s with
  | .FunctionDef _ _ b _ _ _ _ _ _ _ => b
  | _ => []
def defScope (s : Stmt) : Scope := match s with
  | .FunctionDef _ _ _ _ _ _ sc _ _ _ => sc
  | _ => { kind := .function, names := [], isGenerator := false, isCoroutine := false }
abbrev CX0 : CXT := fun _ _ _ _ _ _ => False
abbrev E0 : XK := fun _ _ _ => False
theorem pass0 {X : Cx} : Passes CX0 X E0 := fun _ _ _ _ _ _ _ h => h.elim
structure Fun (K : PySem.W.Frag) (x qual : Str) (st : Stmt) (f : Addr) (fd : FuncData) : Prop where
  ex : ∃ (oc : Value) (od : Option Addr) (kV doc pm : Value) (an : Option Addr) (cdv ct : Value) (osl : Array (Option Value)),
    fd = PySem.W.fnOf x qual (defArgs st) (defBody st) (defScope st) .none kV doc pm an cdv ct /\ K.lookup f = some ⟨oc, od, .func fd, osl⟩ /\ PySem.W.codeIn K cdv qual = true
  kp : PySem.W.keepIn K (.ref f) = true
section
variable {P : Program} {w : World} {K : PySem.W.Frag} {mg : Str -> Option Value} {base : Heap}
theorem Fun.ok {x qual : Str} {st : Stmt} {f : Addr} {fd : FuncData} {N ps : List Str} {k : Nat} {sp : Sp} (F : Fun K x qual st f fd) (S : FnScope N ps (defScope st)) (len : ∀ vs H Q E, sp vs H Q E -> vs.length = ps.length)
    (hbody : ∀ (cdv : Value) (A : Around) (outer : List Env) (s : Shared) (H : Hp) (vs : List V) (Q : VK) (E : XK), Room k (A.deeper (envOfC qual (defScope st) s.heap.objs.size f cdv)) -> sp vs H Q E ->
      ∃ t, PSs (cxOf CX0 P w K mg base N qual (defScope st) f cdv A outer s H E).nox (defBody st) t /\ t { nx := fun _ H' => Q .non H', rt := Q } (start N vs) H) : FnOk P w K mg base CX0 (k + 1) f fd ps sp := by
  obtain ⟨oc, od, kV, doc, pm, an, cdv, ct, osl, rfl, lk, hcd⟩ := F.ex
  refine fn_of lk hcd S len fun A outer s H vs Q E hr hsp => ?_
  obtain ⟨t, h, q⟩ := hbody cdv A outer s H vs Q E hr hsp
  exact ⟨t, h.nox, q⟩
theorem Fun.binds {x qual : Str} {st : Stmt} {f : Addr} {fd : FuncData} {ps : List Str} (F : Fun K x qual st f fd)
    (h : ∀ (kV doc pm : Value) (an : Option Addr) (cdv ct : Value) (us : List Value), us.length = ps.length -> bindArgs (PySem.W.fnOf x qual (defArgs st) (defBody st) (defScope st) .none kV doc pm an cdv ct) ⟨us, []⟩ = pure (ps.zip us)) : Binds K fd ps [] := by
  obtain ⟨oc, od, kV, doc, pm, an, cdv, ct, osl, rfl, lk, hcd⟩ := F.ex
  exact .all (h kV doc pm an cdv ct)
theorem fun_mk {x qual : Str} {st : Stmt} {f : Addr} {oc : Value} {od an : Option Addr} {osl : Array (Option Value)} {kV doc pm cdv ct : Value} (l : K.lookup f = some ⟨oc, od, .func (PySem.W.fnOf x qual (defArgs st) (defBody st) (defScope st) .none kV doc pm an cdv ct), osl⟩)
    (c : PySem.W.codeIn K cdv qual = true) (k : PySem.W.keepIn K (.ref f) = true) : Fun K x qual st f (PySem.W.fnOf x qual (defArgs st) (defBody st) (defScope st) .none kV doc pm an cdv ct) := ⟨⟨oc, od, kV, doc, pm, an, cdv, ct, osl, rfl, l, c⟩, k⟩
end
theorem small1000 {n : Nat} (h : n <= 1000) : n < sizeLine := Nat.lt_of_le_of_lt h (by decide)
section
variable {X : Cx}
end
theorem iteF {A B : Prop} (h : B) : if false = true then A else B := by
  rw [if_neg Bool.false_ne_true]
  exact h
theorem ite2 {c A B : Prop} [Decidable c] (h1 : c -> A) (h2 : ¬ c -> B) : if c then A else B := by
  by_cases h : c
  . rw [if_pos h]
    exact h1 h
  . rw [if_neg h]
    exact h2 h
def Same (H H' : Hp) : Prop := ∀ b o, H b = some o -> H' b = some o
theorem Same.refl (H : Hp) : Same H H := fun _ _ h => h
theorem Same.trans {H H1 H2 : Hp} (a : Same H H1) (b : Same H1 H2) : Same H H2 := fun c o h => b c o (a c o h)
theorem Same.free {H H' : Hp} (e : Same H H') {l : Addr} (h : H' l = Option.none) : H l = Option.none := by
  cases q : H l with
  | none => rfl
  | some o =>
    rw [e l o q] at h
    cases h
theorem cellsFrom_app : ∀ (names : List (Str × NameKind)) (n : Nat) (acc : List (Str × Addr)), cellsFrom n names acc = cellsFrom n names [] ++ acc
  | [], _, _ => rfl
  | (name, kind) :: r, n, acc => by
    unfold cellsFrom
    split
    . rw [cellsFrom_app r (n + 1) ((name, n) :: acc), cellsFrom_app r (n + 1) [(name, n)], List.append_assoc]; rfl
    . exact cellsFrom_app r n acc
theorem cellsFrom_kind : ∀ (names : List (Str × NameKind)) (n : Nat) (acc : List (Str × Addr)) (x : Str) (c : Addr), (x, c) ∈ cellsFrom n names acc -> (x, c) ∈ acc \/ (x, NameKind.cell) ∈ names
  | [], _, _, _, _, h => .inl h
  | (name, kind) :: r, n, acc, x, c, h => by
    unfold cellsFrom at h
    split at h
    . rename_i hk
      rcases cellsFrom_kind r _ _ x c h with h | h
      . rcases List.mem_cons.mp h with e | h
        . cases e
          have : kind = .cell := by simpa using hk
          subst this
          exact .inr List.mem_cons_self
        . exact .inl h
      . exact .inr (List.mem_cons_of_mem _ h)
    . rcases cellsFrom_kind r _ _ x c h with h | h
      . exact .inl h
      . exact .inr (List.mem_cons_of_mem _ h)
theorem lookup_app {α : Type} {x : Str} : ∀ (l r : List (Str × α)), (l ++ r).lookup x = (match l.lookup x with | some c => some c | none => r.lookup x)
  | [], r => rfl
  | (k, v) :: l, r => by
    show List.lookup x ((k, v) :: (l ++ r)) = _
    rw [List.lookup_cons, List.lookup_cons]
    cases x == k with
    | true => rfl
    | false => exact lookup_app l r
theorem lookup_none_of {α : Type} {x : Str} : ∀ {l : List (Str × α)}, (∀ c, (x, c) ∉ l) -> l.lookup x = none
  | [], _ => rfl
  | (k, v) :: l, h => by
    rw [List.lookup_cons]
    cases hb : x == k with
    | true =>
      have : x = k := by simpa using hb
      subst this
      exact absurd List.mem_cons_self (h v)
    | false => exact lookup_none_of fun c hc => h c (List.mem_cons_of_mem _ hc)
def clOf (cells : List (Str × Addr)) : List (Str × NameKind) -> List (Str × Addr) -> List (Str × Addr)
  | [], acc => acc
  | (n, k) :: r, acc => if k == .free then clOf cells r ((n, (cells.lookup n).getD 0) :: acc) else clOf cells r acc
theorem closureFor_eq {scope : Scope} {env : Env} (h : ∀ y ∈ scope.names, y.2 = .free -> ∃ c, env.cells.lookup y.1 = some c) : closureFor scope env = pure (clOf env.cells scope.names []) := by
  have all : ∀ (names : List (Str × NameKind)) (acc : List (Str × Addr)), (∀ y ∈ names, y.2 = .free -> ∃ c, env.cells.lookup y.1 = some c) ->
      (forIn names acc fun (x : Str × NameKind) cs => (if (x.2 == NameKind.free) = true then (do let a <- cellOf env x.1; pure (ForInStep.yield ((x.1, a) :: cs))) else pure (ForInStep.yield cs) : Sem (ForInStep (List (Str × Addr))))) = (pure (clOf env.cells names acc) : Sem _) := by
    intro names
    induction names with
    | nil => intro acc _; rfl
    | cons y r ih =>
      intro acc hy
      obtain ⟨n, k⟩ := y
      rw [List.forIn_cons]
      have hr : ∀ y ∈ r, y.2 = .free -> ∃ c, env.cells.lookup y.1 = some c := fun y hm => hy y (List.mem_cons_of_mem _ hm)
      unfold clOf
      by_cases hk : (k == NameKind.free) = true
      . obtain ⟨c, e⟩ := hy (n, k) List.mem_cons_self (by simpa using hk)
        rw [if_pos hk, if_pos hk]
        have e2 : cellOf env n = pure c := by unfold cellOf; rw [show env.cells.lookup n = some c from e]
        rw [e2]
        rw [show env.cells.lookup n = some c from e]
        exact ih _ hr
      . rw [if_neg hk, if_neg hk]
        exact ih _ hr
  have q := all scope.names [] h
  unfold closureFor
  refine Eq.trans ?_ (congrArg (fun t => t >>= pure) q |>.trans (by rfl))
  congr 1
theorem clOf_mem {cells : List (Str × Addr)} : ∀ (names : List (Str × NameKind)) (acc : List (Str × Addr)) (x : Str) (c : Addr), (∀ y ∈ names, y.2 = .free -> ∃ c, cells.lookup y.1 = some c) -> (x, c) ∈ clOf cells names acc -> (x, c) ∈ acc \/ ((x, NameKind.free) ∈ names /\ cells.lookup x = some c)
  | [], _, _, _, _, h => .inl h
  | (n, k) :: r, acc, x, c, hy, h => by
    have hr : ∀ y ∈ r, y.2 = .free -> ∃ c, cells.lookup y.1 = some c := fun y hm => hy y (List.mem_cons_of_mem _ hm)
    unfold clOf at h
    split at h
    . rename_i hk
      have hk' : k = .free := by simpa using hk
      subst hk'
      obtain ⟨d, e⟩ := hy (n, .free) List.mem_cons_self rfl
      rcases clOf_mem r _ x c hr h with h | ⟨h, h'⟩
      . rcases List.mem_cons.mp h with e' | h
        . obtain ⟨e1, e2⟩ := Prod.mk.inj e'
          rw [show cells.lookup n = some d from e] at e2
          subst e1
          exact .inr ⟨List.mem_cons_self, by rw [e2]; exact e⟩
        . exact .inl h
      . exact .inr ⟨List.mem_cons_of_mem _ h, h'⟩
    . rcases clOf_mem r _ x c hr h with h | ⟨h, h'⟩
      . exact .inl h
      . exact .inr ⟨List.mem_cons_of_mem _ h, h'⟩
theorem clOf_keep {cells : List (Str × Addr)} {x : Str} : ∀ (names : List (Str × NameKind)) (acc : List (Str × Addr)), (∃ c, (x, c) ∈ acc) -> ∃ c, (x, c) ∈ clOf cells names acc
  | [], _, h => h
  | (n, k) :: r, acc, ⟨c, h⟩ => by
    unfold clOf
    split
    . exact clOf_keep r _ ⟨c, List.mem_cons_of_mem _ h⟩
    . exact clOf_keep r _ ⟨c, h⟩
theorem clOf_has {cells : List (Str × Addr)} {x : Str} : ∀ (names : List (Str × NameKind)) (acc : List (Str × Addr)), (x, NameKind.free) ∈ names -> ∃ c, (x, c) ∈ clOf cells names acc
  | (n, k) :: r, acc, h => by
    unfold clOf
    rcases List.mem_cons.mp h with e | h
    . cases e
      rw [if_pos (by decide)]
      exact clOf_keep r _ ⟨_, List.mem_cons_self⟩
    . split
      . exact clOf_has r _ h
      . exact clOf_has r _ h
theorem lookup_of_mem {α : Type} {x : Str} : ∀ {l : List (Str × α)}, (∃ c, (x, c) ∈ l) -> ∃ c, l.lookup x = some c
  | (k, v) :: l, ⟨c, h⟩ => by
    rw [List.lookup_cons]
    cases hb : x == k with
    | true => exact ⟨v, rfl⟩
    | false =>
      rcases List.mem_cons.mp h with e | h
      . cases e; simp at hb
      . exact lookup_of_mem ⟨c, h⟩
def relS (scope sc : Scope) : Scope :=
  { scope with names := scope.names.map fun (n, k) => if (k == .free && sc.kind == .function && sc.names.lookup n == some .cell) then (n, .cell) else (n, k) }
structure CompScope (scope sc : Scope) : Prop where
  kind : scope.kind = .function
  nd : (scope.names.map (·.1)).Nodup
  fr : ∀ y ∈ scope.names, y.2 = .free -> sc.names.lookup y.1 = some .cell \/ sc.names.lookup y.1 = some .free
theorem lookup_nd {α : Type} : ∀ {l : List (Str × α)} {x : Str} {c : α}, (l.map (·.1)).Nodup -> (x, c) ∈ l -> l.lookup x = some c
  | (k, v) :: l, x, c, nd, h => by
    obtain ⟨n1, n2⟩ := List.nodup_cons.mp (show (k :: l.map (·.1)).Nodup from nd)
    rw [List.lookup_cons]
    rcases List.mem_cons.mp h with e | h
    . cases e; simp
    . have hne : ¬ x = k := fun e => n1 (by rw [<- e]; exact List.mem_map.mpr ⟨(x, c), h, rfl⟩)
      have : (x == k) = false := by simpa using hne
      rw [this]
      exact lookup_nd n2 h
theorem relS_lookup {scope sc : Scope} {x : Str} : (relS scope sc).names.lookup x = (scope.names.lookup x).map fun k => if (k == .free && sc.kind == .function && sc.names.lookup x == some .cell) then NameKind.cell else k := by
  show (scope.names.map _).lookup x = _
  generalize scope.names = names
  induction names with
  | nil => rfl
  | cons y r ih =>
    obtain ⟨n, k⟩ := y
    rw [List.map_cons]
    by_cases hc : (k == .free && sc.kind == .function && sc.names.lookup n == some .cell) = true
    . show List.lookup x ((if (k == .free && sc.kind == .function && sc.names.lookup n == some .cell) = true then (n, NameKind.cell) else (n, k)) :: _) = _
      rw [if_pos hc, List.lookup_cons, List.lookup_cons]
      cases hb : x == n with
      | true =>
        have hx : x = n := by simpa using hb
        subst hx
        show some NameKind.cell = some (if _ then _ else _)
        rw [if_pos hc]
      | false => exact ih
    . show List.lookup x ((if (k == .free && sc.kind == .function && sc.names.lookup n == some .cell) = true then (n, NameKind.cell) else (n, k)) :: _) = _
      rw [if_neg hc, List.lookup_cons, List.lookup_cons]
      cases hb : x == n with
      | true =>
        have hx : x = n := by simpa using hb
        subst hx
        show some k = some (if _ then _ else _)
        rw [if_neg hc]
      | false => exact ih
structure CArgs where
  pins : List (Addr × Obj)
  cells : List (Str × Addr)
  s : Shared
  H : Hp
  fp : List Addr
  C : Addr
def Cx.comp (X : Cx) (scope : Scope) (N' : List Str) (c : CArgs) : Cx where
  prog := X.prog
  w := X.w
  K := X.K
  mg := X.mg
  base := X.base
  A := X.A
  N := N'
  s₀ := c.s
  H₀ := c.H
  env := compEnvC scope c.cells c.C X.env
  outer := X.stack
  stack := X.stack
  ex := c.fp
  fn := fun x => scope.names.lookup x == some .cell
  calm := X.calm
  pn := X.pn ++ c.pins
  xe := fun _ _ => False
def cSt (own : Nat) (ix : List Nat) (σ : St) : St := List.replicate own none ++ ix.map fun i => (σ[i]?).join
section
variable {X : Cx} {pins : List (Addr × Obj)} {σ : St} {H : Hp} {s s4 : Shared} {fp : List Addr} {scope : Scope} {N' : List Str} {own : Nat} {ix : List Nat}
theorem comp_inv (I : Inv X pins σ H s) (f2 : ∀ b ∈ fp, FpOk X pins H b) (hob : ∀ b ∈ fp, ∃ o, s.heap.get? b = some o) (S : CompScope scope X.env.scope)
    (hlen : N'.length = own + ix.length) (hN : (N'.drop own).map some = ix.map (X.N[·]?)) (hfr : ∀ x ∈ N'.drop own, scope.names.lookup x = some .free)
    {C : Addr} (hC : s.heap.objs.size < C) (k4 : ∀ b o, s.heap.get? b = some o -> s4.heap.get? b = some o) (os4 : s4.os = s.os) (g4 : s4.gens = s.gens)
    (n4 : ∃ m, s4.heap.Ns C m) (own4 : ∀ x c, (x, c) ∈ cellsFrom (C + 1) scope.names [] -> s4.heap.IsCell c none /\ C + 1 <= c)
    (apart : (cellsFrom (C + 1) scope.names []).Pairwise fun x y => x.2 ≠ y.2) :
    Inv (X.comp scope N' ⟨pins, cellsFrom (C + 1) scope.names (clOf X.env.cells scope.names []), s, H, fp, C⟩) [] (cSt own ix σ) H s4 := by
  have hfree : ∀ y ∈ scope.names, y.2 = .free -> ∃ c, X.env.cells.lookup y.1 = some c := fun y hy h => I.ok.has y.1 (S.fr y hy h)
  -- a cell of the block
  have cases : ∀ x c, (cellsFrom (C + 1) scope.names (clOf X.env.cells scope.names [])).lookup x = some c ->
      ((x, c) ∈ cellsFrom (C + 1) scope.names [] /\ scope.names.lookup x = some .cell) \/ ((x, NameKind.free) ∈ scope.names /\ X.env.cells.lookup x = some c) := fun x c h => by
    rw [cellsFrom_app, lookup_app] at h
    cases e : (cellsFrom (C + 1) scope.names []).lookup x with
    | some d =>
      rw [e] at h
      cases h
      have m := mem_of_lookup e
      rcases cellsFrom_kind _ _ _ _ _ m with z | z
      . exact absurd z (by simp)
      . exact .inl ⟨m, lookup_nd S.nd z⟩
    | none =>
      rw [e] at h
      rcases clOf_mem _ _ _ _ hfree (mem_of_lookup h) with z | z
      . exact absurd z (by simp)
      . exact .inr z
  have oldlt : ∀ x c, X.env.cells.lookup x = some c -> c < s.heap.objs.size := fun x c e => let ⟨v, q⟩ := I.cell x c e; q.lt
  have kin : ∀ x, (relS scope X.env.scope).names.lookup x = some .cell \/ (relS scope X.env.scope).names.lookup x = some .free -> (scope.names.lookup x = some .cell \/ scope.names.lookup x = some .free) := fun x h => by
    rw [relS_lookup] at h
    cases e : scope.names.lookup x with
    | none => rw [e] at h; simp at h
    | some k =>
      rw [e] at h
      cases k with
      | cell => exact .inl rfl
      | free => exact .inr rfl
      | _ => exact absurd h (by simp)
  have hCn : ∀ b o, s.heap.get? b = some o -> b ≠ C := fun b o e z => by have := Heap.lt_size e; rw [z] at this; exact Nat.lt_irrefl _ (Nat.lt_trans this hC)
  have lk : ∀ x, (x, NameKind.free) ∈ scope.names -> ∀ c, X.env.cells.lookup x = some c -> (cellsFrom (C + 1) scope.names (clOf X.env.cells scope.names [])).lookup x = some c := fun x hx c hc => by
    have hl : scope.names.lookup x = some .free := lookup_nd S.nd hx
    rw [cellsFrom_app, lookup_app, lookup_none_of (l := cellsFrom (C + 1) scope.names []) fun d hd => ?_]
    . obtain ⟨d, hd⟩ := lookup_of_mem (clOf_has (cells := X.env.cells) scope.names [] hx)
      rcases clOf_mem _ _ _ _ hfree (mem_of_lookup hd) with z | ⟨_, z⟩
      . exact absurd z (by simp)
      . rw [hc] at z; cases z; exact hd
    . rcases cellsFrom_kind _ _ _ _ _ hd with z | z
      . exact absurd z (by simp)
      . rw [lookup_nd S.nd z] at hl; cases hl
  refine ⟨⟨I.ok.mod, S.kind, I.ok.glob, I.ok.blt, Nat.le_of_lt hC, fun x y c hx hy => ?_, fun x hx => ?_, fun x c hf hx => ?_, I.ok.hd, I.ok.frames, .inl rfl, fun b hb => ⟨?_, fun x c hx => ?_⟩, fun b o e => I.bs b o e, Nat.le_trans I.ok.bsz I.sz, fun b o e hb => ?_, fun b hb z => ?_, I.stack, I.stkFree⟩,
    os4, by rw [g4]; exact I.bare, Un.kept k4, ?_, fun x c hx => ?_, ?_, fun x c hx => ?_, fun p hp => ?_, I.hok.kept k4, ?_⟩
  . -- inj
    rcases cases x c hx with ⟨m1, _⟩ | ⟨_, m1⟩ <;> rcases cases y c hy with ⟨m2, _⟩ | ⟨_, m2⟩
    . exact name_of_addr apart m1 m2
    . exact absurd (Nat.lt_of_lt_of_le (Nat.lt_trans (oldlt y c m2) hC) (Nat.le_of_succ_le (own4 x c m1).2)) (Nat.lt_irrefl _)
    . exact absurd (Nat.lt_of_lt_of_le (Nat.lt_trans (oldlt x c m1) hC) (Nat.le_of_succ_le (own4 y c m2).2)) (Nat.lt_irrefl _)
    . exact I.ok.inj x y c m1 m2
  . -- has
    rcases kin x hx with h | h
    . have q := PySem.W.cellsFrom_some scope.names (C + 1) (clOf X.env.cells scope.names []) (.inl h)
      exact Option.isSome_iff_exists.mp q
    . obtain ⟨c, e⟩ := hfree (x, .free) (mem_of_lookup h) rfl
      exact ⟨c, lk x (mem_of_lookup h) c e⟩
  . -- cab
    rcases cases x c hx with ⟨m1, _⟩ | ⟨m1, _⟩
    . exact Nat.le_of_lt (Nat.lt_of_lt_of_le hC (Nat.le_of_succ_le (own4 x c m1).2))
    . have hl := lookup_nd S.nd m1
      have hf' : (scope.names.lookup x == some NameKind.cell) = true := hf
      rw [hl] at hf'; cases hf'
  . obtain ⟨o, e⟩ := hob b hb
    exact hCn b o e
  . intro z
    obtain ⟨o, e⟩ := hob b hb
    have hlt := Heap.lt_size e
    rcases cases x c hx with ⟨m1, _⟩ | ⟨_, m1⟩
    . subst z; exact absurd (Nat.lt_of_lt_of_le (Nat.lt_trans hlt hC) (Nat.le_of_succ_le (own4 x c m1).2)) (Nat.lt_irrefl _)
    . exact (f2 b hb).2.2.2.2.1 x c m1 z
  . -- noex
    have e1 := (I.ok.bs b o e).1
    rcases (f2 b hb).2.2.2.1 with z | z
    . exact I.ok.noex b o e z
    . exact absurd (Nat.lt_of_lt_of_le (Heap.lt_size e1) z) (Nat.lt_irrefl _)
  . -- exfs
    rcases List.mem_cons.mp (I.stkSub b z) with e | z
    . exact (f2 b hb).2.1 e
    . exact (f2 b hb).2.2.1 z
  . -- loc
    obtain ⟨m, hm⟩ := n4
    obtain ⟨m0, hn0, hl0⟩ := I.loc
    refine ⟨m, hm, fun i x v h1 h2 h3 => ?_⟩
    have h1 : N'[i]? = some x := h1
    unfold cSt at h2
    by_cases hi : i < own
    . rw [List.getElem?_append_left (by simpa using hi), List.getElem?_replicate] at h2
      split at h2 <;> cases h2
    . rw [List.getElem?_append_right (by simpa using hi), List.length_replicate, List.getElem?_map] at h2
      obtain ⟨j, hj⟩ : ∃ j, i = own + j := ⟨i - own, by omega⟩
      subst hj
      rw [Nat.add_sub_cancel_left] at h2
      cases e : ix[j]? with
      | none => rw [e] at h2; cases h2
      | some q =>
        rw [e] at h2
        have h2 : some (σ[q]?).join = some (some v) := h2
        have h2 : (σ[q]?).join = some v := Option.some.inj h2
        have hσ : σ[q]? = some (some v) := by
          cases eq : σ[q]? with
          | none => rw [eq] at h2; cases h2
          | some z => rw [eq] at h2; simp at h2; rw [h2]
        have hx : (N'.drop own)[j]? = some x := by rw [List.getElem?_drop]; exact h1
        have hNq : X.N[q]? = some x := by
          have := congrArg (·[j]?) hN
          simp only [List.getElem?_map, hx, e, Option.map_some] at this
          exact (Option.some.inj this).symm
        have hfx := hfr x (List.mem_of_getElem? hx)
        have hmem := mem_of_lookup hfx
        have kx := S.fr (x, .free) hmem rfl
        have vis : Vis X.env.scope x := .inr kx
        obtain ⟨u, r, l⟩ := hl0 q x v hNq hσ vis
        refine ⟨u, r, ?_⟩
        rcases l with ⟨k, _⟩ | ⟨k, c, hc, z⟩
        . exfalso
          have k' : X.env.scope.names.lookup x = some .local := k
          rcases kx with kx | kx
          . rw [show X.env.scope.names.lookup x = some .cell from kx] at k'; cases k'
          . rw [show X.env.scope.names.lookup x = some .free from kx] at k'; cases k'
        . refine .inr ⟨?_, c, lk x hmem c hc, z.keeps k4⟩
          show (relS scope X.env.scope).names.lookup x = some .cell \/ (relS scope X.env.scope).names.lookup x = some .free
          rw [relS_lookup, hfx]
          by_cases hc : (NameKind.free == .free && X.env.scope.kind == .function && X.env.scope.names.lookup x == some .cell) = true
          . exact .inl (by rw [Option.map_some, if_pos hc])
          . exact .inr (by rw [Option.map_some, if_neg hc])
  . rcases cases x c hx with ⟨m1, _⟩ | ⟨_, m1⟩
    . exact ⟨_, (own4 x c m1).1⟩
    . obtain ⟨v, q⟩ := I.cell x c m1
      exact ⟨v, q.keeps k4⟩
  . exact I.hok.fresh (Nat.le_of_lt hC)
  . rcases cases x c hx with ⟨m1, _⟩ | ⟨_, m1⟩
    . exact I.hok.fresh (Nat.le_of_lt (Nat.lt_of_lt_of_le hC (Nat.le_of_succ_le (own4 x c m1).2)))
    . exact I.freeC x c m1
  . have hp : p ∈ X.pn ++ pins := by
      have : p ∈ (X.pn ++ pins) ++ [] := hp
      rwa [List.append_nil] at this
    obtain ⟨e, n, ne, nf, d⟩ := I.pin p hp
    refine ⟨k4 _ _ e, n, hCn _ _ e, fun z => ?_, d⟩
    rcases List.mem_cons.mp (I.stkSub _ z) with q | q
    . exact ne q
    . exact nf q
  . unfold cSt
    rw [List.length_append, List.length_replicate, List.length_map]
    exact hlen.symm
end
section
variable {prog : Program} {w : World} {A : Around} {R : Result -> Shared -> Prop} {s : Shared}
theorem codeAny_compLoop_any {elt target iter : Expr} {ifs : List Expr} {scope : Scope} {pos : Pos} {it acc : Value} {env : Env} (I : Nat -> Shared -> Prop)
    (turn : ∀ n s, I n s -> wpAny (model prog w) A (pyNext it) (fun r s₁ => match r with
      | none => R (.ok .next) s₁
      | some v => wpAny (model prog w) A (letOwnedTupleGo target it v) (fun _ s₁' => wpAny (model prog w) A (assign target env v) (fun _ s₂ =>
          wpAny (model prog w) A (forIn ifs true fun c r => if r = true then do let ok <- isTrue c env (eval c env); pure (ForInStep.yield ok) else pure (ForInStep.yield r)) (fun ok s₃ =>
            if ok = true then wpAny (model prog w) A (eval elt env) (fun x s₄ =>
              wpAny (model prog w) A (call (.builtin "list.append") [acc, x]) (fun _ s₅ => ∃ m, m < n /\ I m s₅) (fun _ _ => False) s₄) (fun _ _ => False) s₃
            else ∃ m, m < n /\ I m s₃) (fun _ _ => False) s₂) (fun _ _ => False) s₁') (fun _ _ => False) s₁) (fun _ _ => False) s)
    (n : Nat) (h : I n s) :
    codeAny (model prog w) A (.compLoop (.ListComp elt [⟨target, iter, ifs, 0⟩] scope pos) 0 it acc env) R s := by
  refine codeAny_loop rfl I (fun n s hI => ?_) n h
  show wpAny _ A ((compTurn (.ListComp elt [⟨target, iter, ifs, 0⟩] scope pos) 0 it acc env).onRaise (fun x => do noteFrame x env; theTreesLotGoes x)) _ _ s
  refine wpAny_noted ?_
  rw [compTurn_list]
  refine wpAny_bind (wpAny_standAt (wpAny_bind (wpAny_mono (turn n s hI) (fun r s₁ h₁ => ?_) fun _ _ h' => h'.elim)))
  cases r with
  | none => exact wpAny_pure h₁
  | some v =>
    refine wpAny_bind (wpAny_mono h₁ (fun _ s₁' h₁' => ?_) fun _ _ h' => h'.elim)
    refine wpAny_bind (wpAny_mono h₁' (fun _ s₂ h₂ => wpAny_bind (wpAny_mono h₂ (fun ok s₃ h₃ => ?_) fun _ _ h' => h'.elim)) fun _ _ h' => h'.elim)
    cases ok with
    | false => exact wpAny_pure ⟨rfl, h₃⟩
    | true =>
      exact wpAny_bind (wpAny_bind (wpAny_mono h₃ (fun x s₄ h₄ => wpAny_bind (wpAny_mono h₄ (fun _ s₅ h₅ => wpAny_pure (wpAny_pure ⟨rfl, h₅⟩)) fun _ _ h' => h'.elim)) fun _ _ h' => h'.elim))
end
def PTs (X : Cx) (ifs : List Expr) (t : TT) : Prop :=
  ∀ (pins : List (Addr × Obj)) (s : Shared) (σ : St) (H : Hp) (Q : Bool -> Hp -> Prop), Inv X pins σ H s -> t σ H Q ->
    wpAny (model X.prog X.w) X.A (forIn ifs true fun c r => if r = true then do let ok <- isTrue c X.env (eval c X.env); pure (ForInStep.yield ok) else pure (ForInStep.yield r)) (TP X pins σ Q) X.xe s
def tTrue : TT := fun _ H Q => Q true H
theorem pts_nil {X : Cx} : PTs X [] tTrue := fun _ _ _ H _ I h => wpAny_tests_nil ⟨H, I, h⟩
theorem pts_one {X : Cx} {c : Expr} {t : TT} (h : PT X c t) : PTs X [c] t := fun pins s σ H Q I hq => wpAny_tests_one (h pins s σ H Q I hq)
def GOwn (own : Nat) (g : TG) : Prop := ∀ x σ H Q, g x σ H Q -> g x σ H fun σ' H' => (σ'.length = σ.length /\ ∀ i, own <= i -> σ'[i]? = σ[i]?) /\ Q σ' H'
def GsOwn (own : Nat) (g : TGs) : Prop := ∀ x σ H Q, g x σ H Q -> g x σ H fun σ' H' => (σ'.length = σ.length /\ ∀ i, own <= i -> σ'[i]? = σ[i]?) /\ Q σ' H'
theorem go_name {own i : Nat} (h : i < own) : GOwn own (gName i) := fun x σ H Q q =>
  ⟨⟨by simp, fun j hj => by rw [List.getElem?_set_ne (by omega)]⟩, q⟩
theorem gos_nil {own : Nat} : GsOwn own gNil := fun x σ H Q ⟨e, q⟩ => ⟨e, ⟨rfl, fun _ _ => rfl⟩, q⟩
def GMono (g : TG) : Prop := ∀ x σ H (Q Q' : St -> Hp -> Prop), (∀ σ H, Q σ H -> Q' σ H) -> g x σ H Q -> g x σ H Q'
def GsMono (g : TGs) : Prop := ∀ x σ H (Q Q' : St -> Hp -> Prop), (∀ σ H, Q σ H -> Q' σ H) -> g x σ H Q -> g x σ H Q'
theorem gm_name {i : Nat} : GMono (gName i) := fun _ _ _ _ _ h q => h _ _ q
theorem gms_nil : GsMono gNil := fun _ _ _ _ _ h ⟨e, q⟩ => ⟨e, h _ _ q⟩
theorem gms_cons {t : TG} {u : TGs} (h1 : GMono t) (h2 : GsMono u) : GsMono (gCons t u) := fun _ _ _ _ _ h ⟨v, r, e, q⟩ => ⟨v, r, e, h1 _ _ _ _ _ (fun _ _ q => h2 _ _ _ _ _ h q) q⟩
theorem gos_cons {own : Nat} {t : TG} {u : TGs} (m : GMono t) (mu : GsMono u) (h1 : GOwn own t) (h2 : GsOwn own u) : GsOwn own (gCons t u) := fun x σ H Q ⟨v, r, e, q⟩ =>
  ⟨v, r, e, m _ _ _ _ _ (fun σ' H' ⟨⟨e1, e2⟩, q⟩ => mu _ _ _ _ _ (fun σ'' H'' ⟨⟨e3, e4⟩, q⟩ => ⟨⟨e3.trans e1, fun i hi => (e4 i hi).trans (e2 i hi)⟩, q⟩) (h2 r σ' H' Q q)) (h1 v σ H _ q)⟩
theorem go_tup {own : Nat} {K : PySem.W.Frag} {n : Nat} {t : TGs} (h : GsOwn own t) : GOwn own (gTup K n t) := fun x σ H Q ⟨a, xs, e, s, l, q⟩ => ⟨a, xs, e, s, l, h _ _ _ _ q⟩
theorem cSt_own {own : Nat} {ix : List Nat} {σ : St} {i : Nat} {v : V} (h : (cSt own ix σ)[i]? = some (some v)) : own <= i := by
  unfold cSt at h
  by_cases hi : i < own
  . rw [List.getElem?_append_left (by simpa using hi), List.getElem?_replicate] at h
    split at h <;> cases h
  . omega
def CompTurns (J : It) (g : TG) (tc : TT) (te : TE) (σc : St) (Q : VK) (H1 : Hp) : Prop :=
  ∃ W : Nat -> Nat -> List V -> Hp -> Prop, (∃ m, W 0 m [] H1) /\ ∀ i m ys H, W i m ys H ->
    (J.stop i H /\ ∀ p, H p = none -> Q (.ref p) (upd H p (.lst ys))) \/
    (J.go i H /\ ys.length < sizeLine /\ ∃ N : List V -> Hp -> Prop, (∀ ys' H', N ys' H' -> ∃ m', m' < m /\ W (i + 1) m' ys' H') /\ ∀ x H', J.yld i H x H' -> g x σc H' fun σ4 H4 => tc σ4 H4 fun b H5 =>
      if b = true then te σ4 H5 fun y H6 => N (ys ++ [y]) H6 else N ys H5)
def tComp (wi : TI) (own : Nat) (ix : List Nat) (g : TG) (tc : TT) (te : TE) : TE := fun σ H Q => wi σ H fun J H1 => CompTurns J g tc te (cSt own ix σ) Q H1
section
variable {X : Cx} {pins : List (Addr × Obj)} {σ : St} {H : Hp} {s : Shared} {fp : List Addr} {it : Addr} {tn : Nat -> Heap -> Prop} {J : It} {tg iter elt : Expr} {ifs : List Expr} {scope : Scope} {pos : Pos} {N' : List Str} {own : Nat} {ix : List Nat} {g : TG} {tc : TT} {te : TE} {Q : VK} {E : Value -> Shared -> Prop}
theorem comp_block (I : Inv X pins σ H s) (T : Turn X.prog X.w X.K tg J fp it tn) (st : tn 0 s.heap) (f2 : ∀ b ∈ fp, FpOk X pins H b) (hc : X.calm = true) (S : CompScope scope X.env.scope)
    (hlen : N'.length = own + ix.length) (hN : (N'.drop own).map some = ix.map (X.N[·]?)) (hfr : ∀ x ∈ N'.drop own, scope.names.lookup x = some .free)
    (hg : ∀ c, PG (X.comp scope N' c) tg g) (hgo : GOwn own g) (ht : ∀ c, PTs (X.comp scope N' c) ifs tc) (he : ∀ c, PE (X.comp scope N' c) elt te)
    (hq : CompTurns J g tc te (cSt own ix σ) Q H) {RR : Value -> Addr -> Result -> Shared -> Prop}
    (fin : ∀ (D C : Addr) (s' : Shared) (H' : Hp) (ys : List V) (its : List Value) (n : Nat), s'.os = s.os -> AllBare s'.gens -> Un (frs X.stack) fp H H' s.heap s'.heap -> HOk X.prog X.w H' s'.heap -> (∃ m, s'.heap.Ns C m) -> H' C = none -> s.heap.objs.size <= C ->
      H' D = none -> s.heap.objs.size <= D -> D ≠ C -> s'.heap.get? D = some { cls := .type "list", data := .seq its.toArray n } -> Vals ys its -> ys.length <= sizeLine -> (∀ p, H' p = none -> Q (.ref p) (upd H' p (.lst ys))) -> RR (.ref D) C (.ok .next) s') :
    wpAny (model X.prog X.w) X.A (newList []) (fun acc s₃ => wpAny (model X.prog X.w) X.A (newFunctionEnv scope X.env.globals (clOf X.env.cells scope.names []) [] X.env.qual none .none (some X.env)) (fun cenv s₄ =>
      codeAny (model X.prog X.w) X.A (.compStart (.ListComp elt [⟨tg, iter, ifs, 0⟩] scope pos) 0 (.ref it) acc { cenv with scope := relabel scope X.env }) (RR acc cenv.locals) s₄) E s₃) E s := by
  obtain ⟨W, ⟨m0, w0⟩, turn⟩ := hq
  have hob : ∀ b ∈ fp, ∃ o, s.heap.get? b = some o := fun b hb => let ⟨o, e, _⟩ := T.obj 0 _ st b hb; ⟨o, e⟩
  refine wpAny_newObj_type ?_
  generalize hH1 : s.heap.push { cls := .type "list", dict := none, data := .seq ([] : List Value).toArray } = h1
  have hs1 : h1.objs.size = s.heap.objs.size + 1 := by rw [<- hH1, Heap.size_push]
  have k1 : ∀ b o, s.heap.get? b = some o -> h1.get? b = some o := fun b o e => by rw [<- hH1]; exact Heap.get?_push_of_some _ e
  have d1 : h1.get? s.heap.objs.size = some { cls := .type "list", data := .seq ([] : List Value).toArray } := by rw [<- hH1]; exact Heap.get?_push_size _ rfl
  simp only [newFunctionEnv, Option.isSome_some, if_true]
  refine wpAny_bind (wpAny_alloc ?_)
  generalize hH2 : (({ s with heap := h1 } : Shared).heap.push { cls := .type "dict", data := .dict #[] }) = h2
  have hH2' : h1.push { cls := .type "dict", data := .dict #[] } = h2 := hH2
  have hs2 : h2.objs.size = h1.objs.size + 1 := by rw [<- hH2', Heap.size_push]
  have k2 : ∀ b o, h1.get? b = some o -> h2.get? b = some o := fun b o e => by rw [<- hH2']; exact Heap.get?_push_of_some _ e
  have n2 : h2.Ns h1.objs.size (fun _ => none) := by rw [<- hH2']; exact Heap.Ns.new h1 (.type "dict")
  refine wpAny_bind (wpAny_layCells _ (fun name kind cells => by cases hkc : kind == NameKind.cell <;> simp [hkc]) _ _ _ _ ?_)
  have ok := cellsFrom_ok scope.names h2 (h1.objs.size + 1) [] ⟨fun _ _ hm => (nomatch hm), List.Pairwise.nil⟩ (by rw [hs2]; exact Nat.le_refl _)
  rw [hs2] at ok
  show wpAny _ _ (forIn ([] : List (Str × Value)) PUnit.unit _ >>= _) _ _ _
  rw [List.forIn_nil]
  refine wpAny_bind (wpAny_pure (wpAny_pure ?_))
  show codeAny _ _ (.compStart _ 0 (.ref it) (.ref s.heap.objs.size) (compEnvC scope (cellsFrom h2.objs.size scope.names (clOf X.env.cells scope.names [])) h1.objs.size X.env)) (RR (.ref s.heap.objs.size) h1.objs.size) { s with heap := pushCells h2 scope.names }
  rw [hs2]
  generalize hH3 : pushCells h2 scope.names = h3 at ok ⊢
  have k3 : ∀ b o, h2.get? b = some o -> h3.get? b = some o := fun b o e => by rw [<- hH3]; exact pushCells_keeps _ _ b o e
  have kk : ∀ b o, s.heap.get? b = some o -> h3.get? b = some o := fun b o e => k3 b o (k2 b o (k1 b o e))
  have d3 : h3.get? s.heap.objs.size = some { cls := .type "list", data := .seq ([] : List Value).toArray } := k3 _ _ (k2 _ _ d1)
  have hC : s.heap.objs.size < h1.objs.size := by rw [hs1]; exact Nat.lt_succ_self _
  have I3 : Inv (X.comp scope N' ⟨pins, cellsFrom (h1.objs.size + 1) scope.names (clOf X.env.cells scope.names []), s, H, fp, h1.objs.size⟩) [] (cSt own ix σ) H { s with heap := h3 } :=
    comp_inv (s4 := { s with heap := h3 }) I f2 hob S hlen hN hfr hC kk rfl rfl ⟨_, n2.keeps k3⟩ (fun x c hm => ok.empty x c hm) ok.apart
  generalize hcs : cellsFrom (h1.objs.size + 1) scope.names (clOf X.env.cells scope.names []) = cs at I3 ⊢
  generalize hCC : h1.objs.size = C at *
  generalize hDD : s.heap.objs.size = D at *
  have hY := I3.ok
  -- what is fixed of the records
  have sD : D ≠ C /\ (∀ x c, cs.lookup x = some c -> c ≠ D) /\ D ∉ frs X.stack /\ ∀ p ∈ X.pn ++ pins, p.1 ≠ D := by
    refine ⟨Nat.ne_of_lt hC, fun x c e z => ?_, fun z => ?_, fun p hp z => ?_⟩
    . subst z
      have e' := e
      rw [<- hcs, cellsFrom_app, lookup_app] at e'
      cases q : (cellsFrom (C + 1) scope.names []).lookup x with
      | some d =>
        rw [q] at e'; cases e'
        have := (ok.empty x c (mem_of_lookup q)).2
        exact absurd (Nat.lt_of_lt_of_le hC (Nat.le_of_succ_le this)) (Nat.lt_irrefl _)
      | none =>
        rw [q] at e'
        have hfree : ∀ y ∈ scope.names, y.2 = .free -> ∃ c, X.env.cells.lookup y.1 = some c := fun y hy h => I.ok.has y.1 (S.fr y hy h)
        rcases clOf_mem _ _ _ _ hfree (mem_of_lookup e') with z | ⟨_, z⟩
        . exact absurd z (by simp)
        . obtain ⟨v, q⟩ := I.cell x c z
          have := q.lt
          rw [hDD] at this
          exact Nat.lt_irrefl _ this
    . exact (I3.nofs (a := D) (by exact absurd z (by
        intro z'
        obtain ⟨_, o, ho, _⟩ := (show s.heap.FunFrames X.base X.stack from I.stack).mem z'
        have := Heap.lt_size ho
        rw [hDD] at this
        exact Nat.lt_irrefl _ this))) z
    . have := Heap.lt_size (I.pin p hp).1
      rw [z, hDD] at this
      exact Nat.lt_irrefl _ this
  have stat : ∀ {H' : Hp}, (∀ b ∈ fp, H' b = none) -> ∀ b ∈ fp, FpOk (X.comp scope N' ⟨pins, cs, s, H, fp, C⟩) [] H' b := fun {H'} hn b hb => by
    refine ⟨hn b hb, (hY.exf b hb).1, hY.exfs b hb, .inl hb, (hY.exf b hb).2, fun p hp => ?_⟩
    have hp : p ∈ (X.pn ++ pins) ++ [] := hp
    rw [List.append_nil] at hp
    exact (f2 b hb).2.2.2.2.2 p hp
  have statD : ∀ {H' : Hp}, H' D = none -> FpOk (X.comp scope N' ⟨pins, cs, s, H, fp, C⟩) [] H' D := fun {H'} hn => by
    refine ⟨hn, sD.1, sD.2.2.1, .inr (Nat.le_of_eq hDD), sD.2.1, fun p hp => ?_⟩
    have hp : p ∈ (X.pn ++ pins) ++ [] := hp
    rw [List.append_nil] at hp
    exact sD.2.2.2 p hp
  have loop : codeAny (model X.prog X.w) X.A (.compLoop (.ListComp elt [⟨tg, iter, ifs, 0⟩] scope pos) 0 (.ref it) (.ref D) (compEnvC scope cs C X.env)) (RR (.ref D) C) { s with heap := h3 } := by
    refine codeAny_compLoop_any (fun n s' => ∃ (i : Nat) (H' : Hp) (ys : List V) (its : List Value) (k : Nat), Inv (X.comp scope N' ⟨pins, cs, s, H, fp, C⟩) [] (cSt own ix σ) H' s' /\ tn i s'.heap /\ (∀ b ∈ fp, H' b = none) /\ H' D = none /\
      s'.heap.get? D = some { cls := .type "list", data := .seq its.toArray k } /\ Vals ys its /\ ys.length <= sizeLine /\ W i n ys H') ?_ m0
      ⟨0, H, [], [], 0, I3, T.keep _ _ _ st fun b _ o e => kk b o e, fun b hb => (f2 b hb).1, I.hok.fresh (Nat.le_of_eq hDD), d3, .nil, Nat.zero_le _, w0⟩
    rintro n s4 ⟨i, H4, ys, its, k, I4, st4, fr4, dn4, d4, rv4, z4, w4⟩
    rcases turn i n ys H4 w4 with ⟨stop, qn⟩ | ⟨go, zl, N, hN2, step⟩
    . have ID := I4.pinned (fp := [D]) (fun b hb => by rw [List.mem_singleton.mp hb]; exact statD dn4) (fun b hb => by rw [List.mem_singleton.mp hb]; exact ⟨_, d4, fun v z => nomatch z⟩)
      have nD : ∀ b ∈ fp, b ≠ D := fun b hb z => by
        obtain ⟨o, e⟩ := hob b hb
        have := Heap.lt_size e
        rw [z, hDD] at this
        exact Nat.lt_irrefl _ this
      have stat' : ∀ b ∈ fp, FpOk (X.comp scope N' ⟨pins, cs, s, H, fp, C⟩) ([] ++ pinsAt [D] s4.heap) H4 b := fun b hb => by
        obtain ⟨q1, q2, q3, q4, q5, q6⟩ := stat fr4 b hb
        refine ⟨q1, q2, q3, q4, q5, fun p hp => ?_⟩
        rcases List.mem_append.mp hp with z | z
        . exact q6 p (List.mem_append_left _ z)
        . have := (of_pinsAt (by simpa using z : p ∈ pinsAt [D] s4.heap)).1
          rw [List.mem_singleton.mp this]
          exact fun z => nD b hb z.symm
      refine thn (T.done (X.comp scope N' ⟨pins, cs, s, H, fp, C⟩) rfl rfl rfl hc i _ s4 _ H4 (fun _ _ => False) ID stat' st4 stop) fun r s5 ⟨hr, I5⟩ => ?_
      subst hr
      obtain ⟨m, hm, _⟩ := I5.loc
      refine fin D C s5 H4 ys its k I5.os I5.bare I5.base I5.hok ⟨m, hm⟩ I5.free (Nat.le_of_lt hC) dn4 (Nat.le_refl _) sD.1 ?_ rv4 z4 qn
      . exact (I5.pin (D, _) (List.mem_append_right _ (List.mem_append_right _ (mem_pinsAt (List.mem_singleton.mpr rfl) d4)))).1
    . have nD : ∀ b ∈ fp, b ≠ D := fun b hb z => by
        obtain ⟨o, e⟩ := hob b hb
        have := Heap.lt_size e
        rw [z, hDD] at this
        exact Nat.lt_irrefl _ this
      have ID := I4.pinned (fp := [D]) (fun b hb => by rw [List.mem_singleton.mp hb]; exact statD dn4) (fun b hb => by rw [List.mem_singleton.mp hb]; exact ⟨_, d4, fun v z => nomatch z⟩)
      have statP : ∀ {H' : Hp}, (∀ b ∈ fp, H' b = none) -> ∀ b ∈ fp, FpOk (X.comp scope N' ⟨pins, cs, s, H, fp, C⟩) ([] ++ pinsAt [D] s4.heap) H' b := fun {H'} hn b hb => by
        obtain ⟨q1, q2, q3, q4, q5, q6⟩ := stat hn b hb
        refine ⟨q1, q2, q3, q4, q5, fun p hp => ?_⟩
        rcases List.mem_append.mp hp with z | z
        . exact q6 p (List.mem_append_left _ z)
        . have := (of_pinsAt (by simpa using z : p ∈ pinsAt [D] s4.heap)).1
          rw [List.mem_singleton.mp this]
          exact fun z => nD b hb z.symm
      refine thn (T.item (X.comp scope N' ⟨pins, cs, s, H, fp, C⟩) rfl rfl rfl hc i _ s4 _ H4 (fun _ _ => False) ID (statP fr4) st4 go) fun r s5 ⟨u, hr, h5⟩ => ?_
      subst hr
      refine thn h5 fun _ s6 ⟨x, H6, I6, r6, y6, st6, fr6⟩ => ?_
      have I6' := I6.pinned (statP fr6) (T.obj _ _ st6)
      refine thn (hg _ _ s6 _ H6 x u _ I6' r6 (hgo _ _ _ _ (step x H6 y6))) fun _ s7 ⟨σ7, H7, I7, ⟨e7, k7⟩, q7⟩ => ?_
      have I7' : Inv (X.comp scope N' ⟨pins, cs, s, H, fp, C⟩) ([] ++ pinsAt [D] s4.heap ++ pinsAt fp s6.heap) σ7 H7 s7 := I7
      refine thn (ht _ _ s7 σ7 H7 _ I7' q7) fun b s8 ⟨H8, I8, q8⟩ => ?_
      -- what is kept through the turn
      have back : ∀ {s9 : Shared} {H9 : Hp}, Inv (X.comp scope N' ⟨pins, cs, s, H, fp, C⟩) ([] ++ pinsAt [D] s4.heap ++ pinsAt fp s6.heap) σ7 H9 s9 ->
          Inv (X.comp scope N' ⟨pins, cs, s, H, fp, C⟩) [] (cSt own ix σ) H9 s9 /\ tn (i + 1) s9.heap /\ (∀ b ∈ fp, H9 b = none) /\ H9 D = none /\ s9.heap.get? D = some { cls := .type "list", data := .seq its.toArray k } := fun {s9 H9} I9 => by
        have pD := I9.pin (D, _) (List.mem_append_right _ (List.mem_append_left _ (List.mem_append_right _ (mem_pinsAt (List.mem_singleton.mpr rfl) d4))))
        refine ⟨I9.unpinned.unpinned.weak (by rw [e7]) fun j v hj => ?_, T.keep _ _ _ st6 fun b hb o e => (I9.pin (b, o) (List.mem_append_right _ (List.mem_append_right _ (mem_pinsAt hb e)))).1, fun b hb => ?_, pD.2.1, pD.1⟩
        . rw [k7 j (cSt_own hj)]; exact hj
        . obtain ⟨o, e, _⟩ := T.obj _ _ st6 b hb
          exact (I9.pin (b, o) (List.mem_append_right _ (List.mem_append_right _ (mem_pinsAt hb e)))).2.1
      cases b with
      | false =>
        rw [if_neg Bool.false_ne_true] at q8
        obtain ⟨m', hm, w8⟩ := hN2 _ _ q8
        obtain ⟨b1, b2, b3, b4, b5⟩ := back I8
        exact ⟨m', hm, i + 1, H8, ys, its, k, b1, b2, b3, b4, b5, rv4, z4, w8⟩
      | true =>
        rw [if_pos rfl] at q8
        rw [if_pos rfl]
        refine thn (he _ _ s8 σ7 H8 _ I8 q8) fun yv s9 ⟨y, H9, I9, r9, q9⟩ => ?_
        obtain ⟨m', hm, w9⟩ := hN2 _ _ q9
        obtain ⟨b1, b2, b3, b4, b5⟩ := back I9
        have hl := rv4.length
        refine call_meets F.slot_list_append ⟨_, b5, rfl⟩ F.entry_list_append (F.args_list_append_2 _ _) (PySem.list_append D its.toArray k yv (by rw [List.size_toArray]; omega)) ⟨b5, ?_⟩
        have up := PySem.IsL.update b5 (fun a => a.push yv)
        have keep : ∀ b o, b ≠ D -> s9.heap.get? b = some o -> (s9.heap.update D (Obj.mapSeq fun a => a.push yv)).get? b = some o := fun b o hb q => (Heap.get?_update_other _ _ (Ne.symm hb)).trans q
        obtain ⟨f0, f1, f2', f3, f4, f5⟩ := statD b4
        refine ⟨m', hm, i + 1, H9, ys ++ [y], its ++ [yv], (if ((its.toArray.push yv).size == its.toArray.size) = true then k else k + 1), b1.turned (t' := s9.toks) keep b4 f1 f3 f4 f5, ?_, b3, b4, ?_, rv4.append (.cons r9 .nil), ?_, w9⟩
        . exact T.keep _ _ _ b2 fun b hb o e => keep b o (nD b hb) e
        . have e2 : (its.toArray.push yv) = (its ++ [yv]).toArray := by simp
          rw [<- e2]
          exact up
        . rw [List.length_append, List.length_singleton]
          omega
  exact codeAny_compStart_list loop (T.self X.A 0 _ _ _ (T.keep _ _ _ st fun b _ o e => kk b o e) loop)
end
section
variable {X : Cx} {pins : List (Addr × Obj)} {σ : St} {H : Hp} {s : Shared} {fp : List Addr} {it : Addr} {tn : Nat -> Heap -> Prop} {J : It} {tg iter elt : Expr} {ifs : List Expr} {scope : Scope} {pos : Pos} {N' : List Str} {own : Nat} {ix : List Nat} {g : TG} {tc : TT} {te : TE} {wi : TI} {E : Value -> Shared -> Prop}
theorem comp_adopt {H' : Hp} {s' : Shared} {D : Addr} {ys : List V} {its : List Value} {n : Nat} (I : Inv X pins σ H s) (f2 : ∀ b ∈ fp, FpOk X pins H b) (ho : s'.os = s.os) (hg : AllBare s'.gens) (u : Un (frs X.stack) fp H H' s.heap s'.heap) (hok : HOk X.prog X.w H' s'.heap)
    (dn : H' D = none) (ds : s.heap.objs.size <= D) (d : s'.heap.get? D = some { cls := .type "list", data := .seq its.toArray n }) (rv : Vals ys its) (z : ys.length <= sizeLine) : Inv X pins σ (upd H' D (.lst ys)) s' := by
  have nD : ∀ b o, s.heap.get? b = some o -> b ≠ D := fun b o e q => by rw [q, Heap.get?_none_of_le ds] at e; cases e
  have nH : ∀ b o, H' b = some o -> b ≠ D := fun b o e q => by rw [q, dn] at e; cases e
  refine I.call' (ch := fp) ho ⟨u.keep, u.slot, fun b o e q hx => ?_, u.there, fun b xs e => ?_, fun b o v e => ?_, fun b ps e => ?_⟩ (fun b o e => ?_) hg fun b hb => ?_
  . rw [upd_ne (nD b o e)]; exact u.free b o e q hx
  . have := u.tups b xs e
    rw [upd_ne (nH _ _ this)]; exact this
  . have := u.frzs b o v e
    rw [upd_ne (nH _ _ this)]; exact this
  . obtain ⟨more, q⟩ := u.tbls b ps e
    exact ⟨more, by rw [upd_ne (nH _ _ q)]; exact q⟩
  . by_cases hb : b = D
    . subst hb
      rw [upd_same] at e
      cases e
      exact ⟨z, its, n, rv, d⟩
    . rw [upd_ne hb] at e
      exact (hok b o e).stay (fun _ _ _ q => q) (fun c q => by rw [upd_ne (nH _ _ q)]; exact q) fun c xs q => by rw [upd_ne (nH _ _ q)]; exact q
  . obtain ⟨q1, q2, q3, q4, q5, q6⟩ := f2 b hb
    exact ⟨q4, q2, q5, q6⟩
theorem Inv.dictGone {s' : Shared} {h' : Heap} {C : Addr} {H' : Hp} {σ' : St} (I : Inv X pins σ H s) (J : Inv X pins σ' H' s') (hC : s.heap.objs.size <= C) (hn : H' C = none) (k : Heap.SameBut C s'.heap h') : Inv X pins σ' H' { s' with heap := h' } := by
  have hC0 := Heap.get?_none_of_le hC
  refine J.turned (t' := s'.toks) (fun b o hb e => (k.2 b hb).trans e) hn (fun z => ?_) (.inr (Nat.le_trans I.sz hC)) (fun x c e z => ?_) fun p hp z => ?_
  . obtain ⟨m, ⟨o, _, _, ho, _⟩, _⟩ := I.loc
    rw [<- z, hC0] at ho; cases ho
  . obtain ⟨v, o, ho, _⟩ := I.cell x c e
    rw [z, hC0] at ho; cases ho
  . have := (I.pin p hp).1
    rw [z, hC0] at this; cases this
theorem pe_comp (hc : X.calm = true) (hi : PI X tg iter wi) (S : CompScope scope X.env.scope)
    (hlen : N'.length = own + ix.length) (hN : (N'.drop own).map some = ix.map (X.N[·]?)) (hfr : ∀ x ∈ N'.drop own, scope.names.lookup x = some .free)
    (hg : ∀ c, PG (X.comp scope N' c) tg g) (hgo : GOwn own g) (ht : ∀ c, PTs (X.comp scope N' c) ifs tc) (he : ∀ c, PE (X.comp scope N' c) elt te)
    (hs : ∀ x, foldedSetIterable iter X.env x = pure x := by intro _; rfl) : PE X (.ListComp elt [⟨tg, iter, ifs, 0⟩] scope pos) (tComp wi own ix g tc te) := by
  intro pins s σ H Q I h
  rw [eval_ListComp]
  have hfree : ∀ y ∈ scope.names, y.2 = .free -> ∃ c, X.env.cells.lookup y.1 = some c := fun y hy h => I.ok.has y.1 (S.fr y hy h)
  refine wpAny_comprehension_free (use := none) rfl hs (closureFor_eq hfree) S.kind (fun y hy hl => lookup_nd S.nd (by rw [<- hl]; exact hy)) ?_
  refine thn (hi pins s σ H _ I h) fun v s1 h1 => thn h1 fun itv s2 h2 => ?_
  obtain ⟨it, fp, tn, J, H2, e, I2, T, st2, f2, q2⟩ := h2
  subst e
  refine comp_block (RR := fun acc C => compPost (model X.prog X.w) X.A X.xe none (EP X pins σ Q) acc C) I2 T st2 f2 hc S hlen hN hfr hg hgo ht he q2 ?_
  intro D C s' H' ys its n ho hgn u hok hm hC hCs hD hDs hDC d rv z q
  obtain ⟨m, hm⟩ := hm
  have I3 := comp_adopt I2 f2 ho hgn u hok hD hDs d rv z
  refine ⟨m, hm, fun h' hs' => ?_⟩
  exact ⟨.ref D, _, I2.dictGone I3 hCs (by rw [upd_ne (Ne.symm hDC)]; exact hC) hs', rfl, q D hD⟩
theorem ps_comp {i : Nat} {y : Str} {py spos : Pos} (hc : X.calm = true) (hnd : X.N.Nodup) (hiy : X.N[i]? = some y) (hy : X.env.scope.names.lookup y = some .local) (hi : PI X tg iter wi) (S : CompScope scope X.env.scope)
    (hlen : N'.length = own + ix.length) (hN : (N'.drop own).map some = ix.map (X.N[·]?)) (hfr : ∀ x ∈ N'.drop own, scope.names.lookup x = some .free)
    (hg : ∀ c, PG (X.comp scope N' c) tg g) (hgo : GOwn own g) (ht : ∀ c, PTs (X.comp scope N' c) ifs tc) (he : ∀ c, PE (X.comp scope N' c) elt te)
    (hsw : swapsWith (.ListComp elt [⟨tg, iter, ifs, 0⟩] scope pos) (some (.Name y py)) spos.line X.env = pure true)
    (hs : ∀ x, foldedSetIterable iter X.env x = pure x := by intro _; rfl) : PS X (.Assign [.Name y py] (.ListComp elt [⟨tg, iter, ifs, 0⟩] scope pos) spos) (tAsg (tComp wi own ix g tc te) (gName i)) := by
  intro pins s σ H D I h
  rw [exec_Assign_Name_used _ _ _ _ hsw]
  refine wpAny_bind (wpAny_standAt (wpAny_bind ?_))
  show wpAny _ _ (do let _ <- comprehension (.ListComp elt [⟨tg, iter, ifs, 0⟩] scope pos) scope X.env _ (newList []) false (eval iter X.env) (some (assign (.Name y py) X.env))) _ _ s
  have hfree : ∀ y ∈ scope.names, y.2 = .free -> ∃ c, X.env.cells.lookup y.1 = some c := fun y hy h => I.ok.has y.1 (S.fr y hy h)
  refine wpAny_bind (wpAny_mono (wpAny_comprehension_free (use := some (assign (.Name y py) X.env)) (Q := fun _ s' => SP X pins D .next s') rfl hs (closureFor_eq hfree) S.kind (fun y hy hl => lookup_nd S.nd (by rw [<- hl]; exact hy)) ?_) (fun _ s' hq => wpAny_pure (wpAny_pure hq)) fun _ _ e => e)
  refine thn (hi pins s σ H _ I h) fun v s1 h1 => thn h1 fun itv s2 h2 => ?_
  obtain ⟨it, fp, tn, J, H2, e, I2, T, st2, f2, q2⟩ := h2
  subst e
  refine comp_block (RR := fun acc C => compPost (model X.prog X.w) X.A X.xe (some (assign (.Name y py) X.env)) (fun _ s' => SP X pins D .next s') acc C) I2 T st2 f2 hc S hlen hN hfr hg hgo ht he q2 ?_
  intro d C s' H' ys its n ho hgn u hok hm hC hCs hD hDs hDC hd rv z q
  obtain ⟨m, hm⟩ := hm
  have I3 := comp_adopt I2 f2 ho hgn u hok hD hDs hd rv z
  show wpAny _ _ (assign (.Name y py) X.env (.ref d)) _ _ s'
  have hCn : (upd H' d (.lst ys)) C = none := by rw [upd_ne (Ne.symm hDC)]; exact hC
  refine wpAny_assign_Name (store_ok2 I3 hnd hiy (.inl hy) (v := .ref d) rfl (fun s3 I4 ⟨a, sb, ha⟩ => ?_) (.inr hy))
  have ha' : a ≠ C := fun e => by
    have hC0 := Heap.get?_none_of_le hCs
    rcases ha with z | z
    . obtain ⟨m, ⟨o, _, _, ho, _⟩, _⟩ := I2.loc
      rw [<- z, e, hC0] at ho; cases ho
    . obtain ⟨v, o, ho, _⟩ := I2.cell y a z
      rw [e, hC0] at ho; cases ho
  refine ⟨m, hm.sameBut sb (Ne.symm ha'), fun h' hs' => ?_⟩
  exact ⟨_, _, I2.dictGone I4 hCs hCn hs', q d hD⟩
end
section
variable {X : Cx}
theorem PE.imp {e : Expr} {t t' : TE} (h : PE X e t) (f : ∀ σ H Q, t' σ H Q -> t σ H Q) : PE X e t' := fun pins s σ H Q I q => h pins s σ H Q I (f σ H Q q)
theorem OpR.imp {f : Value -> Value -> Sem Value} {r r' : R2} (h : OpR X f r) (g : ∀ x y H Q, r' x y H Q -> r x y H Q) : OpR X f r' := fun pins s σ H x y v u Q I rx ry q => h pins s σ H x y v u Q I rx ry (g _ _ _ _ q)
theorem CallR.imp {f : Value} {r r' : List V -> Hp -> VK -> Prop} (h : CallR X f r) (g : ∀ x H Q, r' x H Q -> r x H Q) : CallR X f r' := fun pins s σ H xs us Q I r q => h pins s σ H xs us Q I r (g _ _ _ q)
def vVar (i : Nat) : TE := fun σ H Q => match σ[i]? with
  | some (some v) => Q v H
  | _ => False
theorem vv (i : Nat) {x : Str} {pos : Pos} (hN : X.N[i]? = some x := by rfl) (hv : Vis X.env.scope x := by first | exact Or.inl rfl | exact Or.inr (Or.inl rfl) | exact Or.inr (Or.inr rfl)) (hd : (x == ("__debug__" : Str)) = false := by decide)
    (hcd : (x == ("__classdict__" : Str)) = false := by decide) : PE X (.Name x pos) (vVar i) := (pe_var hN hv hd hcd).imp fun σ H Q q => by
  unfold vVar at q
  split at q
  . rename_i v e; exact ⟨v, e, q⟩
  . exact q.elim
def okMul (i j : Int) : Prop := (i.natAbs < 2 ^ 4096 /\ j.natAbs < 2 ^ 4096) \/ (-(2 ^ 64) < i /\ i < 2 ^ 64) \/ (-(2 ^ 64) < j /\ j < 2 ^ 64)
theorem bits_of {i : Int} (h : i.natAbs < 2 ^ 4096) : Builtin.Int.intBits i <= 2 ^ 20 := by
  unfold Builtin.Int.intBits
  split
  . exact Nat.zero_le _
  . rename_i hz
    have hne : i.natAbs ≠ 0 := by
      have : ¬ i = 0 := by simpa using hz
      omega
    have := (Nat.log2_lt hne).mpr h
    have e : (2 : Nat) ^ 20 = 1048576 := by decide
    omega
theorem okMul.ok {i j : Int} (h : okMul i j) : IntMulOk i j := by
  rcases h with ⟨h1, h2⟩ | h | h
  . exact .of_bits (bits_of h1) (bits_of h2)
  . exact CMul.ok (.inl h)
  . exact CMul.ok (.inr h)
def okDiv (j : Int) : Prop := 0 < j /\ j < 2 ^ 4096
theorem okDiv.ok {i j : Int} (h : okDiv j) : Builtin.divisionGoesByPylong i j = false := by
  refine PyProof.noPylong_of_log2 ?_
  obtain ⟨h1, h2⟩ := h
  have hne : j.natAbs ≠ 0 := by omega
  have h3 : j.natAbs < 2 ^ 4096 := by
    have e : ((j.natAbs : Int)) = j := by omega
    have h2' : ((j.natAbs : Nat) : Int) < ((2 ^ 4096 : Nat) : Int) := by rw [e, Int.natCast_pow]; exact h2
    exact Int.ofNat_lt.mp h2'
  have := (Nat.log2_lt hne).mpr h3
  omega
def mAdd (K : PySem.W.Frag) : R2 := fun x y H Q => match x, y with
  | .int i, .int j => Q (.int (i + j)) H
  | .str a, .str b => a.length + b.length <= sizeLine /\ Q (.str (a ++ b)) H
  | .ref a, .ref b => rCat (.ref a) (.ref b) H Q \/ rCatT K (.ref a) (.ref b) H Q
  | _, _ => False
theorem om_add : OpR X (binaryOp .Add) (mAdd X.K) := by
  intro pins s σ H x y v u Q I rx ry q
  cases x <;> cases y <;> first
    | exact False.elim q
    | exact op_add pins s σ H _ _ v u Q I rx ry ⟨_, _, rfl, rfl, q⟩
    | exact op_add_str pins s σ H _ _ v u Q I rx ry ⟨_, _, rfl, rfl, q.1, q.2⟩
    | (rcases q with q | q
       . exact op_cat pins s σ H _ _ v u Q I rx ry q
       . exact op_catT pins s σ H _ _ v u Q I rx ry q)
def mSub : R2 := fun x y H Q => match x, y with
  | .int i, .int j => Q (.int (i - j)) H
  | _, _ => False
theorem om_sub : OpR X (binaryOp .Sub) mSub := by
  intro pins s σ H x y v u Q I rx ry q
  cases x <;> cases y <;> first
    | exact False.elim q
    | exact op_sub pins s σ H _ _ v u Q I rx ry ⟨_, _, rfl, rfl, q⟩
def mMul : R2 := fun x y H Q => match x, y with
  | .int i, .int j => okMul i j /\ Q (.int (i * j)) H
  | .ref a, .int k => rRep (.ref a) (.int k) H Q
  | _, _ => False
theorem om_mul : OpR X (binaryOp .Mult) mMul := by
  have hI : OpR X (binaryOp .Mult) (rI okMul fun i j => .int (i * j)) := opI fun _ _ _ _ _ _ _ hc q => mul_int q hc.ok
  intro pins s σ H x y v u Q I rx ry q
  cases x <;> cases y <;> first
    | exact False.elim q
    | exact hI pins s σ H _ _ v u Q I rx ry ⟨_, _, rfl, rfl, q.1, q.2⟩
    | exact op_rep pins s σ H _ _ v u Q I rx ry q
def mDiv : R2 := fun x y H Q => match x, y with
  | .int i, .int j => okDiv j /\ Q (.int (i / j)) H
  | _, _ => False
theorem om_div : OpR X (binaryOp .FloorDiv) mDiv := by
  have hI : OpR X (binaryOp .FloorDiv) (rI (fun _ j => okDiv j) fun i j => .int (i / j)) := opI fun i j _ _ _ _ _ hc q => by
    refine floordiv_int (by have := hc.1; omega) ?_ (.inl hc.ok)
    rw [Int.fdiv_eq_ediv_of_nonneg i (by have := hc.1; omega)]
    exact q
  intro pins s σ H x y v u Q I rx ry q
  cases x <;> cases y <;> first
    | exact False.elim q
    | exact hI pins s σ H _ _ v u Q I rx ry ⟨_, _, rfl, rfl, q.1, q.2⟩
def mMod : R2 := fun x y H Q => match x, y with
  | .int i, .int j => 0 < j /\ Q (.int (i % j)) H
  | _, _ => False
theorem om_mod : OpR X (binaryOp .Mod) mMod := by
  intro pins s σ H x y v u Q I rx ry q
  cases x <;> cases y <;> first
    | exact False.elim q
    | exact op_mod pins s σ H _ _ v u Q I rx ry ⟨_, _, rfl, rfl, q.1, q.2⟩
def mPow : R2 := fun x y H Q => match x, y with
  | .int i, .int j => CPow i j /\ Q (.int (i ^ j.toNat)) H
  | _, _ => False
theorem om_pow : OpR X (binaryOp .Pow) mPow := by
  intro pins s σ H x y v u Q I rx ry q
  cases x <;> cases y <;> first
    | exact False.elim q
    | exact op_pow pins s σ H _ _ v u Q I rx ry ⟨_, _, rfl, rfl, q.1, q.2⟩
def mBit (f : Int -> Int -> Int) : R2 := fun x y H Q => match x, y with
  | .int i, .int j => Q (.int (f i j)) H
  | _, _ => False
theorem om_and : OpR X (binaryOp .BitAnd) (mBit Builtin.bitAnd) := by
  intro pins s σ H x y v u Q I rx ry q
  cases x <;> cases y <;> first
    | exact False.elim q
    | exact op_and pins s σ H _ _ v u Q I rx ry ⟨_, _, rfl, rfl, q⟩
theorem om_xor : OpR X (binaryOp .BitXor) (mBit Builtin.bitXor) := by
  intro pins s σ H x y v u Q I rx ry q
  cases x <;> cases y <;> first
    | exact False.elim q
    | exact op_xor pins s σ H _ _ v u Q I rx ry ⟨_, _, rfl, rfl, q⟩
def mNeg : V -> Hp -> VK -> Prop := fun x H Q => match x with
  | .int i => Q (.int (-i)) H
  | _ => False
theorem um_neg : UnR X (unaryOp .USub) mNeg := by
  intro pins s σ H x v Q I rx q
  cases x <;> first
    | exact False.elim q
    | exact un_neg pins s σ H _ v Q I rx ⟨_, rfl, q⟩
def mCmp (p : Int -> Int -> Bool) : R2 := fun x y H Q => match x, y with
  | .int i, .int j => Q (.bl (p i j)) H
  | _, _ => False
theorem om_lt : OpR X (compareOp .Lt) (mCmp fun i j => decide (i < j)) := by
  intro pins s σ H x y v u Q I rx ry q
  cases x <;> cases y <;> first
    | exact False.elim q
    | exact op_lt pins s σ H _ _ v u Q I rx ry ⟨_, _, rfl, rfl, q⟩
theorem om_le : OpR X (compareOp .LtE) (mCmp fun i j => decide (i <= j)) := by
  intro pins s σ H x y v u Q I rx ry q
  cases x <;> cases y <;> first
    | exact False.elim q
    | exact op_le pins s σ H _ _ v u Q I rx ry ⟨_, _, rfl, rfl, q⟩
theorem om_gt : OpR X (compareOp .Gt) (mCmp fun i j => decide (j < i)) := by
  intro pins s σ H x y v u Q I rx ry q
  cases x <;> cases y <;> first
    | exact False.elim q
    | exact op_gt pins s σ H _ _ v u Q I rx ry ⟨_, _, rfl, rfl, q⟩
end
inductive Dv where
  | non | bl (b : Bool) | int (i : Int) | str (x : Str) | tup (ds : List Dv) | lst (ds : List Dv)
mutual
def Rep (K : PySem.W.Frag) (H : Hp) : Dv -> V -> Prop
  | .non, v => v = .non
  | .bl b, v => v = .bl b
  | .int i, v => v = .int i
  | .str x, v => v = .str x
  | .tup ds, v => ∃ a xs, v = .ref a /\ SqT K H a xs /\ Reps K H ds xs
  | .lst ds, v => ∃ a xs, v = .ref a /\ SqL K H a xs /\ Reps K H ds xs
def Reps (K : PySem.W.Frag) (H : Hp) : List Dv -> List V -> Prop
  | [], xs => xs = []
  | d :: ds, xs => ∃ x r, xs = x :: r /\ Rep K H d x /\ Reps K H ds r
end
mutual
def eqD : Dv -> Dv -> Bool
  | .non, .non => true
  | .bl a, .bl b => a == b
  | .bl a, .int b => (if a then 1 else 0) == b
  | .int a, .bl b => a == (if b then 1 else 0)
  | .int a, .int b => a == b
  | .str a, .str b => a == b
  | .tup ds, .tup es => eqDs ds es
  | .lst ds, .lst es => eqDs ds es
  | _, _ => false
def eqDs : List Dv -> List Dv -> Bool
  | [], [] => true
  | d :: ds, e :: es => eqD d e && eqDs ds es
  | _, _ => false
end
mutual
def depD : Dv -> Nat
  | .tup ds => depDs ds + 1
  | .lst ds => depDs ds + 1
  | _ => 0
def depDs : List Dv -> Nat
  | [] => 0
  | d :: ds => max (depD d) (depDs ds)
end
theorem eqD_tup (ds es : List Dv) : eqD (.tup ds) (.tup es) = eqDs ds es := by rw [eqD]
theorem eqD_lst (ds es : List Dv) : eqD (.lst ds) (.lst es) = eqDs ds es := by rw [eqD]
theorem Reps.length {K : PySem.W.Frag} {H : Hp} : ∀ {ds : List Dv} {xs : List V}, Reps K H ds xs -> ds.length = xs.length
  | [], xs, h => by unfold Reps at h; subst h; rfl
  | d :: ds, xs, h => by
    unfold Reps at h
    obtain ⟨x, r, rfl, _, h⟩ := h
    rw [List.length_cons, List.length_cons, Reps.length h]
theorem Reps.get {K : PySem.W.Frag} {H : Hp} : ∀ {ds : List Dv} {xs : List V} {i : Nat} {d : Dv}, Reps K H ds xs -> ds[i]? = some d -> ∃ x, xs[i]? = some x /\ Rep K H d x
  | [], _, _, _, _, e => by simp at e
  | d :: ds, xs, 0, _, h, e => by
    unfold Reps at h
    obtain ⟨x, r, rfl, h1, _⟩ := h
    simp at e; subst e
    exact ⟨x, rfl, h1⟩
  | d :: ds, xs, i + 1, _, h, e => by
    unfold Reps at h
    obtain ⟨x, r, rfl, _, h⟩ := h
    obtain ⟨y, h1, h2⟩ := Reps.get (i := i) h (by simpa using e)
    exact ⟨y, by simpa using h1, h2⟩
theorem depD_le {ds : List Dv} {i : Nat} {d : Dv} (h : ds[i]? = some d) : depD d <= depDs ds := by
  induction ds generalizing i with
  | nil => simp at h
  | cons e es ih =>
    unfold depDs
    cases i with
    | zero => simp at h; subst h; omega
    | succ i => have := ih (i := i) (by simpa using h); omega
theorem eqDs_all : ∀ (ds es : List Dv), ds.length = es.length -> eqDs ds es = (List.range ds.length).all fun i => match ds[i]?, es[i]? with | some d, some e => eqD d e | _, _ => false
  | [], [], _ => by unfold eqDs; rfl
  | d :: ds, e :: es, h => by
    unfold eqDs
    rw [List.length_cons, List.range_succ_eq_map, List.all_cons, List.all_map, eqDs_all ds es (by simpa using h)]
    congr 1
  | [], e :: es, h => by simp at h
  | d :: ds, [], h => by simp at h
theorem eqDs_len : ∀ (ds es : List Dv), ds.length ≠ es.length -> eqDs ds es = false
  | [], [], h => absurd rfl h
  | [], _ :: _, _ => by unfold eqDs; rfl
  | _ :: _, [], _ => by unfold eqDs; rfl
  | d :: ds, e :: es, h => by unfold eqDs; rw [eqDs_len ds es (fun z => h (by simp [z])), Bool.and_false]
mutual
theorem eqD_refl : ∀ d : Dv, eqD d d = true
  | .non => by unfold eqD; rfl
  | .bl b => by unfold eqD; simp
  | .int i => by unfold eqD; simp
  | .str x => by unfold eqD; simp
  | .tup ds => by unfold eqD; exact eqDs_refl ds
  | .lst ds => by unfold eqD; exact eqDs_refl ds
theorem eqDs_refl : ∀ ds : List Dv, eqDs ds ds = true
  | [] => by unfold eqDs; rfl
  | d :: ds => by unfold eqDs; rw [eqD_refl d, eqDs_refl ds]; rfl
end
section
variable {X : Cx} {pins : List (Addr × Obj)} {σ : St} {H : Hp} {s : Shared}
theorem no_both {a : Addr} {xs ys : List V} (I : Inv X pins σ H s) (h : SqL X.K H a xs) (h' : SqT X.K H a ys) : False := by
  obtain ⟨its, _, ⟨o, n, e, c, _⟩, _⟩ := I.list h
  obtain ⟨its', _, ⟨o', e', c', _⟩, _⟩ := I.tuple h'
  rw [e] at e'; cases e'
  rw [c] at c'
  exact absurd c' (by decide)
mutual
theorem rep_inj (I : Inv X pins σ H s) : ∀ (d e : Dv) (x : V), Rep X.K H d x -> Rep X.K H e x -> d = e
  | .non, e, x, h, h' => by
    unfold Rep at h; subst h
    cases e <;> unfold Rep at h' <;> first | rfl | (obtain ⟨a, xs, q, _⟩ := h'; cases q; done) | (cases h'; done)
  | .bl b, e, x, h, h' => by
    unfold Rep at h; subst h
    cases e <;> unfold Rep at h' <;> first | (obtain ⟨a, xs, q, _⟩ := h'; cases q; done) | (cases h'; rfl) | (cases h'; done)
  | .int b, e, x, h, h' => by
    unfold Rep at h; subst h
    cases e <;> unfold Rep at h' <;> first | (obtain ⟨a, xs, q, _⟩ := h'; cases q; done) | (cases h'; rfl) | (cases h'; done)
  | .str b, e, x, h, h' => by
    unfold Rep at h; subst h
    cases e <;> unfold Rep at h' <;> first | (obtain ⟨a, xs, q, _⟩ := h'; cases q; done) | (cases h'; rfl) | (cases h'; done)
  | .tup ds, e, x, h, h' => by
    unfold Rep at h
    obtain ⟨a, xs, rfl, hs, hr⟩ := h
    cases e with
    | tup es =>
      unfold Rep at h'
      obtain ⟨b, ys, q, hs', hr'⟩ := h'
      cases q
      rw [I.tuple_inj hs' hs] at hr'
      rw [reps_inj I ds es xs hr hr']
    | lst es =>
      unfold Rep at h'
      obtain ⟨b, ys, q, hs', hr'⟩ := h'
      cases q
      exact (no_both I hs' hs).elim
    | _ => unfold Rep at h'; cases h'
  | .lst ds, e, x, h, h' => by
    unfold Rep at h
    obtain ⟨a, xs, rfl, hs, hr⟩ := h
    cases e with
    | lst es =>
      unfold Rep at h'
      obtain ⟨b, ys, q, hs', hr'⟩ := h'
      cases q
      rw [I.list_inj hs' hs] at hr'
      rw [reps_inj I ds es xs hr hr']
    | tup es =>
      unfold Rep at h'
      obtain ⟨b, ys, q, hs', hr'⟩ := h'
      cases q
      exact (no_both I hs hs').elim
    | _ => unfold Rep at h'; cases h'
theorem reps_inj (I : Inv X pins σ H s) : ∀ (ds es : List Dv) (xs : List V), Reps X.K H ds xs -> Reps X.K H es xs -> ds = es
  | [], es, xs, h, h' => by
    unfold Reps at h; subst h
    cases es with
    | nil => rfl
    | cons e es => unfold Reps at h'; obtain ⟨x, r, q, _⟩ := h'; cases q
  | d :: ds, es, xs, h, h' => by
    unfold Reps at h
    obtain ⟨x, r, rfl, h1, h2⟩ := h
    cases es with
    | nil => unfold Reps at h'; cases h'
    | cons e es =>
      unfold Reps at h'
      obtain ⟨y, r', q, h3, h4⟩ := h'
      cases q
      rw [rep_inj I d e _ h1 h3, reps_inj I ds es _ h2 h4]
end
abbrev Eq3 (A : Around) (s : Shared) (u v : Value) (b : Bool) : Prop := SeqAt.EqAt A s u v b /\ SeqAt.RcAt A s u v b /\ SeqAt.RcNeAt A s u v (!b)
theorem eq3_tup {A : Around} {a b : Addr} {xs ys : List V} {ds es : List Dv} (I : Inv X pins σ H s) (hu : A.units < cLine) (ha : SqT X.K H a xs) (hb : SqT X.K H b ys) (hd : Reps X.K H ds xs) (he : Reps X.K H es ys)
    (ih : ∀ (i : Nat) (d e : Dv) (x y : V) (u v : Value), ds[i]? = some d -> es[i]? = some e -> xs[i]? = some x -> ys[i]? = some y -> RelV x u -> RelV y v -> SeqAt.EqAt A.in1 s u v (eqD d e)) : Eq3 A s (.ref a) (.ref b) (eqD (.tup ds) (.tup es)) := by
  obtain ⟨its, r1, p1, _⟩ := I.tuple ha
  obtain ⟨its2, r2, p2, _⟩ := I.tuple hb
  have l1 := hd.length; have l2 := he.length; have l3 := r1.length; have l4 := r2.length
  have hitem : ∀ j (h1 : j < its.toArray.size) (h2 : j < its2.toArray.size), SeqAt.EqAt A.in1 s its.toArray[j] its2.toArray[j] (match ds[j]?, es[j]? with | some d, some e => eqD d e | _, _ => false) := fun j h1 h2 => by
    rw [List.size_toArray] at h1 h2
    have e1 : ds[j]? = some ds[j] := List.getElem?_eq_getElem (by omega)
    have e2 : es[j]? = some es[j] := List.getElem?_eq_getElem (by omega)
    have e3 : xs[j]? = some xs[j] := List.getElem?_eq_getElem (by omega)
    have e4 : ys[j]? = some ys[j] := List.getElem?_eq_getElem (by omega)
    obtain ⟨u, q1, q2⟩ := r1.get e3
    obtain ⟨v, q3, q4⟩ := r2.get e4
    rw [e1, e2]
    have z1 : its.toArray[j] = u := by rw [List.getElem_toArray]; rw [List.getElem?_eq_getElem h1] at q1; exact Option.some.inj q1
    have z2 : its2.toArray[j] = v := by rw [List.getElem_toArray]; rw [List.getElem?_eq_getElem h2] at q3; exact Option.some.inj q3
    rw [z1, z2]
    exact ih j _ _ _ _ _ _ e1 e2 e3 e4 q2 q4
  have val : ((List.range (min its.toArray.size its2.toArray.size)).all (fun j => match ds[j]?, es[j]? with | some d, some e => eqD d e | _, _ => false) && its.toArray.size == its2.toArray.size) = eqD (.tup ds) (.tup es) := by
    rw [List.size_toArray, List.size_toArray, <- l3, <- l4, <- l1, <- l2, eqD_tup]
    by_cases h : ds.length = es.length
    . rw [h, Nat.min_self, <- h, eqDs_all ds es h]
      simp
    . rw [eqDs_len ds es h]
      have : (ds.length == es.length) = false := by simpa using h
      rw [this, Bool.and_false]
  have R := SeqAt.RcAt.tuples (A := A) p1 p2 hu hitem
  have N := SeqAt.RcNeAt.tuples (A := A) p1 p2 hu hitem
  rw [val] at R N
  refine ⟨?_, R, N⟩
  by_cases hab : a = b
  . subst hab
    have e : ds = es := by
      have := rep_inj I (.tup ds) (.tup es) (.ref a) (by unfold Rep; exact ⟨a, xs, rfl, ha, hd⟩) (by unfold Rep; exact ⟨a, ys, rfl, hb, he⟩)
      cases this; rfl
    subst e
    rw [eqD_refl]
    exact SeqAt.EqAt.same _
  . exact .of_refs hab R
theorem eq3_lst {A : Around} {a b : Addr} {xs ys : List V} {ds es : List Dv} (I : Inv X pins σ H s) (hu : A.units < cLine) (ha : SqL X.K H a xs) (hb : SqL X.K H b ys) (hd : Reps X.K H ds xs) (he : Reps X.K H es ys)
    (ih : ∀ (i : Nat) (d e : Dv) (x y : V) (u v : Value), ds[i]? = some d -> es[i]? = some e -> xs[i]? = some x -> ys[i]? = some y -> RelV x u -> RelV y v -> SeqAt.EqAt A.in1 s u v (eqD d e)) : Eq3 A s (.ref a) (.ref b) (eqD (.lst ds) (.lst es)) := by
  obtain ⟨its, r1, p1, _⟩ := I.list ha
  obtain ⟨its2, r2, p2, _⟩ := I.list hb
  have l1 := hd.length; have l2 := he.length; have l3 := r1.length; have l4 := r2.length
  have hitem : ∀ j (h1 : j < its.toArray.size) (h2 : j < its2.toArray.size), SeqAt.EqAt A.in1 s its.toArray[j] its2.toArray[j] (match ds[j]?, es[j]? with | some d, some e => eqD d e | _, _ => false) := fun j h1 h2 => by
    rw [List.size_toArray] at h1 h2
    have e1 : ds[j]? = some ds[j] := List.getElem?_eq_getElem (by omega)
    have e2 : es[j]? = some es[j] := List.getElem?_eq_getElem (by omega)
    have e3 : xs[j]? = some xs[j] := List.getElem?_eq_getElem (by omega)
    have e4 : ys[j]? = some ys[j] := List.getElem?_eq_getElem (by omega)
    obtain ⟨u, q1, q2⟩ := r1.get e3
    obtain ⟨v, q3, q4⟩ := r2.get e4
    rw [e1, e2]
    have z1 : its.toArray[j] = u := by rw [List.getElem_toArray]; rw [List.getElem?_eq_getElem h1] at q1; exact Option.some.inj q1
    have z2 : its2.toArray[j] = v := by rw [List.getElem_toArray]; rw [List.getElem?_eq_getElem h2] at q3; exact Option.some.inj q3
    rw [z1, z2]
    exact ih j _ _ _ _ _ _ e1 e2 e3 e4 q2 q4
  have RN : SeqAt.RcAt A s (.ref a) (.ref b) (eqD (.lst ds) (.lst es)) /\ SeqAt.RcNeAt A s (.ref a) (.ref b) (!eqD (.lst ds) (.lst es)) := by
    by_cases h : ds.length = es.length
    . have hsz : its.toArray.size = its2.toArray.size := by rw [List.size_toArray, List.size_toArray]; omega
      have val : (List.range its.toArray.size).all (fun j => match ds[j]?, es[j]? with | some d, some e => eqD d e | _, _ => false) = eqD (.lst ds) (.lst es) := by
        rw [eqD_lst, List.size_toArray, <- l3, <- l1, eqDs_all ds es h]
      have R := SeqAt.RcAt.lists (A := A) p1.isList p2.isList hsz hu hitem
      have N := SeqAt.RcNeAt.lists (A := A) p1.isList p2.isList hsz hu hitem
      rw [val] at R N
      exact ⟨R, N⟩
    . have hsz : (its.toArray.size != its2.toArray.size) = true := by rw [List.size_toArray, List.size_toArray]; simp; omega
      have val : eqD (.lst ds) (.lst es) = false := by rw [eqD_lst]; exact eqDs_len ds es h
      rw [val]
      exact ⟨SeqAt.RcAt.lists_lengths p1.isList p2.isList hsz hu, SeqAt.RcNeAt.lists_lengths p1.isList p2.isList hsz hu⟩
  refine ⟨?_, RN.1, RN.2⟩
  by_cases hab : a = b
  . subst hab
    have e : ds = es := by
      have := rep_inj I (.lst ds) (.lst es) (.ref a) (by unfold Rep; exact ⟨a, xs, rfl, ha, hd⟩) (by unfold Rep; exact ⟨a, ys, rfl, hb, he⟩)
      cases this; rfl
    subst e
    rw [eqD_refl]
    exact SeqAt.EqAt.same _
  . exact .of_refs hab RN.1
theorem eq_all (I : Inv X pins σ H s) : ∀ (n : Nat) (A : Around) (d e : Dv) (x y : V) (u v : Value), depD d <= n -> A.units + n < cLine -> Rep X.K H d x -> Rep X.K H e y -> RelV x u -> RelV y v -> Eq3 A s u v (eqD d e) := by
  intro n
  induction n with
  | zero =>
    intro A d e x y u v hd hu hx hy ru rv
    have hu' : A.units < cLine := by omega
    cases d with
    | tup ds => unfold depD at hd; omega
    | lst ds => unfold depD at hd; omega
    | non =>
      unfold Rep at hx; subst hx; cases ru
      cases e <;> unfold Rep at hy
      case non => subst hy; cases rv; exact ⟨SeqAt.EqAt.same _, SeqAt.RcAt.none_none, SeqAt.RcNeAt.none_none⟩
      case bl => subst hy; cases rv; exact ⟨.none_bool _, .none_bool _, .none_bool _⟩
      case int => subst hy; obtain ⟨t, rfl⟩ := rv; exact ⟨.none_int _ _, .none_int _ _, .none_int _ _⟩
      case str => subst hy; obtain ⟨t, rfl⟩ := rv; exact ⟨.none_str _ _, .none_str _ _, .none_str _ _⟩
      case tup => obtain ⟨a, xs, rfl, ha, _⟩ := hy; cases rv; obtain ⟨its, _, p, _⟩ := I.tuple ha; exact ⟨.none_tuple p hu', .none_tuple p hu', .none_tuple p hu'⟩
      case lst => obtain ⟨a, xs, rfl, ha, _⟩ := hy; cases rv; obtain ⟨its, _, p, _⟩ := I.list ha; exact ⟨.none_list p.isList hu', .none_list p.isList hu', .none_list p.isList hu'⟩
    | bl c =>
      unfold Rep at hx; subst hx; cases ru
      cases e <;> unfold Rep at hy
      case non => subst hy; cases rv; exact ⟨.bool_none _, .bool_none _, .bool_none _⟩
      case bl => subst hy; cases rv; unfold eqD; exact ⟨.bool_bool _ _, .bool_bool _ _, .bool_bool _ _⟩
      case int => subst hy; obtain ⟨t, rfl⟩ := rv; unfold eqD; exact ⟨.bool_int _ _ _, .bool_int _ _ _, .bool_int _ _ _⟩
      case str => subst hy; obtain ⟨t, rfl⟩ := rv; exact ⟨.bool_str _ _ _, .bool_str _ _ _, .bool_str _ _ _⟩
      case tup => obtain ⟨a, xs, rfl, ha, _⟩ := hy; cases rv; obtain ⟨its, _, p, _⟩ := I.tuple ha; exact ⟨.bool_tuple _ p hu', .bool_tuple _ p hu', .bool_tuple _ p hu'⟩
      case lst => obtain ⟨a, xs, rfl, ha, _⟩ := hy; cases rv; obtain ⟨its, _, p, _⟩ := I.list ha; exact ⟨.bool_list _ p.isList hu', .bool_list _ p.isList hu', .bool_list _ p.isList hu'⟩
    | int c =>
      unfold Rep at hx; subst hx; obtain ⟨t0, rfl⟩ := ru
      cases e <;> unfold Rep at hy
      case non => subst hy; cases rv; exact ⟨.int_none _ _, .int_none _ _, .int_none _ _⟩
      case bl => subst hy; cases rv; unfold eqD; exact ⟨.int_bool _ _ _, .int_bool _ _ _, .int_bool _ _ _⟩
      case int => subst hy; obtain ⟨t, rfl⟩ := rv; unfold eqD; exact ⟨.int_int _ _ _ _, .int_int _ _ _ _, .int_int _ _ _ _⟩
      case str => subst hy; obtain ⟨t, rfl⟩ := rv; exact ⟨.int_str _ _ _ _, .int_str _ _ _ _, .int_str _ _ _ _⟩
      case tup => obtain ⟨a, xs, rfl, ha, _⟩ := hy; cases rv; obtain ⟨its, _, p, _⟩ := I.tuple ha; exact ⟨.int_tuple _ _ p hu', .int_tuple _ _ p hu', .int_tuple _ _ p hu'⟩
      case lst => obtain ⟨a, xs, rfl, ha, _⟩ := hy; cases rv; obtain ⟨its, _, p, _⟩ := I.list ha; exact ⟨.int_list _ _ p.isList hu', .int_list _ _ p.isList hu', .int_list _ _ p.isList hu'⟩
    | str c =>
      unfold Rep at hx; subst hx; obtain ⟨t0, rfl⟩ := ru
      cases e <;> unfold Rep at hy
      case non => subst hy; cases rv; exact ⟨.str_none _ _, .str_none _ _, .str_none _ _⟩
      case bl => subst hy; cases rv; exact ⟨.str_bool _ _ _, .str_bool _ _ _, .str_bool _ _ _⟩
      case int => subst hy; obtain ⟨t, rfl⟩ := rv; exact ⟨.str_int _ _ _ _, .str_int _ _ _ _, .str_int _ _ _ _⟩
      case str => subst hy; obtain ⟨t, rfl⟩ := rv; unfold eqD; exact ⟨.str_str _ _ _ _, .str_str _ _ _ _, .str_str _ _ _ _⟩
      case tup => obtain ⟨a, xs, rfl, ha, _⟩ := hy; cases rv; obtain ⟨its, _, p, _⟩ := I.tuple ha; exact ⟨.str_tuple _ _ p hu', .str_tuple _ _ p hu', .str_tuple _ _ p hu'⟩
      case lst => obtain ⟨a, xs, rfl, ha, _⟩ := hy; cases rv; obtain ⟨its, _, p, _⟩ := I.list ha; exact ⟨.str_list _ _ p.isList hu', .str_list _ _ p.isList hu', .str_list _ _ p.isList hu'⟩
  | succ n ih =>
    intro A d e x y u v hd hu hx hy ru rv
    have hu' : A.units < cLine := by omega
    have hin : A.in1.units + n < cLine := by show A.units + 1 + n < cLine; omega
    cases d with
    | tup ds =>
      unfold depD at hd
      unfold Rep at hx
      obtain ⟨a, xs, rfl, ha, hr⟩ := hx
      cases ru
      cases e <;> unfold Rep at hy
      case tup es =>
        obtain ⟨b, ys, rfl, hb, hr'⟩ := hy
        cases rv
        refine eq3_tup I hu' ha hb hr hr' fun i d e x y u v e1 e2 e3 e4 ru rv => ?_
        obtain ⟨x', q1, q2⟩ := hr.get e1
        obtain ⟨y', q3, q4⟩ := hr'.get e2
        rw [e3] at q1; cases q1
        rw [e4] at q3; cases q3
        exact (ih A.in1 d e x y u v (by have := depD_le e1; omega) hin q2 q4 ru rv).1
      case non => subst hy; cases rv; obtain ⟨its, _, p, _⟩ := I.tuple ha; exact ⟨.tuple_none p hu', .tuple_none p hu', .tuple_none p hu'⟩
      case bl => subst hy; cases rv; obtain ⟨its, _, p, _⟩ := I.tuple ha; exact ⟨.tuple_bool _ p hu', .tuple_bool _ p hu', .tuple_bool _ p hu'⟩
      case int => subst hy; obtain ⟨t, rfl⟩ := rv; obtain ⟨its, _, p, _⟩ := I.tuple ha; exact ⟨.tuple_int _ _ p hu', .tuple_int _ _ p hu', .tuple_int _ _ p hu'⟩
      case str => subst hy; obtain ⟨t, rfl⟩ := rv; obtain ⟨its, _, p, _⟩ := I.tuple ha; exact ⟨.tuple_str _ _ p hu', .tuple_str _ _ p hu', .tuple_str _ _ p hu'⟩
      case lst => obtain ⟨b, ys, rfl, hb, _⟩ := hy; cases rv; obtain ⟨its, _, p, _⟩ := I.tuple ha; obtain ⟨its2, _, p2, _⟩ := I.list hb; exact ⟨.tuple_list p p2.isList hu', .tuple_list p p2.isList hu', .tuple_list p p2.isList hu'⟩
    | lst ds =>
      unfold depD at hd
      unfold Rep at hx
      obtain ⟨a, xs, rfl, ha, hr⟩ := hx
      cases ru
      cases e <;> unfold Rep at hy
      case lst es =>
        obtain ⟨b, ys, rfl, hb, hr'⟩ := hy
        cases rv
        refine eq3_lst I hu' ha hb hr hr' fun i d e x y u v e1 e2 e3 e4 ru rv => ?_
        obtain ⟨x', q1, q2⟩ := hr.get e1
        obtain ⟨y', q3, q4⟩ := hr'.get e2
        rw [e3] at q1; cases q1
        rw [e4] at q3; cases q3
        exact (ih A.in1 d e x y u v (by have := depD_le e1; omega) hin q2 q4 ru rv).1
      case non => subst hy; cases rv; obtain ⟨its, _, p, _⟩ := I.list ha; exact ⟨.list_none p.isList hu', .list_none p.isList hu', .list_none p.isList hu'⟩
      case bl => subst hy; cases rv; obtain ⟨its, _, p, _⟩ := I.list ha; exact ⟨.list_bool _ p.isList hu', .list_bool _ p.isList hu', .list_bool _ p.isList hu'⟩
      case int => subst hy; obtain ⟨t, rfl⟩ := rv; obtain ⟨its, _, p, _⟩ := I.list ha; exact ⟨.list_int _ _ p.isList hu', .list_int _ _ p.isList hu', .list_int _ _ p.isList hu'⟩
      case str => subst hy; obtain ⟨t, rfl⟩ := rv; obtain ⟨its, _, p, _⟩ := I.list ha; exact ⟨.list_str _ _ p.isList hu', .list_str _ _ p.isList hu', .list_str _ _ p.isList hu'⟩
      case tup => obtain ⟨b, ys, rfl, hb, _⟩ := hy; cases rv; obtain ⟨its, _, p, _⟩ := I.list ha; obtain ⟨its2, _, p2, _⟩ := I.tuple hb; exact ⟨.list_tuple p.isList p2 hu', .list_tuple p.isList p2 hu', .list_tuple p.isList p2 hu'⟩
    | non => exact ih A .non e x y u v (by unfold depD; omega) (by omega) hx hy ru rv
    | bl c => exact ih A (.bl c) e x y u v (by unfold depD; omega) (by omega) hx hy ru rv
    | int c => exact ih A (.int c) e x y u v (by unfold depD; omega) (by omega) hx hy ru rv
    | str c => exact ih A (.str c) e x y u v (by unfold depD; omega) (by omega) hx hy ru rv
end
section
variable {X : Cx}
def mEq (neg : Bool) (K : PySem.W.Frag) : R2 := fun x y H Q => match x, y with
  | .non, .non => Q (.bl (neg ^^ true)) H
  | .bl a, .bl b => Q (.bl (neg ^^ (a == b))) H
  | .int a, .int b => Q (.bl (neg ^^ (a == b))) H
  | .str a, .str b => Q (.bl (neg ^^ (a == b))) H
  | x, y => ∃ d e, Rep K H d x /\ Rep K H e y /\ depD d <= 60 /\ Q (.bl (neg ^^ eqD d e)) H
theorem om_eqAll (hu : X.A.units + 60 < cLine) : OpR X (compareOp .Eq) (fun x y H Q => ∃ d e, Rep X.K H d x /\ Rep X.K H e y /\ depD d <= 60 /\ Q (.bl (eqD d e)) H) := by
  intro pins s σ H x y v u Q I rx ry h
  obtain ⟨d, e, h1, h2, h3, q⟩ := h
  exact (eq_all I 60 X.A d e x y v u h3 hu h1 h2 rx ry).2.1 X.prog X.w _ _ ⟨.bl _, H, I, rfl, q⟩
theorem om_neAll (hu : X.A.units + 60 < cLine) : OpR X (compareOp .NotEq) (fun x y H Q => ∃ d e, Rep X.K H d x /\ Rep X.K H e y /\ depD d <= 60 /\ Q (.bl (!eqD d e)) H) := by
  intro pins s σ H x y v u Q I rx ry h
  obtain ⟨d, e, h1, h2, h3, q⟩ := h
  exact (eq_all I 60 X.A d e x y v u h3 hu h1 h2 rx ry).2.2 X.prog X.w _ _ ⟨.bl _, H, I, rfl, q⟩
theorem mEq_imp {neg : Bool} {K : PySem.W.Frag} {x y : V} {H : Hp} {Q : VK} (h : mEq neg K x y H Q) : ∃ d e, Rep K H d x /\ Rep K H e y /\ depD d <= 60 /\ Q (.bl (neg ^^ eqD d e)) H := by
  unfold mEq at h
  split at h
  . exact ⟨.non, .non, by unfold Rep; rfl, by unfold Rep; rfl, by unfold depD; omega, by unfold eqD; exact h⟩
  . rename_i a b; exact ⟨.bl a, .bl b, by unfold Rep; rfl, by unfold Rep; rfl, by unfold depD; omega, by unfold eqD; exact h⟩
  . rename_i a b; exact ⟨.int a, .int b, by unfold Rep; rfl, by unfold Rep; rfl, by unfold depD; omega, by unfold eqD; exact h⟩
  . rename_i a b; exact ⟨.str a, .str b, by unfold Rep; rfl, by unfold Rep; rfl, by unfold depD; omega, by unfold eqD; exact h⟩
  . exact h
theorem om_eq (hu : X.A.units + 60 < cLine) : OpR X (compareOp .Eq) (mEq false X.K) := (om_eqAll hu).imp fun x y H Q h => by
  obtain ⟨d, e, h1, h2, h3, q⟩ := mEq_imp h
  exact ⟨d, e, h1, h2, h3, by rw [Bool.false_xor] at q; exact q⟩
theorem om_ne (hu : X.A.units + 60 < cLine) : OpR X (compareOp .NotEq) (mEq true X.K) := (om_neAll hu).imp fun x y H Q h => by
  obtain ⟨d, e, h1, h2, h3, q⟩ := mEq_imp h
  exact ⟨d, e, h1, h2, h3, by rw [Bool.true_xor] at q; exact q⟩
end
section
variable {X : Cx} {a b c e : Expr} {es : List Expr} {ta tb tc te : TE} {tA tB' : TT} {t : TA} {pos p : Pos} {x : Str}
def isB (v : V) (Q : Bool -> Prop) : Prop := match v with
  | .bl c => Q c
  | _ => False
theorem isB_of {v : V} {Q : Bool -> Prop} (h : isB v Q) : ∃ c, v = .bl c /\ Q c := by
  cases v <;> first | exact False.elim h | exact ⟨_, rfl, h⟩
def EMono (t : TE) : Prop := ∀ σ H (Q Q' : VK), (∀ v H, Q v H -> Q' v H) -> t σ H Q -> t σ H Q'
def uB (t : TE) : TT := fun σ H Q => t σ H fun x H1 => isB x fun c => Q c H1
theorem tu_cmp {op : CmpOp} {r : R2} (ho : OpR X (compareOp op) r) (ha : PE X a ta) (hb : PE X b tb) (hm : behindInMarks op b = false := by first | exact nobehind _ (by decide) (by decide) | rfl) : PT X (.Compare a [op] [b] pos) (uB (tOp r ta tb)) := by
  intro pins s σ H Q I h
  refine wpAny_isTrue_Compare1 (thn (ha pins s σ H _ I h) fun v s1 ⟨x, H1, I1, r1, q1⟩ => thn (hb pins s1 σ H1 _ I1 q1) fun u s2 ⟨y, H2, I2, r2, q2⟩ =>
    thn (ho pins s2 σ H2 x y v u _ I2 r1 r2 q2) fun c s3 ⟨z, H3, I3, r3, q⟩ => ?_) hm
  obtain ⟨k, e, q3⟩ := isB_of q
  subst e
  cases r3
  exact wpAny_truthy_bool ⟨H3, I3, q3⟩
theorem pe_cmpM {op : CmpOp} {r : R2} (ho : OpR X (compareOp op) r) (ha : PE X a ta) (hb : PE X b tb) (hm : behindInMarks op b = false := by first | exact nobehind _ (by decide) (by decide) | rfl) : PE X (.Compare a [op] [b] pos) (tOp r ta tb) := pe_cmpR ho ha hb hm
theorem tu_val (h : PE X e te) (he : ∀ whole, isTrue e X.env whole = (do let v <- whole; standAt e.pos; holding [v] (truthy v)) := by intro _; rfl) : PT X e (uB te) := by
  intro pins s σ H Q I hq
  refine isTrue_plain (thn (h pins s σ H _ I hq) fun v s1 ⟨x, H1, I1, r1, q1⟩ => ?_) (he _)
  obtain ⟨k, e, q⟩ := isB_of q1
  subst e
  cases r1
  exact wpAny_truthy_bool ⟨H1, I1, q⟩
def vChain (r r' : R2) (ta tb tc : TE) : TE := fun σ H Q => ta σ H fun x H1 => tb σ H1 fun y H2 => r x y H2 fun z H3 => isB z fun k =>
  (if k = true then tc σ H3 fun w' H4 => r' y w' H4 Q else Q (.bl false) H3)
theorem tu_chain {op op' : CmpOp} {r r' : R2} (ho : OpR X (compareOp op) r) (ho' : OpR X (compareOp op') r') (ha : PE X a ta) (hb : PE X b tb) (hc : PE X c tc)
    (hm : lastMarks [op, op'] [b, c] = false := by with_unfolding_all rfl) : PT X (.Compare a [op, op'] [b, c] pos) (uB (vChain r r' ta tb tc)) := by
  intro pins s σ H Q I h
  refine isTrue_chain (thn (ha pins s σ H _ I h) fun v s1 ⟨x, H1, I1, r1, q1⟩ => test_link (thn (hb pins s1 σ H1 _ I1 q1) fun u s2 ⟨y, H2, I2, r2, q2⟩ =>
    thn (ho pins s2 σ H2 x y v u _ I2 r1 r2 q2) fun d s3 ⟨z, H3, I3, r3, q⟩ => ?_)) hm
  obtain ⟨k, e, q3⟩ := isB_of q
  subst e
  cases r3
  refine wpAny_truthy_bool ?_
  cases k with
  | false =>
    have q3 : Q false H3 := q3
    exact ite_ff ⟨H3, I3, q3⟩
  | true =>
    refine ite_tt (test_last (thn (hc pins s3 σ H3 _ I3 q3) fun w' s4 ⟨z', H4, I4, r4, q4⟩ => thn (ho' pins s4 σ H4 y z' u w' _ I4 r2 r4 q4) fun d' s5 ⟨z2, H5, I5, r5, q5⟩ => ?_))
    obtain ⟨k2, e2, q5⟩ := isB_of q5
    subst e2
    cases r5
    exact wpAny_truthy_bool ⟨H5, I5, q5⟩
def vAnd (ta tb : TE) : TE := fun σ H Q => ta σ H fun x H1 => isB x fun c => if c = true then tb σ H1 Q else Q (.bl false) H1
def vNot (ta : TE) : TE := fun σ H Q => ta σ H fun x H1 => isB x fun c => Q (.bl (!c)) H1
theorem pe_andM (ha : PE X a ta) (hb : PE X (.BoolOp .And (b :: es) pos) tb) : PE X (.BoolOp .And (a :: b :: es) pos) (vAnd ta tb) := by
  have ha' : PE X a (fun σ H Q => ta σ H fun x H1 => isB x fun c => Q (.bl c) H1) := fun pins s σ H Q I h => thn (ha pins s σ H _ I h) fun v s1 ⟨x, H1, I1, r1, q1⟩ => by
    obtain ⟨c, e, q⟩ := isB_of q1
    subst e
    exact ⟨.bl c, H1, I1, r1, q⟩
  have h := pe_and (pos := pos) ha' hb
  exact h.imp fun σ H Q q => by
    show ta σ H fun x H1 => isB x fun c => ∃ c', V.bl c = .bl c' /\ if c' = true then tb σ H1 Q else Q (.bl false) H1
    have e : (fun (x : V) (H1 : Hp) => isB x fun c => ∃ c', V.bl c = .bl c' /\ if c' = true then tb σ H1 Q else Q (.bl false) H1) = fun x H1 => isB x fun c => if c = true then tb σ H1 Q else Q (.bl false) H1 := by
      funext x H1
      cases x <;> first | rfl | (apply propext; constructor; (rintro ⟨c', e, h⟩; cases e; exact h); (intro h; exact ⟨_, rfl, h⟩))
    rw [e]
    exact q
theorem pe_notM (ha : PE X a ta) : PE X (.UnaryOp .Not a pos) (vNot ta) := by
  have ha' : PE X a (fun σ H Q => ta σ H fun x H1 => isB x fun c => Q (.bl c) H1) := fun pins s σ H Q I h => thn (ha pins s σ H _ I h) fun v s1 ⟨x, H1, I1, r1, q1⟩ => by
    obtain ⟨c, e, q⟩ := isB_of q1
    subst e
    exact ⟨.bl c, H1, I1, r1, q⟩
  have h := pe_not (pos := pos) ha'
  exact h.imp fun σ H Q q => by
    show ta σ H fun x H1 => isB x fun c => ∃ c', V.bl c = .bl c' /\ Q (.bl (!c')) H1
    have e : (fun (x : V) (H1 : Hp) => isB x fun c => ∃ c', V.bl c = .bl c' /\ Q (.bl (!c')) H1) = fun x H1 => isB x fun c => Q (.bl (!c)) H1 := by
      funext x H1
      cases x <;> first | rfl | (apply propext; constructor; (rintro ⟨c', e, h⟩; cases e; exact h); (intro h; exact ⟨_, rfl, h⟩))
    rw [e]
    exact q
def SqA (K : PySem.W.Frag) (H : Hp) (p : Addr) (xs : List V) : Prop := SqL K H p xs \/ SqT K H p xs
def mIx (K : PySem.W.Frag) : R2 := fun x y H Q => match x, y with
  | .ref p, .int i => ∃ xs v, SqA K H p xs /\ atI xs i = some v /\ Q v H
  | .str z, .int i => ∃ c, z.length <= sizeLine /\ atI z.cps.toList i = some c /\ Q (.str ⟨#[c]⟩) H
  | _, _ => False
theorem IxR.imp {r r' : R2} (h : IxR X r) (g : ∀ x y H Q, r' x y H Q -> r x y H Q) : IxR X r' := fun a b pins s σ H x y v u Q I rx ry q z => h a b pins s σ H x y v u Q I rx ry (g _ _ _ _ q) z
theorem xm_ix : IxR X (mIx X.K) := ix_seq.imp fun x y H Q q => by
  cases x <;> cases y <;> first
    | exact False.elim q
    | (obtain ⟨xs, v, h | h, e, q⟩ := q
       . exact .inl ⟨_, xs, _, v, rfl, rfl, h, e, q⟩
       . exact .inr (.inl ⟨_, xs, _, v, rfl, rfl, h, e, q⟩))
    | (obtain ⟨c, hz, e, q⟩ := q
       exact .inr (.inr ⟨_, _, c, rfl, rfl, hz, e, q⟩))
theorem pe_ixM (ha : PE X a ta) (hb : PE X b tb) (hs : PlainIx b := by intro _ _; rfl) : PE X (.Subscript a b pos) (tOp (mIx X.K) ta tb) := pe_ix xm_ix ha hb hs
def mLen (K : PySem.W.Frag) : List V -> Hp -> VK -> Prop := fun xs H Q => match xs with
  | [x] => ∃ n, LenV K x H n /\ Q (.int n) H
  | _ => False
theorem cm_len : CallR X (.builtin "len") (mLen X.K) := call_len.imp fun xs H Q q => by
  match xs, q with
  | [x], ⟨n, h, q⟩ => exact ⟨x, n, rfl, h, q⟩
def mAbs : List V -> Hp -> VK -> Prop := fun xs H Q => match xs with
  | [.int i] => Q (.int (i.natAbs : Int)) H
  | _ => False
theorem cm_abs : CallR X (.builtin "abs") mAbs := call_abs.imp fun xs H Q q => by
  match xs, q with
  | [.int i], q =>
    refine ⟨i, rfl, ?_⟩
    have e : (if i < 0 then -i else i) = (i.natAbs : Int) := by split <;> omega
    rw [e]
    exact q
def mMax : List V -> Hp -> VK -> Prop := fun xs H Q => match xs with
  | [.int i, .int j] => Q (.int (max i j)) H
  | _ => False
theorem cm_max (hc : X.calm = true) : CallR X (.builtin "max") mMax := (call_max2 hc).imp fun xs H Q q => by
  match xs, q with
  | [.int i, .int j], q =>
    refine ⟨i, j, rfl, ?_⟩
    have e : (if j > i then j else i) = max i j := by split <;> omega
    rw [e]
    exact q
def mInt : List V -> Hp -> VK -> Prop := fun xs H Q => match xs with
  | [.int i] => Q (.int i) H
  | [.bl k] => Q (.int (if k then 1 else 0)) H
  | _ => False
theorem cm_int : CallR X (.type "int") mInt := call_int1.imp fun xs H Q q => by
  match xs, q with
  | [.int i], q => exact .inl ⟨i, rfl, q⟩
  | [.bl k], q => exact .inr ⟨k, rfl, q⟩
def mTuple (K : PySem.W.Frag) : List V -> Hp -> VK -> Prop := fun xs H Q => match xs with
  | [.ref p] => ∃ ys, (SqL K H p ys /\ ∀ l, H l = none -> Q (.ref l) (upd H l (.tup ys))) \/ (SqT K H p ys /\ Q (.ref p) H)
  | _ => False
theorem cm_tuple : CallR X (.type "tuple") (mTuple X.K) := call_tuple_of.imp fun xs H Q q => by
  match xs, q with
  | [.ref p], ⟨ys, q⟩ => exact ⟨p, ys, rfl, q⟩
def mList (K : PySem.W.Frag) : List V -> Hp -> VK -> Prop := fun xs H Q => match xs with
  | [.ref p] => ∃ ys, SqA K H p ys /\ ∀ l, H l = none -> Q (.ref l) (upd H l (.lst ys))
  | _ => False
theorem cm_list : CallR X (.type "list") (mList X.K) := call_list_of.imp fun xs H Q q => by
  match xs, q with
  | [.ref p], ⟨ys, h, q⟩ => exact ⟨p, ys, rfl, h, q⟩
end
def compOkB (scope sc : Scope) : Bool :=
  decide (scope.kind = .function) && decide (scope.names.map (·.1)).Nodup && scope.names.all fun y => !(y.2 == .free) || (sc.names.lookup y.1 == some .cell || sc.names.lookup y.1 == some .free)
theorem CompScope.of {scope sc : Scope} (h : compOkB scope sc = true) : CompScope scope sc := by
  unfold compOkB at h
  rw [Bool.and_eq_true, Bool.and_eq_true] at h
  obtain ⟨⟨h1, h2⟩, h3⟩ := h
  refine ⟨of_decide_eq_true h1, of_decide_eq_true h2, fun y hy hf => ?_⟩
  have := List.all_eq_true.mp h3 y hy
  rw [hf] at this
  rcases (Bool.or_eq_true _ _).mp this with z | z
  . exact absurd z (by decide)
  . rcases (Bool.or_eq_true _ _).mp z with z | z
    . exact .inl (by simpa using z)
    . exact .inr (by simpa using z)
section
variable {X : Cx} {tg iter elt : Expr} {ifs : List Expr} {scope : Scope} {pos : Pos} {N' : List Str} {own : Nat} {ix : List Nat} {g : TG} {tc : TT} {te : TE} {wi : TI}
theorem frB {l : List Str} (h : (l.all fun x => scope.names.lookup x == some .free) = true) : ∀ x ∈ l, scope.names.lookup x = some .free := fun x hx => by
  have := List.all_eq_true.mp h x hx
  simpa using this
theorem pe_compB (hc : X.calm = true) (hi : PI X tg iter wi) (S : compOkB scope X.env.scope = true)
    (hlen : N'.length = own + ix.length) (hN : (N'.drop own).map some = ix.map (X.N[·]?)) (hfr : ((N'.drop own).all fun x => scope.names.lookup x == some .free) = true)
    (hg : ∀ c, PG (X.comp scope N' c) tg g) (hgo : GOwn own g) (ht : ∀ c, PTs (X.comp scope N' c) ifs tc) (he : ∀ c, PE (X.comp scope N' c) elt te)
    (hs : ∀ x, foldedSetIterable iter X.env x = pure x := by intro _; rfl) : PE X (.ListComp elt [⟨tg, iter, ifs, 0⟩] scope pos) (tComp wi own ix g tc te) :=
  pe_comp hc hi (.of S) hlen hN (frB hfr) hg hgo ht he hs
theorem ps_compB {i : Nat} {y : Str} {py spos : Pos} (hc : X.calm = true) (hnd : X.N.Nodup) (hiy : X.N[i]? = some y) (hy : X.env.scope.names.lookup y = some .local) (hi : PI X tg iter wi) (S : compOkB scope X.env.scope = true)
    (hlen : N'.length = own + ix.length) (hN : (N'.drop own).map some = ix.map (X.N[·]?)) (hfr : ((N'.drop own).all fun x => scope.names.lookup x == some .free) = true)
    (hg : ∀ c, PG (X.comp scope N' c) tg g) (hgo : GOwn own g) (ht : ∀ c, PTs (X.comp scope N' c) ifs tc) (he : ∀ c, PE (X.comp scope N' c) elt te)
    (hsw : swapsWith (.ListComp elt [⟨tg, iter, ifs, 0⟩] scope pos) (some (.Name y py)) spos.line X.env = pure true)
    (hs : ∀ x, foldedSetIterable iter X.env x = pure x := by intro _; rfl) : PS X (.Assign [.Name y py] (.ListComp elt [⟨tg, iter, ifs, 0⟩] scope pos) spos) (tAsg (tComp wi own ix g tc te) (gName i)) :=
  ps_comp hc hnd hiy hy hi (.of S) hlen hN (frB hfr) hg hgo ht he hsw hs
def iSeq (K : PySem.W.Frag) (tl : TE) : TI := fun σ H R => tl σ H fun x H1 => match x with
  | .ref a => ((∃ xs, SqL K H1 a xs) /\ R (Itl K a) H1) \/ ((∃ xs, SqT K H1 a xs) /\ R (Itt K a) H1)
  | _ => False
theorem pi_seq {l : Expr} {tl : TE} (hl : PE X l tl) : PI X tg l (iSeq X.K tl) := by
  intro pins s σ H R I h
  refine thn (hl pins s σ H _ I h) fun v s1 ⟨x, H1, I1, r1, q1⟩ => ?_
  cases x with
  | ref a =>
    cases r1
    rcases q1 with ⟨⟨xs, hq⟩, q⟩ | ⟨⟨xs, hq⟩, q⟩
    . obtain ⟨its, rv, p, hz⟩ := I1.list hq
      refine wpAny_pyIter_list p.isList ?_
      refine ⟨s1.heap.objs.size, [s1.heap.objs.size], _, _, H1, rfl, I1.kept (t' := s1.toks) fun b o e => Heap.get?_push_of_some _ e, turn_list a _, ⟨_, Heap.get?_push_size _ rfl, rfl, rfl⟩, fun b hb => ?_, q⟩
      have e : b = s1.heap.objs.size := by simpa using hb
      subst e
      exact I1.fpOk (Nat.le_refl _) (I1.hok.fresh (Nat.le_refl _))
    . obtain ⟨its, rv, p, hz⟩ := I1.tuple hq
      refine wpAny_pyIter_tuple (show s1.heap.IsTuple a its.toArray from p) ?_
      refine ⟨s1.heap.objs.size, [s1.heap.objs.size], _, _, H1, rfl, I1.kept (t' := s1.toks) fun b o e => Heap.get?_push_of_some _ e, turn_tuple a _, ⟨_, Heap.get?_push_size _ rfl, rfl, rfl⟩, fun b hb => ?_, q⟩
      have e : b = s1.heap.objs.size := by simpa using hb
      subst e
      exact I1.fpOk (Nat.le_refl _) (I1.hok.fresh (Nat.le_refl _))
  | _ => exact False.elim q1
def mSet : TSet := fun o i v H Q => match o, i with
  | .ref p, .int k => ∃ xs j, H p = some (.lst xs) /\ ixN xs.length k = some j /\ Q (upd H p (.lst (xs.set j v)))
  | _, _ => False
theorem set_any : PSet X mSet := by
  intro pins s σ H o i v ov iv u Q I ro ri rv h
  cases o <;> cases i <;> first
    | exact False.elim h
    | (obtain ⟨xs, j, h1, h2, q⟩ := h
       exact set_list pins s σ H _ _ v ov iv u Q I ro ri rv ⟨_, xs, _, j, rfl, rfl, h1, h2, q⟩)
theorem comp_list {K : PySem.W.Frag} {a : Addr} {xs : List V} {σc : St} {Q : VK} {H : Hp} (Pv : Nat -> List V -> Hp -> Prop) (h0 : Pv 0 [] H) (hl : ∀ i ys H, i <= xs.length -> Pv i ys H -> SqL K H a xs) (hz : ∀ i ys H, i < xs.length -> Pv i ys H -> ys.length < sizeLine)
    (hs : ∀ i x ys H, xs[i]? = some x -> Pv i ys H -> g x σc H fun σ2 H2 => tc σ2 H2 fun b H3 => if b = true then te σ2 H3 fun y H4 => Pv (i + 1) (ys ++ [y]) H4 else Pv (i + 1) ys H3)
    (hd : ∀ ys H, Pv xs.length ys H -> ∀ p, H p = none -> Q (.ref p) (upd H p (.lst ys))) : CompTurns (Itl K a) g tc te σc Q H := by
  refine ⟨fun i m ys H => m = xs.length - i /\ i <= xs.length /\ Pv i ys H, ⟨xs.length, by simp, Nat.zero_le _, h0⟩, ?_⟩
  rintro i m ys H ⟨rfl, hi, p⟩
  have q := hl i ys H hi p
  by_cases hlt : i < xs.length
  . refine .inr ⟨⟨xs, xs[i], q, by simp [hlt]⟩, hz i ys H hlt p, Pv (i + 1), fun ys' H' p' => ⟨xs.length - (i + 1), by omega, rfl, hlt, p'⟩, fun x H' y => ?_⟩
    obtain ⟨e, y⟩ := y
    subst e
    exact hs i x ys _ (y xs q) p
  . have e : i = xs.length := by omega
    subst e
    exact .inl ⟨⟨xs, q, Nat.le_refl _⟩, hd ys H p⟩
theorem comp_tup {K : PySem.W.Frag} {a : Addr} {xs : List V} {σc : St} {Q : VK} {H : Hp} (Pv : Nat -> List V -> Hp -> Prop) (h0 : Pv 0 [] H) (hl : ∀ i ys H, i <= xs.length -> Pv i ys H -> SqT K H a xs) (hz : ∀ i ys H, i < xs.length -> Pv i ys H -> ys.length < sizeLine)
    (hs : ∀ i x ys H, xs[i]? = some x -> Pv i ys H -> g x σc H fun σ2 H2 => tc σ2 H2 fun b H3 => if b = true then te σ2 H3 fun y H4 => Pv (i + 1) (ys ++ [y]) H4 else Pv (i + 1) ys H3)
    (hd : ∀ ys H, Pv xs.length ys H -> ∀ p, H p = none -> Q (.ref p) (upd H p (.lst ys))) : CompTurns (Itt K a) g tc te σc Q H := by
  refine ⟨fun i m ys H => m = xs.length - i /\ i <= xs.length /\ Pv i ys H, ⟨xs.length, by simp, Nat.zero_le _, h0⟩, ?_⟩
  rintro i m ys H ⟨rfl, hi, p⟩
  have q := hl i ys H hi p
  by_cases hlt : i < xs.length
  . refine .inr ⟨⟨xs, xs[i], q, by simp [hlt]⟩, hz i ys H hlt p, Pv (i + 1), fun ys' H' p' => ⟨xs.length - (i + 1), by omega, rfl, hlt, p'⟩, fun x H' y => ?_⟩
    obtain ⟨e, y⟩ := y
    subst e
    exact hs i x ys _ (y xs q) p
  . have e : i = xs.length := by omega
    subst e
    exact .inl ⟨⟨xs, q, Nat.le_refl _⟩, hd ys H p⟩
theorem comp_range {lo : Int} {n : Nat} {σc : St} {Q : VK} {H : Hp} (Pv : Nat -> List V -> Hp -> Prop) (h0 : Pv 0 [] H) (hz : ∀ i ys H, i < n -> Pv i ys H -> ys.length < sizeLine)
    (hs : ∀ i ys H, i < n -> Pv i ys H -> g (.int (lo + i)) σc H fun σ2 H2 => tc σ2 H2 fun b H3 => if b = true then te σ2 H3 fun y H4 => Pv (i + 1) (ys ++ [y]) H4 else Pv (i + 1) ys H3)
    (hd : ∀ ys H, Pv n ys H -> ∀ p, H p = none -> Q (.ref p) (upd H p (.lst ys))) : CompTurns (Itr lo n) g tc te σc Q H := by
  refine ⟨fun i m ys H => m = n - i /\ i <= n /\ Pv i ys H, ⟨n, by simp, Nat.zero_le _, h0⟩, ?_⟩
  rintro i m ys H ⟨rfl, hi, p⟩
  by_cases hlt : i < n
  . refine .inr ⟨hlt, hz i ys H hlt p, Pv (i + 1), fun ys' H' p' => ⟨n - (i + 1), by omega, rfl, hlt, p'⟩, fun x H' y => ?_⟩
    obtain ⟨e, y⟩ := y
    subst e y
    exact hs i ys _ hlt p
  . have e : i = n := by omega
    subst e
    exact .inl ⟨Nat.le_refl _, hd ys H p⟩
def vWhile (c : TT) (tb : TS) : TS := fun D σ H => ∃ W : Nat -> St -> Hp -> Prop, (∃ m, W m σ H) /\ ∀ m σ H, W m σ H ->
  c σ H fun b H1 => if b = true then tb { D with nx := fun σ' H' => ∃ m', m' < m /\ W m' σ' H', ct := fun σ' H' => ∃ m', m' < m /\ W m' σ' H', bk := D.nx } σ H1 else D.nx σ H1
theorem ps_whileM {c : Expr} {body : List Stmt} {tc : TT} {tb : TS} (hp : PassesOwn (model X.prog X.w) X.A X.env X.xe) (hc : PT X c tc) (hb : PSs X body tb) : PS X (.While c body [] pos) (vWhile tc tb) := by
  intro pins s σ H D I h
  obtain ⟨W, ⟨m0, w0⟩, turn⟩ := h
  refine wpAny_While (codeAny_whileLoop (fun n s' => ∃ σ' H', Inv X pins σ' H' s' /\ W n σ' H') ?_ m0 ⟨σ, H, I, w0⟩)
  rintro n s1 ⟨σ1, H1, I1, w1⟩
  refine wpAny_passesOwn hp (thn (hc pins s1 σ1 H1 _ I1 (turn n σ1 H1 w1)) fun b s2 ⟨H2, I2, q2⟩ => ?_)
  cases b with
  | true =>
    rw [if_pos rfl] at q2
    rw [if_pos rfl]
    refine wpAny_passesOwn hp (thn (hb pins s2 σ1 H2 _ I2 q2) fun f s3 q3 => ?_)
    cases f with
    | next =>
      obtain ⟨σ3, H3, I3, m', hm, w3⟩ := q3
      exact ⟨m', hm, σ3, H3, I3, w3⟩
    | cont =>
      obtain ⟨σ3, H3, I3, m', hm, w3⟩ := q3
      exact ⟨m', hm, σ3, H3, I3, w3⟩
    | brk => exact q3
    | ret v => exact q3
  | false =>
    rw [if_neg Bool.false_ne_true] at q2
    rw [if_neg Bool.false_ne_true]
    exact wpAny_execs_nil ⟨σ1, H2, I2, q2⟩
end
theorem hu60 {A : Around} {k : Nat} (hr : Room k A) : A.units + 60 < cLine := by have := hr.un; omega
def Frm (t : Addr) (H H' : Hp) : Prop := ∀ b o, b ≠ t -> H b = some o -> H' b = some o
theorem Frm.trans {t : Addr} {H H1 H2 : Hp} (a : Frm t H H1) (b : Frm t H1 H2) : Frm t H H2 := fun c o n h => b c o n (a c o n h)
theorem Frm.upd {t p : Addr} {H : Hp} {o : HO} (h : H p = none) : Frm t H (upd H p o) := fun b u _ e => by rw [upd_ne (ne_of_none e h)]; exact e
theorem Frm.updT {t : Addr} {H : Hp} {o : HO} : Frm t H (L2.upd H t o) := fun b u n e => by rw [upd_ne n]; exact e
theorem Same.upd {p : Addr} {H : Hp} {o : HO} (h : H p = none) : Same H (L2.upd H p o) := fun b u e => by rw [upd_ne (ne_of_none e h)]; exact e
theorem Same.frm {t : Addr} {H H' : Hp} (h : Same H H') : Frm t H H' := fun b o _ e => h b o e
theorem sqL_stay {K : PySem.W.Frag} {H H' : Hp} {a : Addr} {xs : List V} (h : SqL K H a xs) (k : ∀ o, H a = some o -> H' a = some o) : SqL K H' a xs := by
  rcases h with (h | ⟨o, h⟩) | h
  . exact .inl (.inl (k _ h))
  . exact .inl (.inr ⟨o, k _ h⟩)
  . exact .inr h
theorem sqT_stay {K : PySem.W.Frag} {H H' : Hp} {a : Addr} {xs : List V} (h : SqT K H a xs) (k : ∀ o, H a = some o -> H' a = some o) : SqT K H' a xs := by
  rcases h with (h | ⟨o, h⟩) | h
  . exact .inl (.inl (k _ h))
  . exact .inl (.inr ⟨o, k _ h⟩)
  . exact .inr h
def ScrAt (K : PySem.W.Frag) (H : Hp) (t a : Addr) (ns : List Int) : Prop :=
  (Rd H a (.lst (ns.map V.int)) /\ a ≠ t) \/ ∃ (o : Obj) (its : Array Value) (n : Nat), K.lookup a = some o /\ o.cls = .type "list" /\ o.dict = none /\ o.data = .seq its n /\ its.size <= sizeLine /\ Vals (ns.map V.int) its.toList
theorem ScrAt.sq {K : PySem.W.Frag} {H : Hp} {t a : Addr} {ns : List Int} (h : ScrAt K H t a ns) : SqL K H a (ns.map V.int) := by
  rcases h with ⟨h, _⟩ | h
  . exact .inl h
  . exact .inr h
theorem ScrAt.stay {K : PySem.W.Frag} {H H' : Hp} {t a : Addr} {ns : List Int} (h : ScrAt K H t a ns) (k : ∀ o, a ≠ t -> H a = some o -> H' a = some o) : ScrAt K H' t a ns := by
  rcases h with ⟨h | ⟨o, h⟩, n⟩ | h
  . exact .inl ⟨.inl (k _ n h), n⟩
  . exact .inl ⟨.inr ⟨o, k _ n h⟩, n⟩
  . exact .inr h
theorem ScrAt.of {K : PySem.W.Frag} {H : Hp} {t a : Addr} {ns : List Int} (h : SqL K H a (ns.map V.int)) (ht : H t = none) : ScrAt K H t a ns := by
  rcases h with h | h
  . refine .inl ⟨h, fun e => ?_⟩
    subst e
    rcases h with h | ⟨o, h⟩ <;> rw [ht] at h <;> cases h
  . exact .inr h
structure Tape (K : PySem.W.Frag) (H : Hp) (t a : Addr) (ns : List Int) : Prop where
  at_ : ∃ i r c : Int, 0 <= i /\ 0 <= r /\ H t = some (.lst [.ref a, .int i, .int r, .int c])
  scr : ScrAt K H t a ns
theorem Tape.same {K : PySem.W.Frag} {H H' : Hp} {t a : Addr} {ns : List Int} (T : Tape K H t a ns) (h : Same H H') : Tape K H' t a ns := by
  obtain ⟨i, r, c, h1, h2, h3⟩ := T.at_
  exact ⟨⟨i, r, c, h1, h2, h _ _ h3⟩, T.scr.stay fun o _ e => h a o e⟩
theorem Tape.upd {K : PySem.W.Frag} {H : Hp} {t a p : Addr} {o : HO} {ns : List Int} (T : Tape K H t a ns) (h : H p = none) : Tape K (L2.upd H p o) t a ns := T.same (Same.upd h)
theorem Tape.free {K : PySem.W.Frag} {H H' : Hp} {t a p : Addr} {ns : List Int} (T : Tape K H' t a ns) (h : Frm t H H') (hp : H' p = none) : H p = none := by
  cases e : H p with
  | none => rfl
  | some o =>
    by_cases hpt : p = t
    . subst hpt
      obtain ⟨i, r, c, _, _, h3⟩ := T.at_
      rw [h3] at hp; cases hp
    . rw [h p o hpt e] at hp; cases hp
theorem Tape.neT {K : PySem.W.Frag} {H : Hp} {t a p : Addr} {ns : List Int} (T : Tape K H t a ns) (hp : H p = none) : p ≠ t := fun e => by
  obtain ⟨i, r, c, _, _, h3⟩ := T.at_
  rw [e, h3] at hp; cases hp
def spNext (K : PySem.W.Frag) : Sp := fun vs H Q _ => match vs with
  | [.ref t, .int m] => ∃ a ns, Tape K H t a ns /\ okDiv m /\ ∀ d H', 0 <= d -> d < m -> Tape K H' t a ns -> (∀ b, b ≠ t -> H' b = H b) -> Q (.int d) H'
  | _ => False
def spTape (K : PySem.W.Frag) : Sp := fun vs H Q _ => match vs with
  | [.ref a] => ∀ p, H p = none -> Q (.ref p) (upd H p (.lst [.ref a, .int 0, .int 0, .int 0]))
  | _ => False
def spLaw (K : PySem.W.Frag) : Sp := fun vs H Q _ => ∃ (a : Addr) (ns : List Int), vs = [.ref a] /\ SqL K H a (ns.map V.int) /\ ns.length <= 63 /\ ∀ H', Q (.bl true) H'
theorem atI_of {xs : List V} {i : Int} {n : Nat} {v : V} (h : i = (n : Int)) (hx : xs[n]? = some v) : atI xs i = some v := by
  subst h
  have hn : n < xs.length := (List.getElem?_eq_some_iff.mp hx).1
  unfold atI ixN
  rw [if_pos (Int.natCast_nonneg n), if_pos (by omega)]
  simpa using hx
theorem atI_int {ns : List Int} {i : Int} (h0 : 0 <= i) (h1 : i < ns.length) : ∃ z, atI (ns.map V.int) i = some (.int z) := by
  obtain ⟨n, rfl⟩ := Int.eq_ofNat_of_zero_le h0
  have hn : n < ns.length := by omega
  exact ⟨ns[n], atI_of rfl (by rw [List.getElem?_map, List.getElem?_eq_getElem hn]; rfl)⟩
theorem newTape {K : PySem.W.Frag} {H : Hp} {a p : Addr} {ns : List Int} (h : H p = none) (hs : SqL K H a (ns.map V.int)) : Tape K (L2.upd H p (.lst [.ref a, .int 0, .int 0, .int 0])) p a ns :=
  ⟨⟨0, 0, 0, Int.le_refl _, Int.le_refl _, upd_same⟩, (ScrAt.of hs h).stay fun o n e => by rw [upd_ne n]; exact e⟩
theorem okDiv_of {j : Int} (h1 : 0 < j) (h2 : j <= 2 ^ 1000) : okDiv j := ⟨h1, Int.lt_of_le_of_lt h2 (by decide)⟩
theorem small_le {n : Nat} (h : n <= 1000) : n <= sizeLine := Nat.le_of_lt (small1000 h)
def TMono (t : TT) : Prop := ∀ σ H (Q Q' : Bool -> Hp -> Prop), (∀ b H, Q b H -> Q' b H) -> t σ H Q -> t σ H Q'
def AMono (t : TA) : Prop := ∀ σ H (Q Q' : List V -> Hp -> Prop), (∀ b H, Q b H -> Q' b H) -> t σ H Q -> t σ H Q'
def RMono (r : R2) : Prop := ∀ x y H (Q Q' : VK), (∀ v H, Q v H -> Q' v H) -> r x y H Q -> r x y H Q'
def CMono (r : List V -> Hp -> VK -> Prop) : Prop := ∀ xs H (Q Q' : VK), (∀ v H, Q v H -> Q' v H) -> r xs H Q -> r xs H Q'
def BMono (r : V -> List V -> Hp -> VK -> Prop) : Prop := ∀ x xs H (Q Q' : VK), (∀ v H, Q v H -> Q' v H) -> r x xs H Q -> r x xs H Q'
def SpMono (sp : Sp) : Prop := ∀ vs H (Q Q' : VK) E, (∀ v H, Q v H -> Q' v H) -> sp vs H Q E -> sp vs H Q' E
def IMono (t : TI) : Prop := ∀ σ H (Q Q' : It -> Hp -> Prop), (∀ J H, Q J H -> Q' J H) -> t σ H Q -> t σ H Q'
def SetMono (t : TSet) : Prop := ∀ o i v H (Q Q' : Hp -> Prop), (∀ H, Q H -> Q' H) -> t o i v H Q -> t o i v H Q'
structure Ends.le (D D' : Ends) : Prop where
  nx : ∀ σ H, D.nx σ H -> D'.nx σ H
  rt : ∀ v H, D.rt v H -> D'.rt v H
  bk : ∀ σ H, D.bk σ H -> D'.bk σ H
  ct : ∀ σ H, D.ct σ H -> D'.ct σ H
def SMono (t : TS) : Prop := ∀ D D' σ H, Ends.le D D' -> t D σ H -> t D' σ H
theorem em_var {i : Nat} : EMono (vVar i) := fun σ H Q Q' h q => by
  unfold vVar at *
  split at q
  . exact h _ _ q
  . exact q.elim
theorem em_c {v : V} : EMono (tC v) := fun _ _ _ _ h q => h _ _ q
theorem em_op {r : R2} {ta tb : TE} (hr : RMono r) (ha : EMono ta) (hb : EMono tb) : EMono (tOp r ta tb) := fun σ H Q Q' h q => ha _ _ _ _ (fun _ _ q => hb _ _ _ _ (fun _ _ q => hr _ _ _ _ _ h q) q) q
theorem rm_add {K} : RMono (mAdd K) := fun x y H Q Q' h q => by
  unfold mAdd at *
  split at q
  . exact h _ _ q
  . exact ⟨q.1, h _ _ q.2⟩
  . rcases q with ⟨l, b, xs, zs, e1, e2, h1, h2, h3, q⟩ | ⟨a, b, xs, ys, e1, e2, h1, h2, h3, h4, q1, q2⟩
    . exact .inl ⟨l, b, xs, zs, e1, e2, h1, h2, h3, fun p hp => h _ _ (q p hp)⟩
    . exact .inr ⟨a, b, xs, ys, e1, e2, h1, h2, h3, h4, fun e => h _ _ (q1 e), fun e p hp => h _ _ (q2 e p hp)⟩
  . exact q.elim
theorem rm_sub : RMono mSub := fun x y H Q Q' h q => by unfold mSub at *; split at q <;> first | exact h _ _ q | exact q.elim
theorem rm_mul : RMono mMul := fun x y H Q Q' h q => by
  unfold mMul at *
  split at q
  . exact ⟨q.1, h _ _ q.2⟩
  . obtain ⟨l, k, xs, e1, e2, h1, h2, h3, h4, q⟩ := q
    exact ⟨l, k, xs, e1, e2, h1, h2, h3, h4, fun p hp => h _ _ (q p hp)⟩
  . exact q.elim
theorem rm_div : RMono mDiv := fun x y H Q Q' h q => by unfold mDiv at *; split at q <;> first | exact ⟨q.1, h _ _ q.2⟩ | exact q.elim
theorem rm_mod : RMono mMod := fun x y H Q Q' h q => by unfold mMod at *; split at q <;> first | exact ⟨q.1, h _ _ q.2⟩ | exact q.elim
theorem rm_pow : RMono mPow := fun x y H Q Q' h q => by unfold mPow at *; split at q <;> first | exact ⟨q.1, h _ _ q.2⟩ | exact q.elim
theorem rm_cmp {p} : RMono (mCmp p) := fun x y H Q Q' h q => by unfold mCmp at *; split at q <;> first | exact h _ _ q | exact q.elim
theorem rm_eq {n K} : RMono (mEq n K) := fun x y H Q Q' h q => by
  unfold mEq at *
  split at q <;> first | exact h _ _ q | (obtain ⟨d, e, h1, h2, h3, q⟩ := q; exact ⟨d, e, h1, h2, h3, h _ _ q⟩)
theorem rm_ix {K} : RMono (mIx K) := fun x y H Q Q' h q => by
  unfold mIx at *
  split at q
  . obtain ⟨xs, v, h1, h2, q⟩ := q; exact ⟨xs, v, h1, h2, h _ _ q⟩
  . obtain ⟨c, h1, h2, q⟩ := q; exact ⟨c, h1, h2, h _ _ q⟩
  . exact q.elim
theorem isB_mono {v : V} {Q Q' : Bool -> Prop} (h : ∀ b, Q b -> Q' b) (q : isB v Q) : isB v Q' := by
  cases v <;> first | exact h _ q | exact q
theorem tm_b {t : TE} (h : EMono t) : TMono (uB t) := fun σ H Q Q' k q => h _ _ _ _ (fun _ _ q => isB_mono (fun b q => k b _ q) q) q
theorem em_chain {r r' : R2} {ta tb tc : TE} (hr : RMono r) (hr' : RMono r') (ha : EMono ta) (hb : EMono tb) (hc : EMono tc) : EMono (vChain r r' ta tb tc) := fun σ H Q Q' h q =>
  ha _ _ _ _ (fun _ _ q => hb _ _ _ _ (fun _ _ q => hr _ _ _ _ _ (fun _ _ q => isB_mono (fun b q => by
    split
    . rename_i e; rw [if_pos e] at q; exact hc _ _ _ _ (fun _ _ q => hr' _ _ _ _ _ h q) q
    . rename_i e; rw [if_neg e] at q; exact h _ _ q) q) q) q) q
theorem em_not {ta : TE} (ha : EMono ta) : EMono (vNot ta) := fun σ H Q Q' h q => ha _ _ _ _ (fun _ _ q => isB_mono (fun b q => h _ _ q) q) q
theorem em_if {t : TT} {ta tb : TE} (ht : TMono t) (ha : EMono ta) (hb : EMono tb) : EMono (tIf t ta tb) := fun σ H Q Q' h q => ht _ _ _ _ (fun b _ q => by
    cases b with
    | true => exact ha _ _ _ _ h q
    | false => exact hb _ _ _ _ h q) q
theorem tm_and {t u : TT} (ht : TMono t) (hu : TMono u) : TMono (tAnd t u) := fun σ H Q Q' h q => ht _ _ _ _ (fun b _ q => by
    cases b with
    | true => exact hu _ _ _ _ h q
    | false => exact h _ _ q) q
theorem tm_or {t u : TT} (ht : TMono t) (hu : TMono u) : TMono (tOr t u) := fun σ H Q Q' h q => ht _ _ _ _ (fun b _ q => by
    cases b with
    | true => exact h _ _ q
    | false => exact hu _ _ _ _ h q) q
theorem tm_not {t : TT} (ht : TMono t) : TMono (tNot t) := fun σ H Q Q' h q => ht _ _ _ _ (fun b _ q => h _ _ q) q
theorem am_nil : AMono tNil := fun _ _ _ _ h q => h _ _ q
theorem am_cons {ta : TE} {t : TA} (ha : EMono ta) (ht : AMono t) : AMono (tCons ta t) := fun σ H Q Q' h q => ha _ _ _ _ (fun _ _ q => ht _ _ _ _ (fun _ _ q => h _ _ q) q) q
theorem em_cb {r} {t : TA} (hr : CMono r) (ht : AMono t) : EMono (tCB r t) := fun σ H Q Q' h q => ht _ _ _ _ (fun _ _ q => hr _ _ _ _ h q) q
theorem em_call {sp dvs E} {t : TA} (hs : SpMono sp) (ht : AMono t) : EMono (tCall sp dvs E t) := fun σ H Q Q' h q => ht _ _ _ _ (fun _ _ q => hs _ _ _ _ _ h q) q
theorem em_tup {t : TA} (ht : AMono t) : EMono (tTup t) := fun σ H Q Q' h q => ht _ _ _ _ (fun _ _ q => ⟨q.1, fun p hp => h _ _ (q.2 p hp)⟩) q
theorem em_lst {t : TA} (ht : AMono t) : EMono (tLst t) := fun σ H Q Q' h q => ht _ _ _ _ (fun _ _ q => ⟨q.1, fun p hp => h _ _ (q.2 p hp)⟩) q
theorem em_comp {wi own ix g tc te} (hi : IMono wi) : EMono (tComp wi own ix g tc te) := fun σ H Q Q' h q => hi _ _ _ _ (fun J H1 q => by
    obtain ⟨W, w0, turn⟩ := q
    refine ⟨W, w0, fun i m ys H w => ?_⟩
    rcases turn i m ys H w with ⟨a, b⟩ | r
    . exact .inl ⟨a, fun p hp => h _ _ (b p hp)⟩
    . exact .inr r) q
theorem cm_len_ {K} : CMono (mLen K) := fun xs H Q Q' h q => by unfold mLen at *; split at q <;> first | (obtain ⟨n, a, q⟩ := q; exact ⟨n, a, h _ _ q⟩) | exact q.elim
theorem cm_max_ : CMono mMax := fun xs H Q Q' h q => by unfold mMax at *; split at q <;> first | exact h _ _ q | exact q.elim
theorem cm_int_ : CMono mInt := fun xs H Q Q' h q => by unfold mInt at *; split at q <;> first | exact h _ _ q | exact q.elim
theorem cm_tuple_ {K} : CMono (mTuple K) := fun xs H Q Q' h q => by
  unfold mTuple at *
  split at q
  . obtain ⟨ys, ⟨a, q⟩ | ⟨a, q⟩⟩ := q
    . exact ⟨ys, .inl ⟨a, fun l hl => h _ _ (q l hl)⟩⟩
    . exact ⟨ys, .inr ⟨a, h _ _ q⟩⟩
  . exact q.elim
theorem im_seq {K} {tl : TE} (h : EMono tl) : IMono (iSeq K tl) := fun σ H Q Q' k q => h _ _ _ _ (fun v H1 q => by
    cases v <;> first | exact q.elim | (rcases q with ⟨a, q⟩ | ⟨a, q⟩
                                        . exact .inl ⟨a, k _ _ q⟩
                                        . exact .inr ⟨a, k _ _ q⟩)) q
theorem im_rng1 {ta : TA} (h : AMono ta) : IMono (iRng1 ta) := fun σ H Q Q' k q => h _ _ _ _ (fun _ _ ⟨j, e, a, b, q⟩ => ⟨j, e, a, b, k _ _ q⟩) q
theorem sm_set : SetMono mSet := fun o i v H Q Q' h q => by
  unfold mSet at *
  split at q
  . obtain ⟨xs, j, a, b, q⟩ := q; exact ⟨xs, j, a, b, h _ q⟩
  . exact q.elim
theorem gm_sub {to ti : TE} {t : TSet} (h1 : EMono to) (h2 : EMono ti) (h3 : SetMono t) : GMono (gSub to ti t) := fun v σ H Q Q' h q => h1 _ _ _ _ (fun _ _ q => h2 _ _ _ _ (fun _ _ q => h3 _ _ _ _ _ _ (fun H q => h _ _ q) q) q) q
theorem sm_next : SMono tNext := fun D D' σ H h q => h.nx _ _ q
theorem sm_seq {t u : TS} (h1 : SMono t) (h2 : SMono u) : SMono (tSeq t u) := fun D D' σ H h q => h1 { D with nx := u D } { D' with nx := u D' } σ H ⟨fun σ H q => h2 D D' σ H h q, h.rt, h.bk, h.ct⟩ q
theorem sm_asg {te : TE} {g : TG} (h1 : EMono te) (h2 : GMono g) : SMono (tAsg te g) := fun D D' σ H h q => h1 _ _ _ _ (fun _ _ q => h2 _ _ _ _ _ h.nx q) q
theorem sm_ret {te : TE} (h1 : EMono te) : SMono (tRet te) := fun D D' σ H h q => h1 _ _ _ _ h.rt q
theorem sm_drop {te : TE} (h1 : EMono te) : SMono (tDrop te) := fun D D' σ H h q => h1 _ _ _ _ (fun _ _ q => h.nx _ _ q) q
theorem sm_if {c : TT} {t u : TS} (hc : TMono c) (h1 : SMono t) (h2 : SMono u) : SMono (tIfS c t u) := fun D D' σ H h q => hc _ _ _ _ (fun b _ q => by
    cases b with
    | true => exact h1 _ _ _ _ h q
    | false => exact h2 _ _ _ _ h q) q
theorem sm_for {wi : TI} {g : TG} {tb : TS} (hi : IMono wi) (hg : GMono g) (h1 : SMono tb) : SMono (tFor wi g tb) := fun D D' σ H h q => hi _ _ _ _ (fun J H1 q => by
  obtain ⟨W, w0, turn⟩ := q
  refine ⟨W, w0, fun i m σ H w => ?_⟩
  rcases turn i m σ H w with ⟨a, b⟩ | ⟨a, N, hN, step⟩
  . exact .inl ⟨a, h.nx _ _ b⟩
  . exact .inr ⟨a, N, hN, fun x H' y => hg _ _ _ _ _ (fun σ2 H2 q => h1 { D with nx := N, ct := N, bk := D.nx } _ _ _ ⟨fun _ _ q => q, h.rt, h.nx, fun _ _ q => q⟩ q) (step x H' y)⟩) q
theorem seq_at {t u : TS} {D : Ends} {σ : St} {H : Hp} (J : St -> Hp -> Prop) (h1 : t { D with nx := J } σ H) (h2 : ∀ σ' H', J σ' H' -> u D σ' H') (hm : SMono t) : tSeq t u D σ H :=
  hm { D with nx := J } { D with nx := u D } σ H ⟨h2, fun _ _ q => q, fun _ _ q => q, fun _ _ q => q⟩ h1
theorem spNext_mono {K} : SpMono (spNext K) := fun vs H Q Q' E h q => by
  unfold spNext at *
  split at q
  . obtain ⟨a, ns, x, y, q⟩ := q; exact ⟨a, ns, x, y, fun d H' e1 e2 e3 e4 => h _ _ (q d H' e1 e2 e3 e4)⟩
  . exact q.elim
section
variable {X : Cx} {K : PySem.W.Frag} {a b c e l tg : Expr} {es : List Expr} {ta tb tc te tl : TE} {pos p : Pos}
theorem kAdd (hK : X.K = K := by rfl) : OpR X (binaryOp .Add) (mAdd K) := hK ▸ om_add
theorem kEq (hu : X.A.units + 60 < cLine) (hK : X.K = K := by rfl) : OpR X (compareOp .Eq) (mEq false K) := hK ▸ om_eq hu
theorem kNe (hu : X.A.units + 60 < cLine) (hK : X.K = K := by rfl) : OpR X (compareOp .NotEq) (mEq true K) := hK ▸ om_ne hu
theorem kIx (ha : PE X a ta) (hb : PE X b tb) (hs : PlainIx b := by intro _ _; rfl) (hK : X.K = K := by rfl) : PE X (.Subscript a b pos) (tOp (mIx K) ta tb) := hK ▸ pe_ixM ha hb hs
theorem kLen (hK : X.K = K := by rfl) : CallR X (.builtin "len") (mLen K) := hK ▸ cm_len
theorem kTuple (hK : X.K = K := by rfl) : CallR X (.type "tuple") (mTuple K) := hK ▸ cm_tuple
theorem kList (hK : X.K = K := by rfl) : CallR X (.type "list") (mList K) := hK ▸ cm_list
theorem kSeq (hl : PE X l tl) (hK : X.K = K := by rfl) : PI X tg l (iSeq K tl) := hK ▸ pi_seq hl
theorem kTup {es : List Expr} {k : Nat} {t : TGs} {n : Nat} (hc : X.calm = true) (h : PGs X es t)
    (hn : (assignEach es X.env).length = n := by rfl) (hst : (assignEach es X.env).findIdx? (·.1) = none := by rfl) (hK : X.K = K := by rfl) : PG X (.Tuple es k pos) (gTup K n t) := hK ▸ pg_tup hc h hn hst
end
def Itz (K : PySem.W.Frag) (l1 l2 : Addr) : It :=
  ⟨fun i H => ∃ xs ys x y, SqL K H l1 xs /\ SqL K H l2 ys /\ xs[i]? = some x /\ ys[i]? = some y,
   fun i H v H' => ∃ p x y, H p = none /\ v = .ref p /\ H' = upd H p (.tup [x, y]) /\ (∀ xs, SqL K H l1 xs -> xs[i]? = some x) /\ (∀ ys, SqL K H l2 ys -> ys[i]? = some y),
   fun i H => ∃ xs ys, SqL K H l1 xs /\ SqL K H l2 ys /\ (xs.length <= i \/ ys.length <= i)⟩
theorem Inv.turnedNew {X : Cx} {pins : List (Addr × Obj)} {σ : St} {H : Hp} {s : Shared} {h' : Heap} {ch : List Addr} {T : Addr} {o : HO} (I : Inv X pins σ H s) (hf : ∀ b ∈ ch, FpOk X pins H b) (hT : s.heap.objs.size <= T)
    (k : ∀ b u, b ∉ ch -> s.heap.get? b = some u -> h'.get? b = some u) (new : ObjOk X.prog X.w (upd H T o) h' T o) (th : ∀ b ∈ ch, ∃ u, h'.get? b = some u) : Inv X pins σ (upd H T o) { s with heap := h' } := by
  have hTn : H T = none := I.hok.fresh hT
  have nT : ∀ b u, H b = some u -> b ≠ T := fun b u e z => by rw [z, hTn] at e; cases e
  have nc : ∀ b u, H b = some u -> b ∉ ch := fun b u e z => by rw [(hf b z).1] at e; cases e
  refine I.step (g' := s.gens) (d' := s.drawn) (t' := s.toks) (ch := ch) (fun b hb => ?_) (fun b u _ _ hc e _ => k b u hc e) (fun b u _ _ hc e _ => ⟨u.slots, k b u hc e⟩) (fun b u hc e n => ?_) (fun b u hc e => ⟨u, k b u hc e⟩)
    (fun b xs e => by rw [upd_ne (nT _ _ e)]; exact e) (fun b u v e => by rw [upd_ne (nT _ _ e)]; exact e) (fun b ps e => ⟨#[], by rw [upd_ne (nT _ _ e), e]; simp⟩) (fun m hm => ?_) (fun b u e => ?_) I.bare
  . obtain ⟨q1, q2, q3, q4, q5, q6⟩ := hf b hb
    exact ⟨q4, q2, q5, q6⟩
  . rw [upd_ne (Nat.ne_of_lt (Nat.lt_of_lt_of_le (Heap.lt_size e) hT))]; exact n
  . obtain ⟨u, es, ep, ho, r⟩ := hm
    exact ⟨u, es, ep, k _ u (fun z => (hf _ z).2.1 rfl) ho, r⟩
  . by_cases hb : b = T
    . subst hb; rw [upd_same] at e; cases e; exact new
    . rw [upd_ne hb] at e
      refine (I.hok b u e).stay (fun c v hc q => k c v ?_ q) (fun c q => by rw [upd_ne (nT _ _ q)]; exact q) fun c xs q => by rw [upd_ne (nT _ _ q)]; exact q
      rcases hc with z | z
      . rw [z]; exact nc b u e
      . exact nc c _ z
theorem turn_zip {P : Program} {w : World} {K : PySem.W.Frag} {es : List Expr} {kt : Nat} {tpos : Pos} {z TI TO i1 i2 l1 l2 : Addr} (D : ZipApart z TI TO i1 i2 l1 l2) :
    Turn P w K (.Tuple es kt tpos) (Itz K l1 l2) [z, TI, TO, i1, i2] z (fun i h => IsZip h z TI TO .none /\ IsPair h TI (.ref i1) (.ref i2) /\ (∃ a b, IsPair h TO a b) /\ h.IsListIter i1 l1 i /\ h.IsListIter i2 l2 i) where
  mem := by simp
  obj := fun i h st b hb => by
    obtain ⟨hz, hTI, ⟨a, c, hTO⟩, ⟨o1, e1, c1, d1⟩, ⟨o2, e2, c2, d2⟩⟩ := st
    simp only [List.mem_cons, List.mem_nil_iff, or_false] at hb
    rcases hb with rfl | rfl | rfl | rfl | rfl
    . exact ⟨_, hz, fun v q => nomatch q⟩
    . exact ⟨_, hTI, fun v q => nomatch q⟩
    . exact ⟨_, hTO, fun v q => nomatch q⟩
    . exact ⟨o1, e1, fun v q => by rw [d1] at q; cases q⟩
    . exact ⟨o2, e2, fun v q => by rw [d2] at q; cases q⟩
  keep := fun i h h' ⟨hz, hTI, ⟨a, c, hTO⟩, h1, h2⟩ k =>
    ⟨k z (by simp) _ hz, k TI (by simp) _ hTI, ⟨a, c, k TO (by simp) _ hTO⟩, h1.at fun o e => k i1 (by simp) o e, h2.at fun o e => k i2 (by simp) o e⟩
  item := by
    intro X hP hw hK hc i pins s σ H E I hf st hg
    subst hP hw hK
    obtain ⟨xs, ys, x, y, hq1, hq2, hx, hy⟩ := hg
    obtain ⟨hz, hTI, ⟨a, c, hTO⟩, h1, h2⟩ := st
    obtain ⟨its, rv, p, _⟩ := I.list hq1
    obtain ⟨its2, rv2, p2, _⟩ := I.list hq2
    obtain ⟨u, hu, ru⟩ := rv.get hx
    obtain ⟨u2, hu2, ru2⟩ := rv2.get hy
    refine wpAny_pyNext_zip_item D hz hTI hTO h1 h2 p.isList p2.isList (x := u) (y := u2) (by simpa using hu) (by simpa using hu2) fun h' z1 z2 z3 z4 z5 z6 z7 => ?_
    refine ⟨_, rfl, ?_⟩
    have z7' : ∀ b v, b ∉ [z, TO, i1, i2] -> s.heap.get? b = some v -> h'.get? b = some v := fun b v hb e => by
      simp only [List.mem_cons, List.mem_nil_iff, or_false, not_or] at hb
      exact z7 b v hb.1 hb.2.1 hb.2.2.1 hb.2.2.2 e
    have I1 : Inv X pins σ (upd H s.heap.objs.size (.tup [x, y])) { s with heap := h' } := by
      refine I.turnedNew (ch := [z, TO, i1, i2]) (fun b hb => hf b ?_) (Nat.le_refl _) z7' ?_ fun b hb => ?_
      . simp only [List.mem_cons, List.mem_nil_iff, or_false] at hb ⊢
        rcases hb with h | h | h | h <;> simp [h]
      . exact ⟨small_le (show 2 <= 1000 by decide), [u, u2], .cons ru (.cons ru2 .nil), ⟨_, z5, rfl, ⟨_, rfl⟩, rfl⟩⟩
      . simp only [List.mem_cons, List.mem_nil_iff, or_false] at hb
        rcases hb with rfl | rfl | rfl | rfl
        . exact ⟨_, z1⟩
        . exact ⟨_, z2⟩
        . obtain ⟨o, e, _⟩ := z3; exact ⟨o, e⟩
        . obtain ⟨o, e, _⟩ := z4; exact ⟨o, e⟩
    refine wpAny_letOwnedTupleGo_zip (s := { s with heap := h' }) z1 fun h'' z8 z9 => ?_
    have hfz := hf z (by simp)
    have neT : ∀ b, b ∈ [z, TI, TO, i1, i2] -> b ≠ s.heap.objs.size := fun b hb e => by
      have st' : ∃ o, s.heap.get? b = some o := by
        simp only [List.mem_cons, List.mem_nil_iff, or_false] at hb
        rcases hb with rfl | rfl | rfl | rfl | rfl
        . exact ⟨_, hz⟩
        . exact ⟨_, hTI⟩
        . exact ⟨_, hTO⟩
        . obtain ⟨o, e, _⟩ := h1; exact ⟨o, e⟩
        . obtain ⟨o, e, _⟩ := h2; exact ⟨o, e⟩
      obtain ⟨o, ho⟩ := st'
      have := Heap.lt_size ho
      rw [e] at this
      exact Nat.lt_irrefl _ this
    have hTH : ∀ b ∈ [z, TI, TO, i1, i2], upd H s.heap.objs.size (.tup [x, y]) b = none := fun b hb => by rw [upd_ne (neT b hb)]; exact (hf b hb).1
    have I2 : Inv X pins σ (upd H s.heap.objs.size (.tup [x, y])) { s with heap := h'' } :=
      I1.turned (t' := s.toks) (fun b o hb e => (z9.2 b hb).trans e) (hTH z (by simp)) hfz.2.1 hfz.2.2.2.1 hfz.2.2.2.2.1 hfz.2.2.2.2.2
    have up : ∀ b o, b ≠ z -> h'.get? b = some o -> h''.get? b = some o := fun b o hb e => (z9.2 b hb).trans e
    refine ⟨.ref s.heap.objs.size, _, I2, rfl, ⟨_, x, y, I.hok.fresh (Nat.le_refl _), rfl, rfl, fun xs' h => by rw [I.list_inj h hq1]; exact hx, fun ys' h => by rw [I.list_inj h hq2]; exact hy⟩, ⟨z8, ?_, ⟨u, u2, up _ _ D.TOz z2⟩, z3.at fun o e => up _ o D.i1z e, z4.at fun o e => up _ o D.i2z e⟩, hTH⟩
    exact up _ _ D.TIz (z7 _ _ D.TIz D.TITO D.TIi1 D.TIi2 hTI)
  done := by
    intro X hP hw hK hc i pins s σ H E I hf st hg
    subst hP hw hK
    obtain ⟨xs, ys, hq1, hq2, hl⟩ := hg
    obtain ⟨hz, hTI, ⟨a, c, hTO⟩, h1, h2⟩ := st
    obtain ⟨its, rv, p, _⟩ := I.list hq1
    obtain ⟨its2, rv2, p2, _⟩ := I.list hq2
    have e1 := rv.length
    have e2 := rv2.length
    refine wpAny_pyNext_zip_end (I.ok.hd hc) D hz hTI hTO h1 h2 p.isList p2.isList (by
      rcases hl with h | h
      . exact .inl (by simp; omega)
      . exact .inr (by simp; omega)) fun h' z7 => ⟨rfl, ?_⟩
    have nc : ∀ b u, H b = some u -> b ∉ [z, TO, i1, i2] := fun b u e q => by
      have : b ∈ [z, TI, TO, i1, i2] := by
        simp only [List.mem_cons, List.mem_nil_iff, or_false] at q ⊢
        rcases q with h | h | h | h <;> simp [h]
      rw [(hf b this).1] at e; cases e
    have z7' : ∀ b v, b ∉ [z, TO, i1, i2] -> s.heap.get? b = some v -> h'.get? b = some v := fun b v hb e => by
      simp only [List.mem_cons, List.mem_nil_iff, or_false, not_or] at hb
      exact z7 b v hb.1 hb.2.1 hb.2.2.1 hb.2.2.2 e
    refine I.step (g' := s.gens) (d' := s.drawn) (t' := s.toks) (ch := [z, TO, i1, i2]) (fun b hb => ?_) (fun b u _ _ hc e _ => z7' b u hc e) (fun b u _ _ hc e _ => ⟨u.slots, z7' b u hc e⟩) (fun b u hc e n => n) (fun b u hc e => ⟨u, z7' b u hc e⟩)
      (fun _ _ e => e) (fun _ _ _ e => e) (fun b ps e => ⟨#[], by rw [e]; simp⟩) (fun m hm => ?_) (fun b u e => ?_) I.bare
    . have : b ∈ [z, TI, TO, i1, i2] := by
        simp only [List.mem_cons, List.mem_nil_iff, or_false] at hb ⊢
        rcases hb with h | h | h | h <;> simp [h]
      obtain ⟨q1, q2, q3, q4, q5, q6⟩ := hf b this
      exact ⟨q4, q2, q5, q6⟩
    . obtain ⟨u, es, ep, ho, r⟩ := hm
      refine ⟨u, es, ep, z7' _ u (fun q => ?_) ho, r⟩
      have : X.env.locals ∈ [z, TI, TO, i1, i2] := by
        simp only [List.mem_cons, List.mem_nil_iff, or_false] at q ⊢
        rcases q with h | h | h | h <;> simp [h]
      exact (hf _ this).2.1 rfl
    . refine (I.hok b u e).stay (fun c v hc q => z7' c v ?_ q) (fun _ q => q) fun _ _ q => q
      rcases hc with h | h
      . rw [h]; exact nc b u e
      . exact nc c _ h
  self := fun _ _ _ _ _ st h => wpAny_pyIter_zip st.1 h
section
variable {X : Cx}
def iZip (K : PySem.W.Frag) (ta : TA) : TI := fun σ H R => ta σ H fun vs H1 => match vs with
  | [.ref a, .ref b] => (∃ xs, SqL K H1 a xs) /\ (∃ ys, SqL K H1 b ys) /\ R (Itz K a b) H1
  | _ => False
theorem kZip {K : PySem.W.Frag} {a b : Expr} {ta : TA} {p pos : Pos} {es : List Expr} {kt : Nat} {tpos : Pos} (hg : Gl X "zip") (hm : X.mg "zip" = none) (ha : PA X [a, b] ta)
    (hs : starEach [a, b] X.env = [(false, eval a X.env), (false, eval b X.env)] := by rfl) (hs2 : starEach [b] X.env = [(false, eval b X.env)] := by rfl) (hK : X.K = K := by rfl) :
    PI X (.Tuple es kt tpos) (.Call (.Name "zip" p) [a, b] [] pos) (iZip K ta) := by
  subst hK
  intro pins s σ H R I h
  refine Call_ (ld_blt I hg hm (by rfl : bootBuiltins "zip" = some (.type "zip")) (PyProof.Rows.callWith_type1 (thn (ha pos pins s σ H _ I h) fun us s1 ⟨vs, H1, I1, r1, q1⟩ => ?_) (by rw [hs, hs2]) (by rw [hs2]; rfl)))
  match vs, q1, r1 with
  | [.ref l1, .ref l2], ⟨⟨xs, hx⟩, ⟨ys, hy⟩, q⟩, r1 =>
  cases r1 with
  | cons r rr =>
  cases rr with
  | cons r' rr =>
  cases rr
  cases r
  cases r'
  obtain ⟨its, rv, p1, _⟩ := I1.list hx
  obtain ⟨its2, rv2, p2, _⟩ := I1.list hy
  obtain ⟨o1, n1, g1, _⟩ := id p1
  obtain ⟨o2, n2, g2, _⟩ := id p2
  have lt1 := Heap.lt_size g1
  have lt2 := Heap.lt_size g2
  refine call_zip_2 p1.isList p2.isList fun h' z1 z2 z3 z4 z5 z6 z7 => ?_
  refine wpAny_pyIter_zip (s := { s1 with heap := h' }) z1 ?_
  have I2 : Inv X pins σ H1 { s1 with heap := h' } := I1.kept (t' := s1.toks) z7
  refine ⟨_, _, _, _, H1, rfl, I2, turn_zip (i1 := s1.heap.objs.size) (i2 := s1.heap.objs.size + 1) (l1 := l1) (l2 := l2) (PyProof.Rows.zipApart_new lt1 lt2), ⟨z1, z2, ⟨_, _, z3⟩, z4, z5⟩, fun b hb => ?_, q⟩
  refine I1.fpOk ?_ ?_
  . simp only [List.mem_cons, List.mem_nil_iff, or_false] at hb
    rcases hb with rfl | rfl | rfl | rfl | rfl
    . exact Nat.le_add_right _ _
    . exact Nat.le_add_right _ _
    . exact Nat.le_add_right _ _
    . exact Nat.le_refl _
    . exact Nat.le_add_right _ _
  . refine I1.hok.fresh ?_
    simp only [List.mem_cons, List.mem_nil_iff, or_false] at hb
    rcases hb with rfl | rfl | rfl | rfl | rfl
    . exact Nat.le_add_right _ _
    . exact Nat.le_add_right _ _
    . exact Nat.le_add_right _ _
    . exact Nat.le_refl _
    . exact Nat.le_add_right _ _
theorem im_zip {K : PySem.W.Frag} {ta : TA} (h : AMono ta) : IMono (iZip K ta) := fun σ H Q Q' k q => h _ _ _ _ (fun vs _ q => by
  match vs, q with
  | [.ref a, .ref b], ⟨h1, h2, q⟩ => exact ⟨h1, h2, k _ _ q⟩) q
theorem comp_zip {K : PySem.W.Frag} {l1 l2 : Addr} {xs ys : List V} {g : TG} {tc : TT} {te : TE} {σc : St} {Q : VK} {H : Hp} (Pv : Nat -> List V -> Hp -> Prop) (h0 : Pv 0 [] H) (hlen : xs.length = ys.length) (hl : ∀ i zs H, i <= xs.length -> Pv i zs H -> SqL K H l1 xs /\ SqL K H l2 ys) (hz : ∀ i zs H, i < xs.length -> Pv i zs H -> zs.length < sizeLine)
    (hs : ∀ i x y zs H p, xs[i]? = some x -> ys[i]? = some y -> Pv i zs H -> H p = none -> g (.ref p) σc (upd H p (.tup [x, y])) fun σ2 H2 => tc σ2 H2 fun b H3 => if b = true then te σ2 H3 fun v H4 => Pv (i + 1) (zs ++ [v]) H4 else Pv (i + 1) zs H3)
    (hd : ∀ zs H, Pv xs.length zs H -> ∀ p, H p = none -> Q (.ref p) (upd H p (.lst zs))) : CompTurns (Itz K l1 l2) g tc te σc Q H := by
  refine ⟨fun i m zs H => m = xs.length - i /\ i <= xs.length /\ Pv i zs H, ⟨xs.length, by simp, Nat.zero_le _, h0⟩, ?_⟩
  rintro i m zs H ⟨rfl, hi, p⟩
  obtain ⟨q1, q2⟩ := hl i zs H hi p
  by_cases hlt : i < xs.length
  . refine .inr ⟨⟨xs, ys, xs[i], ys[i], q1, q2, by simp [hlt], List.getElem?_eq_getElem (by omega)⟩, hz i zs H hlt p, Pv (i + 1), fun zs' H' p' => ⟨xs.length - (i + 1), by omega, rfl, hlt, p'⟩, ?_⟩
    rintro v H' ⟨pp, x, y, hp, rfl, rfl, k1, k2⟩
    exact hs i x y zs H pp (k1 xs q1) (k2 ys q2) p hp
  . have e : i = xs.length := by omega
    subst e
    exact .inl ⟨⟨xs, ys, q1, q2, .inl (Nat.le_refl _)⟩, hd zs H p⟩
end
section
variable {X : Cx} {K : PySem.W.Frag} {o e : Expr} {es : List Expr} {to : TE} {t : TA} {apos cpos : Pos}
def mAppend : V -> List V -> Hp -> VK -> Prop := fun x vs H Q => match x, vs with
  | .ref l, [y] => ∃ xs, H l = some (.lst xs) /\ xs.length < sizeLine /\ Q .non (upd H l (.lst (xs ++ [y])))
  | _, _ => False
theorem mm_append : MtR X "list.append" mAppend := by
  intro pins s σ H x vs v us Q I rx rv q
  match x, vs, q with
  | .ref l, [y], ⟨xs, h1, h2, q⟩ => exact mt_append pins s σ H _ _ v us Q I rx rv ⟨l, xs, y, rfl, rfl, h1, h2, q⟩
theorem kAppend (ho : PE X o to) (ha : PA X [e] t) (hbase : attributeBase o "append" X.env (eval o X.env) = eval o X.env := by rfl)
    (hfew : ((backTo cpos (starEach [e] X.env)).all (fun x => !x.1) && (backToKw cpos (keywordEach [] X.env)).all (fun x => x.1.isSome)
      && decide ([e].length + ([] : List Keyword).length + (if ([] : List Keyword).isEmpty then 0 else 1) < 30)) = true := by rfl)
    (hline : (apos.endLine == cpos.line) = true := by rfl) (hs : starEach [e] X.env = (false, eval e X.env) :: starEach [] X.env := by rfl) (hplain : (backTo cpos (starEach [] X.env)).any (·.1) = false := by rfl) (hK : X.K = K := by rfl) :
    PE X (.Call (.Attribute o "append" apos) [e] [] cpos) (tBM K "list" mAppend to t) := hK ▸ pe_bm PySem.F.plainAttrs_list PySem.F.slot_list_append PySem.F.type_list_append mm_append ho ha hbase hfew hline hs hplain
def mCount (K : PySem.W.Frag) : V -> List V -> Hp -> VK -> Prop := fun x vs H Q => match x, vs with
  | .ref l, [y] => ∃ xs, SqL K H l xs /\ flatV y = true /\ xs.all flatV = true /\ Q (.int (xs.countP fun v => eqV v y : Nat)) H
  | _, _ => False
theorem countP_eqU {y : V} : ∀ {xs : List V} {us : List Value}, Vals xs us -> xs.all flatV = true -> us.countP (eqU y) = xs.countP fun v => eqV v y
  | _, _, .nil, _ => rfl
  | x :: xs, u :: us, .cons r t, f => by
    rw [List.all_cons, Bool.and_eq_true] at f
    rw [List.countP_cons, List.countP_cons, eqU_of r f.1, countP_eqU t f.2]
theorem mm_count : MtR X "list.count" (mCount X.K) := by
  intro pins s σ H x vs v us Q I rx rv q
  match x, vs, q with
  | .ref l, [y], ⟨xs, h1, h2, h3, q⟩ =>
  cases rx
  obtain ⟨u, rfl, ru⟩ := rv.one
  obtain ⟨its, r, pl, hz⟩ := I.list h1
  obtain ⟨⟨cls, dd, data, sl⟩, n, ho, hc, hd, hs⟩ := id pl
  simp only at hc hs
  subst hc hs
  refine call_meets F.slot_list_count ⟨_, ho, rfl⟩ F.entry_list_count (F.args_list_count_2 _ _) (SeqAt.list_countAt l its.toArray n dd sl u (eqU y)) ⟨ho, fun w hw => mem_eqAt ru h2 r h3 w (by simpa using hw), ?_⟩
  refine ⟨.int _, H, I.tok _, ⟨_, rfl⟩, ?_⟩
  have e : its.toArray.toList.countP (eqU y) = xs.countP fun v => eqV v y := by rw [show its.toArray.toList = its by simp]; exact countP_eqU r h3
  rw [e]
  exact q
theorem kCount (ho : PE X o to) (ha : PA X [e] t) (hbase : attributeBase o "count" X.env (eval o X.env) = eval o X.env := by rfl)
    (hfew : ((backTo cpos (starEach [e] X.env)).all (fun x => !x.1) && (backToKw cpos (keywordEach [] X.env)).all (fun x => x.1.isSome)
      && decide ([e].length + ([] : List Keyword).length + (if ([] : List Keyword).isEmpty then 0 else 1) < 30)) = true := by rfl)
    (hline : (apos.endLine == cpos.line) = true := by rfl) (hs : starEach [e] X.env = (false, eval e X.env) :: starEach [] X.env := by rfl) (hplain : (backTo cpos (starEach [] X.env)).any (·.1) = false := by rfl) (hK : X.K = K := by rfl) :
    PE X (.Call (.Attribute o "count" apos) [e] [] cpos) (tBM K "list" (mCount K) to t) := hK ▸ pe_bm PySem.F.plainAttrs_list PySem.F.slot_list_count PySem.F.type_list_count mm_count ho ha hbase hfew hline hs hplain
theorem em_bm {T : String} {r : V -> List V -> Hp -> VK -> Prop} (h1 : EMono to) (h2 : AMono t) (h3 : BMono r) : EMono (tBM K T r to t) := fun σ H Q Q' h q => h1 _ _ _ _ (fun _ _ q => ⟨q.1, h2 _ _ _ _ (fun _ _ q => h3 _ _ _ _ _ h q) q.2⟩) q
theorem bm_append : BMono mAppend := fun x xs H Q Q' h q => by
  unfold mAppend at *
  split at q
  . obtain ⟨ys, a, b, q⟩ := q; exact ⟨ys, a, b, h _ _ q⟩
  . exact q.elim
def mSum (K : PySem.W.Frag) : List V -> Hp -> VK -> Prop := fun xs H Q => match xs with
  | [.ref l] => ∃ ns : List Int, SqL K H l (ns.map V.int) /\ Q (.int ns.sum) H
  | _ => False
theorem cm_sum (hc : X.calm = true) : CallR X (.builtin "sum") (mSum X.K) := by
  intro pins s σ H xs us Q I r q
  match xs, q with
  | [.ref l], q =>
  obtain ⟨ns, hl, q⟩ := q
  obtain ⟨u, rfl, ru⟩ := vals1 r
  cases ru
  obtain ⟨its, rv, pl, hz⟩ := I.list hl
  have hi : IntsAre its ns := by simpa using intsAre_of rv
  obtain ⟨zs, hzs⟩ := (hi.allInts).items
  have e : (numsOf its).sum = ns.sum := by rw [hi.numsOf]
  have pl' := pl.isList
  rw [hzs] at pl'
  refine sum_intListG (I.ok.hd hc) pl' fun h' tk t' hk => ?_
  refine ⟨.int _, H, I.kept hk, ⟨t', rfl⟩, ?_⟩
  have e2 : preSum (numAt zs) zs.size = ns.sum := by
    rw [preSum_eq, List.take_of_length_le (by simp), <- e]
    rw [show its = its.toArray.toList by simp, hzs, nums_intItems]
  rw [e2]
  exact q
theorem kSum (hc : X.calm = true) (hK : X.K = K := by rfl) : CallR X (.builtin "sum") (mSum K) := hK ▸ cm_sum hc
end
section
variable {prog : Program} {w : World} {A : Around} {E : Value -> Shared -> Prop} {s : Shared}
theorem draw_list {it t : Addr} {items : Array Value} (hne : t ≠ it) : ∀ (n i : Nat) (s : Shared) (Q : List Value -> Shared -> Prop), s.heap.IsListIter it t i -> s.heap.IsList t items -> i + n <= items.size ->
    (∀ h', h'.IsListIter it t (i + n) -> Heap.SameBut it s.heap h' -> Q ((items.toList.drop i).take n) { s with heap := h' }) -> wpAny (model prog w) A (draw (.ref it) n) Q E s
  | 0, i, s, Q, hit, _, _, hQ => by
    show wpAny _ _ (pure []) Q E s
    exact wpAny_pure (by simpa using hQ s.heap hit (Heap.SameBut.refl ..))
  | n + 1, i, s, Q, hit, ht, hle, hQ => by
    have hlt : i < items.size := by omega
    show wpAny _ _ (pyNext (.ref it) >>= _) Q E s
    refine wpAny_bind (wpAny_pyNext_list_item hit ht (x := items[i]) (by simp [hlt]) fun h₁ hit₁ hs₁ => ?_)
    refine wpAny_bind (wpAny_holding (draw_list hne n (i + 1) _ _ hit₁ (ht.extBut hs₁.extBut hne) (by omega) fun h₂ hit₂ hs₂ => wpAny_pure ?_))
    have hd : items.toList.drop i = items[i] :: items.toList.drop (i + 1) := by simp [List.drop_eq_getElem_cons, hlt]
    have := hQ h₂ (by rw [show i + (n + 1) = i + 1 + n by omega]; exact hit₂) (hs₁.trans hs₂)
    rw [hd, List.take_succ_cons] at this
    exact this
theorem unpackItems_list {t : Addr} {items : Array Value} {Q : List Value -> Shared -> Prop} (hh : A.handled = none) (ht : s.heap.IsList t items)
    (hQ : ∀ h', Heap.ExtBut s.heap.objs.size s.heap h' -> Q items.toList { s with heap := h' }) : wpAny (model prog w) A (unpackItems (.ref t) items.size none) Q E s := by
  have hlt : t ≠ s.heap.objs.size := by obtain ⟨o, ho, _⟩ := ht; exact Nat.ne_of_lt (Heap.lt_size ho)
  unfold unpackItems
  refine wpAny_bind ?_
  . unfold notIterableAtAll
    refine wpAny_bind (wpAny_specialOf ht.typeIs slot_list_iter.lookup ?_)
    refine wpAny_pure ?_
    simp only [Bool.false_eq_true, if_false]
    refine wpAny_bind (wpAny_holding (wpAny_pyIter_list ht ?_))
    refine wpAny_bind (wpAny_holding (draw_list hlt items.size 0 _ _ ⟨_, Heap.get?_push_size _ rfl, rfl, rfl⟩ (ht.at fun o e => Heap.get?_push_of_some _ e) (by omega) fun h₁ hit₁ hs₁ => ?_))
    have hall : List.take items.size (List.drop 0 items.toList) = items.toList := by
      rw [List.drop_zero]; exact List.take_of_length_le (by simp)
    rw [hall]
    rw [if_neg (by simp)]
    have ht₁ : h₁.IsList t items := (Heap.IsList.at ht fun o e => Heap.get?_push_of_some _ e).extBut hs₁.extBut hlt
    refine wpAny_bind (wpAny_holding (wpAny_pyNext_list_end hh hit₁ ht₁ (by simp) fun h₂ he₂ => ?_))
    simp only [Option.isSome_none, Bool.false_eq_true, if_false]
    refine wpAny_pure (hQ h₂ fun b o hb e => he₂ b o hb (hs₁.extBut b o hb (Heap.get?_push_of_some _ e)))
theorem assign_Tuple_list {env : Env} {elts : List Expr} {x1} {pos : Pos} {t : Addr} {items : Array Value} {Q : Unit -> Shared -> Prop} (hh : A.handled = none) (ht : s.heap.IsList t items)
    (hn : (assignEach elts env).length = items.size) (hstar : (assignEach elts env).findIdx? (·.1) = none)
    (h : ∀ h', Heap.ExtBut s.heap.objs.size s.heap h' -> wpAny (model prog w) A (assignInOrder ((assignEach elts env).map (·.2)) items.toList) Q E { s with heap := h' }) :
    wpAny (model prog w) A (assign (.Tuple elts x1 pos) env (.ref t)) Q E s := by
  rw [assign_Tuple]
  refine wpAny_bind (wpAny_standAt ?_)
  unfold unpack
  rw [hn, hstar]
  exact wpAny_bind (wpAny_holding (unpackItems_list hh ht h))
end
section
variable {X : Cx} {K : PySem.W.Frag} {pos p2 : Pos} {e : Expr} {lo hi : Option Expr} {te : TE} {tl th : TO}
def gSeqs (K : PySem.W.Frag) (n : Nat) (t : TGs) : TG := fun v σ H Q => match v with
  | .ref a => ∃ xs, SqA K H a xs /\ xs.length = n /\ t xs σ H Q
  | _ => False
theorem kTupA {es : List Expr} {k : Nat} {t : TGs} {n : Nat} (hc : X.calm = true) (h : PGs X es t)
    (hn : (assignEach es X.env).length = n := by rfl) (hst : (assignEach es X.env).findIdx? (·.1) = none := by rfl) (hK : X.K = K := by rfl) : PG X (.Tuple es k pos) (gSeqs K n t) := by
  subst hK
  intro pins s σ H v u Q I r hw
  cases v with
  | ref a =>
    obtain ⟨xs, hq | hq, hl, hw⟩ := hw
    . cases r
      obtain ⟨its, rv, ht, hz⟩ := I.list hq
      refine assign_Tuple_list (I.ok.hd hc) ht.isList (by simp [hn, <- hl, rv.length]) hst fun h' hx => ?_
      have I1 : Inv X pins σ H { s with heap := h' } := I.kept (t' := s.toks) fun b o e => hx b o (Nat.ne_of_lt (Heap.lt_size e)) e
      exact h pins _ σ H xs _ Q I1 (by simpa using rv) hw
    . exact pg_tup hc h hn hst pins s σ H _ u Q I r ⟨a, xs, rfl, hq, hl, hw⟩
  | _ => exact False.elim hw
theorem gm_seqs {n : Nat} {t : TGs} (h : GsMono t) : GMono (gSeqs K n t) := fun v _ _ _ _ k q => by
  cases v <;> first | exact False.elim q | (obtain ⟨xs, s, l, q⟩ := q; exact ⟨xs, s, l, h _ _ _ _ _ k q⟩)
end
theorem sqT_same {K : PySem.W.Frag} {H H' : Hp} {a : Addr} {xs : List V} (h : SqT K H a xs) (s : Same H H') : SqT K H' a xs := sqT_stay h fun o e => s a o e
mutual
theorem Rep.same {K : PySem.W.Frag} {H H' : Hp} (s : Same H H') : ∀ (d : Dv) (v : V), Rep K H d v -> Rep K H' d v
  | .non, v, h => by unfold Rep at *; exact h
  | .bl b, v, h => by unfold Rep at *; exact h
  | .int i, v, h => by unfold Rep at *; exact h
  | .str x, v, h => by unfold Rep at *; exact h
  | .tup ds, v, h => by
    unfold Rep at *
    obtain ⟨a, xs, e, h1, h2⟩ := h
    exact ⟨a, xs, e, sqT_same h1 s, Reps.same s ds xs h2⟩
  | .lst ds, v, h => by
    unfold Rep at *
    obtain ⟨a, xs, e, h1, h2⟩ := h
    exact ⟨a, xs, e, sqL_stay h1 fun o e => s a o e, Reps.same s ds xs h2⟩
theorem Reps.same {K : PySem.W.Frag} {H H' : Hp} (s : Same H H') : ∀ (ds : List Dv) (xs : List V), Reps K H ds xs -> Reps K H' ds xs
  | [], xs, h => by unfold Reps at *; exact h
  | d :: ds, xs, h => by
    unfold Reps at *
    obtain ⟨x, r, e, h1, h2⟩ := h
    exact ⟨x, r, e, Rep.same s d x h1, Reps.same s ds r h2⟩
end
mutual
def tupOnly : Dv -> Bool
  | .tup ds => tupsOnly ds
  | .lst _ => false
  | _ => true
def tupsOnly : List Dv -> Bool
  | [] => true
  | d :: ds => tupOnly d && tupsOnly ds
end
mutual
theorem Rep.frm {K : PySem.W.Frag} {H H' : Hp} {t : Addr} (s : Frm t H H') (ht : ∃ zs, H t = some (.lst zs)) : ∀ (d : Dv) (v : V), tupOnly d = true -> Rep K H d v -> Rep K H' d v
  | .non, v, _, h => by unfold Rep at *; exact h
  | .bl b, v, _, h => by unfold Rep at *; exact h
  | .int i, v, _, h => by unfold Rep at *; exact h
  | .str x, v, _, h => by unfold Rep at *; exact h
  | .tup ds, v, hd, h => by
    unfold tupOnly at hd
    unfold Rep at *
    obtain ⟨a, xs, e, h1, h2⟩ := h
    refine ⟨a, xs, e, ?_, Reps.frm s ht ds xs hd h2⟩
    obtain ⟨zs, hz⟩ := ht
    rcases h1 with (h1 | ⟨o, h1⟩) | h1
    . exact .inl (.inl (s a _ (fun q => by rw [q, hz] at h1; cases h1) h1))
    . exact .inl (.inr ⟨o, s a _ (fun q => by rw [q, hz] at h1; cases h1) h1⟩)
    . exact .inr h1
  | .lst ds, v, hd, h => by unfold tupOnly at hd; cases hd
theorem Reps.frm {K : PySem.W.Frag} {H H' : Hp} {t : Addr} (s : Frm t H H') (ht : ∃ zs, H t = some (.lst zs)) : ∀ (ds : List Dv) (xs : List V), tupsOnly ds = true -> Reps K H ds xs -> Reps K H' ds xs
  | [], xs, _, h => by unfold Reps at *; exact h
  | d :: ds, xs, hd, h => by
    unfold tupsOnly at hd
    rw [Bool.and_eq_true] at hd
    unfold Reps at *
    obtain ⟨x, r, e, h1, h2⟩ := h
    exact ⟨x, r, e, Rep.frm s ht d x hd.1 h1, Reps.frm s ht ds r hd.2 h2⟩
end
theorem if_val {c : TT} {t u : TS} {D : Ends} {σ : St} {H : Hp} (b : Bool) (hc : ∀ Q : Bool -> Hp -> Prop, Q b H -> c σ H Q) (h : if b = true then t D σ H else u D σ H) : tIfS c t u D σ H := hc _ h
theorem Tape.lst {K : PySem.W.Frag} {H : Hp} {t a : Addr} {ns : List Int} (T : Tape K H t a ns) : ∃ zs, H t = some (.lst zs) := by
  obtain ⟨i, r, c, _, _, h⟩ := T.at_
  exact ⟨_, h⟩
theorem rep_tup1 {K : PySem.W.Frag} {H : Hp} {p : Addr} {xs : List V} {ds : List Dv} (h : H p = some (.tup xs)) (r : Reps K H ds xs) : Rep K H (.tup ds) (.ref p) := by unfold Rep; exact ⟨p, xs, rfl, .of h, r⟩
theorem reps_nil {K : PySem.W.Frag} {H : Hp} : Reps K H [] [] := by unfold Reps; rfl
theorem reps_cons {K : PySem.W.Frag} {H : Hp} {d : Dv} {ds : List Dv} {x : V} {xs : List V} (h : Rep K H d x) (r : Reps K H ds xs) : Reps K H (d :: ds) (x :: xs) := by unfold Reps; exact ⟨x, xs, rfl, h, r⟩
theorem rep_int {K : PySem.W.Frag} {H : Hp} {x : Int} : Rep K H (.int x) (.int x) := by unfold Rep; rfl
theorem Reps.append {K : PySem.W.Frag} {H : Hp} : ∀ {ds es : List Dv} {xs ys : List V}, Reps K H ds xs -> Reps K H es ys -> Reps K H (ds ++ es) (xs ++ ys)
  | [], es, xs, ys, h, h' => by unfold Reps at h; subst h; exact h'
  | d :: ds, es, xs, ys, h, h' => by
    unfold Reps at h
    obtain ⟨x, r, rfl, h1, h2⟩ := h
    exact reps_cons h1 (Reps.append h2 h')
section
variable {κ : Type} [DecidableEq κ]
def valV (kvs : List (κ × V)) (k : κ) : Option V := (kvs.find? fun kv => decide (kv.1 = k)).map (·.2)
def putK (kvs : List (κ × V)) (k : κ) (v : V) : List (κ × V) :=
  if (kvs.any fun kv => decide (kv.1 = k)) = true then kvs.map (fun kv => if kv.1 = k then (kv.1, v) else kv) else kvs ++ [(k, v)]
theorem valV_pos {p : κ × V} {r : List (κ × V)} {k : κ} (e : p.1 = k) : valV (p :: r) k = some p.2 := by simp [valV, List.find?_cons, e]
theorem valV_neg {p : κ × V} {r : List (κ × V)} {k : κ} (e : ¬ p.1 = k) : valV (p :: r) k = valV r k := by simp [valV, List.find?_cons, e]
theorem valV_any (k : κ) : ∀ kvs : List (κ × V), (kvs.any fun kv => decide (kv.1 = k)) = (valV kvs k).isSome
  | [] => rfl
  | p :: r => by
    rw [List.any_cons]
    by_cases e : p.1 = k
    . simp only [valV_pos e, decide_eq_true e, Bool.true_or, Option.isSome_some]
    . rw [valV_neg e, decide_eq_false e, Bool.false_or]; exact valV_any k r
theorem valV_map (k j : κ) (y : V) : ∀ kvs : List (κ × V), valV (kvs.map fun kv => if kv.1 = k then (kv.1, y) else kv) j = (valV kvs j).map fun x => if j = k then y else x
  | [] => rfl
  | p :: r => by
    have ih := valV_map k j y r
    rw [List.map_cons]
    by_cases h : p.1 = k
    . rw [if_pos h]
      by_cases e : p.1 = j
      . rw [valV_pos (p := (p.1, y)) e, valV_pos e, Option.map_some, if_pos (e.symm.trans h)]
      . rw [valV_neg (p := (p.1, y)) e, valV_neg e, ih]
    . rw [if_neg h]
      by_cases e : p.1 = j
      . rw [valV_pos (p := p) e, valV_pos e, Option.map_some, if_neg (fun z => h (e.trans z))]
      . rw [valV_neg (p := p) e, valV_neg e, ih]
theorem valV_snoc (k j : κ) (y : V) : ∀ kvs : List (κ × V), valV kvs k = none -> valV (kvs ++ [(k, y)]) j = if j = k then some y else valV kvs j
  | [], _ => by
    by_cases e : k = j
    . rw [if_pos e.symm]; exact valV_pos (p := (k, y)) e
    . rw [if_neg (fun z => e z.symm)]; exact valV_neg (p := (k, y)) e
  | p :: r, hn => by
    rw [List.cons_append]
    have hk : ¬ p.1 = k := fun z => by rw [valV_pos z] at hn; cases hn
    rw [valV_neg hk] at hn
    have ih := valV_snoc k j y r hn
    by_cases e : p.1 = j
    . rw [valV_pos e, valV_pos e, if_neg (fun z => hk (e.trans z))]
    . rw [valV_neg e, valV_neg e, ih]
theorem valV_put (kvs : List (κ × V)) (k j : κ) (y : V) : valV (putK kvs k y) j = if j = k then some y else valV kvs j := by
  unfold putK
  by_cases a : (kvs.any fun kv => decide (kv.1 = k)) = true
  . rw [if_pos a, valV_map]
    rw [valV_any] at a
    by_cases e : j = k
    . obtain ⟨x, hx⟩ := Option.isSome_iff_exists.mp a
      rw [if_pos e, e, hx, Option.map_some, if_pos rfl]
    . rw [if_neg e]
      cases valV kvs j with
      | none => rfl
      | some x => rw [Option.map_some, if_neg e]
  . rw [if_neg a]
    refine valV_snoc k j y kvs ?_
    rw [valV_any] at a
    cases q : valV kvs k with
    | none => rfl
    | some x => rw [q] at a; exact (a rfl).elim
theorem length_putK (kvs : List (κ × V)) (k : κ) (v : V) : (putK kvs k v).length <= kvs.length + 1 := by
  unfold putK
  split
  . rw [List.length_map]; omega
  . rw [List.length_append, List.length_cons, List.length_nil]; omega
theorem putK_new {kvs : List (κ × V)} {k : κ} (v : V) (h : valV kvs k = none) : putK kvs k v = kvs ++ [(k, v)] := by
  unfold putK
  rw [valV_any, h]
  exact if_neg (by decide)
theorem RelO.isSome_eq {o : Option V} {u : Option Value} (r : RelO o u) : o.isSome = u.isSome := by
  cases o with
  | none => cases u with
    | none => rfl
    | some _ => exact (show False from r).elim
  | some _ => cases u with
    | none => exact (show False from r).elim
    | some _ => rfl
theorem RelO.getD {o : Option V} {u : Option Value} {d : V} {d' : Value} (r : RelO o u) (rd : RelV d d') : RelV (o.getD d) (u.getD d') := by
  cases o with
  | none => cases u with
    | none => exact rd
    | some _ => exact (show False from r).elim
  | some _ => cases u with
    | none => exact (show False from r).elim
    | some _ => exact r
theorem KV.val {kvs : List (κ × V)} {vs : List (κ × Value)} (r : KV kvs vs) (k : κ) : RelO (valV kvs k) (valueAt vs k) := by
  unfold KV at r
  induction r with
  | nil => exact True.intro
  | @cons p q ps qs h t ih =>
    obtain ⟨h1, h2⟩ := h
    by_cases e : p.1 = k
    . have e' : q.1 = k := h1.symm.trans e
      have b : valueAt (q :: qs) k = some q.2 := by simp [valueAt, List.find?_cons, e']
      rw [valV_pos e, b]; exact h2
    . have e' : ¬ q.1 = k := fun z => e (h1.trans z)
      have b : valueAt (q :: qs) k = valueAt qs k := by simp [valueAt, List.find?_cons, e']
      rw [valV_neg e, b]; exact ih
theorem KV.any {kvs : List (κ × V)} {vs : List (κ × Value)} (r : KV kvs vs) (k : κ) : (kvs.any fun kv => decide (kv.1 = k)) = vs.any fun kv => decide (kv.1 = k) := by
  unfold KV at r
  induction r with
  | nil => rfl
  | cons h t ih => rw [List.any_cons, List.any_cons, ih, h.1]
theorem KV.repl {kvs : List (κ × V)} {vs : List (κ × Value)} (r : KV kvs vs) (k : κ) {y : V} {u : Value} (ry : RelV y u) :
    KV (kvs.map fun kv => if kv.1 = k then (kv.1, y) else kv) (vs.map fun kv => if kv.1 = k then (kv.1, u) else kv) := by
  unfold KV at r ⊢
  induction r with
  | nil => exact .nil
  | @cons p q ps qs h t ih =>
    rw [List.map_cons, List.map_cons]
    refine .cons ?_ ih
    obtain ⟨h1, h2⟩ := h
    by_cases e : p.1 = k
    . rw [if_pos e, if_pos (h1.symm.trans e)]; exact ⟨h1, ry⟩
    . rw [if_neg e, if_neg (fun z => e (h1.trans z))]; exact ⟨h1, h2⟩
theorem KV.put {kvs : List (κ × V)} {vs : List (κ × Value)} (r : KV kvs vs) (k : κ) {y : V} {u : Value} (ry : RelV y u) : KV (putK kvs k y) (stored vs k u) := by
  unfold putK stored
  rw [r.any k]
  by_cases e : (vs.any fun kv => decide (kv.1 = k)) = true
  . rw [if_pos e, if_pos e]; exact r.repl k ry
  . rw [if_neg e, if_neg e]; exact Paired.snoc r ⟨rfl, ry⟩
theorem KV.length {kvs : List (κ × V)} {vs : List (κ × Value)} (r : KV kvs vs) : kvs.length = vs.length := Paired.length r
end
theorem kV_is {P : Program} {w : World} {k : Key} {u : Value} (r : RelV (kV k) u) : (mixKind P w).is k u = true := by
  cases k with
  | inl i => obtain ⟨t, e⟩ := (show ∃ t, u = Value.int i t from r); subst e; exact mixKind_int P w i t
  | inr x => obtain ⟨t, e⟩ := (show ∃ t, u = Value.str x t from r); subst e; exact mixKind_str P w x t
theorem items_are {P : Program} {w : World} : ∀ {ks : List Key} {us : List Value}, Vals (ks.map kV) us -> ItemsAre (mixKind P w) ks us
  | [], _, r => by rw [List.map_nil] at r; cases r; exact .nil
  | k :: ks, _, r => by
    rw [List.map_cons] at r
    cases r with
    | cons h t => exact .cons (kV_is h) (items_are t)
abbrev KT (H : Hp) : List (List Key × V) -> List (List Key × Addr × Value) -> Prop := Paired fun p q => p.1 = q.1 /\ H q.2.1 = some (.tup (p.1.map kV)) /\ RelV p.2 q.2.2
theorem KT.val {H : Hp} {kvs : List (List Key × V)} {xs : List (List Key × Addr × Value)} (r : KT H kvs xs) (k : List Key) : RelO (valV kvs k) ((atKey xs k).map (·.2)) := by
  induction r with
  | nil => exact True.intro
  | @cons p q ps qs h t ih =>
    obtain ⟨h1, _, h2⟩ := h
    by_cases e : p.1 = k
    . have e' : q.1 = k := h1.symm.trans e
      have b : atKey (q :: qs) k = some q.2 := by simp [atKey, List.find?_cons, e']
      rw [valV_pos e, b]; exact h2
    . have e' : ¬ q.1 = k := fun z => e (h1.trans z)
      have b : atKey (q :: qs) k = atKey qs k := by simp [atKey, List.find?_cons, e']
      rw [valV_neg e, b]; exact ih
theorem KT.repl {H : Hp} {kvs : List (List Key × V)} {xs : List (List Key × Addr × Value)} (r : KT H kvs xs) (k : List Key) {y : V} {u : Value} (ry : RelV y u) :
    KT H (kvs.map fun kv => if kv.1 = k then (kv.1, y) else kv) (xs.map (putAt k u)) := by
  induction r with
  | nil => exact .nil
  | @cons p q ps qs h t ih =>
    rw [List.map_cons, List.map_cons]
    refine .cons ?_ ih
    obtain ⟨h1, h2, h3⟩ := h
    unfold putAt
    by_cases e : p.1 = k
    . rw [if_pos e, if_pos (h1.symm.trans e)]; exact ⟨h1, h2, ry⟩
    . rw [if_neg e, if_neg (fun z => e (h1.trans z))]; exact ⟨h1, h2, h3⟩
theorem KT.put {H : Hp} {kvs : List (List Key × V)} {xs : List (List Key × Addr × Value)} (r : KT H kvs xs) (k : List Key) {b : Addr} {y : V} {u : Value} (hb : H b = some (.tup (k.map kV))) (ry : RelV y u) :
    KT H (putK kvs k y) (storedH xs k b u) := by
  have e : (kvs.any fun kv => decide (kv.1 = k)) = (atKey xs k).isSome := by
    rw [valV_any, (r.val k).isSome_eq, Option.isSome_map]
  unfold putK storedH
  rw [e]
  by_cases q : (atKey xs k).isSome = true
  . rw [if_pos q, if_pos q]; exact r.repl k ry
  . rw [if_neg q, if_neg q]; exact Paired.snoc r ⟨rfl, hb, ry⟩
theorem KT.keeps {H H' : Hp} {kvs : List (List Key × V)} {xs : List (List Key × Addr × Value)} (r : KT H kvs xs) (ht : ∀ b ys, H b = some (.tup ys) -> H' b = some (.tup ys)) : KT H' kvs xs :=
  Paired.mapP r fun _ _ z => ⟨z.1, ht _ _ z.2.1, z.2.2⟩
section
variable {P : Program} {w : World} {H : Hp} {h : Heap} {a : Addr}
theorem rd_of {u : HO} (ok : HOk P w H h) (e : Rd H a u) : ObjOk P w H h a u := e.ok ok
theorem dk_rd {kvs : List (Key × V)} (ok : HOk P w H h) (e : Rd H a (.dK kvs)) : kvs.length <= sizeLine /\ (a == sysModules) = false /\ ∃ vs, KV kvs vs /\ h.DictOf (mixKind P w) a vs :=
  show ObjOk P w H h a (.dK kvs) from rd_of ok e
theorem dk_of {kvs : List (Key × V)} (ok : HOk P w H h) (e : H a = some (.dK kvs)) : kvs.length <= sizeLine /\ (a == sysModules) = false /\ ∃ vs, KV kvs vs /\ h.DictOf (mixKind P w) a vs := dk_rd ok (.inl e)
theorem key_of {ks : List Key} (ok : HOk P w H h) (e : H a = some (.tup (ks.map kV))) : (tupleKind (mixKind P w)).is h ks a := by
  obtain ⟨_, its, r, o, h1, h2, ⟨n, h3⟩, _⟩ := (show ObjOk P w H h a (.tup (ks.map kV)) from ok a _ e)
  exact ⟨o, its.toArray, n, h1, h2, h3, by simpa using items_are r⟩
theorem dt_rd {kvs : List (List Key × V)} (ok : HOk P w H h) (e : Rd H a (.dT kvs)) : kvs.length <= sizeLine /\ (a == sysModules) = false /\
    ∃ xs, KT H kvs xs /\ h.DictOfH (tupleKind (mixKind P w)) a xs := by
  obtain ⟨z, y, xs, r, o, es, ep, h1, h2, h3, h4, h5⟩ := (show ObjOk P w H h a (.dT kvs) from rd_of ok e)
  refine ⟨z, y, xs, r, o, es, ep, h1, h2, h3, h4, fun x hx => ?_, h5⟩
  have all : ∀ {l : List (List Key × V)} {m : List (List Key × Addr × Value)}, KT H l m -> ∀ x ∈ m, (tupleKind (mixKind P w)).is h x.1 x.2.1 := by
    intro l m q
    induction q with
    | nil => intro x hx; exact nomatch hx
    | @cons p q ps qs hq t ih =>
      intro x hx
      rcases List.mem_cons.mp hx with e | hx
      . subst e
        exact key_of ok (by rw [<- hq.1]; exact hq.2.1)
      . exact ih x hx
  exact all r x hx
theorem dt_of {kvs : List (List Key × V)} (ok : HOk P w H h) (e : H a = some (.dT kvs)) : kvs.length <= sizeLine /\ (a == sysModules) = false /\
    ∃ xs, KT H kvs xs /\ h.DictOfH (tupleKind (mixKind P w)) a xs := dt_rd ok (.inl e)
end
def DGet (H : Hp) (a : Addr) (y : V) (r : Option V) : Prop :=
  (∃ kvs k, Rd H a (.dK kvs) /\ y = kV k /\ r = valV kvs k) \/ ∃ kvs k b, Rd H a (.dT kvs) /\ y = .ref b /\ H b = some (.tup (k.map kV)) /\ r = valV kvs k
def DPut (H : Hp) (a : Addr) (y v : V) (H' : Hp) : Prop :=
  (∃ kvs k, H a = some (.dK kvs) /\ y = kV k /\ kvs.length < sizeLine /\ H' = upd H a (.dK (putK kvs k v))) \/
  ∃ kvs k b, H a = some (.dT kvs) /\ y = .ref b /\ H b = some (.tup (k.map kV)) /\ kvs.length < sizeLine /\ H' = upd H a (.dT (putK kvs k v))
theorem DGet.k {H : Hp} {a : Addr} {kvs : List (Key × V)} {k : Key} (e : H a = some (.dK kvs)) : DGet H a (kV k) (valV kvs k) := .inl ⟨kvs, k, .inl e, rfl, rfl⟩
theorem DGet.t {H : Hp} {a b : Addr} {kvs : List (List Key × V)} {k : List Key} (e : H a = some (.dT kvs)) (eb : H b = some (.tup (k.map kV))) : DGet H a (.ref b) (valV kvs k) := .inr ⟨kvs, k, b, .inl e, rfl, eb, rfl⟩
theorem DPut.k {H : Hp} {a : Addr} {kvs : List (Key × V)} {k : Key} {v : V} (e : H a = some (.dK kvs)) (hl : kvs.length < sizeLine) : DPut H a (kV k) v (upd H a (.dK (putK kvs k v))) := .inl ⟨kvs, k, e, rfl, hl, rfl⟩
theorem DPut.t {H : Hp} {a b : Addr} {kvs : List (List Key × V)} {k : List Key} {v : V} (e : H a = some (.dT kvs)) (eb : H b = some (.tup (k.map kV))) (hl : kvs.length < sizeLine) :
    DPut H a (.ref b) v (upd H a (.dT (putK kvs k v))) := .inr ⟨kvs, k, b, e, rfl, eb, hl, rfl⟩
section
variable {X : Cx} {pins : List (Addr × Obj)} {σ : St} {H : Hp} {s : Shared} {a : Addr} {y v : V} {u r : Value} {o : Option V} {A : Around} {E : Value -> Shared -> Prop}
theorem Inv.big (I : Inv X pins σ H s) : sysModules < s.heap.objs.size := by
  have h : mainGlobals < s.heap.objs.size := (I.mod.glob.keeps I.bk).lt
  exact Nat.lt_trans (by decide) h
theorem d_write {h' : Heap} {t' : Nat} {ob : HO} (I : Inv X pins σ H s) (mu : Mut (H a)) (hs : Heap.SameBut a s.heap h') (he : ∃ q, h'.get? a = some q) (new : ObjOk X.prog X.w (upd H a ob) h' a ob) :
    Inv X pins σ (upd H a ob) { s with heap := h', toks := t' } :=
  I.write (x := a) (e := a) mu (.inl rfl) (fun b q hb z => (hs.2 b hb).trans z) he new
theorem dk_new {P : Program} {w : World} {H' : Hp} {h' : Heap} {kvs : List (Key × V)} {vs : List (Key × Value)} (z : kvs.length <= sizeLine) (hd : (a == sysModules) = false) (rel : KV kvs vs) (dd : h'.DictOf (mixKind P w) a vs) :
    ObjOk P w H' h' a (.dK kvs) := ⟨z, hd, vs, rel, dd⟩
theorem d_setItem {H' : Hp} {Q : Unit -> Shared -> Prop} (hu : A.units + 1 < cLine) (I : Inv X pins σ H s) (g : DPut H a y v H') (ry : RelV y u) (rv : RelV v r) (h : ∀ s', Inv X pins σ H' s' -> Q () s') :
    wpAny (model X.prog X.w) A (setItem (.ref a) u r) Q E s := by
  rcases g with ⟨kvs, k, e, ey, l, eH⟩ | ⟨kvs, k, b, e, ey, eb, l, eH⟩
  . subst ey eH
    obtain ⟨z, hd, vs, rel, dd⟩ := dk_of I.hok e
    have hz : vs.length <= sizeLine := by rw [<- rel.length]; exact z
    have hl : (putK kvs k v).length <= sizeLine := by have := length_putK kvs k v; omega
    refine wpAny_setItem_pairs (hsz := hz) (kV_is ry) dd fun h' dd' hs => h _ ?_
    have he : ∃ q, h'.get? a = some q := let ⟨q, _, _, hq, _⟩ := dd'; ⟨q, hq⟩
    exact d_write I (by rw [e]; exact True.intro) hs he (dk_new hl hd (rel.put k rv) dd')
  . subst ey eH
    cases (show u = Value.ref b from ry)
    obtain ⟨z, hd, xs, rel, dd⟩ := dt_of I.hok e
    have hz : xs.length <= sizeLine := by rw [<- Paired.length rel]; exact z
    have hl : (putK kvs k v).length <= sizeLine := by have := length_putK kvs k v; omega
    refine wpAny_setItem_heap (hsz := hz) (tupleKind_room_in1 hu) (key_of I.hok eb) dd fun h' dd' hs => h _ ?_
    obtain ⟨q, es, ep, hq, h2, h3, h4, _, h5⟩ := dd'
    refine d_write I (by rw [e]; exact True.intro) hs ⟨q, hq⟩ ⟨hl, hd, _, (rel.put k eb rv).keeps fun c ys ec => ?_, q, es, ep, hq, h2, h3, h4, h5⟩
    rw [upd_ne (ne_of ec e (fun z => nomatch z))]
    exact ec
end
section
variable {X : Cx} {pins : List (Addr × Obj)} {σ : St} {H : Hp} {s : Shared} {a : Addr} {kvs : List (Key × V)} {k : Key} {u : Value} {A : Around} {E : Value -> Shared -> Prop}
end
def NoSl (i : Expr) : Prop := ∀ ov iv, subscripted i false ov iv = operate [ov, iv] (getItem ov iv)
theorem subD_of {prog : Program} {w : World} {A : Around} {E : Value -> Shared -> Prop} {s : Shared} {env : Env} {value slice : Expr} {pos : Pos} {T id : String} {Q : Value -> Shared -> Prop}
    (hl : typeLookup (.type T) "__getitem__" = pure (some (.builtin id))) (hs : NoSl slice)
    (h : wpAny (model prog w) A (eval value env) (fun o s₁ => wpAny (model prog w) A (eval slice env) (fun i s₂ => s₂.TypeIs o T /\ wpAny (model prog w) A (getItem o i) Q E s₂) E s₁) E s) :
    wpAny (model prog w) A (eval (.Subscript value slice pos) env) Q E s := by
  refine Subscript_ (wpAny_mono h (fun o s₁ h₁ => wpAny_mono h₁ (fun i s₂ h₂ => ?_) fun _ _ x => x) fun _ _ x => x)
  obtain ⟨hT, h₂⟩ := h₂
  unfold subscriptTail
  refine wpAny_bind ?_
  rw [getitemInPython_of_ne hT.not_modules]
  refine wpAny_bind (wpAny_specialOf hT hl ?_)
  have fin : wpAny (model prog w) A (subscripted slice false o i) (fun r s₃ => wpAny (model prog w) A (letTemporaryGo value o r >>= fun _ => pure r) Q E s₃) E s₂ := by
    rw [hs o i]
    exact wpAny_operating (wpAny_mono h₂ (fun r s₃ h₃ => wpAny_bind (wpAny_letTemporaryGo (wpAny_pure h₃))) fun _ _ x => x)
  first
    | exact wpAny_pure (wpAny_bind fin)
    | exact wpAny_bind (wpAny_pure (wpAny_bind fin))
    | exact wpAny_bind fin
def sDPut (td ty tv : TE) : TS := fun D σ H => tv σ H fun v H1 => td σ H1 fun x H2 => ty σ H2 fun y H3 => ∃ a H4, x = .ref a /\ DPut H3 a y v H4 /\ D.nx σ H4
section
variable {X : Cx} {o i e value : Expr} {pos pos' tpos : Pos} {td ty tv : TE}
theorem ps_dput (hu : X.A.units + 1 < cLine) (ho : PE X o td) (hi : PE X i ty) (hv : PE X value tv) (hs : swapsWith value (some (.Subscript o i pos')) pos.line X.env = pure false) :
    PS X (.Assign [.Subscript o i pos'] value pos) (sDPut td ty tv) := by
  intro pins s σ H D I h
  refine wpAny_Assign_Subscript (thn (hv pins s σ H _ I h) fun r s1 ⟨v, H1, I1, rv, q1⟩ => thn (ho pins s1 σ H1 _ I1 q1) fun u s2 ⟨x, H2, I2, rx, q2⟩ => thn (hi pins s2 σ H2 _ I2 q2) fun iv s3 ⟨y, H3, I3, ry, a, H4, ex, g, q3⟩ => ?_) hs
  subst ex
  obtain rfl : u = Value.ref a := rx
  exact d_setItem hu I3 g ry rv fun s4 I4 => ⟨σ, H4, I4, q3⟩
end
theorem dk_empty {P : Program} {w : World} {H : Hp} (h : Heap) (hb : sysModules < h.objs.size) : ObjOk P w H (h.push { cls := .type "dict", data := .dict #[] }) h.objs.size (.dK []) :=
  ⟨Nat.zero_le _, beq_eq_false_iff_ne.mpr (Ne.symm (Nat.ne_of_lt hb)), [], .nil, Heap.DictOf.new h⟩
def tDNewK : TE := fun _ H Q => ∀ p, H p = none -> Q (.ref p) (upd H p (.dK []))
section
variable {X : Cx} {pos : Pos}
theorem pe_dnewK : PE X (.Dict [] [] pos) tDNewK := fun pins s σ H Q I h =>
  wpAny_Dict_empty ⟨.ref s.heap.objs.size, _, I.laid (a := s.heap.objs.size) (o := .dK []) (t' := s.toks) (fun _ _ q => Heap.get?_push_of_some _ q) (Nat.le_refl _) (dk_empty s.heap I.big), rfl, h _ (I.hok.fresh (Nat.le_refl _))⟩
end
structure M1 (X : Cx) (o : Expr) (m : Str) (apos : Pos) (e : Expr) (cpos : Pos) : Prop where
  base : attributeBase o m X.env (eval o X.env) = eval o X.env
  few : ((backTo cpos (starEach [e] X.env)).all (fun x => !x.1) && (backToKw cpos (keywordEach [] X.env)).all (fun x => x.1.isSome)
    && decide (([e] : List Expr).length + ([] : List Keyword).length + (if ([] : List Keyword).isEmpty then 0 else 1) < 30)) = true
  line : (apos.endLine == cpos.line) = true
  trees : backTo cpos (starEach [e] X.env) = [(false, eval e X.env)]
structure M2 (X : Cx) (o : Expr) (m : Str) (apos : Pos) (e f : Expr) (cpos : Pos) : Prop where
  base : attributeBase o m X.env (eval o X.env) = eval o X.env
  few : ((backTo cpos (starEach [e, f] X.env)).all (fun x => !x.1) && (backToKw cpos (keywordEach [] X.env)).all (fun x => x.1.isSome)
    && decide (([e, f] : List Expr).length + ([] : List Keyword).length + (if ([] : List Keyword).isEmpty then 0 else 1) < 30)) = true
  line : (apos.endLine == cpos.line) = true
  trees : backTo cpos (starEach [e, f] X.env) = [(false, eval e X.env), (false, eval f X.env)]
section
variable {X : Cx} {pins : List (Addr × Obj)} {σ : St} {H : Hp} {s : Shared} {a : Addr} {y d : V} {u r : Value} {o : Option V} {A : Around} {E : Value -> Shared -> Prop}
end
section
variable {X : Cx} {o e f : Expr} {apos cpos : Pos} {td ty tx : TE}
end
section
variable {X : Cx} {pins : List (Addr × Obj)} {σ : St} {H : Hp} {s : Shared} {a : Addr} {kvs : List (Key × V)} {A : Around} {E : Value -> Shared -> Prop}
end
section
variable {X : Cx} {pins : List (Addr × Obj)} {σ : St} {H : Hp} {s : Shared} {a : Addr} {y : V} {u : Value} {A : Around} {E : Value -> Shared -> Prop}
end
theorem intOfSelf_bool {M : Model} {A : Around} {E : Value -> Shared -> Prop} {s : Shared} {b : Bool} {Q : Int -> Shared -> Prop} (h : Q (if b = true then 1 else 0) s) : wpAny M A (Builtin.Int.intOfSelf (.bool b)) Q E s := by
  unfold Builtin.Int.intOfSelf
  exact wpAny_pure h
theorem pyHash_bool {prog : Program} {w : World} {A : Around} {E : Value -> Shared -> Prop} {s : Shared} {b : Bool} {Q : Int -> Shared -> Prop} (h : Q (if b = true then 1 else 0) { s with toks := s.toks + 1 }) : wpAny (model prog w) A (pyHash (.bool b)) Q E s := by
  show wpAny _ _ (pyHashByItsType (.bool b)) _ _ _
  refine PySem.W.pyHash_slot (T := "bool") rfl PySem.F.slot_bool_hash PySem.F.entry_int_hash (PySem.F.args_int_hash_1 _) rfl (.inl rfl) ?_
  unfold Builtin.«int.__hash__» Builtin.Int.intSlot0
  refine wpAny_bind (wpAny_bind ?_)
  show wpAny _ _ (pure (Value.bool b, [])) _ _ _
  refine wpAny_pure (wpAny_bind (intOfSelf_bool (wpAny_pure ?_)))
  cases b with
  | true => exact wpAny_bind (wpAny_mkInt (wpAny_pure ⟨_, _, rfl, h⟩))
  | false => exact wpAny_bind (wpAny_mkInt (wpAny_pure ⟨_, _, rfl, h⟩))
def boolIs : Bool -> Value -> Bool
  | b, .bool c => b == c
  | _, _ => false
theorem boolIs_shape {b : Bool} {v : Value} (h : boolIs b v = true) : v = .bool b := by
  unfold boolIs at h
  split at h
  . rw [beq_iff_eq.mp h]
  . cases h
def boolKind (prog : Program) (w : World) : PySem.KeyKind prog w Bool where
  is := boolIs
  hash := fun b => if b = true then 1 else 0
  inj := fun v a b ha hb => by
    have e1 := boolIs_shape ha
    have e2 := boolIs_shape hb
    rw [e1] at e2
    injection e2
  byValue := fun k v h => by rw [boolIs_shape h]; rfl
  pyHash := fun hv h => by rw [boolIs_shape hv]; exact pyHash_bool h
  eqBool := fun {A E s a b u v Q} hu hv h => by
    rw [boolIs_shape hu, boolIs_shape hv]
    refine SeqAt.EqAt.bool_bool a b _ _ _ _ ?_
    have e : (a == b) = decide (a = b) := by cases a <;> cases b <;> rfl
    rw [e]; exact h
  «strs» := fun k x t v h => by
    have := boolIs_shape h
    cases this
abbrev BX := List (List Bool × Addr × Bool)
def bxv (xs : BX) : List (List Bool × Addr × Value) := xs.map fun q => (q.1, q.2.1, Value.bool q.2.2)
def dB (P : Program) (w : World) (a : Addr) (xs : BX) : HO := .ext fun h => ∃ o es ep, h.get? a = some o /\ o.ExactDict /\ o.data = .dict es ep /\ es.toList = (bxv xs).map (entryOfKey (tupleKind (boolKind P w))) /\ ((bxv xs).map (·.1)).Nodup /\ xs.length <= sizeLine /\ (a == sysModules) = false
def KeysB (H : Hp) (xs : BX) : Prop := ∀ q ∈ xs, H q.2.1 = some (.tup (q.1.map V.bl))
theorem items_bl {P : Program} {w : World} : ∀ {ks : List Bool} {us : List Value}, Vals (ks.map V.bl) us -> PySem.ItemsAre (boolKind P w) ks us
  | [], _, r => by rw [List.map_nil] at r; cases r; exact .nil
  | k :: ks, _, r => by
    rw [List.map_cons] at r
    cases r with
    | cons h t =>
      refine .cons ?_ (items_bl t)
      rw [show _ = Value.bool k from h]
      show (k == k) = true
      simp
section
variable {P : Program} {w : World} {H : Hp} {h : Heap} {a : Addr}
theorem key_bl {ks : List Bool} (ok : HOk P w H h) (e : H a = some (.tup (ks.map V.bl))) : (tupleKind (boolKind P w)).is h ks a := by
  obtain ⟨_, its, r, o, h1, h2, ⟨n, h3⟩, _⟩ := (show ObjOk P w H h a (.tup (ks.map V.bl)) from ok a _ e)
  exact ⟨o, its.toArray, n, h1, h2, h3, by simpa using items_bl r⟩
theorem db_of {xs : BX} (ok : HOk P w H h) (e : H a = some (dB P w a xs)) (hk : KeysB H xs) : xs.length <= sizeLine /\ (a == sysModules) = false /\ h.DictOfH (tupleKind (boolKind P w)) a (bxv xs) := by
  obtain ⟨⟨o, es, ep, h1, h2, h3, h4, h5, h6, h7⟩, _⟩ := (show ObjOk P w H h a (dB P w a xs) from ok a _ e)
  refine ⟨h6, h7, o, es, ep, h1, h2, h3, h4, fun x hx => ?_, h5⟩
  obtain ⟨q, hq, rfl⟩ := List.mem_map.mp hx
  exact key_bl ok (hk q hq)
theorem db_new {xs : BX} {H' : Hp} (hl : xs.length <= sizeLine) (hd : (a == sysModules) = false) (dd : h.DictOfH (tupleKind (boolKind P w)) a (bxv xs)) : ObjOk P w H' h a (dB P w a xs) := by
  obtain ⟨o, es, ep, h1, h2, h3, h4, _, h5⟩ := dd
  refine ⟨⟨o, es, ep, h1, h2, h3, h4, h5, hl, hd⟩, ⟨o, h1⟩, fun g1 g2 ⟨o, es, ep, h1, h2, h3, h4, h5, h6, h7⟩ k => ⟨o, es, ep, k _ h1, h2, h3, h4, h5, h6, h7⟩⟩
end
def hasB (xs : BX) (ks : List Bool) : Bool := xs.any fun q => decide (q.1 = ks)
theorem atKey_bxv (xs : BX) (ks : List Bool) : (atKey (bxv xs) ks).isSome = hasB xs ks := by
  unfold atKey bxv hasB
  induction xs with
  | nil => rfl
  | cons q r ih =>
    rw [List.map_cons, List.find?_cons, List.any_cons]
    by_cases e : q.1 = ks
    . simp [e]
    . simp only [e, decide_false, Bool.false_or]; exact ih
section
variable {X : Cx} {o i e value : Expr} {pos pos' tpos : Pos} {td ty tv : TE}
def rNotB (P : Program) (w : World) : R2 := fun x y H Q => match x, y with
  | .ref b, .ref a => ∃ xs ks, H b = some (.tup (ks.map V.bl)) /\ H a = some (dB P w a xs) /\ KeysB H xs /\ Q (.bl (!hasB xs ks)) H
  | _, _ => False
theorem om_notinB (hu : X.A.units + 60 < cLine) : OpR X (compareOp .NotIn) (rNotB X.prog X.w) := by
  intro pins s σ H x y v u Q I rx ry q
  cases x <;> cases y <;> first
    | exact False.elim q
    | (obtain ⟨xs, ks, h1, h2, h3, q⟩ := q
       cases (show v = Value.ref _ from rx)
       cases (show u = Value.ref _ from ry)
       obtain ⟨z, hd, dd⟩ := db_of I.hok h2 h3
       refine wpAny_notIn_heap (tupleKind_room_in1 (by omega)) (key_bl I.hok h1) hd dd ?_
       rw [atKey_bxv]
       exact ⟨.bl (!hasB xs ks), H, I.tok _, rfl, q⟩)
def rGetB (P : Program) (w : World) : R2 := fun x y H Q => match x, y with
  | .ref a, .ref b => ∃ xs ks c v, H b = some (.tup (ks.map V.bl)) /\ H a = some (dB P w a xs) /\ KeysB H xs /\ atKey (bxv xs) ks = some (c, .bool v) /\ Q (.bl v) H
  | _, _ => False
theorem pe_getB (hu : X.A.units + 60 < cLine) (ho : PE X o td) (hi : PE X i ty) (hs : NoSl i := by intro _ _; rfl) : PE X (.Subscript o i pos) (tOp (rGetB X.prog X.w) td ty) := by
  intro pins s σ H Q I h
  refine subD_of PySem.F.slot_dict_getitem.lookup hs (thn (ho pins s σ H _ I h) fun u s1 ⟨x, H1, I1, rx, q1⟩ => thn (hi pins s1 σ H1 _ I1 q1) fun iv s2 ⟨y, H2, I2, ry, q⟩ => ?_)
  cases x <;> cases y <;> first
    | exact False.elim q
    | (obtain ⟨xs, ks, c, v, h1, h2, h3, h4, q⟩ := q
       cases (show u = Value.ref _ from rx)
       cases (show iv = Value.ref _ from ry)
       obtain ⟨z, hd, dd⟩ := db_of I2.hok h2 h3
       exact ⟨dd.typeIs, wpAny_getItem_heap (tupleKind_room_in1 (by omega)) (key_bl I2.hok h1) dd h4 ⟨.bl v, H2, I2.tok _, rfl, q⟩⟩)
def rSetB (P : Program) (w : World) : TSet := fun o i v H Q => match o, i, v with
  | .ref a, .ref b, .bl v => ∃ xs ks, H b = some (.tup (ks.map V.bl)) /\ H a = some (dB P w a xs) /\ KeysB H xs /\ hasB xs ks = false /\ xs.length < sizeLine /\ Q (upd H a (dB P w a (xs ++ [(ks, b, v)])))
  | _, _, _ => False
theorem set_B (hu : X.A.units + 60 < cLine) : PSet X (rSetB X.prog X.w) := by
  intro pins s σ H o i v ov iv u Q I ro ri rv h
  cases o <;> cases i <;> cases v <;> first
    | exact False.elim h
    | (obtain ⟨xs, ks, h1, h2, h3, h4, h5, q⟩ := h
       cases (show ov = Value.ref _ from ro)
       cases (show iv = Value.ref _ from ri)
       cases (show u = Value.bool _ from rv)
       obtain ⟨z, hd, dd⟩ := db_of I.hok h2 h3
       refine wpAny_setItem_heap (hsz := by unfold bxv; rw [List.length_map]; exact z) (tupleKind_room_in1 (by omega)) (key_bl I.hok h1) dd fun h' dd' hs => ?_
       rw [show storedH (bxv xs) ks _ _ = bxv (xs ++ [(ks, _, _)]) by
         unfold storedH
         rw [atKey_bxv, h4, if_neg (by decide)]
         unfold bxv
         rw [List.map_append]; rfl] at dd'
       have he : ∃ q, h'.get? _ = some q := let ⟨q, _, _, hq, _⟩ := dd'; ⟨q, hq⟩
       exact ⟨_, d_write I (by rw [h2]; exact True.intro) hs he (db_new (by rw [List.length_append]; exact h5) hd dd'), q⟩)
def tNewB (P : Program) (w : World) : TE := fun _ H Q => ∀ p, H p = none -> Q (.ref p) (upd H p (dB P w p []))
theorem pe_newB {pos : Pos} : PE X (.Dict [] [] pos) (tNewB X.prog X.w) := fun pins s σ H Q I h =>
  wpAny_Dict_empty ⟨.ref s.heap.objs.size, _, I.laid (a := s.heap.objs.size) (o := dB X.prog X.w s.heap.objs.size []) (t' := s.toks) (fun _ _ q => Heap.get?_push_of_some _ q) (Nat.le_refl _)
    (db_new (Nat.zero_le _) (beq_eq_false_iff_ne.mpr (Ne.symm (Nat.ne_of_lt I.big))) ⟨_, #[], 0, Heap.get?_push_size _ rfl, ⟨rfl, rfl, rfl⟩, rfl, rfl, (fun x hx => by cases hx), List.nodup_nil⟩), rfl, h _ (I.hok.fresh (Nat.le_refl _))⟩
end
section
variable {X : Cx} {P : Program} {w : World} {o i : Expr} {pos : Pos} {td ty : TE}
theorem kNewB (hP : X.prog = P := by rfl) (hw : X.w = w := by rfl) : PE X (.Dict [] [] pos) (tNewB P w) := by subst hP hw; exact pe_newB
theorem kNotB (hu : X.A.units + 60 < cLine) (hP : X.prog = P := by rfl) (hw : X.w = w := by rfl) : OpR X (compareOp .NotIn) (rNotB P w) := by subst hP hw; exact om_notinB hu
theorem kGetB (hu : X.A.units + 60 < cLine) (ho : PE X o td) (hi : PE X i ty) (hs : NoSl i := by intro _ _; rfl) (hP : X.prog = P := by rfl) (hw : X.w = w := by rfl) : PE X (.Subscript o i pos) (tOp (rGetB P w) td ty) := by subst hP hw; exact pe_getB hu ho hi hs
theorem kSetB (hu : X.A.units + 60 < cLine) (hP : X.prog = P := by rfl) (hw : X.w = w := by rfl) : PSet X (rSetB P w) := by subst hP hw; exact set_B hu
end
theorem rm_notB {P w} : RMono (rNotB P w) := fun x y H Q Q' h q => by
  unfold rNotB at *
  split at q
  . obtain ⟨xs, ks, a, b, c, q⟩ := q; exact ⟨xs, ks, a, b, c, h _ _ q⟩
  . exact q.elim
theorem rm_getB {P w} : RMono (rGetB P w) := fun x y H Q Q' h q => by
  unfold rGetB at *
  split at q
  . obtain ⟨xs, ks, c, v, a, b, d, e, q⟩ := q; exact ⟨xs, ks, c, v, a, b, d, e, h _ _ q⟩
  . exact q.elim
theorem sm_setB {P w} : SetMono (rSetB P w) := fun o i v H Q Q' h q => by
  unfold rSetB at *
  split at q
  . obtain ⟨xs, ks, a, b, c, d, e, q⟩ := q; exact ⟨xs, ks, a, b, c, d, e, h _ q⟩
  . exact q.elim
theorem em_newB {P w} : EMono (tNewB P w) := fun σ H Q Q' h q => fun p hp => h _ _ (q p hp)
section
variable {X : Cx} {K : PySem.W.Frag} {o : Expr} {to : TE} {apos cpos : Pos}
def mBitlen : V -> List V -> Hp -> VK -> Prop := fun x vs H Q => match x, vs with
  | .int i, [] => Q (.int (Builtin.Int.intBits i : Nat)) H
  | _, _ => False
theorem mm_bitlen : MtR X "int.bit_length" mBitlen := by
  intro pins s σ H x vs v us Q I rx rv q
  match x, vs, q with
  | .int i, [], q =>
    cases rv
    obtain ⟨t, rfl⟩ := (show ∃ t, v = Value.int i t from rx)
    exact PyProof.Rows.call_int_bit_length ⟨.int (Builtin.Int.intBits i : Nat), H, I.tok _, ⟨_, rfl⟩, q⟩
theorem kBitlen (ho : PE X o to) (hbase : attributeBase o "bit_length" X.env (eval o X.env) = eval o X.env := by rfl) (hline : (apos.endLine == cpos.line) = true := by rfl) (hK : X.K = K := by rfl) :
    PE X (.Call (.Attribute o "bit_length" apos) [] [] cpos) (tBM0 K "int" mBitlen to) := hK ▸ pe_bm0 PySem.F.plainAttrs_int PySem.F.slot_int_bit_length PySem.F.type_int_bit_length mm_bitlen ho hbase hline
end
def Ite (K : PySem.W.Frag) (l : Addr) : It :=
  ⟨fun i H => ∃ xs x, SqL K H l xs /\ xs[i]? = some x,
   fun i H v H' => ∃ p x, H p = none /\ v = .ref p /\ H' = upd H p (.tup [.int i, x]) /\ ∀ xs, SqL K H l xs -> xs[i]? = some x,
   fun i H => ∃ xs, SqL K H l xs /\ xs.length <= i⟩
theorem turn_enum {P : Program} {w : World} {K : PySem.W.Frag} {es : List Expr} {kt : Nat} {tpos : Pos} {e it l : Addr} (hne : e ≠ it) :
    Turn P w K (.Tuple es kt tpos) (Ite K l) [e, it] e (fun i h => (∃ old, IsEnum h e it (i : Int) old) /\ h.IsListIter it l i) where
  mem := by simp
  obj := fun i h st b hb => by
    obtain ⟨⟨old, hz⟩, ⟨o1, e1, c1, d1⟩⟩ := st
    simp only [List.mem_cons, List.mem_nil_iff, or_false] at hb
    rcases hb with rfl | rfl
    . exact ⟨_, hz, fun v q => nomatch q⟩
    . exact ⟨o1, e1, fun v q => by rw [d1] at q; cases q⟩
  keep := fun i h h' ⟨⟨old, hz⟩, h1⟩ k => ⟨⟨old, k e (by simp) _ hz⟩, h1.at fun o q => k it (by simp) o q⟩
  item := by
    intro X hP hw hK hc i pins s σ H E I hf st hg
    subst hP hw hK
    obtain ⟨xs, x, hq1, hx⟩ := hg
    obtain ⟨⟨old, hz⟩, h1⟩ := st
    obtain ⟨its, rv, p, _⟩ := I.list hq1
    obtain ⟨u, hu, ru⟩ := rv.get hx
    refine wpAny_pyNext_enum_item hz h1 p.isList (x := u) (by simpa using hu) hne fun h' z1 z2 z3 z4 z5 => ?_
    refine ⟨_, rfl, ?_⟩
    have z5' : ∀ b v, b ∉ [e, it] -> s.heap.get? b = some v -> h'.get? b = some v := fun b v hb q => by
      simp only [List.mem_cons, List.mem_nil_iff, or_false, not_or] at hb
      exact z5 b v hb.1 hb.2 q
    have I1 : Inv X pins σ (upd H s.heap.objs.size (.tup [.int i, x])) { s with heap := h' } := by
      refine I.turnedNew (ch := [e, it]) (fun b hb => hf b hb) (Nat.le_refl _) z5' ?_ fun b hb => ?_
      . exact ⟨small_le (show 2 <= 1000 by decide), [.int i s.toks, u], .cons ⟨_, rfl⟩ (.cons ru .nil), ⟨_, z3, rfl, ⟨_, rfl⟩, rfl⟩⟩
      . simp only [List.mem_cons, List.mem_nil_iff, or_false] at hb
        rcases hb with rfl | rfl
        . exact ⟨_, z1⟩
        . obtain ⟨o, q, _⟩ := z2; exact ⟨o, q⟩
    refine wpAny_letOwnedTupleGo_enum (s := { s with heap := h', toks := s.toks + 1 }) z1 fun h'' z8 z9 => ?_
    have hfz := hf e (by simp)
    have neT : ∀ b, b ∈ [e, it] -> b ≠ s.heap.objs.size := fun b hb q => by
      have st' : ∃ o, s.heap.get? b = some o := by
        simp only [List.mem_cons, List.mem_nil_iff, or_false] at hb
        rcases hb with rfl | rfl
        . exact ⟨_, hz⟩
        . obtain ⟨o, q, _⟩ := h1; exact ⟨o, q⟩
      obtain ⟨o, ho⟩ := st'
      have := Heap.lt_size ho
      rw [q] at this
      exact Nat.lt_irrefl _ this
    have hTH : ∀ b ∈ [e, it], upd H s.heap.objs.size (.tup [.int i, x]) b = none := fun b hb => by rw [upd_ne (neT b hb)]; exact (hf b hb).1
    have I2 : Inv X pins σ (upd H s.heap.objs.size (.tup [.int i, x])) { s with heap := h'', toks := s.toks + 1 } :=
      I1.turned (t' := s.toks + 1) (fun b o hb q => (z9.2 b hb).trans q) (hTH e (by simp)) hfz.2.1 hfz.2.2.2.1 hfz.2.2.2.2.1 hfz.2.2.2.2.2
    have up : ∀ b o, b ≠ e -> h'.get? b = some o -> h''.get? b = some o := fun b o hb q => (z9.2 b hb).trans q
    exact ⟨.ref s.heap.objs.size, _, I2, rfl, ⟨_, x, I.hok.fresh (Nat.le_refl _), rfl, rfl, fun xs' h => by rw [I.list_inj h hq1]; exact hx⟩, ⟨⟨_, z8⟩, z2.at fun o q => up _ o (Ne.symm hne) q⟩, hTH⟩
  done := by
    intro X hP hw hK hc i pins s σ H E I hf st hg
    subst hP hw hK
    obtain ⟨xs, hq1, hl⟩ := hg
    obtain ⟨⟨old, hz⟩, h1⟩ := st
    obtain ⟨its, rv, p, _⟩ := I.list hq1
    have e1 := rv.length
    refine wpAny_pyNext_enum_end (I.ok.hd hc) hz h1 p.isList (by simp; omega) fun h' z7 => ⟨rfl, ?_⟩
    obtain ⟨f0, f1, f2, f3, f4, f5⟩ := hf it (by simp)
    exact I.turned (t' := s.toks) (fun b o hb q => z7 b o hb q) f0 f1 f3 f4 f5
  self := fun _ _ _ _ _ st h => wpAny_pyIter_enum st.1.choose_spec h
section
variable {X : Cx}
def iEnum (K : PySem.W.Frag) (ta : TA) : TI := fun σ H R => ta σ H fun vs H1 => match vs with
  | [.ref a] => (∃ xs, SqL K H1 a xs) /\ R (Ite K a) H1
  | _ => False
theorem kEnum {K : PySem.W.Frag} {a : Expr} {ta : TA} {p pos : Pos} {es : List Expr} {kt : Nat} {tpos : Pos} (hg : Gl X "enumerate") (hm : X.mg "enumerate" = none) (ha : PA X [a] ta)
    (hs : starEach [a] X.env = [(false, eval a X.env)] := by rfl) (hK : X.K = K := by rfl) :
    PI X (.Tuple es kt tpos) (.Call (.Name "enumerate" p) [a] [] pos) (iEnum K ta) := by
  subst hK
  intro pins s σ H R I h
  refine Call_ (ld_blt I hg hm (by rfl : bootBuiltins "enumerate" = some (.type "enumerate")) (PyProof.Rows.callWith_type1 (thn (ha pos pins s σ H _ I h) fun us s1 ⟨vs, H1, I1, r1, q1⟩ => ?_) (by rw [hs]; rfl) (by rfl)))
  match vs, q1, r1 with
  | [.ref l1], ⟨⟨xs, hx⟩, q⟩, r1 =>
  cases r1 with
  | cons r rr =>
  cases rr
  cases r
  obtain ⟨its, rv, p1, _⟩ := I1.list hx
  refine call_enumerate_list p1.isList fun h' z1 z2 z3 z4 => ?_
  refine wpAny_pyIter_enum (s := { s1 with heap := h' }) z1 ?_
  have I2 : Inv X pins σ H1 { s1 with heap := h' } := I1.kept (t' := s1.toks) z4
  refine ⟨_, _, _, _, H1, rfl, I2, turn_enum (l := l1) (it := s1.heap.objs.size) (Nat.ne_of_gt (Nat.lt_succ_self _)), ⟨⟨_, z1⟩, z2⟩, fun b hb => ?_, q⟩
  refine I1.fpOk ?_ (I1.hok.fresh ?_)
  all_goals
    simp only [List.mem_cons, List.mem_nil_iff, or_false] at hb
    rcases hb with rfl | rfl
    . exact Nat.le_succ _
    . exact Nat.le_refl _
theorem im_enum {K : PySem.W.Frag} {ta : TA} (h : AMono ta) : IMono (iEnum K ta) := fun σ H Q Q' k q => h _ _ _ _ (fun vs _ q => by
  match vs, q with
  | [.ref a], ⟨h1, q⟩ => exact ⟨h1, k _ _ q⟩) q
theorem comp_enum {K : PySem.W.Frag} {l : Addr} {xs : List V} {g : TG} {tc : TT} {te : TE} {σc : St} {Q : VK} {H : Hp} (Pv : Nat -> List V -> Hp -> Prop) (h0 : Pv 0 [] H) (hl : ∀ i zs H, i <= xs.length -> Pv i zs H -> SqL K H l xs) (hz : ∀ i zs H, i < xs.length -> Pv i zs H -> zs.length < sizeLine)
    (hs : ∀ i x zs H p, xs[i]? = some x -> Pv i zs H -> H p = none -> g (.ref p) σc (upd H p (.tup [.int (i : Nat), x])) fun σ2 H2 => tc σ2 H2 fun b H3 => if b = true then te σ2 H3 fun v H4 => Pv (i + 1) (zs ++ [v]) H4 else Pv (i + 1) zs H3)
    (hd : ∀ zs H, Pv xs.length zs H -> ∀ p, H p = none -> Q (.ref p) (upd H p (.lst zs))) : CompTurns (Ite K l) g tc te σc Q H := by
  refine ⟨fun i m zs H => m = xs.length - i /\ i <= xs.length /\ Pv i zs H, ⟨xs.length, by simp, Nat.zero_le _, h0⟩, ?_⟩
  rintro i m zs H ⟨rfl, hi, p⟩
  have q1 := hl i zs H hi p
  by_cases hlt : i < xs.length
  . refine .inr ⟨⟨xs, xs[i], q1, by simp [hlt]⟩, hz i zs H hlt p, Pv (i + 1), fun zs' H' p' => ⟨xs.length - (i + 1), by omega, rfl, hlt, p'⟩, ?_⟩
    rintro v H' ⟨pp, x, hp, rfl, rfl, k1⟩
    exact hs i x zs H pp (k1 xs q1) p hp
  . have e : i = xs.length := by omega
    subst e
    exact .inl ⟨⟨xs, q1, Nat.le_refl _⟩, hd zs H p⟩
end
theorem bits_pow : ∀ m < 7, (Builtin.Int.intBits ((2 ^ m : Nat) : Int) : Nat) = m + 1 := by decide +kernel
section
variable {X : Cx} {K : PySem.W.Frag}
end
section
variable {X : Cx} {pins : List (Addr × Obj)} {σ : St} {H : Hp} {s : Shared}
end
section
variable {X : Cx} {K : PySem.W.Frag}
end
open AutoSeq1 (wpAny_loadPart')
section
variable {prog : Program} {w : World} {A : Around} {E : Value -> Shared -> Prop} {s : Shared}
end
section
variable {X : Cx}
end
structure Feed (H : Hp) (t : Addr) : Prop where
  at_ : ∃ a b k c : Int, 0 <= a /\ H t = some (.lst [.int a, .int b, .int k, .int c])
theorem Feed.same {H H' : Hp} {t : Addr} (F : Feed H t) (h : Same H H') : Feed H' t := by
  obtain ⟨a, b, k, c, h1, h2⟩ := F.at_
  exact ⟨a, b, k, c, h1, h _ _ h2⟩
theorem Feed.upd {H : Hp} {t p : Addr} {o : HO} (F : Feed H t) (h : H p = none) : Feed (L2.upd H p o) t := F.same (Same.upd h)
theorem and_half (a b : Nat) : (a &&& b) / 2 = a / 2 &&& b / 2 := by
  have := Nat.and_div_two_pow (a := a) (b := b) (n := 1)
  simpa using this
theorem xor_half (a b : Nat) : (a ^^^ b) / 2 = a / 2 ^^^ b / 2 := by
  have := Nat.xor_div_two_pow (a := a) (b := b) (n := 1)
  simpa using this
theorem low3 (a b : Nat) : (a &&& b) % 2 = a % 2 * (b % 2) /\ (a ^^^ b) % 2 = (a % 2 + b % 2) % 2 /\ (a ||| b) % 2 = a % 2 + b % 2 - a % 2 * (b % 2) := by
  have h1 := Nat.and_mod_two_pow (a := a) (b := b) (n := 1)
  have h2 := Nat.xor_mod_two_pow (a := a) (b := b) (n := 1)
  have h3 := Nat.or_mod_two_pow (a := a) (b := b) (n := 1)
  rw [Nat.pow_one] at h1 h2 h3
  rw [h1, h2, h3]
  have ha : a % 2 = 0 \/ a % 2 = 1 := by omega
  have hb : b % 2 = 0 \/ b % 2 = 1 := by omega
  rcases ha with ha | ha <;> rcases hb with hb | hb <;> rw [ha, hb] <;> decide
theorem xor_and : ∀ a b : Nat, (a ^^^ b) + 2 * (a &&& b) = a + b := by
  intro a
  induction a using Nat.strongRecOn with
  | ind a ih =>
    intro b
    by_cases h0 : a = 0
    . subst h0; simp
    . have i := ih (a / 2) (by omega) (b / 2)
      rw [<- xor_half, <- and_half] at i
      obtain ⟨l1, l2, _⟩ := low3 a b
      have ha : a % 2 = 0 \/ a % 2 = 1 := by omega
      have hb : b % 2 = 0 \/ b % 2 = 1 := by omega
      rcases ha with ha | ha <;> rcases hb with hb | hb <;> rw [ha, hb] at l1 l2 <;> omega
theorem bitAnd_nat (a b : Nat) : Builtin.bitAnd (a : Int) (b : Int) = ((a &&& b : Nat) : Int) := by
  unfold Builtin.bitAnd
  rw [decide_eq_true (Int.natCast_nonneg a), decide_eq_true (Int.natCast_nonneg b)]
  rfl
theorem bitXor_nat (a b : Nat) : Builtin.bitXor (a : Int) (b : Int) = ((a ^^^ b : Nat) : Int) := by
  rw [PyProof.Rows.bitXor_and, bitAnd_nat]
  have := xor_and a b
  omega
theorem same_put {H0 H : Hp} {t : Addr} {o : HO} (s : Same H0 H) (ht : H0 t = none) : Same H0 (upd H t o) := fun b u e => by
  rw [upd_ne (ne_of_none e ht)]; exact s b u e
theorem Same.sqT {K : PySem.W.Frag} {H H' : Hp} {a : Addr} {xs : List V} (e : Same H H') (h : SqT K H a xs) : SqT K H' a xs := sqT_stay h (fun o k => e _ _ k)
theorem Same.sqL {K : PySem.W.Frag} {H H' : Hp} {a : Addr} {xs : List V} (e : Same H H') (h : SqL K H a xs) : SqL K H' a xs := sqL_stay h (fun o k => e _ _ k)
def sumTo (f : Nat -> Int) : Nat -> Int
  | 0 => 0
  | n + 1 => sumTo f n + f n
theorem sumTo_congr {f g : Nat -> Int} : ∀ {n : Nat}, (∀ j, j < n -> f j = g j) -> sumTo f n = sumTo g n
  | 0, _ => rfl
  | n + 1, h => by
    show sumTo f n + f n = sumTo g n + g n
    rw [sumTo_congr fun j hj => h j (Nat.lt_succ_of_lt hj), h n (Nat.lt_succ_self n)]
theorem sumTo_add (f : Nat -> Int) (a : Nat) : ∀ b, sumTo f (a + b) = sumTo f a + sumTo (fun j => f (a + j)) b
  | 0 => by show sumTo f a = sumTo f a + 0; omega
  | b + 1 => by
    show sumTo f (a + b) + f (a + b) = sumTo f a + (sumTo (fun j => f (a + j)) b + f (a + b))
    rw [sumTo_add f a b]; omega
theorem sumTo_plus (f g : Nat -> Int) : ∀ n, sumTo f n + sumTo g n = sumTo (fun j => f j + g j) n
  | 0 => rfl
  | n + 1 => by
    show sumTo f n + f n + (sumTo g n + g n) = sumTo (fun j => f j + g j) n + (f n + g n)
    rw [<- sumTo_plus f g n]; omega
theorem sumTo_minus (f g : Nat -> Int) : ∀ n, sumTo f n - sumTo g n = sumTo (fun j => f j - g j) n
  | 0 => rfl
  | n + 1 => by
    show sumTo f n + f n - (sumTo g n + g n) = sumTo (fun j => f j - g j) n + (f n - g n)
    rw [<- sumTo_minus f g n]; omega
theorem sumTo_mul (c : Int) (f : Nat -> Int) : ∀ n, c * sumTo f n = sumTo (fun j => c * f j) n
  | 0 => by show c * 0 = 0; omega
  | n + 1 => by
    show c * (sumTo f n + f n) = sumTo (fun j => c * f j) n + c * f n
    rw [<- sumTo_mul c f n, Int.mul_add]
theorem sumTo_mulr (c : Int) (f : Nat -> Int) (n : Nat) : sumTo f n * c = sumTo (fun j => f j * c) n := by
  rw [Int.mul_comm, sumTo_mul]
  exact sumTo_congr fun j _ => Int.mul_comm _ _
theorem sumTo_zero : ∀ n, sumTo (fun _ => 0) n = 0
  | 0 => rfl
  | n + 1 => by show sumTo (fun _ => 0) n + 0 = 0; rw [sumTo_zero n]; rfl
theorem sumTo_const (c : Int) : ∀ n, sumTo (fun _ => c) n = n * c
  | 0 => by show (0 : Int) = ((0 : Nat) : Int) * c; simp
  | n + 1 => by
    show sumTo (fun _ => c) n + c = _
    rw [sumTo_const c n, Int.natCast_add, Int.add_mul]; simp
theorem sumTo_swap (f : Nat -> Nat -> Int) (m : Nat) : ∀ n, sumTo (fun i => sumTo (fun j => f i j) m) n = sumTo (fun j => sumTo (fun i => f i j) n) m
  | 0 => by show (0 : Int) = sumTo (fun _ => 0) m; rw [sumTo_zero]
  | n + 1 => by
    show sumTo (fun i => sumTo (fun j => f i j) m) n + sumTo (fun j => f n j) m = sumTo (fun j => sumTo (fun i => f i j) n + f n j) m
    rw [sumTo_swap f m n, sumTo_plus]
theorem sumTo_pick (g : Nat -> Int) (x : Nat) : ∀ n, sumTo (fun y => if x = y then g y else 0) n = if x < n then g x else 0
  | 0 => by simp [sumTo]
  | n + 1 => by
    show sumTo (fun y => if x = y then g y else 0) n + (if x = n then g n else 0) = _
    rw [sumTo_pick g x n]
    by_cases h : x = n
    . subst h; rw [if_neg (by omega), if_pos rfl, if_pos (by omega)]; omega
    . by_cases h2 : x < n
      . rw [if_pos h2, if_neg h, if_pos (by omega)]; omega
      . rw [if_neg h2, if_neg h, if_neg (by omega)]; rfl
theorem sumTo_two (f : Nat -> Int) : ∀ m, sumTo f (2 * m) = sumTo (fun j => f (2 * j) + f (2 * j + 1)) m
  | 0 => rfl
  | m + 1 => by
    show sumTo f (2 * m) + f (2 * m) + f (2 * m + 1) = sumTo (fun j => f (2 * j) + f (2 * j + 1)) m + (f (2 * m) + f (2 * m + 1))
    rw [sumTo_two f m]; omega
def chi : Nat -> Nat -> Nat -> Int
  | 0, _, _ => 1
  | n + 1, a, b => (if a % 2 = 1 /\ b % 2 = 1 then -1 else 1) * chi n (a / 2) (b / 2)
theorem chi_comm : ∀ n a b, chi n a b = chi n b a
  | 0, _, _ => rfl
  | n + 1, a, b => by
    show _ * chi n (a / 2) (b / 2) = _ * chi n (b / 2) (a / 2)
    rw [chi_comm n]
    congr 1
    by_cases h : a % 2 = 1 /\ b % 2 = 1
    . rw [if_pos h, if_pos ⟨h.2, h.1⟩]
    . rw [if_neg h, if_neg fun z => h ⟨z.2, z.1⟩]
theorem chi_xor : ∀ n a b c, chi n a (b ^^^ c) = chi n a b * chi n a c
  | 0, _, _, _ => rfl
  | n + 1, a, b, c => by
    show _ * chi n (a / 2) ((b ^^^ c) / 2) = (_ * chi n (a / 2) (b / 2)) * (_ * chi n (a / 2) (c / 2))
    rw [xor_half, chi_xor n]
    generalize chi n (a / 2) (b / 2) = x
    generalize chi n (a / 2) (c / 2) = y
    have e := (low3 b c).2.1
    have ha : a % 2 = 0 \/ a % 2 = 1 := by omega
    have hb : b % 2 = 0 \/ b % 2 = 1 := by omega
    have hc : c % 2 = 0 \/ c % 2 = 1 := by omega
    rw [e]
    rcases ha with ha | ha <;> rcases hb with hb | hb <;> rcases hc with hc | hc <;> rw [ha, hb, hc] <;> simp [Int.mul_neg, Int.neg_mul]
theorem chi_one : ∀ n a b, chi n a b = 1 \/ chi n a b = -1
  | 0, _, _ => .inl rfl
  | n + 1, a, b => by
    show _ * chi n (a / 2) (b / 2) = 1 \/ _ * chi n (a / 2) (b / 2) = -1
    rcases chi_one n (a / 2) (b / 2) with h | h <;> rw [h] <;> by_cases g : a % 2 = 1 /\ b % 2 = 1 <;> simp [g]
theorem chi_sq (n a b : Nat) : chi n a b * chi n a b = 1 := by
  rcases chi_one n a b with h | h <;> rw [h] <;> rfl
theorem chi_zero : ∀ n a, chi n a 0 = 1
  | 0, _ => rfl
  | n + 1, a => by
    show (if a % 2 = 1 /\ 0 % 2 = 1 then -1 else 1) * chi n (a / 2) (0 / 2) = 1
    rw [if_neg (by omega), Nat.zero_div, chi_zero n]; rfl
theorem chi_sum : ∀ n b, b < 2 ^ n -> sumTo (fun a => chi n a b) (2 ^ n) = if b = 0 then ((2 ^ n : Nat) : Int) else 0
  | 0, b, h => by
    have : b = 0 := by simpa using h
    subst this; rfl
  | n + 1, b, h => by
    rw [Nat.pow_succ, Nat.mul_comm, sumTo_two]
    have e : ∀ j, chi (n + 1) (2 * j) b + chi (n + 1) (2 * j + 1) b = (if b % 2 = 1 then 0 else 2) * chi n j (b / 2) := fun j => by
      show (if 2 * j % 2 = 1 /\ b % 2 = 1 then -1 else 1) * chi n (2 * j / 2) (b / 2) + (if (2 * j + 1) % 2 = 1 /\ b % 2 = 1 then -1 else 1) * chi n ((2 * j + 1) / 2) (b / 2) = _
      rw [show 2 * j / 2 = j by omega, show (2 * j + 1) / 2 = j by omega, if_neg (by omega)]
      by_cases hb : b % 2 = 1
      . rw [if_pos ⟨by omega, hb⟩, if_pos hb]; omega
      . rw [if_neg (fun z => hb z.2), if_neg hb]; omega
    rw [sumTo_congr (g := fun j => (if b % 2 = 1 then 0 else 2) * chi n j (b / 2)) fun j _ => e j, <- sumTo_mul, chi_sum n (b / 2) (by rw [Nat.pow_succ] at h; omega)]
    by_cases hb : b % 2 = 1
    . rw [if_pos hb, Int.zero_mul, if_neg (by omega)]
    . rw [if_neg hb]
      by_cases h0 : b = 0
      . subst h0; simp [Int.natCast_mul]
      . rw [if_neg (by omega), if_neg h0]; rfl
theorem xor_eq_zero {a b : Nat} : a ^^^ b = 0 ↔ a = b := by
  constructor
  . intro h
    have := congrArg (fun z => z ^^^ b) h
    simpa [Nat.xor_assoc] using this
  . intro h; subst h; exact Nat.xor_self a
def wt (n : Nat) (v : Nat -> Int) (s : Nat) : Int := sumTo (fun p => chi n s p * v p) (2 ^ n)
theorem wt_mul (n : Nat) (a b : Nat -> Int) : sumTo (fun s => wt n a s * wt n b s) (2 ^ n) = ((2 ^ n : Nat) : Int) * sumTo (fun x => a x * b x) (2 ^ n) := by
  have e1 : ∀ s, wt n a s * wt n b s = sumTo (fun x => sumTo (fun y => (a x * b y) * chi n s (x ^^^ y)) (2 ^ n)) (2 ^ n) := fun s => by
    unfold wt
    rw [sumTo_mulr]
    refine sumTo_congr fun x _ => ?_
    rw [sumTo_mul]
    refine sumTo_congr fun y _ => ?_
    rw [chi_xor]
    ac_rfl
  rw [sumTo_congr fun s _ => e1 s, sumTo_swap, sumTo_mul]
  refine sumTo_congr fun x hx => ?_
  rw [sumTo_swap]
  have e2 : ∀ y, y < 2 ^ n -> sumTo (fun s => a x * b y * chi n s (x ^^^ y)) (2 ^ n) = if x = y then ((2 ^ n : Nat) : Int) * (a x * b y) else 0 := fun y hy => by
    rw [<- sumTo_mul, chi_sum n _ (Nat.xor_lt_two_pow hx hy)]
    by_cases h : x = y
    . rw [if_pos (xor_eq_zero.mpr h), if_pos h, Int.mul_comm]
    . rw [if_neg (fun z => h (xor_eq_zero.mp z)), if_neg h, Int.mul_zero]
  rw [sumTo_congr e2, sumTo_pick (fun y => ((2 ^ n : Nat) : Int) * (a x * b y)), if_pos hx]
theorem sumTo_xor : ∀ (n : Nat) (f : Nat -> Int) (t : Nat), t < 2 ^ n -> sumTo (fun x => f (x ^^^ t)) (2 ^ n) = sumTo f (2 ^ n)
  | 0, f, t, h => by
    have : t = 0 := by simpa using h
    subst this
    exact sumTo_congr fun j _ => by rw [Nat.xor_zero]
  | n + 1, f, t, h => by
    rw [Nat.pow_succ, Nat.mul_comm, sumTo_two, sumTo_two]
    have ih := sumTo_xor n (fun j => f (2 * j) + f (2 * j + 1)) (t / 2) (by rw [Nat.pow_succ] at h; omega)
    rw [<- ih]
    refine sumTo_congr fun j _ => ?_
    have k1 := xor_half (2 * j) t
    have k2 := xor_half (2 * j + 1) t
    have l1 := (low3 (2 * j) t).2.1
    have l2 := (low3 (2 * j + 1) t).2.1
    rw [show 2 * j / 2 = j by omega] at k1
    rw [show (2 * j + 1) / 2 = j by omega] at k2
    have ht : t % 2 = 0 \/ t % 2 = 1 := by omega
    rcases ht with ht | ht
    . have e1 : 2 * j ^^^ t = 2 * (j ^^^ t / 2) := by omega
      have e2 : 2 * j + 1 ^^^ t = 2 * (j ^^^ t / 2) + 1 := by omega
      rw [e1, e2]
    . have e1 : 2 * j ^^^ t = 2 * (j ^^^ t / 2) + 1 := by omega
      have e2 : 2 * j + 1 ^^^ t = 2 * (j ^^^ t / 2) := by omega
      rw [e1, e2, Int.add_comm]
theorem wt_shift (n : Nat) (v : Nat -> Int) (s t : Nat) (ht : t < 2 ^ n) : chi n s t * wt n v s = wt n (fun x => v (x ^^^ t)) s := by
  unfold wt
  rw [<- sumTo_xor n (fun p => chi n s p * v p) t ht, sumTo_mul]
  refine sumTo_congr fun x _ => ?_
  rw [chi_xor, <- Int.mul_assoc, Int.mul_comm (chi n s x), <- Int.mul_assoc, chi_sq, Int.one_mul]
theorem wt_auto (n : Nat) (v : Nat -> Int) (t : Nat) (ht : t < 2 ^ n) : sumTo (fun s => chi n s t * (wt n v s * wt n v s)) (2 ^ n) = ((2 ^ n : Nat) : Int) * sumTo (fun x => v (x ^^^ t) * v x) (2 ^ n) := by
  rw [<- wt_mul n (fun x => v (x ^^^ t)) v]
  refine sumTo_congr fun s _ => ?_
  rw [<- Int.mul_assoc, wt_shift n v s t ht]
theorem wt_conv (n : Nat) (u v : Nat -> Int) (t : Nat) : sumTo (fun s => wt n u s * wt n v (s ^^^ t)) (2 ^ n) = ((2 ^ n : Nat) : Int) * wt n (fun x => u x * v x) t := by
  have e : ∀ s, wt n v (s ^^^ t) = wt n (fun x => chi n t x * v x) s := fun s => by
    unfold wt
    refine sumTo_congr fun p _ => ?_
    rw [chi_comm, chi_xor, chi_comm n p s, chi_comm n p t, Int.mul_assoc]
  rw [sumTo_congr (g := fun s => wt n u s * wt n (fun x => chi n t x * v x) s) fun s _ => by rw [e s], wt_mul]
  congr 1
  unfold wt
  exact sumTo_congr fun x _ => by rw [Int.mul_left_comm]
theorem chi_top : ∀ {s b r c j : Nat}, r < 2 ^ s -> j < 2 ^ s -> b < 2 -> c < 2 -> chi (s + 1) (b * 2 ^ s + r) (c * 2 ^ s + j) = chi s r j * (if b = 1 /\ c = 1 then -1 else 1)
  | 0, b, r, c, j, hr, hj, hb, hc => by
    have r0 : r = 0 := by simpa using hr
    have j0 : j = 0 := by simpa using hj
    subst r0 j0
    have eb : b = 0 \/ b = 1 := by omega
    have ec : c = 0 \/ c = 1 := by omega
    rcases eb with rfl | rfl <;> rcases ec with rfl | rfl <;> rfl
  | s + 1, b, r, c, j, hr, hj, hb, hc => by
    have d1 : ∀ x : Nat, x * 2 ^ (s + 1) = 2 * (x * 2 ^ s) := fun x => by rw [Nat.pow_succ, Nat.mul_comm (2 ^ s), <- Nat.mul_assoc, Nat.mul_comm x 2, Nat.mul_assoc]
    have k1 : (b * 2 ^ (s + 1) + r) % 2 = r % 2 := by rw [d1]; omega
    have k2 : (c * 2 ^ (s + 1) + j) % 2 = j % 2 := by rw [d1]; omega
    have k3 : (b * 2 ^ (s + 1) + r) / 2 = b * 2 ^ s + r / 2 := by rw [d1]; omega
    have k4 : (c * 2 ^ (s + 1) + j) / 2 = c * 2 ^ s + j / 2 := by rw [d1]; omega
    have e1 : chi (s + 1 + 1) (b * 2 ^ (s + 1) + r) (c * 2 ^ (s + 1) + j) = (if r % 2 = 1 /\ j % 2 = 1 then -1 else 1) * chi (s + 1) (b * 2 ^ s + r / 2) (c * 2 ^ s + j / 2) := by
      show (if (b * 2 ^ (s + 1) + r) % 2 = 1 /\ (c * 2 ^ (s + 1) + j) % 2 = 1 then -1 else 1) * chi (s + 1) ((b * 2 ^ (s + 1) + r) / 2) ((c * 2 ^ (s + 1) + j) / 2) = _
      rw [k1, k2, k3, k4]
    rw [e1, chi_top (s := s) (by rw [Nat.pow_succ] at hr; omega) (by rw [Nat.pow_succ] at hj; omega) hb hc, <- Int.mul_assoc]
    rfl
def crossF (v : Nat -> Int) (s k : Nat) : Int := if k / s % 2 = 1 then v (k - s) - v k else v k + v (k + s)
def hadF (v : Nat -> Int) : Nat -> Nat -> Int
  | 0 => v
  | s + 1 => crossF (hadF v s) (2 ^ s)
def hs (v : Nat -> Int) (s k : Nat) : Int := sumTo (fun j => chi s (k % 2 ^ s) j * v (k / 2 ^ s * 2 ^ s + j)) (2 ^ s)
theorem hs_at {v : Nat -> Int} {s q r : Nat} (h : r < 2 ^ s) : hs v s (q * 2 ^ s + r) = sumTo (fun j => chi s r j * v (q * 2 ^ s + j)) (2 ^ s) := by
  unfold hs
  have e1 : (q * 2 ^ s + r) % 2 ^ s = r := by rw [Nat.mul_comm, Nat.mul_add_mod, Nat.mod_eq_of_lt h]
  have e2 : (q * 2 ^ s + r) / 2 ^ s = q := by rw [Nat.mul_comm, Nat.mul_add_div (Nat.two_pow_pos s), Nat.div_eq_of_lt h, Nat.add_zero]
  rw [e1, e2]
theorem had_step {v : Nat -> Int} {s : Nat} (q b r : Nat) (hr : r < 2 ^ s) (hb : b < 2) :
    crossF (hs v s) (2 ^ s) (q * 2 ^ (s + 1) + (b * 2 ^ s + r)) = hs v (s + 1) (q * 2 ^ (s + 1) + (b * 2 ^ s + r)) := by
  have hB : 2 ^ (s + 1) = 2 ^ s + 2 ^ s := by rw [Nat.pow_succ]; omega
  have hrr : b * 2 ^ s + r < 2 ^ (s + 1) := by
    rw [hB]
    have : b = 0 \/ b = 1 := by omega
    rcases this with e | e <;> subst e <;> omega
  rw [hs_at hrr, hB, sumTo_add]
  have low : ∀ j, j < 2 ^ s -> chi (s + 1) (b * 2 ^ s + r) j = chi s r j := fun j hj => by
    have := chi_top (c := 0) hr hj hb (by decide)
    rw [Nat.zero_mul, Nat.zero_add, if_neg (by omega), Int.mul_one] at this
    exact this
  have high : ∀ j, j < 2 ^ s -> chi (s + 1) (b * 2 ^ s + r) (2 ^ s + j) = chi s r j * (if b = 1 then -1 else 1) := fun j hj => by
    have := chi_top (c := 1) hr hj hb (by decide)
    rw [Nat.one_mul] at this
    rw [this]
    simp
  have e0 : q * (2 ^ s + 2 ^ s) + (b * 2 ^ s + r) = (2 * q + b) * 2 ^ s + r := by
    rw [Nat.add_mul, Nat.mul_comm 2 q, Nat.mul_assoc, Nat.two_mul]; omega
  have eq0 : q * (2 ^ s + 2 ^ s) = (2 * q) * 2 ^ s := by rw [Nat.mul_comm 2 q, Nat.mul_assoc, Nat.two_mul]
  have eq1 : q * (2 ^ s + 2 ^ s) + 2 ^ s = (2 * q + 1) * 2 ^ s := by rw [Nat.add_mul, Nat.one_mul, eq0]
  unfold crossF
  rw [e0]
  have et : ((2 * q + b) * 2 ^ s + r) / 2 ^ s % 2 = b := by
    rw [Nat.mul_comm, Nat.mul_add_div (Nat.two_pow_pos s), Nat.div_eq_of_lt hr]; omega
  rw [et]
  have : b = 0 \/ b = 1 := by omega
  rcases this with e | e <;> subst e
  . rw [if_neg (by decide)]
    have ek : (2 * q + 0) * 2 ^ s + r + 2 ^ s = (2 * q + 1) * 2 ^ s + r := by rw [Nat.add_zero, Nat.add_mul, Nat.one_mul]; omega
    rw [ek, hs_at hr, hs_at hr]
    congr 1
    . refine sumTo_congr fun j hj => ?_
      rw [low j hj, eq0]; rfl
    . refine sumTo_congr fun j hj => ?_
      show chi s r j * v ((2 * q + 1) * 2 ^ s + j) = chi (s + 1) (0 * 2 ^ s + r) (2 ^ s + j) * v (q * (2 ^ s + 2 ^ s) + (2 ^ s + j))
      rw [high j hj, if_neg (by decide), Int.mul_one, <- Nat.add_assoc, eq1]
  . rw [if_pos rfl]
    have ek : (2 * q + 1) * 2 ^ s + r - 2 ^ s = (2 * q) * 2 ^ s + r := by rw [Nat.add_mul, Nat.one_mul]; omega
    rw [ek, hs_at hr, hs_at hr, Int.sub_eq_add_neg]
    congr 1
    . refine sumTo_congr fun j hj => ?_
      rw [low j hj, eq0]
    . have neg : ∀ (f : Nat -> Int) n, - sumTo f n = sumTo (fun j => - f j) n := fun f n => by
        induction n with
        | zero => rfl
        | succ n ih => show -(sumTo f n + f n) = sumTo (fun j => - f j) n + - f n; rw [<- ih]; omega
      rw [neg]
      refine sumTo_congr fun j hj => ?_
      show -(chi s r j * v ((2 * q + 1) * 2 ^ s + j)) = chi (s + 1) (1 * 2 ^ s + r) (2 ^ s + j) * v (q * (2 ^ s + 2 ^ s) + (2 ^ s + j))
      rw [high j hj, if_pos rfl, <- Nat.add_assoc, eq1, Int.mul_neg, Int.mul_one, Int.neg_mul]
theorem split_k (s k : Nat) : ∃ q b r, k = q * 2 ^ (s + 1) + (b * 2 ^ s + r) /\ r < 2 ^ s /\ b < 2 := by
  refine ⟨k / 2 ^ s / 2, k / 2 ^ s % 2, k % 2 ^ s, ?_, Nat.mod_lt _ (Nat.two_pow_pos s), Nat.mod_lt _ (by decide)⟩
  have h1 := Nat.div_add_mod k (2 ^ s)
  have h2 := Nat.div_add_mod (k / 2 ^ s) 2
  rw [Nat.pow_succ]
  generalize k % 2 ^ s = r at *
  generalize hd : k / 2 ^ s = d at *
  rw [<- Nat.add_assoc, Nat.mul_comm (2 ^ s) 2, <- Nat.mul_assoc, <- Nat.add_mul, Nat.mul_comm (d / 2) 2, h2, Nat.mul_comm]
  exact h1.symm
theorem had_all (v : Nat -> Int) : ∀ s k, hadF v s k = hs v s k
  | 0, k => by
    show v k = sumTo (fun j => chi 0 (k % 2 ^ 0) j * v (k / 2 ^ 0 * 2 ^ 0 + j)) 1
    show v k = 0 + chi 0 (k % 2 ^ 0) 0 * v (k / 2 ^ 0 * 2 ^ 0 + 0)
    have : chi 0 (k % 2 ^ 0) 0 = 1 := rfl
    rw [this, Int.one_mul, Int.zero_add]
    simp
  | s + 1, k => by
    have e : hadF v s = hs v s := funext fun k => had_all v s k
    show crossF (hadF v s) (2 ^ s) k = _
    rw [e]
    obtain ⟨q, b, r, rfl, hr, hb⟩ := split_k s k
    exact had_step q b r hr hb
theorem had_end {v : Nat -> Int} {m k : Nat} (h : k < 2 ^ m) : hadF v m k = sumTo (fun j => chi m k j * v j) (2 ^ m) := by
  rw [had_all]
  have := hs_at (v := v) (s := m) (q := 0) h
  rw [Nat.zero_mul, Nat.zero_add] at this
  rw [this]
  refine sumTo_congr fun j _ => ?_
  rw [Nat.zero_add]
theorem had_wt {v : Nat -> Int} {m k : Nat} (h : k < 2 ^ m) : hadF v m k = wt m v k := had_end h
theorem wt_congr {m : Nat} {u v : Nat -> Int} (h : ∀ p, p < 2 ^ m -> u p = v p) (s : Nat) : wt m u s = wt m v s := sumTo_congr fun p hp => by rw [h p hp]
def manyF : Nat -> Nat -> Nat
  | 0, _ => 0
  | f + 1, x => x % 2 + manyF f (x / 2)
@[irreducible] def many (x : Nat) : Nat := manyF 64 x
theorem manyF_zero : ∀ f, manyF f 0 = 0
  | 0 => rfl
  | f + 1 => by
    show 0 % 2 + manyF f (0 / 2) = 0
    rw [Nat.zero_div, manyF_zero f]
theorem manyF_up : ∀ (f g x : Nat), x < 2 ^ f -> f <= g -> manyF g x = manyF f x
  | 0, g, x, h, _ => by
    have : x = 0 := by simpa using h
    subst this
    rw [manyF_zero, manyF_zero]
  | f + 1, 0, x, _, h => by omega
  | f + 1, g + 1, x, h, hg => by
    show x % 2 + manyF g (x / 2) = x % 2 + manyF f (x / 2)
    rw [manyF_up f g (x / 2) (by rw [Nat.pow_succ] at h; omega) (by omega)]
theorem many_of {n x : Nat} (h : x < 2 ^ n) (hn : n <= 64) : many x = manyF n x := by
  unfold many
  exact manyF_up n 64 x h hn
theorem manyF_le : ∀ n x, manyF n x <= n
  | 0, _ => Nat.le_refl _
  | n + 1, x => by
    show x % 2 + manyF n (x / 2) <= n + 1
    have := manyF_le n (x / 2)
    omega
theorem chi_manyF : ∀ n a b, chi n a b = if manyF n (a &&& b) % 2 = 1 then -1 else 1
  | 0, _, _ => rfl
  | n + 1, a, b => by
    show (if a % 2 = 1 /\ b % 2 = 1 then -1 else 1) * chi n (a / 2) (b / 2) = if ((a &&& b) % 2 + manyF n ((a &&& b) / 2)) % 2 = 1 then -1 else 1
    rw [chi_manyF n, and_half, (low3 a b).1]
    generalize manyF n (a / 2 &&& b / 2) = k
    have ha : a % 2 = 0 \/ a % 2 = 1 := by omega
    have hb : b % 2 = 0 \/ b % 2 = 1 := by omega
    have hk : k % 2 = 0 \/ k % 2 = 1 := by omega
    rcases ha with ha | ha <;> rcases hb with hb | hb <;> rcases hk with hk | hk <;> rw [ha, hb] <;> simp [hk, Nat.add_mod]
theorem chi_many {n a b : Nat} (h : a < 2 ^ n) (hn : n <= 64) : chi n a b = if many (a &&& b) % 2 = 1 then -1 else 1 := by
  rw [many_of (Nat.lt_of_le_of_lt Nat.and_le_left h) hn, chi_manyF]
def ixL (g : Nat -> Int) (M : Nat) : List V := (List.range M).map fun i => V.int (g i)
theorem ixL_len {g : Nat -> Int} {M : Nat} : (ixL g M).length = M := by unfold ixL; simp
theorem ixL_get {g : Nat -> Int} {M k : Nat} (h : k < M) : (ixL g M)[k]? = some (.int (g k)) := by unfold ixL; rw [List.getElem?_map, List.getElem?_range h]; rfl
theorem ixL_at {g : Nat -> Int} {M k : Nat} (h : k < M) : atI (ixL g M) (k : Int) = some (.int (g k)) := atI_of rfl (ixL_get h)
theorem ixL_take {g : Nat -> Int} {M i : Nat} (h : i < M) : (ixL g M).take (i + 1) = (ixL g M).take i ++ [V.int (g i)] := by
  rw [List.take_add_one, ixL_get h]; rfl
theorem ixL_succ (g : Nat -> Int) (M : Nat) : ixL g (M + 1) = ixL g M ++ [V.int (g M)] := by unfold ixL; rw [List.range_succ, List.map_append]; rfl
theorem ixL_congr {f g : Nat -> Int} {M : Nat} (h : ∀ k, k < M -> f k = g k) : ixL f M = ixL g M := by
  unfold ixL
  exact List.map_congr_left fun k hk => by rw [h k (List.mem_range.mp hk)]
theorem ixL_set {g : Nat -> Int} {M i : Nat} {z : Int} : (ixL g M).set i (.int z) = ixL (fun k => if k = i then z else g k) M := by
  refine List.ext_getElem? fun k => ?_
  rw [List.getElem?_set, ixL_len]
  by_cases hk : k < M
  . rw [ixL_get hk]
    by_cases e : i = k
    . subst e; rw [if_pos rfl, if_pos hk, ixL_get hk, if_pos rfl]
    . rw [if_neg e, ixL_get hk, if_neg (Ne.symm e)]
  . have n1 : (ixL g M)[k]? = none := List.getElem?_eq_none (by rw [ixL_len]; omega)
    have n2 : (ixL (fun k => if k = i then z else g k) M)[k]? = none := List.getElem?_eq_none (by rw [ixL_len]; omega)
    rw [n1, n2]
    split
    . split
      . omega
      . rfl
    . rfl
def valB (b : Bool) : Int := if b = true then -1 else 1
def valF (bs : List Bool) (p : Nat) : Int := valB (bs.getD p false)
def termG (g : Nat -> Int) : Nat -> List (Nat × Int)
  | 0 => []
  | i + 1 => termG g i ++ (if g i = 0 then [] else [(i, g i)])
theorem termG_congr {f g : Nat -> Int} : ∀ {n : Nat}, (∀ j, j < n -> f j = g j) -> termG f n = termG g n
  | 0, _ => rfl
  | n + 1, h => by
    show termG f n ++ (if f n = 0 then [] else [(n, f n)]) = termG g n ++ (if g n = 0 then [] else [(n, g n)])
    rw [termG_congr fun j hj => h j (Nat.lt_succ_of_lt hj), h n (Nat.lt_succ_self n)]
theorem termG_len (g : Nat -> Int) : ∀ n, (termG g n).length <= n
  | 0 => Nat.le_refl _
  | n + 1 => by
    unfold termG
    rw [List.length_append]
    have := termG_len g n
    split
    . rw [List.length_nil]; omega
    . rw [List.length_singleton]; omega
theorem termG_mem {g : Nat -> Int} : ∀ {n : Nat} {q : Nat × Int}, q ∈ termG g n -> q.1 < n /\ q.2 = g q.1 /\ q.2 ≠ 0
  | 0, q, h => by cases h
  | n + 1, q, h => by
    rcases List.mem_append.mp h with h | h
    . have := termG_mem h; exact ⟨by omega, this.2⟩
    . split at h
      . cases h
      . rename_i hn
        rw [List.mem_singleton.mp h]
        exact ⟨Nat.lt_succ_self n, rfl, hn⟩
def termD (q : Nat × Int) : Dv := .tup [.int q.1, .int q.2]
def sumD (m : Nat) (ts : List (Nat × Int)) : Dv := .tup [.int m, .tup (ts.map termD)]
def addT (f : Nat -> Int -> Int) : List (Nat × Int) -> Int
  | [] => 0
  | q :: ts => f q.1 q.2 + addT f ts
theorem addT_app (f : Nat -> Int -> Int) : ∀ xs ys, addT f (xs ++ ys) = addT f xs + addT f ys
  | [], ys => by show addT f ys = 0 + addT f ys; omega
  | x :: xs, ys => by
    show f x.1 x.2 + addT f (xs ++ ys) = f x.1 x.2 + addT f xs + addT f ys
    rw [addT_app f xs ys]; omega
theorem addT_termG (f : Nat -> Int -> Int) (g : Nat -> Int) (h0 : ∀ k, f k 0 = 0) : ∀ n, addT f (termG g n) = sumTo (fun k => f k (g k)) n
  | 0 => rfl
  | n + 1 => by
    show addT f (termG g n ++ (if g n = 0 then [] else [(n, g n)])) = sumTo (fun k => f k (g k)) n + f n (g n)
    rw [addT_app, addT_termG f g h0 n]
    congr 1
    split
    . rename_i h; rw [h, h0]; rfl
    . show f n (g n) + 0 = _; omega
structure SumAt (K : PySem.W.Frag) (H : Hp) (v : V) (m : Nat) (ts : List (Nat × Int)) : Prop where
  at_ : ∃ (a b : Addr) (vs : List V), v = .ref a /\ SqT K H a [.int m, .ref b] /\ SqT K H b vs /\ Reps K H (ts.map termD) vs
theorem SumAt.of {K : PySem.W.Frag} {H : Hp} {v : V} {m : Nat} {ts : List (Nat × Int)} (h : Rep K H (sumD m ts) v) : SumAt K H v m ts := by
  unfold sumD Rep at h
  obtain ⟨a, xs, rfl, ha, hr⟩ := h
  unfold Reps at hr
  obtain ⟨x, r, rfl, h1, hr⟩ := hr
  unfold Rep at h1; subst h1
  unfold Reps at hr
  obtain ⟨x, r, rfl, h2, hr⟩ := hr
  unfold Reps at hr; subst hr
  unfold Rep at h2
  obtain ⟨b, vs, rfl, hb, hr⟩ := h2
  exact ⟨a, b, vs, rfl, ha, hb, hr⟩
theorem SumAt.rep {K : PySem.W.Frag} {H : Hp} {v : V} {m : Nat} {ts : List (Nat × Int)} (h : SumAt K H v m ts) : Rep K H (sumD m ts) v := by
  obtain ⟨a, b, vs, rfl, ha, hb, hr⟩ := h.at_
  unfold sumD Rep
  refine ⟨a, _, rfl, ha, reps_cons rep_int (reps_cons ?_ reps_nil)⟩
  unfold Rep
  exact ⟨b, vs, rfl, hb, hr⟩
theorem SumAt.same {K : PySem.W.Frag} {H H' : Hp} {v : V} {m : Nat} {ts : List (Nat × Int)} (h : SumAt K H v m ts) (s : Same H H') : SumAt K H' v m ts := .of (Rep.same s _ _ h.rep)
theorem reps_terms_at {K : PySem.W.Frag} {H : Hp} {ts : List (Nat × Int)} {vs : List V} {i : Nat} {v : V} (h : Reps K H (ts.map termD) vs) (e : vs[i]? = some v) : ∃ q c, ts[i]? = some q /\ v = .ref c /\ SqT K H c [.int q.1, .int q.2] := by
  have hl := h.length
  have hi : i < ts.length := by
    have := (List.getElem?_eq_some_iff.mp e).1
    rw [List.length_map] at hl; omega
  have e1 : (ts.map termD)[i]? = some (termD ts[i]) := by rw [List.getElem?_map, List.getElem?_eq_getElem hi]; rfl
  obtain ⟨x, e2, hx⟩ := h.get e1
  rw [e] at e2
  cases e2
  unfold termD Rep at hx
  obtain ⟨c, xs, rfl, hc, hr⟩ := hx
  unfold Reps at hr
  obtain ⟨x, r, rfl, h1, hr⟩ := hr
  unfold Rep at h1; subst h1
  unfold Reps at hr
  obtain ⟨x, r, rfl, h2, hr⟩ := hr
  unfold Rep at h2; subst h2
  unfold Reps at hr; subst hr
  exact ⟨ts[i], c, List.getElem?_eq_getElem hi, rfl, hc⟩
def shT (a b : Int) : Int := a / (a.gcd b : Int)
def shB (a b : Int) : Int := b / (a.gcd b : Int)
theorem sh_scale {c a b : Int} (hc : 0 < c) : shT (c * a) (c * b) = shT a b /\ shB (c * a) (c * b) = shB a b := by
  have e : (((c * a).gcd (c * b) : Nat) : Int) = c * ((a.gcd b : Nat) : Int) := by
    rw [Int.gcd_mul_left, Int.natCast_mul]
    have : ((c.natAbs : Nat) : Int) = c := by omega
    rw [this]
  unfold shT shB
  rw [e]
  exact ⟨Int.mul_ediv_mul_of_pos _ _ hc, Int.mul_ediv_mul_of_pos _ _ hc⟩
def shD (a b : Int) : Dv := .tup [.int (shT a b), .int (shB a b)]
theorem sh_eq {c a b x y : Int} (hc : 0 < c) (hx : x = c * a) (hy : y = c * b) : shD x y = shD a b := by
  subst hx hy
  unfold shD
  rw [(sh_scale hc).1, (sh_scale hc).2]
theorem gcd_mod {x y : Int} (hx : 0 <= x) (hy : 0 <= y) : Int.gcd y (x % y) = Int.gcd y x := by
  unfold Int.gcd
  rw [Int.natAbs_emod_of_nonneg hx, Nat.gcd_comm, <- Nat.gcd_rec]
theorem sh_small {a b : Int} {N : Nat} (ha : a.natAbs < N) (hb : b.natAbs < N) (h0 : 0 < b) : (shT a b).natAbs < N /\ (shB a b).natAbs < N /\ 0 < (a.gcd b : Int) /\ (a.gcd b : Int) <= b := by
  have hg : 0 < a.gcd b := Int.gcd_pos_of_ne_zero_right a (by omega)
  have hle : (a.gcd b : Int) <= b := Int.le_of_dvd h0 (Int.gcd_dvd_right ..)
  have k : ∀ z : Int, (z / (a.gcd b : Int)).natAbs <= z.natAbs := fun z => Int.natAbs_ediv_le_natAbs z _
  exact ⟨Nat.lt_of_le_of_lt (k a) ha, Nat.lt_of_le_of_lt (k b) hb, by omega, hle⟩
def sp_cd : Sp := fun vs H Q _ => match vs with
  | [.int a, .int b] => 0 <= a /\ 0 <= b /\ Q (.int (Int.gcd a b)) H
  | _ => False
theorem sp_cd_mono : SpMono sp_cd := fun vs H Q Q' E h q => by
  unfold sp_cd at *
  split at q
  . exact ⟨q.1, q.2.1, h _ _ q.2.2⟩
  . exact q.elim
def sp_share : Sp := fun vs H Q _ => match vs with
  | [.int a, .int b] => 0 < b /\ a.natAbs < 2 ^ 1000 /\ b.natAbs < 2 ^ 1000 /\ ∀ p, H p = none -> Q (.ref p) (upd H p (.tup [.int (shT a b), .int (shB a b)]))
  | _ => False
theorem sp_share_mono : SpMono sp_share := fun vs H Q Q' E h q => by
  unfold sp_share at *
  split at q
  . exact ⟨q.1, q.2.1, q.2.2.1, fun p hp => h _ _ (q.2.2.2 p hp)⟩
  . exact q.elim
theorem rep_sh {K : PySem.W.Frag} {H : Hp} {p : Addr} {a b : Int} (h : H p = some (.tup [.int (shT a b), .int (shB a b)])) : Rep K H (shD a b) (.ref p) := rep_tup1 h (reps_cons rep_int (reps_cons rep_int reps_nil))
theorem dep_sh {a b : Int} : depD (shD a b) = 1 := by
  unfold shD depD depDs depD depDs depD depDs
  rfl
theorem cross_in : ∀ m < 7, ∀ s < m, ∀ k < 2 ^ m, k / 2 ^ s % 2 ≠ 1 -> k + 2 ^ s < 2 ^ m := by decide +kernel
def gB (bs : List Bool) (i : Nat) : Bool := bs.getD i false
def matF (bs : List Bool) (s i : Nat) : Bool := gB bs (i ^^^ s) != gB bs i
def matL (bs : List Bool) (s n : Nat) : List Nat := (List.range n).filter (matF bs s)
theorem matL_succ (bs : List Bool) (s n : Nat) : matL bs s (n + 1) = matL bs s n ++ (if matF bs s n = true then [n] else []) := by
  unfold matL
  rw [List.range_succ, List.filter_append]
  congr 1
  by_cases h : matF bs s n = true
  . rw [if_pos h, List.filter_cons_of_pos h]; rfl
  . rw [if_neg h, List.filter_cons_of_neg h]; rfl
theorem gB_get {bs : List Bool} {i : Nat} (h : i < bs.length) : gB bs i = bs[i] := by unfold gB; rw [List.getD_eq_getElem?_getD, List.getElem?_eq_getElem h]; rfl
theorem gB_at {bs : List Bool} {i : Nat} (h : i < bs.length) : atI (bs.map V.bl) ((i : Nat) : Int) = some (.bl (gB bs i)) := by
  rw [gB_get h]
  exact atI_of rfl (by rw [List.getElem?_map, List.getElem?_eq_getElem h]; rfl)
theorem val_prod (bs : List Bool) (s i : Nat) : valF bs (i ^^^ s) * valF bs i = 1 - 2 * (if matF bs s i = true then 1 else 0) := by
  unfold valF matF gB valB
  cases bs.getD (i ^^^ s) false <;> cases bs.getD i false <;> decide
theorem mat_sum (bs : List Bool) (s : Nat) : ∀ n, sumTo (fun i => valF bs (i ^^^ s) * valF bs i) n = (n : Int) - 2 * ((matL bs s n).length : Int)
  | 0 => rfl
  | n + 1 => by
    show sumTo _ n + valF bs (n ^^^ s) * valF bs n = _
    rw [mat_sum bs s n, val_prod, matL_succ, List.length_append]
    by_cases h : matF bs s n = true
    . rw [if_pos h, if_pos h, List.length_singleton]; omega
    . rw [if_neg h, if_neg h, List.length_nil]; omega
theorem mat_zero (bs : List Bool) : ∀ n, matL bs 0 n = []
  | 0 => rfl
  | n + 1 => by
    rw [matL_succ, mat_zero bs n, if_neg]
    . rfl
    . unfold matF; rw [Nat.xor_zero]; simp
def oddSq (m : Nat) (g : Nat -> Int) (t : Nat) : Int := sumTo (fun s => if chi m s t = -1 then g s * g s else 0) (2 ^ m)
theorem odd_squares (m : Nat) (bs : List Bool) (t : Nat) (ht : t < 2 ^ m) : oddSq m (wt m (valF bs)) t = ((2 ^ m : Nat) : Int) * ((matL bs t (2 ^ m)).length : Int) := by
  have a1 := wt_auto m (valF bs) t ht
  have a0 := wt_auto m (valF bs) 0 (Nat.two_pow_pos m)
  rw [mat_sum] at a1 a0
  rw [mat_zero] at a0
  have e : ∀ s, (if chi m s t = -1 then wt m (valF bs) s * wt m (valF bs) s else 0) * 2 = chi m s 0 * (wt m (valF bs) s * wt m (valF bs) s) - chi m s t * (wt m (valF bs) s * wt m (valF bs) s) := fun s => by
    rw [chi_zero]
    rcases chi_one m s t with h | h
    . rw [h, if_neg (by decide)]; omega
    . rw [h, if_pos rfl]; omega
  have k : oddSq m (wt m (valF bs)) t * 2 = ((2 ^ m : Nat) : Int) * (((2 ^ m : Nat) : Int) - 2 * (([] : List Nat).length : Int)) - ((2 ^ m : Nat) : Int) * (((2 ^ m : Nat) : Int) - 2 * ((matL bs t (2 ^ m)).length : Int)) := by
    unfold oddSq
    rw [sumTo_mulr, sumTo_congr fun s _ => e s, <- sumTo_minus, a0, a1]
  have z : ((([] : List Nat).length : Nat) : Int) = 0 := rfl
  rw [z, Int.mul_zero, Int.sub_zero, Int.mul_sub] at k
  have k2 : ((2 ^ m : Nat) : Int) * (2 * ((matL bs t (2 ^ m)).length : Int)) = 2 * (((2 ^ m : Nat) : Int) * ((matL bs t (2 ^ m)).length : Int)) := by ac_rfl
  rw [k2] at k
  generalize ((2 ^ m : Nat) : Int) * ((matL bs t (2 ^ m)).length : Int) = y at *
  generalize ((2 ^ m : Nat) : Int) * ((2 ^ m : Nat) : Int) = u at *
  generalize oddSq m (wt m (valF bs)) t = x at *
  omega
theorem sum_bound {f : Nat -> Int} : ∀ {n : Nat}, (∀ j, j < n -> f j = 1 \/ f j = -1) -> -(n : Int) <= sumTo f n /\ sumTo f n <= n
  | 0, _ => ⟨Int.le_refl _, Int.le_refl _⟩
  | n + 1, h => by
    have i := sum_bound fun j hj => h j (Nat.lt_succ_of_lt hj)
    show -((n + 1 : Nat) : Int) <= sumTo f n + f n /\ sumTo f n + f n <= ((n + 1 : Nat) : Int)
    rcases h n (Nat.lt_succ_self n) with e | e <;> rw [e] <;> omega
theorem wt_bound (m : Nat) (bs : List Bool) (s : Nat) : -((2 ^ m : Nat) : Int) <= wt m (valF bs) s /\ wt m (valF bs) s <= ((2 ^ m : Nat) : Int) := by
  unfold wt
  refine sum_bound fun j _ => ?_
  rcases chi_one m s j with h | h <;> rw [h] <;> unfold valF valB <;> cases bs.getD j false <;> decide
def Light (g : Nat -> Int) : Prop := ∀ k, -64 <= g k /\ g k <= 64
theorem wt_light {m : Nat} (m6 : m <= 6) (bs : List Bool) : Light (wt m (valF bs)) := fun k => by
  have := wt_bound m bs k
  have h64 : 2 ^ m <= 64 := Nat.pow_le_pow_right (n := 2) (by decide) m6
  omega
theorem light_mul {a b : Int} (ha : -64 <= a /\ a <= 64) : okMul a b := .inr (.inl ⟨by omega, by omega⟩)
theorem sq_le {a : Int} (h : -64 <= a /\ a <= 64) : 0 <= a * a /\ a * a <= 4096 := by
  have h1 : a * a = ((a.natAbs * a.natAbs : Nat) : Int) := by rw [Int.natCast_mul, Int.natAbs_mul_self' a]
  have h2 : a.natAbs <= 64 := by omega
  have h3 : a.natAbs * a.natAbs <= 64 * 64 := Nat.mul_le_mul h2 h2
  omega
theorem sumTo_range {f : Nat -> Int} {B : Int} : ∀ {n : Nat}, (∀ j, j < n -> 0 <= f j /\ f j <= B) -> 0 <= sumTo f n /\ sumTo f n <= n * B
  | 0, _ => by show (0 : Int) <= 0 /\ (0 : Int) <= ((0 : Nat) : Int) * B; simp
  | n + 1, h => by
    have i := sumTo_range fun j hj => h j (Nat.lt_succ_of_lt hj)
    have k := h n (Nat.lt_succ_self n)
    show 0 <= sumTo f n + f n /\ sumTo f n + f n <= ((n + 1 : Nat) : Int) * B
    rw [Int.natCast_add, Int.add_mul]
    have : ((1 : Nat) : Int) * B = B := by simp
    omega
def foldT (f : Nat -> Int -> List Int) : List (Nat × Int) -> List Int
  | [] => []
  | q :: ts => f q.1 q.2 ++ foldT f ts
theorem foldT_app (f : Nat -> Int -> List Int) : ∀ xs ys, foldT f (xs ++ ys) = foldT f xs ++ foldT f ys
  | [], ys => rfl
  | x :: xs, ys => by
    show f x.1 x.2 ++ foldT f (xs ++ ys) = f x.1 x.2 ++ foldT f xs ++ foldT f ys
    rw [foldT_app f xs ys, List.append_assoc]
theorem foldT_take {f : Nat -> Int -> List Int} {ts : List (Nat × Int)} {i : Nat} {q : Nat × Int} (h : ts[i]? = some q) : foldT f (ts.take (i + 1)) = foldT f (ts.take i) ++ f q.1 q.2 := by
  rw [List.take_add_one, h, foldT_app]
  show _ ++ (f q.1 q.2 ++ []) = _
  rw [List.append_nil]
theorem foldT_sum (f : Nat -> Int -> List Int) : ∀ ts, (foldT f ts).sum = addT (fun k w => (f k w).sum) ts
  | [] => rfl
  | q :: ts => by
    show (f q.1 q.2 ++ foldT f ts).sum = _
    rw [List.sum_append, foldT_sum f ts]
    rfl
theorem foldT_len {f : Nat -> Int -> List Int} (h : ∀ k w, (f k w).length <= 1) : ∀ ts, (foldT f ts).length <= ts.length
  | [] => Nat.le_refl _
  | q :: ts => by
    show (f q.1 q.2 ++ foldT f ts).length <= ts.length + 1
    rw [List.length_append]
    have := h q.1 q.2
    have := foldT_len h ts
    omega
theorem tups_T : ∀ ts : List (Nat × Int), tupsOnly (ts.map termD) = true
  | [] => by unfold tupsOnly; rfl
  | q :: ts => by
    rw [List.map_cons]
    unfold tupsOnly
    rw [tups_T ts]
    unfold termD tupOnly tupsOnly tupOnly tupsOnly tupOnly tupsOnly
    rfl
theorem Feed.lst {H : Hp} {t : Addr} (F : Feed H t) : ∃ zs, H t = some (.lst zs) := by
  obtain ⟨a, b, k, c, _, h⟩ := F.at_
  exact ⟨_, h⟩
theorem termG_has {g : Nat -> Int} : ∀ {n s : Nat}, s < n -> g s ≠ 0 -> (s, g s) ∈ termG g n
  | 0, s, h, _ => by omega
  | n + 1, s, h, hg => by
    show (s, g s) ∈ termG g n ++ _
    by_cases e : s = n
    . subst e
      rw [if_neg hg]
      exact List.mem_append_right _ (List.mem_singleton.mpr rfl)
    . exact List.mem_append_left _ (termG_has (by omega) hg)
section
variable {X : Cx} {K : PySem.W.Frag}
end
def lvF (m : Nat) (g : Nat -> Int) (n j : Nat) : Int := sumTo (fun s => if manyF m s = j then g s * g s else 0) n
def lvT (m : Nat) (ts : List (Nat × Int)) (j : Nat) : Int := addT (fun s w => if manyF m s = j then w * w else 0) ts
theorem lvT_take {m : Nat} {ts : List (Nat × Int)} {i : Nat} {q : Nat × Int} (h : ts[i]? = some q) (j : Nat) : lvT m (ts.take (i + 1)) j = if j = manyF m q.1 then lvT m (ts.take i) j + q.2 * q.2 else lvT m (ts.take i) j := by
  unfold lvT
  rw [List.take_add_one, h, addT_app]
  show addT _ _ + ((if manyF m q.1 = j then q.2 * q.2 else 0) + 0) = _
  by_cases e : j = manyF m q.1
  . rw [if_pos e, if_pos e.symm, Int.add_zero]
  . rw [if_neg e, if_neg (Ne.symm e)]; omega
theorem lvT_all (m : Nat) (g : Nat -> Int) (j n : Nat) : lvT m (termG g n) j = lvF m g n j := by
  unfold lvT lvF
  rw [addT_termG]
  intro k
  split <;> simp
theorem lvF_range {m : Nat} {g : Nat -> Int} (hg : Light g) {n : Nat} (j : Nat) : 0 <= lvF m g n j /\ lvF m g n j <= n * 4096 := by
  refine sumTo_range (B := 4096) fun k _ => ?_
  have := sq_le (hg k)
  show 0 <= (if manyF m k = j then g k * g k else 0) /\ (if manyF m k = j then g k * g k else 0) <= 4096
  split <;> omega
def Nb (x : Int) (k : Nat) : Prop := x.natAbs < 2 ^ k
theorem Nb.mul {x y : Int} {a b : Nat} (hx : Nb x a) (hy : Nb y b) : Nb (x * y) (a + b) := by
  unfold Nb at *
  rw [Int.natAbs_mul, Nat.pow_add]
  exact Nat.mul_lt_mul'' hx hy
theorem Nb.up {x : Int} {a b : Nat} (hx : Nb x a) (h : a <= b) : Nb x b := Nat.lt_of_lt_of_le hx (Nat.pow_le_pow_right (by decide) h)
theorem Nb.pow {x : Int} {a : Nat} (hx : Nb x a) : ∀ i, Nb (x ^ i) (a * i + 1)
  | 0 => by unfold Nb; rw [Int.pow_zero]; show 1 < 2 ^ (a * 0 + 1); rw [Nat.mul_zero]; decide
  | i + 1 => by
    rw [Int.pow_succ]
    have := (hx.pow i).mul hx
    rw [show a * (i + 1) + 1 = a * i + 1 + a by rw [Nat.mul_succ]; omega]
    exact this
theorem Nb.add {x y : Int} {a : Nat} (hx : Nb x a) (hy : Nb y a) : Nb (x + y) (a + 1) := by
  unfold Nb at *
  rw [Nat.pow_succ]
  have := Int.natAbs_add_le x y
  omega
theorem Nb.okMul {x y : Int} (hx : Nb x 4000) (hy : Nb y 4000) : okMul x y := .inl ⟨hx.up (by decide), hy.up (by decide)⟩
theorem Nb.sum {f : Nat -> Int} {a : Nat} : ∀ {n : Nat}, (∀ j, j < n -> Nb (f j) a) -> Nb (sumTo f n) (a + n)
  | 0, _ => by unfold Nb; exact Nat.two_pow_pos _
  | n + 1, h => by
    have i := Nb.sum fun j hj => h j (Nat.lt_succ_of_lt hj)
    exact i.add ((h n (Nat.lt_succ_self n)).up (by omega))
def qF (x y : Int) (n s : Nat) : Int := x ^ manyF n s * y ^ (n - manyF n s)
theorem lv_sum (m : Nat) (g : Nat -> Int) (x y : Int) : sumTo (fun j => lvF m g (2 ^ m) j * x ^ j * y ^ (m - j)) (m + 1) = sumTo (fun s => qF x y m s * (g s * g s)) (2 ^ m) := by
  have e : ∀ j, lvF m g (2 ^ m) j * x ^ j * y ^ (m - j) = sumTo (fun s => if manyF m s = j then g s * g s * x ^ j * y ^ (m - j) else 0) (2 ^ m) := fun j => by
    unfold lvF
    rw [sumTo_mulr, sumTo_mulr]
    refine sumTo_congr fun s _ => ?_
    split <;> simp
  rw [sumTo_congr fun j _ => e j, sumTo_swap]
  refine sumTo_congr fun s _ => ?_
  rw [sumTo_pick (fun j => g s * g s * x ^ j * y ^ (m - j)) (manyF m s), if_pos (by have := manyF_le m s; omega)]
  unfold qF
  ac_rfl
def setT : List (Nat × Int) -> (Nat -> Int) -> Nat -> Int
  | [], f => f
  | q :: ts, f => setT ts fun j => if j = q.1 then q.2 else f j
theorem setT_app : ∀ (xs ys : List (Nat × Int)) (f : Nat -> Int), setT (xs ++ ys) f = setT ys (setT xs f)
  | [], _, _ => rfl
  | x :: xs, ys, f => setT_app xs ys _
theorem setT_take {ts : List (Nat × Int)} {i : Nat} {q : Nat × Int} {f : Nat -> Int} (h : ts[i]? = some q) : setT (ts.take (i + 1)) f = fun j => if j = q.1 then q.2 else setT (ts.take i) f j := by
  rw [List.take_add_one, h, setT_app]
  rfl
theorem setT_termG (g : Nat -> Int) : ∀ (n j : Nat), setT (termG g n) (fun _ => 0) j = if j < n then g j else 0
  | 0, j => by simp [termG, setT]
  | n + 1, j => by
    show setT (termG g n ++ (if g n = 0 then [] else [(n, g n)])) (fun _ => 0) j = _
    rw [setT_app]
    by_cases h : g n = 0
    . rw [if_pos h]
      show setT (termG g n) (fun _ => 0) j = _
      rw [setT_termG g n j]
      by_cases e : j = n
      . subst e; rw [if_neg (by omega), if_pos (by omega), h]
      . by_cases l : j < n
        . rw [if_pos l, if_pos (by omega)]
        . rw [if_neg l, if_neg (by omega)]
    . rw [if_neg h]
      show (if j = n then g n else setT (termG g n) (fun _ => 0) j) = _
      by_cases e : j = n
      . subst e; rw [if_pos rfl, if_pos (by omega)]
      . rw [if_neg e, setT_termG g n j]
        by_cases l : j < n
        . rw [if_pos l, if_pos (by omega)]
        . rw [if_neg l, if_neg (by omega)]
def newL (H : Hp) (Q : VK) (xs : List V) : Prop := ∀ p H', H p = none -> Same H H' -> H' p = some (.lst xs) -> Q (.ref p) H'
theorem newL_mono {H : Hp} {Q Q' : VK} {xs : List V} (h : ∀ v H, Q v H -> Q' v H) (q : newL H Q xs) : newL H Q' xs := fun p H' a b c => h _ _ (q p H' a b c)
theorem repZ (n : Nat) : (List.replicate n [V.int 0]).flatten = ixL (fun _ => 0) n := by
  induction n with
  | zero => rfl
  | succ n ih => rw [List.replicate_succ', List.flatten_append, ih, ixL_succ]; rfl
theorem sm_dput {td ty tv : TE} (h1 : EMono td) (h2 : EMono ty) (h3 : EMono tv) : SMono (sDPut td ty tv) := fun D D' σ H h q => h3 _ _ _ _ (fun _ _ q => h1 _ _ _ _ (fun _ _ q => h2 _ _ _ _ (fun _ _ ⟨a, H4, e, g, q⟩ => ⟨a, H4, e, g, h.nx _ _ q⟩) q) q) q
theorem hu_one {A : Around} (h : A.units + 60 < cLine) : A.units + 1 < cLine := by omega
end L2
namespace HT
open PySem PyProof.Rows
section
variable {prog : Program} {w : World} {A : Around} {E : Value -> Shared -> Prop} {s : Shared}
end
end HT
namespace L2
open PySem PySem.Spec PyProof.Rows
section
variable {X : Cx} {K : PySem.W.Frag} {e sx : Expr} {te ts : TE} {lo hi : Option Expr} {tl th : TO} {pos p2 : Pos}
end
structure GFeed (H : Hp) (t : Addr) (N : Nat) : Prop where
  at_ : ∃ (l : Addr) (i g c : Int) (ns : List Int), 0 <= i /\ 0 <= g /\ 0 <= c /\ c <= N /\ H t = some (.lst [.ref l, .int i, .int g, .int c]) /\ l ≠ t /\ H l = some (.lst (ns.map V.int)) /\ ns.length ≠ 0
theorem GFeed.same {H H' : Hp} {t : Addr} {N : Nat} (F : GFeed H t N) (h : Same H H') : GFeed H' t N := by
  obtain ⟨l, i, g, c, ns, h1, h2, h3, h4, h5, h6, h7, h8⟩ := F.at_
  exact ⟨l, i, g, c, ns, h1, h2, h3, h4, h _ _ h5, h6, h _ _ h7, h8⟩
theorem GFeed.upd {H : Hp} {t p : Addr} {o : HO} {N : Nat} (F : GFeed H t N) (h : H p = none) : GFeed (L2.upd H p o) t N := F.same (Same.upd h)
theorem GFeed.lst {H : Hp} {t : Addr} {N : Nat} (F : GFeed H t N) : ∃ zs, H t = some (.lst zs) := by
  obtain ⟨l, i, g, c, ns, h1, h2, h3, h4, h5, _⟩ := F.at_
  exact ⟨_, h5⟩
theorem rep_tup_inv {K : PySem.W.Frag} {H : Hp} {ds : List Dv} {v : V} (h : Rep K H (.tup ds) v) : ∃ a xs, v = .ref a /\ SqT K H a xs /\ Reps K H ds xs := by unfold Rep at h; exact h
theorem rep_tup2 {K : PySem.W.Frag} {H : Hp} {p : Addr} {xs : List V} {ds : List Dv} (h : SqT K H p xs) (r : Reps K H ds xs) : Rep K H (.tup ds) (.ref p) := by unfold Rep; exact ⟨p, xs, rfl, h, r⟩
section
variable {X : Cx} {pins : List (Addr × Obj)} {σ : St} {H : Hp} {s : Shared}
theorem KV.get {kvs : List (Key × V)} {vs : List (Key × Value)} (r : KV kvs vs) : ∀ {i : Nat} {q : Key × V}, kvs[i]? = some q -> ∃ v, vs[i]? = some (q.1, v) /\ RelV q.2 v := by
  induction r with
  | nil => intro i q e; simp at e
  | @cons a b l1 l2 h t ih =>
    intro i q e
    cases i with
    | zero =>
      simp at e; subst e
      obtain ⟨b1, b2⟩ := b
      obtain ⟨h1, h2⟩ := h
      exact ⟨b2, by simp; exact h1.symm, h2⟩
    | succ i =>
      obtain ⟨v, h1, h2⟩ := ih (i := i) (q := q) (by simpa using e)
      exact ⟨v, by simpa using h1, h2⟩
end
section
variable {X : Cx} {K : PySem.W.Frag} {tg oe : Expr} {to : TE} {ts : List Expr} {kt : Nat} {tpos apos cpos : Pos}
end
end L2
namespace L2
open PySem PyProof.Rows
section
variable {prog : Program} {w : World} {A : Around} {E : Value -> Shared -> Prop} {s : Shared}
end
section
variable {X : Cx}
end
end L2
namespace L2
open PySem PySem.Spec PyProof.Rows
end L2
namespace L2
open PySem PySem.Spec PyProof.Rows PySem.W
open Att (noObjs noObjs_get fr_all)
def CdO (a : Addr) (q : Str) : HO := .ext fun h => h.CodeRec (.ref a) q
def Lam (Pt : Addr) (pos : Pos) (q : Str) (H : Hp) : Prop :=
  ∃ ps : Array Value, H Pt = some (.tbl ps) /\ TriplesOk ps.toList /\ (codeAmong pos ps.toList = none \/ ∃ c', codeAmong pos ps.toList = some (.ref c') /\ H c' = some (CdO c' q))
def Grow (Pt : Addr) (H H' : Hp) : Prop := ∀ b o, b ≠ Pt -> H b = some o -> H' b = some o
theorem Grow.same {Pt : Addr} {H H' : Hp} (h : Same H H') : Grow Pt H H' := fun b o _ e => h b o e
theorem Lam.same {Pt : Addr} {pos : Pos} {q : Str} {H H' : Hp} (l : Lam Pt pos q H) (h : Same H H') : Lam Pt pos q H' := by
  obtain ⟨ps, a, b, c⟩ := l
  refine ⟨ps, h _ _ a, b, ?_⟩
  rcases c with c | ⟨c', c, d⟩
  . exact .inl c
  . exact .inr ⟨c', c, h _ _ d⟩
section
variable {X : Cx} {pins : List (Addr × Obj)} {σ : List (Option V)} {H : Hp} {s : Shared} {h' : Heap}
end
section
variable {prog : Program} {w : World} {A : Around} {s : Shared}
end
section
variable {X : Cx} {Pt c : Addr} {e : Expr} {te : TE} {p pos kpos lpos np cp sp : Pos} {x qual : Str} {params : Arguments} {scope : Scope} {kd : Nat} {i : Int} {K : PySem.W.Frag}
end
end L2
namespace L2
open PySem
end L2
namespace L2
open PySem PySem.Spec PyProof.Rows
section
variable {X : Cx} {tg oe : Expr} {to : TE} {apos cpos : Pos}
end
def mIn (K : PySem.W.Frag) (neg : Bool) : R2 := fun x y H Q => match y with
  | .ref p => ∃ xs, (SqL K H p xs \/ SqT K H p xs) /\ flatV x = true /\ xs.all flatV = true /\ Q (.bl (neg ^^ inV x xs)) H
  | _ => False
section
variable {X : Cx} {K : PySem.W.Frag}
theorem kIn (hK : X.K = K := by rfl) : OpR X (compareOp .In) (mIn K false) := by
  subst hK
  intro pins s σ H x y v u Q I rx ry h
  cases y with
  | ref p =>
    obtain ⟨xs, h1, h2, h3, q⟩ := h
    exact op_in_seq pins s σ H x _ v u Q I rx ry ⟨p, xs, rfl, h1, h2, h3, by simpa using q⟩
  | _ => exact False.elim h
end
section
variable {X : Cx} {K : PySem.W.Frag}
end
end L2
namespace L2
theorem on1 {α : Type} {P : List α -> Prop} (h : ∀ a, P [a]) : ∀ us : List α, us.length = 1 -> P us
  | [a], _ => h a
theorem on2 {α : Type} {P : List α -> Prop} (h : ∀ a b, P [a, b]) : ∀ us : List α, us.length = 2 -> P us
  | [a, b], _ => h a b
theorem on3 {α : Type} {P : List α -> Prop} (h : ∀ a b c, P [a, b, c]) : ∀ us : List α, us.length = 3 -> P us
  | [a, b, c], _ => h a b c
theorem on4 {α : Type} {P : List α -> Prop} (h : ∀ a b c d, P [a, b, c, d]) : ∀ us : List α, us.length = 4 -> P us
  | [a, b, c, d], _ => h a b c d
open PySem in
theorem star_lst {xs es : List PySem.Expr} {p : Pos} {env : Env} : starEach (.List xs p :: es) env = (false, eval (.List xs p) env) :: starEach es env := by rfl
end L2
namespace L2
open PySem
end L2
namespace L2
open PySem PyProof.Rows
section
variable {prog : Program} {w : World} {A : Around} {E : Value -> Shared -> Prop} {s : Shared}
end
section
variable {X : Cx}
end
abbrev IsZp (h : Heap) (z TI TO : Addr) (f0 bb : Value) : Prop :=
  h.get? z = some { cls := .type "zip", dict := none, data := .fields #[f0, bb, .bool false, .ref TI, .ref TO], slots := #[] }
section
variable {prog : Program} {w : World} {A : Around} {E : Value -> Shared -> Prop} {s : Shared}
end
section
variable {prog : Program} {w : World} {A : Around} {E : Value -> Shared -> Prop} {s : Shared}
structure ZS (z TI TO i1 i2 l1 l2 T0 : Addr) (xs ys : Array Value) (i : Nat) (h : Heap) : Prop where
  zp : (i = 0 /\ IsZip h z TI TO .none) \/ (0 < i /\ (∃ b, IsZp h z TI TO (rawInt T0) b) /\ ∃ a b, IsPair h T0 a b)
  ti : IsPair h TI (.ref i1) (.ref i2)
  to : ∃ a b, IsPair h TO a b
  a1 : h.IsTupleIter i1 l1 i
  a2 : h.IsTupleIter i2 l2 i
  t1 : h.IsTuple l1 xs
  t2 : h.IsTuple l2 ys
end
section
variable {prog : Program} {w : World} {A : Around} {R : Result -> Shared -> Prop}
end
section
variable {prog : Program} {w : World} {A : Around} {R : Result -> Shared -> Prop} {s : Shared}
end
section
variable {prog : Program} {w : World} {A : Around} {E : Value -> Shared -> Prop} {s : Shared}
end
section
variable {X : Cx}
end
end L2
namespace L2
open PySem
def ins : Nat -> Nat -> Nat -> Nat
  | 0, b, q => 2 * q + b
  | i + 1, b, q => 2 * ins i b (q / 2) + q % 2
end L2
namespace L2
open PySem PyProof.Rows
theorem keys_none : typeLookup (.type "tuple") "keys" = pure none := by rw [typeLookup_type, builtinLookup_eq_fast]; kernel_rfl
section
variable {prog : Program} {w : World} {A : Around} {E : Value -> Shared -> Prop} {s : Shared}
set_option maxRecDepth 8000 in
theorem no_keys {a : Addr} {o : Obj} {xs : Array Value} {k : Nat} {Q : Option Value -> Shared -> Prop}
    (hx : s.heap.get? a = some o) (hc : o.cls = .type "tuple") (hdat : o.data = .seq xs k) (hd : o.dict = none) (hA : A.handled = none)
    (h : ∀ h' tk e, Heap.NewExcOf s.heap h' e "AttributeError" -> Q none { s with heap := h', toks := tk }) :
    wpAny (model prog w) A (getAttr? (.ref a) "keys") Q E s := by
  obtain ⟨c, dct, dat, sl⟩ := o
  simp only at hc hdat hd
  subst hc hdat hd
  obtain ⟨hp, g, d, tk, os⟩ := s
  have hT : ∀ tk', (⟨hp, g, d, tk', os⟩ : Shared).TypeIs (.ref a) "tuple" := fun _ => ⟨_, hx, rfl⟩
  have f1 := sub_AttributeError
  have f3 := F.slot_tuple_getattribute.lookup
  have f4 := F.slot_tuple_getattribute.bind (.ref a)
  have f5 := am_tuple_getattr_none
  unfold getAttr? getAttrBy? getAttrBy
  repeat (any_goals (first | assumption | exact hT _ | ((with_reducible show wpAny _ _ (call (Value.builtin "tuple.__getattribute__") _ _) _ _ _); refine call_meets F.slot_tuple_getattribute (hT _) am_entry_tuple_getattribute (F.args_tuple_getattribute_2 _ _) (meets_getattribute_miss_tuple a xs k sl "keys" _ keys_none (by decide +kernel) (by size_fits)) ⟨hx, hA, fun h' tk' e hx' => ?_⟩) | wp_step))
  obtain ⟨t', u', he⟩ := hx'.there
  show wpAny _ _ (getattributeRaised _ _ _ _ _ _ _) _ _ _
  unfold getattributeRaised
  repeat (any_goals (first | assumption | wp_step))
  exact h _ _ _ hx'.of
theorem entry_upd_loop : entryFor table "dict.update.loop" = some Builtin.«dict.update.loop» := entryFor_of_tree (by kernel_rfl)
theorem plain_upd_loop : plainId "dict.update.loop" = true := by decide +kernel
end
section
variable {prog : Program} {w : World} {K : Type} [DecidableEq K] {knd : KeyKind prog w K} {A : Around} {R : Result -> Shared -> Prop}
theorem set_pairs {E : Value -> Shared -> Prop} {s : Shared} {d : Addr} {kvs : List (K × Value)} {k : K} {key v : Value} {Q : Unit -> Shared -> Prop} (hkey : knd.is k key = true) (hm : s.heap.DictOf knd d kvs)
    (hQ : ∀ h' tk, h'.DictOf knd d (stored kvs k v) -> Heap.SameBut d s.heap h' -> Q () { s with heap := h', toks := tk }) (hsz : kvs.length <= sizeLine) :
    wpAny (model prog w) A (dictSet d key v) Q E s := by
  unfold dictSet
  refine wpAny_holding (wpAny_bind (knd.pyHash hkey ?_))
  exact wpAny_dictSetHashed_pairs (s := { s with toks := s.toks + 1 }) hkey hm (fun h' a b => hQ h' _ a b) hsz
theorem upd_loop {d it tp : Addr} {items : Array Value} {n : Nat} {res : Value} (hh : A.handled = none) (more : List (K × Value)) (c : Nat -> Addr) (ky : Nat -> Value) (hn : more.length = n) (hn1 : n <= 1000) (his : items.size = n)
    (hit0 : ∀ j, j < n -> items[j]? = some (.ref (c j))) (hmo : ∀ j, j < n -> ∃ k v, more[j]? = some (k, v) /\ knd.is k (ky j) = true) :
    ∀ (k i : Nat) (s : Shared), n - i = k -> i <= n -> s.heap.IsTupleIter it tp i -> s.heap.IsTuple tp items -> (∀ j, j < n -> ∀ kv, more[j]? = some kv -> s.heap.IsTuple (c j) #[ky j, kv.2]) -> s.heap.DictOf knd d (merged [] (more.take i)) ->
    (∀ h' tk, h'.DictOf knd d (merged [] more) -> (∀ b o, b ≠ d -> b ≠ it -> s.heap.get? b = some o -> h'.get? b = some o) -> R (.ok (.ret res)) { s with heap := h', toks := tk }) ->
    codeAny (model prog w) A (.builtin "dict.update.loop" ⟨[.ref d, .ref it, rawInt i, res], []⟩) R s := by
  have hsl : sizeLine = 2 ^ 24 := by rw [sizeLine_eq]
  intro k
  induction k with
  | zero =>
    intro i s hk hi hit ht hp hd hR
    have hin : i = n := by omega
    subst hin
    refine codeAny_builtin entry_upd_loop ?_
    rw [Around.under_plainId plain_upd_loop _]
    show wpAny _ A.in1 (pyNext (.ref it) >>= _) _ _ s
    have hdi : d ≠ it := fun e => by
      obtain ⟨o, _, _, ho, hc, _⟩ := id hd
      obtain ⟨o2, ho2, hc2, _⟩ := id hit
      rw [e, ho2] at ho
      cases ho
      have := hc.1
      rw [hc2] at this
      simp at this
    refine wpAny_bind (wpAny_pyNext_tuple_end (A := A.in1) hh hit ht (by rw [Array.getElem?_eq_none_iff]; omega) fun h' hk' => ?_)
    show wpAny _ _ (Builtin.Dict.addKeywords d [] >>= fun _ => ret res) _ _ _
    refine wpAny_bind (wpAny_pure (wpAny_pure ?_))
    have hd' : h'.DictOf knd d (merged [] (more.take i)) := Heap.DictOf.at hd fun o e => hk' _ _ hdi e
    rw [List.take_of_length_le (by omega)] at hd'
    exact hR h' s.toks hd' fun b o _ hb e => hk' b o hb e
  | succ k ih =>
    intro i s hk hi hit ht hp hd hR
    have hlt : i < n := by omega
    obtain ⟨kk, v, hmi, hkey⟩ := hmo i hlt
    refine codeAny_builtin entry_upd_loop ?_
    rw [Around.under_plainId plain_upd_loop _]
    show wpAny _ A.in1 (pyNext (.ref it) >>= _) _ _ s
    obtain ⟨od, _, _, hod, hcd, _⟩ := id hd
    have hcd1 := hcd.1
    obtain ⟨oi, hoi, hci, _⟩ := id hit
    obtain ⟨ot, hot, hct, _⟩ := id ht
    have cls : ∀ {b c : Addr} {o o' : Obj}, s.heap.get? b = some o -> s.heap.get? c = some o' -> o.cls ≠ o'.cls -> b ≠ c := fun {b c o o'} x y n q => by subst q; rw [x] at y; cases y; exact n rfl
    have hdi : d ≠ it := cls hod hoi (by rw [hcd1, hci]; simp)
    have hti : tp ≠ it := cls hot hoi (by rw [hct, hci]; simp)
    have htd : tp ≠ d := cls hot hod (by rw [hct, hcd1]; simp)
    have hci2 : ∀ j, j < n -> c j ≠ it /\ c j ≠ d := fun j hj => by
      obtain ⟨k2, v2, hm2, _⟩ := hmo j hj
      obtain ⟨o3, ho3, hc3, _⟩ := hp j hj _ hm2
      exact ⟨cls ho3 hoi (by rw [hc3, hci]; simp), cls ho3 hod (by rw [hc3, hcd1]; simp)⟩
    refine wpAny_bind (wpAny_pyNext_tuple_item (A := A.in1) hit ht (hit0 i hlt) fun h₁ hit₁ hs₁ => ?_)
    have hp1 : ∀ j, j < n -> ∀ kv, more[j]? = some kv -> h₁.IsTuple (c j) #[ky j, kv.2] := fun j hj kv hkv => (hp j hj kv hkv).extBut hs₁.extBut (hci2 j hj).1
    have hd1 : h₁.DictOf knd d (merged [] (more.take i)) := hd.sameBut hs₁ hdi
    have ht1 : h₁.IsTuple tp items := ht.extBut hs₁.extBut hti
    obtain ⟨oc, hoc, hcc, nc, hdc⟩ := id (hp1 i hlt _ hmi)
    show wpAny _ A.in1 (holding [Value.ref (c i)] _ >>= _) _ _ _
    refine wpAny_bind (wpAny_holding ?_)
    refine wpAny_bind (wpAny_tryCatch ?_)
    unfold Builtin.Dict.pairItems
    refine wpAny_bind (wpAny_typeOf (T := "tuple") ⟨oc, hoc, hcc⟩ ?_)
    have e1 : (Value.type "tuple" == Value.type "list" || Value.type "tuple" == Value.type "tuple") = true := by decide
    rw [if_pos e1]
    refine wpAny_bind (wpAny_seqItems hoc hdc (wpAny_pure ?_))
    show wpAny _ A.in1 (holding [ky i, v] (dictSet d (ky i) v)) _ _ _
    refine wpAny_holding (set_pairs hkey hd1 (fun h₂ tk hd₂ hs₂ => ?_) ?_)
    . refine wpAny_pure ⟨plainId_quiet plain_upd_loop _, ?_⟩
      have hI2 : h₂.IsTupleIter it tp (i + 1) := hit₁.extBut hs₂.extBut (Ne.symm hdi)
      have hd₂' : h₂.DictOf knd d (merged [] (more.take (i + 1))) := by
        rw [merged_take_succ [] more i (kk, v) hmi]
        exact hd₂
      have := ih (i + 1) { s with heap := h₂, toks := tk } (by omega) hlt hI2 (ht1.extBut hs₂.extBut htd) (fun j hj kv hkv => (hp1 j hj kv hkv).extBut hs₂.extBut (hci2 j hj).2) hd₂' fun h' tk' a1 a2 => hR h' tk' a1 fun b o b1 b2 e => a2 b o b1 b2 (hs₂.extBut _ _ b1 (hs₁.extBut _ _ b2 e))
      exact this
    . have := merged_length_le [] (more.take i)
      rw [List.length_take] at this
      simp only [List.length_nil] at this
      omega
end
section
variable {prog : Program} {w : World} {K : Type} [DecidableEq K] {knd : KeyKind prog w K} {A : Around} {E : Value -> Shared -> Prop} {s : Shared}
theorem call_dict_pairs {tp : Addr} {o : Obj} {items : Array Value} {k0 n : Nat} {Q : Value -> Shared -> Prop} (hh : A.handled = none) (more : List (K × Value)) (c : Nat -> Addr) (ky : Nat -> Value) (hn : more.length = n) (hn1 : n <= 1000) (his : items.size = n)
    (hit0 : ∀ j, j < n -> items[j]? = some (.ref (c j))) (hmo : ∀ j, j < n -> ∃ k v, more[j]? = some (k, v) /\ knd.is k (ky j) = true)
    (hx : s.heap.get? tp = some o) (hc : o.cls = .type "tuple") (hdat : o.data = .seq items k0) (hd : o.dict = none) (hp : ∀ j, j < n -> ∀ kv, more[j]? = some kv -> s.heap.IsTuple (c j) #[ky j, kv.2]) (hnd : (more.map (·.1)).Nodup)
    (h : ∀ h' tk, h'.DictOf knd s.heap.objs.size more -> (∀ b o, s.heap.get? b = some o -> h'.get? b = some o) -> Q (.ref s.heap.objs.size) { s with heap := h', toks := tk }) :
    wpAny (model prog w) A (call (.type "dict") [.ref tp]) Q E s := by
  refine callType_codes (Q₁ := fun obj s₁ => obj = .ref s.heap.objs.size /\ s₁ = { s with heap := s.heap.push { cls := .type "dict", data := .dict #[] } }) F.kt_called_dict (F.kt_typeCall_dict_1 _) F.entry_dict_init (kt_code_dict_new _ ⟨rfl, rfl⟩) ?_
  rintro obj s₁ ⟨rfl, rfl⟩
  have hnew : (s.heap.push { cls := .type "dict", data := .dict #[] }).DictOf knd s.heap.objs.size [] := Heap.DictOf.new s.heap
  have hx1 : (s.heap.push { cls := .type "dict", data := .dict #[] }).get? tp = some o := Heap.get?_push_of_some _ hx
  refine ⟨hnew.typeIs, F.args_dict_init_2 _ _, ?_⟩
  unfold Builtin.«dict.__init__»
  refine wpAny_bind ?_
  unfold Builtin.Dict.selfAndRest
  refine wpAny_bind (wpAny_notOrdered_dict hnew.typeIs ?_)
  show wpAny _ _ (pure (s.heap.objs.size, [Value.ref tp])) _ _ _
  refine wpAny_pure ?_
  show wpAny _ _ (Builtin.Dict.updateFrom "dict.__init__" s.heap.objs.size (.ref tp) [] .none) _ _ _
  unfold Builtin.Dict.updateFrom
  refine wpAny_bind (wpAny_typeOf (T := "tuple") ⟨o, hx1, hc⟩ ?_)
  rw [if_pos (by decide)]
  refine wpAny_bind (no_keys (A := A.in1.in1) hx1 hc hdat hd hh fun h₁ tk₁ e he => ?_)
  simp only [Option.isNone_none, if_true]
  refine wpAny_bind (wpAny_rule ?_)
  have ht1 : h₁.IsTuple tp items := ⟨o, he.keeps _ _ hx1, hc, k0, hdat⟩
  have keep1 : ∀ b o, s.heap.get? b = some o -> h₁.get? b = some o := fun b o q => he.keeps _ _ (Heap.get?_push_of_some _ q)
  refine wpAny_bind (wpAny_pyIter_tuple (s := { s with heap := h₁, toks := tk₁ }) ht1 ?_)
  have up : ∀ b o, h₁.get? b = some o -> (h₁.push { cls := .type "tuple_iterator", data := .fields #[.ref tp, .int 0 0] }).get? b = some o := fun b o q => Heap.get?_push_of_some _ q
  refine wpAny_pure ⟨plainId_quiet plain_upd_loop _, upd_loop (A := A.in1) (knd := knd) hh more c ky hn hn1 his hit0 hmo n 0 _ (Nat.sub_zero _) (Nat.zero_le _) ⟨_, Heap.get?_push_size _ rfl, rfl, rfl⟩ ⟨o, up _ _ (he.keeps _ _ hx1), hc, k0, hdat⟩ (fun j hj kv hkv => ?_) ?_ fun h' tk a1 a2 => ?_⟩
  . obtain ⟨o2, e2, r2⟩ := hp j hj kv hkv
    exact ⟨o2, up _ _ (keep1 _ _ e2), r2⟩
  . exact Heap.DictOf.at hnew fun o q => up _ _ (he.keeps _ _ q)
  . rw [merged_nil_of_nodup more hnd] at a1
    refine ⟨rfl, h h' tk a1 fun b o q => a2 b o (Nat.ne_of_lt (Heap.lt_size q)) (Nat.ne_of_lt (Heap.lt_size (keep1 _ _ q))) (up _ _ (keep1 _ _ q))⟩
end
section
variable {X : Cx}
def mDict (K : PySem.W.Frag) : List V -> Hp -> VK -> Prop := fun xs H Q => match xs with
  | [.ref p] => ∃ (us : List V) (kvs : List (Int × Int)), SqT K H p us /\ us.length = kvs.length /\ kvs.length <= 1000 /\ (∀ (j : Nat) kv, kvs[j]? = some kv -> ∃ c, us[j]? = some (.ref c) /\ SqT K H c [.int kv.1, .int kv.2]) /\ (kvs.map (·.1)).Nodup /\
      ∀ d, H d = none -> Q (.ref d) (upd H d (.dK (kvs.map fun kv => (Sum.inl kv.1, V.int kv.2))))
  | _ => False
theorem cm_dict (hc : X.calm = true) : CallR X (.type "dict") (mDict X.K) := by
  intro pins s σ H xs us Q I r q
  match xs, q with
  | [.ref p], ⟨ts, kvs, hp, hl, h1000, hkv, hnd, q⟩ =>
  cases r with
  | cons r rr =>
  cases rr
  cases r
  obtain ⟨its, rv, ⟨o, ho, hcl, ⟨n0, hdat⟩, hdn⟩, _⟩ := I.tupleN hp
  have e1 := rv.length
  -- the pairs as they stand
  have pr : ∀ j, j < kvs.length -> ∃ c t1 t2, its[j]? = some (Value.ref c) /\ s.heap.IsTuple c #[.int (kvs.getD j (0, 0)).1 t1, .int (kvs.getD j (0, 0)).2 t2] := fun j hj => by
    have hg : kvs[j]? = some (kvs.getD j (0, 0)) := by simp [List.getD_eq_getElem?_getD, hj]
    obtain ⟨c, hc1, hc2⟩ := hkv j _ hg
    obtain ⟨u, hu, ru⟩ := rv.get hc1
    cases ru
    obtain ⟨its2, rv2, p2, _⟩ := I.tuple hc2
    cases rv2 with
    | cons a1 a2 =>
    cases a2 with
    | cons a3 a4 =>
    cases a4
    obtain ⟨t1, rfl⟩ := a1
    obtain ⟨t2, rfl⟩ := a3
    exact ⟨c, t1, t2, hu, p2⟩
  have cf : ∃ (c : Nat -> Addr) (t1 t2 : Nat -> Tok), ∀ j, j < kvs.length -> its[j]? = some (Value.ref (c j)) /\ s.heap.IsTuple (c j) #[.int (kvs.getD j (0, 0)).1 (t1 j), .int (kvs.getD j (0, 0)).2 (t2 j)] := by
    have pr' : ∀ j, ∃ c t1 t2, j < kvs.length -> its[j]? = some (Value.ref c) /\ s.heap.IsTuple c #[.int (kvs.getD j (0, 0)).1 t1, .int (kvs.getD j (0, 0)).2 t2] := fun j => by
      by_cases hj : j < kvs.length
      . obtain ⟨c, t1, t2, h⟩ := pr j hj
        exact ⟨c, t1, t2, fun _ => h⟩
      . exact ⟨0, 0, 0, fun z => absurd z hj⟩
    exact ⟨fun j => (pr' j).choose, fun j => (pr' j).choose_spec.choose, fun j => (pr' j).choose_spec.choose_spec.choose, fun j hj => (pr' j).choose_spec.choose_spec.choose_spec hj⟩
  obtain ⟨c, t1, t2, hcf⟩ := cf
  let more : List (Key × Value) := (List.range kvs.length).map fun j => (Sum.inl (kvs.getD j (0, 0)).1, Value.int (kvs.getD j (0, 0)).2 (t2 j))
  have hml : more.length = kvs.length := by simp [more]
  have hmg : ∀ j, j < kvs.length -> more[j]? = some (Sum.inl (kvs.getD j (0, 0)).1, Value.int (kvs.getD j (0, 0)).2 (t2 j)) := fun j hj => by simp [more, hj]
  have hrng : (List.range kvs.length).map (fun j => kvs.getD j (0, 0)) = kvs := by
    refine List.ext_getElem? fun j => ?_
    rw [List.getElem?_map]
    by_cases hj : j < kvs.length
    . rw [List.getElem?_range hj]; simp [List.getD_eq_getElem?_getD, hj]
    . rw [List.getElem?_eq_none (by simp; omega), List.getElem?_eq_none (by omega)]; rfl
  have hmk : more.map (·.1) = (kvs.map (·.1)).map Sum.inl := by
    have : more.map (·.1) = ((List.range kvs.length).map (fun j => kvs.getD j (0, 0))).map (fun kv => (Sum.inl kv.1 : Key)) := by simp [more]
    rw [this, hrng, List.map_map]
    rfl
  have hrel : ∀ m, KV (((List.range m).map fun j => kvs.getD j (0, 0)).map fun kv => ((Sum.inl kv.1 : Key), V.int kv.2)) ((List.range m).map fun j => ((Sum.inl (kvs.getD j (0, 0)).1 : Key), Value.int (kvs.getD j (0, 0)).2 (t2 j))) := fun m => by
    rw [List.map_map]
    generalize List.range m = L
    induction L with
    | nil => exact .nil
    | cons j L ih => exact .cons ⟨rfl, ⟨_, rfl⟩⟩ ih
  refine call_dict_pairs (knd := mixKind X.prog X.w) (n := kvs.length) (I.ok.hd hc) more c (fun j => .int (kvs.getD j (0, 0)).1 (t1 j)) hml h1000 (by simp; omega) (fun j hj => by have := (hcf j hj).1; simpa using this) (fun j hj => ⟨_, _, hmg j hj, mixKind_int _ _ _ _⟩) ho hcl hdat hdn (fun j hj kv hkv2 => ?_) ?_ fun h' tk a1 a2 => ?_
  . rw [hmg j hj] at hkv2
    cases hkv2
    exact (hcf j hj).2
  . rw [hmk]
    have nd : ∀ l : List Int, l.Nodup -> (l.map (Sum.inl : Int -> Key)).Nodup := fun l => by
      induction l with
      | nil => intro _; exact List.nodup_nil
      | cons x l ih =>
        intro h
        rw [List.nodup_cons] at h
        rw [List.map_cons, List.nodup_cons]
        refine ⟨fun hm => ?_, ih h.2⟩
        obtain ⟨y, hy, e⟩ := List.mem_map.mp hm
        have : y = x := by simpa using e
        exact h.1 (this ▸ hy)
    exact nd _ hnd
  . refine ⟨.ref s.heap.objs.size, _, I.laid (t' := tk) (o := .dK (kvs.map fun kv => (Sum.inl kv.1, V.int kv.2))) a2 (Nat.le_refl _) ?_, rfl, q _ (I.hok.fresh (Nat.le_refl _))⟩
    refine ⟨by rw [List.length_map]; exact small_le h1000, beq_eq_false_iff_ne.mpr (Ne.symm (Nat.ne_of_lt I.big)), more, ?_, a1⟩
    have := hrel kvs.length
    rw [hrng] at this
    exact this
theorem kDict {K : PySem.W.Frag} (hc : X.calm = true) (hK : X.K = K := by rfl) : CallR X (.type "dict") (mDict K) := hK ▸ cm_dict hc
theorem cm_dict_ {K : PySem.W.Frag} : CMono (mDict K) := fun xs H Q Q' h q => by
  unfold mDict at *
  split at q
  . obtain ⟨us, kvs, h1, h2, h3, h4, h5, q⟩ := q; exact ⟨us, kvs, h1, h2, h3, h4, h5, fun d hd => h _ _ (q d hd)⟩
  . exact q.elim
end
section
variable {prog : Program} {w : World} {A : Around} {E : Value -> Shared -> Prop} {s : Shared}
end
section
variable {prog : Program} {w : World} {A : Around} {E : Value -> Shared -> Prop} {s : Shared}
end
section
variable {prog : Program} {w : World} {K : Type} [DecidableEq K] {knd : KeyKind prog w K} {A : Around} {R : Result -> Shared -> Prop}
end
section
variable {prog : Program} {w : World} {K : Type} [DecidableEq K] {knd : KeyKind prog w K} {A : Around} {E : Value -> Shared -> Prop} {s : Shared}
end
section
variable {X : Cx}
end
theorem noFill_tuple_mul : fillsNumberSlot (.type "tuple") "mul" = pure false :=
  PySem.fillsNumberSlot_seq (id := "tuple.__mul__") (r := some (.builtin "tuple.__rmul__")) F.slot_tuple_mul.lookup (by decide +kernel) F.slot_tuple_rmul.lookup (by decide +kernel)
theorem repeat_tuple : seqRepeat? (.type "tuple") = pure (some (.builtin "tuple.__mul__")) := by
  unfold seqRepeat?
  rw [PySem.seqSlot_of (T := "tuple") (name := "__mul__") (id := "tuple.__mul__") F.slot_tuple_mul.lookup (by decide +kernel), PySem.seqSlot_of (T := "tuple") (name := "__rmul__") (id := "tuple.__rmul__") F.slot_tuple_rmul.lookup (by decide +kernel)]
  rfl
theorem int_rmul_tup (a : Int) (t : Tok) (l : Addr) (items : Array Value) (n : Nat) (sl : Array (Option Value)) :
    Meets (Builtin.«int.__rmul__» ⟨[.int a t, .ref l], []⟩) (fun _ R s => s.heap.get? l = some { cls := .type "tuple", dict := none, data := .seq items n, slots := sl } /\ R (.ok (.ret Value.notImplemented)) s) :=
  .of_wp fun prog w A R s h => by obtain ⟨hp, g, d, tk, os⟩ := s; obtain ⟨hl, h⟩ := h; wp_walk; exact ⟨_, rfl, h⟩
theorem tup_mul (l : Addr) (items : Array Value) (n : Nat) (sl : Array (Option Value)) (x : Int) (u : Tok) (h0 : items.isEmpty = false) (h1 : 2 <= x) (h2 : x < 2 ^ 63) (h3 : items.size * x.toNat <= sizeLine) :
    Meets (Builtin.«tuple.__mul__» ⟨[.ref l, .int x u], []⟩) (fun _ R s => s.heap.get? l = some { cls := .type "tuple", dict := none, data := .seq items n, slots := sl } /\ R (.ok (.ret (Value.ref s.heap.objs.size))) { s with heap := s.heap.push { cls := Value.type "tuple", data := Data.seq (List.foldl (fun x1 x2 => x1 ++ x2) #[] (List.replicate x.toNat items)) }, toks := s.toks }) :=
  .of_wp fun prog w A R s h => by
    obtain ⟨hp, g, d, tk, os⟩ := s; obtain ⟨hl, h⟩ := h
    have hx : ((x.toNat : Nat) : Int) = x := Int.toNat_of_nonneg (by omega)
    have hm : (items.size : Int) * x = ((items.size * x.toNat : Nat) : Int) := by rw [Int.natCast_mul, hx]
    have hs : (items.size : Int) * x <= (sizeLine : Int) := by rw [hm]; exact Int.ofNat_le.mpr h3
    have hl8 : (sizeLine : Int) <= (2 ^ 63 - 1) / 8 := by decide
    have hsz : (List.foldl (fun x1 x2 => x1 ++ x2) #[] (List.replicate x.toNat items)).size <= sizeLine := by
      rw [AutoListH.size_joined]; simp only [Array.size_empty]; rw [Nat.mul_comm] at h3; omega
    have c1 : (decide (x < -(2 ^ 63)) || decide (x ≥ 2 ^ 63)) = false := by simp; omega
    have c2 : (items.isEmpty || x == 1) = false := by rw [h0]; simp; omega
    have c3 : (decide (x <= 0) || items.isEmpty) = false := by rw [h0]; simp; omega
    have c4 : ¬ ((items.size : Int) * x > (2 ^ 63 - 1) / 8) := by omega
    have c5 : Builtin.Tuple.tupleTooMany ((items.size : Int) * x) = false := by unfold Builtin.Tuple.tupleTooMany; simp; exact hs
    wp_walk
    refine wpAny_ite_false (decide_eq_false (by rw [c1]; exact Bool.false_ne_true)) ?_
    wp_walk
    refine wpAny_ite_false (decide_eq_false (by rw [c2]; exact Bool.false_ne_true)) ?_
    wp_walk
    refine wpAny_ite_false (decide_eq_false (by rw [c3]; exact Bool.false_ne_true)) ?_
    refine wpAny_ite_false (decide_eq_false c4) ?_
    refine wpAny_ite_false (decide_eq_false (by rw [c5]; exact Bool.false_ne_true)) ?_
    clear c1 c2 c3 c4 c5 hs hm hx hl8
    wp_walk
    exact ⟨_, rfl, h⟩
theorem foldl_rep' (its : List Value) (k : Nat) : List.foldl (fun x1 x2 => x1 ++ x2) #[] (List.replicate k its.toArray) = (List.replicate k its).flatten.toArray := by
  have := foldl_rep its k []
  rw [List.nil_append] at this
  exact this
section
variable {X : Cx}
def rRepT (K : PySem.W.Frag) : R2 := fun x y H Q => ∃ a k xs, x = .ref a /\ y = .int k /\ SqT K H a xs /\ xs ≠ [] /\ 2 <= k /\ k < 2 ^ 63 /\ xs.length * k.toNat <= sizeLine /\
  ∀ p, H p = none -> Q (.ref p) (upd H p (.tup (List.replicate k.toNat xs).flatten))
theorem op_repT : OpR X (binaryOp .Mult) (rRepT X.K) := by
  intro pins s σ H x y v u Q I rx ry h
  obtain ⟨l, k, xs, rfl, rfl, hH, hx, h1, h2, hz, q⟩ := h
  cases rx
  obtain ⟨t, rfl⟩ := ry
  obtain ⟨its, r, ⟨o, e, hc, ⟨n, hd⟩, hn⟩, _⟩ := I.tupleN hH
  obtain ⟨c, dd, da, sl⟩ := o
  cases hc
  cases hd
  cases hn
  have h0 : its.toArray.isEmpty = false := by
    cases its with
    | nil => exact absurd (r.nil_iff.mp rfl) hx
    | cons _ _ => rfl
  have hlen : its.toArray.size * k.toNat <= sizeLine := by rw [List.size_toArray, <- r.length]; exact hz
  refine wpAny_binaryOp_repeat_ref (T := "tuple") (U := "int") (by decide) ⟨_, e, rfl⟩ (fun s' => typeIs_int s' k t) noFill_tuple_mul F.fills_int_mul F.slot_int_rmul repeat_tuple F.slot_int_index.lookup
    (call_meets F.slot_int_rmul (typeIs_int s k t) F.entry_int_rmul (F.args_int_rmul_2 _ _) (int_rmul_tup k t l its.toArray n sl)
      ⟨e, rfl, ⟨_, e, rfl⟩, call_meets F.slot_tuple_mul ⟨_, e, rfl⟩ F.entry_tuple_mul (F.args_tuple_mul_2 _ _) (tup_mul l its.toArray n sl k t h0 h1 h2 hlen) ⟨e, ?_⟩⟩)
  rw [foldl_rep']
  refine ⟨.ref s.heap.objs.size, _, I.laid (t' := s.toks) (o := .tup (List.replicate k.toNat xs).flatten) (fun b ob q => Heap.get?_push_of_some _ q) (Nat.le_refl _) ?_, rfl, q _ (I.hok.fresh (Nat.le_refl _))⟩
  exact ⟨by rw [len_rep, Nat.mul_comm]; exact hz, _, r.rep k.toNat, IsTupN.new _ _⟩
end
section
variable {X : Cx} {K : PySem.W.Frag}
end
section
variable {X : Cx} {K : PySem.W.Frag} {o e e2 : Expr} {to : TE} {t : TA} {apos cpos : Pos}
end
end L2
namespace L2
open PySem PySem.Spec PyProof.Rows
section
variable {X : Cx} {K : PySem.W.Frag}
end
end L2
namespace L2
open PySem PyProof.Rows
section
variable {X : Cx}
end
theorem tup_mul1 (l : Addr) (items : Array Value) (n : Nat) (sl : Array (Option Value)) (x : Int) (hx : x = 1) (u : Tok) :
    Meets (Builtin.«tuple.__mul__» ⟨[.ref l, .int x u], []⟩) (fun _ R s => s.heap.get? l = some { cls := .type "tuple", dict := none, data := .seq items n, slots := sl } /\ R (.ok (.ret (Value.ref l))) s) :=
  .of_wp fun prog w A R s h => by
    obtain ⟨hp, g, d, tk, os⟩ := s; obtain ⟨hl, h⟩ := h
    have c1 : (decide (x < -(2 ^ 63)) || decide (x ≥ 2 ^ 63)) = false := by rw [hx]; decide
    have c2 : (items.isEmpty || x == 1) = true := by rw [hx]; simp
    clear hx
    wp_walk
    refine wpAny_ite_false (decide_eq_false (by rw [c1]; exact Bool.false_ne_true)) ?_
    wp_walk
    exact ⟨_, rfl, h⟩
theorem tup_mul0 (l : Addr) (items : Array Value) (n : Nat) (sl : Array (Option Value)) (x : Int) (hx : x = 0) (u : Tok) (h0 : items.isEmpty = false) :
    Meets (Builtin.«tuple.__mul__» ⟨[.ref l, .int x u], []⟩) (fun _ R s => s.heap.get? l = some { cls := .type "tuple", dict := none, data := .seq items n, slots := sl } /\ R (.ok (.ret (Value.ref s.heap.objs.size))) { s with heap := s.heap.push { cls := Value.type "tuple", data := Data.seq #[] }, toks := s.toks }) :=
  .of_wp fun prog w A R s h => by
    obtain ⟨hp, g, d, tk, os⟩ := s; obtain ⟨hl, h⟩ := h
    have c1 : (decide (x < -(2 ^ 63)) || decide (x ≥ 2 ^ 63)) = false := by rw [hx]; decide
    have c2 : (items.isEmpty || x == 1) = false := by rw [h0, hx]; rfl
    have c3 : (decide (x <= 0) || items.isEmpty) = true := by rw [h0, hx]; rfl
    clear hx
    wp_walk
    refine wpAny_ite_false (decide_eq_false (by rw [c1]; exact Bool.false_ne_true)) ?_
    wp_walk
    refine wpAny_ite_false (decide_eq_false (by rw [c2]; exact Bool.false_ne_true)) ?_
    wp_walk
    refine wpAny_ite_true (decide_eq_true c3) ?_
    wp_walk
    exact ⟨_, rfl, h⟩
section
variable {X : Cx}
def mMulN (K : PySem.W.Frag) : R2 := fun x y H Q => match x, y with
  | .ref a, .int k => ∃ xs, SqT K H a xs /\ xs ≠ [] /\ 0 <= k /\ k < 2 ^ 63 /\ xs.length * k.toNat <= sizeLine /\ (k = 1 -> Q (.ref a) H) /\ (k ≠ 1 -> ∀ p, H p = none -> Q (.ref p) (upd H p (.tup (List.replicate k.toNat xs).flatten)))
  | _, _ => False
theorem om_mulN : OpR X (binaryOp .Mult) (mMulN X.K) := by
  intro pins s σ H x y v u Q I rx ry h
  cases x <;> first | exact False.elim h | skip
  cases y <;> first | exact False.elim h | skip
  rename_i l k
  obtain ⟨xs, hH, hx, h1, h2, hz, q1, q2⟩ := h
  by_cases hk : 2 <= k
  . exact op_repT pins s σ H _ _ v u Q I rx ry ⟨l, k, xs, rfl, rfl, hH, hx, hk, h2, hz, q2 (by omega)⟩
  cases rx
  obtain ⟨t, rfl⟩ := ry
  obtain ⟨its, r, ⟨o, e, hc, ⟨n, hd⟩, hn⟩, _⟩ := I.tupleN hH
  obtain ⟨c, dd, da, sl⟩ := o
  cases hc
  cases hd
  cases hn
  have h0 : its.toArray.isEmpty = false := by
    cases its with
    | nil => exact absurd (r.nil_iff.mp rfl) hx
    | cons _ _ => rfl
  have : k = 0 \/ k = 1 := by omega
  rcases this with rfl | rfl
  . refine wpAny_binaryOp_repeat_ref (T := "tuple") (U := "int") (by decide) ⟨_, e, rfl⟩ (fun s' => typeIs_int s' 0 t) noFill_tuple_mul F.fills_int_mul F.slot_int_rmul repeat_tuple F.slot_int_index.lookup
      (call_meets F.slot_int_rmul (typeIs_int s 0 t) F.entry_int_rmul (F.args_int_rmul_2 _ _) (int_rmul_tup 0 t l its.toArray n sl)
        ⟨e, rfl, ⟨_, e, rfl⟩, call_meets F.slot_tuple_mul ⟨_, e, rfl⟩ F.entry_tuple_mul (F.args_tuple_mul_2 _ _) (tup_mul0 l its.toArray n sl 0 rfl t h0) ⟨e, ?_⟩⟩)
    refine ⟨.ref s.heap.objs.size, _, I.laid (t' := s.toks) (o := .tup []) (fun b ob q => Heap.get?_push_of_some _ q) (Nat.le_refl _) ?_, rfl, q2 (by decide) _ (I.hok.fresh (Nat.le_refl _))⟩
    exact ⟨Nat.zero_le _, [], .nil, IsTupN.new _ _⟩
  . refine wpAny_binaryOp_repeat_ref (T := "tuple") (U := "int") (by decide) ⟨_, e, rfl⟩ (fun s' => typeIs_int s' 1 t) noFill_tuple_mul F.fills_int_mul F.slot_int_rmul repeat_tuple F.slot_int_index.lookup
      (call_meets F.slot_int_rmul (typeIs_int s 1 t) F.entry_int_rmul (F.args_int_rmul_2 _ _) (int_rmul_tup 1 t l its.toArray n sl)
        ⟨e, rfl, ⟨_, e, rfl⟩, call_meets F.slot_tuple_mul ⟨_, e, rfl⟩ F.entry_tuple_mul (F.args_tuple_mul_2 _ _) (tup_mul1 l its.toArray n sl 1 rfl t) ⟨e, ?_⟩⟩)
    exact ⟨.ref l, H, I, rfl, q1 rfl⟩
theorem kMulN {K : PySem.W.Frag} (hK : X.K = K := by rfl) : OpR X (binaryOp .Mult) (mMulN K) := hK ▸ om_mulN
theorem rm_mulN {K : PySem.W.Frag} : RMono (mMulN K) := fun x y H Q Q' m q => by
  unfold mMulN at *
  split at q
  . obtain ⟨xs, e1, e2, e3, e4, e5, q1, q2⟩ := q
    exact ⟨xs, e1, e2, e3, e4, e5, fun e => m _ _ (q1 e), fun e p hp => m _ _ (q2 e p hp)⟩
  . exact q.elim
end
section
variable {X : Cx} {K : PySem.W.Frag}
end
end L2
namespace HT
open PySem PyProof.Rows
section
variable {prog : Program} {w : World} {A : Around} {E : Value -> Shared -> Prop} {s : Shared}
end
end HT
namespace L2
open PySem PySem.Spec PyProof.Rows
section
variable {X : Cx} {K : PySem.W.Frag} {e sx : Expr} {te ts : TE} {lo hi : Option Expr} {tl th : TO} {pos p2 : Pos}
end
end L2
namespace HT
open PySem PyProof.Rows
section
variable {prog : Program} {w : World} {A : Around} {E : Value -> Shared -> Prop} {s : Shared}
end
end HT
namespace L2
open PySem PySem.Spec PyProof.Rows
section
variable {X : Cx} {K : PySem.W.Frag}
end
section
variable {X : Cx} {K : PySem.W.Frag}
end
section
variable {X : Cx} {K : PySem.W.Frag} {e sx : Expr} {te ts : TE} {lo hi : Option Expr} {tl th : TO} {pos p2 : Pos}
end
abbrev BV := List (List Bool × Addr × V)
abbrev BVr : BV -> List (List Bool × Addr × Value) -> Prop := Paired fun p q => p.1 = q.1 /\ p.2.1 = q.2.1 /\ RelV p.2.2 q.2.2
def dV (P : Program) (w : World) (a : Addr) (kvs : BV) : HO := .ext fun h => ∃ xs o es ep, BVr kvs xs /\ h.get? a = some o /\ o.ExactDict /\ o.data = .dict es ep /\ es.toList = xs.map (entryOfKey (tupleKind (boolKind P w))) /\ (xs.map (·.1)).Nodup /\ xs.length <= sizeLine /\ (a == sysModules) = false
def KeysV (H : Hp) (kvs : BV) : Prop := ∀ q ∈ kvs, H q.2.1 = some (.tup (q.1.map V.bl))
section
variable {P : Program} {w : World} {H : Hp} {h : Heap} {a : Addr}
end
theorem KeysV.same {H H' : Hp} {kvs : BV} (h : KeysV H kvs) (s : ∀ b ys, H b = some (.tup ys) -> H' b = some (.tup ys)) : KeysV H' kvs := fun q hq => s _ _ (h q hq)
theorem KeysV.upd {P : Program} {w : World} {H : Hp} {kvs k1 : BV} {a : Addr} {o : HO} (h : KeysV H kvs) (e : H a = some (dV P w a k1)) : KeysV (upd H a o) kvs := fun q hq => by
  have := h q hq
  rw [upd_ne (fun z => by rw [z, e] at this; exact nomatch Option.some.inj this)]
  exact this
section
variable {X : Cx} {o i e f value : Expr} {pos pos' tpos apos cpos : Pos} {td ty tx tv : TE}
end
section
variable {X : Cx} {P : Program} {w : World} {o i e f : Expr} {pos apos cpos : Pos} {td ty tx : TE}
end
section
variable {prog : Program} {w : World} {A : Around} {E : Value -> Shared -> Prop} {s : Shared} {d it : Addr} {o : Obj} {es : Array DictEntry} {ep i : Nat}
end
section
variable {X : Cx} {pins : List (Addr × Obj)} {σ : St} {H : Hp} {s : Shared}
theorem BVr.get {kvs : BV} {xs : List (List Bool × Addr × Value)} (r : BVr kvs xs) : ∀ {i : Nat} {q : List Bool × Addr × V}, kvs[i]? = some q -> ∃ x, xs[i]? = some x /\ x.2.1 = q.2.1 := by
  induction r with
  | nil => intro i q e; simp at e
  | @cons a b l1 l2 h t ih =>
    intro i q e
    cases i with
    | zero =>
      simp at e; subst e
      exact ⟨b, by simp, h.2.1.symm⟩
    | succ i =>
      obtain ⟨v, h1, h2⟩ := ih (i := i) (q := q) (by simpa using e)
      exact ⟨v, by simpa using h1, h2⟩
end
def rEqK : R2 := fun x y H Q => match x, y with
  | .ref a, .ref b => ∃ ka kb : List (Key × V), H a = some (.dK ka) /\ H b = some (.dK kb) /\ ka.length = kb.length /\ (∀ q ∈ ka, ∃ i : Int, q.2 = .int i /\ valV kb q.1 = some (.int i)) /\ Q (.bl true) H
  | _, _ => False
theorem hits_of {A : Around} {s : Shared} {kb : List (Key × V)} {vb : List (Key × Value)} (rb : KV kb vb) : ∀ {ka : List (Key × V)} {va : List (Key × Value)}, KV ka va -> (∀ q ∈ ka, ∃ i : Int, q.2 = .int i /\ valV kb q.1 = some (.int i)) -> PySem.W.KeqHits A s vb va true
  | _, _, .nil, _ => .nil
  | q :: ka, (k, v) :: va, .cons r t, h => by
    obtain ⟨i, h1, h2⟩ := h q List.mem_cons_self
    have h3 := r.2
    rw [h1] at h3
    obtain ⟨tk, e3⟩ := h3
    have e1 : q.1 = k := r.1
    rw [e1] at h2
    have h4 := rb.val k
    rw [h2] at h4
    cases hy : valueAt vb k with
    | none => rw [hy] at h4; exact h4.elim
    | some y =>
      rw [hy] at h4
      obtain ⟨tu, e4⟩ := (show RelV (.int i) y from h4)
      have e3 : v = .int i tk := e3
      subst e3 e4
      have := PySem.W.KeqHits.hit (A := A) (s := s) hy (SeqAt.EqAt.int_int i tk i tu) (hits_of rb t fun q hq => h q (List.mem_cons_of_mem _ hq))
      simpa using this
section
variable {X : Cx} {K : PySem.W.Frag}
theorem om_eqK (hu : X.A.units + 60 < cLine) : OpR X (compareOp .Eq) rEqK := by
  intro pins s σ H x y v u Q I rx ry h
  cases x <;> first | exact False.elim h | skip
  cases y <;> first | exact False.elim h | skip
  rename_i a b
  obtain ⟨ka, kb, ha, hb, hl, hk, q⟩ := h
  cases rx
  cases ry
  obtain ⟨_, na, va, ra, da⟩ := dk_of I.hok ha
  obtain ⟨_, nb, vb, rb, db⟩ := dk_of I.hok hb
  have e1 := ra.length
  have e2 := rb.length
  refine PySem.W.keq_eq (r := true) na nb da db (by omega) (fun _ => hits_of rb ra hk) ?_
  have e : (va.length == vb.length && true) = true := by rw [<- e1, <- e2, hl]; simp
  rw [e]
  exact ⟨.bl true, H, I, rfl, q⟩
theorem kEqK (hu : X.A.units + 60 < cLine) : OpR X (compareOp .Eq) rEqK := om_eqK hu
end
end L2
namespace Mine
open PySem L2
def top (i : Nat) : Stmt := PySem.Challenge.pw_flips_k93_whole_side_by_side.main.body.getD i (.Pass ⟨0, 0, 0, 0⟩)
abbrev s_two_to : Stmt := top 1
abbrev s_power_of : Stmt := top 2
abbrev s_switches_of : Stmt := top 4
abbrev s_sign : Stmt := top 5
abbrev s_many_in : Stmt := top 6
abbrev s_share_of : Stmt := top 8
abbrev s_common_divisor : Stmt := top 9
abbrev s_matters : Stmt := top 11
abbrev s_odd_squares : Stmt := top 12
abbrev s_is_odd_with : Stmt := top 13
abbrev s_levels : Stmt := top 14
abbrev s_squares_by_level : Stmt := top 15
abbrev s_over_all : Stmt := top 16
abbrev s_stays : Stmt := top 18
abbrev s_stays_by : Stmt := top 19
abbrev s_sum_of : Stmt := top 21
abbrev s_weights_of : Stmt := top 22
abbrev s_sum_from : Stmt := top 23
abbrev s_times_signs : Stmt := top 24
abbrev s_crossed : Stmt := top 25
abbrev s_times : Stmt := top 27
abbrev s_met : Stmt := top 28
abbrev s_odd : Stmt := top 30
abbrev s__law_tape : Stmt := top 32
abbrev s__law_next : Stmt := top 33
abbrev s__law_two : Stmt := top 34
abbrev s__law_bits : Stmt := top 35
abbrev s__law_sign : Stmt := top 36
abbrev s__law_table : Stmt := top 37
abbrev s__law_beside : Stmt := top 38
abbrev s__law_weights_right : Stmt := top 39
abbrev s__law_shaken_right : Stmt := top 40
abbrev s__law_turned_right : Stmt := top 41
abbrev s__law_levels_right : Stmt := top 42
abbrev s_law : Stmt := top 43
local macro_rules | `(tactic| walk_at "f") => `(tactic| exact ⟨rfl, rfl, rfl, by decide +kernel, rfl, by decide +kernel, by decide +kernel⟩)
theorem sc_two_to : FnScope ["n"] ["n"] (defScope s_two_to) := by walk_at "f"
theorem sc_power_of : FnScope ["base", "times", "power", "step"] ["base", "times"] (defScope s_power_of) := by walk_at "f"
theorem sc_switches_of : FnScope ["table"] ["table"] (defScope s_switches_of) := by walk_at "f"
theorem sc_sign : FnScope ["subset", "place"] ["subset", "place"] (defScope s_sign) := by walk_at "f"
theorem sc_many_in : FnScope ["subset", "many", "rest"] ["subset"] (defScope s_many_in) := by walk_at "f"
theorem sc_share_of : FnScope ["top", "bottom", "divisor"] ["top", "bottom"] (defScope s_share_of) := by walk_at "f"
theorem sc_common_divisor : FnScope ["one", "other", "greater", "less", "rest"] ["one", "other"] (defScope s_common_divisor) := by walk_at "f"
theorem sc_matters : FnScope ["one", "subset"] ["one", "subset"] (defScope s_matters) := by walk_at "f"
theorem sc_odd_squares : FnScope ["one", "subset"] ["one", "subset"] (defScope s_odd_squares) := by walk_at "f"
theorem sc_is_odd_with : FnScope ["one", "other"] ["one", "other"] (defScope s_is_odd_with) := by walk_at "f"
theorem sc_levels : FnScope ["one"] ["one"] (defScope s_levels) := by walk_at "f"
theorem sc_squares_by_level : FnScope ["one", "found", "subset", "weight", "many"] ["one"] (defScope s_squares_by_level) := by walk_at "f"
theorem sc_over_all : FnScope ["one", "squares"] ["one", "squares"] (defScope s_over_all) := by walk_at "f"
theorem sc_stays : FnScope ["one", "share"] ["one", "share"] (defScope s_stays) := by walk_at "f"
theorem sc_stays_by : FnScope ["n", "squares", "share", "bottom", "less", "parts", "whole"] ["n", "squares", "share"] (defScope s_stays_by) := by walk_at "f"
theorem sc_sum_of : FnScope ["table", "values"] ["table"] (defScope s_sum_of) := by walk_at "f"
theorem sc_weights_of : FnScope ["one", "weights", "subset", "weight"] ["one"] (defScope s_weights_of) := by walk_at "f"
theorem sc_sum_from : FnScope ["n", "weights"] ["n", "weights"] (defScope s_sum_from) := by walk_at "f"
theorem sc_times_signs : FnScope ["numbers", "sums", "step"] ["numbers"] (defScope s_times_signs) := by walk_at "f"
theorem sc_crossed : FnScope ["numbers", "step", "place"] ["numbers", "step", "place"] (defScope s_crossed) := by walk_at "f"
theorem sc_times : FnScope ["one", "other", "weights"] ["one", "other"] (defScope s_times) := by walk_at "f"
theorem sc_met : FnScope ["terms", "weights", "apart"] ["terms", "weights", "apart"] (defScope s_met) := by walk_at "f"
theorem sc_odd : FnScope ["one", "other", "whole"] ["one", "other"] (defScope s_odd) := by walk_at "f"
theorem sc__law_tape : FnScope ["_law_script"] ["_law_script"] (defScope s__law_tape) := by walk_at "f"
theorem sc__law_next : FnScope ["_law_tape_here", "_law_many", "_law_script", "_law_digit", "_law_cell", "_law_seed"] ["_law_tape_here", "_law_many"] (defScope s__law_next) := by walk_at "f"
theorem sc__law_two : FnScope ["_law_k"] ["_law_k"] (defScope s__law_two) := by walk_at "f"
theorem sc__law_bits : FnScope ["_law_n", "_law_number"] ["_law_n", "_law_number"] (defScope s__law_bits) := by walk_at "f"
theorem sc__law_sign : FnScope ["_law_n", "_law_one", "_law_place", "_law_shared"] ["_law_n", "_law_one", "_law_place"] (defScope s__law_sign) := by walk_at "f"
theorem sc__law_table : FnScope ["_law_tape_here", "_law_n", "_law_many", "_law_way", "_law_some", "_law_first", "_law_answers", "_law_seen", "_law_place", "_law_key", "_law_turn"] ["_law_tape_here", "_law_n"] (defScope s__law_table) := by walk_at "f"
theorem sc__law_beside : FnScope ["_law_one", "_law_other", "_law_many"] ["_law_one", "_law_other"] (defScope s__law_beside) := by walk_at "f"
theorem sc__law_weights_right : FnScope ["_law_one", "_law_other", "_law_both_sums", "_law_m", "_law_weights", "_law_due", "_law_some", "_law_weight", "_law_more", "_law_times"] ["_law_one", "_law_other", "_law_both_sums", "_law_m"] (defScope s__law_weights_right) := by walk_at "f"
theorem sc__law_shaken_right : FnScope ["_law_sums", "_law_share", "_law_apart", "_law_whole", "_law_top", "_law_bottom"] ["_law_sums", "_law_share"] (defScope s__law_shaken_right) := by walk_at "f"
theorem sc__law_turned_right : FnScope ["_law_sums", "_law_some", "_law_more", "_law_m", "_law_a", "_law_b", "_law_c", "_law_d", "_law_due"] ["_law_sums", "_law_some", "_law_more", "_law_m"] (defScope s__law_turned_right) := by walk_at "f"
theorem sc__law_levels_right : FnScope ["_law_sums", "_law_ahead", "_law_more", "_law_found", "_law_k", "_law_top", "_law_bottom", "_law_j", "_law_times"] ["_law_sums"] (defScope s__law_levels_right) := by walk_at "f"
theorem sc_law : FnScope ["_law_script", "_law_tape_here", "_law_turn", "_law_m", "_law_n", "_law_one", "_law_other", "_law_sums", "_law_first", "_law_k", "_law_bottom", "_law_share", "_law_some"] ["_law_script"] (defScope s_law) := by walk_at "f"
set_option genInjectivity false
set_option genSizeOf false
structure Txt (K : W.Frag) (mg : Str -> Option Value) where
  f_two_to : Addr
  d_two_to : FuncData
  F_two_to : Fun K "two_to" "two_to" s_two_to f_two_to d_two_to
  b_two_to : Binds K d_two_to ["n"] []
  m_two_to : mg "two_to" = some (.ref f_two_to)
  f_power_of : Addr
  d_power_of : FuncData
  F_power_of : Fun K "power_of" "power_of" s_power_of f_power_of d_power_of
  b_power_of : Binds K d_power_of ["base", "times"] []
  m_power_of : mg "power_of" = some (.ref f_power_of)
  f_switches_of : Addr
  d_switches_of : FuncData
  F_switches_of : Fun K "switches_of" "switches_of" s_switches_of f_switches_of d_switches_of
  b_switches_of : Binds K d_switches_of ["table"] []
  m_switches_of : mg "switches_of" = some (.ref f_switches_of)
  f_sign : Addr
  d_sign : FuncData
  F_sign : Fun K "sign" "sign" s_sign f_sign d_sign
  b_sign : Binds K d_sign ["subset", "place"] []
  m_sign : mg "sign" = some (.ref f_sign)
  f_many_in : Addr
  d_many_in : FuncData
  F_many_in : Fun K "many_in" "many_in" s_many_in f_many_in d_many_in
  b_many_in : Binds K d_many_in ["subset"] []
  m_many_in : mg "many_in" = some (.ref f_many_in)
  f_share_of : Addr
  d_share_of : FuncData
  F_share_of : Fun K "share_of" "share_of" s_share_of f_share_of d_share_of
  b_share_of : Binds K d_share_of ["top", "bottom"] []
  m_share_of : mg "share_of" = some (.ref f_share_of)
  f_common_divisor : Addr
  d_common_divisor : FuncData
  F_common_divisor : Fun K "common_divisor" "common_divisor" s_common_divisor f_common_divisor d_common_divisor
  b_common_divisor : Binds K d_common_divisor ["one", "other"] []
  m_common_divisor : mg "common_divisor" = some (.ref f_common_divisor)
  f_matters : Addr
  d_matters : FuncData
  F_matters : Fun K "matters" "matters" s_matters f_matters d_matters
  b_matters : Binds K d_matters ["one", "subset"] []
  m_matters : mg "matters" = some (.ref f_matters)
  f_odd_squares : Addr
  d_odd_squares : FuncData
  F_odd_squares : Fun K "odd_squares" "odd_squares" s_odd_squares f_odd_squares d_odd_squares
  b_odd_squares : Binds K d_odd_squares ["one", "subset"] []
  m_odd_squares : mg "odd_squares" = some (.ref f_odd_squares)
  f_is_odd_with : Addr
  d_is_odd_with : FuncData
  F_is_odd_with : Fun K "is_odd_with" "is_odd_with" s_is_odd_with f_is_odd_with d_is_odd_with
  b_is_odd_with : Binds K d_is_odd_with ["one", "other"] []
  m_is_odd_with : mg "is_odd_with" = some (.ref f_is_odd_with)
  f_levels : Addr
  d_levels : FuncData
  F_levels : Fun K "levels" "levels" s_levels f_levels d_levels
  b_levels : Binds K d_levels ["one"] []
  m_levels : mg "levels" = some (.ref f_levels)
  f_squares_by_level : Addr
  d_squares_by_level : FuncData
  F_squares_by_level : Fun K "squares_by_level" "squares_by_level" s_squares_by_level f_squares_by_level d_squares_by_level
  b_squares_by_level : Binds K d_squares_by_level ["one"] []
  m_squares_by_level : mg "squares_by_level" = some (.ref f_squares_by_level)
  f_over_all : Addr
  d_over_all : FuncData
  F_over_all : Fun K "over_all" "over_all" s_over_all f_over_all d_over_all
  b_over_all : Binds K d_over_all ["one", "squares"] []
  m_over_all : mg "over_all" = some (.ref f_over_all)
  f_stays : Addr
  d_stays : FuncData
  F_stays : Fun K "stays" "stays" s_stays f_stays d_stays
  b_stays : Binds K d_stays ["one", "share"] []
  m_stays : mg "stays" = some (.ref f_stays)
  f_stays_by : Addr
  d_stays_by : FuncData
  F_stays_by : Fun K "stays_by" "stays_by" s_stays_by f_stays_by d_stays_by
  b_stays_by : Binds K d_stays_by ["n", "squares", "share"] []
  m_stays_by : mg "stays_by" = some (.ref f_stays_by)
  f_sum_of : Addr
  d_sum_of : FuncData
  F_sum_of : Fun K "sum_of" "sum_of" s_sum_of f_sum_of d_sum_of
  b_sum_of : Binds K d_sum_of ["table"] []
  m_sum_of : mg "sum_of" = some (.ref f_sum_of)
  f_weights_of : Addr
  d_weights_of : FuncData
  F_weights_of : Fun K "weights_of" "weights_of" s_weights_of f_weights_of d_weights_of
  b_weights_of : Binds K d_weights_of ["one"] []
  m_weights_of : mg "weights_of" = some (.ref f_weights_of)
  f_sum_from : Addr
  d_sum_from : FuncData
  F_sum_from : Fun K "sum_from" "sum_from" s_sum_from f_sum_from d_sum_from
  b_sum_from : Binds K d_sum_from ["n", "weights"] []
  m_sum_from : mg "sum_from" = some (.ref f_sum_from)
  f_times_signs : Addr
  d_times_signs : FuncData
  F_times_signs : Fun K "times_signs" "times_signs" s_times_signs f_times_signs d_times_signs
  b_times_signs : Binds K d_times_signs ["numbers"] []
  m_times_signs : mg "times_signs" = some (.ref f_times_signs)
  f_crossed : Addr
  d_crossed : FuncData
  F_crossed : Fun K "crossed" "crossed" s_crossed f_crossed d_crossed
  b_crossed : Binds K d_crossed ["numbers", "step", "place"] []
  m_crossed : mg "crossed" = some (.ref f_crossed)
  f_times : Addr
  d_times : FuncData
  F_times : Fun K "times" "times" s_times f_times d_times
  b_times : Binds K d_times ["one", "other"] []
  m_times : mg "times" = some (.ref f_times)
  f_met : Addr
  d_met : FuncData
  F_met : Fun K "met" "met" s_met f_met d_met
  b_met : Binds K d_met ["terms", "weights", "apart"] []
  m_met : mg "met" = some (.ref f_met)
  f_odd : Addr
  d_odd : FuncData
  F_odd : Fun K "odd" "odd" s_odd f_odd d_odd
  b_odd : Binds K d_odd ["one", "other"] []
  m_odd : mg "odd" = some (.ref f_odd)
  f__law_tape : Addr
  d__law_tape : FuncData
  F__law_tape : Fun K "_law_tape" "_law_tape" s__law_tape f__law_tape d__law_tape
  b__law_tape : Binds K d__law_tape ["_law_script"] []
  m__law_tape : mg "_law_tape" = some (.ref f__law_tape)
  f__law_next : Addr
  d__law_next : FuncData
  F__law_next : Fun K "_law_next" "_law_next" s__law_next f__law_next d__law_next
  b__law_next : Binds K d__law_next ["_law_tape_here", "_law_many"] []
  m__law_next : mg "_law_next" = some (.ref f__law_next)
  f__law_two : Addr
  d__law_two : FuncData
  F__law_two : Fun K "_law_two" "_law_two" s__law_two f__law_two d__law_two
  b__law_two : Binds K d__law_two ["_law_k"] []
  m__law_two : mg "_law_two" = some (.ref f__law_two)
  f__law_bits : Addr
  d__law_bits : FuncData
  F__law_bits : Fun K "_law_bits" "_law_bits" s__law_bits f__law_bits d__law_bits
  b__law_bits : Binds K d__law_bits ["_law_n", "_law_number"] []
  m__law_bits : mg "_law_bits" = some (.ref f__law_bits)
  f__law_sign : Addr
  d__law_sign : FuncData
  F__law_sign : Fun K "_law_sign" "_law_sign" s__law_sign f__law_sign d__law_sign
  b__law_sign : Binds K d__law_sign ["_law_n", "_law_one", "_law_place"] []
  m__law_sign : mg "_law_sign" = some (.ref f__law_sign)
  f__law_table : Addr
  d__law_table : FuncData
  F__law_table : Fun K "_law_table" "_law_table" s__law_table f__law_table d__law_table
  b__law_table : Binds K d__law_table ["_law_tape_here", "_law_n"] []
  m__law_table : mg "_law_table" = some (.ref f__law_table)
  f__law_beside : Addr
  d__law_beside : FuncData
  F__law_beside : Fun K "_law_beside" "_law_beside" s__law_beside f__law_beside d__law_beside
  b__law_beside : Binds K d__law_beside ["_law_one", "_law_other"] []
  m__law_beside : mg "_law_beside" = some (.ref f__law_beside)
  f__law_weights_right : Addr
  d__law_weights_right : FuncData
  F__law_weights_right : Fun K "_law_weights_right" "_law_weights_right" s__law_weights_right f__law_weights_right d__law_weights_right
  b__law_weights_right : Binds K d__law_weights_right ["_law_one", "_law_other", "_law_both_sums", "_law_m"] []
  m__law_weights_right : mg "_law_weights_right" = some (.ref f__law_weights_right)
  f__law_shaken_right : Addr
  d__law_shaken_right : FuncData
  F__law_shaken_right : Fun K "_law_shaken_right" "_law_shaken_right" s__law_shaken_right f__law_shaken_right d__law_shaken_right
  b__law_shaken_right : Binds K d__law_shaken_right ["_law_sums", "_law_share"] []
  m__law_shaken_right : mg "_law_shaken_right" = some (.ref f__law_shaken_right)
  f__law_turned_right : Addr
  d__law_turned_right : FuncData
  F__law_turned_right : Fun K "_law_turned_right" "_law_turned_right" s__law_turned_right f__law_turned_right d__law_turned_right
  b__law_turned_right : Binds K d__law_turned_right ["_law_sums", "_law_some", "_law_more", "_law_m"] []
  m__law_turned_right : mg "_law_turned_right" = some (.ref f__law_turned_right)
  f__law_levels_right : Addr
  d__law_levels_right : FuncData
  F__law_levels_right : Fun K "_law_levels_right" "_law_levels_right" s__law_levels_right f__law_levels_right d__law_levels_right
  b__law_levels_right : Binds K d__law_levels_right ["_law_sums"] []
  m__law_levels_right : mg "_law_levels_right" = some (.ref f__law_levels_right)
  f_law : Addr
  d_law : FuncData
  F_law : Fun K "law" "law" s_law f_law d_law
  b_law : Binds K d_law ["_law_script"] []
  m_law : mg "law" = some (.ref f_law)
  z_abs : mg "abs" = none
  z_dict : mg "dict" = none
  z_enumerate : mg "enumerate" = none
  z_int : mg "int" = none
  z_len : mg "len" = none
  z_list : mg "list" = none
  z_max : mg "max" = none
  z_range : mg "range" = none
  z_sum : mg "sum" = none
  z_tuple : mg "tuple" = none
  z_zip : mg "zip" = none
set_option genInjectivity true
set_option genSizeOf true
section
variable {P : Program} {w : World} {K : W.Frag} {mg : Str -> Option Value} {base : Heap} (T : Txt K mg)
local macro_rules | `(tactic| walk_at "sm") => `(tactic| repeat' with_reducible first | exact sm_next | apply sm_seq | apply sm_asg | apply sm_ret | apply sm_drop | apply sm_if | apply sm_for | exact em_var | exact em_c | apply em_op | apply em_chain | apply em_not | apply em_if | apply em_cb | apply em_call | apply em_tup | apply em_lst | apply em_comp | exact rm_add | exact rm_sub | exact rm_mul | exact rm_div | exact rm_mod | exact rm_pow | exact rm_cmp | exact rm_eq | exact rm_ix | exact rm_notB | exact rm_getB | exact sm_setB | exact em_newB | apply tm_b | apply tm_and | apply tm_or | apply tm_not | exact am_nil | apply am_cons | exact cm_len_ | exact cm_max_ | exact cm_int_ | exact cm_tuple_ | exact cm_dict_ | apply im_seq | apply im_rng1 | apply gm_sub | exact gm_name | apply gms_cons | exact gms_nil | exact sm_set | exact spNext_mono | apply sm_dput | apply im_zip | exact rm_mulN | apply im_enum | apply em_bm | exact bm_append | apply gm_seqs | assumption)
theorem vw {X : Cx} (i : Nat) {x : Str} {pos : Pos} (h : X.N[i]? = some x /\ Vis X.env.scope x /\ (x == ("__debug__" : Str)) = false /\ (x == ("__classdict__" : Str)) = false) : PE X (.Name x pos) (vVar i) := vv i h.1 h.2.1 h.2.2.1 h.2.2.2
theorem pa1 {X : Cx} {e : PySem.Expr} {te : TE} (ha : PE X e te) (hs : starEach [e] X.env = [(false, eval e X.env)]) : PA X [e] (tCons te tNil) := pa_cons ha pa_nil hs
local macro_rules | `(tactic| walk_at "v") => `(tactic| exact ⟨by rfl, by first | exact Or.inl rfl | exact Or.inr (Or.inl rfl) | exact Or.inr (Or.inr rfl), by decide, by decide⟩)
local macro_rules | `(tactic| walk_at "m") => `(tactic| with_reducible first | refine Exists.imp fun _ => ?_ | refine And.imp_right ?_ | refine forall_imp fun _ => ?_)
local macro_rules | `(tactic| walk_at "o") => `(tactic| first | exact Or.inl rfl | exact Or.inr (Or.inl rfl) | exact Or.inr (Or.inr rfl))
local macro_rules | `(tactic| walk_at "i") => `(tactic| first | exact .inl rfl | exact .inr rfl | assumption)
local macro_rules | `(tactic| walk_at "e") => `(tactic| first | exact Or.inl rfl | exact Or.inr rfl)
local macro_rules | `(tactic| walk_at "n") => `(tactic| first | exact nobehind _ (by decide) (by decide) | rfl)
def sp_power : Sp := fun vs H Q _ => match vs with
  | [.int b, .int t] => ∃ m : Nat, t = m /\ m <= 64 /\ ((-(2 ^ 64) < b /\ b < 2 ^ 64) \/ (Nb b 100 /\ m <= 12)) /\ Q (.int (b ^ m)) H
  | _ => False
theorem sp_power_mono : SpMono sp_power := fun vs H Q Q' E h q => by
  unfold sp_power at *
  split at q
  . revert q; repeat' first | exact h _ _ | exact newL_mono h | exact out_mono h | exact outT_mono h | walk_at "m"
  . exact q.elim
theorem ok_power_of : FnOk P w K mg base CX0 1 T.f_power_of T.d_power_of ["base", "times"] sp_power := by
  refine T.F_power_of.ok sc_power_of (fun vs H Q E h => by unfold sp_power at h; split at h <;> first | rfl | exact h.elim) (fun cdv A outer s H vs Q E hr h => ?_)
  have hu := hu60 hr
  unfold sp_power at h
  split at h
  rotate_left
  . exact h.elim
  rename_i b t
  obtain ⟨m, e1, h1, b1, q⟩ := h
  subst e1
  refine ⟨_, (@pss_cons _ _ _ _ _ (@ps_set _ _ 2 _ _ _ _ sc_power_of.nd rfl (by walk_at "e") (@pe_int _ _ _ _) (by rfl) (by walk_at "i")) (@pss_cons _ _ _ _ _ (@ps_for _ _ _ _ _ _ _ _ PassesOwn.never rfl (@pi_range1 _ _ _ _ _ _ rfl T.z_range (@pa1 _ _ _ (@vw _ 1 _ _ (by walk_at "v")) (by rfl)) (by rfl)) (@pg_name _ _ 3 _ sc_power_of.nd rfl (by walk_at "e") (by walk_at "i")) (@pss_one _ _ _ (@ps_set _ _ 2 _ _ _ _ sc_power_of.nd rfl (by walk_at "e") (@pe_op _ _ _ _ _ _ _ _ om_mul (@vw _ 2 _ _ (by walk_at "v")) (@vw _ 0 _ _ (by walk_at "v"))) (by rfl) (by walk_at "i"))) (by intro _; rfl)) (@pss_one _ _ _ (@ps_ret _ _ _ _ (@vw _ 2 _ _ (by walk_at "v")))))), ?_⟩
  refine ⟨m, rfl, by omega, by omega, ?_⟩
  refine for_range (fun i σ H' => H' = H /\ ∃ z : Option V, σ = [some (.int b), some (.int m), some (.int (b ^ i)), z]) ⟨rfl, none, by rw [Int.pow_zero]; rfl⟩ ?_ ?_
  . rintro i σ H' hi ⟨rfl, z, rfl⟩
    have hi' : i < m := by omega
    have okm : okMul (b ^ i) b := by
      rcases b1 with b1 | ⟨b1, b2⟩
      . exact .inr (.inr b1)
      . exact Nb.okMul ((b1.pow i).up (by omega)) (b1.up (by omega))
    refine ⟨okm, rfl, some (.int (0 + (i : Int))), ?_⟩
    rw [Int.pow_succ]
    rfl
  . rintro σ H' ⟨rfl, z, rfl⟩
    have : (m : Int).toNat = m := by omega
    rw [this]
    exact q
def sp_two_to : Sp := fun vs H Q _ => match vs with
  | [.int n] => ∃ m : Nat, n = m /\ m <= 64 /\ Q (.int (2 ^ m : Nat)) H
  | _ => False
theorem sp_two_to_mono : SpMono sp_two_to := fun vs H Q Q' E h q => by
  unfold sp_two_to at *
  split at q
  . revert q; repeat' first | exact h _ _ | exact newL_mono h | exact out_mono h | exact outT_mono h | walk_at "m"
  . exact q.elim
theorem ok_two_to : FnOk P w K mg base CX0 2 T.f_two_to T.d_two_to ["n"] sp_two_to := by
  have G_power_of := ok_power_of (P := P) (w := w) (base := base) T
  refine T.F_two_to.ok sc_two_to (fun vs H Q E h => by unfold sp_two_to at h; split at h <;> first | rfl | exact h.elim) (fun cdv A outer s H vs Q E hr h => ?_)
  have hu := hu60 hr
  have hr_power_of := hr.mono (show 1 <= _ by decide)
  unfold sp_two_to at h
  split at h
  rotate_left
  . exact h.elim
  rename_i n
  obtain ⟨m, e1, h1, q⟩ := h
  subst e1
  refine ⟨_, (@pss_one _ _ _ (@ps_ret _ _ _ _ (@pe_call _ _ _ _ _ _ _ _ _ _ _ _ _ _ _ _ G_power_of hr_power_of rfl T.m_power_of T.F_power_of.kp T.b_power_of .nil pass0 (@pa_cons _ _ _ _ _ (@pe_int _ _ _ _) (@pa1 _ _ _ (@vw _ 0 _ _ (by walk_at "v")) (by rfl)) (by rfl)) (by decide) (by rfl) (by rfl)))), ?_⟩
  refine ⟨m, rfl, h1, .inl ⟨by decide, by decide⟩, ?_⟩
  have e : (2 : Int) ^ m = ((2 ^ m : Nat) : Int) := by rw [Int.natCast_pow]; rfl
  rw [e]
  exact q
theorem ok__law_tape : FnOk P w K mg base CX0 1 T.f__law_tape T.d__law_tape ["_law_script"] (spTape K) := by
  refine T.F__law_tape.ok sc__law_tape (fun vs H Q E h => by unfold spTape at h; split at h <;> first | rfl | exact h.elim) (fun cdv A outer s H vs Q E hr h => ?_)
  unfold spTape at h
  split at h
  rotate_left
  . exact h.elim
  rename_i a
  have k := h
  refine ⟨_, (@pss_one _ _ _ (@ps_ret _ _ _ _ (@pe_lst _ _ _ _ (@pa_cons _ _ _ _ _ (@vw _ 0 _ _ (by walk_at "v")) (@pa_cons _ _ _ _ _ (@pe_int _ _ _ _) (@pa_cons _ _ _ _ _ (@pe_int _ _ _ _) (@pa1 _ _ _ (@pe_int _ _ _ _) (by rfl)) (by rfl)) (by rfl)) (by rfl))))), ?_⟩
  exact ⟨by show 4 <= sizeLine; rw [sizeLine_eq]; decide, k⟩
theorem ok__law_next : FnOk P w K mg base CX0 1 T.f__law_next T.d__law_next ["_law_tape_here", "_law_many"] (spNext K) := by
  refine T.F__law_next.ok sc__law_next (fun vs H Q E h => by unfold spNext at h; split at h <;> first | rfl | exact h.elim) (fun cdv A outer s H vs Q E hr h => ?_)
  have hu := hu60 hr
  unfold spNext at h
  split at h
  rotate_left
  . exact h.elim
  rename_i t m
  obtain ⟨a, ns, TP, hm, k⟩ := h
  obtain ⟨⟨i, r, c, hi, hr0, ht⟩, hscr⟩ := id TP
  refine ⟨_, (@pss_cons _ _ _ _ _ (@ps_set _ _ 2 _ _ _ _ sc__law_next.nd rfl (by walk_at "e") (@kIx _ K _ _ _ _ _ (@vw _ 0 _ _ (by walk_at "v")) (@pe_int _ _ _ _) (by intro _ _; rfl) (by rfl)) (by rfl) (by walk_at "i")) (@pss_cons _ _ _ _ _ (@ps_asg _ _ _ _ _ _ (@pe_op _ _ _ _ _ _ _ _ (kAdd (K := K)) (@kIx _ K _ _ _ _ _ (@vw _ 0 _ _ (by walk_at "v")) (@pe_int _ _ _ _) (by intro _ _; rfl) (by rfl)) (@pe_int _ _ _ _)) (@pg_sub _ _ _ _ _ _ _ (@vw _ 0 _ _ (by walk_at "v")) (@pe_int _ _ _ _) set_any (by intro _; rfl)) (by rfl) (by rfl) (by rfl)) (@pss_cons _ _ _ _ _ (@ps_if _ _ _ _ _ _ _ _ (PW.pt (@pw_and _ _ _ _ _ _ _ (@tu_cmp _ _ _ _ _ _ _ _ (kEq (K := K) hu) (@kIx _ K _ _ _ _ _ (@vw _ 0 _ _ (by walk_at "v")) (@pe_int _ _ _ _) (by intro _ _; rfl) (by rfl)) (@pe_int _ _ _ _) (by walk_at "n")) (@pw_and1 _ _ _ _ (@tu_cmp _ _ _ _ _ _ _ _ om_lt (@kIx _ K _ _ _ _ _ (@vw _ 0 _ _ (by walk_at "v")) (@pe_int _ _ _ _) (by intro _ _; rfl) (by rfl)) (@pe_callB _ _ _ _ _ _ _ _ _ (kLen (K := K)) rfl T.z_len (by rfl) (@pa1 _ _ _ (@vw _ 2 _ _ (by walk_at "v")) (by rfl)) (by decide) (by decide) (by rfl) (by rfl)) (by walk_at "n"))))) (@pss_cons _ _ _ _ _ (@ps_asg _ _ _ _ _ _ (@pe_callB _ _ _ _ _ _ _ _ _ (cm_max rfl) rfl T.z_max (by rfl) (@pa_cons _ _ _ _ _ (@pe_int _ _ _ _) (@pa1 _ _ _ (@pe_op _ _ _ _ _ _ _ _ om_div (@kIx _ K _ _ _ _ _ (@vw _ 2 _ _ (by walk_at "v")) (@kIx _ K _ _ _ _ _ (@vw _ 0 _ _ (by walk_at "v")) (@pe_int _ _ _ _) (by intro _ _; rfl) (by rfl)) (by intro _ _; rfl) (by rfl)) (@pe_op _ _ _ _ _ _ _ _ om_pow (@pe_int _ _ _ _) (@pe_int _ _ _ _))) (by rfl)) (by rfl)) (by decide) (by decide) (by rfl) (by rfl)) (@pg_sub _ _ _ _ _ _ _ (@vw _ 0 _ _ (by walk_at "v")) (@pe_int _ _ _ _) set_any (by intro _; rfl)) (by rfl) (by rfl) (by rfl)) (@pss_one _ _ _ (@ps_asg _ _ _ _ _ _ (@pe_op _ _ _ _ _ _ _ _ (kAdd (K := K)) (@kIx _ K _ _ _ _ _ (@vw _ 0 _ _ (by walk_at "v")) (@pe_int _ _ _ _) (by intro _ _; rfl) (by rfl)) (@pe_int _ _ _ _)) (@pg_sub _ _ _ _ _ _ _ (@vw _ 0 _ _ (by walk_at "v")) (@pe_int _ _ _ _) set_any (by intro _; rfl)) (by rfl) (by rfl) (by rfl)))) (@pss_nil _)) (@pss_cons _ _ _ _ _ (@ps_if _ _ _ _ _ _ _ _ (@tu_cmp _ _ _ _ _ _ _ _ om_gt (@kIx _ K _ _ _ _ _ (@vw _ 0 _ _ (by walk_at "v")) (@pe_int _ _ _ _) (by intro _ _; rfl) (by rfl)) (@pe_int _ _ _ _) (by walk_at "n")) (@pss_cons _ _ _ _ _ (@ps_set _ _ 3 _ _ _ _ sc__law_next.nd rfl (by walk_at "e") (@pe_op _ _ _ _ _ _ _ _ om_mod (@kIx _ K _ _ _ _ _ (@vw _ 0 _ _ (by walk_at "v")) (@pe_int _ _ _ _) (by intro _ _; rfl) (by rfl)) (@vw _ 1 _ _ (by walk_at "v"))) (by rfl) (by walk_at "i")) (@pss_cons _ _ _ _ _ (@ps_asg _ _ _ _ _ _ (@pe_op _ _ _ _ _ _ _ _ om_div (@kIx _ K _ _ _ _ _ (@vw _ 0 _ _ (by walk_at "v")) (@pe_int _ _ _ _) (by intro _ _; rfl) (by rfl)) (@vw _ 1 _ _ (by walk_at "v"))) (@pg_sub _ _ _ _ _ _ _ (@vw _ 0 _ _ (by walk_at "v")) (@pe_int _ _ _ _) set_any (by intro _; rfl)) (by rfl) (by rfl) (by rfl)) (@pss_one _ _ _ (@ps_ret _ _ _ _ (@vw _ 3 _ _ (by walk_at "v")))))) (@pss_nil _)) (@pss_cons _ _ _ _ _ (@ps_set _ _ 4 _ _ _ _ sc__law_next.nd rfl (by walk_at "e") (@pe_ifExp _ _ _ _ _ _ _ _ (@tu_cmp _ _ _ _ _ _ _ _ om_gt (@pe_callB _ _ _ _ _ _ _ _ _ (kLen (K := K)) rfl T.z_len (by rfl) (@pa1 _ _ _ (@vw _ 2 _ _ (by walk_at "v")) (by rfl)) (by decide) (by decide) (by rfl) (by rfl)) (@pe_int _ _ _ _) (by walk_at "n")) (@kIx _ K _ _ _ _ _ (@vw _ 2 _ _ (by walk_at "v")) (@pe_op _ _ _ _ _ _ _ _ om_mod (@kIx _ K _ _ _ _ _ (@vw _ 0 _ _ (by walk_at "v")) (@pe_int _ _ _ _) (by intro _ _; rfl) (by rfl)) (@pe_callB _ _ _ _ _ _ _ _ _ (kLen (K := K)) rfl T.z_len (by rfl) (@pa1 _ _ _ (@vw _ 2 _ _ (by walk_at "v")) (by rfl)) (by decide) (by decide) (by rfl) (by rfl))) (by intro _ _; rfl) (by rfl)) (@pe_int _ _ _ _)) (by rfl) (by walk_at "i")) (@pss_cons _ _ _ _ _ (@ps_set _ _ 5 _ _ _ _ sc__law_next.nd rfl (by walk_at "e") (@pe_op _ _ _ _ _ _ _ _ om_mod (@pe_op _ _ _ _ _ _ _ _ om_mul (@pe_op _ _ _ _ _ _ _ _ (kAdd (K := K)) (@pe_op _ _ _ _ _ _ _ _ (kAdd (K := K)) (@pe_op _ _ _ _ _ _ _ _ om_mod (@vw _ 4 _ _ (by walk_at "v")) (@pe_int _ _ _ _)) (@pe_op _ _ _ _ _ _ _ _ om_mul (@pe_int _ _ _ _) (@kIx _ K _ _ _ _ _ (@vw _ 0 _ _ (by walk_at "v")) (@pe_int _ _ _ _) (by intro _ _; rfl) (by rfl)))) (@pe_int _ _ _ _)) (@pe_int _ _ _ _)) (@pe_int _ _ _ _)) (by rfl) (by walk_at "i")) (@pss_one _ _ _ (@ps_ret _ _ _ _ (@pe_op _ _ _ _ _ _ _ _ om_mod (@pe_op _ _ _ _ _ _ _ _ om_mod (@pe_op _ _ _ _ _ _ _ _ om_mul (@pe_op _ _ _ _ _ _ _ _ om_mod (@pe_op _ _ _ _ _ _ _ _ (kAdd (K := K)) (@pe_op _ _ _ _ _ _ _ _ om_mul (@vw _ 5 _ _ (by walk_at "v")) (@pe_int _ _ _ _)) (@kIx _ K _ _ _ _ _ (@vw _ 0 _ _ (by walk_at "v")) (@pe_int _ _ _ _) (by intro _ _; rfl) (by rfl))) (@pe_int _ _ _ _)) (@pe_int _ _ _ _)) (@pe_int _ _ _ _)) (@vw _ 1 _ _ (by walk_at "v"))))))))))), ?_⟩
  -- script = tape[0]; tape[3] = tape[3] + 1
  refine ⟨_, _, .inl (.of ht), rfl, _, _, .inl (.of ht), rfl, _, _, ht, rfl, ?_⟩
  have sc0 : ∀ {H1 : Hp}, (∀ b, b ≠ t -> H1 b = H b) -> ScrAt K H1 t a ns := fun h => hscr.stay fun o n e => by rw [h a n]; exact e
  have sc1 : ∀ {H1 : Hp}, (∀ b, b ≠ t -> H1 b = H b) -> SqL K H1 a (ns.map V.int) := fun h => (sc0 h).sq
  have f1 : ∀ {o : HO} {H1 : Hp}, (∀ b, b ≠ t -> H1 b = H b) -> ∀ b, b ≠ t -> upd H1 t o b = H b := fun h b n => by rw [upd_ne n]; exact h b n
  dsimp only
  refine seq_at (fun σ' H1 => σ' = [some (.ref t), some (.int m), some (.ref a), none, none, none] /\ (∀ b, b ≠ t -> H1 b = H b) /\ ∃ i r c : Int, 0 <= i /\ 0 <= r /\ H1 t = some (.lst [.ref a, .int i, .int r, .int c])) ?_ ?_ (by walk_at "sm")
  . -- the next number of the script, where the last one is used up
    have h1 : ∀ {o : HO} (b : Addr), b ≠ t -> upd H t o b = H b := fun b n => upd_ne n
    refine ⟨_, _, .inl (.of upd_same), rfl, ?_⟩
    refine ite2 (fun e => ?_) (fun e => ?_)
    . refine ⟨_, _, .inl (.of upd_same), rfl, ns.length, .inl ⟨_, sc1 h1, by rw [List.length_map]⟩, ?_⟩
      refine ite2 (fun e => ?_) (fun e => ?_)
      . have hlt : i < ns.length := of_decide_eq_true e
        obtain ⟨z, hz⟩ := atI_int hi hlt
        refine ⟨_, _, .inl (.of upd_same), rfl, _, _, .inl (sc1 h1), hz, ⟨by decide, by decide, by decide⟩, ⟨by decide, by decide⟩, ?_⟩
        refine ⟨_, _, upd_same, rfl, _, _, .inl (.of upd_same), rfl, _, _, upd_same, rfl, rfl, ?_, i + 1, max 0 (z / 10 ^ 18), c + 1, by omega, by omega, upd_same⟩
        exact f1 (f1 h1)
      . exact ⟨rfl, h1, i, r, c + 1, hi, hr0, upd_same⟩
    . exact ⟨rfl, h1, i, r, c + 1, hi, hr0, upd_same⟩
  rintro σ' H1 ⟨rfl, h1, i, r, c, hi, hr0, ht⟩
  have T1 : ∀ {H2 : Hp} {i r c : Int}, (∀ b, b ≠ t -> H2 b = H b) -> 0 <= i -> 0 <= r -> H2 t = some (.lst [.ref a, .int i, .int r, .int c]) -> Tape K H2 t a ns := fun h h1 h2 h3 => ⟨⟨_, _, _, h1, h2, h3⟩, sc0 h⟩
  -- a digit of it
  refine ⟨_, _, .inl (.of ht), rfl, ?_⟩
  have hm0 : 0 < m := hm.1
  refine ite2 (fun e => ?_) (fun e => ?_)
  . refine ⟨_, _, .inl (.of ht), rfl, hm0, _, _, .inl (.of ht), rfl, hm, _, _, ht, rfl, ?_⟩
    exact k _ _ (Int.emod_nonneg _ (by omega)) (Int.emod_lt_of_pos _ hm0) (T1 (f1 h1) hi (Int.ediv_nonneg hr0 (by omega)) upd_same) (f1 h1)
  -- else a number made of the cell
  dsimp only [tNext]
  refine seq_at (fun σ' H2 => H2 = H1 /\ ∃ z : Int, σ' = [some (.ref t), some (.int m), some (.ref a), none, some (.int z), none]) ?_ ?_ (by walk_at "sm")
  . refine ⟨ns.length, .inl ⟨_, sc1 h1, by rw [List.length_map]⟩, ?_⟩
    refine ite2 (fun e => ?_) (fun e => ?_)
    . have hlt : (0 : Int) < ns.length := of_decide_eq_true e
      obtain ⟨z, hz⟩ := atI_int (ns := ns) (Int.emod_nonneg c (show (ns.length : Int) ≠ 0 by omega)) (Int.emod_lt_of_pos c hlt)
      exact ⟨_, _, .inl (.of ht), rfl, ns.length, .inl ⟨_, sc1 h1, by rw [List.length_map]⟩, hlt, _, _, .inl (sc1 h1), hz, rfl, z, rfl⟩
    . exact ⟨rfl, 0, rfl⟩
  rintro σ' H2 ⟨rfl, z, rfl⟩
  refine ⟨by decide, _, _, .inl (.of ht), rfl, .inr (.inl ⟨by decide, by decide⟩), .inr (.inr ⟨by decide, by decide⟩), by decide, ?_⟩
  refine ⟨.inr (.inr ⟨by decide, by decide⟩), _, _, .inl (.of ht), rfl, by decide, .inr (.inr ⟨by decide, by decide⟩), by decide, hm0, ?_⟩
  exact k _ _ (Int.emod_nonneg _ (by omega)) (Int.emod_lt_of_pos _ hm0) (T1 h1 hi hr0 ht) h1
def bitL (n x : Nat) : List Bool := (List.range n).map fun k => x / 2 ^ k % 2 == 1
def shared (n x y : Nat) : List Bool := (List.zip (bitL n x) (bitL n y)).map fun p => p.1 && p.2
def sgL (n x y : Nat) : Int := if (shared n x y).countP id % 2 = 1 then -1 else 1
def out (H : Hp) (Q : VK) (v : V) : Prop := ∀ H', Same H H' -> Q v H'
def outL (H : Hp) (Q : VK) (xs : List V) : Prop := ∀ p H', H p = none -> Same H H' -> H' p = some (.lst xs) -> Q (.ref p) H'
def outT (H : Hp) (Q : VK) (xs : List V) : Prop := ∀ p H', H p = none -> Same H H' -> H' p = some (.tup xs) -> Q (.ref p) H'
theorem out_mono {H : Hp} {Q Q' : VK} {v : V} (h : ∀ v H, Q v H -> Q' v H) (q : out H Q v) : out H Q' v := fun H' s => h _ _ (q H' s)
theorem outL_mono {H : Hp} {Q Q' : VK} {xs : List V} (h : ∀ v H, Q v H -> Q' v H) (q : outL H Q xs) : outL H Q' xs := fun p H' a b c => h _ _ (q p H' a b c)
theorem outT_mono {H : Hp} {Q Q' : VK} {xs : List V} (h : ∀ v H, Q v H -> Q' v H) (q : outT H Q xs) : outT H Q' xs := fun p H' a b c => h _ _ (q p H' a b c)
def sp_two : Sp := fun vs H Q _ => match vs with
  | [.int k] => 0 <= k /\ k <= 6 /\ out H Q (.int (2 ^ k.toNat))
  | _ => False
theorem sp_two_mono : SpMono sp_two := fun vs H Q Q' E h q => by
  unfold sp_two at *
  split at q
  . exact ⟨q.1, q.2.1, out_mono h q.2.2⟩
  . exact q.elim
theorem ok__law_two : FnOk P w K mg base CX0 1 T.f__law_two T.d__law_two ["_law_k"] sp_two := by
  refine T.F__law_two.ok sc__law_two (fun vs H Q E h => by unfold sp_two at h; split at h <;> first | rfl | exact h.elim) (fun cdv A outer s H vs Q E hr h => ?_)
  unfold sp_two at h
  split at h
  rotate_left
  . exact h.elim
  rename_i k
  obtain ⟨h1, h2, q⟩ := h
  refine ⟨_, (@pss_one _ _ _ (@ps_ret _ _ _ _ (@kIx _ K _ _ _ _ _ (@pe_lst _ _ _ _ (@pa_cons _ _ _ _ _ (@pe_int _ _ _ _) (@pa_cons _ _ _ _ _ (@pe_int _ _ _ _) (@pa_cons _ _ _ _ _ (@pe_int _ _ _ _) (@pa_cons _ _ _ _ _ (@pe_int _ _ _ _) (@pa_cons _ _ _ _ _ (@pe_int _ _ _ _) (@pa_cons _ _ _ _ _ (@pe_int _ _ _ _) (@pa1 _ _ _ (@pe_int _ _ _ _) (by rfl)) (by rfl)) (by rfl)) (by rfl)) (by rfl)) (by rfl)) (by rfl))) (@vw _ 0 _ _ (by walk_at "v")) (by intro _ _; rfl) (by rfl)))), ?_⟩
  refine ⟨small_le (show 7 <= 1000 by decide), fun p hp => ?_⟩
  have e : atI [V.int 1, .int 2, .int 4, .int 8, .int 16, .int 32, .int 64] k = some (.int (2 ^ k.toNat)) := by
    have : k = 0 \/ k = 1 \/ k = 2 \/ k = 3 \/ k = 4 \/ k = 5 \/ k = 6 := by omega
    rcases this with e | e | e | e | e | e | e <;> subst e <;> rfl
  exact ⟨_, _, .inl (.of upd_same), e, q _ (Same.upd hp)⟩
def sp_bits : Sp := fun vs H Q _ => match vs with
  | [.int n, .int x] => ∃ m y : Nat, n = m /\ x = y /\ m <= 6 /\ outL H Q ((bitL m y).map V.bl)
  | _ => False
theorem sp_bits_mono : SpMono sp_bits := fun vs H Q Q' E h q => by
  unfold sp_bits at *
  split at q
  . revert q; repeat' first | exact h _ _ | exact newL_mono h | exact out_mono h | exact outT_mono h | walk_at "m"
  . exact q.elim
theorem bitL_take {m y i : Nat} (h : i < m) : (bitL m y).take (i + 1) = (bitL m y).take i ++ [y / 2 ^ i % 2 == 1] := by
  rw [List.take_add_one]
  congr 1
  unfold bitL
  rw [List.getElem?_map, List.getElem?_range h]
  rfl
theorem bitL_len {m y : Nat} : (bitL m y).length = m := by unfold bitL; simp
theorem ok__law_bits : FnOk P w K mg base CX0 2 T.f__law_bits T.d__law_bits ["_law_n", "_law_number"] sp_bits := by
  have G__law_two := ok__law_two (P := P) (w := w) (base := base) T
  refine T.F__law_bits.ok sc__law_bits (fun vs H Q E h => by unfold sp_bits at h; split at h <;> first | rfl | exact h.elim) (fun cdv A outer s H vs Q E hr h => ?_)
  have hu := hu60 hr
  have hr__law_two := hr.mono (show 1 <= _ by decide)
  unfold sp_bits at h
  split at h
  rotate_left
  . exact h.elim
  rename_i n x
  obtain ⟨m, y, e1, e2, h1, q⟩ := h
  subst e1 e2
  refine ⟨_, (@pss_one _ _ _ (@ps_ret _ _ _ _ (@pe_compB _ _ _ _ _ _ _ (["_law_k", "_law_number"]) 1 [1] _ _ _ _ rfl (@pi_range1 _ _ _ _ _ _ rfl T.z_range (@pa1 _ _ _ (@vw _ 0 _ _ (by walk_at "v")) (by rfl)) (by rfl)) (by kernel_rfl) rfl rfl (by kernel_rfl) (fun c => @pg_name _ _ 0 _ (show (["_law_k", "_law_number"] : List Str).Nodup by decide +kernel) rfl (by walk_at "e") (by walk_at "i")) (go_name (by decide)) (fun c => @pts_nil _) (fun c => (@pe_cmpM _ _ _ _ _ _ _ _ (kEq (K := K) hu) (@pe_op _ _ _ _ _ _ _ _ om_mod (@pe_op _ _ _ _ _ _ _ _ om_div (@vw _ 1 _ _ (by walk_at "v")) (@pe_call _ _ _ _ _ _ _ _ _ _ _ _ _ _ _ _ G__law_two hr__law_two rfl T.m__law_two T.F__law_two.kp T.b__law_two .nil pass0 (@pa1 _ _ _ (@vw _ 0 _ _ (by walk_at "v")) (by rfl)) (by decide) (by rfl) (by rfl))) (@pe_int _ _ _ _)) (@pe_int _ _ _ _) (by walk_at "n"))) (by intro _; rfl)))), ?_⟩
  refine ⟨m, rfl, by omega, by omega, ?_⟩
  refine comp_range (fun i ys H' => Same H H' /\ ys = ((bitL m y).take i).map V.bl) ⟨Same.refl _, rfl⟩ (fun i ys H' hi ⟨_, e⟩ => by rw [e]; exact small1000 (by rw [List.length_map, List.length_take]; omega)) ?_ ?_
  . rintro i ys H' hi ⟨s1, rfl⟩
    have hi' : i < m := by omega
    refine ⟨by omega, by omega, fun H2 s2 => ?_⟩
    have e0 : ((0 : Int) + (i : Int)).toNat = i := by omega
    rw [e0]
    have ep : ((2 : Int) ^ i) = ((2 ^ i : Nat) : Int) := by rw [Int.natCast_pow]; rfl
    have hp : 0 < 2 ^ i := Nat.two_pow_pos i
    have hle : (2 : Nat) ^ i <= 2 ^ 6 := Nat.pow_le_pow_right (by decide) (by omega)
    refine ⟨okDiv_of (by rw [ep]; omega) (by rw [ep]; exact Int.le_trans (Int.ofNat_le.mpr hle) (by decide)), by decide, ?_⟩
    refine ⟨s1.trans s2, ?_⟩
    rw [bitL_take hi', List.map_append]
    congr 2
    rw [ep]
    show V.bl (false ^^ (((y : Int) / ((2 ^ i : Nat) : Int) % 2) == 1)) = V.bl (y / 2 ^ i % 2 == 1)
    rw [Bool.false_xor, <- Int.natCast_ediv]
    congr 1
    rw [Bool.eq_iff_iff]
    simp only [beq_iff_eq]
    omega
  . rintro ys H' ⟨s1, rfl⟩ p hp
    have : (bitL m y).take (m : Int).toNat = bitL m y := by
      rw [List.take_of_length_le]
      rw [bitL_len]; omega
    rw [this]
    exact q p _ (s1.free hp) (s1.trans (Same.upd hp)) upd_same
def sp_sign (K : W.Frag) : Sp := fun vs H Q _ => match vs with
  | [.int n, .int x, .int y] => ∃ m a b : Nat, n = m /\ x = a /\ y = b /\ m <= 6 /\ out H Q (.int (sgL m a b))
  | _ => False
theorem sp_sign_mono : SpMono (sp_sign K) := fun vs H Q Q' E h q => by
  unfold sp_sign at *
  split at q
  . revert q; repeat' first | exact h _ _ | exact newL_mono h | exact out_mono h | exact outT_mono h | walk_at "m"
  . exact q.elim
theorem countP_bl (bs : List Bool) : (bs.map V.bl).countP (fun v => eqV v (.bl true)) = bs.countP id := by
  rw [List.countP_map]
  congr 1
  funext b
  cases b <;> rfl
theorem all_flat_bl (bs : List Bool) : (bs.map V.bl).all flatV = true := by
  rw [List.all_map, List.all_eq_true]
  intro b _
  rfl
theorem shared_take {m a b i : Nat} (h : i < m) : (shared m a b).take (i + 1) = (shared m a b).take i ++ [(a / 2 ^ i % 2 == 1) && (b / 2 ^ i % 2 == 1)] := by
  rw [List.take_add_one]
  congr 1
  unfold shared bitL
  simp [List.getElem?_map, List.getElem?_zip_eq_some, h]
theorem ok__law_sign : FnOk P w K mg base CX0 3 T.f__law_sign T.d__law_sign ["_law_n", "_law_one", "_law_place"] (sp_sign K) := by
  have G__law_bits := ok__law_bits (P := P) (w := w) (base := base) T
  refine T.F__law_sign.ok sc__law_sign (fun vs H Q E h => by unfold sp_sign at h; split at h <;> first | rfl | exact h.elim) (fun cdv A outer s H vs Q E hr h => ?_)
  have hu := hu60 hr
  have hr__law_bits := hr.mono (show 2 <= _ by decide)
  unfold sp_sign at h
  split at h
  rotate_left
  . exact h.elim
  rename_i n x y
  obtain ⟨m, a, b, e1, e2, e3, h1, q⟩ := h
  subst e1 e2 e3
  refine ⟨_, (@pss_cons _ _ _ _ _ (@ps_compB _ _ _ _ _ _ _ (["_law_a", "_law_b"]) 2 [] _ _ _ _ 3 _ _ _ rfl sc__law_sign.nd rfl rfl (@kZip _ K _ _ _ _ _ _ _ _ rfl T.z_zip (@pa_cons _ _ _ _ _ (@pe_call _ _ _ _ _ _ _ _ _ _ _ _ _ _ _ _ G__law_bits hr__law_bits rfl T.m__law_bits T.F__law_bits.kp T.b__law_bits .nil pass0 (@pa_cons _ _ _ _ _ (@vw _ 0 _ _ (by walk_at "v")) (@pa1 _ _ _ (@vw _ 1 _ _ (by walk_at "v")) (by rfl)) (by rfl)) (by decide) (by rfl) (by rfl)) (@pa1 _ _ _ (@pe_call _ _ _ _ _ _ _ _ _ _ _ _ _ _ _ _ G__law_bits hr__law_bits rfl T.m__law_bits T.F__law_bits.kp T.b__law_bits .nil pass0 (@pa_cons _ _ _ _ _ (@vw _ 0 _ _ (by walk_at "v")) (@pa1 _ _ _ (@vw _ 2 _ _ (by walk_at "v")) (by rfl)) (by rfl)) (by decide) (by rfl) (by rfl)) (by rfl)) (by rfl)) (by rfl) (by rfl) (by rfl)) (by kernel_rfl) rfl rfl (by kernel_rfl) (fun c => @kTup _ K _ _ _ _ 2 rfl (@pgs_cons _ _ _ _ _ (@pg_name _ _ 0 _ (show (["_law_a", "_law_b"] : List Str).Nodup by decide +kernel) rfl (by walk_at "e") (by walk_at "i")) (@pgs_cons _ _ _ _ _ (@pg_name _ _ 1 _ (show (["_law_a", "_law_b"] : List Str).Nodup by decide +kernel) rfl (by walk_at "e") (by walk_at "i")) (@pgs_nil _) (by rfl)) (by rfl)) (by rfl) (by rfl) (by rfl)) (go_tup (gos_cons gm_name (gms_cons gm_name gms_nil) (go_name (by decide)) (gos_cons gm_name gms_nil (go_name (by decide)) gos_nil))) (fun c => @pts_nil _) (fun c => (@pe_andM _ _ _ _ _ _ _ (@vw _ 0 _ _ (by walk_at "v")) (@pe_one _ _ _ _ _ (@vw _ 1 _ _ (by walk_at "v"))))) (by rfl) (by intro _; rfl)) (@pss_one _ _ _ (@ps_ret _ _ _ _ (@kIx _ K _ _ _ _ _ (@pe_lst _ _ _ _ (@pa_cons _ _ _ _ _ (@pe_int _ _ _ _) (@pa1 _ _ _ (@pe_un _ _ _ _ _ _ um_neg (@pe_int _ _ _ _)) (by rfl)) (by rfl))) (@pe_op _ _ _ _ _ _ _ _ om_mod (@kCount _ K _ _ _ _ _ _ (@vw _ 3 _ _ (by walk_at "v")) (@pa1 _ _ _ (@pe_bl _ _ _ _) (by rfl)) (by rfl) (by rfl) (by rfl) (by rfl) (by rfl) (by rfl)) (@pe_int _ _ _ _)) (by intro _ _; rfl) (by rfl))))), ?_⟩
  refine ⟨m, a, rfl, rfl, h1, fun p1 H1 n1 s1 g1 => ⟨m, b, rfl, rfl, h1, fun p2 H2 n2 s2 g2 => ?_⟩⟩
  have g1' := s2 _ _ g1
  refine ⟨⟨_, .of g1'⟩, ⟨_, .of g2⟩, ?_⟩
  refine comp_zip (xs := (bitL m a).map V.bl) (ys := (bitL m b).map V.bl) (fun i zs H' => Same H2 H' /\ zs = ((shared m a b).take i).map V.bl) ⟨Same.refl _, rfl⟩ (by rw [List.length_map, List.length_map, bitL_len, bitL_len])
    (fun i zs H' _ ⟨s, _⟩ => ⟨.of (s _ _ g1'), .of (s _ _ g2)⟩) (fun i zs H' hi ⟨_, e⟩ => by
      rw [List.length_map, bitL_len] at hi
      rw [e]; exact small1000 (by rw [List.length_map, List.length_take]; omega)) ?_ ?_
  . rintro i u v zs H' p hx hy ⟨s, rfl⟩ hp
    have hi : i < m := by
      have := (List.getElem?_eq_some_iff.mp hx).1
      rw [List.length_map, bitL_len] at this
      exact this
    have ex : u = .bl (a / 2 ^ i % 2 == 1) := by
      rw [List.getElem?_map, show bitL m a = (List.range m).map _ from rfl, List.getElem?_map, List.getElem?_range hi] at hx
      exact (Option.some.inj hx).symm
    have ey : v = .bl (b / 2 ^ i % 2 == 1) := by
      rw [List.getElem?_map, show bitL m b = (List.range m).map _ from rfl, List.getElem?_map, List.getElem?_range hi] at hy
      exact (Option.some.inj hy).symm
    subst ex ey
    refine ⟨p, _, rfl, .of upd_same, rfl, _, _, rfl, _, _, rfl, rfl, ?_⟩
    have s' : Same H2 (upd H' p (.tup [.bl (a / 2 ^ i % 2 == 1), .bl (b / 2 ^ i % 2 == 1)])) := s.trans (Same.upd hp)
    refine ite2 (fun e => ?_) (fun e => ?_)
    . refine ⟨s', ?_⟩
      rw [shared_take hi, List.map_append, e, Bool.true_and]
      rfl
    . refine ⟨s', ?_⟩
      have e : (a / 2 ^ i % 2 == 1) = false := by simpa using e
      rw [shared_take hi, List.map_append, e, Bool.false_and]
      rfl
  rintro zs H' ⟨s, rfl⟩ l hl
  have hlen : ((bitL m a).map V.bl).length = m := by rw [List.length_map, bitL_len]
  have sl : (shared m a b).length = m := by unfold shared; simp [bitL_len]
  rw [hlen, List.take_of_length_le (by omega)]
  refine ⟨small_le (show 2 <= 1000 by decide), fun r hr' => ?_⟩
  have hl' : upd (upd H' l (.lst ((shared m a b).map V.bl))) r (.lst [.int 1, .int (-1)]) l = some (.lst ((shared m a b).map V.bl)) := by
    have : l ≠ r := fun e => by rw [e, upd_same] at hr'; cases hr'
    rw [upd_ne this]; exact upd_same
  refine ⟨.inl ⟨rfl, _, .of hl'⟩, _, .of hl', rfl, all_flat_bl _, by decide, ?_⟩
  rw [countP_bl]
  have e : atI [V.int 1, V.int (-1)] ((((shared m a b).countP id : Nat) : Int) % 2) = some (.int (sgL m a b)) := by
    unfold sgL
    have : (shared m a b).countP id % 2 = 0 \/ (shared m a b).countP id % 2 = 1 := by omega
    rcases this with e | e
    . rw [if_neg (by omega)]
      have : (((shared m a b).countP id : Nat) : Int) % 2 = 0 := by omega
      rw [this]; rfl
    . rw [if_pos e]
      have : (((shared m a b).countP id : Nat) : Int) % 2 = 1 := by omega
      rw [this]; rfl
  refine ⟨_, _, .inl (.of upd_same), e, ?_⟩
  exact q _ ((s1.trans s2).trans ((s.trans (Same.upd hl)).trans (Same.upd hr')))
def sp_table (K : W.Frag) : Sp := fun vs H Q _ => match vs with
  | [.ref t, .int n] => ∃ (a : Addr) (ns : List Int) (m : Nat), Tape K H t a ns /\ n = m /\ 1 <= m /\ m <= 6 /\ ∀ (bs : List Bool) p H', bs.length = 2 ^ m -> H p = none -> H' p = some (.tup (bs.map V.bl)) -> Tape K H' t a ns -> Frm t H H' -> Q (.ref p) H'
  | _ => False
theorem sp_table_mono : SpMono (sp_table K) := fun vs H Q Q' E h q => by
  unfold sp_table at *
  split at q
  . revert q; repeat' first | exact h _ _ | exact newL_mono h | exact out_mono h | exact outT_mono h | walk_at "m"
  . exact q.elim
structure TabL (K : W.Frag) (H0 : Hp) (t a : Addr) (ns : List Int) (M : Nat) (l : Addr) (H : Hp) : Prop where
  tp : Tape K H t a ns
  fr : Frm t H0 H
  new : H0 l = none
  at_ : ∃ bs : List Bool, H l = some (.lst (bs.map V.bl)) /\ bs.length = M
def TabJ (K : W.Frag) (H0 : Hp) (t a : Addr) (ns : List Int) (m M : Nat) : St -> Hp -> Prop := fun σ H => ∃ (l : Addr) (way : Int) (y : Nat) (fb : Bool) (z1 z2 z3 z4 : Option V),
  σ = [some (.ref t), some (.int m), some (.int M), some (.int way), some (.int y), some (.bl fb), some (.ref l), z1, z2, z3, z4] /\ y < M /\ TabL K H0 t a ns M l H
theorem frm_all {t : Addr} {H H' : Hp} (h : ∀ b, b ≠ t -> H' b = H b) : Frm t H H' := fun b o n e => by rw [h b n]; exact e
theorem TabL.same {K : W.Frag} {H0 H H' : Hp} {t a : Addr} {ns : List Int} {M : Nat} {l : Addr} (L : TabL K H0 t a ns M l H) (s : Same H H') : TabL K H0 t a ns M l H' :=
  ⟨L.tp.same s, L.fr.trans s.frm, L.new, let ⟨bs, h, e⟩ := L.at_; ⟨bs, s _ _ h, e⟩⟩
theorem TabL.ne {K : W.Frag} {H0 H : Hp} {t a : Addr} {ns : List Int} {M : Nat} {l : Addr} (L : TabL K H0 t a ns M l H) (T0 : Tape K H0 t a ns) : l ≠ t := T0.neT L.new
theorem TabL.draw {K : W.Frag} {H0 H H' : Hp} {t a : Addr} {ns : List Int} {M : Nat} {l : Addr} (L : TabL K H0 t a ns M l H) (T0 : Tape K H0 t a ns) (T1 : Tape K H' t a ns) (f : ∀ b, b ≠ t -> H' b = H b) : TabL K H0 t a ns M l H' :=
  ⟨T1, L.fr.trans (frm_all f), L.new, let ⟨bs, h, e⟩ := L.at_; ⟨bs, by rw [f l (L.ne T0)]; exact h, e⟩⟩
theorem frm_new {t p : Addr} {H0 H : Hp} {o : HO} (f : Frm t H0 H) (hp : H0 p = none) : Frm t H0 (upd H p o) := fun b u n e => by
  rw [upd_ne (ne_of_none e hp)]; exact f b u n e
theorem TabL.other {K : W.Frag} {H0 H : Hp} {t a p : Addr} {ns : List Int} {M : Nat} {l : Addr} {o : HO} (L : TabL K H0 t a ns M l H) (T0 : Tape K H0 t a ns) (hp : H0 p = none) (hl : p ≠ l) : TabL K H0 t a ns M l (upd H p o) := by
  have nt := T0.neT hp
  have F : Frm t H0 (upd H p o) := frm_new L.fr hp
  obtain ⟨i, r, c, h1, h2, h3⟩ := L.tp.at_
  refine ⟨⟨⟨i, r, c, h1, h2, by rw [upd_ne (Ne.symm nt)]; exact h3⟩, T0.scr.stay fun o n e => F a o n e⟩, F, L.new, ?_⟩
  obtain ⟨bs, h, e⟩ := L.at_
  exact ⟨bs, by rw [upd_ne (Ne.symm hl)]; exact h, e⟩
theorem TabL.put {K : W.Frag} {H0 H : Hp} {t a : Addr} {ns : List Int} {M : Nat} {l : Addr} {bs : List Bool} (L : TabL K H0 t a ns M l H) (T0 : Tape K H0 t a ns) (hb : bs.length = M) : TabL K H0 t a ns M l (upd H l (.lst (bs.map V.bl))) := by
  have F : Frm t H0 (upd H l (.lst (bs.map V.bl))) := frm_new L.fr L.new
  obtain ⟨i, r, c, h1, h2, h3⟩ := L.tp.at_
  exact ⟨⟨⟨i, r, c, h1, h2, by rw [upd_ne (Ne.symm (L.ne T0))]; exact h3⟩, T0.scr.stay fun o n e => F a o n e⟩, F, L.new, bs, upd_same, hb⟩
theorem ixN_nat {n i : Nat} (h : i < n) : ixN n ((i : Nat) : Int) = some i := by
  unfold ixN
  rw [if_pos (Int.natCast_nonneg i), if_pos (by omega)]
  simp
theorem bl_set (bs : List Bool) (i : Nat) (b : Bool) : (bs.map V.bl).set i (.bl b) = (bs.set i b).map V.bl := by
  rw [List.map_set]
theorem hasB_at {xs : BX} {ks : List Bool} (h : hasB xs ks = true) : ∃ c v, atKey (bxv xs) ks = some (c, Value.bool v) := by
  have e := atKey_bxv xs ks
  rw [h] at e
  obtain ⟨⟨c, u⟩, hc⟩ := Option.isSome_iff_exists.mp e
  have hc' := hc
  unfold atKey at hc'
  obtain ⟨z, hz, ez⟩ := Option.map_eq_some_iff.mp hc'
  have hm := List.mem_of_find?_eq_some hz
  unfold bxv at hm
  obtain ⟨q, _, rfl⟩ := List.mem_map.mp hm
  cases ez
  exact ⟨_, _, hc⟩
theorem keysB_upd {H : Hp} {p : Addr} {xs : BX} {o o' : HO} (h : KeysB H xs) (hp : H p = some o) (ho : ∀ ys, HO.tup ys ≠ o) : KeysB (upd H p o') xs := fun q hq => by
  rw [upd_ne (ne_of (h q hq) hp (ho _))]; exact h q hq
theorem keysB_same {H H' : Hp} {xs : BX} (h : KeysB H xs) (s : Same H H') : KeysB H' xs := fun q hq => s _ _ (h q hq)
theorem ok__law_table : FnOk P w K mg base CX0 4 T.f__law_table T.d__law_table ["_law_tape_here", "_law_n"] (sp_table K) := by
  have G__law_two := ok__law_two (P := P) (w := w) (base := base) T; have G__law_next := ok__law_next (P := P) (w := w) (base := base) T; have G__law_sign := ok__law_sign (P := P) (w := w) (base := base) T; have G__law_bits := ok__law_bits (P := P) (w := w) (base := base) T
  refine T.F__law_table.ok sc__law_table (fun vs H Q E h => by unfold sp_table at h; split at h <;> first | rfl | exact h.elim) (fun cdv A outer s H vs Q E hr h => ?_)
  have hu := hu60 hr
  have mo1 : SpMono (sp_sign K) := sp_sign_mono
  have mo2 : SpMono sp_bits := sp_bits_mono
  have hr__law_two := hr.mono (show 1 <= _ by decide); have hr__law_next := hr.mono (show 1 <= _ by decide); have hr__law_sign := hr.mono (show 3 <= _ by decide); have hr__law_bits := hr.mono (show 2 <= _ by decide)
  unfold sp_table at h
  split at h
  rotate_left
  . exact h.elim
  rename_i t n
  obtain ⟨a, ns, m, TP, e1, m1, m6, q⟩ := h
  subst e1
  refine ⟨_, (@pss_cons _ _ _ _ _ (@ps_set _ _ 2 _ _ _ _ sc__law_table.nd rfl (by walk_at "e") (@pe_call _ _ _ _ _ _ _ _ _ _ _ _ _ _ _ _ G__law_two hr__law_two rfl T.m__law_two T.F__law_two.kp T.b__law_two .nil pass0 (@pa1 _ _ _ (@vw _ 1 _ _ (by walk_at "v")) (by rfl)) (by decide) (by rfl) (by rfl)) (by rfl) (by walk_at "i")) (@pss_cons _ _ _ _ _ (@ps_set _ _ 3 _ _ _ _ sc__law_table.nd rfl (by walk_at "e") (@pe_call _ _ _ _ _ _ _ _ _ _ _ _ _ _ _ _ G__law_next hr__law_next rfl T.m__law_next T.F__law_next.kp T.b__law_next .nil pass0 (@pa_cons _ _ _ _ _ (@vw _ 0 _ _ (by walk_at "v")) (@pa1 _ _ _ (@pe_int _ _ _ _) (by rfl)) (by rfl)) (by decide) (by rfl) (by rfl)) (by rfl) (by walk_at "i")) (@pss_cons _ _ _ _ _ (@ps_set _ _ 4 _ _ _ _ sc__law_table.nd rfl (by walk_at "e") (@pe_call _ _ _ _ _ _ _ _ _ _ _ _ _ _ _ _ G__law_next hr__law_next rfl T.m__law_next T.F__law_next.kp T.b__law_next .nil pass0 (@pa_cons _ _ _ _ _ (@vw _ 0 _ _ (by walk_at "v")) (@pa1 _ _ _ (@vw _ 2 _ _ (by walk_at "v")) (by rfl)) (by rfl)) (by decide) (by rfl) (by rfl)) (by rfl) (by walk_at "i")) (@pss_cons _ _ _ _ _ (@ps_set _ _ 5 _ _ _ _ sc__law_table.nd rfl (by walk_at "e") (@pe_cmpM _ _ _ _ _ _ _ _ (kEq (K := K) hu) (@pe_call _ _ _ _ _ _ _ _ _ _ _ _ _ _ _ _ G__law_next hr__law_next rfl T.m__law_next T.F__law_next.kp T.b__law_next .nil pass0 (@pa_cons _ _ _ _ _ (@vw _ 0 _ _ (by walk_at "v")) (@pa1 _ _ _ (@pe_int _ _ _ _) (by rfl)) (by rfl)) (by decide) (by rfl) (by rfl)) (@pe_int _ _ _ _) (by walk_at "n")) (by rfl) (by walk_at "i")) (@pss_cons _ _ _ _ _ (@ps_compB _ _ _ _ _ _ _ (["_law_place", "_law_first"]) 1 [5] _ _ _ _ 6 _ _ _ rfl sc__law_table.nd rfl rfl (@pi_range1 _ _ _ _ _ _ rfl T.z_range (@pa1 _ _ _ (@vw _ 2 _ _ (by walk_at "v")) (by rfl)) (by rfl)) (by kernel_rfl) rfl rfl (by kernel_rfl) (fun c => @pg_name _ _ 0 _ (show (["_law_place", "_law_first"] : List Str).Nodup by decide +kernel) rfl (by walk_at "e") (by walk_at "i")) (go_name (by decide)) (fun c => @pts_nil _) (fun c => (@vw _ 1 _ _ (by walk_at "v"))) (by rfl) (by intro _; rfl)) (@pss_cons _ _ _ _ _ (@ps_if _ _ _ _ _ _ _ _ (@tu_cmp _ _ _ _ _ _ _ _ om_lt (@vw _ 3 _ _ (by walk_at "v")) (@pe_int _ _ _ _) (by walk_at "n")) (@pss_one _ _ _ (@ps_compB _ _ _ _ _ _ _ (["_law_place", "_law_tape_here"]) 1 [0] _ _ _ _ 6 _ _ _ rfl sc__law_table.nd rfl rfl (@pi_range1 _ _ _ _ _ _ rfl T.z_range (@pa1 _ _ _ (@vw _ 2 _ _ (by walk_at "v")) (by rfl)) (by rfl)) (by kernel_rfl) rfl rfl (by kernel_rfl) (fun c => @pg_name _ _ 0 _ (show (["_law_place", "_law_tape_here"] : List Str).Nodup by decide +kernel) rfl (by walk_at "e") (by walk_at "i")) (go_name (by decide)) (fun c => @pts_nil _) (fun c => (@pe_cmpM _ _ _ _ _ _ _ _ (kEq (K := K) hu) (@pe_call _ _ _ _ _ _ _ _ _ _ _ _ _ _ _ _ G__law_next hr__law_next rfl T.m__law_next T.F__law_next.kp T.b__law_next .nil pass0 (@pa_cons _ _ _ _ _ (@vw _ 1 _ _ (by walk_at "v")) (@pa1 _ _ _ (@pe_int _ _ _ _) (by rfl)) (by rfl)) (by decide) (by rfl) (by rfl)) (@pe_int _ _ _ _) (by walk_at "n"))) (by rfl) (by intro _; rfl))) (@pss_nil _)) (@pss_cons _ _ _ _ _ (@ps_if _ _ _ _ _ _ _ _ (@tu_cmp _ _ _ _ _ _ _ _ (kEq (K := K) hu) (@vw _ 3 _ _ (by walk_at "v")) (@pe_int _ _ _ _) (by walk_at "n")) (@pss_one _ _ _ (@ps_compB _ _ _ _ _ _ _ (["_law_place", "_law_first", "_law_n", "_law_some"]) 1 ([5, 1, 4]) _ _ _ _ 6 _ _ _ rfl sc__law_table.nd rfl rfl (@pi_range1 _ _ _ _ _ _ rfl T.z_range (@pa1 _ _ _ (@vw _ 2 _ _ (by walk_at "v")) (by rfl)) (by rfl)) (by kernel_rfl) rfl rfl (by kernel_rfl) (fun c => @pg_name _ _ 0 _ (show (["_law_place", "_law_first", "_law_n", "_law_some"] : List Str).Nodup by decide +kernel) rfl (by walk_at "e") (by walk_at "i")) (go_name (by decide)) (fun c => @pts_nil _) (fun c => (@pe_cmpM _ _ _ _ _ _ _ _ (kEq (K := K) hu) (@vw _ 1 _ _ (by walk_at "v")) (@pe_cmpM _ _ _ _ _ _ _ _ (kEq (K := K) hu) (@pe_call _ _ _ _ _ _ _ _ _ _ _ _ _ _ _ _ G__law_sign hr__law_sign rfl T.m__law_sign T.F__law_sign.kp T.b__law_sign .nil pass0 (@pa_cons _ _ _ _ _ (@vw _ 2 _ _ (by walk_at "v")) (@pa_cons _ _ _ _ _ (@vw _ 3 _ _ (by walk_at "v")) (@pa1 _ _ _ (@vw _ 0 _ _ (by walk_at "v")) (by rfl)) (by rfl)) (by rfl)) (by decide) (by rfl) (by rfl)) (@pe_int _ _ _ _) (by walk_at "n")) (by walk_at "n"))) (by rfl) (by intro _; rfl))) (@pss_nil _)) (@pss_cons _ _ _ _ _ (@ps_if _ _ _ _ _ _ _ _ (@tu_cmp _ _ _ _ _ _ _ _ (kEq (K := K) hu) (@vw _ 3 _ _ (by walk_at "v")) (@pe_int _ _ _ _) (by walk_at "n")) (@pss_cons _ _ _ _ _ (@ps_set _ _ 7 _ _ _ _ sc__law_table.nd rfl (by walk_at "e") (@kNewB _ P w _ (by rfl) (by rfl)) (by rfl) (by walk_at "i")) (@pss_one _ _ _ (@ps_for _ _ _ _ _ _ _ _ PassesOwn.never rfl (@pi_range1 _ _ _ _ _ _ rfl T.z_range (@pa1 _ _ _ (@vw _ 2 _ _ (by walk_at "v")) (by rfl)) (by rfl)) (@pg_name _ _ 8 _ sc__law_table.nd rfl (by walk_at "e") (by walk_at "i")) (@pss_cons _ _ _ _ _ (@ps_set _ _ 9 _ _ _ _ sc__law_table.nd rfl (by walk_at "e") (@pe_callTy _ _ _ _ _ _ _ _ _ (kTuple (K := K)) rfl T.z_tuple (by rfl) (@pa1 _ _ _ (@pe_compB _ _ _ _ _ _ _ (["_law_a", "_law_b"]) 2 [] _ _ _ _ rfl (@kZip _ K _ _ _ _ _ _ _ _ rfl T.z_zip (@pa_cons _ _ _ _ _ (@pe_call _ _ _ _ _ _ _ _ _ _ _ _ _ _ _ _ G__law_bits hr__law_bits rfl T.m__law_bits T.F__law_bits.kp T.b__law_bits .nil pass0 (@pa_cons _ _ _ _ _ (@vw _ 1 _ _ (by walk_at "v")) (@pa1 _ _ _ (@vw _ 8 _ _ (by walk_at "v")) (by rfl)) (by rfl)) (by decide) (by rfl) (by rfl)) (@pa1 _ _ _ (@pe_call _ _ _ _ _ _ _ _ _ _ _ _ _ _ _ _ G__law_bits hr__law_bits rfl T.m__law_bits T.F__law_bits.kp T.b__law_bits .nil pass0 (@pa_cons _ _ _ _ _ (@vw _ 1 _ _ (by walk_at "v")) (@pa1 _ _ _ (@vw _ 4 _ _ (by walk_at "v")) (by rfl)) (by rfl)) (by decide) (by rfl) (by rfl)) (by rfl)) (by rfl)) (by rfl) (by rfl) (by rfl)) (by kernel_rfl) rfl rfl (by kernel_rfl) (fun c => @kTup _ K _ _ _ _ 2 rfl (@pgs_cons _ _ _ _ _ (@pg_name _ _ 0 _ (show (["_law_a", "_law_b"] : List Str).Nodup by decide +kernel) rfl (by walk_at "e") (by walk_at "i")) (@pgs_cons _ _ _ _ _ (@pg_name _ _ 1 _ (show (["_law_a", "_law_b"] : List Str).Nodup by decide +kernel) rfl (by walk_at "e") (by walk_at "i")) (@pgs_nil _) (by rfl)) (by rfl)) (by rfl) (by rfl) (by rfl)) (go_tup (gos_cons gm_name (gms_cons gm_name gms_nil) (go_name (by decide)) (gos_cons gm_name gms_nil (go_name (by decide)) gos_nil))) (fun c => @pts_nil _) (fun c => (@pe_andM _ _ _ _ _ _ _ (@vw _ 0 _ _ (by walk_at "v")) (@pe_one _ _ _ _ _ (@vw _ 1 _ _ (by walk_at "v"))))) (by intro _; rfl)) (by rfl)) (by decide) (by decide) (by rfl) (by rfl)) (by rfl) (by walk_at "i")) (@pss_cons _ _ _ _ _ (@ps_if _ _ _ _ _ _ _ _ (@tu_cmp _ _ _ _ _ _ _ _ (kNotB (P := P) (w := w) hu) (@vw _ 9 _ _ (by walk_at "v")) (@vw _ 7 _ _ (by walk_at "v")) (by walk_at "n")) (@pss_one _ _ _ (@ps_asg _ _ _ _ _ _ (@pe_cmpM _ _ _ _ _ _ _ _ (kEq (K := K) hu) (@pe_call _ _ _ _ _ _ _ _ _ _ _ _ _ _ _ _ G__law_next hr__law_next rfl T.m__law_next T.F__law_next.kp T.b__law_next .nil pass0 (@pa_cons _ _ _ _ _ (@vw _ 0 _ _ (by walk_at "v")) (@pa1 _ _ _ (@pe_int _ _ _ _) (by rfl)) (by rfl)) (by decide) (by rfl) (by rfl)) (@pe_int _ _ _ _) (by walk_at "n")) (@pg_sub _ _ _ _ _ _ _ (@vw _ 7 _ _ (by walk_at "v")) (@vw _ 9 _ _ (by walk_at "v")) (kSetB (P := P) (w := w) hu) (by intro _; rfl)) (by rfl) (by rfl) (by rfl))) (@pss_nil _)) (@pss_one _ _ _ (@ps_asg _ _ _ _ _ _ (@kGetB _ P w _ _ _ _ _ hu (@vw _ 7 _ _ (by walk_at "v")) (@vw _ 9 _ _ (by walk_at "v")) (by intro _ _; rfl) (by rfl) (by rfl)) (@pg_sub _ _ _ _ _ _ _ (@vw _ 6 _ _ (by walk_at "v")) (@vw _ 8 _ _ (by walk_at "v")) set_any (by intro _; rfl)) (by rfl) (by rfl) (by rfl))))) (by intro _; rfl)))) (@pss_nil _)) (@pss_cons _ _ _ _ _ (@ps_for _ _ _ _ _ _ _ _ PassesOwn.never rfl (@pi_range1 _ _ _ _ _ _ rfl T.z_range (@pa1 _ _ _ (@pe_op _ _ _ _ _ _ _ _ om_mul (@pe_call _ _ _ _ _ _ _ _ _ _ _ _ _ _ _ _ G__law_next hr__law_next rfl T.m__law_next T.F__law_next.kp T.b__law_next .nil pass0 (@pa_cons _ _ _ _ _ (@vw _ 0 _ _ (by walk_at "v")) (@pa1 _ _ _ (@pe_int _ _ _ _) (by rfl)) (by rfl)) (by decide) (by rfl) (by rfl)) (@pe_callTy _ _ _ _ _ _ _ _ _ cm_int rfl T.z_int (by rfl) (@pa1 _ _ _ (@pe_cmpM _ _ _ _ _ _ _ _ om_gt (@vw _ 3 _ _ (by walk_at "v")) (@pe_int _ _ _ _) (by walk_at "n")) (by rfl)) (by decide) (by decide) (by rfl) (by rfl))) (by rfl)) (by rfl)) (@pg_name _ _ 10 _ sc__law_table.nd rfl (by walk_at "e") (by walk_at "i")) (@pss_cons _ _ _ _ _ (@ps_set _ _ 8 _ _ _ _ sc__law_table.nd rfl (by walk_at "e") (@pe_call _ _ _ _ _ _ _ _ _ _ _ _ _ _ _ _ G__law_next hr__law_next rfl T.m__law_next T.F__law_next.kp T.b__law_next .nil pass0 (@pa_cons _ _ _ _ _ (@vw _ 0 _ _ (by walk_at "v")) (@pa1 _ _ _ (@vw _ 2 _ _ (by walk_at "v")) (by rfl)) (by rfl)) (by decide) (by rfl) (by rfl)) (by rfl) (by walk_at "i")) (@pss_one _ _ _ (@ps_asg _ _ _ _ _ _ (@pe_notM _ _ _ _ (@kIx _ K _ _ _ _ _ (@vw _ 6 _ _ (by walk_at "v")) (@vw _ 8 _ _ (by walk_at "v")) (by intro _ _; rfl) (by rfl))) (@pg_sub _ _ _ _ _ _ _ (@vw _ 6 _ _ (by walk_at "v")) (@vw _ 8 _ _ (by walk_at "v")) set_any (by intro _; rfl)) (by rfl) (by rfl) (by rfl)))) (by intro _; rfl)) (@pss_one _ _ _ (@ps_ret _ _ _ _ (@pe_callTy _ _ _ _ _ _ _ _ _ (kTuple (K := K)) rfl T.z_tuple (by rfl) (@pa1 _ _ _ (@vw _ 6 _ _ (by walk_at "v")) (by rfl)) (by decide) (by decide) (by rfl) (by rfl))))))))))))), ?_⟩
  have e2 : (2 : Int) ^ ((m : Int).toNat) = ((2 ^ m : Nat) : Int) := by rw [Int.toNat_natCast, Int.natCast_pow]; rfl
  have h64 : 2 ^ m <= 64 := Nat.pow_le_pow_right (n := 2) (by decide) m6
  have h2 : 2 <= 2 ^ m := Nat.pow_le_pow_right (n := 2) (i := 1) (by decide) m1
  refine ⟨by omega, by omega, fun H1 s1 => ?_⟩
  rw [e2]
  generalize hM : 2 ^ m = M at *
  have T1 := TP.same s1
  have hMd : okDiv (M : Int) := okDiv_of (by omega) (Int.le_trans (Int.ofNat_le.mpr h64) (by decide))
  have hMr : (M : Int) < 2 ^ 62 := Int.lt_of_le_of_lt (Int.ofNat_le.mpr h64) (by decide)
  refine ⟨a, ns, T1, okDiv_of (by decide) (by decide), fun way H2 w0 w1 T2 f2 => ⟨a, ns, T2, hMd, fun y' H3 y0 y1 T3 f3 => ⟨a, ns, T3, okDiv_of (by decide) (by decide), fun d H4 _ _ T4 f4 => ?_⟩⟩⟩
  obtain ⟨y, rfl⟩ := Int.eq_ofNat_of_zero_le y0
  have hy : y < M := by omega
  have F4 : Frm t H H4 := s1.frm.trans ((frm_all f2).trans ((frm_all f3).trans (frm_all f4)))
  dsimp only [tC, mEq, gName, eqV]
  generalize (false ^^ (d == 1)) = fb
  refine seq_at (TabJ K H t a ns m M) ?_ ?_ (by walk_at "sm")
  . refine ⟨(M : Int), rfl, by omega, by omega, ?_⟩
    refine comp_range (fun i ys H' => H' = H4 /\ ys = (List.replicate i fb).map V.bl) ⟨rfl, rfl⟩ (fun i ys H' hi ⟨_, e⟩ => by
      rw [e]; exact small1000 (by rw [List.length_map, List.length_replicate]; omega)) ?_ ?_
    . rintro i ys H' hi ⟨rfl, rfl⟩
      refine ⟨rfl, ?_⟩
      rw [List.replicate_succ', List.map_append]; rfl
    . rintro ys H' ⟨rfl, rfl⟩ l hl
      exact ⟨l, way, y, fb, none, none, none, none, rfl, hy, T4.upd hl, F4.trans (Frm.upd hl), T4.free F4 hl, _, upd_same, by rw [List.length_replicate]; omega⟩
  rintro σ Ha ⟨l, way, y, fb, z1, z2, z3, z4, rfl, hy, L⟩
  refine seq_at (TabJ K H t a ns m M) ?_ ?_ (by walk_at "sm")
  . -- any answers
    refine ite2 (fun e => ?_) (fun e => ⟨l, way, y, fb, z1, z2, z3, z4, rfl, hy, L⟩)
    refine ⟨(M : Int), rfl, by omega, by omega, ?_⟩
    refine comp_range (fun i ys H' => Tape K H' t a ns /\ Frm t H H' /\ ∃ bs : List Bool, ys = bs.map V.bl /\ bs.length = i) ⟨L.tp, L.fr, [], rfl, rfl⟩ (fun i ys H' hi ⟨_, _, bs, e, el⟩ => by
      rw [e]; exact small1000 (by rw [List.length_map]; omega)) ?_ ?_
    . rintro i ys H' hi ⟨Ti, Fi, bs, rfl, rfl⟩
      refine ⟨a, ns, Ti, okDiv_of (by decide) (by decide), fun d H2 _ _ T2 f2 => ?_⟩
      exact ⟨T2, Fi.trans (frm_all f2), bs ++ [(false ^^ (d == 1))], by rw [List.map_append]; rfl, by rw [List.length_append]; rfl⟩
    . rintro ys H' ⟨Ti, Fi, bs, rfl, hb⟩ l' hl
      exact ⟨l', way, y, fb, z1, z2, z3, z4, rfl, hy, Ti.upd hl, Fi.trans (Frm.upd hl), Ti.free Fi hl, bs, upd_same, by omega⟩
  clear L
  rintro σ Ha ⟨l, way, y, fb, z1, z2, z3, z4, rfl, hy, L⟩
  refine seq_at (TabJ K H t a ns m M) ?_ ?_ (by walk_at "sm")
  . -- odd of a set
    refine ite2 (fun e => ?_) (fun e => ⟨l, way, y, fb, z1, z2, z3, z4, rfl, hy, L⟩)
    refine ⟨(M : Int), rfl, by omega, by omega, ?_⟩
    refine comp_range (fun i ys H' => Same Ha H' /\ ∃ bs : List Bool, ys = bs.map V.bl /\ bs.length = i) ⟨Same.refl _, [], rfl, rfl⟩ (fun i ys H' hi ⟨_, bs, e, el⟩ => by
      rw [e]; exact small1000 (by rw [List.length_map]; omega)) ?_ ?_
    . rintro i ys H' hi ⟨Si, bs, rfl, rfl⟩
      refine ⟨m, y, bs.length, rfl, rfl, by omega, m6, fun H2 s2 => ?_⟩
      exact ⟨Si.trans s2, bs ++ [(false ^^ (fb == (false ^^ (sgL m y bs.length == 1))))], by rw [List.map_append]; rfl, by rw [List.length_append]; rfl⟩
    . rintro ys H' ⟨Si, bs, rfl, hb⟩ l' hl
      have Fi := L.fr.trans (Si.frm (t := t))
      exact ⟨l', way, y, fb, z1, z2, z3, z4, rfl, hy, (L.tp.same Si).upd hl, Fi.trans (Frm.upd hl), (L.tp.same Si).free Fi hl, bs, upd_same, by omega⟩
  clear L
  rintro σ Ha ⟨l, way, y, fb, z1, z2, z3, z4, rfl, hy, L⟩
  refine seq_at (TabJ K H t a ns m M) ?_ ?_ (by walk_at "sm")
  . -- of few switches
    refine ite2 (fun e => ?_) (fun e => ⟨l, way, y, fb, z1, z2, z3, z4, rfl, hy, L⟩)
    refine fun p hp => ?_
    have hp0 : H p = none := L.tp.free L.fr hp
    have pl : p ≠ l := fun e => by
      obtain ⟨bs, hb, _⟩ := L.at_
      rw [e, hb] at hp; cases hp
    refine ⟨(M : Int), rfl, by omega, by omega, ?_⟩
    refine for_range (fun i σ H' => ∃ (z2 z3 : Option V) (xs : BX), σ = [some (.ref t), some (.int m), some (.int M), some (.int way), some (.int y), some (.bl fb), some (.ref l), some (.ref p), z2, z3, z4] /\ TabL K H t a ns M l H' /\ H' p = some (dB P w p xs) /\ KeysB H' xs /\ xs.length <= i)
      ⟨z2, z3, [], rfl, L.other TP hp0 pl, upd_same, (fun q hq => by cases hq), Nat.le_refl _⟩ ?_ ?_
    . rintro i σ Hb hi ⟨z2, z3, xs, rfl, Lb, hd, hk, hx⟩
      have hi' : i < M := by omega
      have e0 : (0 : Int) + (i : Int) = (i : Int) := Int.zero_add _
      rw [e0]
      refine ⟨m, i, rfl, rfl, m6, fun p1 H1 n1 s1 g1 => ⟨m, y, rfl, rfl, m6, fun p2 H2 n2 s2 g2 => ?_⟩⟩
      have g1' := s2 _ _ g1
      refine ⟨⟨_, .of g1'⟩, ⟨_, .of g2⟩, ?_⟩
      refine comp_zip (xs := (bitL m i).map V.bl) (ys := (bitL m y).map V.bl) (fun j zs H' => Same H2 H' /\ zs = ((shared m i y).take j).map V.bl) ⟨Same.refl _, rfl⟩ (by rw [List.length_map, List.length_map, bitL_len, bitL_len])
        (fun j zs H' _ ⟨s, _⟩ => ⟨.of (s _ _ g1'), .of (s _ _ g2)⟩) (fun j zs H' hj ⟨_, e⟩ => by
          rw [List.length_map, bitL_len] at hj
          rw [e]; exact small1000 (by rw [List.length_map, List.length_take]; omega)) ?_ ?_
      . rintro j u v zs H' pp hx hy ⟨s, rfl⟩ hpp
        have hj : j < m := by
          have := (List.getElem?_eq_some_iff.mp hx).1
          rw [List.length_map, bitL_len] at this
          exact this
        have ex : u = .bl (i / 2 ^ j % 2 == 1) := by
          rw [List.getElem?_map, show bitL m i = (List.range m).map _ from rfl, List.getElem?_map, List.getElem?_range hj] at hx
          exact (Option.some.inj hx).symm
        have ey : v = .bl (y / 2 ^ j % 2 == 1) := by
          rw [List.getElem?_map, show bitL m y = (List.range m).map _ from rfl, List.getElem?_map, List.getElem?_range hj] at hy
          exact (Option.some.inj hy).symm
        subst ex ey
        refine ⟨pp, _, rfl, .of upd_same, rfl, _, _, rfl, _, _, rfl, rfl, ?_⟩
        have s' : Same H2 (upd H' pp (.tup [.bl (i / 2 ^ j % 2 == 1), .bl (y / 2 ^ j % 2 == 1)])) := s.trans (Same.upd hpp)
        refine ite2 (fun e => ?_) (fun e => ?_)
        . refine ⟨s', ?_⟩
          rw [shared_take hj, List.map_append, e, Bool.true_and]
          rfl
        . refine ⟨s', ?_⟩
          have e : (i / 2 ^ j % 2 == 1) = false := by simpa using e
          rw [shared_take hj, List.map_append, e, Bool.false_and]
          rfl
      rintro zs H3 ⟨s3, rfl⟩ l3 hl3
      have hlen : ((bitL m i).map V.bl).length = m := by rw [List.length_map, bitL_len]
      have sl : (shared m i y).length = m := by unfold shared; simp [bitL_len]
      rw [hlen, List.take_of_length_le (by omega)]
      generalize shared m i y = ks
      refine ⟨_, .inl ⟨.of upd_same, fun kk hkk => ?_⟩⟩
      have S : Same Hb (upd (upd H3 l3 (.lst (ks.map V.bl))) kk (.tup (ks.map V.bl))) := (s1.trans (s2.trans s3)).trans ((Same.upd hl3).trans (Same.upd hkk))
      have gk : upd (upd H3 l3 (.lst (ks.map V.bl))) kk (.tup (ks.map V.bl)) kk = some (.tup (ks.map V.bl)) := upd_same
      have Lc := Lb.same S
      have hd := S _ _ hd
      have hk := keysB_same hk S
      clear Lb
      generalize upd (upd H3 l3 (.lst (ks.map V.bl))) kk (.tup (ks.map V.bl)) = Hc at *
      dsimp only [gName]
      refine seq_at (fun σ H' => ∃ xs : BX, σ = [some (.ref t), some (.int m), some (.int M), some (.int way), some (.int y), some (.bl fb), some (.ref l), some (.ref p), some (.int i), some (.ref kk), z4] /\ TabL K H t a ns M l H' /\ H' p = some (dB P w p xs) /\ KeysB H' xs /\ xs.length <= i + 1 /\ H' kk = some (.tup (ks.map V.bl)) /\ hasB xs ks = true) ?_ ?_ (by walk_at "sm")
      . refine ⟨xs, ks, gk, hd, hk, ?_⟩
        refine ite2 (fun e => ?_) (fun e => ?_)
        . have hn : hasB xs ks = false := by simpa using e
          refine ⟨a, ns, Lc.tp, okDiv_of (by decide) (by decide), fun d H6 _ _ T6 f6 => ?_⟩
          have L6 := Lc.draw TP T6 f6
          have pt : p ≠ t := TP.neT hp0
          have hd6 : H6 p = some (dB P w p xs) := by rw [f6 p pt]; exact hd
          have nt : ∀ {b : Addr} {ys : List V}, Hc b = some (.tup ys) -> b ≠ t := fun {b ys} hb e => by
            obtain ⟨i, r, c, _, _, h3⟩ := Lc.tp.at_
            rw [e, h3] at hb; cases hb
          have gk6 : H6 kk = some (.tup (ks.map V.bl)) := by rw [f6 kk (nt gk)]; exact gk
          have hk6 : KeysB H6 xs := fun q hq => by rw [f6 _ (nt (hk q hq))]; exact hk q hq
          refine ⟨xs, ks, gk6, hd6, hk6, hn, small1000 (by omega), ?_⟩
          refine ⟨xs ++ [(ks, kk, (false ^^ (d == 1)))], rfl, L6.other TP hp0 pl, upd_same, ?_, by rw [List.length_append]; exact Nat.succ_le_succ hx, ?_, ?_⟩
          . intro q hq
            rcases List.mem_append.mp hq with hq | hq
            . exact keysB_upd hk6 hd6 (fun ys z => nomatch z) q hq
            . have := List.mem_singleton.mp hq
              subst this
              rw [upd_ne (ne_of gk6 hd6 (fun z => nomatch z))]; exact gk6
          . rw [upd_ne (ne_of gk6 hd6 (fun z => nomatch z))]; exact gk6
          . unfold hasB; rw [List.any_append]; simp
        . have hn : hasB xs ks = true := by simpa using e
          exact ⟨xs, rfl, Lc, hd, hk, Nat.le_succ_of_le hx, gk, hn⟩
      rintro σ He ⟨xs, rfl, Le, hd, hk, hx, gk, hh⟩
      obtain ⟨c, v, hv⟩ := hasB_at hh
      obtain ⟨bs, hbs, hbl⟩ := Le.at_
      refine ⟨xs, ks, c, v, gk, hd, hk, hv, _, i, hbs, ixN_nat (by rw [List.length_map]; omega), ?_⟩
      rw [bl_set]
      refine ⟨some (.int i), some (.ref kk), xs, rfl, Le.put TP (by rw [List.length_set]; exact hbl), ?_, keysB_upd hk hbs (fun ys z => nomatch z), hx⟩
      rw [upd_ne pl]; exact hd
    . rintro σ He ⟨z2, z3, xs, rfl, Le, _⟩
      exact ⟨l, way, y, fb, _, z2, z3, z4, rfl, hy, Le⟩
  clear L
  rintro σ Ha ⟨l, way, y, fb, z1, z2, z3, z4, rfl, hy, L⟩
  refine seq_at (TabJ K H t a ns m M) ?_ ?_ (by walk_at "sm")
  . -- some places turned
    refine ⟨a, ns, L.tp, okDiv_of (by decide) (by decide), fun d Hb d0 d3 Tb fb' => ?_⟩
    have Lb := L.draw TP Tb fb'
    have hmul : ∃ N : Nat, d * (if decide (way > 1) = true then 1 else 0) = (N : Int) /\ N <= 2 := by
      by_cases h : way > 1
      . rw [decide_eq_true h, if_pos rfl, Int.mul_one]; exact ⟨d.toNat, by omega, by omega⟩
      . rw [decide_eq_false h, if_neg (by decide), Int.mul_zero]; exact ⟨0, rfl, by omega⟩
    obtain ⟨N, hN, hN2⟩ := hmul
    refine ⟨.inr (.inl ⟨by omega, by omega⟩), (N : Int), congrArg (fun z => [V.int z]) hN, by omega, by omega, ?_⟩
    refine for_range (fun _ => TabJ K H t a ns m M) ⟨l, way, y, fb, z1, z2, z3, z4, rfl, hy, Lb⟩ ?_ (fun σ H' h => h)
    rintro i σ Hc hi ⟨l, way, y, fb, z1, z2, z3, z4, rfl, hy, Lc⟩
    refine ⟨a, ns, Lc.tp, hMd, fun k' Hd k0 k1 Td fd => ?_⟩
    obtain ⟨k, rfl⟩ := Int.eq_ofNat_of_zero_le k0
    have Ld := Lc.draw TP Td fd
    obtain ⟨bs, hbs, hbl⟩ := Ld.at_
    have hk : k < bs.length := by omega
    refine ⟨_, .bl bs[k], .inl (.of hbs), atI_of rfl (by rw [List.getElem?_map, List.getElem?_eq_getElem hk]; rfl), _, k, hbs, ixN_nat (by rw [List.length_map]; omega), ?_⟩
    rw [bl_set]
    exact ⟨l, way, y, fb, z1, some (.int k), z3, some (.int (0 + (i : Int))), rfl, hy, Ld.put TP (by rw [List.length_set]; exact hbl)⟩
  clear L
  rintro σ Ha ⟨l, way, y, fb, z1, z2, z3, z4, rfl, hy, L⟩
  obtain ⟨bs, hbs, hbl⟩ := L.at_
  refine ⟨_, .inl ⟨.of hbs, fun p hp => ?_⟩⟩
  exact q bs p _ hbl (L.tp.free L.fr hp) upd_same (L.tp.upd hp) (L.fr.trans (Frm.upd hp))
def sp_many : Sp := fun vs H Q _ => match vs with
  | [.int x] => ∃ a : Nat, x = a /\ a < 2 ^ 64 /\ Q (.int (many a)) H
  | _ => False
theorem sp_many_mono : SpMono sp_many := fun vs H Q Q' E h q => by
  unfold sp_many at *
  split at q
  . revert q; repeat' first | exact h _ _ | exact newL_mono h | exact out_mono h | exact outT_mono h | walk_at "m"
  . exact q.elim
theorem ok_common_divisor : FnOk P w K mg base CX0 1 T.f_common_divisor T.d_common_divisor ["one", "other"] sp_cd := by
  refine T.F_common_divisor.ok sc_common_divisor (fun vs H Q E h => by unfold sp_cd at h; split at h <;> first | rfl | exact h.elim) (fun cdv A outer s H vs Q E hr h => ?_)
  have hu := hu60 hr
  unfold sp_cd at h
  split at h
  rotate_left
  . exact h.elim
  rename_i a b
  obtain ⟨h1, h2, k⟩ := h
  refine ⟨_, (@pss_cons _ _ _ _ _ (@ps_set _ _ 2 _ _ _ _ sc_common_divisor.nd rfl (by walk_at "e") (@vw _ 0 _ _ (by walk_at "v")) (by rfl) (by walk_at "i")) (@pss_cons _ _ _ _ _ (@ps_set _ _ 3 _ _ _ _ sc_common_divisor.nd rfl (by walk_at "e") (@vw _ 1 _ _ (by walk_at "v")) (by rfl) (by walk_at "i")) (@pss_cons _ _ _ _ _ (@ps_whileM _ _ _ _ _ _ PassesOwn.never (@tu_cmp _ _ _ _ _ _ _ _ om_gt (@vw _ 3 _ _ (by walk_at "v")) (@pe_int _ _ _ _) (by walk_at "n")) (@pss_cons _ _ _ _ _ (@ps_set _ _ 4 _ _ _ _ sc_common_divisor.nd rfl (by walk_at "e") (@pe_op _ _ _ _ _ _ _ _ om_mod (@vw _ 2 _ _ (by walk_at "v")) (@vw _ 3 _ _ (by walk_at "v"))) (by rfl) (by walk_at "i")) (@pss_cons _ _ _ _ _ (@ps_set _ _ 2 _ _ _ _ sc_common_divisor.nd rfl (by walk_at "e") (@vw _ 3 _ _ (by walk_at "v")) (by rfl) (by walk_at "i")) (@pss_one _ _ _ (@ps_set _ _ 3 _ _ _ _ sc_common_divisor.nd rfl (by walk_at "e") (@vw _ 4 _ _ (by walk_at "v")) (by rfl) (by walk_at "i")))))) (@pss_one _ _ _ (@ps_ret _ _ _ _ (@vw _ 2 _ _ (by walk_at "v"))))))), ?_⟩
  refine ⟨fun m σ H' => ∃ (x y : Int) (z : Option V), σ = [some (.int a), some (.int b), some (.int x), some (.int y), z] /\ H' = H /\ 0 <= x /\ 0 <= y /\ Int.gcd x y = Int.gcd a b /\ m = y.toNat, ⟨_, a, b, none, rfl, rfl, h1, h2, rfl, rfl⟩, ?_⟩
  rintro m σ H' ⟨x, y, z, rfl, rfl, hx, hy, hg, rfl⟩
  show if decide (0 < y) = true then _ else _
  refine ite2 (fun h => ?_) (fun h => ?_)
  . have hy0 : 0 < y := of_decide_eq_true h
    refine ⟨hy0, ?_⟩
    have h3 := Int.emod_nonneg x (show y ≠ 0 by omega)
    have h4 := Int.emod_lt_of_pos x hy0
    refine ⟨(x % y).toNat, by omega, y, x % y, _, rfl, rfl, hy, h3, ?_, rfl⟩
    rw [<- hg, Int.gcd_comm x y]
    exact gcd_mod hx hy
  . have hy0 : y = 0 := by
      have : ¬ 0 < y := fun z => h (decide_eq_true z)
      omega
    subst hy0
    show Q (.int x) H'
    rw [Int.gcd_zero_right] at hg
    have e : x = ((a.gcd b : Nat) : Int) := by rw [<- hg]; omega
    rw [e]
    exact k
theorem ok_share_of : FnOk P w K mg base CX0 2 T.f_share_of T.d_share_of ["top", "bottom"] sp_share := by
  have G_common_divisor := ok_common_divisor (P := P) (w := w) (base := base) T
  refine T.F_share_of.ok sc_share_of (fun vs H Q E h => by unfold sp_share at h; split at h <;> first | rfl | exact h.elim) (fun cdv A outer s H vs Q E hr h => ?_)
  have hu := hu60 hr
  have hr_common_divisor := hr.mono (show 1 <= _ by decide)
  have mo1 : SpMono sp_cd := sp_cd_mono
  unfold sp_share at h
  split at h
  rotate_left
  . exact h.elim
  rename_i a b
  obtain ⟨hb, sa, sb, k⟩ := h
  refine ⟨_, (@pss_cons _ _ _ _ _ (@ps_set _ _ 2 _ _ _ _ sc_share_of.nd rfl (by walk_at "e") (@pe_call _ _ _ _ _ _ _ _ _ _ _ _ _ _ _ _ G_common_divisor hr_common_divisor rfl T.m_common_divisor T.F_common_divisor.kp T.b_common_divisor .nil pass0 (@pa_cons _ _ _ _ _ (@pe_callB _ _ _ _ _ _ _ _ _ cm_abs rfl T.z_abs (by rfl) (@pa1 _ _ _ (@vw _ 0 _ _ (by walk_at "v")) (by rfl)) (by decide) (by decide) (by rfl) (by rfl)) (@pa1 _ _ _ (@pe_callB _ _ _ _ _ _ _ _ _ cm_abs rfl T.z_abs (by rfl) (@pa1 _ _ _ (@vw _ 1 _ _ (by walk_at "v")) (by rfl)) (by decide) (by decide) (by rfl) (by rfl)) (by rfl)) (by rfl)) (by decide) (by rfl) (by rfl)) (by rfl) (by walk_at "i")) (@pss_cons _ _ _ _ _ (@ps_if _ _ _ _ _ _ _ _ (@tu_cmp _ _ _ _ _ _ _ _ om_lt (@vw _ 1 _ _ (by walk_at "v")) (@pe_int _ _ _ _) (by walk_at "n")) (@pss_one _ _ _ (@ps_set _ _ 2 _ _ _ _ sc_share_of.nd rfl (by walk_at "e") (@pe_un _ _ _ _ _ _ um_neg (@vw _ 2 _ _ (by walk_at "v"))) (by rfl) (by walk_at "i"))) (@pss_nil _)) (@pss_one _ _ _ (@ps_ret _ _ _ _ (@pe_tup _ _ _ _ _ (@pa_cons _ _ _ _ _ (@pe_op _ _ _ _ _ _ _ _ om_div (@vw _ 0 _ _ (by walk_at "v")) (@vw _ 2 _ _ (by walk_at "v"))) (@pa1 _ _ _ (@pe_op _ _ _ _ _ _ _ _ om_div (@vw _ 1 _ _ (by walk_at "v")) (@vw _ 2 _ _ (by walk_at "v"))) (by rfl)) (by rfl))))))), ?_⟩
  have eg : (Int.gcd (a.natAbs : Int) (b.natAbs : Int)) = a.gcd b := by unfold Int.gcd; simp
  obtain ⟨_, _, g0, g1⟩ := sh_small sa sb hb
  refine ⟨by omega, by omega, ?_⟩
  dsimp only [gName]
  rw [eg]
  refine ite2 (fun e => ?_) (fun e => ?_)
  . have hb0 : b < 0 := of_decide_eq_true e
    omega
  have okd : okDiv ((a.gcd b : Nat) : Int) := by
    refine ⟨g0, Int.lt_of_le_of_lt g1 ?_⟩
    have e1 : b = ((b.natAbs : Nat) : Int) := by omega
    have e2 : ((b.natAbs : Nat) : Int) < ((2 ^ 1000 : Nat) : Int) := Int.ofNat_lt.mpr sb
    have e3 : ((2 ^ 1000 : Nat) : Int) <= 2 ^ 4096 := by decide +kernel
    omega
  refine ⟨okd, okd, small_le (show 2 <= 1000 by decide), fun p hp => ?_⟩
  exact k p hp
theorem ok_many_in : FnOk P w K mg base CX0 1 T.f_many_in T.d_many_in ["subset"] sp_many := by
  refine T.F_many_in.ok sc_many_in (fun vs H Q E h => by unfold sp_many at h; split at h <;> first | rfl | exact h.elim) (fun cdv A outer s H vs Q E hr h => ?_)
  have hu := hu60 hr
  unfold sp_many at h
  split at h
  rotate_left
  . exact h.elim
  rename_i x
  obtain ⟨a, e1, h1, q⟩ := h
  subst e1
  refine ⟨_, (@pss_cons _ _ _ _ _ (@ps_set _ _ 1 _ _ _ _ sc_many_in.nd rfl (by walk_at "e") (@pe_int _ _ _ _) (by rfl) (by walk_at "i")) (@pss_cons _ _ _ _ _ (@ps_set _ _ 2 _ _ _ _ sc_many_in.nd rfl (by walk_at "e") (@vw _ 0 _ _ (by walk_at "v")) (by rfl) (by walk_at "i")) (@pss_cons _ _ _ _ _ (@ps_whileM _ _ _ _ _ _ PassesOwn.never (@tu_cmp _ _ _ _ _ _ _ _ om_gt (@vw _ 2 _ _ (by walk_at "v")) (@pe_int _ _ _ _) (by walk_at "n")) (@pss_cons _ _ _ _ _ (@ps_set _ _ 1 _ _ _ _ sc_many_in.nd rfl (by walk_at "e") (@pe_op _ _ _ _ _ _ _ _ (kAdd (K := K)) (@vw _ 1 _ _ (by walk_at "v")) (@pe_op _ _ _ _ _ _ _ _ om_mod (@vw _ 2 _ _ (by walk_at "v")) (@pe_int _ _ _ _))) (by rfl) (by walk_at "i")) (@pss_one _ _ _ (@ps_set _ _ 2 _ _ _ _ sc_many_in.nd rfl (by walk_at "e") (@pe_op _ _ _ _ _ _ _ _ om_div (@vw _ 2 _ _ (by walk_at "v")) (@pe_int _ _ _ _)) (by rfl) (by walk_at "i"))))) (@pss_one _ _ _ (@ps_ret _ _ _ _ (@vw _ 1 _ _ (by walk_at "v"))))))), ?_⟩
  refine ⟨fun f σ H' => H' = H /\ ∃ m r : Nat, σ = [some (.int a), some (.int m), some (.int r)] /\ r < 2 ^ f /\ m + manyF f r = many a, ⟨64, rfl, 0, a, rfl, h1, by unfold many; exact Nat.zero_add _⟩, ?_⟩
  rintro f σ H' ⟨rfl, m, r, rfl, hr1, hm⟩
  refine ite2 (fun e => ?_) (fun e => ?_)
  . have r0 : 0 < r := by have : (0 : Int) < (r : Int) := of_decide_eq_true e; omega
    cases f with
    | zero => simp at hr1; omega
    | succ f =>
      refine ⟨by decide, okDiv_of (by decide) (by decide), ?_⟩
      refine ⟨f, Nat.lt_succ_self _, rfl, m + r % 2, r / 2, ?_, ?_, ?_⟩
      . show [some (V.int (a : Int)), some (V.int ((m : Int) + (r : Int) % 2)), some (V.int ((r : Int) / 2))] = _
        rw [Int.natCast_add, Int.natCast_emod, Int.natCast_ediv]
        rfl
      . rw [Nat.pow_succ] at hr1; omega
      . rw [<- hm]
        show m + r % 2 + manyF f (r / 2) = m + (r % 2 + manyF f (r / 2))
        omega
  . have r0 : r = 0 := by
      have : ¬ (0 : Int) < (r : Int) := fun z => e (decide_eq_true z)
      omega
    subst r0
    rw [manyF_zero, Nat.add_zero] at hm
    rw [<- hm] at q
    exact q
def signP (a b : Nat) : Int := if many (a &&& b) % 2 = 1 then -1 else 1
def sp_signP : Sp := fun vs H Q _ => match vs with
  | [.int x, .int y] => ∃ a b : Nat, x = a /\ y = b /\ a < 2 ^ 64 /\ Q (.int (signP a b)) H
  | _ => False
theorem ok_sign : FnOk P w K mg base CX0 2 T.f_sign T.d_sign ["subset", "place"] sp_signP := by
  have G_many_in := ok_many_in (P := P) (w := w) (base := base) T
  refine T.F_sign.ok sc_sign (fun vs H Q E h => by unfold sp_signP at h; split at h <;> first | rfl | exact h.elim) (fun cdv A outer s H vs Q E hr h => ?_)
  have hu := hu60 hr
  have hr_many_in := hr.mono (show 1 <= _ by decide)
  unfold sp_signP at h
  split at h
  rotate_left
  . exact h.elim
  rename_i x y
  obtain ⟨a, b, e1, e2, h1, q⟩ := h
  subst e1 e2
  refine ⟨_, (@pss_one _ _ _ (@ps_ret _ _ _ _ (@pe_ifExp _ _ _ _ _ _ _ _ (@tu_cmp _ _ _ _ _ _ _ _ (kEq (K := K) hu) (@pe_op _ _ _ _ _ _ _ _ om_mod (@pe_call _ _ _ _ _ _ _ _ _ _ _ _ _ _ _ _ G_many_in hr_many_in rfl T.m_many_in T.F_many_in.kp T.b_many_in .nil pass0 (@pa1 _ _ _ (@pe_op _ _ _ _ _ _ _ _ om_and (@vw _ 0 _ _ (by walk_at "v")) (@vw _ 1 _ _ (by walk_at "v"))) (by rfl)) (by decide) (by rfl) (by rfl)) (@pe_int _ _ _ _)) (@pe_int _ _ _ _) (by walk_at "n")) (@pe_un _ _ _ _ _ _ um_neg (@pe_int _ _ _ _)) (@pe_int _ _ _ _)))), ?_⟩
  refine ⟨a &&& b, bitAnd_nat a b, Nat.lt_of_le_of_lt Nat.and_le_left h1, by decide, ?_⟩
  unfold signP at q
  generalize many (a &&& b) = m at q ⊢
  have e : ((m : Int) % 2 == 1) = decide (m % 2 = 1) := by
    rw [Bool.eq_iff_iff]
    simp only [beq_iff_eq, decide_eq_true_eq]
    omega
  show if (false ^^ ((m : Int) % 2 == 1)) = true then Q (.int (-1)) H else Q (.int 1) H
  rw [e]
  refine ite2 (fun z => ?_) (fun z => ?_)
  . rw [if_pos (by simpa using z)] at q
    exact q
  . rw [if_neg (by simpa using z)] at q
    exact q
def sp_overall (K : W.Frag) : Sp := fun vs H Q _ => match vs with
  | [v, .int z] => ∃ (m : Nat) (ts : List (Nat × Int)), SumAt K H v m ts /\ m <= 6 /\ z.natAbs < 2 ^ 1000 /\ ∀ p, H p = none -> Q (.ref p) (upd H p (.tup [.int (shT z ((2 ^ (2 * m) : Nat) : Int)), .int (shB z ((2 ^ (2 * m) : Nat) : Int))]))
  | _ => False
theorem four_small {m : Nat} (m6 : m <= 6) : (((2 ^ (2 * m) : Nat) : Int)).natAbs < 2 ^ 1000 := by
  have h1 : 2 ^ (2 * m) <= 2 ^ 12 := Nat.pow_le_pow_right (by decide) (by omega)
  have h2 : (2 : Nat) ^ 12 < 2 ^ 1000 := Nat.pow_lt_pow_right (by decide) (by decide)
  rw [Int.natAbs_natCast]
  exact Nat.lt_of_le_of_lt h1 h2
theorem four_eq (m : Nat) : ((2 ^ (2 * m) : Nat) : Int) = ((2 ^ m : Nat) : Int) * ((2 ^ m : Nat) : Int) := by
  rw [<- Int.natCast_mul, <- Nat.pow_add, Nat.two_mul]
theorem ok_over_all : FnOk P w K mg base CX0 3 T.f_over_all T.d_over_all ["one", "squares"] (sp_overall K) := by
  have G_share_of := ok_share_of (P := P) (w := w) (base := base) T; have G_two_to := ok_two_to (P := P) (w := w) (base := base) T
  refine T.F_over_all.ok sc_over_all (fun vs H Q E h => by unfold sp_overall at h; split at h <;> first | rfl | exact h.elim) (fun cdv A outer s H vs Q E hr h => ?_)
  have hu := hu60 hr
  have hr_share_of := hr.mono (show 2 <= _ by decide); have hr_two_to := hr.mono (show 2 <= _ by decide)
  unfold sp_overall at h
  split at h
  rotate_left
  . exact h.elim
  rename_i v z
  obtain ⟨m, ts, S, m6, hz, q⟩ := h
  obtain ⟨a, b, vs, rfl, ha, hb, hr'⟩ := S.at_
  refine ⟨_, (@pss_one _ _ _ (@ps_ret _ _ _ _ (@pe_call _ _ _ _ _ _ _ _ _ _ _ _ _ _ _ _ G_share_of hr_share_of rfl T.m_share_of T.F_share_of.kp T.b_share_of .nil pass0 (@pa_cons _ _ _ _ _ (@vw _ 1 _ _ (by walk_at "v")) (@pa1 _ _ _ (@pe_call _ _ _ _ _ _ _ _ _ _ _ _ _ _ _ _ G_two_to hr_two_to rfl T.m_two_to T.F_two_to.kp T.b_two_to .nil pass0 (@pa1 _ _ _ (@pe_op _ _ _ _ _ _ _ _ om_mul (@pe_int _ _ _ _) (@kIx _ K _ _ _ _ _ (@vw _ 0 _ _ (by walk_at "v")) (@pe_int _ _ _ _) (by intro _ _; rfl) (by rfl))) (by rfl)) (by decide) (by rfl) (by rfl)) (by rfl)) (by rfl)) (by decide) (by rfl) (by rfl)))), ?_⟩
  refine ⟨_, .int m, .inr ha, rfl, .inr (.inl ⟨by decide, by decide⟩), 2 * m, by omega, by omega, ?_⟩
  have h0 := Nat.two_pow_pos (2 * m)
  exact ⟨by omega, hz, four_small m6, q⟩
def sp_matters (K : W.Frag) : Sp := fun vs H Q _ => match vs with
  | [v, .int z] => ∃ (m t : Nat) (g : Nat -> Int), SumAt K H v m (termG g (2 ^ m)) /\ m <= 6 /\ Light g /\ z = t /\ ∀ p H', H p = none -> Same H H' -> H' p = some (.tup [.int (shT (oddSq m g t) ((2 ^ (2 * m) : Nat) : Int)), .int (shB (oddSq m g t) ((2 ^ (2 * m) : Nat) : Int))]) -> Q (.ref p) H'
  | _ => False
theorem sp_matters_mono : SpMono (sp_matters K) := fun vs H Q Q' E h q => by
  unfold sp_matters at *
  split at q
  . revert q; repeat' first | exact h _ _ | exact newL_mono h | exact out_mono h | exact outT_mono h | walk_at "m"
  . exact q.elim
theorem oddSq_small {m : Nat} {g : Nat -> Int} (m6 : m <= 6) (hg : Light g) (t : Nat) : (oddSq m g t).natAbs < 2 ^ 1000 := by
  have h64 : 2 ^ m <= 64 := Nat.pow_le_pow_right (n := 2) (by decide) m6
  have h := sumTo_range (f := fun s => if chi m s t = -1 then g s * g s else 0) (B := 4096) (n := 2 ^ m) fun j _ => by
    have := sq_le (hg j)
    split <;> omega
  have h2 : (2 : Nat) ^ 20 < 2 ^ 1000 := Nat.pow_lt_pow_right (by decide) (by decide)
  refine Nat.lt_trans ?_ h2
  unfold oddSq
  omega
def sp_oddw : Sp := fun vs H Q _ => match vs with
  | [.int x, .int y] => ∃ a b : Nat, x = a /\ y = b /\ a < 2 ^ 64 /\ Q (.bl (decide (signP a b = -1))) H
  | _ => False
theorem ok_is_odd_with : FnOk P w K mg base CX0 3 T.f_is_odd_with T.d_is_odd_with ["one", "other"] sp_oddw := by
  have G_sign := ok_sign (P := P) (w := w) (base := base) T
  refine T.F_is_odd_with.ok sc_is_odd_with (fun vs H Q E h => by unfold sp_oddw at h; split at h <;> first | rfl | exact h.elim) (fun cdv A outer s H vs Q E hr h => ?_)
  have hu := hu60 hr
  have hr_sign := hr.mono (show 2 <= _ by decide)
  unfold sp_oddw at h
  split at h
  rotate_left
  . exact h.elim
  rename_i x y
  obtain ⟨a, b, e1, e2, h1, q⟩ := h
  subst e1 e2
  refine ⟨_, (@pss_one _ _ _ (@ps_ret _ _ _ _ (@pe_cmpM _ _ _ _ _ _ _ _ (kEq (K := K) hu) (@pe_call _ _ _ _ _ _ _ _ _ _ _ _ _ _ _ _ G_sign hr_sign rfl T.m_sign T.F_sign.kp T.b_sign .nil pass0 (@pa_cons _ _ _ _ _ (@vw _ 0 _ _ (by walk_at "v")) (@pa1 _ _ _ (@vw _ 1 _ _ (by walk_at "v")) (by rfl)) (by rfl)) (by decide) (by rfl) (by rfl)) (@pe_un _ _ _ _ _ _ um_neg (@pe_int _ _ _ _)) (by walk_at "n")))), ?_⟩
  refine ⟨a, b, rfl, rfl, h1, ?_⟩
  have e : (false ^^ (signP a b == -1)) = decide (signP a b = -1) := by
    rw [Bool.false_xor, Bool.eq_iff_iff]
    simp only [beq_iff_eq, decide_eq_true_eq]
  show Q (.bl (false ^^ (signP a b == -1))) H
  rw [e]
  exact q
def oddT (m : Nat) (ts : List (Nat × Int)) (t : Nat) : Int := addT (fun k w => if chi m k t = -1 then w * w else 0) ts
theorem oddT_termG (m : Nat) (g : Nat -> Int) (t : Nat) : oddT m (termG g (2 ^ m)) t = oddSq m g t := by
  unfold oddT oddSq
  rw [addT_termG]
  intro k
  split <;> rfl
def sp_oddsq (K : W.Frag) : Sp := fun vs H Q _ => match vs with
  | [v, .int z] => ∃ (m t : Nat) (ts : List (Nat × Int)), SumAt K H v m ts /\ m <= 6 /\ ts.length <= 64 /\ (∀ q ∈ ts, q.1 < 2 ^ m /\ -64 <= q.2 /\ q.2 <= 64) /\ z = t /\ ∀ H', Same H H' -> Q (.int (oddT m ts t)) H'
  | _ => False
theorem ok_odd_squares : FnOk P w K mg base CX0 4 T.f_odd_squares T.d_odd_squares ["one", "subset"] (sp_oddsq K) := by
  have G_is_odd_with := ok_is_odd_with (P := P) (w := w) (base := base) T
  refine T.F_odd_squares.ok sc_odd_squares (fun vs H Q E h => by unfold sp_oddsq at h; split at h <;> first | rfl | exact h.elim) (fun cdv A outer s H vs Q E hr h => ?_)
  have hu := hu60 hr
  have hr_is_odd_with := hr.mono (show 3 <= _ by decide)
  unfold sp_oddsq at h
  split at h
  rotate_left
  . exact h.elim
  rename_i v z
  obtain ⟨m, t, ts, S, m6, tl, ht, e1, q⟩ := h
  subst e1
  obtain ⟨a, b, vs, rfl, ha, hb, hr'⟩ := id S.at_
  have h64 : 2 ^ m <= 64 := Nat.pow_le_pow_right (n := 2) (by decide) m6
  refine ⟨_, (@pss_one _ _ _ (@ps_ret _ _ _ _ (@pe_callB _ _ _ _ _ _ _ _ _ (kSum (K := K) rfl) rfl T.z_sum (by rfl) (@pa1 _ _ _ (@pe_compB _ _ _ _ _ _ _ (["each", "weight", "subset"]) 2 [1] _ _ _ _ rfl (@kSeq _ K _ _ _ (@kIx _ K _ _ _ _ _ (@vw _ 0 _ _ (by walk_at "v")) (@pe_int _ _ _ _) (by intro _ _; rfl) (by rfl)) (by rfl)) (by kernel_rfl) rfl rfl (by kernel_rfl) (fun c => @kTup _ K _ _ _ _ 2 rfl (@pgs_cons _ _ _ _ _ (@pg_name _ _ 0 _ (show (["each", "weight", "subset"] : List Str).Nodup by decide +kernel) rfl (by walk_at "e") (by walk_at "i")) (@pgs_cons _ _ _ _ _ (@pg_name _ _ 1 _ (show (["each", "weight", "subset"] : List Str).Nodup by decide +kernel) rfl (by walk_at "e") (by walk_at "i")) (@pgs_nil _) (by rfl)) (by rfl)) (by rfl) (by rfl) (by rfl)) (go_tup (gos_cons gm_name (gms_cons gm_name gms_nil) (go_name (by decide)) (gos_cons gm_name gms_nil (go_name (by decide)) gos_nil))) (fun c => @pts_one _ _ _ (@tu_val _ _ _ (@pe_call _ _ _ _ _ _ _ _ _ _ _ _ _ _ _ _ G_is_odd_with hr_is_odd_with rfl T.m_is_odd_with T.F_is_odd_with.kp T.b_is_odd_with .nil pass0 (@pa_cons _ _ _ _ _ (@vw _ 0 _ _ (by walk_at "v")) (@pa1 _ _ _ (@vw _ 2 _ _ (by walk_at "v")) (by rfl)) (by rfl)) (by decide) (by rfl) (by rfl)) (by intro _; rfl))) (fun c => (@pe_op _ _ _ _ _ _ _ _ om_mul (@vw _ 1 _ _ (by walk_at "v")) (@vw _ 1 _ _ (by walk_at "v")))) (by intro _; rfl)) (by rfl)) (by decide) (by decide) (by rfl) (by rfl)))), ?_⟩
  refine ⟨_, .ref b, .inr ha, rfl, .inr ⟨⟨_, hb⟩, ?_⟩⟩
  have hvl : vs.length = ts.length := by have := hr'.length; rw [List.length_map] at this; omega
  let f : Nat -> Int -> List Int := fun k w => if chi m k t = -1 then [w * w] else []
  have fl : ∀ k w, (f k w).length <= 1 := fun k w => by show (if chi m k t = -1 then [w * w] else []).length <= 1; split <;> simp
  refine comp_tup (xs := vs) (fun i ys H' => H' = H /\ ys = (foldT f (ts.take i)).map V.int) ⟨rfl, rfl⟩ (fun i ys H' _ ⟨e, _⟩ => by rw [e]; exact hb) (fun i ys H' hi ⟨_, e⟩ => by
    have := foldT_len fl (ts.take i)
    rw [List.length_take] at this
    rw [e, List.length_map]; exact small1000 (by omega)) ?_ ?_
  . rintro i x ys H' hx ⟨rfl, rfl⟩
    obtain ⟨⟨k, wgt⟩, c, hq, rfl, hc⟩ := reps_terms_at hr' hx
    have hm := ht _ (List.mem_of_getElem? hq)
    have hk : k < 2 ^ m := hm.1
    refine ⟨c, _, rfl, hc, rfl, _, _, rfl, _, _, rfl, rfl, ?_⟩
    refine ⟨k, t, rfl, rfl, by omega, ?_⟩
    have ec : signP k t = chi m k t := (chi_many hk (by omega)).symm
    rw [foldT_take hq, List.map_append]
    refine ite2 (fun e => ?_) (fun e => ?_)
    . have e' : chi m k t = -1 := by rw [<- ec]; exact of_decide_eq_true e
      refine ⟨light_mul hm.2, rfl, ?_⟩
      show _ = _ ++ (f k wgt).map V.int
      show _ = _ ++ ((if chi m k t = -1 then [wgt * wgt] else []) : List Int).map V.int
      rw [if_pos e']; rfl
    . have e' : ¬ chi m k t = -1 := by rw [<- ec]; exact fun z => e (decide_eq_true z)
      refine ⟨rfl, ?_⟩
      show _ = _ ++ ((if chi m k t = -1 then [wgt * wgt] else []) : List Int).map V.int
      rw [if_neg e', List.map_nil, List.append_nil]
  . rintro ys H' ⟨rfl, rfl⟩ l hl
    rw [List.take_of_length_le (by omega)]
    refine ⟨_, .of upd_same, ?_⟩
    have es : (foldT f ts).sum = oddT m ts t := by
      rw [foldT_sum]
      unfold oddT
      congr 1
      funext k w
      show ((if chi m k t = -1 then [w * w] else []) : List Int).sum = _
      split <;> simp
    rw [es]
    exact q _ (Same.upd hl)
theorem ok_matters : FnOk P w K mg base CX0 5 T.f_matters T.d_matters ["one", "subset"] (sp_matters K) := by
  have G_over_all := ok_over_all (P := P) (w := w) (base := base) T; have G_odd_squares := ok_odd_squares (P := P) (w := w) (base := base) T
  refine T.F_matters.ok sc_matters (fun vs H Q E h => by unfold sp_matters at h; split at h <;> first | rfl | exact h.elim) (fun cdv A outer s H vs Q E hr h => ?_)
  have hu := hu60 hr
  have hr_over_all := hr.mono (show 3 <= _ by decide); have hr_odd_squares := hr.mono (show 4 <= _ by decide)
  unfold sp_matters at h
  split at h
  rotate_left
  . exact h.elim
  rename_i v z
  obtain ⟨m, t, g, S, m6, hg, e1, q⟩ := h
  subst e1
  have h64 : 2 ^ m <= 64 := Nat.pow_le_pow_right (n := 2) (by decide) m6
  have htl := termG_len g (2 ^ m)
  refine ⟨_, (@pss_one _ _ _ (@ps_ret _ _ _ _ (@pe_call _ _ _ _ _ _ _ _ _ _ _ _ _ _ _ _ G_over_all hr_over_all rfl T.m_over_all T.F_over_all.kp T.b_over_all .nil pass0 (@pa_cons _ _ _ _ _ (@vw _ 0 _ _ (by walk_at "v")) (@pa1 _ _ _ (@pe_call _ _ _ _ _ _ _ _ _ _ _ _ _ _ _ _ G_odd_squares hr_odd_squares rfl T.m_odd_squares T.F_odd_squares.kp T.b_odd_squares .nil pass0 (@pa_cons _ _ _ _ _ (@vw _ 0 _ _ (by walk_at "v")) (@pa1 _ _ _ (@vw _ 1 _ _ (by walk_at "v")) (by rfl)) (by rfl)) (by decide) (by rfl) (by rfl)) (by rfl)) (by rfl)) (by decide) (by rfl) (by rfl)))), ?_⟩
  refine ⟨m, t, _, S, m6, by omega, fun q hq => ?_, rfl, fun H1 S1 => ?_⟩
  . have hm := termG_mem hq
    refine ⟨hm.1, ?_⟩
    rw [hm.2.1]; exact hg _
  rw [oddT_termG]
  refine ⟨m, _, S.same S1, m6, oddSq_small m6 hg t, fun p hp => ?_⟩
  exact q p _ (S1.free hp) (S1.trans (Same.upd hp)) upd_same
def sp_sqlev (K : W.Frag) : Sp := fun vs H Q _ => match vs with
  | [v] => ∃ (m : Nat) (g : Nat -> Int), SumAt K H v m (termG g (2 ^ m)) /\ m <= 6 /\ Light g /\ ∀ l H', H l = none -> Same H H' -> H' l = some (.lst (ixL (lvF m g (2 ^ m)) (m + 1))) -> Q (.ref l) H'
  | _ => False
theorem rep_zero (n : Nat) : (List.replicate n [V.int 0]).flatten = ixL (fun _ => 0) n := by
  induction n with
  | zero => rfl
  | succ n ih => rw [List.replicate_succ', List.flatten_append, ih, ixL_succ]; rfl
theorem ok_squares_by_level : FnOk P w K mg base CX0 2 T.f_squares_by_level T.d_squares_by_level ["one"] (sp_sqlev K) := by
  have G_many_in := ok_many_in (P := P) (w := w) (base := base) T
  refine T.F_squares_by_level.ok sc_squares_by_level (fun vs H Q E h => by unfold sp_sqlev at h; split at h <;> first | rfl | exact h.elim) (fun cdv A outer s H vs Q E hr h => ?_)
  have hu := hu60 hr
  have mo1 : SpMono sp_many := sp_many_mono
  have hr_many_in := hr.mono (show 1 <= _ by decide)
  unfold sp_sqlev at h
  split at h
  rotate_left
  . exact h.elim
  rename_i v
  obtain ⟨m, g, S, m6, hg, q⟩ := h
  obtain ⟨a, b, vs, rfl, ha, hb, hr'⟩ := id S.at_
  have h64 : 2 ^ m <= 64 := Nat.pow_le_pow_right (n := 2) (by decide) m6
  have hvl : vs.length = (termG g (2 ^ m)).length := by have := hr'.length; rw [List.length_map] at this; omega
  refine ⟨_, (@pss_cons _ _ _ _ _ (@ps_set _ _ 1 _ _ _ _ sc_squares_by_level.nd rfl (by walk_at "e") (@pe_op _ _ _ _ _ _ _ _ om_mul (@pe_lst _ _ _ _ (@pa1 _ _ _ (@pe_int _ _ _ _) (by rfl))) (@pe_op _ _ _ _ _ _ _ _ (kAdd (K := K)) (@kIx _ K _ _ _ _ _ (@vw _ 0 _ _ (by walk_at "v")) (@pe_int _ _ _ _) (by intro _ _; rfl) (by rfl)) (@pe_int _ _ _ _))) (by rfl) (by walk_at "i")) (@pss_cons _ _ _ _ _ (@ps_for _ _ _ _ _ _ _ _ PassesOwn.never rfl (@kSeq _ K _ _ _ (@kIx _ K _ _ _ _ _ (@vw _ 0 _ _ (by walk_at "v")) (@pe_int _ _ _ _) (by intro _ _; rfl) (by rfl)) (by rfl)) (@kTupA _ K _ _ _ _ 2 rfl (@pgs_cons _ _ _ _ _ (@pg_name _ _ 2 _ sc_squares_by_level.nd rfl (by walk_at "e") (by walk_at "i")) (@pgs_cons _ _ _ _ _ (@pg_name _ _ 3 _ sc_squares_by_level.nd rfl (by walk_at "e") (by walk_at "i")) (@pgs_nil _) (by rfl)) (by rfl)) (by rfl) (by rfl) (by rfl)) (@pss_cons _ _ _ _ _ (@ps_set _ _ 4 _ _ _ _ sc_squares_by_level.nd rfl (by walk_at "e") (@pe_call _ _ _ _ _ _ _ _ _ _ _ _ _ _ _ _ G_many_in hr_many_in rfl T.m_many_in T.F_many_in.kp T.b_many_in .nil pass0 (@pa1 _ _ _ (@vw _ 2 _ _ (by walk_at "v")) (by rfl)) (by decide) (by rfl) (by rfl)) (by rfl) (by walk_at "i")) (@pss_one _ _ _ (@ps_asg _ _ _ _ _ _ (@pe_op _ _ _ _ _ _ _ _ (kAdd (K := K)) (@kIx _ K _ _ _ _ _ (@vw _ 1 _ _ (by walk_at "v")) (@vw _ 4 _ _ (by walk_at "v")) (by intro _ _; rfl) (by rfl)) (@pe_op _ _ _ _ _ _ _ _ om_mul (@vw _ 3 _ _ (by walk_at "v")) (@vw _ 3 _ _ (by walk_at "v")))) (@pg_sub _ _ _ _ _ _ _ (@vw _ 1 _ _ (by walk_at "v")) (@vw _ 4 _ _ (by walk_at "v")) set_any (by intro _; rfl)) (by rfl) (by rfl) (by rfl)))) (by intro _; rfl)) (@pss_one _ _ _ (@ps_ret _ _ _ _ (@vw _ 1 _ _ (by walk_at "v")))))), ?_⟩
  -- found = [0] * (n + 1)
  refine ⟨small_le (show 1 <= 1000 by decide), fun p0 hp0 => ?_⟩
  have ha1 := sqT_same ha (Same.upd (o := .lst [.int 0]) hp0)
  refine ⟨_, .int m, .inr ha1, rfl, p0, (m : Int) + 1, _, rfl, rfl, upd_same, by omega, by omega, small_le (by show 1 * ((m : Int) + 1).toNat <= 1000; omega), fun l hl => ?_⟩
  have en : ((m : Int) + 1).toNat = m + 1 := by omega
  rw [en, rep_zero]
  dsimp only [gName]
  have s1 := (Same.upd (o := .lst [.int 0]) hp0).trans (Same.upd (o := .lst (ixL (fun _ => 0) (m + 1))) hl)
  have hl0 : H l = none := (Same.upd (o := .lst [.int 0]) hp0).free hl
  have g1 : upd (upd H p0 (.lst [.int 0])) l (.lst (ixL (fun _ => 0) (m + 1))) l = some (.lst (ixL (lvT m ((termG g (2 ^ m)).take 0)) (m + 1))) := upd_same
  generalize upd (upd H p0 (.lst [.int 0])) l (.lst (ixL (fun _ => 0) (m + 1))) = H1 at *
  refine ⟨_, .ref b, .inr (sqT_same ha s1), rfl, .inr ⟨⟨_, sqT_same hb s1⟩, ?_⟩⟩
  refine for_tup (xs := vs) (fun i σ H' => ∃ z2 z3 z4 : Option V, σ = [some (.ref a), some (.ref l), z2, z3, z4] /\ Same H H' /\ H' l = some (.lst (ixL (lvT m ((termG g (2 ^ m)).take i)) (m + 1)))) ⟨none, none, none, rfl, s1, g1⟩ (fun i σ H' _ ⟨_, _, _, _, s, _⟩ => sqT_same hb s) ?_ ?_
  . rintro i x σ H2 hx ⟨z2, z3, z4, rfl, s2, g2⟩
    obtain ⟨⟨k, wgt⟩, c, hq, rfl, hc⟩ := reps_terms_at hr' hx
    have hm := termG_mem (List.mem_of_getElem? hq)
    have hk : k < 2 ^ m := hm.1
    have hw : wgt = g k := hm.2.1
    have h1 := hg k
    rw [<- hw] at h1
    have h2 := manyF_le m k
    refine ⟨_, .inr (sqT_same hc s2), rfl, _, _, rfl, _, _, rfl, rfl, ?_⟩
    refine ⟨k, rfl, by omega, ?_⟩
    rw [many_of hk (by omega)]
    refine ⟨_, _, .inl (.of g2), ixL_at (show manyF m k < m + 1 by omega), light_mul h1, _, manyF m k, g2, by rw [ixL_len]; exact ixN_nat (by omega), ?_⟩
    refine ⟨_, _, _, rfl, same_put s2 hl0, ?_⟩
    rw [upd_same, ixL_set]
    congr 2
    exact ixL_congr fun j _ => by
      rw [lvT_take hq]
      by_cases e : j = manyF m k
      . rw [if_pos e, if_pos e, e]
      . rw [if_neg e, if_neg e]
  . rintro σ H2 ⟨z2, z3, z4, rfl, s2, g2⟩
    rw [List.take_of_length_le (by omega), ixL_congr fun j _ => lvT_all m g j (2 ^ m)] at g2
    exact q l H2 hl0 s2 g2
def lvD (m : Nat) (g : Nat -> Int) (n : Nat) : List Dv := (List.range n).map fun j => shD (lvF m g (2 ^ m) j) ((2 ^ (2 * m) : Nat) : Int)
theorem lvD_succ (m : Nat) (g : Nat -> Int) (n : Nat) : lvD m g (n + 1) = lvD m g n ++ [shD (lvF m g (2 ^ m) n) ((2 ^ (2 * m) : Nat) : Int)] := by
  unfold lvD
  rw [List.range_succ, List.map_append]
  rfl
def sp_levels (K : W.Frag) : Sp := fun vs H Q _ => match vs with
  | [v] => ∃ (m : Nat) (g : Nat -> Int), SumAt K H v m (termG g (2 ^ m)) /\ m <= 6 /\ Light g /\ ∀ l vs H', H l = none -> Same H H' -> H' l = some (.lst vs) -> Reps K H' (lvD m g (m + 1)) vs -> Q (.ref l) H'
  | _ => False
theorem sp_levels_mono : SpMono (sp_levels K) := fun vs H Q Q' E h q => by
  unfold sp_levels at *
  split at q
  . revert q; repeat' first | exact h _ _ | exact newL_mono h | exact out_mono h | exact outT_mono h | walk_at "m"
  . exact q.elim
theorem lvF_small {m : Nat} {g : Nat -> Int} (m6 : m <= 6) (hg : Light g) (j : Nat) : (lvF m g (2 ^ m) j).natAbs < 2 ^ 1000 := by
  have h64 : 2 ^ m <= 64 := Nat.pow_le_pow_right (n := 2) (by decide) m6
  have h := lvF_range (m := m) hg (n := 2 ^ m) j
  have h2 : (2 : Nat) ^ 20 < 2 ^ 1000 := Nat.pow_lt_pow_right (by decide) (by decide)
  refine Nat.lt_trans ?_ h2
  omega
theorem ok_levels : FnOk P w K mg base CX0 4 T.f_levels T.d_levels ["one"] (sp_levels K) := by
  have G_over_all := ok_over_all (P := P) (w := w) (base := base) T; have G_squares_by_level := ok_squares_by_level (P := P) (w := w) (base := base) T
  refine T.F_levels.ok sc_levels (fun vs H Q E h => by unfold sp_levels at h; split at h <;> first | rfl | exact h.elim) (fun cdv A outer s H vs Q E hr h => ?_)
  have hu := hu60 hr
  have hr_over_all := hr.mono (show 3 <= _ by decide); have hr_squares_by_level := hr.mono (show 2 <= _ by decide)
  unfold sp_levels at h
  split at h
  rotate_left
  . exact h.elim
  rename_i v
  obtain ⟨m, g, S, m6, hg, q⟩ := h
  refine ⟨_, (@pss_one _ _ _ (@ps_ret _ _ _ _ (@pe_compB _ _ _ _ _ _ _ (["level", "one"]) 1 [0] _ _ _ _ rfl (@kSeq _ K _ _ _ (@pe_call _ _ _ _ _ _ _ _ _ _ _ _ _ _ _ _ G_squares_by_level hr_squares_by_level rfl T.m_squares_by_level T.F_squares_by_level.kp T.b_squares_by_level .nil pass0 (@pa1 _ _ _ (@vw _ 0 _ _ (by walk_at "v")) (by rfl)) (by decide) (by rfl) (by rfl)) (by rfl)) (by kernel_rfl) rfl rfl (by kernel_rfl) (fun c => @pg_name _ _ 0 _ (show (["level", "one"] : List Str).Nodup by decide +kernel) rfl (by walk_at "e") (by walk_at "i")) (go_name (by decide)) (fun c => @pts_nil _) (fun c => (@pe_call _ _ _ _ _ _ _ _ _ _ _ _ _ _ _ _ G_over_all hr_over_all rfl T.m_over_all T.F_over_all.kp T.b_over_all .nil pass0 (@pa_cons _ _ _ _ _ (@vw _ 1 _ _ (by walk_at "v")) (@pa1 _ _ _ (@vw _ 0 _ _ (by walk_at "v")) (by rfl)) (by rfl)) (by decide) (by rfl) (by rfl))) (by intro _; rfl)))), ?_⟩
  refine ⟨m, g, S, m6, hg, fun l0 H1 hl0 s1 g1 => .inl ⟨⟨_, .of g1⟩, ?_⟩⟩
  refine comp_list (xs := ixL (lvF m g (2 ^ m)) (m + 1)) (fun i ys H' => Same H1 H' /\ Reps K H' (lvD m g i) ys /\ ys.length = i) ⟨Same.refl _, reps_nil, rfl⟩ (fun i ys H' _ ⟨s, _⟩ => s.sqL (.of g1)) (fun i ys H' hi ⟨_, _, e⟩ => by rw [ixL_len] at hi; exact small1000 (by omega)) ?_ ?_
  . rintro i x ys H2 hx ⟨s2, r2, l2⟩
    have hi : i < m + 1 := by
      have := (List.getElem?_eq_some_iff.mp hx).1
      rwa [ixL_len] at this
    rw [ixL_get hi] at hx
    cases hx
    refine ⟨m, _, S.same (s1.trans s2), m6, lvF_small m6 hg i, fun p hp => ⟨s2.trans (Same.upd hp), ?_, by rw [List.length_append, l2]; rfl⟩⟩
    rw [lvD_succ]
    exact Reps.append (Reps.same (Same.upd hp) _ _ r2) (reps_cons (rep_sh upd_same) reps_nil)
  . rintro ys H2 ⟨s2, r2, l2⟩ l hl
    rw [ixL_len] at r2
    exact q l ys _ ((s1.trans s2).free hl) (s1.trans (s2.trans (Same.upd hl))) upd_same (Reps.same (Same.upd hl) _ _ r2)
def stW (m : Nat) (y : Int) : Int := ((2 ^ (2 * m) : Nat) : Int) * y ^ m
def stP (m : Nat) (g : Nat -> Int) (x y : Int) (n : Nat) : Int := sumTo (fun j => lvF m g (2 ^ m) j * (y - 2 * x) ^ j * y ^ (m - j)) n
def sp_stays (K : W.Frag) : Sp := fun vs H Q _ => match vs with
  | [v, .ref ps] => ∃ (m : Nat) (g : Nat -> Int) (x y : Int), SumAt K H v m (termG g (2 ^ m)) /\ m <= 6 /\ Light g /\ SqT K H ps [.int x, .int y] /\ 0 < y /\ Nb x 66 /\ Nb y 66 /\ ∀ p H', H p = none -> Same H H' -> H' p = some (.tup [.int (shT (stW m y + stP m g x y (m + 1)) (2 * stW m y)), .int (shB (stW m y + stP m g x y (m + 1)) (2 * stW m y))]) -> Q (.ref p) H'
  | _ => False
theorem sp_stays_mono : SpMono (sp_stays K) := fun vs H Q Q' E h q => by
  unfold sp_stays at *
  split at q
  . revert q; repeat' first | exact h _ _ | exact newL_mono h | exact out_mono h | exact outT_mono h | walk_at "m"
  . exact q.elim
theorem stW_pos {m : Nat} {y : Int} (h : 0 < y) : 0 < stW m y := Int.mul_pos (by have := Nat.two_pow_pos (2 * m); omega) (Int.pow_pos h)
theorem stW_nb {m : Nat} {y : Int} (m6 : m <= 6) (h : Nb y 66) : Nb (stW m y) 500 := by
  have h1 : Nb ((2 ^ (2 * m) : Nat) : Int) 13 := by
    unfold Nb
    rw [Int.natAbs_natCast]
    exact Nat.pow_lt_pow_right (by decide) (by omega)
  exact (h1.mul (h.pow m)).up (by omega)
theorem lv_nb {m : Nat} {g : Nat -> Int} (m6 : m <= 6) (hg : Light g) (j : Nat) : Nb (lvF m g (2 ^ m) j) 20 := by
  have h64 : 2 ^ m <= 64 := Nat.pow_le_pow_right (n := 2) (by decide) m6
  have h := lvF_range (m := m) hg (n := 2 ^ m) j
  unfold Nb
  omega
theorem less_nb {x y : Int} (hx : Nb x 66) (hy : Nb y 66) : Nb (y - 2 * x) 69 := by
  unfold Nb at *
  omega
def stPf (m : Nat) (f : Nat -> Int) (x y : Int) (n : Nat) : Int := sumTo (fun j => f j * (y - 2 * x) ^ j * y ^ (m - j)) n
theorem part_nbf {m : Nat} {f : Nat -> Int} {x y : Int} (m6 : m <= 6) (hf : ∀ j, j < m + 1 -> Nb (f j) 20) (hx : Nb x 66) (hy : Nb y 66) (j : Nat) (hj : j < m + 1) : Nb (f j * (y - 2 * x) ^ j) 500 /\ Nb (y ^ (m - j)) 500 /\ Nb (f j * (y - 2 * x) ^ j * y ^ (m - j)) 900 := by
  have h1 : Nb (f j * (y - 2 * x) ^ j) 440 := ((hf j hj).mul ((less_nb hx hy).pow j)).up (by omega)
  have h2 : Nb (y ^ (m - j)) 440 := (hy.pow (m - j)).up (by omega)
  exact ⟨h1.up (by omega), h2.up (by omega), (h1.mul h2).up (by omega)⟩
def sp_staysby (K : W.Frag) : Sp := fun vs H Q _ => match vs with
  | [.int z, .ref l0, .ref ps] => ∃ (m : Nat) (f : Nat -> Int) (x y : Int), z = m /\ m <= 6 /\ (∀ j, j < m + 1 -> Nb (f j) 20) /\ SqL K H l0 (ixL f (m + 1)) /\ SqT K H ps [.int x, .int y] /\ 0 < y /\ Nb x 66 /\ Nb y 66 /\ ∀ p H', H p = none -> Same H H' -> H' p = some (.tup [.int (shT (stW m y + stPf m f x y (m + 1)) (2 * stW m y)), .int (shB (stW m y + stPf m f x y (m + 1)) (2 * stW m y))]) -> Q (.ref p) H'
  | _ => False
theorem ok_stays_by : FnOk P w K mg base CX0 3 T.f_stays_by T.d_stays_by ["n", "squares", "share"] (sp_staysby K) := by
  have G_share_of := ok_share_of (P := P) (w := w) (base := base) T; have G_two_to := ok_two_to (P := P) (w := w) (base := base) T; have G_power_of := ok_power_of (P := P) (w := w) (base := base) T
  refine T.F_stays_by.ok sc_stays_by (fun vs H Q E h => by unfold sp_staysby at h; split at h <;> first | rfl | exact h.elim) (fun cdv A outer s H vs Q E hr h => ?_)
  have hu := hu60 hr
  have mo2 : SpMono sp_power := sp_power_mono
  have mo3 : SpMono sp_two_to := sp_two_to_mono
  have mo4 : SpMono sp_share := sp_share_mono
  have hr_share_of := hr.mono (show 2 <= _ by decide); have hr_two_to := hr.mono (show 2 <= _ by decide); have hr_power_of := hr.mono (show 1 <= _ by decide)
  unfold sp_staysby at h
  split at h
  rotate_left
  . exact h.elim
  rename_i z l0 ps
  obtain ⟨m, f, x, y, e1, m6, hf, g1, hps, y0, hx, hy, q⟩ := h
  subst e1
  refine ⟨_, (@pss_cons _ _ _ _ _ (@ps_set _ _ 3 _ _ _ _ sc_stays_by.nd rfl (by walk_at "e") (@kIx _ K _ _ _ _ _ (@vw _ 2 _ _ (by walk_at "v")) (@pe_int _ _ _ _) (by intro _ _; rfl) (by rfl)) (by rfl) (by walk_at "i")) (@pss_cons _ _ _ _ _ (@ps_set _ _ 4 _ _ _ _ sc_stays_by.nd rfl (by walk_at "e") (@pe_op _ _ _ _ _ _ _ _ om_sub (@vw _ 3 _ _ (by walk_at "v")) (@pe_op _ _ _ _ _ _ _ _ om_mul (@pe_int _ _ _ _) (@kIx _ K _ _ _ _ _ (@vw _ 2 _ _ (by walk_at "v")) (@pe_int _ _ _ _) (by intro _ _; rfl) (by rfl)))) (by rfl) (by walk_at "i")) (@pss_cons _ _ _ _ _ (@ps_compB _ _ _ _ _ _ _ (["many", "level", "less", "bottom", "n"]) 2 ([4, 3, 0]) _ _ _ _ 5 _ _ _ rfl sc_stays_by.nd rfl rfl (@kEnum _ K _ _ _ _ _ _ _ rfl T.z_enumerate (@pa1 _ _ _ (@vw _ 1 _ _ (by walk_at "v")) (by rfl)) (by rfl) (by rfl)) (by kernel_rfl) rfl rfl (by kernel_rfl) (fun c => @kTup _ K _ _ _ _ 2 rfl (@pgs_cons _ _ _ _ _ (@pg_name _ _ 0 _ (show (["many", "level", "less", "bottom", "n"] : List Str).Nodup by decide +kernel) rfl (by walk_at "e") (by walk_at "i")) (@pgs_cons _ _ _ _ _ (@pg_name _ _ 1 _ (show (["many", "level", "less", "bottom", "n"] : List Str).Nodup by decide +kernel) rfl (by walk_at "e") (by walk_at "i")) (@pgs_nil _) (by rfl)) (by rfl)) (by rfl) (by rfl) (by rfl)) (go_tup (gos_cons gm_name (gms_cons gm_name gms_nil) (go_name (by decide)) (gos_cons gm_name gms_nil (go_name (by decide)) gos_nil))) (fun c => @pts_nil _) (fun c => (@pe_op _ _ _ _ _ _ _ _ om_mul (@pe_op _ _ _ _ _ _ _ _ om_mul (@vw _ 1 _ _ (by walk_at "v")) (@pe_call _ _ _ _ _ _ _ _ _ _ _ _ _ _ _ _ G_power_of hr_power_of rfl T.m_power_of T.F_power_of.kp T.b_power_of .nil pass0 (@pa_cons _ _ _ _ _ (@vw _ 2 _ _ (by walk_at "v")) (@pa1 _ _ _ (@vw _ 0 _ _ (by walk_at "v")) (by rfl)) (by rfl)) (by decide) (by rfl) (by rfl))) (@pe_call _ _ _ _ _ _ _ _ _ _ _ _ _ _ _ _ G_power_of hr_power_of rfl T.m_power_of T.F_power_of.kp T.b_power_of .nil pass0 (@pa_cons _ _ _ _ _ (@vw _ 3 _ _ (by walk_at "v")) (@pa1 _ _ _ (@pe_op _ _ _ _ _ _ _ _ om_sub (@vw _ 4 _ _ (by walk_at "v")) (@vw _ 0 _ _ (by walk_at "v"))) (by rfl)) (by rfl)) (by decide) (by rfl) (by rfl)))) (by rfl) (by intro _; rfl)) (@pss_cons _ _ _ _ _ (@ps_set _ _ 6 _ _ _ _ sc_stays_by.nd rfl (by walk_at "e") (@pe_op _ _ _ _ _ _ _ _ om_mul (@pe_call _ _ _ _ _ _ _ _ _ _ _ _ _ _ _ _ G_two_to hr_two_to rfl T.m_two_to T.F_two_to.kp T.b_two_to .nil pass0 (@pa1 _ _ _ (@pe_op _ _ _ _ _ _ _ _ om_mul (@pe_int _ _ _ _) (@vw _ 0 _ _ (by walk_at "v"))) (by rfl)) (by decide) (by rfl) (by rfl)) (@pe_call _ _ _ _ _ _ _ _ _ _ _ _ _ _ _ _ G_power_of hr_power_of rfl T.m_power_of T.F_power_of.kp T.b_power_of .nil pass0 (@pa_cons _ _ _ _ _ (@vw _ 3 _ _ (by walk_at "v")) (@pa1 _ _ _ (@vw _ 0 _ _ (by walk_at "v")) (by rfl)) (by rfl)) (by decide) (by rfl) (by rfl))) (by rfl) (by walk_at "i")) (@pss_one _ _ _ (@ps_ret _ _ _ _ (@pe_call _ _ _ _ _ _ _ _ _ _ _ _ _ _ _ _ G_share_of hr_share_of rfl T.m_share_of T.F_share_of.kp T.b_share_of .nil pass0 (@pa_cons _ _ _ _ _ (@pe_op _ _ _ _ _ _ _ _ (kAdd (K := K)) (@vw _ 6 _ _ (by walk_at "v")) (@pe_callB _ _ _ _ _ _ _ _ _ (kSum (K := K) rfl) rfl T.z_sum (by rfl) (@pa1 _ _ _ (@vw _ 5 _ _ (by walk_at "v")) (by rfl)) (by decide) (by decide) (by rfl) (by rfl))) (@pa1 _ _ _ (@pe_op _ _ _ _ _ _ _ _ om_mul (@pe_int _ _ _ _) (@vw _ 6 _ _ (by walk_at "v"))) (by rfl)) (by rfl)) (by decide) (by rfl) (by rfl)))))))), ?_⟩
  refine ⟨_, .int y, .inr hps, rfl, ?_⟩
  dsimp only [gName]
  refine ⟨_, .int x, .inr hps, rfl, .inr (.inl ⟨by decide, by decide⟩), ?_⟩
  dsimp only [gName, mSub]
  refine seq_at (fun σ H' => ∃ l : Addr, σ = [some (.int m), some (.ref l0), some (.ref ps), some (.int y), some (.int (y - 2 * x)), some (.ref l), none] /\ Same H H' /\ H' l = some (.lst (ixL (fun j => f j * (y - 2 * x) ^ j * y ^ (m - j)) (m + 1)))) ?_ ?_ (by walk_at "sm")
  . refine ⟨⟨_, g1⟩, ?_⟩
    refine comp_enum (xs := ixL f (m + 1)) (fun i zs H' => Same H H' /\ zs = ixL (fun j => f j * (y - 2 * x) ^ j * y ^ (m - j)) i) ⟨Same.refl _, rfl⟩ (fun i zs H' _ ⟨s, _⟩ => s.sqL g1) (fun i zs H' hi ⟨_, e⟩ => by rw [ixL_len] at hi; rw [e, ixL_len]; exact small1000 (by omega)) ?_ ?_
    . rintro i z zs H2 pp hz ⟨s2, rfl⟩ hpp
      have hi : i < m + 1 := by
        have := (List.getElem?_eq_some_iff.mp hz).1
        rwa [ixL_len] at this
      rw [ixL_get hi] at hz
      cases hz
      obtain ⟨n1, n2, n3⟩ := part_nbf m6 hf hx hy i hi
      refine ⟨pp, _, rfl, .of upd_same, rfl, _, _, rfl, _, _, rfl, rfl, ?_⟩
      refine ⟨i, rfl, by omega, .inr ⟨(less_nb hx hy).up (by omega), by omega⟩, Nb.okMul ((hf i hi).up (by omega)) (((less_nb hx hy).pow i).up (by omega)), ?_⟩
      refine ⟨m - i, by omega, by omega, .inr ⟨hy.up (by omega), by omega⟩, Nb.okMul (n1.up (by omega)) (n2.up (by omega)), s2.trans (Same.upd hpp), ?_⟩
      rw [ixL_succ]
    . rintro zs H2 ⟨s2, rfl⟩ l hl
      rw [ixL_len]
      exact ⟨l, rfl, s2.trans (Same.upd hl), upd_same⟩
  rintro σ H1 ⟨l, rfl, s1, g1⟩
  refine ⟨.inr (.inl ⟨by decide, by decide⟩), 2 * m, by omega, by omega, ?_⟩
  have n13 : Nb ((2 ^ (2 * m) : Nat) : Int) 13 := by
    unfold Nb
    rw [Int.natAbs_natCast]
    exact Nat.pow_lt_pow_right (by decide) (by omega)
  refine ⟨m, rfl, by omega, .inr ⟨hy.up (by omega), by omega⟩, Nb.okMul (n13.up (by omega)) ((hy.pow m).up (by omega)), ?_⟩
  dsimp only [gName]
  have es : ∀ n, ((List.range n).map (fun j => f j * (y - 2 * x) ^ j * y ^ (m - j))).sum = stPf m f x y n := fun n => by
    induction n with
    | zero => rfl
    | succ n ih => rw [List.range_succ, List.map_append, List.sum_append, ih]; simp [stPf, L2.sumTo]
  refine ⟨(List.range (m + 1)).map (fun j => f j * (y - 2 * x) ^ j * y ^ (m - j)), by rw [List.map_map]; exact .of g1, ?_⟩
  dsimp only [mAdd]
  rw [es]
  have w0 := stW_pos (m := m) y0
  have wn := stW_nb m6 hy
  have pn : Nb (stPf m f x y (m + 1)) 910 := (Nb.sum (f := fun j => f j * (y - 2 * x) ^ j * y ^ (m - j)) (a := 900) (n := m + 1) fun j hj => (part_nbf m6 hf hx hy j hj).2.2).up (by omega)
  have e2 : Nb (2 * stW m y) 510 := by
    have two : Nb 2 2 := by unfold Nb; decide
    exact (two.mul wn).up (by omega)
  refine ⟨.inr (.inl ⟨by decide, by decide⟩), Int.mul_pos (by decide) w0, ((wn.up (show 500 <= 910 by omega)).add pn).up (by omega), e2.up (by omega), fun p hp => ?_⟩
  exact q p _ (s1.free hp) (s1.trans (Same.upd hp)) upd_same
theorem ok_stays : FnOk P w K mg base CX0 4 T.f_stays T.d_stays ["one", "share"] (sp_stays K) := by
  have G_stays_by := ok_stays_by (P := P) (w := w) (base := base) T; have G_squares_by_level := ok_squares_by_level (P := P) (w := w) (base := base) T
  refine T.F_stays.ok sc_stays (fun vs H Q E h => by unfold sp_stays at h; split at h <;> first | rfl | exact h.elim) (fun cdv A outer s H vs Q E hr h => ?_)
  have hu := hu60 hr
  have hr_stays_by := hr.mono (show 3 <= _ by decide); have hr_squares_by_level := hr.mono (show 2 <= _ by decide)
  unfold sp_stays at h
  split at h
  rotate_left
  . exact h.elim
  rename_i v ps
  obtain ⟨m, g, x, y, S, m6, hg, hps, y0, hx, hy, q⟩ := h
  obtain ⟨a, b, vs, rfl, ha, hb, hr'⟩ := id S.at_
  refine ⟨_, (@pss_one _ _ _ (@ps_ret _ _ _ _ (@pe_call _ _ _ _ _ _ _ _ _ _ _ _ _ _ _ _ G_stays_by hr_stays_by rfl T.m_stays_by T.F_stays_by.kp T.b_stays_by .nil pass0 (@pa_cons _ _ _ _ _ (@kIx _ K _ _ _ _ _ (@vw _ 0 _ _ (by walk_at "v")) (@pe_int _ _ _ _) (by intro _ _; rfl) (by rfl)) (@pa_cons _ _ _ _ _ (@pe_call _ _ _ _ _ _ _ _ _ _ _ _ _ _ _ _ G_squares_by_level hr_squares_by_level rfl T.m_squares_by_level T.F_squares_by_level.kp T.b_squares_by_level .nil pass0 (@pa1 _ _ _ (@vw _ 0 _ _ (by walk_at "v")) (by rfl)) (by decide) (by rfl) (by rfl)) (@pa1 _ _ _ (@vw _ 1 _ _ (by walk_at "v")) (by rfl)) (by rfl)) (by rfl)) (by decide) (by rfl) (by rfl)))), ?_⟩
  refine ⟨_, .int m, .inr ha, rfl, m, g, S, m6, hg, fun l0 H1 hl0 s1 g1 => ?_⟩
  refine ⟨m, lvF m g (2 ^ m), x, y, rfl, m6, fun j _ => lv_nb m6 hg j, .of g1, s1.sqT hps, y0, hx, hy, fun p H' hp s2 gp => ?_⟩
  exact q p H' (s1.free hp) (s1.trans s2) gp
def sp_crossed (K : W.Frag) : Sp := fun vs H Q _ => match vs with
  | [.ref p, .int s, .int k] => ∃ (g : Nat -> Int) (M sn kn : Nat), SqL K H p (ixL g M) /\ s = sn /\ k = kn /\ kn < M /\ 0 < sn /\ sn <= 64 /\ (kn / sn % 2 ≠ 1 -> kn + sn < M) /\ Q (.int (crossF g sn kn)) H
  | _ => False
theorem sp_crossed_mono : SpMono (sp_crossed K) := fun vs H Q Q' E h q => by
  unfold sp_crossed at *
  split at q
  . revert q; repeat' first | exact h _ _ | exact newL_mono h | exact out_mono h | exact outT_mono h | walk_at "m"
  . exact q.elim
theorem ok_crossed : FnOk P w K mg base CX0 1 T.f_crossed T.d_crossed ["numbers", "step", "place"] (sp_crossed K) := by
  refine T.F_crossed.ok sc_crossed (fun vs H Q E h => by unfold sp_crossed at h; split at h <;> first | rfl | exact h.elim) (fun cdv A outer s H vs Q E hr h => ?_)
  have hu := hu60 hr
  unfold sp_crossed at h
  split at h
  rotate_left
  . exact h.elim
  rename_i p s k
  obtain ⟨g, M, sn, kn, hp, e1, e2, h1, h2, h3, h4, q⟩ := h
  subst e1 e2
  refine ⟨_, (@pss_cons _ _ _ _ _ (@ps_if _ _ _ _ _ _ _ _ (@tu_cmp _ _ _ _ _ _ _ _ (kEq (K := K) hu) (@pe_op _ _ _ _ _ _ _ _ om_mod (@pe_op _ _ _ _ _ _ _ _ om_div (@vw _ 2 _ _ (by walk_at "v")) (@vw _ 1 _ _ (by walk_at "v"))) (@pe_int _ _ _ _)) (@pe_int _ _ _ _) (by walk_at "n")) (@pss_one _ _ _ (@ps_ret _ _ _ _ (@pe_op _ _ _ _ _ _ _ _ om_sub (@kIx _ K _ _ _ _ _ (@vw _ 0 _ _ (by walk_at "v")) (@pe_op _ _ _ _ _ _ _ _ om_sub (@vw _ 2 _ _ (by walk_at "v")) (@vw _ 1 _ _ (by walk_at "v"))) (by intro _ _; rfl) (by rfl)) (@kIx _ K _ _ _ _ _ (@vw _ 0 _ _ (by walk_at "v")) (@vw _ 2 _ _ (by walk_at "v")) (by intro _ _; rfl) (by rfl))))) (@pss_nil _)) (@pss_one _ _ _ (@ps_ret _ _ _ _ (@pe_op _ _ _ _ _ _ _ _ (kAdd (K := K)) (@kIx _ K _ _ _ _ _ (@vw _ 0 _ _ (by walk_at "v")) (@vw _ 2 _ _ (by walk_at "v")) (by intro _ _; rfl) (by rfl)) (@kIx _ K _ _ _ _ _ (@vw _ 0 _ _ (by walk_at "v")) (@pe_op _ _ _ _ _ _ _ _ (kAdd (K := K)) (@vw _ 2 _ _ (by walk_at "v")) (@vw _ 1 _ _ (by walk_at "v"))) (by intro _ _; rfl) (by rfl)))))), ?_⟩
  refine ⟨okDiv_of (by omega) (Int.le_trans (Int.ofNat_le.mpr h3) (by decide)), by decide, ?_⟩
  unfold crossF at q
  have ed : ((kn : Int) / (sn : Int) % 2 == 1) = decide (kn / sn % 2 = 1) := by
    rw [<- Int.natCast_ediv]
    generalize kn / sn = d
    rw [Bool.eq_iff_iff]
    simp only [beq_iff_eq, decide_eq_true_eq]
    omega
  dsimp only [tC, mEq, isB]
  rw [ed]
  refine ite2 (fun e => ?_) (fun e => ?_)
  . have e' : kn / sn % 2 = 1 := by simpa using e
    rw [if_pos e'] at q
    have hge : sn <= kn := by
      rcases Nat.lt_or_ge kn sn with z | z
      . rw [Nat.div_eq_of_lt z] at e'; cases e'
      . exact z
    refine ⟨_, .int (g (kn - sn)), .inl hp, ?_, _, _, .inl hp, ixL_at h1, q⟩
    have : (kn : Int) - (sn : Int) = ((kn - sn : Nat) : Int) := by omega
    rw [this]
    exact ixL_at (by omega)
  . have e' : ¬ kn / sn % 2 = 1 := by simpa using e
    rw [if_neg e'] at q
    refine ⟨_, _, .inl hp, ixL_at h1, _, .int (g (kn + sn)), .inl hp, ?_, q⟩
    have : (kn : Int) + (sn : Int) = ((kn + sn : Nat) : Int) := by omega
    rw [this]
    exact ixL_at (h4 e')
def sp_times (K : W.Frag) : Sp := fun vs H Q _ => match vs with
  | [.ref p] => ∃ (g : Nat -> Int) (m : Nat), SqL K H p (ixL g (2 ^ m)) /\ m <= 6 /\ newL H Q (ixL (hadF g m) (2 ^ m))
  | _ => False
theorem ok_times_signs : FnOk P w K mg base CX0 2 T.f_times_signs T.d_times_signs ["numbers"] (sp_times K) := by
  have G_crossed := ok_crossed (P := P) (w := w) (base := base) T
  refine T.F_times_signs.ok sc_times_signs (fun vs H Q E h => by unfold sp_times at h; split at h <;> first | rfl | exact h.elim) (fun cdv A outer s H vs Q E hr h => ?_)
  have hu := hu60 hr
  have mo1 : SpMono (sp_crossed K) := sp_crossed_mono
  have hr_crossed := hr.mono (show 1 <= _ by decide)
  unfold sp_times at h
  split at h
  rotate_left
  . exact h.elim
  rename_i p
  obtain ⟨g, m, hp, m6, q⟩ := h
  refine ⟨_, (@pss_cons _ _ _ _ _ (@ps_set _ _ 1 _ _ _ _ sc_times_signs.nd rfl (by walk_at "e") (@pe_callTy _ _ _ _ _ _ _ _ _ (kList (K := K)) rfl T.z_list (by rfl) (@pa1 _ _ _ (@vw _ 0 _ _ (by walk_at "v")) (by rfl)) (by decide) (by decide) (by rfl) (by rfl)) (by rfl) (by walk_at "i")) (@pss_cons _ _ _ _ _ (@ps_set _ _ 2 _ _ _ _ sc_times_signs.nd rfl (by walk_at "e") (@pe_int _ _ _ _) (by rfl) (by walk_at "i")) (@pss_cons _ _ _ _ _ (@ps_whileM _ _ _ _ _ _ PassesOwn.never (@tu_cmp _ _ _ _ _ _ _ _ om_lt (@vw _ 2 _ _ (by walk_at "v")) (@pe_callB _ _ _ _ _ _ _ _ _ (kLen (K := K)) rfl T.z_len (by rfl) (@pa1 _ _ _ (@vw _ 1 _ _ (by walk_at "v")) (by rfl)) (by decide) (by decide) (by rfl) (by rfl)) (by walk_at "n")) (@pss_cons _ _ _ _ _ (@ps_set _ _ 1 _ _ _ _ sc_times_signs.nd rfl (by walk_at "e") (@pe_compB _ _ _ _ _ _ _ (["place", "sums", "step"]) 1 ([1, 2]) _ _ _ _ rfl (@pi_range1 _ _ _ _ _ _ rfl T.z_range (@pa1 _ _ _ (@pe_callB _ _ _ _ _ _ _ _ _ (kLen (K := K)) rfl T.z_len (by rfl) (@pa1 _ _ _ (@vw _ 1 _ _ (by walk_at "v")) (by rfl)) (by decide) (by decide) (by rfl) (by rfl)) (by rfl)) (by rfl)) (by kernel_rfl) rfl rfl (by kernel_rfl) (fun c => @pg_name _ _ 0 _ (show (["place", "sums", "step"] : List Str).Nodup by decide +kernel) rfl (by walk_at "e") (by walk_at "i")) (go_name (by decide)) (fun c => @pts_nil _) (fun c => (@pe_call _ _ _ _ _ _ _ _ _ _ _ _ _ _ _ _ G_crossed hr_crossed rfl T.m_crossed T.F_crossed.kp T.b_crossed .nil pass0 (@pa_cons _ _ _ _ _ (@vw _ 1 _ _ (by walk_at "v")) (@pa_cons _ _ _ _ _ (@vw _ 2 _ _ (by walk_at "v")) (@pa1 _ _ _ (@vw _ 0 _ _ (by walk_at "v")) (by rfl)) (by rfl)) (by rfl)) (by decide) (by rfl) (by rfl))) (by intro _; rfl)) (by rfl) (by walk_at "i")) (@pss_one _ _ _ (@ps_set _ _ 2 _ _ _ _ sc_times_signs.nd rfl (by walk_at "e") (@pe_op _ _ _ _ _ _ _ _ om_mul (@vw _ 2 _ _ (by walk_at "v")) (@pe_int _ _ _ _)) (by rfl) (by walk_at "i"))))) (@pss_one _ _ _ (@ps_ret _ _ _ _ (@vw _ 1 _ _ (by walk_at "v"))))))), ?_⟩
  have hin := cross_in m (by omega)
  have hpow : ∀ s, s < m -> 2 ^ s < 2 ^ m := fun s hs => Nat.pow_lt_pow_right (by decide) hs
  have hpm : ∀ s, s < m -> 2 ^ s <= 64 := fun s hs => Nat.le_trans (Nat.le_of_lt (hpow s hs)) (Nat.pow_le_pow_right (n := 2) (j := 6) (by decide) m6)
  have h64 : 2 ^ m <= 64 := Nat.pow_le_pow_right (n := 2) (by decide) m6
  have hpos : ∀ s : Nat, 0 < 2 ^ s := fun s => Nat.two_pow_pos s
  refine ⟨_, .inl hp, fun l hl => ?_⟩
  dsimp only [gName]
  have h0 : ixL g (2 ^ m) = ixL (hadF g 0) (2 ^ m) := rfl
  rw [h0]
  refine seq_at (fun σ H' => σ = [some (.ref p), some (.ref l), some (.int (2 ^ 0 : Nat))] /\ upd H l (.lst (ixL (hadF g 0) (2 ^ m))) = H') ⟨rfl, rfl⟩ ?_ (by walk_at "sm")
  rintro σ _ ⟨rfl, rfl⟩
  generalize hM : 2 ^ m = M at *
  have hMr : (M : Int) < 2 ^ 62 := Int.lt_of_le_of_lt (Int.ofNat_le.mpr h64) (by decide)
  refine ⟨fun f σ H' => ∃ (s : Nat) (l : Addr), s <= m /\ f = m - s /\ σ = [some (.ref p), some (.ref l), some (.int (2 ^ s : Nat))] /\ Same H H' /\ H l = none /\ H' l = some (.lst (ixL (hadF g s) M)), ⟨m, 0, l, Nat.zero_le _, rfl, rfl, Same.upd hl, hl, upd_same⟩, ?_⟩
  clear hl
  rintro f σ H1 ⟨s, l, hs, rfl, rfl, s1, hl, g1⟩
  refine ⟨M, .inl ⟨_, .of g1, ixL_len.symm⟩, ?_⟩
  refine ite2 (fun e => ?_) (fun e => ?_)
  . have hlt : 2 ^ s < M := by have : ((2 ^ s : Nat) : Int) < (M : Int) := of_decide_eq_true e; omega
    have hsm : s < m := by
      rcases Nat.lt_or_ge s m with z | z
      . exact z
      . have : s = m := by omega
        subst this; omega
    refine ⟨M, .inl ⟨_, .of g1, ixL_len.symm⟩, (M : Int), rfl, by omega, by omega, ?_⟩
    refine comp_range (fun i ys H' => H1 = H' /\ ys = (ixL (hadF g (s + 1)) M).take i) ⟨rfl, rfl⟩ (fun i ys H' hi ⟨_, e⟩ => by
      rw [e]; exact small1000 (by rw [List.length_take, ixL_len]; omega)) ?_ ?_
    . rintro i ys H' hi ⟨rfl, rfl⟩
      have hi' : i < M := by omega
      refine ⟨hadF g s, M, 2 ^ s, i, .of g1, rfl, by omega, hi', hpos s, hpm s hsm, hin s hsm i hi', rfl, ?_⟩
      rw [ixL_take hi']
      rfl
    . rintro ys H' ⟨rfl, rfl⟩ l' hl'
      refine ⟨.inr (.inr ⟨by decide, by decide⟩), m - (s + 1), by omega, s + 1, l', hsm, rfl, ?_, s1.trans (Same.upd hl'), s1.free hl', ?_⟩
      . show [some (V.ref p), some (V.ref l'), some (V.int (((2 ^ s : Nat) : Int) * 2))] = _
        rw [Nat.pow_succ, Int.natCast_mul]
        rfl
      . rw [Int.toNat_natCast, List.take_of_length_le (by rw [ixL_len]; omega)]
        exact upd_same
  . have hsm : s = m := by
      rcases Nat.lt_or_ge s m with z | z
      . have := hpow s z
        exact (e (decide_eq_true (by omega))).elim
      . omega
    subst hsm
    exact q l H1 hl s1 g1
def sp_weights (K : W.Frag) : Sp := fun vs H Q _ => match vs with
  | [v] => ∃ (m : Nat) (g : Nat -> Int), SumAt K H v m (termG g (2 ^ m)) /\ m <= 6 /\ newL H Q (ixL g (2 ^ m))
  | _ => False
theorem ok_weights_of : FnOk P w K mg base CX0 3 T.f_weights_of T.d_weights_of ["one"] (sp_weights K) := by
  have G_two_to := ok_two_to (P := P) (w := w) (base := base) T
  refine T.F_weights_of.ok sc_weights_of (fun vs H Q E h => by unfold sp_weights at h; split at h <;> first | rfl | exact h.elim) (fun cdv A outer s H vs Q E hr h => ?_)
  have hu := hu60 hr
  have mo1 : SpMono sp_two_to := sp_two_to_mono
  have hr_two_to := hr.mono (show 2 <= _ by decide)
  unfold sp_weights at h
  split at h
  rotate_left
  . exact h.elim
  rename_i v
  obtain ⟨m, g, S, m6, q⟩ := h
  obtain ⟨a, b, vs, rfl, ha, hb, hr'⟩ := id S.at_
  have h64 : 2 ^ m <= 64 := Nat.pow_le_pow_right (n := 2) (by decide) m6
  have i0 : (0 : Int) <= ((2 ^ m : Nat) : Int) := Int.natCast_nonneg _
  have i1 : ((2 ^ m : Nat) : Int) <= 64 := Int.ofNat_le.mpr h64
  have hvl : vs.length = (termG g (2 ^ m)).length := by have := hr'.length; rw [List.length_map] at this; omega
  refine ⟨_, (@pss_cons _ _ _ _ _ (@ps_set _ _ 1 _ _ _ _ sc_weights_of.nd rfl (by walk_at "e") (@pe_op _ _ _ _ _ _ _ _ om_mul (@pe_lst _ _ _ _ (@pa1 _ _ _ (@pe_int _ _ _ _) (by rfl))) (@pe_call _ _ _ _ _ _ _ _ _ _ _ _ _ _ _ _ G_two_to hr_two_to rfl T.m_two_to T.F_two_to.kp T.b_two_to .nil pass0 (@pa1 _ _ _ (@kIx _ K _ _ _ _ _ (@vw _ 0 _ _ (by walk_at "v")) (@pe_int _ _ _ _) (by intro _ _; rfl) (by rfl)) (by rfl)) (by decide) (by rfl) (by rfl))) (by rfl) (by walk_at "i")) (@pss_cons _ _ _ _ _ (@ps_for _ _ _ _ _ _ _ _ PassesOwn.never rfl (@kSeq _ K _ _ _ (@kIx _ K _ _ _ _ _ (@vw _ 0 _ _ (by walk_at "v")) (@pe_int _ _ _ _) (by intro _ _; rfl) (by rfl)) (by rfl)) (@kTupA _ K _ _ _ _ 2 rfl (@pgs_cons _ _ _ _ _ (@pg_name _ _ 2 _ sc_weights_of.nd rfl (by walk_at "e") (by walk_at "i")) (@pgs_cons _ _ _ _ _ (@pg_name _ _ 3 _ sc_weights_of.nd rfl (by walk_at "e") (by walk_at "i")) (@pgs_nil _) (by rfl)) (by rfl)) (by rfl) (by rfl) (by rfl)) (@pss_one _ _ _ (@ps_asg _ _ _ _ _ _ (@vw _ 3 _ _ (by walk_at "v")) (@pg_sub _ _ _ _ _ _ _ (@vw _ 1 _ _ (by walk_at "v")) (@vw _ 2 _ _ (by walk_at "v")) set_any (by intro _; rfl)) (by rfl) (by rfl) (by rfl))) (by intro _; rfl)) (@pss_one _ _ _ (@ps_ret _ _ _ _ (@vw _ 1 _ _ (by walk_at "v")))))), ?_⟩
  refine ⟨small_le (show 1 <= 1000 by decide), fun p0 hp0 => ?_⟩
  have s0 := Same.upd (o := .lst [.int 0]) hp0
  refine ⟨_, .int m, .inr (sqT_same ha s0), rfl, m, rfl, by omega, p0, ((2 ^ m : Nat) : Int), _, rfl, rfl, upd_same, by omega, by omega, small_le (by show 1 * ((2 ^ m : Nat) : Int).toNat <= 1000; omega), fun l hl => ?_⟩
  rw [Int.toNat_natCast, repZ]
  dsimp only [gName]
  have s1 := s0.trans (Same.upd (o := .lst (ixL (fun _ => 0) (2 ^ m))) hl)
  have hl0 : H l = none := s0.free hl
  have g1 : upd (upd H p0 (.lst [.int 0])) l (.lst (ixL (fun _ => 0) (2 ^ m))) l = some (.lst (ixL (setT ((termG g (2 ^ m)).take 0) (fun _ => 0)) (2 ^ m))) := upd_same
  generalize upd (upd H p0 (.lst [.int 0])) l (.lst (ixL (fun _ => 0) (2 ^ m))) = H1 at *
  refine ⟨_, .ref b, .inr (sqT_same ha s1), rfl, .inr ⟨⟨_, sqT_same hb s1⟩, ?_⟩⟩
  refine for_tup (xs := vs) (fun i σ H' => ∃ z2 z3 : Option V, σ = [some (.ref a), some (.ref l), z2, z3] /\ Same H H' /\ H' l = some (.lst (ixL (setT ((termG g (2 ^ m)).take i) (fun _ => 0)) (2 ^ m)))) ⟨none, none, rfl, s1, g1⟩ (fun i σ H' _ ⟨_, _, _, s, _⟩ => sqT_same hb s) ?_ ?_
  . rintro i x σ H2 hx ⟨z2, z3, rfl, s2, g2⟩
    obtain ⟨⟨k, wgt⟩, c, hq, rfl, hc⟩ := reps_terms_at hr' hx
    have hk : k < 2 ^ m := (termG_mem (List.mem_of_getElem? hq)).1
    refine ⟨_, .inr (sqT_same hc s2), rfl, _, _, rfl, _, _, rfl, rfl, ?_⟩
    refine ⟨_, k, g2, by rw [ixL_len]; exact ixN_nat hk, ?_⟩
    refine ⟨_, _, rfl, same_put s2 hl0, ?_⟩
    rw [upd_same, ixL_set, setT_take hq]
  . rintro σ H2 ⟨z2, z3, rfl, s2, g2⟩
    rw [List.take_of_length_le (by omega), ixL_congr (g := g) fun j hj => by rw [setT_termG, if_pos hj]] at g2
    exact q l H2 hl0 s2 g2
def sp_switches (K : W.Frag) : Sp := fun vs H Q _ => match vs with
  | [.ref p] => ∃ (m : Nat) (xs : List V), SqT K H p xs /\ xs.length = 2 ^ m /\ m <= 6 /\ Q (.int m) H
  | _ => False
theorem ok_switches_of : FnOk P w K mg base CX0 1 T.f_switches_of T.d_switches_of ["table"] (sp_switches K) := by
  refine T.F_switches_of.ok sc_switches_of (fun vs H Q E h => by unfold sp_switches at h; split at h <;> first | rfl | exact h.elim) (fun cdv A outer s H vs Q E hr h => ?_)
  have hu := hu60 hr
  unfold sp_switches at h
  split at h
  rotate_left
  . exact h.elim
  rename_i p
  obtain ⟨m, xs, hp, hl, m6, q⟩ := h
  refine ⟨_, (@pss_one _ _ _ (@ps_ret _ _ _ _ (@pe_op _ _ _ _ _ _ _ _ om_sub (@kBitlen _ K _ _ _ _ (@pe_callB _ _ _ _ _ _ _ _ _ (kLen (K := K)) rfl T.z_len (by rfl) (@pa1 _ _ _ (@vw _ 0 _ _ (by walk_at "v")) (by rfl)) (by decide) (by decide) (by rfl) (by rfl)) (by rfl) (by rfl) (by rfl)) (@pe_int _ _ _ _)))), ?_⟩
  have hb := bits_pow m (by omega)
  refine ⟨2 ^ m, .inr ⟨_, hp, hl.symm⟩, rfl, ?_⟩
  dsimp only [mBitlen, tC, mSub]
  rw [hb]
  have : ((m + 1 : Nat) : Int) - 1 = (m : Int) := by omega
  rw [this]
  exact q
def sp_sumfrom (K : W.Frag) : Sp := fun vs H Q _ => match vs with
  | [.int n, .ref p] => ∃ (m M : Nat) (g : Nat -> Int), n = m /\ M <= 64 /\ SqL K H p (ixL g M) /\ ∀ v H', Same H H' -> Rep K H' (sumD m (termG g M)) v -> Q v H'
  | _ => False
theorem ok_sum_from : FnOk P w K mg base CX0 1 T.f_sum_from T.d_sum_from ["n", "weights"] (sp_sumfrom K) := by
  refine T.F_sum_from.ok sc_sum_from (fun vs H Q E h => by unfold sp_sumfrom at h; split at h <;> first | rfl | exact h.elim) (fun cdv A outer s H vs Q E hr h => ?_)
  have hu := hu60 hr
  unfold sp_sumfrom at h
  split at h
  rotate_left
  . exact h.elim
  rename_i n p
  obtain ⟨m, M, g, e1, hM, hp, q⟩ := h
  subst e1
  refine ⟨_, (@pss_one _ _ _ (@ps_ret _ _ _ _ (@pe_tup _ _ _ _ _ (@pa_cons _ _ _ _ _ (@vw _ 0 _ _ (by walk_at "v")) (@pa1 _ _ _ (@pe_callTy _ _ _ _ _ _ _ _ _ (kTuple (K := K)) rfl T.z_tuple (by rfl) (@pa1 _ _ _ (@pe_compB _ _ _ _ _ _ _ (["subset", "weight"]) 2 [] _ _ _ _ rfl (@kEnum _ K _ _ _ _ _ _ _ rfl T.z_enumerate (@pa1 _ _ _ (@vw _ 1 _ _ (by walk_at "v")) (by rfl)) (by rfl) (by rfl)) (by kernel_rfl) rfl rfl (by kernel_rfl) (fun c => @kTup _ K _ _ _ _ 2 rfl (@pgs_cons _ _ _ _ _ (@pg_name _ _ 0 _ (show (["subset", "weight"] : List Str).Nodup by decide +kernel) rfl (by walk_at "e") (by walk_at "i")) (@pgs_cons _ _ _ _ _ (@pg_name _ _ 1 _ (show (["subset", "weight"] : List Str).Nodup by decide +kernel) rfl (by walk_at "e") (by walk_at "i")) (@pgs_nil _) (by rfl)) (by rfl)) (by rfl) (by rfl) (by rfl)) (go_tup (gos_cons gm_name (gms_cons gm_name gms_nil) (go_name (by decide)) (gos_cons gm_name gms_nil (go_name (by decide)) gos_nil))) (fun c => @pts_one _ _ _ (@tu_cmp _ _ _ _ _ _ _ _ (kNe (K := K) hu) (@vw _ 1 _ _ (by walk_at "v")) (@pe_int _ _ _ _) (by walk_at "n"))) (fun c => (@pe_tup _ _ _ _ _ (@pa_cons _ _ _ _ _ (@vw _ 0 _ _ (by walk_at "v")) (@pa1 _ _ _ (@vw _ 1 _ _ (by walk_at "v")) (by rfl)) (by rfl)))) (by intro _; rfl)) (by rfl)) (by decide) (by decide) (by rfl) (by rfl)) (by rfl)) (by rfl))))), ?_⟩
  refine ⟨⟨_, hp⟩, ?_⟩
  refine comp_enum (xs := ixL g M) (fun i zs H' => Same H H' /\ Reps K H' ((termG g i).map termD) zs /\ zs.length <= i) ⟨Same.refl _, reps_nil, Nat.le_refl _⟩
    (fun i zs H' _ ⟨s, _, _⟩ => sqL_stay hp fun o e => s _ _ e) (fun i zs H' hi ⟨_, _, e⟩ => by rw [ixL_len] at hi; exact small1000 (by omega)) ?_ ?_
  . rintro i x zs H1 pp hx ⟨s1, r1, l1⟩ hpp
    have hi : i < M := by
      have := (List.getElem?_eq_some_iff.mp hx).1
      rw [ixL_len] at this
      exact this
    have ex : x = .int (g i) := by
      unfold ixL at hx
      rw [List.getElem?_map, List.getElem?_range hi] at hx
      exact (Option.some.inj hx).symm
    subst ex
    refine ⟨pp, _, rfl, .of upd_same, rfl, _, _, rfl, _, _, rfl, rfl, ?_⟩
    have s2 : Same H1 (upd H1 pp (.tup [.int i, .int (g i)])) := Same.upd hpp
    have et : termG g (i + 1) = termG g i ++ (if g i = 0 then [] else [(i, g i)]) := rfl
    generalize upd H1 pp (.tup [.int i, .int (g i)]) = H2 at *
    rw [et]
    refine ite2 (fun e => ?_) (fun e => ?_)
    . have w0 : ¬ g i = 0 := by simpa using e
      rw [if_neg w0, List.map_append]
      refine ⟨small_le (show 2 <= 1000 by decide), fun k hk => ⟨s1.trans (s2.trans (Same.upd hk)), ?_, by rw [List.length_append]; exact Nat.succ_le_succ l1⟩⟩
      exact Reps.append (Reps.same (s2.trans (Same.upd hk)) _ _ r1) (reps_cons (rep_tup1 (xs := [.int i, .int (g i)]) upd_same (reps_cons rep_int (reps_cons rep_int reps_nil))) reps_nil)
    . have w0 : g i = 0 := by simpa using e
      rw [if_pos w0, List.append_nil]
      exact ⟨s1.trans s2, Reps.same s2 _ _ r1, Nat.le_succ_of_le l1⟩
  rintro zs H1 ⟨s1, r1, _⟩ l hl
  rw [ixL_len] at r1
  refine ⟨_, .inl ⟨.of upd_same, fun k hk => ⟨small_le (show 2 <= 1000 by decide), fun k2 hk2 => ?_⟩⟩⟩
  have S0 := Same.upd (o := .lst zs) hl
  have S := (Same.upd (o := .tup zs) hk).trans (Same.upd (o := .tup [.int m, .ref k]) hk2)
  refine q _ _ (s1.trans (S0.trans S)) ?_
  refine rep_tup1 upd_same (reps_cons rep_int (reps_cons (rep_tup1 (xs := zs) ?_ (Reps.same (S0.trans S) _ _ r1)) reps_nil))
  exact Same.upd hk2 _ _ upd_same
def sp_psum (K : W.Frag) : Sp := fun vs H Q _ => match vs with
  | [.ref p] => ∃ (m : Nat) (bs : List Bool), m <= 6 /\ bs.length = 2 ^ m /\ SqT K H p (bs.map V.bl) /\ ∀ v H', Same H H' -> SumAt K H' v m (termG (wt m (valF bs)) (2 ^ m)) -> Q v H'
  | _ => False
theorem sp_psum_mono : SpMono (sp_psum K) := fun vs H Q Q' E h q => by
  unfold sp_psum at *
  split at q
  . revert q; repeat' first | exact h _ _ | exact newL_mono h | exact out_mono h | exact outT_mono h | walk_at "m"
  . exact q.elim
theorem ok_sum_of : FnOk P w K mg base CX0 3 T.f_sum_of T.d_sum_of ["table"] (sp_psum K) := by
  have G_sum_from := ok_sum_from (P := P) (w := w) (base := base) T; have G_switches_of := ok_switches_of (P := P) (w := w) (base := base) T; have G_times_signs := ok_times_signs (P := P) (w := w) (base := base) T
  refine T.F_sum_of.ok sc_sum_of (fun vs H Q E h => by unfold sp_psum at h; split at h <;> first | rfl | exact h.elim) (fun cdv A outer s H vs Q E hr h => ?_)
  have hu := hu60 hr
  have hr_sum_from := hr.mono (show 1 <= _ by decide); have hr_switches_of := hr.mono (show 1 <= _ by decide); have hr_times_signs := hr.mono (show 2 <= _ by decide)
  unfold sp_psum at h
  split at h
  rotate_left
  . exact h.elim
  rename_i p
  obtain ⟨m, bs, m6, hb, hp, q⟩ := h
  refine ⟨_, (@pss_cons _ _ _ _ _ (@ps_compB _ _ _ _ _ _ _ ["answer"] 1 [] _ _ _ _ 1 _ _ _ rfl sc_sum_of.nd rfl rfl (@kSeq _ K _ _ _ (@vw _ 0 _ _ (by walk_at "v")) (by rfl)) (by kernel_rfl) rfl rfl (by kernel_rfl) (fun c => @pg_name _ _ 0 _ (show (["answer"] : List Str).Nodup by decide +kernel) rfl (by walk_at "e") (by walk_at "i")) (go_name (by decide)) (fun c => @pts_nil _) (fun c => (@pe_ifExp _ _ _ _ _ _ _ _ (@tu_val _ _ _ (@vw _ 0 _ _ (by walk_at "v")) (by intro _; rfl)) (@pe_un _ _ _ _ _ _ um_neg (@pe_int _ _ _ _)) (@pe_int _ _ _ _))) (by rfl) (by intro _; rfl)) (@pss_one _ _ _ (@ps_ret _ _ _ _ (@pe_call _ _ _ _ _ _ _ _ _ _ _ _ _ _ _ _ G_sum_from hr_sum_from rfl T.m_sum_from T.F_sum_from.kp T.b_sum_from .nil pass0 (@pa_cons _ _ _ _ _ (@pe_call _ _ _ _ _ _ _ _ _ _ _ _ _ _ _ _ G_switches_of hr_switches_of rfl T.m_switches_of T.F_switches_of.kp T.b_switches_of .nil pass0 (@pa1 _ _ _ (@vw _ 0 _ _ (by walk_at "v")) (by rfl)) (by decide) (by rfl) (by rfl)) (@pa1 _ _ _ (@pe_call _ _ _ _ _ _ _ _ _ _ _ _ _ _ _ _ G_times_signs hr_times_signs rfl T.m_times_signs T.F_times_signs.kp T.b_times_signs .nil pass0 (@pa1 _ _ _ (@vw _ 1 _ _ (by walk_at "v")) (by rfl)) (by decide) (by rfl) (by rfl)) (by rfl)) (by rfl)) (by decide) (by rfl) (by rfl))))), ?_⟩
  have h64 : 2 ^ m <= 64 := Nat.pow_le_pow_right (n := 2) (by decide) m6
  have et : termG (hadF (valF bs) m) (2 ^ m) = termG (wt m (valF bs)) (2 ^ m) := termG_congr fun j hj => had_wt hj
  rw [<- et] at q
  refine .inr ⟨⟨_, hp⟩, ?_⟩
  refine comp_tup (xs := bs.map V.bl) (fun i ys H' => H = H' /\ ys = ixL (valF bs) i) ⟨rfl, rfl⟩ (fun i ys H' _ ⟨e, _⟩ => by rw [<- e]; exact hp) (fun i ys H' hi ⟨_, e⟩ => by
    rw [List.length_map] at hi
    rw [e, ixL_len]; exact small1000 (by omega)) ?_ ?_
  . rintro i x ys H' hx ⟨rfl, rfl⟩
    have hi : i < bs.length := by
      have := (List.getElem?_eq_some_iff.mp hx).1
      rw [List.length_map] at this
      exact this
    have ex : x = .bl (gB bs i) := by
      rw [List.getElem?_map, List.getElem?_eq_getElem hi] at hx
      rw [gB_get hi]
      exact (Option.some.inj hx).symm
    subst ex
    have ev : valF bs i = if gB bs i = true then -1 else 1 := rfl
    refine ite2 (fun e => ?_) (fun e => ?_)
    . refine ⟨rfl, ?_⟩
      rw [ixL_succ, ev, if_pos e]
    . refine ⟨rfl, ?_⟩
      rw [ixL_succ, ev, if_neg e]
  rintro ys H' ⟨rfl, rfl⟩ l hl
  rw [List.length_map, hb]
  have s0 : Same H (upd H l (.lst (ixL (valF bs) (2 ^ m)))) := Same.upd hl
  refine ⟨m, _, sqT_same hp s0, by rw [List.length_map]; exact hb, m6, valF bs, m, .of upd_same, m6, fun p2 H2 n2 s2 g2 => ?_⟩
  exact ⟨m, 2 ^ m, hadF (valF bs) m, rfl, h64, .of g2, fun v H' s' r' => q v H' (s0.trans (s2.trans s')) (.of r')⟩
theorem term_mul (f g : Nat -> Int) : ∀ n, ((termG f n).map fun t => t.2 * g t.1).sum = sumTo (fun j => f j * g j) n
  | 0 => rfl
  | n + 1 => by
    show ((termG f n ++ (if f n = 0 then [] else [(n, f n)])).map fun t => t.2 * g t.1).sum = sumTo (fun j => f j * g j) n + f n * g n
    rw [List.map_append, List.sum_append, term_mul f g n]
    by_cases e : f n = 0
    . rw [if_pos e, e]; simp
    . rw [if_neg e]; simp
def sp_metx (K : W.Frag) : Sp := fun vs H Q _ => match vs with
  | [.ref p, .ref l, .int z] => ∃ (m a : Nat) (f g : Nat -> Int) (us : List V), SqT K H p us /\ Reps K H ((termG f (2 ^ m)).map termD) us /\ SqL K H l (ixL g (2 ^ m)) /\ z = a /\ a < 2 ^ m /\ m <= 6 /\ Light g /\ ∀ H', Same H H' -> Q (.int (sumTo (fun j => f j * g (j ^^^ a)) (2 ^ m))) H'
  | _ => False
theorem ok_met : FnOk P w K mg base CX0 1 T.f_met T.d_met ["terms", "weights", "apart"] (sp_metx K) := by
  refine T.F_met.ok sc_met (fun vs H Q E h => by unfold sp_metx at h; split at h <;> first | rfl | exact h.elim) (fun cdv A outer s H vs Q E hr h => ?_)
  have hu := hu60 hr
  unfold sp_metx at h
  split at h
  rotate_left
  . exact h.elim
  rename_i p l z
  obtain ⟨m, a, f, g, us, hp, hR, hl, e1, ha, m6, hg, q⟩ := h
  subst e1
  have h64 : 2 ^ m <= 64 := Nat.pow_le_pow_right (n := 2) (by decide) m6
  have hul : us.length = (termG f (2 ^ m)).length := by have := hR.length; rw [List.length_map] at this; omega
  have htl := termG_len f (2 ^ m)
  have hmem := fun {t} (h : t ∈ termG f (2 ^ m)) => (termG_mem h).1
  rw [<- term_mul f (fun j => g (j ^^^ a))] at q
  refine ⟨_, (@pss_one _ _ _ (@ps_ret _ _ _ _ (@pe_callB _ _ _ _ _ _ _ _ _ (kSum (K := K) rfl) rfl T.z_sum (by rfl) (@pa1 _ _ _ (@pe_compB _ _ _ _ _ _ _ (["subset", "weight", "weights", "apart"]) 2 ([1, 2]) _ _ _ _ rfl (@kSeq _ K _ _ _ (@vw _ 0 _ _ (by walk_at "v")) (by rfl)) (by kernel_rfl) rfl rfl (by kernel_rfl) (fun c => @kTup _ K _ _ _ _ 2 rfl (@pgs_cons _ _ _ _ _ (@pg_name _ _ 0 _ (show (["subset", "weight", "weights", "apart"] : List Str).Nodup by decide +kernel) rfl (by walk_at "e") (by walk_at "i")) (@pgs_cons _ _ _ _ _ (@pg_name _ _ 1 _ (show (["subset", "weight", "weights", "apart"] : List Str).Nodup by decide +kernel) rfl (by walk_at "e") (by walk_at "i")) (@pgs_nil _) (by rfl)) (by rfl)) (by rfl) (by rfl) (by rfl)) (go_tup (gos_cons gm_name (gms_cons gm_name gms_nil) (go_name (by decide)) (gos_cons gm_name gms_nil (go_name (by decide)) gos_nil))) (fun c => @pts_nil _) (fun c => (@pe_op _ _ _ _ _ _ _ _ om_mul (@vw _ 1 _ _ (by walk_at "v")) (@kIx _ K _ _ _ _ _ (@vw _ 2 _ _ (by walk_at "v")) (@pe_op _ _ _ _ _ _ _ _ om_xor (@vw _ 0 _ _ (by walk_at "v")) (@vw _ 3 _ _ (by walk_at "v"))) (by intro _ _; rfl) (by rfl)))) (by intro _; rfl)) (by rfl)) (by decide) (by decide) (by rfl) (by rfl)))), ?_⟩
  generalize termG f (2 ^ m) = ts at *
  refine .inr ⟨⟨_, hp⟩, ?_⟩
  refine comp_tup (xs := us) (fun i ys H' => H' = H /\ ys = ((ts.take i).map fun t => t.2 * g (t.1 ^^^ a)).map V.int) ⟨rfl, rfl⟩ (fun i ys H' _ ⟨e, _⟩ => by rw [e]; exact hp) (fun i ys H' hi ⟨_, e⟩ => by
    rw [e, List.length_map, List.length_map, List.length_take]; exact small1000 (by omega)) ?_ ?_
  . rintro i x ys H' hx ⟨rfl, rfl⟩
    obtain ⟨⟨k, wgt⟩, c, hq, rfl, hc⟩ := reps_terms_at hR hx
    have hk : k < 2 ^ m := hmem (List.mem_of_getElem? hq)
    have hka : k ^^^ a < 2 ^ m := Nat.xor_lt_two_pow hk ha
    have ek : Builtin.bitXor (k : Int) (a : Int) = ((k ^^^ a : Nat) : Int) := bitXor_nat k a
    have hgk := hg (k ^^^ a)
    refine ⟨c, _, rfl, hc, rfl, _, _, rfl, _, _, rfl, rfl, _, .int (g (k ^^^ a)), .inl hl, by rw [ek]; exact ixL_at hka, .inr (.inr ⟨by omega, by omega⟩), rfl, ?_⟩
    rw [List.take_add_one, hq, List.map_append, List.map_append]
    rfl
  . rintro ys H' ⟨rfl, rfl⟩ lp hlp
    rw [List.take_of_length_le (by omega)]
    exact ⟨_, .of upd_same, q _ (Same.upd hlp)⟩
def sp_timesx (K : W.Frag) : Sp := fun vs H Q _ => match vs with
  | [x, y] => ∃ (m : Nat) (u v : Nat -> Int), SumAt K H x m (termG (wt m u) (2 ^ m)) /\ SumAt K H y m (termG (wt m v) (2 ^ m)) /\ m <= 6 /\ Light (wt m v) /\ newL H Q (ixL (fun a => ((2 ^ m : Nat) : Int) * wt m (fun x => u x * v x) a) (2 ^ m))
  | _ => False
theorem ok_times : FnOk P w K mg base CX0 4 T.f_times T.d_times ["one", "other"] (sp_timesx K) := by
  have G_weights_of := ok_weights_of (P := P) (w := w) (base := base) T; have G_met := ok_met (P := P) (w := w) (base := base) T
  refine T.F_times.ok sc_times (fun vs H Q E h => by unfold sp_timesx at h; split at h <;> first | rfl | exact h.elim) (fun cdv A outer s H vs Q E hr h => ?_)
  have hu := hu60 hr
  have hr_weights_of := hr.mono (show 3 <= _ by decide); have hr_met := hr.mono (show 1 <= _ by decide)
  unfold sp_timesx at h
  split at h
  rotate_left
  . exact h.elim
  rename_i x y
  obtain ⟨m, u, v, S1, S2, m6, hL, q⟩ := h
  have h64 : 2 ^ m <= 64 := Nat.pow_le_pow_right (n := 2) (by decide) m6
  have i0 : (0 : Int) <= ((2 ^ m : Nat) : Int) := Int.natCast_nonneg _
  have i1 : ((2 ^ m : Nat) : Int) <= 64 := Int.ofNat_le.mpr h64
  obtain ⟨a, b, us, rfl, ha, hb, hR⟩ := id S1.at_
  refine ⟨_, (@pss_cons _ _ _ _ _ (@ps_set _ _ 2 _ _ _ _ sc_times.nd rfl (by walk_at "e") (@pe_call _ _ _ _ _ _ _ _ _ _ _ _ _ _ _ _ G_weights_of hr_weights_of rfl T.m_weights_of T.F_weights_of.kp T.b_weights_of .nil pass0 (@pa1 _ _ _ (@vw _ 1 _ _ (by walk_at "v")) (by rfl)) (by decide) (by rfl) (by rfl)) (by rfl) (by walk_at "i")) (@pss_one _ _ _ (@ps_ret _ _ _ _ (@pe_compB _ _ _ _ _ _ _ (["subset", "one", "weights"]) 1 ([0, 2]) _ _ _ _ rfl (@pi_range1 _ _ _ _ _ _ rfl T.z_range (@pa1 _ _ _ (@pe_callB _ _ _ _ _ _ _ _ _ (kLen (K := K)) rfl T.z_len (by rfl) (@pa1 _ _ _ (@vw _ 2 _ _ (by walk_at "v")) (by rfl)) (by decide) (by decide) (by rfl) (by rfl)) (by rfl)) (by rfl)) (by kernel_rfl) rfl rfl (by kernel_rfl) (fun c => @pg_name _ _ 0 _ (show (["subset", "one", "weights"] : List Str).Nodup by decide +kernel) rfl (by walk_at "e") (by walk_at "i")) (go_name (by decide)) (fun c => @pts_nil _) (fun c => (@pe_call _ _ _ _ _ _ _ _ _ _ _ _ _ _ _ _ G_met hr_met rfl T.m_met T.F_met.kp T.b_met .nil pass0 (@pa_cons _ _ _ _ _ (@kIx _ K _ _ _ _ _ (@vw _ 1 _ _ (by walk_at "v")) (@pe_int _ _ _ _) (by intro _ _; rfl) (by rfl)) (@pa_cons _ _ _ _ _ (@vw _ 2 _ _ (by walk_at "v")) (@pa1 _ _ _ (@vw _ 0 _ _ (by walk_at "v")) (by rfl)) (by rfl)) (by rfl)) (by decide) (by rfl) (by rfl))) (by intro _; rfl))))), ?_⟩
  refine ⟨m, _, S2, m6, fun l H1 hl s1 g1 => ?_⟩
  dsimp only [gName]
  refine ⟨2 ^ m, .inl ⟨_, .of g1, ixL_len.symm⟩, ((2 ^ m : Nat) : Int), rfl, by omega, by omega, ?_⟩
  refine comp_range (fun i ys H' => Same H1 H' /\ ys = ixL (fun a => ((2 ^ m : Nat) : Int) * wt m (fun x => u x * v x) a) i) ⟨Same.refl _, rfl⟩ (fun i ys H' hi ⟨_, e⟩ => by
    rw [e, ixL_len]; exact small1000 (by omega)) ?_ ?_
  . rintro i ys H' hi ⟨s2, rfl⟩
    have hi' : i < 2 ^ m := by omega
    rw [show (0 : Int) + (i : Int) = (i : Int) from Int.zero_add _]
    have s12 := s1.trans s2
    refine ⟨_, .ref b, .inr (sqT_same ha s12), rfl, m, i, _, _, us, sqT_same hb s12, Reps.same s12 _ _ hR, .of (s2 _ _ g1), rfl, hi', m6, hL, fun H3 s3 => ⟨s2.trans s3, ?_⟩⟩
    rw [wt_conv, ixL_succ]
  . rintro ys H' ⟨s2, rfl⟩ lp hlp
    rw [Int.toNat_natCast]
    exact q lp _ ((s1.trans s2).free hlp) (s1.trans (s2.trans (Same.upd hlp))) upd_same
def sp_odd (K : W.Frag) : Sp := fun vs H Q _ => match vs with
  | [x, y] => ∃ (m : Nat) (u v : Nat -> Int), SumAt K H x m (termG (wt m u) (2 ^ m)) /\ SumAt K H y m (termG (wt m v) (2 ^ m)) /\ m <= 6 /\ Light (wt m v) /\ ∀ r H', Same H H' -> SumAt K H' r m (termG (wt m (fun x => u x * v x)) (2 ^ m)) -> Q r H'
  | _ => False
theorem sp_odd_mono : SpMono (sp_odd K) := fun vs H Q Q' E h q => by
  unfold sp_odd at *
  split at q
  . revert q; repeat' first | exact h _ _ | exact newL_mono h | exact out_mono h | exact outT_mono h | walk_at "m"
  . exact q.elim
theorem ok_odd : FnOk P w K mg base CX0 5 T.f_odd T.d_odd ["one", "other"] (sp_odd K) := by
  have G_two_to := ok_two_to (P := P) (w := w) (base := base) T; have G_sum_from := ok_sum_from (P := P) (w := w) (base := base) T; have G_times := ok_times (P := P) (w := w) (base := base) T
  refine T.F_odd.ok sc_odd (fun vs H Q E h => by unfold sp_odd at h; split at h <;> first | rfl | exact h.elim) (fun cdv A outer s H vs Q E hr h => ?_)
  have hu := hu60 hr
  have hr_two_to := hr.mono (show 2 <= _ by decide); have hr_sum_from := hr.mono (show 1 <= _ by decide); have hr_times := hr.mono (show 4 <= _ by decide)
  unfold sp_odd at h
  split at h
  rotate_left
  . exact h.elim
  rename_i x y
  obtain ⟨m, u, v, S1, S2, m6, hL, q⟩ := h
  have h64 : 2 ^ m <= 64 := Nat.pow_le_pow_right (n := 2) (by decide) m6
  have i0 : (0 : Int) < ((2 ^ m : Nat) : Int) := by have := Nat.two_pow_pos m; omega
  have i1 : ((2 ^ m : Nat) : Int) <= 64 := Int.ofNat_le.mpr h64
  obtain ⟨a, b, us, rfl, ha, hb, hR⟩ := id S1.at_
  refine ⟨_, (@pss_cons _ _ _ _ _ (@ps_set _ _ 2 _ _ _ _ sc_odd.nd rfl (by walk_at "e") (@pe_call _ _ _ _ _ _ _ _ _ _ _ _ _ _ _ _ G_two_to hr_two_to rfl T.m_two_to T.F_two_to.kp T.b_two_to .nil pass0 (@pa1 _ _ _ (@kIx _ K _ _ _ _ _ (@vw _ 0 _ _ (by walk_at "v")) (@pe_int _ _ _ _) (by intro _ _; rfl) (by rfl)) (by rfl)) (by decide) (by rfl) (by rfl)) (by rfl) (by walk_at "i")) (@pss_one _ _ _ (@ps_ret _ _ _ _ (@pe_call _ _ _ _ _ _ _ _ _ _ _ _ _ _ _ _ G_sum_from hr_sum_from rfl T.m_sum_from T.F_sum_from.kp T.b_sum_from .nil pass0 (@pa_cons _ _ _ _ _ (@kIx _ K _ _ _ _ _ (@vw _ 0 _ _ (by walk_at "v")) (@pe_int _ _ _ _) (by intro _ _; rfl) (by rfl)) (@pa1 _ _ _ (@pe_compB _ _ _ _ _ _ _ (["weight", "whole"]) 1 [2] _ _ _ _ rfl (@kSeq _ K _ _ _ (@pe_call _ _ _ _ _ _ _ _ _ _ _ _ _ _ _ _ G_times hr_times rfl T.m_times T.F_times.kp T.b_times .nil pass0 (@pa_cons _ _ _ _ _ (@vw _ 0 _ _ (by walk_at "v")) (@pa1 _ _ _ (@vw _ 1 _ _ (by walk_at "v")) (by rfl)) (by rfl)) (by decide) (by rfl) (by rfl)) (by rfl)) (by kernel_rfl) rfl rfl (by kernel_rfl) (fun c => @pg_name _ _ 0 _ (show (["weight", "whole"] : List Str).Nodup by decide +kernel) rfl (by walk_at "e") (by walk_at "i")) (go_name (by decide)) (fun c => @pts_nil _) (fun c => (@pe_op _ _ _ _ _ _ _ _ om_div (@vw _ 0 _ _ (by walk_at "v")) (@vw _ 1 _ _ (by walk_at "v")))) (by intro _; rfl)) (by rfl)) (by rfl)) (by decide) (by rfl) (by rfl))))), ?_⟩
  refine ⟨_, .int m, .inr ha, rfl, m, rfl, by omega, ?_⟩
  dsimp only [gName]
  refine ⟨_, .int m, .inr ha, rfl, m, u, v, S1, S2, m6, hL, fun l H1 hl s1 g1 => .inl ⟨⟨_, .of g1⟩, ?_⟩⟩
  generalize wt m (fun x => u x * v x) = G at *
  refine comp_list (xs := ixL (fun a => ((2 ^ m : Nat) : Int) * G a) (2 ^ m)) (fun i ys H' => H' = H1 /\ ys = ixL G i) ⟨rfl, rfl⟩ (fun i ys H' _ ⟨e, _⟩ => by rw [e]; exact .of g1) (fun i ys H' hi ⟨_, e⟩ => by
    rw [ixL_len] at hi
    rw [e, ixL_len]; exact small1000 (by omega)) ?_ ?_
  . rintro i x ys H' hx ⟨rfl, rfl⟩
    have hi : i < 2 ^ m := by
      have := (List.getElem?_eq_some_iff.mp hx).1
      rwa [ixL_len] at this
    rw [ixL_get hi] at hx
    cases hx
    refine ⟨okDiv_of (by omega) (Int.le_trans i1 (by decide)), rfl, ?_⟩
    rw [ixL_succ, Int.mul_ediv_cancel_left _ (by omega)]
  . rintro ys H' ⟨rfl, rfl⟩ lp hlp
    rw [ixL_len]
    exact ⟨m, 2 ^ m, G, rfl, h64, .of upd_same, fun r H2 s2 r2 => q r H2 (s1.trans ((Same.upd hlp).trans s2)) (.of r2)⟩
theorem if_same {c : TT} {t u : TS} {D : Ends} {σ : St} {H : Hp} (b : Bool) (hc : ∀ Q : Bool -> Hp -> Prop, (∀ H', Same H H' -> Q b H') -> c σ H Q) (h : ∀ H', Same H H' -> if b = true then t D σ H' else u D σ H') : tIfS c t u D σ H := hc _ h
theorem sq_four (n : Nat) (bs : List Bool) : sumTo (fun j => wt n (valF bs) j * wt n (valF bs) j) (2 ^ n) = ((2 ^ n : Nat) : Int) * ((2 ^ n : Nat) : Int) := by
  rw [wt_mul]
  congr 1
  rw [sumTo_congr (g := fun _ => 1) fun x _ => by unfold valF valB; cases bs.getD x false <;> rfl, sumTo_const, Int.mul_one]
theorem sum_prod {M : Nat} {f g h : Nat -> Int} : ∀ N, (∀ s t, s < M -> t < N -> h (s + M * t) = f s * g t) -> sumTo h (M * N) = sumTo f M * sumTo g N
  | 0, _ => by show (0 : Int) = sumTo f M * 0; rw [Int.mul_zero]
  | N + 1, H => by
    rw [Nat.mul_succ, sumTo_add, sum_prod N fun s t hs ht => H s t hs (by omega)]
    show _ = sumTo f M * (sumTo g N + g N)
    rw [Int.mul_add, sumTo_mulr (g N) f M]
    congr 1
    refine sumTo_congr fun j hj => ?_
    rw [Nat.add_comm]
    exact H j N hj (Nat.lt_succ_self _)
theorem sb_pow (m n : Nat) : 2 ^ (m + n) = 2 ^ m * 2 ^ n := Nat.pow_add 2 m n
theorem sb_two (m s t : Nat) : (s + 2 ^ (m + 1) * t) % 2 = s % 2 /\ (s + 2 ^ (m + 1) * t) / 2 = s / 2 + 2 ^ m * t := by
  rw [Nat.pow_succ, Nat.mul_right_comm]
  omega
theorem chi_prod : ∀ (m n s t p q : Nat), s < 2 ^ m -> p < 2 ^ m -> chi (m + n) (s + 2 ^ m * t) (p + 2 ^ m * q) = chi m s p * chi n t q
  | 0, n, s, t, p, q, hs, hp => by
    have e1 : s = 0 := by simpa using hs
    have e2 : p = 0 := by simpa using hp
    subst e1 e2
    show chi (0 + n) (0 + 2 ^ 0 * t) (0 + 2 ^ 0 * q) = 1 * chi n t q
    rw [Nat.zero_add, Nat.zero_add, Nat.zero_add, Nat.pow_zero, Nat.one_mul, Nat.one_mul, Int.one_mul]
  | m + 1, n, s, t, p, q, hs, hp => by
    obtain ⟨a1, a2⟩ := sb_two m s t
    obtain ⟨b1, b2⟩ := sb_two m p q
    rw [Nat.add_right_comm]
    show (if (s + 2 ^ (m + 1) * t) % 2 = 1 /\ (p + 2 ^ (m + 1) * q) % 2 = 1 then -1 else 1) * chi (m + n) ((s + 2 ^ (m + 1) * t) / 2) ((p + 2 ^ (m + 1) * q) / 2) = (if s % 2 = 1 /\ p % 2 = 1 then -1 else 1) * chi m (s / 2) (p / 2) * chi n t q
    rw [a1, a2, b1, b2, chi_prod m n (s / 2) t (p / 2) q (by rw [Nat.pow_succ] at hs; omega) (by rw [Nat.pow_succ] at hp; omega), Int.mul_assoc]
theorem many_prod : ∀ (m n s t : Nat), s < 2 ^ m -> manyF (m + n) (s + 2 ^ m * t) = manyF m s + manyF n t
  | 0, n, s, t, hs => by
    have e1 : s = 0 := by simpa using hs
    subst e1
    show manyF (0 + n) (0 + 2 ^ 0 * t) = 0 + manyF n t
    rw [Nat.zero_add, Nat.zero_add, Nat.zero_add, Nat.pow_zero, Nat.one_mul]
  | m + 1, n, s, t, hs => by
    obtain ⟨a1, a2⟩ := sb_two m s t
    rw [Nat.add_right_comm]
    show (s + 2 ^ (m + 1) * t) % 2 + manyF (m + n) ((s + 2 ^ (m + 1) * t) / 2) = s % 2 + manyF m (s / 2) + manyF n t
    rw [a1, a2, many_prod m n (s / 2) t (by rw [Nat.pow_succ] at hs; omega), Nat.add_assoc]
def sideB (as bs : List Bool) : List Bool := (List.range (as.length * bs.length)).map fun p => gB as (p % as.length) != gB bs (p / as.length)
theorem sideB_len (as bs : List Bool) : (sideB as bs).length = as.length * bs.length := by unfold sideB; rw [List.length_map, List.length_range]
theorem sideB_at {as bs : List Bool} {s t : Nat} (hs : s < as.length) (ht : t < bs.length) : gB (sideB as bs) (s + as.length * t) = (gB as s != gB bs t) := by
  have h1 : s + as.length * t < as.length * bs.length := by
    have := Nat.mul_le_mul_left as.length (show t + 1 <= bs.length from ht)
    rw [Nat.mul_add, Nat.mul_one] at this
    omega
  have h2 : (s + as.length * t) % as.length = s := by rw [Nat.add_mul_mod_self_left, Nat.mod_eq_of_lt hs]
  have h3 : (s + as.length * t) / as.length = t := by rw [Nat.add_mul_div_left _ _ (by omega), Nat.div_eq_of_lt hs, Nat.zero_add]
  show (sideB as bs).getD _ false = _
  unfold sideB
  rw [List.getD_eq_getElem?_getD, List.getElem?_map, List.getElem?_range h1]
  show (gB as ((s + as.length * t) % as.length) != gB bs ((s + as.length * t) / as.length)) = _
  rw [h2, h3]
theorem val_of (bs : List Bool) (p : Nat) : valF bs p = if gB bs p = true then -1 else 1 := rfl
theorem side_val {as bs : List Bool} {s t : Nat} (hs : s < as.length) (ht : t < bs.length) : valF (sideB as bs) (s + as.length * t) = valF as s * valF bs t := by
  rw [val_of, val_of, val_of, sideB_at hs ht]
  cases gB as s <;> cases gB bs t <;> rfl
theorem side_wt {m n : Nat} {as bs : List Bool} (ha : as.length = 2 ^ m) (hb : bs.length = 2 ^ n) {s t : Nat} (hs : s < 2 ^ m) : wt (m + n) (valF (sideB as bs)) (s + 2 ^ m * t) = wt m (valF as) s * wt n (valF bs) t := by
  unfold wt
  rw [sb_pow]
  refine sum_prod _ fun p q hp hq => ?_
  have e := side_val (as := as) (bs := bs) (s := p) (t := q) (by omega) (by omega)
  rw [ha] at e
  rw [chi_prod m n s t p q hs hp, e]
  ac_rfl
theorem side_div {m n k : Nat} (h : k < 2 ^ (m + n)) : ∃ s t, s < 2 ^ m /\ t < 2 ^ n /\ k = s + 2 ^ m * t := by
  have hp := Nat.two_pow_pos m
  rw [sb_pow] at h
  exact ⟨k % 2 ^ m, k / 2 ^ m, Nat.mod_lt _ hp, Nat.div_lt_of_lt_mul h, (Nat.mod_add_div k (2 ^ m)).symm⟩
def sgQ (m : Nat) (g : Nat -> Int) (t : Nat) : Int := sumTo (fun s => chi m s t * (g s * g s)) (2 ^ m)
theorem sg_odd (m : Nat) (bs : List Bool) (t : Nat) : sgQ m (wt m (valF bs)) t = ((2 ^ (2 * m) : Nat) : Int) - 2 * oddSq m (wt m (valF bs)) t := by
  have h1 := sq_four m bs
  rw [four_eq, <- h1]
  unfold sgQ oddSq
  rw [sumTo_mul, sumTo_minus]
  refine sumTo_congr fun s _ => ?_
  rcases chi_one m s t with e | e
  . rw [e, if_neg (by decide), Int.one_mul, Int.mul_zero, Int.sub_zero]
  . rw [e, if_pos rfl]
    omega
theorem side_sg {m n : Nat} {as bs : List Bool} (ha : as.length = 2 ^ m) (hb : bs.length = 2 ^ n) {s t : Nat} (hs : s < 2 ^ m) : sgQ (m + n) (wt (m + n) (valF (sideB as bs))) (s + 2 ^ m * t) = sgQ m (wt m (valF as)) s * sgQ n (wt n (valF bs)) t := by
  unfold sgQ
  rw [sb_pow]
  refine sum_prod _ fun p q hp hq => ?_
  rw [chi_prod m n p q s t hp hs, side_wt ha hb hp]
  ac_rfl
theorem four_add (m n : Nat) : ((2 ^ (2 * (m + n)) : Nat) : Int) = ((2 ^ (2 * m) : Nat) : Int) * ((2 ^ (2 * n) : Nat) : Int) := by
  rw [<- Int.natCast_mul, <- Nat.pow_add, Nat.mul_add]
theorem side_odd {m n : Nat} {as bs : List Bool} (ha : as.length = 2 ^ m) (hb : bs.length = 2 ^ n) {s t : Nat} (hs : s < 2 ^ m) : oddSq (m + n) (wt (m + n) (valF (sideB as bs))) (s + 2 ^ m * t) = oddSq m (wt m (valF as)) s * (((2 ^ (2 * n) : Nat) : Int) - oddSq n (wt n (valF bs)) t) + oddSq n (wt n (valF bs)) t * (((2 ^ (2 * m) : Nat) : Int) - oddSq m (wt m (valF as)) s) := by
  have h := side_sg ha hb (t := t) hs
  rw [sg_odd, sg_odd, sg_odd, four_add] at h
  generalize oddSq (m + n) (wt (m + n) (valF (sideB as bs))) (s + 2 ^ m * t) = z at *
  generalize oddSq m (wt m (valF as)) s = x at *
  generalize oddSq n (wt n (valF bs)) t = y at *
  generalize ((2 ^ (2 * m) : Nat) : Int) = a at *
  generalize ((2 ^ (2 * n) : Nat) : Int) = b at *
  have e : (a - 2 * x) * (b - 2 * y) = a * b - 2 * (x * (b - y) + y * (a - x)) := by grind
  rw [e] at h
  omega
theorem qF_prod (x y : Int) (m n s t : Nat) (hs : s < 2 ^ m) : qF x y (m + n) (s + 2 ^ m * t) = qF x y m s * qF x y n t := by
  unfold qF
  have h1 := manyF_le m s
  have h2 := manyF_le n t
  rw [many_prod m n s t hs, show m + n - (manyF m s + manyF n t) = (m - manyF m s) + (n - manyF n t) by omega, Int.pow_add, Int.pow_add]
  ac_rfl
def stPb (m : Nat) (g : Nat -> Int) (x y : Int) : Int := sumTo (fun j => lvF m g (2 ^ m) j * (y - 2 * x) ^ j * y ^ (m - j)) (m + 1)
theorem side_st {m n : Nat} {as bs : List Bool} (ha : as.length = 2 ^ m) (hb : bs.length = 2 ^ n) (x y : Int) : stPb (m + n) (wt (m + n) (valF (sideB as bs))) x y = stPb m (wt m (valF as)) x y * stPb n (wt n (valF bs)) x y := by
  unfold stPb
  rw [lv_sum, lv_sum, lv_sum, sb_pow]
  refine sum_prod _ fun p q hp hq => ?_
  rw [qF_prod _ _ m n p q hp, side_wt ha hb hp]
  ac_rfl
theorem side_lv {m n : Nat} {as bs : List Bool} (ha : as.length = 2 ^ m) (hb : bs.length = 2 ^ n) (k : Nat) : lvF (m + n) (wt (m + n) (valF (sideB as bs))) (2 ^ (m + n)) k = sumTo (fun j => if j <= k /\ k - j < n + 1 then lvF m (wt m (valF as)) (2 ^ m) j * lvF n (wt n (valF bs)) (2 ^ n) (k - j) else 0) (m + 1) := by
  have h1 : lvF (m + n) (wt (m + n) (valF (sideB as bs))) (2 ^ (m + n)) k = sumTo (fun s => sumTo (fun t => if manyF m s + manyF n t = k then (wt m (valF as) s * wt m (valF as) s) * (wt n (valF bs) t * wt n (valF bs) t) else 0) (2 ^ n)) (2 ^ m) := by
    have key : ∀ (h : Nat -> Int) (M : Nat) (f : Nat -> Nat -> Int), ∀ N, (∀ s t, s < M -> t < N -> h (s + M * t) = f s t) -> sumTo h (M * N) = sumTo (fun s => sumTo (fun t => f s t) N) M := fun h M f N => by
      induction N with
      | zero => intro _; show (0 : Int) = _; rw [show (fun s => sumTo (fun t => f s t) 0) = fun _ => (0 : Int) from rfl, sumTo_zero]
      | succ N ih =>
        intro H
        rw [Nat.mul_succ, sumTo_add, ih fun s t hs ht => H s t hs (by omega)]
        show _ = sumTo (fun s => sumTo (fun t => f s t) N + f s N) M
        rw [<- sumTo_plus]
        congr 1
        refine sumTo_congr fun j hj => ?_
        rw [Nat.add_comm]
        exact H j N hj (Nat.lt_succ_self _)
    unfold lvF
    rw [sb_pow]
    refine key _ _ _ _ fun s t hs ht => ?_
    rw [many_prod m n s t hs, side_wt ha hb hs]
    split
    . ac_rfl
    . rfl
  have h2 : ∀ s, s < 2 ^ m -> sumTo (fun t => if manyF m s + manyF n t = k then (wt m (valF as) s * wt m (valF as) s) * (wt n (valF bs) t * wt n (valF bs) t) else 0) (2 ^ n) = sumTo (fun j => if manyF m s = j then (if j <= k /\ k - j < n + 1 then (wt m (valF as) s * wt m (valF as) s) * lvF n (wt n (valF bs)) (2 ^ n) (k - j) else 0) else 0) (m + 1) := fun s _ => by
    rw [sumTo_pick (fun j => if j <= k /\ k - j < n + 1 then (wt m (valF as) s * wt m (valF as) s) * lvF n (wt n (valF bs)) (2 ^ n) (k - j) else 0) (manyF m s), if_pos (by have := manyF_le m s; omega)]
    by_cases c : manyF m s <= k /\ k - manyF m s < n + 1
    . rw [if_pos c]
      unfold lvF
      rw [sumTo_mul]
      refine sumTo_congr fun t _ => ?_
      by_cases d : manyF n t = k - manyF m s
      . rw [if_pos d, if_pos (by omega)]
      . rw [if_neg d, if_neg (by omega), Int.mul_zero]
    . rw [if_neg c]
      have e : ∀ t, (if manyF m s + manyF n t = k then (wt m (valF as) s * wt m (valF as) s) * (wt n (valF bs) t * wt n (valF bs) t) else 0) = 0 := fun t => by
        rw [if_neg]
        have := manyF_le n t
        omega
      rw [sumTo_congr fun t _ => e t, sumTo_zero]
  rw [h1, sumTo_congr h2, sumTo_swap]
  refine sumTo_congr fun j _ => ?_
  by_cases c : j <= k /\ k - j < n + 1
  . simp only [if_pos c]
    conv => rhs; unfold lvF
    rw [sumTo_mulr]
    refine sumTo_congr fun s _ => ?_
    split
    . rfl
    . rw [Int.zero_mul]
  . simp only [if_neg c, ite_self, sumTo_zero]
theorem sh_frac {x y : Int} (hy : 0 < y) : shT x y * y = x * shB x y /\ 0 < shB x y := by
  have hg : 0 < (x.gcd y : Int) := by
    have : x.gcd y ≠ 0 := fun e => by
      have := (Int.gcd_eq_zero_iff.mp e).2
      omega
    omega
  obtain ⟨a, ea⟩ := Int.gcd_dvd_left (a := x) (b := y)
  obtain ⟨b, eb⟩ := Int.gcd_dvd_right (a := x) (b := y)
  have e1 : shT x y = a := by
    unfold shT
    conv => lhs; lhs; rw [ea]
    exact Int.mul_ediv_cancel_left _ (by omega)
  have e2 : shB x y = b := by
    unfold shB
    conv => lhs; lhs; rw [eb]
    exact Int.mul_ediv_cancel_left _ (by omega)
  rw [e1, e2]
  generalize (x.gcd y : Int) = g at *
  refine ⟨by rw [eb, ea]; ac_rfl, ?_⟩
  rw [eb] at hy
  exact Int.pos_of_mul_pos_right hy (by omega)
theorem sh_cross {x y a b : Int} (hy : 0 < y) (hb : 0 < b) (h : x * b = a * y) : shD x y = shD a b := by
  have e1 : shD (b * x) (b * y) = shD x y := sh_eq hb rfl rfl
  have e2 : shD (y * a) (y * b) = shD a b := sh_eq hy rfl rfl
  rw [<- e1, <- e2]
  congr 1
  . rw [Int.mul_comm, h, Int.mul_comm]
  . exact Int.mul_comm _ _
theorem Tape.lst {K : W.Frag} {H : Hp} {t a : Addr} {ns : List Int} (T : Tape K H t a ns) : ∃ zs, H t = some (.lst zs) := by
  obtain ⟨i, r, c, _, _, h⟩ := T.at_
  exact ⟨_, h⟩
theorem sum_tape {H H' : Hp} {v : V} {m : Nat} {t a : Addr} {ns : List Int} {ts : List (Nat × Int)} (S : SumAt K H v m ts) (F : Tape K H t a ns) (f : Frm t H H') : SumAt K H' v m ts := .of (Rep.frm f F.lst _ _ (by have e := tups_T ts; simp [sumD, tupOnly, tupsOnly, e]) S.rep)
structure Trio (K : W.Frag) (H : Hp) (l : Addr) (m n : Nat) (as bs : List Bool) (u v w : V) : Prop where
  at_ : H l = some (.lst [u, v, w])
  s1 : SumAt K H u m (termG (wt m (valF as)) (2 ^ m))
  s2 : SumAt K H v n (termG (wt n (valF bs)) (2 ^ n))
  s3 : SumAt K H w (m + n) (termG (wt (m + n) (valF (sideB as bs))) (2 ^ (m + n)))
  l1 : as.length = 2 ^ m
  l2 : bs.length = 2 ^ n
  m1 : 1 <= m /\ m <= 3
  n1 : 1 <= n /\ n <= 3
theorem Trio.same {H H' : Hp} {l : Addr} {m n : Nat} {as bs : List Bool} {u v w : V} (h : Trio K H l m n as bs u v w) (s : Same H H') : Trio K H' l m n as bs u v w :=
  ⟨s _ _ h.at_, h.s1.same s, h.s2.same s, h.s3.same s, h.l1, h.l2, h.m1, h.n1⟩
theorem Trio.frm {H H' : Hp} {l t a : Addr} {ns : List Int} {m n : Nat} {as bs : List Bool} {u v w : V} (h : Trio K H l m n as bs u v w) (F : Tape K H t a ns) (nl : l ≠ t) (f : Frm t H H') : Trio K H' l m n as bs u v w :=
  ⟨f _ _ nl h.at_, sum_tape h.s1 F f, sum_tape h.s2 F f, sum_tape h.s3 F f, h.l1, h.l2, h.m1, h.n1⟩
def sp_beside (K : W.Frag) : Sp := fun vs H Q _ => match vs with
  | [.ref p, .ref q] => ∃ as bs : List Bool, SqT K H p (as.map V.bl) /\ SqT K H q (bs.map V.bl) /\ 1 <= as.length /\ as.length <= 8 /\ bs.length <= 8 /\ outT H Q ((sideB as bs).map V.bl)
  | _ => False
theorem sp_beside_mono : SpMono (sp_beside K) := fun vs H Q Q' E h q => by
  unfold sp_beside at *
  split at q
  . revert q; repeat' first | exact h _ _ | exact newL_mono h | exact out_mono h | exact outT_mono h | walk_at "m"
  . exact q.elim
theorem ok__law_beside : FnOk P w K mg base CX0 1 T.f__law_beside T.d__law_beside ["_law_one", "_law_other"] (sp_beside K) := by
  refine T.F__law_beside.ok sc__law_beside (fun vs H Q E h => by unfold sp_beside at h; split at h <;> first | rfl | exact h.elim) (fun cdv A outer s H vs Q E hr h => ?_)
  have hu := hu60 hr
  unfold sp_beside at h
  split at h
  rotate_left
  . exact h.elim
  rename_i p q'
  obtain ⟨as, bs, hp, hq, a1, a8, b8, q⟩ := h
  have hM : as.length * bs.length <= 64 := Nat.mul_le_mul a8 b8
  refine ⟨_, (@pss_cons _ _ _ _ _ (@ps_set _ _ 2 _ _ _ _ sc__law_beside.nd rfl (by walk_at "e") (@pe_callB _ _ _ _ _ _ _ _ _ (kLen (K := K)) rfl T.z_len (by rfl) (@pa1 _ _ _ (@vw _ 0 _ _ (by walk_at "v")) (by rfl)) (by decide) (by decide) (by rfl) (by rfl)) (by rfl) (by walk_at "i")) (@pss_one _ _ _ (@ps_ret _ _ _ _ (@pe_callTy _ _ _ _ _ _ _ _ _ (kTuple (K := K)) rfl T.z_tuple (by rfl) (@pa1 _ _ _ (@pe_compB _ _ _ _ _ _ _ (["_law_place", "_law_one", "_law_many", "_law_other"]) 1 ([0, 2, 1]) _ _ _ _ rfl (@pi_range1 _ _ _ _ _ _ rfl T.z_range (@pa1 _ _ _ (@pe_op _ _ _ _ _ _ _ _ om_mul (@vw _ 2 _ _ (by walk_at "v")) (@pe_callB _ _ _ _ _ _ _ _ _ (kLen (K := K)) rfl T.z_len (by rfl) (@pa1 _ _ _ (@vw _ 1 _ _ (by walk_at "v")) (by rfl)) (by decide) (by decide) (by rfl) (by rfl))) (by rfl)) (by rfl)) (by kernel_rfl) rfl rfl (by kernel_rfl) (fun c => @pg_name _ _ 0 _ (show (["_law_place", "_law_one", "_law_many", "_law_other"] : List Str).Nodup by decide +kernel) rfl (by walk_at "e") (by walk_at "i")) (go_name (by decide)) (fun c => @pts_nil _) (fun c => (@pe_cmpM _ _ _ _ _ _ _ _ (kNe (K := K) hu) (@kIx _ K _ _ _ _ _ (@vw _ 1 _ _ (by walk_at "v")) (@pe_op _ _ _ _ _ _ _ _ om_mod (@vw _ 0 _ _ (by walk_at "v")) (@vw _ 2 _ _ (by walk_at "v"))) (by intro _ _; rfl) (by rfl)) (@kIx _ K _ _ _ _ _ (@vw _ 3 _ _ (by walk_at "v")) (@pe_op _ _ _ _ _ _ _ _ om_div (@vw _ 0 _ _ (by walk_at "v")) (@vw _ 2 _ _ (by walk_at "v"))) (by intro _ _; rfl) (by rfl)) (by walk_at "n"))) (by intro _; rfl)) (by rfl)) (by decide) (by decide) (by rfl) (by rfl))))), ?_⟩
  refine ⟨as.length, .inr ⟨_, hp, by rw [List.length_map]⟩, ?_⟩
  dsimp only [gName]
  refine ⟨bs.length, .inr ⟨_, hq, by rw [List.length_map]⟩, .inr (.inl ⟨by omega, by omega⟩), ((as.length * bs.length : Nat) : Int), by rw [Int.natCast_mul], by omega, by omega, ?_⟩
  refine comp_range (fun i ys H' => H' = H /\ ys = ((List.range i).map fun p => gB as (p % as.length) != gB bs (p / as.length)).map V.bl) ⟨rfl, rfl⟩ (fun i ys H' hi ⟨_, e⟩ => by
    rw [e, List.length_map, List.length_map, List.length_range]; exact small1000 (by omega)) ?_ ?_
  . rintro i ys H' hi ⟨rfl, rfl⟩
    rw [show (0 : Int) + (i : Int) = (i : Int) from Int.zero_add _]
    have hi' : i < as.length * bs.length := by omega
    have h1 : i % as.length < as.length := Nat.mod_lt _ (by omega)
    have h2 : i / as.length < bs.length := Nat.div_lt_of_lt_mul hi'
    refine ⟨by omega, _, .bl (gB as (i % as.length)), .inr hp, gB_at h1, okDiv_of (by omega) (Int.le_trans (show ((as.length : Nat) : Int) <= 8 by omega) (by decide)), _, .bl (gB bs (i / as.length)), .inr hq, gB_at h2, rfl, ?_⟩
    rw [List.range_succ, List.map_append, List.map_append]
    congr 1
    show [V.bl (true ^^ (gB as (i % as.length) == gB bs (i / as.length)))] = [V.bl (gB as (i % as.length) != gB bs (i / as.length))]
    cases gB as (i % as.length) <;> cases gB bs (i / as.length) <;> rfl
  . rintro ys H' ⟨rfl, rfl⟩ l hl
    rw [Int.toNat_natCast]
    refine ⟨_, .inl ⟨.of upd_same, fun r hr => ?_⟩⟩
    exact q r _ ((Same.upd hl).free hr) ((Same.upd hl).trans (Same.upd hr)) upd_same
theorem termG_keys (g : Nat -> Int) : ∀ N, ((termG g N).map fun t => (t.1 : Int)).Nodup
  | 0 => List.nodup_nil
  | N + 1 => by
    show ((termG g N ++ (if g N = 0 then [] else [(N, g N)])).map fun t => (t.1 : Int)).Nodup
    by_cases e : g N = 0
    . rw [if_pos e, List.append_nil]; exact termG_keys g N
    . rw [if_neg e, List.map_append, List.nodup_append]
      refine ⟨termG_keys g N, by simp, fun a h1 b h2 => ?_⟩
      obtain ⟨t, ht, rfl⟩ := List.mem_map.mp h1
      simp only [List.map_cons, List.map_nil, List.mem_singleton] at h2
      have := (termG_mem ht).1
      subst h2
      omega
def dkT (ts : List (Nat × Int)) : List (Key × V) := ts.map fun t => ((Sum.inl (t.1 : Int) : Key), V.int t.2)
theorem pair_inj {M s t s' t' : Nat} (hs : s < M) (hs' : s' < M) (h : s + M * t = s' + M * t') : s = s' /\ t = t' := by
  have h1 : (s + M * t) % M = (s' + M * t') % M := by rw [h]
  rw [Nat.add_mul_mod_self_left, Nat.add_mul_mod_self_left, Nat.mod_eq_of_lt hs, Nat.mod_eq_of_lt hs'] at h1
  subst h1
  exact ⟨rfl, Nat.eq_of_mul_eq_mul_left (by omega) (show M * t = M * t' by omega)⟩
def keyN (M s t : Nat) : Key := Sum.inl (((s + M * t : Nat)) : Int)
theorem keyN_inj {M s t s' t' : Nat} (hs : s < M) (hs' : s' < M) (h : keyN M s t = keyN M s' t') : s = s' /\ t = t' := by
  have h1 : (((s + M * t : Nat)) : Int) = ((s' + M * t' : Nat) : Int) := Sum.inl.inj h
  exact pair_inj hs hs' (by omega)
structure Due (A B : List (Nat × Int)) (M i j : Nat) (kvs : List (Key × V)) : Prop where
  len : kvs.length = i * B.length + j
  has : ∀ i' j' a b, A[i']? = some a -> B[j']? = some b -> (i' < i \/ (i' = i /\ j' < j)) -> valV kvs (keyN M a.1 b.1) = some (.int (a.2 * b.2))
  only : ∀ s t, s < M -> valV kvs (keyN M s t) ≠ none -> ∃ i' j' a b, A[i']? = some a /\ B[j']? = some b /\ a.1 = s /\ b.1 = t /\ (i' < i \/ (i' = i /\ j' < j))
theorem nd_ix {A : List (Nat × Int)} (h : (A.map fun q => (q.1 : Int)).Nodup) {i i' : Nat} {a a' : Nat × Int} (h1 : A[i]? = some a) (h2 : A[i']? = some a') (e : a.1 = a'.1) : i = i' := by
  obtain ⟨x1, y1⟩ := List.getElem?_eq_some_iff.mp h1
  obtain ⟨x2, y2⟩ := List.getElem?_eq_some_iff.mp h2
  have := (List.getElem_inj (h₀ := by rw [List.length_map]; exact x1) (h₁ := by rw [List.length_map]; exact x2) h).mp (by rw [List.getElem_map, List.getElem_map, y1, y2, e])
  exact this
theorem Due.put {A B : List (Nat × Int)} {M i j : Nat} {kvs : List (Key × V)} {a b : Nat × Int} (D : Due A B M i j kvs) (hA : (A.map fun q => (q.1 : Int)).Nodup) (hB : (B.map fun q => (q.1 : Int)).Nodup) (hM : ∀ q ∈ A, q.1 < M) (ha : A[i]? = some a) (hb : B[j]? = some b) : Due A B M i (j + 1) (putK kvs (keyN M a.1 b.1) (.int (a.2 * b.2))) := by
  have haM := hM a (List.mem_of_getElem? ha)
  have hnew : valV kvs (keyN M a.1 b.1) = none := by
    cases e : valV kvs (keyN M a.1 b.1) with
    | none => rfl
    | some v =>
      obtain ⟨i', j', a', b', h1, h2, h3, h4, h5⟩ := D.only a.1 b.1 haM (by rw [e]; intro z; cases z)
      have := nd_ix hA h1 ha h3
      have := nd_ix hB h2 hb h4
      omega
  refine ⟨by rw [putK_new _ hnew, List.length_append, D.len]; rfl, fun i' j' a' b' h1 h2 h3 => ?_, fun s t hs h => ?_⟩
  . rw [valV_put]
    by_cases e : keyN M a'.1 b'.1 = keyN M a.1 b.1
    . obtain ⟨e1, e2⟩ := keyN_inj (hM a' (List.mem_of_getElem? h1)) haM e
      have := nd_ix hA h1 ha e1
      have := nd_ix hB h2 hb e2
      subst i' j'
      rw [h1] at ha
      rw [h2] at hb
      cases ha
      cases hb
      rw [if_pos rfl]
    . rw [if_neg e]
      refine D.has i' j' a' b' h1 h2 ?_
      rcases h3 with h3 | ⟨h3, h4⟩
      . exact .inl h3
      . refine .inr ⟨h3, ?_⟩
        rcases Nat.lt_or_ge j' j with z | z
        . exact z
        . have : j' = j := by omega
          subst this h3
          rw [h1] at ha
          rw [h2] at hb
          cases ha
          cases hb
          exact absurd rfl e
  . rw [valV_put] at h
    by_cases e : keyN M s t = keyN M a.1 b.1
    . obtain ⟨e1, e2⟩ := keyN_inj hs haM e
      exact ⟨i, j, a, b, ha, hb, e1.symm, e2.symm, .inr ⟨rfl, Nat.lt_succ_self _⟩⟩
    . rw [if_neg e] at h
      obtain ⟨i', j', a', b', h1, h2, h3, h4, h5⟩ := D.only s t hs h
      exact ⟨i', j', a', b', h1, h2, h3, h4, by omega⟩
theorem Due.next {A B : List (Nat × Int)} {M i : Nat} {kvs : List (Key × V)} (D : Due A B M i B.length kvs) : Due A B M (i + 1) 0 kvs := by
  refine ⟨by rw [D.len, Nat.succ_mul, Nat.add_zero], fun i' j' a b h1 h2 h3 => D.has i' j' a b h1 h2 ?_, fun s t hs h => ?_⟩
  . have := (List.getElem?_eq_some_iff.mp h2).1
    omega
  . obtain ⟨i', j', a', b', h1, h2, h3, h4, h5⟩ := D.only s t hs h
    exact ⟨i', j', a', b', h1, h2, h3, h4, by omega⟩
theorem termG_count (g : Nat -> Int) : ∀ N, (((termG g N).length : Nat) : Int) = sumTo (fun k => if g k = 0 then 0 else 1) N
  | 0 => rfl
  | N + 1 => by
    have e : termG g (N + 1) = termG g N ++ (if g N = 0 then [] else [(N, g N)]) := rfl
    show _ = sumTo _ N + (if g N = 0 then 0 else 1)
    rw [e, List.length_append, Int.natCast_add, termG_count g N]
    by_cases c : g N = 0
    . rw [if_pos c, if_pos c]; rfl
    . rw [if_neg c, if_neg c]; rfl
theorem side_count {m n : Nat} {as bs : List Bool} (ha : as.length = 2 ^ m) (hb : bs.length = 2 ^ n) : (termG (wt (m + n) (valF (sideB as bs))) (2 ^ (m + n))).length = (termG (wt m (valF as)) (2 ^ m)).length * (termG (wt n (valF bs)) (2 ^ n)).length := by
  have h : (((termG (wt (m + n) (valF (sideB as bs))) (2 ^ (m + n))).length : Nat) : Int) = (((termG (wt m (valF as)) (2 ^ m)).length : Nat) : Int) * (((termG (wt n (valF bs)) (2 ^ n)).length : Nat) : Int) := by
    rw [termG_count, termG_count, termG_count, sb_pow]
    refine sum_prod _ fun s t hs ht => ?_
    rw [side_wt ha hb hs]
    by_cases c1 : wt m (valF as) s = 0
    . rw [c1, Int.zero_mul, if_pos rfl, Int.zero_mul]
    . by_cases c2 : wt n (valF bs) t = 0
      . rw [c2, Int.mul_zero, if_pos rfl, Int.mul_zero]
      . rw [if_neg c1, if_neg c2, if_neg (Int.mul_ne_zero c1 c2)]
        rfl
  rw [<- Int.natCast_mul] at h
  exact Int.ofNat_inj.mp h
def sp_wright (K : W.Frag) : Sp := fun vs H Q _ => match vs with
  | [u, v, w', .int z] => ∃ (l : Addr) (m n : Nat) (as bs : List Bool), Trio K H l m n as bs u v w' /\ z = m /\ out H Q (.bl true)
  | _ => False
theorem sp_wright_mono : SpMono (sp_wright K) := fun vs H Q Q' E h q => by
  unfold sp_wright at *
  split at q
  . revert q; repeat' first | exact h _ _ | exact newL_mono h | exact out_mono h | exact outT_mono h | walk_at "m"
  . exact q.elim
theorem ok__law_weights_right : FnOk P w K mg base CX0 2 T.f__law_weights_right T.d__law_weights_right ["_law_one", "_law_other", "_law_both_sums", "_law_m"] (sp_wright K) := by
  have G__law_two := ok__law_two (P := P) (w := w) (base := base) T
  refine T.F__law_weights_right.ok sc__law_weights_right (fun vs H Q E h => by unfold sp_wright at h; split at h <;> first | rfl | exact h.elim) (fun cdv A outer s H vs Q E hr h => ?_)
  have hu := hu60 hr
  have mo2 : SpMono sp_two := sp_two_mono
  have hr__law_two := hr.mono (show 1 <= _ by decide)
  unfold sp_wright at h
  split at h
  rotate_left
  . exact h.elim
  rename_i u v w' z
  obtain ⟨l, m, n, as, bs, R, e1, q⟩ := h
  subst e1
  refine ⟨_, (@pss_cons _ _ _ _ _ (@ps_set _ _ 4 _ _ _ _ sc__law_weights_right.nd rfl (by walk_at "e") (@pe_callTy _ _ _ _ _ _ _ _ _ (kDict (K := K) rfl) rfl T.z_dict (by rfl) (@pa1 _ _ _ (@kIx _ K _ _ _ _ _ (@vw _ 2 _ _ (by walk_at "v")) (@pe_int _ _ _ _) (by intro _ _; rfl) (by rfl)) (by rfl)) (by decide) (by decide) (by rfl) (by rfl)) (by rfl) (by walk_at "i")) (@pss_cons _ _ _ _ _ (@ps_set _ _ 5 _ _ _ _ sc__law_weights_right.nd rfl (by walk_at "e") (@pe_dnewK _ _) (by rfl) (by walk_at "i")) (@pss_cons _ _ _ _ _ (@ps_for _ _ _ _ _ _ _ _ PassesOwn.never rfl (@kSeq _ K _ _ _ (@kIx _ K _ _ _ _ _ (@vw _ 0 _ _ (by walk_at "v")) (@pe_int _ _ _ _) (by intro _ _; rfl) (by rfl)) (by rfl)) (@kTupA _ K _ _ _ _ 2 rfl (@pgs_cons _ _ _ _ _ (@pg_name _ _ 6 _ sc__law_weights_right.nd rfl (by walk_at "e") (by walk_at "i")) (@pgs_cons _ _ _ _ _ (@pg_name _ _ 7 _ sc__law_weights_right.nd rfl (by walk_at "e") (by walk_at "i")) (@pgs_nil _) (by rfl)) (by rfl)) (by rfl) (by rfl) (by rfl)) (@pss_one _ _ _ (@ps_for _ _ _ _ _ _ _ _ PassesOwn.never rfl (@kSeq _ K _ _ _ (@kIx _ K _ _ _ _ _ (@vw _ 1 _ _ (by walk_at "v")) (@pe_int _ _ _ _) (by intro _ _; rfl) (by rfl)) (by rfl)) (@kTupA _ K _ _ _ _ 2 rfl (@pgs_cons _ _ _ _ _ (@pg_name _ _ 8 _ sc__law_weights_right.nd rfl (by walk_at "e") (by walk_at "i")) (@pgs_cons _ _ _ _ _ (@pg_name _ _ 9 _ sc__law_weights_right.nd rfl (by walk_at "e") (by walk_at "i")) (@pgs_nil _) (by rfl)) (by rfl)) (by rfl) (by rfl) (by rfl)) (@pss_one _ _ _ (@ps_dput _ _ _ _ _ _ _ _ _ (hu_one hu) (@vw _ 5 _ _ (by walk_at "v")) (@pe_op _ _ _ _ _ _ _ _ (kAdd (K := K)) (@vw _ 6 _ _ (by walk_at "v")) (@pe_op _ _ _ _ _ _ _ _ om_mul (@vw _ 8 _ _ (by walk_at "v")) (@pe_call _ _ _ _ _ _ _ _ _ _ _ _ _ _ _ _ G__law_two hr__law_two rfl T.m__law_two T.F__law_two.kp T.b__law_two .nil pass0 (@pa1 _ _ _ (@vw _ 3 _ _ (by walk_at "v")) (by rfl)) (by decide) (by rfl) (by rfl)))) (@pe_op _ _ _ _ _ _ _ _ om_mul (@vw _ 7 _ _ (by walk_at "v")) (@vw _ 9 _ _ (by walk_at "v"))) (by rfl))) (by intro _; rfl))) (by intro _; rfl)) (@pss_one _ _ _ (@ps_ret _ _ _ _ (@pe_cmpM _ _ _ _ _ _ _ _ (kEqK hu) (@vw _ 4 _ _ (by walk_at "v")) (@vw _ 5 _ _ (by walk_at "v")) (by walk_at "n"))))))), ?_⟩
  obtain ⟨a1, b1, us1, rfl, ha1, hb1, hR1⟩ := id R.s1.at_
  obtain ⟨a2, b2, us2, rfl, ha2, hb2, hR2⟩ := id R.s2.at_
  obtain ⟨a3, b3, us3, rfl, ha3, hb3, hR3⟩ := id R.s3.at_
  have m6 : m <= 6 := by have := R.m1; omega
  have n6 : n <= 6 := by have := R.n1; omega
  have mn6 : m + n <= 6 := by have := R.m1; have := R.n1; omega
  have hLa := wt_light m6 as
  have hLb := wt_light n6 bs
  have hwt := fun {s t : Nat} (hs : s < 2 ^ m) => side_wt (n := n) (t := t) R.l1 R.l2 hs
  have hcnt := side_count R.l1 R.l2
  have ep : (2 : Int) ^ ((m : Int)).toNat = ((2 ^ m : Nat) : Int) := by rw [Int.toNat_natCast, Int.natCast_pow]; rfl
  have h64 : 2 ^ m <= 64 := Nat.pow_le_pow_right (n := 2) (by decide) m6
  have h64n : 2 ^ n <= 64 := Nat.pow_le_pow_right (n := 2) (by decide) n6
  have h64c : 2 ^ (m + n) <= 64 := Nat.pow_le_pow_right (n := 2) (by decide) mn6
  have kA := termG_keys (wt m (valF as)) (2 ^ m)
  have kB := termG_keys (wt n (valF bs)) (2 ^ n)
  have mA := fun q (h : q ∈ termG (wt m (valF as)) (2 ^ m)) => termG_mem h
  have mB := fun q (h : q ∈ termG (wt n (valF bs)) (2 ^ n)) => termG_mem h
  have xA := fun {s : Nat} (h1 : s < 2 ^ m) (h2 : wt m (valF as) s ≠ 0) => termG_has h1 h2
  have xB := fun {s : Nat} (h1 : s < 2 ^ n) (h2 : wt n (valF bs) s ≠ 0) => termG_has h1 h2
  have lA := termG_len (wt m (valF as)) (2 ^ m)
  have lB := termG_len (wt n (valF bs)) (2 ^ n)
  have lC := termG_len (wt (m + n) (valF (sideB as bs))) (2 ^ (m + n))
  refine seq_at (fun σ H' => ∃ d : Addr, σ = [some (.ref a1), some (.ref a2), some (.ref a3), some (.int m), some (.ref d), none, none, none, none, none] /\ Same H H' /\ H' d = some (.dK (dkT (termG (wt (m + n) (valF (sideB as bs))) (2 ^ (m + n)))))) ?_ ?_ (by walk_at "sm")
  . have hul : us3.length = (termG (wt (m + n) (valF (sideB as bs))) (2 ^ (m + n))).length := by have := hR3.length; rw [List.length_map] at this; omega
    refine ⟨_, _, .inr ha3, atI_of (n := 1) rfl rfl, us3, (termG (wt (m + n) (valF (sideB as bs))) (2 ^ (m + n))).map fun t => ((t.1 : Int), t.2), hb3, by rw [List.length_map]; exact hul, by rw [List.length_map]; omega, fun j kv hkv => ?_, ?_, fun d hd => ?_⟩
    . rw [List.getElem?_map] at hkv
      cases et : (termG (wt (m + n) (valF (sideB as bs))) (2 ^ (m + n)))[j]? with
      | none => rw [et] at hkv; cases hkv
      | some t =>
        rw [et] at hkv
        cases hkv
        have hj : j < us3.length := by rw [hul]; exact (List.getElem?_eq_some_iff.mp et).1
        obtain ⟨t', c, h1, h2, h3⟩ := reps_terms_at hR3 (List.getElem?_eq_getElem hj)
        rw [et] at h1
        cases h1
        exact ⟨c, by rw [List.getElem?_eq_getElem hj, h2], h3⟩
    . rw [List.map_map]
      exact termG_keys _ _
    . dsimp only [gName]
      rw [List.map_map]
      have ed : (termG (wt (m + n) (valF (sideB as bs))) (2 ^ (m + n))).map ((fun kv => ((Sum.inl kv.1 : Key), V.int kv.2)) ∘ fun t => ((t.1 : Int), t.2)) = dkT (termG (wt (m + n) (valF (sideB as bs))) (2 ^ (m + n))) := rfl
      rw [ed]
      exact ⟨d, rfl, Same.upd hd, upd_same⟩
  rintro σ H1 ⟨d1, rfl, s1, g1⟩
  refine fun d2 n2 => ?_
  dsimp only [gName]
  have n2' : H d2 = none := s1.free n2
  have d12 : d1 ≠ d2 := fun e => by rw [<- e, g1] at n2; cases n2
  have s2 := s1.trans (Same.upd (o := .dK []) n2)
  have g2 := upd_same (H := H1) (a := d2) (o := .dK [])
  have g1' : upd H1 d2 (.dK []) d1 = some (.dK (dkT (termG (wt (m + n) (valF (sideB as bs))) (2 ^ (m + n))))) := by rw [upd_ne d12]; exact g1
  generalize upd H1 d2 (.dK []) = H2 at *
  have hA := hR1.length
  have hB := hR2.length
  rw [List.length_map] at hA hB
  generalize hAd : termG (wt m (valF as)) (2 ^ m) = A at *
  generalize hBd : termG (wt n (valF bs)) (2 ^ n) = B at *
  refine seq_at (fun σ H' => ∃ (z6 z7 z8 z9 : Option V) (kvs : List (Key × V)), σ = [some (.ref a1), some (.ref a2), some (.ref a3), some (.int m), some (.ref d1), some (.ref d2), z6, z7, z8, z9] /\ Same H H' /\ H' d1 = some (.dK (dkT (termG (wt (m + n) (valF (sideB as bs))) (2 ^ (m + n))))) /\ H' d2 = some (.dK kvs) /\ Due A B (2 ^ m) A.length 0 kvs) ?_ ?_ (by walk_at "sm")
  . refine ⟨_, .ref b1, .inr (s2.sqT ha1), atI_of (n := 1) rfl rfl, .inr ⟨⟨_, s2.sqT hb1⟩, ?_⟩⟩
    refine for_tup (xs := us1) (fun i σ H' => ∃ (z6 z7 z8 z9 : Option V) (kvs : List (Key × V)), σ = [some (.ref a1), some (.ref a2), some (.ref a3), some (.int m), some (.ref d1), some (.ref d2), z6, z7, z8, z9] /\ Same H H' /\ H' d1 = some (.dK (dkT (termG (wt (m + n) (valF (sideB as bs))) (2 ^ (m + n))))) /\ H' d2 = some (.dK kvs) /\ Due A B (2 ^ m) i 0 kvs) ⟨none, none, none, none, [], rfl, s2, g1', g2, ⟨by simp, (fun i' j' a b _ _ h => by omega), fun s t _ h => absurd rfl h⟩⟩ (fun i σ H' _ ⟨_, _, _, _, _, _, s, _⟩ => s.sqT hb1) ?_ ?_
    . rintro i x σ H3 hx ⟨z6, z7, z8, z9, kvs, rfl, s3, g13, g23, D⟩
      obtain ⟨qa, c, hqa, rfl, hc⟩ := reps_terms_at hR1 hx
      have hqm := mA qa (List.mem_of_getElem? hqa)
      have hal := hLa qa.1
      rw [<- hqm.2.1] at hal
      refine ⟨_, .inr (s3.sqT hc), rfl, _, _, rfl, _, _, rfl, rfl, ?_⟩
      dsimp only [gName]
      refine ⟨_, .ref b2, .inr (s3.sqT ha2), atI_of (n := 1) rfl rfl, .inr ⟨⟨_, s3.sqT hb2⟩, ?_⟩⟩
      refine for_tup (xs := us2) (fun j σ H' => ∃ (z8 z9 : Option V) (kvs : List (Key × V)), σ = [some (.ref a1), some (.ref a2), some (.ref a3), some (.int m), some (.ref d1), some (.ref d2), some (.int (qa.1 : Int)), some (.int qa.2), z8, z9] /\ Same H H' /\ H' d1 = some (.dK (dkT (termG (wt (m + n) (valF (sideB as bs))) (2 ^ (m + n))))) /\ H' d2 = some (.dK kvs) /\ Due A B (2 ^ m) i j kvs) ⟨z8, z9, kvs, rfl, s3, g13, g23, D⟩ (fun i σ H' _ ⟨_, _, _, _, s, _⟩ => s.sqT hb2) ?_ ?_
      . clear D g23 g13 s3 kvs
        rintro j x σ H4 hx ⟨z8, z9, kvs, rfl, s4, g14, g24, D⟩
        obtain ⟨qb, c, hqb, rfl, hc⟩ := reps_terms_at hR2 hx
        have hqn := mB qb (List.mem_of_getElem? hqb)
        have hbl := hLb qb.1
        rw [<- hqn.2.1] at hbl
        refine ⟨_, .inr (s4.sqT hc), rfl, _, _, rfl, _, _, rfl, rfl, ?_⟩
        dsimp only [gName]
        refine ⟨.inr (.inl ⟨by omega, by omega⟩), ?_⟩
        have ek : (qa.1 : Int) + (qb.1 : Int) * ((2 ^ m : Nat) : Int) = ((qa.1 + 2 ^ m * qb.1 : Nat) : Int) := by rw [Int.natCast_add, Int.natCast_mul, Int.mul_comm]
        refine ⟨by omega, by omega, fun H5 s5 => ?_⟩
        rw [ep]
        have hdl := D.len
        have hjl := (List.getElem?_eq_some_iff.mp hqb).1
        have hil := (List.getElem?_eq_some_iff.mp hqa).1
        have hpr : i * B.length <= 64 * 64 := Nat.mul_le_mul (by omega) (by omega)
        refine ⟨.inr (.inl ⟨by omega, by omega⟩), d2, _, rfl, (by show DPut H5 d2 (.int ((qa.1 : Int) + (qb.1 : Int) * ((2 ^ m : Nat) : Int))) _ _; rw [ek]; exact DPut.k (k := keyN (2 ^ m) qa.1 qb.1) (s5 _ _ g24) (Nat.lt_of_le_of_lt (show kvs.length <= 5000 by omega) (by decide))), ?_⟩
        exact ⟨_, _, _, rfl, same_put (s4.trans s5) n2', by rw [upd_ne d12]; exact s5 _ _ g14, upd_same, D.put kA kB (fun q h => (mA q h).1) hqa hqb⟩
      . rintro σ H4 ⟨z8, z9, kvs, rfl, s4, g14, g24, D⟩
        rw [<- hB] at D
        exact ⟨_, _, _, _, kvs, rfl, s4, g14, g24, D.next⟩
    . rintro σ H3 ⟨z6, z7, z8, z9, kvs, rfl, s3, g13, g23, D⟩
      rw [<- hA] at D
      exact ⟨_, _, _, _, kvs, rfl, s3, g13, g23, D⟩
  rintro σ H3 ⟨z6, z7, z8, z9, kvs, rfl, s3, g13, g23, D⟩
  have hlen := D.len
  rw [Nat.add_zero] at hlen
  refine ⟨_, kvs, g13, g23, ?_, fun q hq => ?_, q H3 s3⟩
  . unfold dkT
    rw [List.length_map, hlen, hcnt]
  . unfold dkT at hq
    obtain ⟨t, ht, rfl⟩ := List.mem_map.mp hq
    obtain ⟨t1, t2, t3⟩ := termG_mem ht
    obtain ⟨s, r, hs, hr, e⟩ := side_div t1
    rw [e, hwt hs] at t2
    have c1 : wt m (valF as) s ≠ 0 := fun z => t3 (by rw [t2, z, Int.zero_mul])
    have c2 : wt n (valF bs) r ≠ 0 := fun z => t3 (by rw [t2, z, Int.mul_zero])
    obtain ⟨i', hi', e1⟩ := List.getElem_of_mem (xA hs c1)
    obtain ⟨j', hj', e2⟩ := List.getElem_of_mem (xB hr c2)
    have := D.has i' j' _ _ (by rw [List.getElem?_eq_getElem hi', e1]) (by rw [List.getElem?_eq_getElem hj', e2]) (.inl hi')
    refine ⟨t.2, rfl, ?_⟩
    rw [t2, <- this, e]
    rfl
theorem reps_put {H : Hp} {l : Addr} {o : HO} {ds : List Dv} {ys : List V} (hl : ∃ zs, H l = some (.lst zs)) (hd : tupsOnly ds = true) (h : Reps K H ds ys) : Reps K (upd H l o) ds ys := Reps.frm Frm.updT hl _ _ hd h
def prD (q : Int × Int) : Dv := .tup [.int q.1, .int q.2]
theorem tups_pr : ∀ qs : List (Int × Int), tupsOnly (qs.map prD) = true
  | [] => rfl
  | c :: cs => by rw [List.map_cons]; unfold tupsOnly; rw [tups_pr cs]; rfl
theorem pr_inv {H : Hp} {q : Int × Int} {v : V} (h : Rep K H (prD q) v) : ∃ c, v = .ref c /\ SqT K H c [.int q.1, .int q.2] := by
  obtain ⟨a, xs, e, h1, h2⟩ := rep_tup_inv h
  unfold Reps at h2
  obtain ⟨x, r, rfl, h0, h3⟩ := h2
  unfold Reps at h3
  obtain ⟨y, r, rfl, h4, h5⟩ := h3
  unfold Reps at h5
  unfold Rep at h0 h4
  subst h0 h4 h5
  exact ⟨a, e, h1⟩
def stT (k : Nat) (cs : List Bool) (x y : Int) : Int := shT (stW k y + stP k (wt k (valF cs)) x y (k + 1)) (2 * stW k y)
def stB (k : Nat) (cs : List Bool) (x y : Int) : Int := shB (stW k y + stP k (wt k (valF cs)) x y (k + 1)) (2 * stW k y)
def prO (x y : Int) (k : Nat) (cs : List Bool) : Int × Int := (2 * stT k cs x y - stB k cs x y, stB k cs x y)
theorem st_frac {k : Nat} {cs : List Bool} {x y : Int} (hy : 0 < y) : (prO x y k cs).1 * stW k y = stPb k (wt k (valF cs)) x y * (prO x y k cs).2 /\ 0 < (prO x y k cs).2 := by
  have hS := stW_pos (m := k) hy
  obtain ⟨h1, h2⟩ := sh_frac (x := stW k y + stP k (wt k (valF cs)) x y (k + 1)) (y := 2 * stW k y) (by omega)
  refine ⟨?_, h2⟩
  show (2 * stT k cs x y - stB k cs x y) * stW k y = stP k (wt k (valF cs)) x y (k + 1) * stB k cs x y
  have h1 : stT k cs x y * (2 * stW k y) = (stW k y + stP k (wt k (valF cs)) x y (k + 1)) * stB k cs x y := h1
  generalize stW k y = S at *
  generalize stP k (wt k (valF cs)) x y (k + 1) = P at *
  generalize stT k cs x y = T0 at *
  generalize stB k cs x y = B0 at *
  rw [Int.sub_mul, Int.add_mul] at *
  have e1 : 2 * T0 * S = T0 * (2 * S) := by ac_rfl
  have e2 : B0 * S = S * B0 := Int.mul_comm _ _
  omega
theorem st_nb {k : Nat} {cs : List Bool} {x y : Int} (k6 : k <= 6) (y0 : 0 < y) (hx : Nb x 4) (hy : Nb y 4) : Nb (stT k cs x y) 110 /\ Nb (stB k cs x y) 110 := by
  have h1 : Nb ((2 ^ (2 * k) : Nat) : Int) 13 := by
    unfold Nb
    rw [Int.natAbs_natCast]
    exact Nat.pow_lt_pow_right (by decide) (by omega)
  have hS : Nb (stW k y) 60 := (h1.mul (hy.pow k)).up (by omega)
  have hl : Nb (y - 2 * x) 6 := by unfold Nb at *; omega
  have hP : Nb (stP k (wt k (valF cs)) x y (k + 1)) 108 := by
    refine (Nb.sum (a := 100) (n := k + 1) fun j hj => ?_).up (by omega)
    exact (((lv_nb k6 (wt_light k6 cs) j).mul (hl.pow j)).mul (hy.pow (k - j))).up (by omega)
  have hA : Nb (stW k y + stP k (wt k (valF cs)) x y (k + 1)) 110 := ((hS.up (show 60 <= 108 by omega)).add hP).up (by omega)
  have hC : Nb (2 * stW k y) 110 := ((show Nb 2 2 by unfold Nb; decide).mul hS).up (by omega)
  have hs := sh_small (N := 2 ^ 110) hA hC (by have := stW_pos (m := k) y0; omega)
  exact ⟨hs.1, hs.2.1⟩
theorem pr_nb {k : Nat} {cs : List Bool} {x y : Int} (k6 : k <= 6) (y0 : 0 < y) (hx : Nb x 4) (hy : Nb y 4) : Nb (prO x y k cs).1 115 /\ Nb (prO x y k cs).2 115 := by
  obtain ⟨h1, h2⟩ := st_nb (cs := cs) k6 y0 hx hy
  refine ⟨?_, h2.up (by omega)⟩
  have h3 : Nb (2 * stT k cs x y) 112 := ((show Nb 2 2 by unfold Nb; decide).mul h1).up (by omega)
  have h4 : Nb (-stB k cs x y) 112 := by have z := h2.up (show 110 <= 112 by omega); unfold Nb at z ⊢; rw [Int.natAbs_neg]; exact z
  have h5 := (h3.add h4).up (show 113 <= 115 by omega)
  exact h5
theorem shk_eq {S0 S1 P0 P1 X0 X1 X2 B0 B1 B2 : Int} (h0 : X0 * S0 = P0 * B0) (h1 : X1 * S1 = P1 * B1) (h2 : X2 * (S0 * S1) = (P0 * P1) * B2) (s0 : 0 < S0) (s1 : 0 < S1) : X2 * (B0 * B1) = (X0 * X1) * B2 := by
  refine Int.eq_of_mul_eq_mul_right (a := S0 * S1) (Int.ne_of_gt (Int.mul_pos s0 s1)) ?_
  have e1 : X2 * (B0 * B1) * (S0 * S1) = X2 * (S0 * S1) * (B0 * B1) := by ac_rfl
  have e2 : X0 * X1 * B2 * (S0 * S1) = (X0 * S0) * (X1 * S1) * B2 := by ac_rfl
  rw [e1, h2, e2, h0, h1]
  ac_rfl
theorem stW_add (m n : Nat) (y : Int) : stW (m + n) y = stW m y * stW n y := by
  unfold stW
  rw [four_add, Int.pow_add]
  ac_rfl
def sp_shaken (K : W.Frag) : Sp := fun vs H Q _ => match vs with
  | [.ref l, .ref ps] => ∃ (m n : Nat) (as bs : List Bool) (u v w : V) (x y : Int), Trio K H l m n as bs u v w /\ SqT K H ps [.int x, .int y] /\ 0 < y /\ Nb x 4 /\ Nb y 4 /\ out H Q (.bl true)
  | _ => False
theorem sp_shaken_mono : SpMono (sp_shaken K) := fun vs H Q Q' E h q => by
  unfold sp_shaken at *
  split at q
  . revert q; repeat' first | exact h _ _ | exact newL_mono h | exact out_mono h | exact outT_mono h | walk_at "m"
  . exact q.elim
theorem ok__law_shaken_right : FnOk P w K mg base CX0 5 T.f__law_shaken_right T.d__law_shaken_right ["_law_sums", "_law_share"] (sp_shaken K) := by
  have G_stays := ok_stays (P := P) (w := w) (base := base) T; have G_share_of := ok_share_of (P := P) (w := w) (base := base) T
  refine T.F__law_shaken_right.ok sc__law_shaken_right (fun vs H Q E h => by unfold sp_shaken at h; split at h <;> first | rfl | exact h.elim) (fun cdv A outer s H vs Q E hr h => ?_)
  have hu := hu60 hr
  have mo1 : SpMono (sp_stays K) := sp_stays_mono
  have mo2 : SpMono sp_share := sp_share_mono
  have hr_stays := hr.mono (show 4 <= _ by decide); have hr_share_of := hr.mono (show 2 <= _ by decide)
  unfold sp_shaken at h
  split at h
  rotate_left
  . exact h.elim
  rename_i l ps
  obtain ⟨m, n, as, bs, u, v, w', x, y, R, hps, y0, hx, hy, q⟩ := h
  have mn6 : m + n <= 6 := by have := R.m1; have := R.n1; omega
  have hf0 := st_frac (k := m) (cs := as) (x := x) y0
  have hf1 := st_frac (k := n) (cs := bs) (x := x) y0
  have hf2 := st_frac (k := m + n) (cs := sideB as bs) (x := x) y0
  have hn0 := pr_nb (k := m) (cs := as) (by omega) y0 hx hy
  have hn1 := pr_nb (k := n) (cs := bs) (by omega) y0 hx hy
  have hn2 := pr_nb (k := m + n) (cs := sideB as bs) mn6 y0 hx hy
  have hcross : (prO x y (m + n) (sideB as bs)).1 * ((prO x y m as).2 * (prO x y n bs).2) = ((prO x y m as).1 * (prO x y n bs).1) * (prO x y (m + n) (sideB as bs)).2 := by
    have h2 := hf2.1
    rw [stW_add, side_st R.l1 R.l2] at h2
    exact shk_eq hf0.1 hf1.1 h2 (stW_pos y0) (stW_pos y0)
  have hall : ∀ (i : Nat) (z : V), [u, v, w'][i]? = some z -> ∃ (k : Nat) (cs : List Bool), k <= 6 /\ SumAt K H z k (termG (wt k (valF cs)) (2 ^ k)) /\ [prO x y m as, prO x y n bs, prO x y (m + n) (sideB as bs)][i]? = some (prO x y k cs) := fun i z hz => by
    match i, hz with
    | 0, hz => cases hz; exact ⟨m, as, by omega, R.s1, rfl⟩
    | 1, hz => cases hz; exact ⟨n, bs, by omega, R.s2, rfl⟩
    | 2, hz => cases hz; exact ⟨m + n, sideB as bs, mn6, R.s3, rfl⟩
    | i + 3, hz => cases hz
  refine ⟨_, (@pss_cons _ _ _ _ _ (@ps_set _ _ 2 _ _ _ _ sc__law_shaken_right.nd rfl (by walk_at "e") (@pe_lst _ _ _ _ (@pa_nil _)) (by rfl) (by walk_at "i")) (@pss_cons _ _ _ _ _ (@ps_for _ _ _ _ _ _ _ _ PassesOwn.never rfl (@kSeq _ K _ _ _ (@vw _ 0 _ _ (by walk_at "v")) (by rfl)) (@pg_name _ _ 3 _ sc__law_shaken_right.nd rfl (by walk_at "e") (by walk_at "i")) (@pss_cons _ _ _ _ _ (@ps_asg _ _ _ _ _ _ (@pe_call _ _ _ _ _ _ _ _ _ _ _ _ _ _ _ _ G_stays hr_stays rfl T.m_stays T.F_stays.kp T.b_stays .nil pass0 (@pa_cons _ _ _ _ _ (@vw _ 3 _ _ (by walk_at "v")) (@pa1 _ _ _ (@vw _ 1 _ _ (by walk_at "v")) (by rfl)) (by rfl)) (by decide) (by rfl) (by rfl)) (@kTupA _ K _ _ _ _ 2 rfl (@pgs_cons _ _ _ _ _ (@pg_name _ _ 4 _ sc__law_shaken_right.nd rfl (by walk_at "e") (by walk_at "i")) (@pgs_cons _ _ _ _ _ (@pg_name _ _ 5 _ sc__law_shaken_right.nd rfl (by walk_at "e") (by walk_at "i")) (@pgs_nil _) (by rfl)) (by rfl)) (by rfl) (by rfl) (by rfl)) (by rfl) (by rfl) (by rfl)) (@pss_one _ _ _ (@ps_expr _ _ _ _ (@kAppend _ K _ _ _ _ _ _ (@vw _ 2 _ _ (by walk_at "v")) (@pa1 _ _ _ (@pe_tup _ _ _ _ _ (@pa_cons _ _ _ _ _ (@pe_op _ _ _ _ _ _ _ _ om_sub (@pe_op _ _ _ _ _ _ _ _ om_mul (@pe_int _ _ _ _) (@vw _ 4 _ _ (by walk_at "v"))) (@vw _ 5 _ _ (by walk_at "v"))) (@pa1 _ _ _ (@vw _ 5 _ _ (by walk_at "v")) (by rfl)) (by rfl))) (by rfl)) (by rfl) (by rfl) (by rfl) (by rfl) (by rfl) (by rfl)) (by rfl)))) (by intro _; rfl)) (@pss_cons _ _ _ _ _ (@ps_set _ _ 4 _ _ _ _ sc__law_shaken_right.nd rfl (by walk_at "e") (@pe_op _ _ _ _ _ _ _ _ om_mul (@kIx _ K _ _ _ _ _ (@kIx _ K _ _ _ _ _ (@vw _ 2 _ _ (by walk_at "v")) (@pe_int _ _ _ _) (by intro _ _; rfl) (by rfl)) (@pe_int _ _ _ _) (by intro _ _; rfl) (by rfl)) (@kIx _ K _ _ _ _ _ (@kIx _ K _ _ _ _ _ (@vw _ 2 _ _ (by walk_at "v")) (@pe_int _ _ _ _) (by intro _ _; rfl) (by rfl)) (@pe_int _ _ _ _) (by intro _ _; rfl) (by rfl))) (by rfl) (by walk_at "i")) (@pss_one _ _ _ (@ps_ret _ _ _ _ (@pe_cmpM _ _ _ _ _ _ _ _ (kEq (K := K) hu) (@pe_call _ _ _ _ _ _ _ _ _ _ _ _ _ _ _ _ G_share_of hr_share_of rfl T.m_share_of T.F_share_of.kp T.b_share_of .nil pass0 (@pa_cons _ _ _ _ _ (@kIx _ K _ _ _ _ _ (@kIx _ K _ _ _ _ _ (@vw _ 2 _ _ (by walk_at "v")) (@pe_int _ _ _ _) (by intro _ _; rfl) (by rfl)) (@pe_int _ _ _ _) (by intro _ _; rfl) (by rfl)) (@pa1 _ _ _ (@kIx _ K _ _ _ _ _ (@kIx _ K _ _ _ _ _ (@vw _ 2 _ _ (by walk_at "v")) (@pe_int _ _ _ _) (by intro _ _; rfl) (by rfl)) (@pe_int _ _ _ _) (by intro _ _; rfl) (by rfl)) (by rfl)) (by rfl)) (by decide) (by rfl) (by rfl)) (@pe_call _ _ _ _ _ _ _ _ _ _ _ _ _ _ _ _ G_share_of hr_share_of rfl T.m_share_of T.F_share_of.kp T.b_share_of .nil pass0 (@pa_cons _ _ _ _ _ (@vw _ 4 _ _ (by walk_at "v")) (@pa1 _ _ _ (@pe_op _ _ _ _ _ _ _ _ om_mul (@kIx _ K _ _ _ _ _ (@kIx _ K _ _ _ _ _ (@vw _ 2 _ _ (by walk_at "v")) (@pe_int _ _ _ _) (by intro _ _; rfl) (by rfl)) (@pe_int _ _ _ _) (by intro _ _; rfl) (by rfl)) (@kIx _ K _ _ _ _ _ (@kIx _ K _ _ _ _ _ (@vw _ 2 _ _ (by walk_at "v")) (@pe_int _ _ _ _) (by intro _ _; rfl) (by rfl)) (@pe_int _ _ _ _) (by intro _ _; rfl) (by rfl))) (by rfl)) (by rfl)) (by decide) (by rfl) (by rfl)) (by walk_at "n"))))))), ?_⟩
  refine ⟨Nat.zero_le _, fun r nr => ?_⟩
  dsimp only [gName]
  have s1 := Same.upd (o := .lst []) nr
  have g1 := upd_same (H := H) (a := r) (o := .lst [])
  generalize upd H r (.lst []) = H1 at *
  refine seq_at (fun σ H' => ∃ (z3 z4 z5 : Option V) (ys : List V), σ = [some (.ref l), some (.ref ps), some (.ref r), z3, z4, z5] /\ Same H H' /\ H' r = some (.lst ys) /\ Reps K H' ([prO x y m as, prO x y n bs, prO x y (m + n) (sideB as bs)].map prD) ys) ?_ ?_ (by walk_at "sm")
  . have hat := R.at_
    refine .inl ⟨⟨_, .of (s1 _ _ hat)⟩, ?_⟩
    have hp3 : [prO x y m as, prO x y n bs, prO x y (m + n) (sideB as bs)].length = 3 := rfl
    generalize [prO x y m as, prO x y n bs, prO x y (m + n) (sideB as bs)] = prs at *
    have h3 : [u, v, w'].length = 3 := rfl
    generalize [u, v, w'] = xs at *
    refine for_list (xs := xs) (fun i σ H' => ∃ (z3 z4 z5 : Option V) (ys : List V), σ = [some (.ref l), some (.ref ps), some (.ref r), z3, z4, z5] /\ Same H H' /\ H' r = some (.lst ys) /\ Reps K H' ((prs.take i).map prD) ys) ⟨none, none, none, [], rfl, s1, g1, reps_nil⟩ (fun i σ H' _ ⟨_, _, _, _, _, s, _⟩ => .of (s _ _ hat)) ?_ ?_
    . rintro i z σ H2 hz ⟨z3, z4, z5, ys, rfl, s2, g2, r2⟩
      have hil := (List.getElem?_eq_some_iff.mp hz).1
      obtain ⟨k, cs, k6, S, hk⟩ := hall i z hz
      dsimp only [gName]
      refine ⟨k, _, x, y, S.same s2, k6, wt_light k6 cs, s2.sqT hps, y0, hx.up (by omega), hy.up (by omega), fun p H3 np s3 g3 => ?_⟩
      refine ⟨_, .inr (.of g3), rfl, _, _, rfl, _, _, rfl, rfl, ?_⟩
      dsimp only [gName]
      have g23 := s3 _ _ g2
      refine ⟨.inl ⟨rfl, _, .of g23⟩, .inr (.inl ⟨by decide, by decide⟩), small_le (show 2 <= 1000 by decide), fun p2 np2 => ?_⟩
      have s4 := Same.upd (o := .tup [.int (prO x y k cs).1, .int (prO x y k cs).2]) np2
      have hl2 := r2.length
      rw [List.length_map, List.length_take] at hl2
      refine ⟨ys, s4 _ _ g23, small1000 (by omega), ?_⟩
      refine ⟨_, _, _, ys ++ [.ref p2], rfl, same_put (s2.trans (s3.trans s4)) nr, upd_same, reps_put ⟨_, s4 _ _ g23⟩ (tups_pr _) ?_⟩
      rw [List.take_add_one, hk, List.map_append]
      exact (Reps.same (s3.trans s4) _ _ r2).append (reps_cons (rep_tup1 upd_same (reps_cons rep_int (reps_cons rep_int reps_nil))) reps_nil)
    . rintro σ H2 ⟨z3, z4, z5, ys, rfl, s2, g2, r2⟩
      have hpl : prs.take xs.length = prs := List.take_of_length_le (by omega)
      rw [hpl] at r2
      exact ⟨_, _, _, ys, rfl, s2, g2, r2⟩
  rintro σ H2 ⟨z3, z4, z5, ys, rfl, s2, g2, r2⟩
  generalize prO x y m as = q0 at *
  generalize prO x y n bs = q1 at *
  generalize prO x y (m + n) (sideB as bs) = q2 at *
  obtain ⟨c0, c1, c2, rfl, h0, h1, h2⟩ : ∃ c0 c1 c2 : Addr, ys = [.ref c0, .ref c1, .ref c2] /\ SqT K H2 c0 [.int q0.1, .int q0.2] /\ SqT K H2 c1 [.int q1.1, .int q1.2] /\ SqT K H2 c2 [.int q2.1, .int q2.2] := by
    rw [List.map_cons, List.map_cons, List.map_cons, List.map_nil] at r2
    unfold Reps at r2
    obtain ⟨x0, r0, rfl, a0, r2⟩ := r2
    unfold Reps at r2
    obtain ⟨x1, r0, rfl, a1, r2⟩ := r2
    unfold Reps at r2
    obtain ⟨x2, r0, rfl, a2, r2⟩ := r2
    unfold Reps at r2
    subst r2
    obtain ⟨c0, rfl, b0⟩ := pr_inv a0
    obtain ⟨c1, rfl, b1⟩ := pr_inv a1
    obtain ⟨c2, rfl, b2⟩ := pr_inv a2
    exact ⟨c0, c1, c2, rfl, b0, b1, b2⟩
  refine seq_at (fun σ H' => σ = [some (.ref l), some (.ref ps), some (.ref r), z3, some (.int (q0.1 * q1.1)), z5] /\ H2 = H') ?_ ?_ (by walk_at "sm")
  . exact ⟨_, .ref c0, .inl (.of g2), atI_of (n := 0) rfl rfl, _, .int q0.1, .inr h0, atI_of (n := 0) rfl rfl, _, .ref c1, .inl (.of g2), atI_of (n := 1) rfl rfl, _, .int q1.1, .inr h1, atI_of (n := 0) rfl rfl, Nb.okMul (hn0.1.up (by omega)) (hn1.1.up (by omega)), rfl, rfl⟩
  rintro σ _ ⟨rfl, rfl⟩
  have hB : 0 < q0.2 * q1.2 := Int.mul_pos hf0.2 hf1.2
  refine ⟨_, .ref c2, .inl (.of g2), atI_of (n := 2) rfl rfl, _, .int q2.1, .inr h2, atI_of (n := 0) rfl rfl, _, .ref c2, .inl (.of g2), atI_of (n := 2) rfl rfl, _, .int q2.2, .inr h2, atI_of (n := 1) rfl rfl, hf2.2, hn2.1.up (show 115 <= 1000 by omega), hn2.2.up (show 115 <= 1000 by omega), fun p1 n1 => ?_⟩
  have s3 := Same.upd (o := .tup [.int (shT q2.1 q2.2), .int (shB q2.1 q2.2)]) n1
  have g3 := upd_same (H := H2) (a := p1) (o := .tup [.int (shT q2.1 q2.2), .int (shB q2.1 q2.2)])
  generalize upd H2 p1 (.tup [.int (shT q2.1 q2.2), .int (shB q2.1 q2.2)]) = H3 at *
  refine ⟨_, .ref c0, .inl (.of (s3 _ _ g2)), atI_of (n := 0) rfl rfl, _, .int q0.2, .inr (s3.sqT h0), atI_of (n := 1) rfl rfl, _, .ref c1, .inl (.of (s3 _ _ g2)), atI_of (n := 1) rfl rfl, _, .int q1.2, .inr (s3.sqT h1), atI_of (n := 1) rfl rfl, Nb.okMul (hn0.2.up (by omega)) (hn1.2.up (by omega)), hB, (hn0.1.mul hn1.1).up (show 230 <= 1000 by omega), (hn0.2.mul hn1.2).up (show 230 <= 1000 by omega), fun p2 n2 => ?_⟩
  have s4 := Same.upd (o := .tup [.int (shT (q0.1 * q1.1) (q0.2 * q1.2)), .int (shB (q0.1 * q1.1) (q0.2 * q1.2))]) n2
  have ed : shD q2.1 q2.2 = shD (q0.1 * q1.1) (q0.2 * q1.2) := sh_cross hf2.2 hB hcross
  refine ⟨shD q2.1 q2.2, shD (q0.1 * q1.1) (q0.2 * q1.2), rep_sh (s4 _ _ g3), rep_sh upd_same, by rw [dep_sh]; omega, ?_⟩
  have e0 : (false ^^ eqD (shD q2.1 q2.2) (shD (q0.1 * q1.1) (q0.2 * q1.2))) = true := by rw [ed, eqD_refl]; rfl
  rw [e0]
  exact q _ (s2.trans (s3.trans s4))
theorem tur_eq {a b c d Oa Ob Fa Fb : Int} (h1 : a * Fa = Oa * b) (h2 : c * Fb = Ob * d) : (Oa * (Fb - Ob) + Ob * (Fa - Oa)) * (b * d) = (a * (d - c) + c * (b - a)) * (Fa * Fb) := by
  have e1 : (Oa * (Fb - Ob) + Ob * (Fa - Oa)) * (b * d) = (Oa * b) * (Fb * d - Ob * d) + (Ob * d) * (Fa * b - Oa * b) := by grind
  rw [e1, <- h1, <- h2]
  grind
def sp_turned9 (K : W.Frag) : Sp := fun vs H Q _ => match vs with
  | [.ref l, .int z1, .int z2, .int z3] => ∃ (m n s r : Nat) (as bs : List Bool) (u v w : V), Trio K H l m n as bs u v w /\ z1 = s /\ z2 = r /\ z3 = m /\ s < 2 ^ m /\ r < 2 ^ n /\ out H Q (.bl true)
  | _ => False
theorem sp_turned9_mono : SpMono (sp_turned9 K) := fun vs H Q Q' E h q => by
  unfold sp_turned9 at *
  split at q
  . revert q; repeat' first | exact h _ _ | exact newL_mono h | exact out_mono h | exact outT_mono h | walk_at "m"
  . exact q.elim
theorem ok__law_turned_right : FnOk P w K mg base CX0 6 T.f__law_turned_right T.d__law_turned_right ["_law_sums", "_law_some", "_law_more", "_law_m"] (sp_turned9 K) := by
  have G_matters := ok_matters (P := P) (w := w) (base := base) T; have G_share_of := ok_share_of (P := P) (w := w) (base := base) T; have G__law_two := ok__law_two (P := P) (w := w) (base := base) T
  refine T.F__law_turned_right.ok sc__law_turned_right (fun vs H Q E h => by unfold sp_turned9 at h; split at h <;> first | rfl | exact h.elim) (fun cdv A outer s H vs Q E hr h => ?_)
  have hu := hu60 hr
  have mo1 : SpMono (sp_matters K) := sp_matters_mono
  have mo2 : SpMono sp_share := sp_share_mono
  have mo3 : SpMono sp_two := sp_two_mono
  have hr_matters := hr.mono (show 5 <= _ by decide); have hr_share_of := hr.mono (show 2 <= _ by decide); have hr__law_two := hr.mono (show 1 <= _ by decide)
  unfold sp_turned9 at h
  split at h
  rotate_left
  . exact h.elim
  rename_i l z1 z2 z3
  obtain ⟨m, n, s, r, as, bs, u, v, w', R, e1, e2, e3, hs, hr', q⟩ := h
  subst e1 e2 e3
  have m6 : m <= 6 := by have := R.m1; omega
  have n6 : n <= 6 := by have := R.n1; omega
  have mn6 : m + n <= 6 := by have := R.m1; have := R.n1; omega
  have ep : (2 : Int) ^ ((m : Int)).toNat = ((2 ^ m : Nat) : Int) := by rw [Int.toNat_natCast, Int.natCast_pow]; rfl
  have h64 : 2 ^ m <= 64 := Nat.pow_le_pow_right (n := 2) (by decide) m6
  have h64n : 2 ^ n <= 64 := Nat.pow_le_pow_right (n := 2) (by decide) n6
  have pa : (0 : Int) < ((2 ^ (2 * m) : Nat) : Int) := by have := Nat.two_pow_pos (2 * m); omega
  have pb : (0 : Int) < ((2 ^ (2 * n) : Nat) : Int) := by have := Nat.two_pow_pos (2 * n); omega
  have ho := side_odd R.l1 R.l2 (t := r) hs
  have nbO : ∀ {k : Nat} {cs : List Bool} (t : Nat), k <= 6 -> Nb (oddSq k (wt k (valF cs)) t) 30 := fun {k cs} t k6 => by
    have h64 : 2 ^ k <= 64 := Nat.pow_le_pow_right (n := 2) (by decide) k6
    have h := sumTo_range (f := fun s => if chi k s t = -1 then wt k (valF cs) s * wt k (valF cs) s else 0) (B := 4096) (n := 2 ^ k) fun j _ => by
      have := sq_le (wt_light k6 cs j)
      split <;> omega
    unfold Nb oddSq
    omega
  have nbF : ∀ {k : Nat}, k <= 6 -> Nb ((2 ^ (2 * k) : Nat) : Int) 30 := fun {k} k6 => by
    unfold Nb
    rw [Int.natAbs_natCast]
    exact Nat.pow_lt_pow_right (by decide) (by omega)
  have fa := sh_frac (x := oddSq m (wt m (valF as)) s) pa
  have fb := sh_frac (x := oddSq n (wt n (valF bs)) r) pb
  have sa := sh_small (N := 2 ^ 30) (a := oddSq m (wt m (valF as)) s) (nbO s m6) (nbF m6) pa
  have sb := sh_small (N := 2 ^ 30) (a := oddSq n (wt n (valF bs)) r) (nbO r n6) (nbF n6) pb
  have hcr := tur_eq fa.1 fb.1
  rw [<- ho, <- four_add] at hcr
  refine ⟨_, (@pss_cons _ _ _ _ _ (@ps_asg _ _ _ _ _ _ (@pe_call _ _ _ _ _ _ _ _ _ _ _ _ _ _ _ _ G_matters hr_matters rfl T.m_matters T.F_matters.kp T.b_matters .nil pass0 (@pa_cons _ _ _ _ _ (@kIx _ K _ _ _ _ _ (@vw _ 0 _ _ (by walk_at "v")) (@pe_int _ _ _ _) (by intro _ _; rfl) (by rfl)) (@pa1 _ _ _ (@vw _ 1 _ _ (by walk_at "v")) (by rfl)) (by rfl)) (by decide) (by rfl) (by rfl)) (@kTupA _ K _ _ _ _ 2 rfl (@pgs_cons _ _ _ _ _ (@pg_name _ _ 4 _ sc__law_turned_right.nd rfl (by walk_at "e") (by walk_at "i")) (@pgs_cons _ _ _ _ _ (@pg_name _ _ 5 _ sc__law_turned_right.nd rfl (by walk_at "e") (by walk_at "i")) (@pgs_nil _) (by rfl)) (by rfl)) (by rfl) (by rfl) (by rfl)) (by rfl) (by rfl) (by rfl)) (@pss_cons _ _ _ _ _ (@ps_asg _ _ _ _ _ _ (@pe_call _ _ _ _ _ _ _ _ _ _ _ _ _ _ _ _ G_matters hr_matters rfl T.m_matters T.F_matters.kp T.b_matters .nil pass0 (@pa_cons _ _ _ _ _ (@kIx _ K _ _ _ _ _ (@vw _ 0 _ _ (by walk_at "v")) (@pe_int _ _ _ _) (by intro _ _; rfl) (by rfl)) (@pa1 _ _ _ (@vw _ 2 _ _ (by walk_at "v")) (by rfl)) (by rfl)) (by decide) (by rfl) (by rfl)) (@kTupA _ K _ _ _ _ 2 rfl (@pgs_cons _ _ _ _ _ (@pg_name _ _ 6 _ sc__law_turned_right.nd rfl (by walk_at "e") (by walk_at "i")) (@pgs_cons _ _ _ _ _ (@pg_name _ _ 7 _ sc__law_turned_right.nd rfl (by walk_at "e") (by walk_at "i")) (@pgs_nil _) (by rfl)) (by rfl)) (by rfl) (by rfl) (by rfl)) (by rfl) (by rfl) (by rfl)) (@pss_cons _ _ _ _ _ (@ps_set _ _ 8 _ _ _ _ sc__law_turned_right.nd rfl (by walk_at "e") (@pe_call _ _ _ _ _ _ _ _ _ _ _ _ _ _ _ _ G_share_of hr_share_of rfl T.m_share_of T.F_share_of.kp T.b_share_of .nil pass0 (@pa_cons _ _ _ _ _ (@pe_op _ _ _ _ _ _ _ _ (kAdd (K := K)) (@pe_op _ _ _ _ _ _ _ _ om_mul (@vw _ 4 _ _ (by walk_at "v")) (@pe_op _ _ _ _ _ _ _ _ om_sub (@vw _ 7 _ _ (by walk_at "v")) (@vw _ 6 _ _ (by walk_at "v")))) (@pe_op _ _ _ _ _ _ _ _ om_mul (@vw _ 6 _ _ (by walk_at "v")) (@pe_op _ _ _ _ _ _ _ _ om_sub (@vw _ 5 _ _ (by walk_at "v")) (@vw _ 4 _ _ (by walk_at "v"))))) (@pa1 _ _ _ (@pe_op _ _ _ _ _ _ _ _ om_mul (@vw _ 5 _ _ (by walk_at "v")) (@vw _ 7 _ _ (by walk_at "v"))) (by rfl)) (by rfl)) (by decide) (by rfl) (by rfl)) (by rfl) (by walk_at "i")) (@pss_one _ _ _ (@ps_ret _ _ _ _ (@pe_cmpM _ _ _ _ _ _ _ _ (kEq (K := K) hu) (@pe_call _ _ _ _ _ _ _ _ _ _ _ _ _ _ _ _ G_matters hr_matters rfl T.m_matters T.F_matters.kp T.b_matters .nil pass0 (@pa_cons _ _ _ _ _ (@kIx _ K _ _ _ _ _ (@vw _ 0 _ _ (by walk_at "v")) (@pe_int _ _ _ _) (by intro _ _; rfl) (by rfl)) (@pa1 _ _ _ (@pe_op _ _ _ _ _ _ _ _ (kAdd (K := K)) (@vw _ 1 _ _ (by walk_at "v")) (@pe_op _ _ _ _ _ _ _ _ om_mul (@vw _ 2 _ _ (by walk_at "v")) (@pe_call _ _ _ _ _ _ _ _ _ _ _ _ _ _ _ _ G__law_two hr__law_two rfl T.m__law_two T.F__law_two.kp T.b__law_two .nil pass0 (@pa1 _ _ _ (@vw _ 3 _ _ (by walk_at "v")) (by rfl)) (by decide) (by rfl) (by rfl)))) (by rfl)) (by rfl)) (by decide) (by rfl) (by rfl)) (@vw _ 8 _ _ (by walk_at "v")) (by walk_at "n"))))))), ?_⟩
  refine ⟨_, u, .inl (.of R.at_), atI_of (n := 0) rfl rfl, m, s, _, R.s1, m6, wt_light m6 as, rfl, fun p1 H1 n1 s1 g1 => ?_⟩
  refine ⟨_, .inr (.of g1), rfl, _, _, rfl, _, _, rfl, rfl, ?_⟩
  dsimp only [gName]
  have R1 := R.same s1
  refine ⟨_, v, .inl (.of R1.at_), atI_of (n := 1) rfl rfl, n, r, _, R1.s2, n6, wt_light n6 bs, rfl, fun p2 H2 n2 s2 g2 => ?_⟩
  refine ⟨_, .inr (.of g2), rfl, _, _, rfl, _, _, rfl, rfl, ?_⟩
  dsimp only [gName]
  generalize shT (oddSq m (wt m (valF as)) s) ((2 ^ (2 * m) : Nat) : Int) = a at *
  generalize shB (oddSq m (wt m (valF as)) s) ((2 ^ (2 * m) : Nat) : Int) = b at *
  generalize shT (oddSq n (wt n (valF bs)) r) ((2 ^ (2 * n) : Nat) : Int) = c at *
  generalize shB (oddSq n (wt n (valF bs)) r) ((2 ^ (2 * n) : Nat) : Int) = d at *
  have na : Nb a 30 := sa.1
  have nb : Nb b 30 := sa.2.1
  have nc : Nb c 30 := sb.1
  have nd : Nb d 30 := sb.2.1
  have ndc : Nb (d - c) 31 := by unfold Nb at *; omega
  have nba : Nb (b - a) 31 := by unfold Nb at *; omega
  have hbd : 0 < b * d := Int.mul_pos fa.2 fb.2
  refine ⟨Nb.okMul (na.up (by omega)) (ndc.up (by omega)), Nb.okMul (nc.up (by omega)) (nba.up (by omega)), Nb.okMul (nb.up (by omega)) (nd.up (by omega)), hbd, ((na.mul ndc).add (nc.mul nba)).up (show 62 <= 1000 by omega), (nb.mul nd).up (show 60 <= 1000 by omega), fun p3 n3 => ?_⟩
  dsimp only [gName]
  have s3 := Same.upd (o := .tup [.int (shT (a * (d - c) + c * (b - a)) (b * d)), .int (shB (a * (d - c) + c * (b - a)) (b * d))]) n3
  have g3 := upd_same (H := H2) (a := p3) (o := .tup [.int (shT (a * (d - c) + c * (b - a)) (b * d)), .int (shB (a * (d - c) + c * (b - a)) (b * d))])
  generalize upd H2 p3 (.tup [.int (shT (a * (d - c) + c * (b - a)) (b * d)), .int (shB (a * (d - c) + c * (b - a)) (b * d))]) = H3 at *
  have R3 := R1.same (s2.trans s3)
  have ek : (s : Int) + (r : Int) * ((2 ^ m : Nat) : Int) = ((s + 2 ^ m * r : Nat) : Int) := by rw [Int.natCast_add, Int.natCast_mul, Int.mul_comm]
  refine ⟨_, w', .inl (.of R3.at_), atI_of (n := 2) rfl rfl, by omega, by omega, fun H4 s4 => ?_⟩
  rw [ep]
  refine ⟨.inr (.inl ⟨by omega, by omega⟩), m + n, s + 2 ^ m * r, _, (R3.same s4).s3, mn6, wt_light mn6 _, ek, fun p5 H5 n5 s5 g5 => ?_⟩
  have pc : (0 : Int) < ((2 ^ (2 * (m + n)) : Nat) : Int) := by have := Nat.two_pow_pos (2 * (m + n)); omega
  have ed := sh_cross pc hbd hcr
  refine ⟨_, shD (a * (d - c) + c * (b - a)) (b * d), rep_sh g5, rep_sh ((s4.trans s5) _ _ g3), by rw [dep_sh]; omega, ?_⟩
  rw [ed, eqD_refl]
  exact q _ (s1.trans (s2.trans (s3.trans (s4.trans s5))))
theorem lv_ref {H : Hp} {m n j : Nat} {g : Nat -> Int} {vs : List V} (h : Reps K H (lvD m g n) vs) (hj : j < n) : ∃ c, vs[j]? = some (.ref c) /\ SqT K H c [.int (shT (lvF m g (2 ^ m) j) ((2 ^ (2 * m) : Nat) : Int)), .int (shB (lvF m g (2 ^ m) j) ((2 ^ (2 * m) : Nat) : Int))] := by
  obtain ⟨x, h1, h2⟩ := h.get (i := j) (d := shD (lvF m g (2 ^ m) j) ((2 ^ (2 * m) : Nat) : Int)) (by unfold lvD; rw [List.getElem?_map, List.getElem?_range hj]; rfl)
  obtain ⟨c, rfl, h3⟩ := pr_inv (q := (shT (lvF m g (2 ^ m) j) ((2 ^ (2 * m) : Nat) : Int), shB (lvF m g (2 ^ m) j) ((2 ^ (2 * m) : Nat) : Int))) h2
  exact ⟨c, h1, h3⟩
theorem lvD_len (m : Nat) (g : Nat -> Int) (n : Nat) : (lvD m g n).length = n := by unfold lvD; rw [List.length_map, List.length_range]
def partL (la lb : Nat -> Int) (n k j : Nat) : Int := sumTo (fun j => if j <= k /\ k - j < n + 1 then la j * lb (k - j) else 0) j
theorem partL_succ (la lb : Nat -> Int) (n k j : Nat) : partL la lb n k (j + 1) = partL la lb n k j + if j <= k /\ k - j < n + 1 then la j * lb (k - j) else 0 := rfl
theorem lev_step {top bot S Fa Fb la lb a a' b b' : Int} (h : top * (Fa * Fb) = bot * S) (h1 : a * Fa = la * a') (h2 : b * Fb = lb * b') : (top * (a' * b') + a * b * bot) * (Fa * Fb) = bot * (a' * b') * (S + la * lb) := by
  have e1 : (top * (a' * b') + a * b * bot) * (Fa * Fb) = top * (Fa * Fb) * (a' * b') + (a * Fa) * (b * Fb) * bot := by grind
  rw [e1, h, h1, h2]
  grind
def sp_levels9 (K : W.Frag) : Sp := fun vs H Q _ => match vs with
  | [.ref l] => ∃ (m n : Nat) (as bs : List Bool) (u v w : V), Trio K H l m n as bs u v w /\ out H Q (.bl true)
  | _ => False
theorem sp_levels9_mono : SpMono (sp_levels9 K) := fun vs H Q Q' E h q => by
  unfold sp_levels9 at *
  split at q
  . revert q; repeat' first | exact h _ _ | exact newL_mono h | exact out_mono h | exact outT_mono h | walk_at "m"
  . exact q.elim
theorem ok__law_levels_right : FnOk P w K mg base CX0 5 T.f__law_levels_right T.d__law_levels_right ["_law_sums"] (sp_levels9 K) := by
  have G_levels := ok_levels (P := P) (w := w) (base := base) T; have G_share_of := ok_share_of (P := P) (w := w) (base := base) T
  refine T.F__law_levels_right.ok sc__law_levels_right (fun vs H Q E h => by unfold sp_levels9 at h; split at h <;> first | rfl | exact h.elim) (fun cdv A outer s H vs Q E hr h => ?_)
  have hu := hu60 hr
  have mo1 : SpMono (sp_levels K) := sp_levels_mono
  have mo2 : SpMono sp_share := sp_share_mono
  have hr_levels := hr.mono (show 4 <= _ by decide); have hr_share_of := hr.mono (show 2 <= _ by decide)
  unfold sp_levels9 at h
  split at h
  rotate_left
  . exact h.elim
  rename_i l
  obtain ⟨m, n, as, bs, u, v, w', R, q⟩ := h
  have m6 : m <= 6 := by have := R.m1; omega
  have n6 : n <= 6 := by have := R.n1; omega
  have m3 := R.m1
  have n3 := R.n1
  have mn6 : m + n <= 6 := by omega
  have pa : (0 : Int) < ((2 ^ (2 * m) : Nat) : Int) := by have := Nat.two_pow_pos (2 * m); omega
  have pb : (0 : Int) < ((2 ^ (2 * n) : Nat) : Int) := by have := Nat.two_pow_pos (2 * n); omega
  have pc : (0 : Int) < ((2 ^ (2 * (m + n)) : Nat) : Int) := by have := Nat.two_pow_pos (2 * (m + n)); omega
  have hlv := fun k => side_lv R.l1 R.l2 k
  have hF := four_add m n
  have nbF : ∀ {k : Nat}, k <= 6 -> Nb ((2 ^ (2 * k) : Nat) : Int) 20 := fun {k} k6 => by
    unfold Nb
    rw [Int.natAbs_natCast]
    exact Nat.pow_lt_pow_right (by decide) (by omega)
  have fa := fun j => sh_frac (x := lvF m (wt m (valF as)) (2 ^ m) j) pa
  have fb := fun j => sh_frac (x := lvF n (wt n (valF bs)) (2 ^ n) j) pb
  have sa := fun j => sh_small (N := 2 ^ 20) (a := lvF m (wt m (valF as)) (2 ^ m) j) (lv_nb m6 (wt_light m6 as) j) (nbF m6) pa
  have sb := fun j => sh_small (N := 2 ^ 20) (a := lvF n (wt n (valF bs)) (2 ^ n) j) (lv_nb n6 (wt_light n6 bs) j) (nbF n6) pb
  refine ⟨_, (@pss_cons _ _ _ _ _ (@ps_set _ _ 1 _ _ _ _ sc__law_levels_right.nd rfl (by walk_at "e") (@pe_call _ _ _ _ _ _ _ _ _ _ _ _ _ _ _ _ G_levels hr_levels rfl T.m_levels T.F_levels.kp T.b_levels .nil pass0 (@pa1 _ _ _ (@kIx _ K _ _ _ _ _ (@vw _ 0 _ _ (by walk_at "v")) (@pe_int _ _ _ _) (by intro _ _; rfl) (by rfl)) (by rfl)) (by decide) (by rfl) (by rfl)) (by rfl) (by walk_at "i")) (@pss_cons _ _ _ _ _ (@ps_set _ _ 2 _ _ _ _ sc__law_levels_right.nd rfl (by walk_at "e") (@pe_call _ _ _ _ _ _ _ _ _ _ _ _ _ _ _ _ G_levels hr_levels rfl T.m_levels T.F_levels.kp T.b_levels .nil pass0 (@pa1 _ _ _ (@kIx _ K _ _ _ _ _ (@vw _ 0 _ _ (by walk_at "v")) (@pe_int _ _ _ _) (by intro _ _; rfl) (by rfl)) (by rfl)) (by decide) (by rfl) (by rfl)) (by rfl) (by walk_at "i")) (@pss_cons _ _ _ _ _ (@ps_set _ _ 3 _ _ _ _ sc__law_levels_right.nd rfl (by walk_at "e") (@pe_call _ _ _ _ _ _ _ _ _ _ _ _ _ _ _ _ G_levels hr_levels rfl T.m_levels T.F_levels.kp T.b_levels .nil pass0 (@pa1 _ _ _ (@kIx _ K _ _ _ _ _ (@vw _ 0 _ _ (by walk_at "v")) (@pe_int _ _ _ _) (by intro _ _; rfl) (by rfl)) (by rfl)) (by decide) (by rfl) (by rfl)) (by rfl) (by walk_at "i")) (@pss_cons _ _ _ _ _ (@ps_for _ _ _ _ _ _ _ _ PassesOwn.never rfl (@pi_range1 _ _ _ _ _ _ rfl T.z_range (@pa1 _ _ _ (@pe_callB _ _ _ _ _ _ _ _ _ (kLen (K := K)) rfl T.z_len (by rfl) (@pa1 _ _ _ (@vw _ 3 _ _ (by walk_at "v")) (by rfl)) (by decide) (by decide) (by rfl) (by rfl)) (by rfl)) (by rfl)) (@pg_name _ _ 4 _ sc__law_levels_right.nd rfl (by walk_at "e") (by walk_at "i")) (@pss_cons _ _ _ _ _ (@ps_set _ _ 5 _ _ _ _ sc__law_levels_right.nd rfl (by walk_at "e") (@pe_int _ _ _ _) (by rfl) (by walk_at "i")) (@pss_cons _ _ _ _ _ (@ps_set _ _ 6 _ _ _ _ sc__law_levels_right.nd rfl (by walk_at "e") (@pe_int _ _ _ _) (by rfl) (by walk_at "i")) (@pss_cons _ _ _ _ _ (@ps_for _ _ _ _ _ _ _ _ PassesOwn.never rfl (@pi_range1 _ _ _ _ _ _ rfl T.z_range (@pa1 _ _ _ (@pe_callB _ _ _ _ _ _ _ _ _ (kLen (K := K)) rfl T.z_len (by rfl) (@pa1 _ _ _ (@vw _ 1 _ _ (by walk_at "v")) (by rfl)) (by decide) (by decide) (by rfl) (by rfl)) (by rfl)) (by rfl)) (@pg_name _ _ 7 _ sc__law_levels_right.nd rfl (by walk_at "e") (by walk_at "i")) (@pss_one _ _ _ (@ps_if _ _ _ _ _ _ _ _ (@tu_chain _ _ _ _ _ _ _ _ _ _ _ _ om_le om_lt (@pe_int _ _ _ _) (@pe_op _ _ _ _ _ _ _ _ om_sub (@vw _ 4 _ _ (by walk_at "v")) (@vw _ 7 _ _ (by walk_at "v"))) (@pe_callB _ _ _ _ _ _ _ _ _ (kLen (K := K)) rfl T.z_len (by rfl) (@pa1 _ _ _ (@vw _ 2 _ _ (by walk_at "v")) (by rfl)) (by decide) (by decide) (by rfl) (by rfl)) (by with_unfolding_all rfl)) (@pss_cons _ _ _ _ _ (@ps_set _ _ 8 _ _ _ _ sc__law_levels_right.nd rfl (by walk_at "e") (@pe_tup _ _ _ _ _ (@pa_cons _ _ _ _ _ (@pe_op _ _ _ _ _ _ _ _ om_mul (@kIx _ K _ _ _ _ _ (@kIx _ K _ _ _ _ _ (@vw _ 1 _ _ (by walk_at "v")) (@vw _ 7 _ _ (by walk_at "v")) (by intro _ _; rfl) (by rfl)) (@pe_int _ _ _ _) (by intro _ _; rfl) (by rfl)) (@kIx _ K _ _ _ _ _ (@kIx _ K _ _ _ _ _ (@vw _ 2 _ _ (by walk_at "v")) (@pe_op _ _ _ _ _ _ _ _ om_sub (@vw _ 4 _ _ (by walk_at "v")) (@vw _ 7 _ _ (by walk_at "v"))) (by intro _ _; rfl) (by rfl)) (@pe_int _ _ _ _) (by intro _ _; rfl) (by rfl))) (@pa1 _ _ _ (@pe_op _ _ _ _ _ _ _ _ om_mul (@kIx _ K _ _ _ _ _ (@kIx _ K _ _ _ _ _ (@vw _ 1 _ _ (by walk_at "v")) (@vw _ 7 _ _ (by walk_at "v")) (by intro _ _; rfl) (by rfl)) (@pe_int _ _ _ _) (by intro _ _; rfl) (by rfl)) (@kIx _ K _ _ _ _ _ (@kIx _ K _ _ _ _ _ (@vw _ 2 _ _ (by walk_at "v")) (@pe_op _ _ _ _ _ _ _ _ om_sub (@vw _ 4 _ _ (by walk_at "v")) (@vw _ 7 _ _ (by walk_at "v"))) (by intro _ _; rfl) (by rfl)) (@pe_int _ _ _ _) (by intro _ _; rfl) (by rfl))) (by rfl)) (by rfl))) (by rfl) (by walk_at "i")) (@pss_cons _ _ _ _ _ (@ps_set _ _ 5 _ _ _ _ sc__law_levels_right.nd rfl (by walk_at "e") (@pe_op _ _ _ _ _ _ _ _ (kAdd (K := K)) (@pe_op _ _ _ _ _ _ _ _ om_mul (@vw _ 5 _ _ (by walk_at "v")) (@kIx _ K _ _ _ _ _ (@vw _ 8 _ _ (by walk_at "v")) (@pe_int _ _ _ _) (by intro _ _; rfl) (by rfl))) (@pe_op _ _ _ _ _ _ _ _ om_mul (@kIx _ K _ _ _ _ _ (@vw _ 8 _ _ (by walk_at "v")) (@pe_int _ _ _ _) (by intro _ _; rfl) (by rfl)) (@vw _ 6 _ _ (by walk_at "v")))) (by rfl) (by walk_at "i")) (@pss_one _ _ _ (@ps_set _ _ 6 _ _ _ _ sc__law_levels_right.nd rfl (by walk_at "e") (@pe_op _ _ _ _ _ _ _ _ om_mul (@vw _ 6 _ _ (by walk_at "v")) (@kIx _ K _ _ _ _ _ (@vw _ 8 _ _ (by walk_at "v")) (@pe_int _ _ _ _) (by intro _ _; rfl) (by rfl))) (by rfl) (by walk_at "i"))))) (@pss_nil _))) (by intro _; rfl)) (@pss_one _ _ _ (@ps_if _ _ _ _ _ _ _ _ (@tu_cmp _ _ _ _ _ _ _ _ (kNe (K := K) hu) (@kIx _ K _ _ _ _ _ (@vw _ 3 _ _ (by walk_at "v")) (@vw _ 4 _ _ (by walk_at "v")) (by intro _ _; rfl) (by rfl)) (@pe_call _ _ _ _ _ _ _ _ _ _ _ _ _ _ _ _ G_share_of hr_share_of rfl T.m_share_of T.F_share_of.kp T.b_share_of .nil pass0 (@pa_cons _ _ _ _ _ (@vw _ 5 _ _ (by walk_at "v")) (@pa1 _ _ _ (@vw _ 6 _ _ (by walk_at "v")) (by rfl)) (by rfl)) (by decide) (by rfl) (by rfl)) (by walk_at "n")) (@pss_one _ _ _ (@ps_ret _ _ _ _ (@pe_bl _ _ _ _))) (@pss_nil _)))))) (by intro _; rfl)) (@pss_one _ _ _ (@ps_ret _ _ _ _ (@pe_bl _ _ _ _))))))), ?_⟩
  refine ⟨_, u, .inl (.of R.at_), atI_of (n := 0) rfl rfl, m, _, R.s1, m6, wt_light m6 as, fun l1 vs1 H1 n1 s1 g1 r1 => ?_⟩
  dsimp only [gName]
  have R1 := R.same s1
  refine ⟨_, v, .inl (.of R1.at_), atI_of (n := 1) rfl rfl, n, _, R1.s2, n6, wt_light n6 bs, fun l2 vs2 H2 n2 s2 g2 r2 => ?_⟩
  dsimp only [gName]
  have R2 := R1.same s2
  refine ⟨_, w', .inl (.of R2.at_), atI_of (n := 2) rfl rfl, m + n, _, R2.s3, mn6, wt_light mn6 _, fun l3 vs3 H3 n3' s3 g3 r3 => ?_⟩
  dsimp only [gName]
  have g1' := s3 _ _ (s2 _ _ g1)
  have g2' := s3 _ _ g2
  have r1' := Reps.same (s2.trans s3) _ _ r1
  have r2' := Reps.same s3 _ _ r2
  have e1 := r1.length
  have e2 := r2.length
  have e3 := r3.length
  rw [lvD_len] at e1 e2 e3
  have q' : ∀ H', Same H3 H' -> Q (.bl true) H' := fun H' s => q H' (s1.trans (s2.trans (s3.trans s)))
  clear g1 g2 r1 r2 R1 R2 R q
  have hla := fun {j : Nat} (hj : j < m + 1) => lv_ref r1' hj
  have hlb := fun {j : Nat} (hj : j < n + 1) => lv_ref r2' hj
  have hlc := fun {j : Nat} (hj : j < m + n + 1) => lv_ref r3 hj
  generalize hA : (fun j => lvF m (wt m (valF as)) (2 ^ m) j) = la at *
  have hA' : ∀ j, lvF m (wt m (valF as)) (2 ^ m) j = la j := fun j => congrFun hA j
  generalize hB : (fun j => lvF n (wt n (valF bs)) (2 ^ n) j) = lb at *
  have hB' : ∀ j, lvF n (wt n (valF bs)) (2 ^ n) j = lb j := fun j => congrFun hB j
  simp only [hA', hB'] at *
  refine ⟨m + n + 1, .inl ⟨_, .of g3, by omega⟩, ((m + n + 1 : Nat) : Int), rfl, by omega, by omega, ?_⟩
  refine for_range (fun k σ H' => ∃ z4 z5 z6 z7 z8 : Option V, σ = [some (.ref l), some (.ref l1), some (.ref l2), some (.ref l3), z4, z5, z6, z7, z8] /\ Same H3 H') ⟨none, none, none, none, none, rfl, Same.refl _⟩ ?_ (fun σ H' ⟨_, _, _, _, _, e, s⟩ => by subst e; exact q' H' s)
  rintro k σ H4 hk ⟨z4, z5, z6, z7, z8, rfl, s4⟩
  have hk' : k < m + n + 1 := by omega
  rw [show (0 : Int) + (k : Int) = (k : Int) from Int.zero_add _]
  dsimp only [gName]
  refine seq_at (fun σ H' => σ = [some (.ref l), some (.ref l1), some (.ref l2), some (.ref l3), some (.int k), some (.int 0), z6, z7, z8] /\ H4 = H') ⟨rfl, rfl⟩ ?_ (by walk_at "sm")
  rintro σ _ ⟨rfl, rfl⟩
  refine seq_at (fun σ H' => σ = [some (.ref l), some (.ref l1), some (.ref l2), some (.ref l3), some (.int k), some (.int 0), some (.int 1), z7, z8] /\ H4 = H') ⟨rfl, rfl⟩ ?_ (by walk_at "sm")
  rintro σ _ ⟨rfl, rfl⟩
  refine seq_at (fun σ H' => ∃ (z7 z8 : Option V) (top bot : Int), σ = [some (.ref l), some (.ref l1), some (.ref l2), some (.ref l3), some (.int k), some (.int top), some (.int bot), z7, z8] /\ Same H3 H' /\ 0 < bot /\ top * (((2 ^ (2 * m) : Nat) : Int) * ((2 ^ (2 * n) : Nat) : Int)) = bot * partL la lb n k (m + 1) /\ Nb top 400 /\ Nb bot 400) ?_ ?_ (by walk_at "sm")
  . refine ⟨m + 1, .inl ⟨_, .of (s4 _ _ g1'), by omega⟩, ((m + 1 : Nat) : Int), rfl, by omega, by omega, ?_⟩
    refine for_range (fun j σ H' => ∃ (z7 z8 : Option V) (top bot : Int), σ = [some (.ref l), some (.ref l1), some (.ref l2), some (.ref l3), some (.int k), some (.int top), some (.int bot), z7, z8] /\ Same H3 H' /\ 0 < bot /\ top * (((2 ^ (2 * m) : Nat) : Int) * ((2 ^ (2 * n) : Nat) : Int)) = bot * partL la lb n k j /\ Nb top (45 * j + 2) /\ Nb bot (45 * j + 2)) ⟨z7, z8, 0, 1, rfl, s4, by decide, (by show (0 : Int) * _ = 1 * 0; rw [Int.zero_mul, Int.mul_zero]), by unfold Nb; decide, by unfold Nb; decide⟩ ?_ ?_
    . rintro j σ H5 hj ⟨z7, z8, top, bot, rfl, s5, b0, heq, nt, nb⟩
      have hj' : j < m + 1 := by omega
      rw [show (0 : Int) + (j : Int) = (j : Int) from Int.zero_add _]
      dsimp only [gName]
      have hps := partL_succ la lb n k j
      refine if_val (decide (j <= k /\ k - j < n + 1)) ?_ ?_
      . intro Q q
        refine ite2 (fun e1 => ?_) (fun e1 => ?_)
        . have e1 : (0 : Int) <= (k : Int) - (j : Int) := of_decide_eq_true e1
          refine ⟨n + 1, .inl ⟨_, .of (s5 _ _ g2'), by omega⟩, ?_⟩
          have e0 : decide ((k : Int) - (j : Int) < ((n + 1 : Nat) : Int)) = decide (j <= k /\ k - j < n + 1) := by rw [decide_eq_decide]; omega
          rw [<- e0] at q
          exact q
        . have e1 : ¬ (0 : Int) <= (k : Int) - (j : Int) := fun z => e1 (decide_eq_true z)
          have e0 : decide (j <= k /\ k - j < n + 1) = false := decide_eq_false (by omega)
          rw [e0] at q
          exact q
      refine ite2 (fun e => ?_) (fun e => ?_)
      . have e := of_decide_eq_true e
        rw [if_pos e] at hps
        obtain ⟨ca, hca1, hca2⟩ := hla hj'
        obtain ⟨cb, hcb1, hcb2⟩ := hlb e.2
        have hca3 := s5.sqT hca2
        have hcb3 := s5.sqT hcb2
        have ga := s5 _ _ g1'
        have gb := s5 _ _ g2'
        have xa : atI vs1 (j : Int) = some (.ref ca) := atI_of rfl hca1
        have xb : atI vs2 ((k : Int) - (j : Int)) = some (.ref cb) := atI_of (n := k - j) (by omega) hcb1
        have na1 : Nb (shT (la j) ((2 ^ (2 * m) : Nat) : Int)) 20 := (sa j).1
        have na2 : Nb (shB (la j) ((2 ^ (2 * m) : Nat) : Int)) 20 := (sa j).2.1
        have nb1 : Nb (shT (lb (k - j)) ((2 ^ (2 * n) : Nat) : Int)) 20 := (sb (k - j)).1
        have nb2 : Nb (shB (lb (k - j)) ((2 ^ (2 * n) : Nat) : Int)) 20 := (sb (k - j)).2.1
        have fa' := fa j
        have fb' := fb (k - j)
        generalize shT (la j) ((2 ^ (2 * m) : Nat) : Int) = A1 at *
        generalize shB (la j) ((2 ^ (2 * m) : Nat) : Int) = A2 at *
        generalize shT (lb (k - j)) ((2 ^ (2 * n) : Nat) : Int) = B1 at *
        generalize shB (lb (k - j)) ((2 ^ (2 * n) : Nat) : Int) = B2 at *
        have hst := lev_step heq fa'.1 fb'.1
        refine ⟨_, _, .inl (.of ga), xa, _, .int A1, .inr hca3, atI_of (n := 0) rfl rfl, _, _, .inl (.of gb), xb, _, .int B1, .inr hcb3, atI_of (n := 0) rfl rfl, Nb.okMul (na1.up (by omega)) (nb1.up (by omega)), _, _, .inl (.of ga), xa, _, .int A2, .inr hca3, atI_of (n := 1) rfl rfl, _, _, .inl (.of gb), xb, _, .int B2, .inr hcb3, atI_of (n := 1) rfl rfl, Nb.okMul (na2.up (by omega)) (nb2.up (by omega)), small_le (show 2 <= 1000 by decide), fun p np => ?_⟩
        dsimp only [gName]
        have s6 := Same.upd (o := .tup [.int (A1 * B1), .int (A2 * B2)]) np
        have g6 := upd_same (H := H5) (a := p) (o := .tup [.int (A1 * B1), .int (A2 * B2)])
        generalize upd H5 p (.tup [.int (A1 * B1), .int (A2 * B2)]) = H6 at *
        have nt1 : Nb (A1 * B1) 40 := na1.mul nb1
        have nt2 : Nb (A2 * B2) 40 := na2.mul nb2
        refine ⟨_, .int (A2 * B2), .inr (.of g6), atI_of (n := 1) rfl rfl, Nb.okMul (nt.up (by omega)) (nt2.up (by omega)), _, .int (A1 * B1), .inr (.of g6), atI_of (n := 0) rfl rfl, Nb.okMul (nt1.up (by omega)) (nb.up (by omega)), ?_⟩
        dsimp only [gName]
        refine ⟨_, .int (A2 * B2), .inr (.of g6), atI_of (n := 1) rfl rfl, Nb.okMul (nb.up (by omega)) (nt2.up (by omega)), ?_⟩
        refine ⟨_, _, _, _, rfl, s5.trans s6, Int.mul_pos b0 (Int.mul_pos fa'.2 fb'.2), ?_, ?_, ?_⟩
        . rw [hps]
          exact hst
        . exact (((nt.mul nt2).up (show 45 * j + 2 + 40 <= 45 * j + 44 by omega)).add ((nt1.mul nb).up (by omega))).up (by omega)
        . exact (nb.mul nt2).up (by omega)
      . have e : ¬ (j <= k /\ k - j < n + 1) := fun z => e (decide_eq_true z)
        rw [if_neg e, Int.add_zero] at hps
        rw [<- hps] at heq
        exact ⟨_, _, top, bot, rfl, s5, b0, heq, nt.up (by omega), nb.up (by omega)⟩
    . rintro σ H5 ⟨z7, z8, top, bot, rfl, s5, b0, heq, nt, nb⟩
      rw [Int.toNat_natCast] at heq nt nb
      exact ⟨_, _, top, bot, rfl, s5, b0, heq, nt.up (by omega), nb.up (by omega)⟩
  rintro σ H5 ⟨z7, z8, top, bot, rfl, s5, b0, heq, nt, nb⟩
  obtain ⟨cc, hcc1, hcc2⟩ := hlc hk'
  have hcr : lvF (m + n) (wt (m + n) (valF (sideB as bs))) (2 ^ (m + n)) k * bot = top * ((2 ^ (2 * (m + n)) : Nat) : Int) := by
    rw [hF, heq, hlv k, Int.mul_comm]
    rfl
  have ed := sh_cross pc b0 hcr
  refine if_same false ?_ ?_
  . intro Q q
    refine ⟨_, _, .inl (.of (s5 _ _ g3)), atI_of rfl hcc1, b0, nt.up (show 400 <= 1000 by omega), nb.up (show 400 <= 1000 by omega), fun p np => ?_⟩
    have s6 := Same.upd (o := .tup [.int (shT top bot), .int (shB top bot)]) np
    refine ⟨shD (lvF (m + n) (wt (m + n) (valF (sideB as bs))) (2 ^ (m + n)) k) ((2 ^ (2 * (m + n)) : Nat) : Int), shD top bot, rep_tup2 ((s5.trans s6).sqT hcc2) (reps_cons rep_int (reps_cons rep_int reps_nil)), rep_sh upd_same, by rw [dep_sh]; omega, ?_⟩
    rw [ed, eqD_refl]
    exact q _ s6
  . exact fun H' s => iteF ⟨_, _, _, _, _, rfl, s5.trans s⟩
theorem val_no (n p : Nat) : valF (List.replicate n false) p = 1 := by
  have e : gB (List.replicate n false) p = false := by
    show (List.replicate n false).getD p false = false
    rw [List.getD_eq_getElem?_getD, List.getElem?_replicate]
    split <;> rfl
  rw [val_of, e]
  rfl
theorem rep_no (n : Nat) : (List.replicate n [V.bl false]).flatten = (List.replicate n false).map V.bl := by
  induction n with
  | zero => rfl
  | succ n ih => rw [List.replicate_succ, List.flatten_cons, ih, List.replicate_succ, List.map_cons]; rfl
theorem side_two {m n : Nat} {as bs : List Bool} (ha : as.length = 2 ^ m) (hb : bs.length = 2 ^ n) {p : Nat} (hp : p < 2 ^ (m + n)) : valF (sideB as (List.replicate (2 ^ n) false)) p * valF (sideB (List.replicate (2 ^ m) false) bs) p = valF (sideB as bs) p := by
  obtain ⟨s, t, hs, ht, rfl⟩ := side_div hp
  have e1 := side_val (as := as) (bs := List.replicate (2 ^ n) false) (s := s) (t := t) (by omega) (by rw [List.length_replicate]; exact ht)
  have e2 := side_val (as := List.replicate (2 ^ m) false) (bs := bs) (s := s) (t := t) (by rw [List.length_replicate]; exact hs) (by omega)
  have e3 := side_val (as := as) (bs := bs) (s := s) (t := t) (by omega) (by omega)
  rw [ha] at e1 e3
  rw [List.length_replicate] at e2
  rw [e1, e2, e3, val_no, val_no, Int.mul_one, Int.one_mul]
theorem depD_sum (m : Nat) (ts : List (Nat × Int)) : depD (sumD m ts) <= 3 := by
  have h1 : ∀ ts : List (Nat × Int), depDs (ts.map termD) <= 1 := fun ts => by
    induction ts with
    | nil => simp [depDs]
    | cons t ts ih =>
      rw [List.map_cons]
      unfold depDs
      have : depD (termD t) = 1 := by simp [termD, depD, depDs]
      omega
  have := h1 ts
  simp only [sumD, depD, depDs]
  omega
theorem ok_law : FnOk P w K mg base CX0 7 T.f_law T.d_law ["_law_script"] (spLaw K) := by
  have G__law_tape := ok__law_tape (P := P) (w := w) (base := base) T; have G__law_table := ok__law_table (P := P) (w := w) (base := base) T; have G_sum_of := ok_sum_of (P := P) (w := w) (base := base) T; have G__law_next := ok__law_next (P := P) (w := w) (base := base) T; have G__law_beside := ok__law_beside (P := P) (w := w) (base := base) T; have G_odd := ok_odd (P := P) (w := w) (base := base) T; have G_share_of := ok_share_of (P := P) (w := w) (base := base) T; have G__law_weights_right := ok__law_weights_right (P := P) (w := w) (base := base) T; have G__law_levels_right := ok__law_levels_right (P := P) (w := w) (base := base) T; have G__law_two := ok__law_two (P := P) (w := w) (base := base) T; have G__law_shaken_right := ok__law_shaken_right (P := P) (w := w) (base := base) T; have G__law_turned_right := ok__law_turned_right (P := P) (w := w) (base := base) T
  refine T.F_law.ok sc_law (fun vs H Q E h => by obtain ⟨a, ns, rfl, _⟩ := h; rfl) (fun cdv A outer s H vs Q E hr h => ?_)
  have hu := hu60 hr
  have mo1 : SpMono (sp_wright K) := sp_wright_mono
  have mo2 : SpMono (sp_shaken K) := sp_shaken_mono
  have mo3 : SpMono (sp_table K) := sp_table_mono
  have mo4 : SpMono (sp_psum K) := sp_psum_mono
  have mo5 : SpMono sp_two := sp_two_mono
  have mo6 : SpMono sp_share := sp_share_mono
  have mo7 : SpMono (sp_turned9 K) := sp_turned9_mono
  have mo8 : SpMono (sp_levels9 K) := sp_levels9_mono
  have mo9 : SpMono (sp_beside K) := sp_beside_mono
  have mo10 : SpMono (sp_odd K) := sp_odd_mono
  have hr__law_tape := hr.mono (show 1 <= _ by decide); have hr__law_table := hr.mono (show 4 <= _ by decide); have hr_sum_of := hr.mono (show 3 <= _ by decide); have hr__law_next := hr.mono (show 1 <= _ by decide); have hr__law_beside := hr.mono (show 1 <= _ by decide); have hr_odd := hr.mono (show 5 <= _ by decide); have hr_share_of := hr.mono (show 2 <= _ by decide); have hr__law_weights_right := hr.mono (show 2 <= _ by decide); have hr__law_levels_right := hr.mono (show 5 <= _ by decide); have hr__law_two := hr.mono (show 1 <= _ by decide); have hr__law_shaken_right := hr.mono (show 5 <= _ by decide); have hr__law_turned_right := hr.mono (show 6 <= _ by decide)
  obtain ⟨a, ns, rfl, hsq, hlen, q⟩ := h
  refine ⟨_, (@pss_cons _ _ _ _ _ (@ps_set _ _ 1 _ _ _ _ sc_law.nd rfl (by walk_at "e") (@pe_call _ _ _ _ _ _ _ _ _ _ _ _ _ _ _ _ G__law_tape hr__law_tape rfl T.m__law_tape T.F__law_tape.kp T.b__law_tape .nil pass0 (@pa1 _ _ _ (@vw _ 0 _ _ (by walk_at "v")) (by rfl)) (by decide) (by rfl) (by rfl)) (by rfl) (by walk_at "i")) (@pss_cons _ _ _ _ _ (@ps_for _ _ _ _ _ _ _ _ PassesOwn.never rfl (@pi_range1 _ _ _ _ _ _ rfl T.z_range (@pa1 _ _ _ (@pe_int _ _ _ _) (by rfl)) (by rfl)) (@pg_name _ _ 2 _ sc_law.nd rfl (by walk_at "e") (by walk_at "i")) (@pss_cons _ _ _ _ _ (@ps_set _ _ 3 _ _ _ _ sc_law.nd rfl (by walk_at "e") (@pe_op _ _ _ _ _ _ _ _ (kAdd (K := K)) (@pe_int _ _ _ _) (@pe_call _ _ _ _ _ _ _ _ _ _ _ _ _ _ _ _ G__law_next hr__law_next rfl T.m__law_next T.F__law_next.kp T.b__law_next .nil pass0 (@pa_cons _ _ _ _ _ (@vw _ 1 _ _ (by walk_at "v")) (@pa1 _ _ _ (@pe_int _ _ _ _) (by rfl)) (by rfl)) (by decide) (by rfl) (by rfl))) (by rfl) (by walk_at "i")) (@pss_cons _ _ _ _ _ (@ps_set _ _ 4 _ _ _ _ sc_law.nd rfl (by walk_at "e") (@pe_op _ _ _ _ _ _ _ _ (kAdd (K := K)) (@pe_int _ _ _ _) (@pe_call _ _ _ _ _ _ _ _ _ _ _ _ _ _ _ _ G__law_next hr__law_next rfl T.m__law_next T.F__law_next.kp T.b__law_next .nil pass0 (@pa_cons _ _ _ _ _ (@vw _ 1 _ _ (by walk_at "v")) (@pa1 _ _ _ (@pe_int _ _ _ _) (by rfl)) (by rfl)) (by decide) (by rfl) (by rfl))) (by rfl) (by walk_at "i")) (@pss_cons _ _ _ _ _ (@ps_set _ _ 5 _ _ _ _ sc_law.nd rfl (by walk_at "e") (@pe_call _ _ _ _ _ _ _ _ _ _ _ _ _ _ _ _ G__law_table hr__law_table rfl T.m__law_table T.F__law_table.kp T.b__law_table .nil pass0 (@pa_cons _ _ _ _ _ (@vw _ 1 _ _ (by walk_at "v")) (@pa1 _ _ _ (@vw _ 3 _ _ (by walk_at "v")) (by rfl)) (by rfl)) (by decide) (by rfl) (by rfl)) (by rfl) (by walk_at "i")) (@pss_cons _ _ _ _ _ (@ps_set _ _ 6 _ _ _ _ sc_law.nd rfl (by walk_at "e") (@pe_call _ _ _ _ _ _ _ _ _ _ _ _ _ _ _ _ G__law_table hr__law_table rfl T.m__law_table T.F__law_table.kp T.b__law_table .nil pass0 (@pa_cons _ _ _ _ _ (@vw _ 1 _ _ (by walk_at "v")) (@pa1 _ _ _ (@vw _ 4 _ _ (by walk_at "v")) (by rfl)) (by rfl)) (by decide) (by rfl) (by rfl)) (by rfl) (by walk_at "i")) (@pss_cons _ _ _ _ _ (@ps_set _ _ 7 _ _ _ _ sc_law.nd rfl (by walk_at "e") (@pe_lst _ _ _ _ (@pa_cons _ _ _ _ _ (@pe_call _ _ _ _ _ _ _ _ _ _ _ _ _ _ _ _ G_sum_of hr_sum_of rfl T.m_sum_of T.F_sum_of.kp T.b_sum_of .nil pass0 (@pa1 _ _ _ (@vw _ 5 _ _ (by walk_at "v")) (by rfl)) (by decide) (by rfl) (by rfl)) (@pa_cons _ _ _ _ _ (@pe_call _ _ _ _ _ _ _ _ _ _ _ _ _ _ _ _ G_sum_of hr_sum_of rfl T.m_sum_of T.F_sum_of.kp T.b_sum_of .nil pass0 (@pa1 _ _ _ (@vw _ 6 _ _ (by walk_at "v")) (by rfl)) (by decide) (by rfl) (by rfl)) (@pa1 _ _ _ (@pe_call _ _ _ _ _ _ _ _ _ _ _ _ _ _ _ _ G_sum_of hr_sum_of rfl T.m_sum_of T.F_sum_of.kp T.b_sum_of .nil pass0 (@pa1 _ _ _ (@pe_call _ _ _ _ _ _ _ _ _ _ _ _ _ _ _ _ G__law_beside hr__law_beside rfl T.m__law_beside T.F__law_beside.kp T.b__law_beside .nil pass0 (@pa_cons _ _ _ _ _ (@vw _ 5 _ _ (by walk_at "v")) (@pa1 _ _ _ (@vw _ 6 _ _ (by walk_at "v")) (by rfl)) (by rfl)) (by decide) (by rfl) (by rfl)) (by rfl)) (by decide) (by rfl) (by rfl)) (by rfl)) (by rfl)) (by rfl))) (by rfl) (by walk_at "i")) (@pss_cons _ _ _ _ _ (@ps_if _ _ _ _ _ _ _ _ (PW.pt (@pw_or _ _ _ _ _ _ _ (@pt_not _ _ _ _ (@tu_val _ _ _ (@pe_call _ _ _ _ _ _ _ _ _ _ _ _ _ _ _ _ G__law_weights_right hr__law_weights_right rfl T.m__law_weights_right T.F__law_weights_right.kp T.b__law_weights_right .nil pass0 (@pa_cons _ _ _ _ _ (@kIx _ K _ _ _ _ _ (@vw _ 7 _ _ (by walk_at "v")) (@pe_int _ _ _ _) (by intro _ _; rfl) (by rfl)) (@pa_cons _ _ _ _ _ (@kIx _ K _ _ _ _ _ (@vw _ 7 _ _ (by walk_at "v")) (@pe_int _ _ _ _) (by intro _ _; rfl) (by rfl)) (@pa_cons _ _ _ _ _ (@kIx _ K _ _ _ _ _ (@vw _ 7 _ _ (by walk_at "v")) (@pe_int _ _ _ _) (by intro _ _; rfl) (by rfl)) (@pa1 _ _ _ (@vw _ 3 _ _ (by walk_at "v")) (by rfl)) (by rfl)) (by rfl)) (by rfl)) (by decide) (by rfl) (by rfl)) (by intro _; rfl))) (@pw_or1 _ _ _ _ (@pt_not _ _ _ _ (@tu_val _ _ _ (@pe_call _ _ _ _ _ _ _ _ _ _ _ _ _ _ _ _ G__law_levels_right hr__law_levels_right rfl T.m__law_levels_right T.F__law_levels_right.kp T.b__law_levels_right .nil pass0 (@pa1 _ _ _ (@vw _ 7 _ _ (by walk_at "v")) (by rfl)) (by decide) (by rfl) (by rfl)) (by intro _; rfl)))))) (@pss_one _ _ _ (@ps_ret _ _ _ _ (@pe_bl _ _ _ _))) (@pss_nil _)) (@pss_cons _ _ _ _ _ (@ps_set _ _ 8 _ _ _ _ sc_law.nd rfl (by walk_at "e") (@pe_call _ _ _ _ _ _ _ _ _ _ _ _ _ _ _ _ G_sum_of hr_sum_of rfl T.m_sum_of T.F_sum_of.kp T.b_sum_of .nil pass0 (@pa1 _ _ _ (@pe_call _ _ _ _ _ _ _ _ _ _ _ _ _ _ _ _ G__law_beside hr__law_beside rfl T.m__law_beside T.F__law_beside.kp T.b__law_beside .nil pass0 (@pa_cons _ _ _ _ _ (@vw _ 5 _ _ (by walk_at "v")) (@pa1 _ _ _ (@pe_op _ _ _ _ _ _ _ _ (kMulN (K := K)) (@pe_tup _ _ _ _ _ (@pa1 _ _ _ (@pe_bl _ _ _ _) (by rfl))) (@pe_callB _ _ _ _ _ _ _ _ _ (kLen (K := K)) rfl T.z_len (by rfl) (@pa1 _ _ _ (@vw _ 6 _ _ (by walk_at "v")) (by rfl)) (by decide) (by decide) (by rfl) (by rfl))) (by rfl)) (by rfl)) (by decide) (by rfl) (by rfl)) (by rfl)) (by decide) (by rfl) (by rfl)) (by rfl) (by walk_at "i")) (@pss_cons _ _ _ _ _ (@ps_if _ _ _ _ _ _ _ _ (@tu_cmp _ _ _ _ _ _ _ _ (kNe (K := K) hu) (@pe_call _ _ _ _ _ _ _ _ _ _ _ _ _ _ _ _ G_odd hr_odd rfl T.m_odd T.F_odd.kp T.b_odd .nil pass0 (@pa_cons _ _ _ _ _ (@vw _ 8 _ _ (by walk_at "v")) (@pa1 _ _ _ (@pe_call _ _ _ _ _ _ _ _ _ _ _ _ _ _ _ _ G_sum_of hr_sum_of rfl T.m_sum_of T.F_sum_of.kp T.b_sum_of .nil pass0 (@pa1 _ _ _ (@pe_call _ _ _ _ _ _ _ _ _ _ _ _ _ _ _ _ G__law_beside hr__law_beside rfl T.m__law_beside T.F__law_beside.kp T.b__law_beside .nil pass0 (@pa_cons _ _ _ _ _ (@pe_op _ _ _ _ _ _ _ _ (kMulN (K := K)) (@pe_tup _ _ _ _ _ (@pa1 _ _ _ (@pe_bl _ _ _ _) (by rfl))) (@pe_callB _ _ _ _ _ _ _ _ _ (kLen (K := K)) rfl T.z_len (by rfl) (@pa1 _ _ _ (@vw _ 5 _ _ (by walk_at "v")) (by rfl)) (by decide) (by decide) (by rfl) (by rfl))) (@pa1 _ _ _ (@vw _ 6 _ _ (by walk_at "v")) (by rfl)) (by rfl)) (by decide) (by rfl) (by rfl)) (by rfl)) (by decide) (by rfl) (by rfl)) (by rfl)) (by rfl)) (by decide) (by rfl) (by rfl)) (@kIx _ K _ _ _ _ _ (@vw _ 7 _ _ (by walk_at "v")) (@pe_int _ _ _ _) (by intro _ _; rfl) (by rfl)) (by walk_at "n")) (@pss_one _ _ _ (@ps_ret _ _ _ _ (@pe_bl _ _ _ _))) (@pss_nil _)) (@pss_one _ _ _ (@ps_for _ _ _ _ _ _ _ _ PassesOwn.never rfl (@pi_range1 _ _ _ _ _ _ rfl T.z_range (@pa1 _ _ _ (@pe_int _ _ _ _) (by rfl)) (by rfl)) (@pg_name _ _ 9 _ sc_law.nd rfl (by walk_at "e") (by walk_at "i")) (@pss_cons _ _ _ _ _ (@ps_set _ _ 10 _ _ _ _ sc_law.nd rfl (by walk_at "e") (@pe_op _ _ _ _ _ _ _ _ (kAdd (K := K)) (@pe_int _ _ _ _) (@pe_call _ _ _ _ _ _ _ _ _ _ _ _ _ _ _ _ G__law_next hr__law_next rfl T.m__law_next T.F__law_next.kp T.b__law_next .nil pass0 (@pa_cons _ _ _ _ _ (@vw _ 1 _ _ (by walk_at "v")) (@pa1 _ _ _ (@pe_int _ _ _ _) (by rfl)) (by rfl)) (by decide) (by rfl) (by rfl))) (by rfl) (by walk_at "i")) (@pss_cons _ _ _ _ _ (@ps_set _ _ 11 _ _ _ _ sc_law.nd rfl (by walk_at "e") (@pe_call _ _ _ _ _ _ _ _ _ _ _ _ _ _ _ _ G_share_of hr_share_of rfl T.m_share_of T.F_share_of.kp T.b_share_of .nil pass0 (@pa_cons _ _ _ _ _ (@pe_call _ _ _ _ _ _ _ _ _ _ _ _ _ _ _ _ G__law_next hr__law_next rfl T.m__law_next T.F__law_next.kp T.b__law_next .nil pass0 (@pa_cons _ _ _ _ _ (@vw _ 1 _ _ (by walk_at "v")) (@pa1 _ _ _ (@pe_op _ _ _ _ _ _ _ _ (kAdd (K := K)) (@vw _ 10 _ _ (by walk_at "v")) (@pe_int _ _ _ _)) (by rfl)) (by rfl)) (by decide) (by rfl) (by rfl)) (@pa1 _ _ _ (@vw _ 10 _ _ (by walk_at "v")) (by rfl)) (by rfl)) (by decide) (by rfl) (by rfl)) (by rfl) (by walk_at "i")) (@pss_cons _ _ _ _ _ (@ps_set _ _ 12 _ _ _ _ sc_law.nd rfl (by walk_at "e") (@pe_call _ _ _ _ _ _ _ _ _ _ _ _ _ _ _ _ G__law_next hr__law_next rfl T.m__law_next T.F__law_next.kp T.b__law_next .nil pass0 (@pa_cons _ _ _ _ _ (@vw _ 1 _ _ (by walk_at "v")) (@pa1 _ _ _ (@pe_call _ _ _ _ _ _ _ _ _ _ _ _ _ _ _ _ G__law_two hr__law_two rfl T.m__law_two T.F__law_two.kp T.b__law_two .nil pass0 (@pa1 _ _ _ (@vw _ 3 _ _ (by walk_at "v")) (by rfl)) (by decide) (by rfl) (by rfl)) (by rfl)) (by rfl)) (by decide) (by rfl) (by rfl)) (by rfl) (by walk_at "i")) (@pss_cons _ _ _ _ _ (@ps_if _ _ _ _ _ _ _ _ (@pt_not _ _ _ _ (@tu_val _ _ _ (@pe_call _ _ _ _ _ _ _ _ _ _ _ _ _ _ _ _ G__law_shaken_right hr__law_shaken_right rfl T.m__law_shaken_right T.F__law_shaken_right.kp T.b__law_shaken_right .nil pass0 (@pa_cons _ _ _ _ _ (@vw _ 7 _ _ (by walk_at "v")) (@pa1 _ _ _ (@vw _ 11 _ _ (by walk_at "v")) (by rfl)) (by rfl)) (by decide) (by rfl) (by rfl)) (by intro _; rfl))) (@pss_one _ _ _ (@ps_ret _ _ _ _ (@pe_bl _ _ _ _))) (@pss_nil _)) (@pss_one _ _ _ (@ps_if _ _ _ _ _ _ _ _ (@pt_not _ _ _ _ (@tu_val _ _ _ (@pe_call _ _ _ _ _ _ _ _ _ _ _ _ _ _ _ _ G__law_turned_right hr__law_turned_right rfl T.m__law_turned_right T.F__law_turned_right.kp T.b__law_turned_right .nil pass0 (@pa_cons _ _ _ _ _ (@vw _ 7 _ _ (by walk_at "v")) (@pa_cons _ _ _ _ _ (@vw _ 12 _ _ (by walk_at "v")) (@pa_cons _ _ _ _ _ (@pe_call _ _ _ _ _ _ _ _ _ _ _ _ _ _ _ _ G__law_next hr__law_next rfl T.m__law_next T.F__law_next.kp T.b__law_next .nil pass0 (@pa_cons _ _ _ _ _ (@vw _ 1 _ _ (by walk_at "v")) (@pa1 _ _ _ (@pe_call _ _ _ _ _ _ _ _ _ _ _ _ _ _ _ _ G__law_two hr__law_two rfl T.m__law_two T.F__law_two.kp T.b__law_two .nil pass0 (@pa1 _ _ _ (@vw _ 4 _ _ (by walk_at "v")) (by rfl)) (by decide) (by rfl) (by rfl)) (by rfl)) (by rfl)) (by decide) (by rfl) (by rfl)) (@pa1 _ _ _ (@vw _ 3 _ _ (by walk_at "v")) (by rfl)) (by rfl)) (by rfl)) (by rfl)) (by decide) (by rfl) (by rfl)) (by intro _; rfl))) (@pss_one _ _ _ (@ps_ret _ _ _ _ (@pe_bl _ _ _ _))) (@pss_nil _))))))) (by intro _; rfl))))))))))) (by intro _; rfl)) (@pss_one _ _ _ (@ps_ret _ _ _ _ (@pe_bl _ _ _ _))))), ?_⟩
  refine fun t ht => ?_
  dsimp only [gName]
  have T1 := newTape ht hsq
  generalize upd H t (.lst [.ref a, .int 0, .int 0, .int 0]) = H1 at *
  refine ⟨3, rfl, by decide, by decide, ?_⟩
  refine for_range (fun i σ H' => (∃ z2 z3 z4 z5 z6 z7 z8 z9 z10 z11 z12 : Option V, σ = [some (.ref a), some (.ref t), z2, z3, z4, z5, z6, z7, z8, z9, z10, z11, z12]) /\ Tape K H' t a ns) ⟨⟨none, none, none, none, none, none, none, none, none, none, none, rfl⟩, T1⟩ ?_ (fun σ H' _ => q H')
  rintro i σ H0 hi ⟨⟨z2, z3, z4, z5, z6, z7, z8, z9, z10, z11, z12, rfl⟩, T0⟩
  dsimp only [gName]
  refine ⟨a, ns, T0, okDiv_of (by decide) (by decide), fun d1 H2 d10 d11 T2 f2 => ?_⟩
  obtain ⟨dm, rfl⟩ := Int.eq_ofNat_of_zero_le d10
  obtain ⟨m, em, m1, m3⟩ : ∃ m : Nat, (1 : Int) + (dm : Int) = (m : Int) /\ 1 <= m /\ m <= 3 := ⟨1 + dm, by omega, by omega, by omega⟩
  dsimp only [tC, mAdd, gName]
  rw [em]
  refine ⟨a, ns, T2, okDiv_of (by decide) (by decide), fun d2 H3 d20 d21 T3 f3 => ?_⟩
  obtain ⟨dn, rfl⟩ := Int.eq_ofNat_of_zero_le d20
  obtain ⟨n, en, n1, n3⟩ : ∃ n : Nat, (1 : Int) + (dn : Int) = (n : Int) /\ 1 <= n /\ n <= 3 := ⟨1 + dn, by omega, by omega, by omega⟩
  dsimp only [tC, mAdd, gName]
  rw [en]
  have hm8 : 2 ^ m <= 8 := Nat.pow_le_pow_right (n := 2) (j := 3) (by decide) m3
  have hn8 : 2 ^ n <= 8 := Nat.pow_le_pow_right (n := 2) (j := 3) (by decide) n3
  have hm2 : 2 <= 2 ^ m := Nat.pow_le_pow_right (n := 2) (i := 1) (by decide) m1
  have hn2 : 2 <= 2 ^ n := Nat.pow_le_pow_right (n := 2) (i := 1) (by decide) n1
  have epm : (2 : Int) ^ ((m : Int)).toNat = ((2 ^ m : Nat) : Int) := by rw [Int.toNat_natCast, Int.natCast_pow]; rfl
  have epn : (2 : Int) ^ ((n : Int)).toNat = ((2 ^ n : Nat) : Int) := by rw [Int.toNat_natCast, Int.natCast_pow]; rfl
  have mn6 : m + n <= 6 := by omega
  refine ⟨a, ns, m, T3, rfl, m1, by omega, fun as ta H4 ha n4 g4 T4 fr4 => ?_⟩
  dsimp only [gName]
  have nta : ta ≠ t := T3.neT n4
  refine ⟨a, ns, n, T4, rfl, n1, by omega, fun bs tb H5 hb n5 g5 T5 fr5 => ?_⟩
  dsimp only [gName]
  have g45 := fr5 _ _ nta g4
  clear T0 T2 T3 T4 f2 f3 fr4 fr5 g4 n4 n5
  -- the sums
  refine seq_at (fun σ H' => ∃ (l : Addr) (u v w' : V), σ = [some (.ref a), some (.ref t), some (.int (0 + (i : Int))), some (.int m), some (.int n), some (.ref ta), some (.ref tb), some (.ref l), z8, z9, z10, z11, z12] /\ Same H5 H' /\ Trio K H' l m n as bs u v w' /\ H5 l = none) ?_ ?_ (by walk_at "sm")
  . refine ⟨m, as, by omega, ha, .of g45, fun u H6 s6 S1 => ?_⟩
    refine ⟨n, bs, by omega, hb, .of (s6 _ _ g5), fun v H7 s7 S2 => ?_⟩
    have s57 := s6.trans s7
    refine ⟨as, bs, .of (s57 _ _ g45), .of (s57 _ _ g5), by omega, by omega, by omega, fun r H8 nr s8 g8 => ?_⟩
    refine ⟨m + n, sideB as bs, mn6, by rw [sideB_len, ha, hb, sb_pow], .of g8, fun w' H9 s9 S3 => ?_⟩
    refine ⟨small_le (show 3 <= 1000 by decide), fun l nl => ?_⟩
    have s10 := Same.upd (o := .lst [u, v, w']) nl
    have s59 := s57.trans (s8.trans s9)
    exact ⟨l, u, v, w', rfl, s59.trans s10, ⟨upd_same, S1.same (s7.trans (s8.trans (s9.trans s10))), S2.same (s8.trans (s9.trans s10)), S3.same s10, ha, hb, ⟨m1, m3⟩, ⟨n1, n3⟩⟩, s59.free nl⟩
  rintro σ H6 ⟨l, u, v, w', rfl, s6, R6, nl⟩
  have T6 := T5.same s6
  have ntl : l ≠ t := T5.neT nl
  have g6a := s6 _ _ g45
  have g6b := s6 _ _ g5
  refine seq_at (fun σ H' => σ = [some (.ref a), some (.ref t), some (.int (0 + (i : Int))), some (.int m), some (.int n), some (.ref ta), some (.ref tb), some (.ref l), z8, z9, z10, z11, z12] /\ Same H6 H') ?_ ?_ (by walk_at "sm")
  . refine if_same false ?_ ?_
    . intro Q q
      refine ⟨_, u, .inl (.of R6.at_), atI_of (n := 0) rfl rfl, _, v, .inl (.of R6.at_), atI_of (n := 1) rfl rfl, _, w', .inl (.of R6.at_), atI_of (n := 2) rfl rfl, l, m, n, as, bs, R6, rfl, fun H7 s7 => ?_⟩
      refine ⟨m, n, as, bs, u, v, w', R6.same s7, fun H8 s8 => ?_⟩
      exact q _ (s7.trans s8)
    . exact fun H' s => iteF ⟨rfl, s⟩
  rintro σ H7 ⟨rfl, s7⟩
  have R7 := R6.same s7
  have g7a := s7 _ _ g6a
  have g7b := s7 _ _ g6b
  have i8 : ((2 ^ m : Nat) : Int) <= 8 := Int.ofNat_le.mpr hm8
  have j8 : ((2 ^ n : Nat) : Int) <= 8 := Int.ofNat_le.mpr hn8
  have i2 : (2 : Int) <= ((2 ^ m : Nat) : Int) := Int.ofNat_le.mpr hm2
  have j2 : (2 : Int) <= ((2 ^ n : Nat) : Int) := Int.ofNat_le.mpr hn2
  refine seq_at (fun σ H' => ∃ f : V, σ = [some (.ref a), some (.ref t), some (.int (0 + (i : Int))), some (.int m), some (.int n), some (.ref ta), some (.ref tb), some (.ref l), some f, z9, z10, z11, z12] /\ Same H7 H' /\ SumAt K H' f (m + n) (termG (wt (m + n) (valF (sideB as (List.replicate (2 ^ n) false)))) (2 ^ (m + n)))) ?_ ?_ (by walk_at "sm")
  . refine ⟨small_le (show 1 <= 1000 by decide), fun p1 np1 => ?_⟩
    have s8 := Same.upd (o := .tup [.bl false]) np1
    have g8 := upd_same (H := H7) (a := p1) (o := .tup [.bl false])
    generalize upd H7 p1 (.tup [.bl false]) = H8 at *
    refine ⟨2 ^ n, .inr ⟨_, .of (s8 _ _ g7b), by rw [List.length_map, hb]⟩, [.bl false], .of g8, by simp, by omega, by omega, small_le (by show 1 * (((2 ^ n : Nat) : Int)).toNat <= 1000; rw [Int.toNat_natCast]; omega), fun e => by omega, fun _ p2 np2 => ?_⟩
    rw [Int.toNat_natCast, rep_no]
    have s9 := Same.upd (o := .tup ((List.replicate (2 ^ n) false).map V.bl)) np2
    have s79 := s8.trans s9
    refine ⟨as, List.replicate (2 ^ n) false, .of (s79 _ _ g7a), .of upd_same, by omega, by omega, by rw [List.length_replicate]; omega, fun r H10 nr s10 g10 => ?_⟩
    exact ⟨m + n, _, mn6, by rw [sideB_len, ha, List.length_replicate, sb_pow], .of g10, fun f H11 s11 S => ⟨f, rfl, s79.trans (s10.trans s11), S⟩⟩
  rintro σ H8 ⟨f, rfl, s8, F8⟩
  have R8 := R7.same s8
  have g8a := s8 _ _ g7a
  have g8b := s8 _ _ g7b
  refine seq_at (fun σ H' => σ = [some (.ref a), some (.ref t), some (.int (0 + (i : Int))), some (.int m), some (.int n), some (.ref ta), some (.ref tb), some (.ref l), some f, z9, z10, z11, z12] /\ Same H8 H') ?_ ?_ (by walk_at "sm")
  . refine if_same false ?_ ?_
    . intro Q q
      refine ⟨small_le (show 1 <= 1000 by decide), fun p1 np1 => ?_⟩
      have s9 := Same.upd (o := .tup [.bl false]) np1
      have g9 := upd_same (H := H8) (a := p1) (o := .tup [.bl false])
      generalize upd H8 p1 (.tup [.bl false]) = H9 at *
      refine ⟨2 ^ m, .inr ⟨_, .of (s9 _ _ g8a), by rw [List.length_map, ha]⟩, [.bl false], .of g9, by simp, by omega, by omega, small_le (by show 1 * (((2 ^ m : Nat) : Int)).toNat <= 1000; rw [Int.toNat_natCast]; omega), fun e => by omega, fun _ p2 np2 => ?_⟩
      rw [Int.toNat_natCast, rep_no]
      have s10 := Same.upd (o := .tup ((List.replicate (2 ^ m) false).map V.bl)) np2
      have s80 := s9.trans s10
      refine ⟨List.replicate (2 ^ m) false, bs, .of upd_same, .of (s80 _ _ g8b), by rw [List.length_replicate]; omega, by rw [List.length_replicate]; omega, by omega, fun r H11 nr s11 g11 => ?_⟩
      refine ⟨m + n, _, mn6, by rw [sideB_len, hb, List.length_replicate, sb_pow], .of g11, fun f2 H12 s12 S => ?_⟩
      have s812 := s80.trans (s11.trans s12)
      refine ⟨m + n, _, _, F8.same s812, S, mn6, wt_light mn6 _, fun rr H13 s13 S13 => ?_⟩
      have s813 := s812.trans s13
      have R13 := R8.same s813
      have et : termG (wt (m + n) fun x => valF (sideB as (List.replicate (2 ^ n) false)) x * valF (sideB (List.replicate (2 ^ m) false) bs) x) (2 ^ (m + n)) = termG (wt (m + n) (valF (sideB as bs))) (2 ^ (m + n)) := termG_congr fun j _ => wt_congr (fun p hp => side_two ha hb hp) j
      rw [et] at S13
      obtain ⟨a3, b3, us3, e3, _⟩ := id R13.s3.at_
      obtain ⟨a4, b4, us4, e4, _⟩ := id S13.at_
      have rw3 := R13.s3.rep
      have rr4 := S13.rep
      refine ⟨_, w', .inl (.of R13.at_), atI_of (n := 2) rfl rfl, ?_⟩
      rw [e3] at rw3 ⊢
      rw [e4] at rr4 ⊢
      refine ⟨_, _, rr4, rw3, ?_, ?_⟩
      . have := depD_sum (m + n) (termG (wt (m + n) (valF (sideB as bs))) (2 ^ (m + n)))
        omega
      . have q' := q _ s813
        rw [eqD_refl]
        exact q'
    . exact fun H' s => iteF ⟨rfl, s⟩
  rintro σ H9 ⟨rfl, s9⟩
  have R9 := R8.same s9
  have T9 := T6.same (s7.trans (s8.trans s9))
  refine ⟨4, rfl, by decide, by decide, ?_⟩
  refine for_range (fun j σ H' => (∃ z9 z10 z11 z12 : Option V, σ = [some (.ref a), some (.ref t), some (.int (0 + (i : Int))), some (.int m), some (.int n), some (.ref ta), some (.ref tb), some (.ref l), some f, z9, z10, z11, z12]) /\ Tape K H' t a ns /\ Trio K H' l m n as bs u v w') ⟨⟨z9, z10, z11, z12, rfl⟩, T9, R9⟩ ?_ (fun σ H' ⟨⟨_, _, _, _, e⟩, T', _⟩ => ⟨⟨_, _, _, _, _, _, _, _, _, _, _, e⟩, T'⟩)
  clear T9 R9 s9
  rintro j σ H9 hj ⟨⟨z9, z10, z11, z12, rfl⟩, T9, R9⟩
  dsimp only [gName]
  refine ⟨a, ns, T9, okDiv_of (by decide) (by decide), fun d1 H10 d10 d11 T10 f10 => ?_⟩
  obtain ⟨db, rfl⟩ := Int.eq_ofNat_of_zero_le d10
  obtain ⟨bo, eb, b1, b9⟩ : ∃ bo : Nat, (1 : Int) + (db : Int) = (bo : Int) /\ 1 <= bo /\ bo <= 9 := ⟨1 + db, by omega, by omega, by omega⟩
  dsimp only [tC, mAdd, gName]
  rw [eb]
  refine ⟨a, ns, T10, okDiv_of (by omega) (Int.le_trans (show ((bo : Nat) : Int) + 1 <= 10 by omega) (by decide)), fun d2 H11 d20 d21 T11 f11 => ?_⟩
  have h1000 : ∀ x : Int, x.natAbs < 16 -> x.natAbs < 2 ^ 1000 := fun x hx => Nat.lt_of_lt_of_le hx (Nat.pow_le_pow_right (n := 2) (i := 4) (by decide) (by decide))
  refine ⟨by omega, h1000 _ (by omega), h1000 _ (by omega), fun ps nps => ?_⟩
  dsimp only [gName]
  have hss := sh_small (N := 2 ^ 4) (a := d2) (b := (bo : Int)) (by omega) (by omega) (by omega)
  have hsf := sh_frac (x := d2) (y := (bo : Int)) (by omega)
  have s12 := Same.upd (o := .tup [.int (shT d2 (bo : Int)), .int (shB d2 (bo : Int))]) nps
  have g12 := upd_same (H := H11) (a := ps) (o := .tup [.int (shT d2 (bo : Int)), .int (shB d2 (bo : Int))])
  generalize shT d2 (bo : Int) = x at *
  generalize shB d2 (bo : Int) = y at *
  have ntp : ps ≠ t := T11.neT nps
  generalize upd H11 ps (.tup [.int x, .int y]) = H12 at *
  have T12 := T11.same s12
  have fr12 : Frm t H9 H12 := (frm_all f10).trans ((frm_all f11).trans s12.frm)
  refine ⟨by omega, by omega, fun H13 s13 => ?_⟩
  rw [epm]
  refine ⟨a, ns, T12.same s13, okDiv_of (by omega) (Int.le_trans i8 (by decide)), fun d3 H14 d30 d31 T14 f14 => ?_⟩
  obtain ⟨so, rfl⟩ := Int.eq_ofNat_of_zero_le d30
  dsimp only [gName]
  have R14 := R9.frm T9 ntl (fr12.trans (s13.frm.trans (frm_all f14)))
  have g14 : H14 ps = some (.tup [.int x, .int y]) := by rw [f14 ps ntp]; exact s13 _ _ g12
  refine seq_at (fun σ H' => σ = [some (.ref a), some (.ref t), some (.int (0 + (i : Int))), some (.int m), some (.int n), some (.ref ta), some (.ref tb), some (.ref l), some f, some (.int (0 + (j : Int))), some (.int (bo : Int)), some (.ref ps), some (.int (so : Int))] /\ Same H14 H') ?_ ?_ (by walk_at "sm")
  . refine if_same false ?_ ?_
    . intro Q q
      exact ⟨m, n, as, bs, u, v, w', x, y, R14, .of g14, hsf.2, hss.1, hss.2.1, fun H15 s15 => q _ s15⟩
    . exact fun H' s => iteF ⟨rfl, s⟩
  rintro σ H15 ⟨rfl, s15⟩
  have R15 := R14.same s15
  have T15 := T14.same s15
  refine ⟨by omega, by omega, fun H16 s16 => ?_⟩
  rw [epn]
  refine ⟨a, ns, T15.same s16, okDiv_of (by omega) (Int.le_trans j8 (by decide)), fun d4 H17 d40 d41 T17 f17 => ?_⟩
  obtain ⟨mo, rfl⟩ := Int.eq_ofNat_of_zero_le d40
  have R17 := R15.frm T15 ntl (s16.frm.trans (frm_all f17))
  exact ⟨m, n, so, mo, as, bs, u, v, w', R17, rfl, rfl, rfl, by omega, by omega, fun H18 s18 => ⟨⟨_, _, _, _, rfl⟩, T17.same s18, R17.same s18⟩⟩
end
theorem all_mk {l : W.OpenLaw} {w : World} {K : W.Frag} {h : Heap} {mg : Str -> Option Value} {fa : Addr} (X : K.In h) (G : h.Ns mainGlobals mg) (hfa : mg "law" = some (.ref fa))
    {f0 f1 f2 f3 f4 f5 f6 f7 f8 f9 f10 f11 f12 f13 f14 f15 f16 f17 f18 f19 f20 f21 f22 f23 f24 f25 f26 f27 f28 f29 f30 f31 f32 f33 f34 : Addr} {oc0 kV0 dc0 pm0 cd0 ct0 oc1 kV1 dc1 pm1 cd1 ct1 oc2 kV2 dc2 pm2 cd2 ct2 oc3 kV3 dc3 pm3 cd3 ct3 oc4 kV4 dc4 pm4 cd4 ct4 oc5 kV5 dc5 pm5 cd5 ct5 oc6 kV6 dc6 pm6 cd6 ct6 oc7 kV7 dc7 pm7 cd7 ct7 oc8 kV8 dc8 pm8 cd8 ct8 oc9 kV9 dc9 pm9 cd9 ct9 oc10 kV10 dc10 pm10 cd10 ct10 oc11 kV11 dc11 pm11 cd11 ct11 oc12 kV12 dc12 pm12 cd12 ct12 oc13 kV13 dc13 pm13 cd13 ct13 oc14 kV14 dc14 pm14 cd14 ct14 oc15 kV15 dc15 pm15 cd15 ct15 oc16 kV16 dc16 pm16 cd16 ct16 oc17 kV17 dc17 pm17 cd17 ct17 oc18 kV18 dc18 pm18 cd18 ct18 oc19 kV19 dc19 pm19 cd19 ct19 oc20 kV20 dc20 pm20 cd20 ct20 oc21 kV21 dc21 pm21 cd21 ct21 oc22 kV22 dc22 pm22 cd22 ct22 oc23 kV23 dc23 pm23 cd23 ct23 oc24 kV24 dc24 pm24 cd24 ct24 oc25 kV25 dc25 pm25 cd25 ct25 oc26 kV26 dc26 pm26 cd26 ct26 oc27 kV27 dc27 pm27 cd27 ct27 oc28 kV28 dc28 pm28 cd28 ct28 oc29 kV29 dc29 pm29 cd29 ct29 oc30 kV30 dc30 pm30 cd30 ct30 oc31 kV31 dc31 pm31 cd31 ct31 oc32 kV32 dc32 pm32 cd32 ct32 oc33 kV33 dc33 pm33 cd33 ct33 oc34 kV34 dc34 pm34 cd34 ct34 : Value} {od0 an0 od1 an1 od2 an2 od3 an3 od4 an4 od5 an5 od6 an6 od7 an7 od8 an8 od9 an9 od10 an10 od11 an11 od12 an12 od13 an13 od14 an14 od15 an15 od16 an16 od17 an17 od18 an18 od19 an19 od20 an20 od21 an21 od22 an22 od23 an23 od24 an24 od25 an25 od26 an26 od27 an27 od28 an28 od29 an29 od30 an30 od31 an31 od32 an32 od33 an33 od34 an34 : Option Addr} {sl0 sl1 sl2 sl3 sl4 sl5 sl6 sl7 sl8 sl9 sl10 sl11 sl12 sl13 sl14 sl15 sl16 sl17 sl18 sl19 sl20 sl21 sl22 sl23 sl24 sl25 sl26 sl27 sl28 sl29 sl30 sl31 sl32 sl33 sl34 : Array (Option Value)}
    (a0 : W.nsIn K mainGlobals "two_to" = some (some (.ref f0)))
    (l0 : K.lookup f0 = some ⟨oc0, od0, .func (W.fnOf "two_to" "two_to" (defArgs s_two_to) (defBody s_two_to) (defScope s_two_to) .none kV0 dc0 pm0 an0 cd0 ct0), sl0⟩)
    (c0 : W.codeIn K cd0 "two_to" = true)
    (k0 : W.keepIn K (.ref f0) = true)
    (a1 : W.nsIn K mainGlobals "power_of" = some (some (.ref f1)))
    (l1 : K.lookup f1 = some ⟨oc1, od1, .func (W.fnOf "power_of" "power_of" (defArgs s_power_of) (defBody s_power_of) (defScope s_power_of) .none kV1 dc1 pm1 an1 cd1 ct1), sl1⟩)
    (c1 : W.codeIn K cd1 "power_of" = true)
    (k1 : W.keepIn K (.ref f1) = true)
    (a2 : W.nsIn K mainGlobals "switches_of" = some (some (.ref f2)))
    (l2 : K.lookup f2 = some ⟨oc2, od2, .func (W.fnOf "switches_of" "switches_of" (defArgs s_switches_of) (defBody s_switches_of) (defScope s_switches_of) .none kV2 dc2 pm2 an2 cd2 ct2), sl2⟩)
    (c2 : W.codeIn K cd2 "switches_of" = true)
    (k2 : W.keepIn K (.ref f2) = true)
    (a3 : W.nsIn K mainGlobals "sign" = some (some (.ref f3)))
    (l3 : K.lookup f3 = some ⟨oc3, od3, .func (W.fnOf "sign" "sign" (defArgs s_sign) (defBody s_sign) (defScope s_sign) .none kV3 dc3 pm3 an3 cd3 ct3), sl3⟩)
    (c3 : W.codeIn K cd3 "sign" = true)
    (k3 : W.keepIn K (.ref f3) = true)
    (a4 : W.nsIn K mainGlobals "many_in" = some (some (.ref f4)))
    (l4 : K.lookup f4 = some ⟨oc4, od4, .func (W.fnOf "many_in" "many_in" (defArgs s_many_in) (defBody s_many_in) (defScope s_many_in) .none kV4 dc4 pm4 an4 cd4 ct4), sl4⟩)
    (c4 : W.codeIn K cd4 "many_in" = true)
    (k4 : W.keepIn K (.ref f4) = true)
    (a5 : W.nsIn K mainGlobals "share_of" = some (some (.ref f5)))
    (l5 : K.lookup f5 = some ⟨oc5, od5, .func (W.fnOf "share_of" "share_of" (defArgs s_share_of) (defBody s_share_of) (defScope s_share_of) .none kV5 dc5 pm5 an5 cd5 ct5), sl5⟩)
    (c5 : W.codeIn K cd5 "share_of" = true)
    (k5 : W.keepIn K (.ref f5) = true)
    (a6 : W.nsIn K mainGlobals "common_divisor" = some (some (.ref f6)))
    (l6 : K.lookup f6 = some ⟨oc6, od6, .func (W.fnOf "common_divisor" "common_divisor" (defArgs s_common_divisor) (defBody s_common_divisor) (defScope s_common_divisor) .none kV6 dc6 pm6 an6 cd6 ct6), sl6⟩)
    (c6 : W.codeIn K cd6 "common_divisor" = true)
    (k6 : W.keepIn K (.ref f6) = true)
    (a7 : W.nsIn K mainGlobals "matters" = some (some (.ref f7)))
    (l7 : K.lookup f7 = some ⟨oc7, od7, .func (W.fnOf "matters" "matters" (defArgs s_matters) (defBody s_matters) (defScope s_matters) .none kV7 dc7 pm7 an7 cd7 ct7), sl7⟩)
    (c7 : W.codeIn K cd7 "matters" = true)
    (k7 : W.keepIn K (.ref f7) = true)
    (a8 : W.nsIn K mainGlobals "odd_squares" = some (some (.ref f8)))
    (l8 : K.lookup f8 = some ⟨oc8, od8, .func (W.fnOf "odd_squares" "odd_squares" (defArgs s_odd_squares) (defBody s_odd_squares) (defScope s_odd_squares) .none kV8 dc8 pm8 an8 cd8 ct8), sl8⟩)
    (c8 : W.codeIn K cd8 "odd_squares" = true)
    (k8 : W.keepIn K (.ref f8) = true)
    (a9 : W.nsIn K mainGlobals "is_odd_with" = some (some (.ref f9)))
    (l9 : K.lookup f9 = some ⟨oc9, od9, .func (W.fnOf "is_odd_with" "is_odd_with" (defArgs s_is_odd_with) (defBody s_is_odd_with) (defScope s_is_odd_with) .none kV9 dc9 pm9 an9 cd9 ct9), sl9⟩)
    (c9 : W.codeIn K cd9 "is_odd_with" = true)
    (k9 : W.keepIn K (.ref f9) = true)
    (a10 : W.nsIn K mainGlobals "levels" = some (some (.ref f10)))
    (l10 : K.lookup f10 = some ⟨oc10, od10, .func (W.fnOf "levels" "levels" (defArgs s_levels) (defBody s_levels) (defScope s_levels) .none kV10 dc10 pm10 an10 cd10 ct10), sl10⟩)
    (c10 : W.codeIn K cd10 "levels" = true)
    (k10 : W.keepIn K (.ref f10) = true)
    (a11 : W.nsIn K mainGlobals "squares_by_level" = some (some (.ref f11)))
    (l11 : K.lookup f11 = some ⟨oc11, od11, .func (W.fnOf "squares_by_level" "squares_by_level" (defArgs s_squares_by_level) (defBody s_squares_by_level) (defScope s_squares_by_level) .none kV11 dc11 pm11 an11 cd11 ct11), sl11⟩)
    (c11 : W.codeIn K cd11 "squares_by_level" = true)
    (k11 : W.keepIn K (.ref f11) = true)
    (a12 : W.nsIn K mainGlobals "over_all" = some (some (.ref f12)))
    (l12 : K.lookup f12 = some ⟨oc12, od12, .func (W.fnOf "over_all" "over_all" (defArgs s_over_all) (defBody s_over_all) (defScope s_over_all) .none kV12 dc12 pm12 an12 cd12 ct12), sl12⟩)
    (c12 : W.codeIn K cd12 "over_all" = true)
    (k12 : W.keepIn K (.ref f12) = true)
    (a13 : W.nsIn K mainGlobals "stays" = some (some (.ref f13)))
    (l13 : K.lookup f13 = some ⟨oc13, od13, .func (W.fnOf "stays" "stays" (defArgs s_stays) (defBody s_stays) (defScope s_stays) .none kV13 dc13 pm13 an13 cd13 ct13), sl13⟩)
    (c13 : W.codeIn K cd13 "stays" = true)
    (k13 : W.keepIn K (.ref f13) = true)
    (a14 : W.nsIn K mainGlobals "stays_by" = some (some (.ref f14)))
    (l14 : K.lookup f14 = some ⟨oc14, od14, .func (W.fnOf "stays_by" "stays_by" (defArgs s_stays_by) (defBody s_stays_by) (defScope s_stays_by) .none kV14 dc14 pm14 an14 cd14 ct14), sl14⟩)
    (c14 : W.codeIn K cd14 "stays_by" = true)
    (k14 : W.keepIn K (.ref f14) = true)
    (a15 : W.nsIn K mainGlobals "sum_of" = some (some (.ref f15)))
    (l15 : K.lookup f15 = some ⟨oc15, od15, .func (W.fnOf "sum_of" "sum_of" (defArgs s_sum_of) (defBody s_sum_of) (defScope s_sum_of) .none kV15 dc15 pm15 an15 cd15 ct15), sl15⟩)
    (c15 : W.codeIn K cd15 "sum_of" = true)
    (k15 : W.keepIn K (.ref f15) = true)
    (a16 : W.nsIn K mainGlobals "weights_of" = some (some (.ref f16)))
    (l16 : K.lookup f16 = some ⟨oc16, od16, .func (W.fnOf "weights_of" "weights_of" (defArgs s_weights_of) (defBody s_weights_of) (defScope s_weights_of) .none kV16 dc16 pm16 an16 cd16 ct16), sl16⟩)
    (c16 : W.codeIn K cd16 "weights_of" = true)
    (k16 : W.keepIn K (.ref f16) = true)
    (a17 : W.nsIn K mainGlobals "sum_from" = some (some (.ref f17)))
    (l17 : K.lookup f17 = some ⟨oc17, od17, .func (W.fnOf "sum_from" "sum_from" (defArgs s_sum_from) (defBody s_sum_from) (defScope s_sum_from) .none kV17 dc17 pm17 an17 cd17 ct17), sl17⟩)
    (c17 : W.codeIn K cd17 "sum_from" = true)
    (k17 : W.keepIn K (.ref f17) = true)
    (a18 : W.nsIn K mainGlobals "times_signs" = some (some (.ref f18)))
    (l18 : K.lookup f18 = some ⟨oc18, od18, .func (W.fnOf "times_signs" "times_signs" (defArgs s_times_signs) (defBody s_times_signs) (defScope s_times_signs) .none kV18 dc18 pm18 an18 cd18 ct18), sl18⟩)
    (c18 : W.codeIn K cd18 "times_signs" = true)
    (k18 : W.keepIn K (.ref f18) = true)
    (a19 : W.nsIn K mainGlobals "crossed" = some (some (.ref f19)))
    (l19 : K.lookup f19 = some ⟨oc19, od19, .func (W.fnOf "crossed" "crossed" (defArgs s_crossed) (defBody s_crossed) (defScope s_crossed) .none kV19 dc19 pm19 an19 cd19 ct19), sl19⟩)
    (c19 : W.codeIn K cd19 "crossed" = true)
    (k19 : W.keepIn K (.ref f19) = true)
    (a20 : W.nsIn K mainGlobals "times" = some (some (.ref f20)))
    (l20 : K.lookup f20 = some ⟨oc20, od20, .func (W.fnOf "times" "times" (defArgs s_times) (defBody s_times) (defScope s_times) .none kV20 dc20 pm20 an20 cd20 ct20), sl20⟩)
    (c20 : W.codeIn K cd20 "times" = true)
    (k20 : W.keepIn K (.ref f20) = true)
    (a21 : W.nsIn K mainGlobals "met" = some (some (.ref f21)))
    (l21 : K.lookup f21 = some ⟨oc21, od21, .func (W.fnOf "met" "met" (defArgs s_met) (defBody s_met) (defScope s_met) .none kV21 dc21 pm21 an21 cd21 ct21), sl21⟩)
    (c21 : W.codeIn K cd21 "met" = true)
    (k21 : W.keepIn K (.ref f21) = true)
    (a22 : W.nsIn K mainGlobals "odd" = some (some (.ref f22)))
    (l22 : K.lookup f22 = some ⟨oc22, od22, .func (W.fnOf "odd" "odd" (defArgs s_odd) (defBody s_odd) (defScope s_odd) .none kV22 dc22 pm22 an22 cd22 ct22), sl22⟩)
    (c22 : W.codeIn K cd22 "odd" = true)
    (k22 : W.keepIn K (.ref f22) = true)
    (a23 : W.nsIn K mainGlobals "_law_tape" = some (some (.ref f23)))
    (l23 : K.lookup f23 = some ⟨oc23, od23, .func (W.fnOf "_law_tape" "_law_tape" (defArgs s__law_tape) (defBody s__law_tape) (defScope s__law_tape) .none kV23 dc23 pm23 an23 cd23 ct23), sl23⟩)
    (c23 : W.codeIn K cd23 "_law_tape" = true)
    (k23 : W.keepIn K (.ref f23) = true)
    (a24 : W.nsIn K mainGlobals "_law_next" = some (some (.ref f24)))
    (l24 : K.lookup f24 = some ⟨oc24, od24, .func (W.fnOf "_law_next" "_law_next" (defArgs s__law_next) (defBody s__law_next) (defScope s__law_next) .none kV24 dc24 pm24 an24 cd24 ct24), sl24⟩)
    (c24 : W.codeIn K cd24 "_law_next" = true)
    (k24 : W.keepIn K (.ref f24) = true)
    (a25 : W.nsIn K mainGlobals "_law_two" = some (some (.ref f25)))
    (l25 : K.lookup f25 = some ⟨oc25, od25, .func (W.fnOf "_law_two" "_law_two" (defArgs s__law_two) (defBody s__law_two) (defScope s__law_two) .none kV25 dc25 pm25 an25 cd25 ct25), sl25⟩)
    (c25 : W.codeIn K cd25 "_law_two" = true)
    (k25 : W.keepIn K (.ref f25) = true)
    (a26 : W.nsIn K mainGlobals "_law_bits" = some (some (.ref f26)))
    (l26 : K.lookup f26 = some ⟨oc26, od26, .func (W.fnOf "_law_bits" "_law_bits" (defArgs s__law_bits) (defBody s__law_bits) (defScope s__law_bits) .none kV26 dc26 pm26 an26 cd26 ct26), sl26⟩)
    (c26 : W.codeIn K cd26 "_law_bits" = true)
    (k26 : W.keepIn K (.ref f26) = true)
    (a27 : W.nsIn K mainGlobals "_law_sign" = some (some (.ref f27)))
    (l27 : K.lookup f27 = some ⟨oc27, od27, .func (W.fnOf "_law_sign" "_law_sign" (defArgs s__law_sign) (defBody s__law_sign) (defScope s__law_sign) .none kV27 dc27 pm27 an27 cd27 ct27), sl27⟩)
    (c27 : W.codeIn K cd27 "_law_sign" = true)
    (k27 : W.keepIn K (.ref f27) = true)
    (a28 : W.nsIn K mainGlobals "_law_table" = some (some (.ref f28)))
    (l28 : K.lookup f28 = some ⟨oc28, od28, .func (W.fnOf "_law_table" "_law_table" (defArgs s__law_table) (defBody s__law_table) (defScope s__law_table) .none kV28 dc28 pm28 an28 cd28 ct28), sl28⟩)
    (c28 : W.codeIn K cd28 "_law_table" = true)
    (k28 : W.keepIn K (.ref f28) = true)
    (a29 : W.nsIn K mainGlobals "_law_beside" = some (some (.ref f29)))
    (l29 : K.lookup f29 = some ⟨oc29, od29, .func (W.fnOf "_law_beside" "_law_beside" (defArgs s__law_beside) (defBody s__law_beside) (defScope s__law_beside) .none kV29 dc29 pm29 an29 cd29 ct29), sl29⟩)
    (c29 : W.codeIn K cd29 "_law_beside" = true)
    (k29 : W.keepIn K (.ref f29) = true)
    (a30 : W.nsIn K mainGlobals "_law_weights_right" = some (some (.ref f30)))
    (l30 : K.lookup f30 = some ⟨oc30, od30, .func (W.fnOf "_law_weights_right" "_law_weights_right" (defArgs s__law_weights_right) (defBody s__law_weights_right) (defScope s__law_weights_right) .none kV30 dc30 pm30 an30 cd30 ct30), sl30⟩)
    (c30 : W.codeIn K cd30 "_law_weights_right" = true)
    (k30 : W.keepIn K (.ref f30) = true)
    (a31 : W.nsIn K mainGlobals "_law_shaken_right" = some (some (.ref f31)))
    (l31 : K.lookup f31 = some ⟨oc31, od31, .func (W.fnOf "_law_shaken_right" "_law_shaken_right" (defArgs s__law_shaken_right) (defBody s__law_shaken_right) (defScope s__law_shaken_right) .none kV31 dc31 pm31 an31 cd31 ct31), sl31⟩)
    (c31 : W.codeIn K cd31 "_law_shaken_right" = true)
    (k31 : W.keepIn K (.ref f31) = true)
    (a32 : W.nsIn K mainGlobals "_law_turned_right" = some (some (.ref f32)))
    (l32 : K.lookup f32 = some ⟨oc32, od32, .func (W.fnOf "_law_turned_right" "_law_turned_right" (defArgs s__law_turned_right) (defBody s__law_turned_right) (defScope s__law_turned_right) .none kV32 dc32 pm32 an32 cd32 ct32), sl32⟩)
    (c32 : W.codeIn K cd32 "_law_turned_right" = true)
    (k32 : W.keepIn K (.ref f32) = true)
    (a33 : W.nsIn K mainGlobals "_law_levels_right" = some (some (.ref f33)))
    (l33 : K.lookup f33 = some ⟨oc33, od33, .func (W.fnOf "_law_levels_right" "_law_levels_right" (defArgs s__law_levels_right) (defBody s__law_levels_right) (defScope s__law_levels_right) .none kV33 dc33 pm33 an33 cd33 ct33), sl33⟩)
    (c33 : W.codeIn K cd33 "_law_levels_right" = true)
    (k33 : W.keepIn K (.ref f33) = true)
    (a34 : W.nsIn K mainGlobals "law" = some (some (.ref f34)))
    (l34 : K.lookup f34 = some ⟨oc34, od34, .func (W.fnOf "law" "law" (defArgs s_law) (defBody s_law) (defScope s_law) .none kV34 dc34 pm34 an34 cd34 ct34), sl34⟩)
    (c34 : W.codeIn K cd34 "law" = true)
    (k34 : W.keepIn K (.ref f34) = true)
    (z_abs : W.nsIn K mainGlobals "abs" = some none)
    (z_dict : W.nsIn K mainGlobals "dict" = some none)
    (z_enumerate : W.nsIn K mainGlobals "enumerate" = some none)
    (z_int : W.nsIn K mainGlobals "int" = some none)
    (z_len : W.nsIn K mainGlobals "len" = some none)
    (z_list : W.nsIn K mainGlobals "list" = some none)
    (z_max : W.nsIn K mainGlobals "max" = some none)
    (z_range : W.nsIn K mainGlobals "range" = some none)
    (z_sum : W.nsIn K mainGlobals "sum" = some none)
    (z_tuple : W.nsIn K mainGlobals "tuple" = some none)
    (z_zip : W.nsIn K mainGlobals "zip" = some none) :
    ∃ fd : FuncData, (∀ (s : Shared) (v : Value), BindsTo s fd ⟨[v], []⟩ [("_law_script", v)]) /\ ∀ base : Heap, K.In base -> base.Ns mainGlobals mg -> FnOk l.prog w K mg base CX0 7 fa fd ["_law_script"] (spLaw K) := by
  have e := hfa.symm.trans (W.mg_of X G a34)
  cases e
  have F0 := fun_mk (st := s_two_to) l0 c0 k0
  have b0 := F0.binds (ps := ["n"]) fun _ _ _ _ _ _ => L2.on1 (fun _ => rfl)
  have F1 := fun_mk (st := s_power_of) l1 c1 k1
  have b1 := F1.binds (ps := ["base", "times"]) fun _ _ _ _ _ _ => L2.on2 (fun _ _ => rfl)
  have F2 := fun_mk (st := s_switches_of) l2 c2 k2
  have b2 := F2.binds (ps := ["table"]) fun _ _ _ _ _ _ => L2.on1 (fun _ => rfl)
  have F3 := fun_mk (st := s_sign) l3 c3 k3
  have b3 := F3.binds (ps := ["subset", "place"]) fun _ _ _ _ _ _ => L2.on2 (fun _ _ => rfl)
  have F4 := fun_mk (st := s_many_in) l4 c4 k4
  have b4 := F4.binds (ps := ["subset"]) fun _ _ _ _ _ _ => L2.on1 (fun _ => rfl)
  have F5 := fun_mk (st := s_share_of) l5 c5 k5
  have b5 := F5.binds (ps := ["top", "bottom"]) fun _ _ _ _ _ _ => L2.on2 (fun _ _ => rfl)
  have F6 := fun_mk (st := s_common_divisor) l6 c6 k6
  have b6 := F6.binds (ps := ["one", "other"]) fun _ _ _ _ _ _ => L2.on2 (fun _ _ => rfl)
  have F7 := fun_mk (st := s_matters) l7 c7 k7
  have b7 := F7.binds (ps := ["one", "subset"]) fun _ _ _ _ _ _ => L2.on2 (fun _ _ => rfl)
  have F8 := fun_mk (st := s_odd_squares) l8 c8 k8
  have b8 := F8.binds (ps := ["one", "subset"]) fun _ _ _ _ _ _ => L2.on2 (fun _ _ => rfl)
  have F9 := fun_mk (st := s_is_odd_with) l9 c9 k9
  have b9 := F9.binds (ps := ["one", "other"]) fun _ _ _ _ _ _ => L2.on2 (fun _ _ => rfl)
  have F10 := fun_mk (st := s_levels) l10 c10 k10
  have b10 := F10.binds (ps := ["one"]) fun _ _ _ _ _ _ => L2.on1 (fun _ => rfl)
  have F11 := fun_mk (st := s_squares_by_level) l11 c11 k11
  have b11 := F11.binds (ps := ["one"]) fun _ _ _ _ _ _ => L2.on1 (fun _ => rfl)
  have F12 := fun_mk (st := s_over_all) l12 c12 k12
  have b12 := F12.binds (ps := ["one", "squares"]) fun _ _ _ _ _ _ => L2.on2 (fun _ _ => rfl)
  have F13 := fun_mk (st := s_stays) l13 c13 k13
  have b13 := F13.binds (ps := ["one", "share"]) fun _ _ _ _ _ _ => L2.on2 (fun _ _ => rfl)
  have F14 := fun_mk (st := s_stays_by) l14 c14 k14
  have b14 := F14.binds (ps := ["n", "squares", "share"]) fun _ _ _ _ _ _ => L2.on3 (fun _ _ _ => rfl)
  have F15 := fun_mk (st := s_sum_of) l15 c15 k15
  have b15 := F15.binds (ps := ["table"]) fun _ _ _ _ _ _ => L2.on1 (fun _ => rfl)
  have F16 := fun_mk (st := s_weights_of) l16 c16 k16
  have b16 := F16.binds (ps := ["one"]) fun _ _ _ _ _ _ => L2.on1 (fun _ => rfl)
  have F17 := fun_mk (st := s_sum_from) l17 c17 k17
  have b17 := F17.binds (ps := ["n", "weights"]) fun _ _ _ _ _ _ => L2.on2 (fun _ _ => rfl)
  have F18 := fun_mk (st := s_times_signs) l18 c18 k18
  have b18 := F18.binds (ps := ["numbers"]) fun _ _ _ _ _ _ => L2.on1 (fun _ => rfl)
  have F19 := fun_mk (st := s_crossed) l19 c19 k19
  have b19 := F19.binds (ps := ["numbers", "step", "place"]) fun _ _ _ _ _ _ => L2.on3 (fun _ _ _ => rfl)
  have F20 := fun_mk (st := s_times) l20 c20 k20
  have b20 := F20.binds (ps := ["one", "other"]) fun _ _ _ _ _ _ => L2.on2 (fun _ _ => rfl)
  have F21 := fun_mk (st := s_met) l21 c21 k21
  have b21 := F21.binds (ps := ["terms", "weights", "apart"]) fun _ _ _ _ _ _ => L2.on3 (fun _ _ _ => rfl)
  have F22 := fun_mk (st := s_odd) l22 c22 k22
  have b22 := F22.binds (ps := ["one", "other"]) fun _ _ _ _ _ _ => L2.on2 (fun _ _ => rfl)
  have F23 := fun_mk (st := s__law_tape) l23 c23 k23
  have b23 := F23.binds (ps := ["_law_script"]) fun _ _ _ _ _ _ => L2.on1 (fun _ => rfl)
  have F24 := fun_mk (st := s__law_next) l24 c24 k24
  have b24 := F24.binds (ps := ["_law_tape_here", "_law_many"]) fun _ _ _ _ _ _ => L2.on2 (fun _ _ => rfl)
  have F25 := fun_mk (st := s__law_two) l25 c25 k25
  have b25 := F25.binds (ps := ["_law_k"]) fun _ _ _ _ _ _ => L2.on1 (fun _ => rfl)
  have F26 := fun_mk (st := s__law_bits) l26 c26 k26
  have b26 := F26.binds (ps := ["_law_n", "_law_number"]) fun _ _ _ _ _ _ => L2.on2 (fun _ _ => rfl)
  have F27 := fun_mk (st := s__law_sign) l27 c27 k27
  have b27 := F27.binds (ps := ["_law_n", "_law_one", "_law_place"]) fun _ _ _ _ _ _ => L2.on3 (fun _ _ _ => rfl)
  have F28 := fun_mk (st := s__law_table) l28 c28 k28
  have b28 := F28.binds (ps := ["_law_tape_here", "_law_n"]) fun _ _ _ _ _ _ => L2.on2 (fun _ _ => rfl)
  have F29 := fun_mk (st := s__law_beside) l29 c29 k29
  have b29 := F29.binds (ps := ["_law_one", "_law_other"]) fun _ _ _ _ _ _ => L2.on2 (fun _ _ => rfl)
  have F30 := fun_mk (st := s__law_weights_right) l30 c30 k30
  have b30 := F30.binds (ps := ["_law_one", "_law_other", "_law_both_sums", "_law_m"]) fun _ _ _ _ _ _ => L2.on4 (fun _ _ _ _ => rfl)
  have F31 := fun_mk (st := s__law_shaken_right) l31 c31 k31
  have b31 := F31.binds (ps := ["_law_sums", "_law_share"]) fun _ _ _ _ _ _ => L2.on2 (fun _ _ => rfl)
  have F32 := fun_mk (st := s__law_turned_right) l32 c32 k32
  have b32 := F32.binds (ps := ["_law_sums", "_law_some", "_law_more", "_law_m"]) fun _ _ _ _ _ _ => L2.on4 (fun _ _ _ _ => rfl)
  have F33 := fun_mk (st := s__law_levels_right) l33 c33 k33
  have b33 := F33.binds (ps := ["_law_sums"]) fun _ _ _ _ _ _ => L2.on1 (fun _ => rfl)
  have F34 := fun_mk (st := s_law) l34 c34 k34
  have b34 := F34.binds (ps := ["_law_script"]) fun _ _ _ _ _ _ => L2.on1 (fun _ => rfl)
  let T : Txt K mg := { f_two_to := f0, d_two_to := _, F_two_to := F0, b_two_to := b0, m_two_to := W.mg_of X G a0, f_power_of := f1, d_power_of := _, F_power_of := F1, b_power_of := b1, m_power_of := W.mg_of X G a1, f_switches_of := f2, d_switches_of := _, F_switches_of := F2, b_switches_of := b2, m_switches_of := W.mg_of X G a2, f_sign := f3, d_sign := _, F_sign := F3, b_sign := b3, m_sign := W.mg_of X G a3, f_many_in := f4, d_many_in := _, F_many_in := F4, b_many_in := b4, m_many_in := W.mg_of X G a4, f_share_of := f5, d_share_of := _, F_share_of := F5, b_share_of := b5, m_share_of := W.mg_of X G a5, f_common_divisor := f6, d_common_divisor := _, F_common_divisor := F6, b_common_divisor := b6, m_common_divisor := W.mg_of X G a6, f_matters := f7, d_matters := _, F_matters := F7, b_matters := b7, m_matters := W.mg_of X G a7, f_odd_squares := f8, d_odd_squares := _, F_odd_squares := F8, b_odd_squares := b8, m_odd_squares := W.mg_of X G a8, f_is_odd_with := f9, d_is_odd_with := _, F_is_odd_with := F9, b_is_odd_with := b9, m_is_odd_with := W.mg_of X G a9, f_levels := f10, d_levels := _, F_levels := F10, b_levels := b10, m_levels := W.mg_of X G a10, f_squares_by_level := f11, d_squares_by_level := _, F_squares_by_level := F11, b_squares_by_level := b11, m_squares_by_level := W.mg_of X G a11, f_over_all := f12, d_over_all := _, F_over_all := F12, b_over_all := b12, m_over_all := W.mg_of X G a12, f_stays := f13, d_stays := _, F_stays := F13, b_stays := b13, m_stays := W.mg_of X G a13, f_stays_by := f14, d_stays_by := _, F_stays_by := F14, b_stays_by := b14, m_stays_by := W.mg_of X G a14, f_sum_of := f15, d_sum_of := _, F_sum_of := F15, b_sum_of := b15, m_sum_of := W.mg_of X G a15, f_weights_of := f16, d_weights_of := _, F_weights_of := F16, b_weights_of := b16, m_weights_of := W.mg_of X G a16, f_sum_from := f17, d_sum_from := _, F_sum_from := F17, b_sum_from := b17, m_sum_from := W.mg_of X G a17, f_times_signs := f18, d_times_signs := _, F_times_signs := F18, b_times_signs := b18, m_times_signs := W.mg_of X G a18, f_crossed := f19, d_crossed := _, F_crossed := F19, b_crossed := b19, m_crossed := W.mg_of X G a19, f_times := f20, d_times := _, F_times := F20, b_times := b20, m_times := W.mg_of X G a20, f_met := f21, d_met := _, F_met := F21, b_met := b21, m_met := W.mg_of X G a21, f_odd := f22, d_odd := _, F_odd := F22, b_odd := b22, m_odd := W.mg_of X G a22, f__law_tape := f23, d__law_tape := _, F__law_tape := F23, b__law_tape := b23, m__law_tape := W.mg_of X G a23, f__law_next := f24, d__law_next := _, F__law_next := F24, b__law_next := b24, m__law_next := W.mg_of X G a24, f__law_two := f25, d__law_two := _, F__law_two := F25, b__law_two := b25, m__law_two := W.mg_of X G a25, f__law_bits := f26, d__law_bits := _, F__law_bits := F26, b__law_bits := b26, m__law_bits := W.mg_of X G a26, f__law_sign := f27, d__law_sign := _, F__law_sign := F27, b__law_sign := b27, m__law_sign := W.mg_of X G a27, f__law_table := f28, d__law_table := _, F__law_table := F28, b__law_table := b28, m__law_table := W.mg_of X G a28, f__law_beside := f29, d__law_beside := _, F__law_beside := F29, b__law_beside := b29, m__law_beside := W.mg_of X G a29, f__law_weights_right := f30, d__law_weights_right := _, F__law_weights_right := F30, b__law_weights_right := b30, m__law_weights_right := W.mg_of X G a30, f__law_shaken_right := f31, d__law_shaken_right := _, F__law_shaken_right := F31, b__law_shaken_right := b31, m__law_shaken_right := W.mg_of X G a31, f__law_turned_right := f32, d__law_turned_right := _, F__law_turned_right := F32, b__law_turned_right := b32, m__law_turned_right := W.mg_of X G a32, f__law_levels_right := f33, d__law_levels_right := _, F__law_levels_right := F33, b__law_levels_right := b33, m__law_levels_right := W.mg_of X G a33, f_law := fa, d_law := _, F_law := F34, b_law := b34, m_law := W.mg_of X G a34, z_abs := W.mg_none_of X G z_abs, z_dict := W.mg_none_of X G z_dict, z_enumerate := W.mg_none_of X G z_enumerate, z_int := W.mg_none_of X G z_int, z_len := W.mg_none_of X G z_len, z_list := W.mg_none_of X G z_list, z_max := W.mg_none_of X G z_max, z_range := W.mg_none_of X G z_range, z_sum := W.mg_none_of X G z_sum, z_tuple := W.mg_none_of X G z_tuple, z_zip := W.mg_none_of X G z_zip }
  exact ⟨W.fnOf "law" "law" (defArgs s_law) (defBody s_law) (defScope s_law) .none kV34 dc34 pm34 an34 cd34 ct34, fun s v => .of_eq rfl, fun base _ _ => ok_law T⟩
theorem walk {l : W.OpenLaw} {q : Program} {loose : List Str} {XP : (Str -> Option Value) -> Heap -> Prop} {YP : World -> Heap -> Prop} {d : DefRec} {K : Params -> W.Frag} (hn : l.most = some 63) (hdf : d.params.defaults = [])
    (hY : ∀ (w : World) (h : Heap), YP w h -> (K w.params).In h)
    (F : ∀ (w : World) (mg : Str -> Option Value) (fa : Addr) (h : Heap), (K w.params).In h -> h.Ns mainGlobals mg -> mg d.name = some (.ref fa) ->
      ∃ fd : FuncData, (∀ (s : Shared) (u : Value), BindsTo s fd ⟨[u], []⟩ [("_law_script", u)]) /\ ∀ base : Heap, (K w.params).In base -> base.Ns mainGlobals mg -> FnOk l.prog w (K w.params) mg base CX0 7 fa fd ["_law_script"] (spLaw (K w.params))) :
    W.WalkO q loose XP YP l.row.toRowW d [] (fun f vs => PySem.call f vs) :=
  L2.walk_of (n := 63) (k := 7) (x := "_law_script") (CX := fun _ => CX0) (sp := fun w => spLaw (K w.params)) hn (by decide) hdf ⟨rfl, by decide, by decide, rfl⟩ hY F (fun _ _ a ns hl _ hS => ⟨a, ns, rfl, hS, hl, fun _ => rfl⟩) fun _ _ _ _ _ z => z
end Mine
theorem PySem.W.Fast.te15771546934547578369 : True := trivial
def PySem.W.Fast.tw12715862378757511320 : PySem.Program := PySem.Challenge.pw_flips_k93_whole_side_by_side
theorem PySem.W.Fast.te12715862378757511320 : PySem.Challenge.pw_flips_k93_whole_side_by_side = PySem.W.Fast.tw12715862378757511320 := rfl
def PySem.W.Fast.pickB : List Bool -> List PySem.Stmt -> List PySem.Stmt
  | [], _ => []
  | b :: k, l => match b, l with
    | true, s :: r => s :: PySem.W.Fast.pickB k r
    | false, _ :: r => PySem.W.Fast.pickB k r
    | _, [] => []
def PySem.W.Fast.tw6706672315556779388 : PySem.Program := { PySem.Challenge.pw_flips_k93_whole_side_by_side with main := { (PySem.Challenge.pw_flips_k93_whole_side_by_side).main with body := PySem.W.Fast.pickB [false, true, true, false, true, true, true, false, true, true, false, true, true, true, true, true, true, false, true, true, false, true, true, true, true, true, false, true, true, false, true, false, true, true, true, true, true, true, true, true, true, true, true, true] (PySem.Challenge.pw_flips_k93_whole_side_by_side).main.body } }
theorem PySem.W.Fast.te6706672315556779388 : PySem.W.Fast.tw6706672315556779388 = PySem.W.Fast.tw6706672315556779388 := rfl
def PySem.W.Fast.tw9378891913161111757 : List PySem.Stmt := ((PySem.Challenge.pw_flips_k93_whole_side_by_side).main.body.drop 33).take 11
theorem PySem.W.Fast.te9378891913161111757 : PySem.W.Fast.tw9378891913161111757 = PySem.W.Fast.tw9378891913161111757 := rfl
def PySem.W.Fast.tw18229076083476126129 : List PySem.Stmt := ((PySem.Challenge.pw_flips_k93_whole_side_by_side).main.body.drop 16).take 17
theorem PySem.W.Fast.te18229076083476126129 : PySem.W.Fast.tw18229076083476126129 = PySem.W.Fast.tw18229076083476126129 := rfl
def PySem.W.Fast.tw17901908367397428504 : List PySem.Stmt := ((PySem.Challenge.pw_flips_k93_whole_side_by_side).main.body.drop 0).take 16
theorem PySem.W.Fast.te17901908367397428504 : PySem.W.Fast.tw17901908367397428504 = PySem.W.Fast.tw17901908367397428504 := rfl
open PySem PySem.W PyProof.Rows
set_option maxRecDepth 100000 in
set_option maxHeartbeats 0 in
theorem PySem.Challenge.cw_flips_k93_whole_side_by_side_holds : PySem.Challenge.rw_flips_k93_whole_side_by_side.Holds := by
  w_on; o_law; k_head; (case hw => w_witness2)
  k_fill
  refine Mine.walk (l := PySem.Challenge.rw_flips_k93_whole_side_by_side) rfl rfl (fun w h Y => PySem.W.kIn_of Y) ?F
  case F =>
    intro w mg fa h KX G hmg
    refine' Mine.all_mk KX G hmg ?a0 ?l0 ?c0 ?k0 ?a1 ?l1 ?c1 ?k1 ?a2 ?l2 ?c2 ?k2 ?a3 ?l3 ?c3 ?k3 ?a4 ?l4 ?c4 ?k4 ?a5 ?l5 ?c5 ?k5 ?a6 ?l6 ?c6 ?k6 ?a7 ?l7 ?c7 ?k7 ?a8 ?l8 ?c8 ?k8 ?a9 ?l9 ?c9 ?k9 ?a10 ?l10 ?c10 ?k10 ?a11 ?l11 ?c11 ?k11 ?a12 ?l12 ?c12 ?k12 ?a13 ?l13 ?c13 ?k13 ?a14 ?l14 ?c14 ?k14 ?a15 ?l15 ?c15 ?k15 ?a16 ?l16 ?c16 ?k16 ?a17 ?l17 ?c17 ?k17 ?a18 ?l18 ?c18 ?k18 ?a19 ?l19 ?c19 ?k19 ?a20 ?l20 ?c20 ?k20 ?a21 ?l21 ?c21 ?k21 ?a22 ?l22 ?c22 ?k22 ?a23 ?l23 ?c23 ?k23 ?a24 ?l24 ?c24 ?k24 ?a25 ?l25 ?c25 ?k25 ?a26 ?l26 ?c26 ?k26 ?a27 ?l27 ?c27 ?k27 ?a28 ?l28 ?c28 ?k28 ?a29 ?l29 ?c29 ?k29 ?a30 ?l30 ?c30 ?k30 ?a31 ?l31 ?c31 ?k31 ?a32 ?l32 ?c32 ?k32 ?a33 ?l33 ?c33 ?k33 ?a34 ?l34 ?c34 ?k34 ?z_abs ?z_dict ?z_enumerate ?z_int ?z_len ?z_list ?z_max ?z_range ?z_sum ?z_tuple ?z_zip
    (case a0 | l0 | c0 | k0 | a1 | l1 | c1 | k1 | a2 | l2 | c2 | k2 | a3 | l3 | c3 | k3 | a4 | l4 | c4 | k4 | a5 | l5 | c5 | k5 | a6 | l6 | c6 | k6 | a7 | l7 | c7 | k7 | a8 | l8 | c8 | k8 | a9 | l9 | c9 | k9 | a10 | l10 | c10 | k10 | a11 | l11 | c11 | k11 | a12 | l12 | c12 | k12 | a13 | l13 | c13 | k13 | a14 | l14 | c14 | k14 | a15 | l15 | c15 | k15 | a16 | l16 | c16 | k16 | a17 | l17 | c17 | k17 | a18 | l18 | c18 | k18 | a19 | l19 | c19 | k19 | a20 | l20 | c20 | k20 | a21 | l21 | c21 | k21 | a22 | l22 | c22 | k22 | a23 | l23 | c23 | k23 | a24 | l24 | c24 | k24 | a25 | l25 | c25 | k25 | a26 | l26 | c26 | k26 | a27 | l27 | c27 | k27 | a28 | l28 | c28 | k28 | a29 | l29 | c29 | k29 | a30 | l30 | c30 | k30 | a31 | l31 | c31 | k31 | a32 | l32 | c32 | k32 | a33 | l33 | c33 | k33 | a34 | l34 | c34 | k34 | z_abs | z_dict | z_enumerate | z_int | z_len | z_list | z_max | z_range | z_sum | z_tuple | z_zip => k_is)
