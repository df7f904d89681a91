import PyProof.Rows.All
import Wide.All
import OpenK.AllK
import Wide.FinOn
import Lean
import PyProof.EqAt
import PyProof.EqKinds
import PyProof.TupleCall
import PyProof.NeKinds
import PyProof.ReprRoads
import PyProof.ReprBulk
import PyProof.Draws
import PyProof.EnumMake
import KE.BitLaws
import PyProof.ListIndex
import PyProof.AttrMissHeap
import PyProof.DictUpdate
import KE.KDictOf
import PyProof.FactsAll.enumerate_1
import PyProof.FactsAll.tuple_2
import PyProof.ListMulRoad
import PyProof.ListRange
import PyProof.FactsAll.list_3
import PyProof.Rows.SortWalk
import PyProof.Rows.MinMaxN
import KE.KEqDict
import PySem.Challenge.RW_flips_k90_whole_what_is_let_by_is_neares
set_option Elab.async false
set_option linter.all false
set_option maxRecDepth 100000
set_option maxHeartbeats 4000000
-- CHANGE: your row's module here, as the last of these rows
namespace L2
open PySem PySem.Spec PyProof.Rows
abbrev Key := Sum Int Str
def keyIs : Key -> Value -> Bool
  | .inl k, v => Value.isInt k v
  | .inr x, v => Value.isStrOf x v
def keyH (w : World) : Key -> Int
  | .inl k => hashInt k
  | .inr x => hashStr w x
theorem keyIs_shape : ∀ {k : Key} {v : Value}, keyIs k v = true -> (∃ i t, k = Sum.inl i /\ v = Value.int i t) \/ (∃ x t, k = Sum.inr x /\ v = Value.str x t)
  | .inl i, v, h => by
    obtain ⟨t, e⟩ := Value.isInt_shape (k := i) (v := v) h
    exact .inl ⟨i, t, rfl, e⟩
  | .inr x, v, h => by
    obtain ⟨t, e⟩ := Value.isStrOf_shape (x := x) (v := v) h
    exact .inr ⟨x, t, rfl, e⟩
theorem key_ll (a b : Int) : decide ((Sum.inl a : Key) = Sum.inl b) = (a == b) := by
  by_cases e : a = b
  . subst e; simp
  . have h : ¬ (Sum.inl a : Key) = Sum.inl b := fun q => e (Sum.inl.inj q)
    rw [decide_eq_false h]
    exact (beq_eq_false_iff_ne.mpr e).symm
theorem key_rr (a b : Str) : decide ((Sum.inr a : Key) = Sum.inr b) = decide (a = b) := by
  by_cases e : a = b
  . subst e; simp
  . have h : ¬ (Sum.inr a : Key) = Sum.inr b := fun q => e (Sum.inr.inj q)
    rw [decide_eq_false h, decide_eq_false e]
theorem key_lr (a : Int) (b : Str) : decide ((Sum.inl a : Key) = Sum.inr b) = false := decide_eq_false (fun q => nomatch q)
theorem key_rl (a : Str) (b : Int) : decide ((Sum.inr a : Key) = Sum.inl b) = false := decide_eq_false (fun q => nomatch q)
def mixKind (prog : Program) (w : World) : PySem.KeyKind prog w Key where
  is := keyIs
  hash := keyH w
  inj := fun v a b ha hb => by
    rcases keyIs_shape ha with ⟨i, t, rfl, rfl⟩ | ⟨x, t, rfl, rfl⟩
    . rcases keyIs_shape hb with ⟨j, u, rfl, e⟩ | ⟨y, u, rfl, e⟩
      . injection e with e1 _; rw [e1]
      . exact nomatch e
    . rcases keyIs_shape hb with ⟨j, u, rfl, e⟩ | ⟨y, u, rfl, e⟩
      . exact nomatch e
      . injection e with e1 _; rw [e1]
  byValue := fun k v h => by
    rcases keyIs_shape h with ⟨i, t, rfl, rfl⟩ | ⟨x, t, rfl, rfl⟩ <;> rfl
  pyHash := fun hv h => by
    rcases keyIs_shape hv with ⟨i, t, rfl, rfl⟩ | ⟨x, t, rfl, rfl⟩
    . exact wpAny_pyHash_int h
    . exact wpAny_pyHash_str h
  eqBool := fun hu hv h => by
    rcases keyIs_shape hu with ⟨i, t, rfl, rfl⟩ | ⟨x, t, rfl, rfl⟩
    . rcases keyIs_shape hv with ⟨j, u, rfl, rfl⟩ | ⟨y, u, rfl, rfl⟩
      . rw [key_ll] at h; exact wpAny_eqBool_int h
      . rw [key_lr] at h; exact SeqAt.EqAt.int_str i t y u _ _ _ _ h
    . rcases keyIs_shape hv with ⟨j, u, rfl, rfl⟩ | ⟨y, u, rfl, rfl⟩
      . rw [key_rl] at h; exact SeqAt.EqAt.str_int x t j u _ _ _ _ h
      . rw [key_rr] at h; exact wpAny_eqBool_str h
  «strs» := fun k x t v h => by
    rcases keyIs_shape h with ⟨i, u, rfl, e⟩ | ⟨y, u, rfl, e⟩
    . exact nomatch e
    . injection e with e1 _
      subst e1
      cases v <;> rfl
inductive V where
  | non | bl (b : Bool) | int (i : Int) | str (x : Str) | byt (b : Array UInt8) | flt (b : UInt64) | ref (a : Addr) | ty (n : String)
  deriving DecidableEq
def RelV : V -> Value -> Prop
  | .non, u => u = Value.none
  | .bl b, u => u = Value.bool b
  | .int i, u => ∃ t, u = Value.int i t
  | .str x, u => ∃ t, u = Value.str x t
  | .byt b, u => ∃ t, u = Value.bytes b t
  | .flt b, u => ∃ t, u = Value.float b t
  | .ref a, u => u = Value.ref a
  | .ty n, u => u = Value.type n
abbrev Vals : List V -> List Value -> Prop := Paired RelV
theorem Vals.length {xs : List V} {us : List Value} (r : Vals xs us) : xs.length = us.length := Paired.length r
theorem Vals.get : ∀ {xs : List V} {us : List Value} {i : Nat} {x : V}, Vals xs us -> xs[i]? = some x -> ∃ u, us[i]? = some u /\ RelV x u
  | _, _, _, _, .nil, e => by simp at e
  | _, _, 0, _, .cons r _, e => by simp at e; subst e; exact ⟨_, rfl, r⟩
  | _, _, i + 1, x, .cons _ t, e => by
    obtain ⟨u, h1, h2⟩ := Vals.get (i := i) (x := x) t (by simpa using e)
    exact ⟨u, by simpa using h1, h2⟩
theorem Vals.set {x : V} {u : Value} (r : RelV x u) : ∀ {xs : List V} {us : List Value} (i : Nat), Vals xs us -> Vals (xs.set i x) (us.set i u)
  | _, _, _, .nil => .nil
  | _, _, 0, .cons _ t => .cons r t
  | _, _, i + 1, .cons q t => .cons q (Vals.set r i t)
theorem Vals.append : ∀ {xs ys : List V} {us ws : List Value}, Vals xs us -> Vals ys ws -> Vals (xs ++ ys) (us ++ ws)
  | _, _, _, _, .nil, s => s
  | _, _, _, _, .cons r t, s => .cons r (Vals.append t s)
def RelO : Option V -> Option Value -> Prop
  | some v, some u => RelV v u
  | none, none => True
  | _, _ => False
def KV {κ : Type} : List (κ × V) -> List (κ × Value) -> Prop := Paired fun (p : κ × V) (q : κ × Value) => p.1 = q.1 /\ RelV p.2 q.2
def kV : Key -> V
  | .inl i => .int i
  | .inr x => .str x
inductive HO where
    | lst (xs : List V)
    | tup (xs : List V)
    | dK (kvs : List (Key × V)) | dT (kvs : List (List Key × V))
    | set (S : Int -> Bool) (n : Nat)
    | ins (C dx : Addr) (fs : List (Str × V))
    | own (x : Addr)
    | xd (fs : List (Str × V))
    | met (f x : Addr)
    | rng (lo hi : Int)
    | frz (o : Obj) (u : HO)
    | tbl (ps : Array Value)
    | ext (φ : Heap -> Prop)
abbrev Hp := Addr -> Option HO
def upd (H : Hp) (a : Addr) (o : HO) : Hp := fun b => if b = a then some o else H b
theorem upd_same {H : Hp} {a : Addr} {o : HO} : upd H a o a = some o := by unfold upd; rw [if_pos rfl]
theorem upd_ne {H : Hp} {a b : Addr} {o : HO} (h : b ≠ a) : upd H a o b = H b := by unfold upd; rw [if_neg h]
theorem ne_of {H : Hp} {a b : Addr} {o u : HO} (h : H a = some o) (h' : H b = some u) (d : o ≠ u) : a ≠ b := by
  intro e; subst e; rw [h] at h'; exact d (Option.some.inj h')
theorem ne_of_none {H : Hp} {a b : Addr} {o : HO} (h : H a = some o) (h' : H b = none) : a ≠ b := by
  intro e; subst e; rw [h] at h'; cases h'
def IsTupN (h : Heap) (a : Addr) (items : Array Value) : Prop := ∃ o, h.get? a = some o /\ o.cls = .type "tuple" /\ (∃ n, o.data = .seq items n) /\ o.dict = none
theorem IsTupN.tup {h : Heap} {a : Addr} {items : Array Value} (x : IsTupN h a items) : PyProof.Rows.IsTup h a items := by
  obtain ⟨o, e, c, d, _⟩ := x
  exact ⟨o, e, c, d⟩
theorem IsTupN.new (h : Heap) (items : Array Value) : IsTupN (h.push { cls := .type "tuple", data := .seq items }) h.objs.size items := ⟨_, Heap.get?_push_size _ rfl, rfl, ⟨_, rfl⟩, rfl⟩
section
variable (P : Program) (w : World)
def ObjOk (H : Hp) (h : Heap) (a : Addr) : HO -> Prop
  | .lst xs => xs.length <= sizeLine /\ ∃ (its : List Value) (n : Nat), Vals xs its /\ h.get? a = some { cls := .type "list", data := .seq its.toArray n }
  | .tup xs => xs.length <= sizeLine /\ ∃ its : List Value, Vals xs its /\ IsTupN h a its.toArray
  | .dK kvs => kvs.length <= sizeLine /\ (a == sysModules) = false /\ ∃ vs, KV kvs vs /\ h.DictOf (mixKind P w) a vs
  | .dT kvs => kvs.length <= sizeLine /\ (a == sysModules) = false /\ ∃ xs : List (List Key × Addr × Value),
      Paired (fun (p : List Key × V) (q : List Key × Addr × Value) => p.1 = q.1 /\ H q.2.1 = some (.tup (p.1.map kV)) /\ RelV p.2 q.2.2) kvs xs /\
      ∃ o es ep, h.get? a = some o /\ o.ExactDict /\ o.data = .dict es ep /\ es.toList = xs.map (entryOfKey (tupleKind (mixKind P w))) /\ (xs.map (·.1)).Nodup
  | .set S n => h.SetOf (intKind P w) a S n
  | .ins C dx fs => H dx = some (.own a) /\ fs.length <= 1000 /\ dx ≠ a /\ h.get? a = some (PySem.W.instObj C dx) /\
      ∃ mA, h.Ns1 dx mA /\ (∀ f, RelO (fs.lookup f) (mA f)) /\ PySem.Within mA (fs.map (·.1))
  | .own _ => ∃ o, h.get? a = some o
  | .xd fs => ∃ mA, h.Ns1 a mA /\ ∀ f, RelO (fs.lookup f) (mA f)
  | .rng lo hi => ∃ t u v, h.get? a = some { cls := .type "range", data := .fields #[.int lo t, .int hi u, .int 1 v] }
  | .frz o u => h.get? a = some o /\ ObjOk H h a u
  | .tbl ps => h.get? a = some { cls := .none, data := .fields ps }
  | .met f x => h.get? a = some (PySem.W.methodObj (.ref f) (.ref x))
  | .ext φ => φ h /\ (∃ o, h.get? a = some o) /\ ∀ h1 h2 : Heap, φ h1 -> (∀ o, h1.get? a = some o -> h2.get? a = some o) -> φ h2
def HOk (H : Hp) (h : Heap) : Prop := ∀ a o, H a = some o -> ObjOk P w H h a o
end
section
variable {P : Program} {w : World} {H H' : Hp} {h h' : Heap} {a : Addr} {o : HO}
theorem ObjOk.lt (x : ObjOk P w H h a o) : a < h.objs.size := by
  cases o with
  | lst xs => obtain ⟨_, _, _, _, e⟩ := x; exact Heap.lt_size e
  | tup xs => obtain ⟨_, _, _, p⟩ := x; exact p.tup.lt
  | dK kvs => obtain ⟨_, _, _, _, o, _, _, e, _⟩ := x; exact Heap.lt_size e
  | dT kvs => obtain ⟨_, _, _, _, o, _, _, e, _⟩ := x; exact Heap.lt_size e
  | set S n => obtain ⟨o, _, _, _, e, _⟩ := x; exact Heap.lt_size e
  | ins C dx fs => obtain ⟨_, _, _, e, _⟩ := x; exact Heap.lt_size e
  | own y => obtain ⟨_, e⟩ := x; exact Heap.lt_size e
  | xd fs => obtain ⟨_, ⟨_, _, _, e, _⟩, _⟩ := x; exact Heap.lt_size e
  | rng lo hi => obtain ⟨_, _, _, e⟩ := x; exact Heap.lt_size e
  | frz ob u => obtain ⟨e, _⟩ := x; exact Heap.lt_size e
  | tbl ps => exact Heap.lt_size (show h.get? a = some _ from x)
  | met f y => exact Heap.lt_size (show h.get? a = some _ from x)
  | ext φ => obtain ⟨_, ⟨_, e⟩, _⟩ := x; exact Heap.lt_size e
theorem Paired.mapP {α β : Type} {F G : α -> β -> Prop} : ∀ {l₁ : List α} {l₂ : List β}, Paired F l₁ l₂ -> (∀ a b, F a b -> G a b) -> Paired G l₁ l₂
  | _, _, .nil, _ => .nil
  | _, _, .cons r t, f => .cons (f _ _ r) (Paired.mapP t f)
theorem ObjOk.stay (x : ObjOk P w H h a o) (k : ∀ b u, (b = a \/ H b = some (.own a)) -> h.get? b = some u -> h'.get? b = some u)
    (ho : ∀ b, H b = some (.own a) -> H' b = some (.own a)) (ht : ∀ b xs, H b = some (.tup xs) -> H' b = some (.tup xs)) : ObjOk P w H' h' a o := by
  induction o with
  | lst xs => obtain ⟨z, its, n, r, e⟩ := x; exact ⟨z, its, n, r, k _ _ (.inl rfl) e⟩
  | tup xs => obtain ⟨z, its, r, ob, e, c⟩ := x; exact ⟨z, its, r, ob, k _ _ (.inl rfl) e, c⟩
  | dK kvs => obtain ⟨z, y, vs, r, ob, es, ep, e, c⟩ := x; exact ⟨z, y, vs, r, ob, es, ep, k _ _ (.inl rfl) e, c⟩
  | dT kvs =>
    obtain ⟨z, y, xs, r, ob, es, ep, e, c⟩ := x
    exact ⟨z, y, xs, Paired.mapP r fun p q z => ⟨z.1, ht _ _ z.2.1, z.2.2⟩, ob, es, ep, k _ _ (.inl rfl) e, c⟩
  | set S n => obtain ⟨ob, es, ep, t, e, c⟩ := x; exact ⟨ob, es, ep, t, k _ _ (.inl rfl) e, c⟩
  | ins C dx fs =>
    obtain ⟨d, z, ne, e, mA, ⟨od, es, ep, e2, c⟩, r⟩ := x
    exact ⟨ho _ d, z, ne, k _ _ (.inl rfl) e, mA, ⟨od, es, ep, k _ _ (.inr d) e2, c⟩, r⟩
  | own y => obtain ⟨ob, e⟩ := x; exact ⟨ob, k _ _ (.inl rfl) e⟩
  | xd fs => obtain ⟨mA, ⟨od, es, ep, e, c⟩, r⟩ := x; exact ⟨mA, ⟨od, es, ep, k _ _ (.inl rfl) e, c⟩, r⟩
  | rng lo hi => obtain ⟨t, u, v, e⟩ := x; exact ⟨t, u, v, k _ _ (.inl rfl) e⟩
  | frz ob u ih => obtain ⟨e, q⟩ := x; exact ⟨k _ _ (.inl rfl) e, ih q⟩
  | tbl ps =>
    have e : h.get? a = some { cls := .none, data := .fields ps } := x
    show h'.get? a = some { cls := .none, data := .fields ps }
    exact k a _ (.inl rfl) e
  | met f y =>
    have e : h.get? a = some (PySem.W.methodObj (.ref f) (.ref y)) := x
    show h'.get? a = some (PySem.W.methodObj (.ref f) (.ref y))
    exact k a _ (.inl rfl) e
  | ext φ => obtain ⟨p, ⟨o, e⟩, st⟩ := x; exact ⟨st _ _ p fun o q => k _ _ (.inl rfl) q, ⟨o, k _ _ (.inl rfl) e⟩, st⟩
theorem HOk.lt (x : HOk P w H h) (e : H a = some o) : a < h.objs.size := (x a o e).lt
theorem HOk.fresh (x : HOk P w H h) (e : h.objs.size <= a) : H a = none := by
  cases q : H a with
  | none => rfl
  | some u => exact absurd (Nat.lt_of_lt_of_le (x.lt q) e) (Nat.lt_irrefl _)
theorem HOk.kept (x : HOk P w H h) (k : ∀ b u, h.get? b = some u -> h'.get? b = some u) : HOk P w H h' := fun a o e =>
  (x a o e).stay (fun b u _ q => k b u q) (fun _ q => q) fun _ _ q => q
theorem HOk.laid (x : HOk P w H h) (k : ∀ b u, h.get? b = some u -> h'.get? b = some u) (hp : h.objs.size <= a) (new : ObjOk P w (upd H a o) h' a o) : HOk P w (upd H a o) h' := fun b u e => by
  have hn := x.fresh hp
  by_cases hb : b = a
  . subst hb; rw [upd_same] at e; cases e; exact new
  . rw [upd_ne hb] at e
    exact (x b u e).stay (fun c v _ q => k c v q) (fun c q => by rw [upd_ne (ne_of_none q hn)]; exact q) fun c xs q => by rw [upd_ne (ne_of_none q hn)]; exact q
end
def Rd (H : Hp) (a : Addr) (u : HO) : Prop := H a = some u \/ ∃ o, H a = some (.frz o u)
theorem Rd.ok {P : Program} {w : World} {H : Hp} {h : Heap} {a : Addr} {u : HO} (r : Rd H a u) (x : HOk P w H h) : ObjOk P w H h a u := by
  rcases r with r | ⟨o, r⟩
  . exact x a u r
  . obtain ⟨_, q⟩ := x a _ r
    exact q
def Mut : Option HO -> Prop
  | some (.lst _) => True
  | some (.dK _) => True
  | some (.dT _) => True
  | some (.set _ _) => True
  | some (.ins _ _ _) => True
  | some (.ext _) => True
  | _ => False
section
variable {P : Program} {w : World} {H : Hp} {h h' : Heap} {x e : Addr} {o' : HO}
theorem HOk.write (ok : HOk P w H h) (mu : Mut (H x)) (he : e = x \/ H e = some (.own x)) (k : ∀ b u, b ≠ e -> h.get? b = some u -> h'.get? b = some u) (heo : ∃ u, h'.get? e = some u)
    (new : ObjOk P w (upd H x o') h' x o') : HOk P w (upd H x o') h' := fun b u q => by
  have nown : ∀ c y, H c = some (.own y) -> c ≠ x := fun c y r z => by subst z; rw [r] at mu; exact mu
  have ntup : ∀ c xs, H c = some (.tup xs) -> c ≠ x := fun c xs r z => by subst z; rw [r] at mu; exact mu
  by_cases hb : b = x
  . subst hb; rw [upd_same] at q; cases q; exact new
  . rw [upd_ne hb] at q
    by_cases hbe : b = e
    . have q' : H b = some (.own x) := by
        rcases he with z | z
        . exact absurd (hbe.trans z) hb
        . rw [hbe]; exact z
      rw [q] at q'; cases q'
      obtain ⟨v, hv⟩ := heo
      exact ⟨v, by rw [hbe]; exact hv⟩
    . refine (ok b u q).stay (fun c v hc r => k c v ?_ r) (fun c r => by rw [upd_ne (nown c b r)]; exact r) fun c xs r => by rw [upd_ne (ntup c xs r)]; exact r
      rcases hc with rfl | hc
      . exact hbe
      . rintro rfl
        rcases he with z | z
        . exact nown c b hc z
        . rw [hc] at z; cases z; exact hb rfl
end
structure Un (fs ex : List Addr) (H H' : Hp) (h h' : Heap) : Prop where
  keep : ∀ b o, h.get? b = some o -> H b = none -> b ∉ fs -> b ∉ ex -> h'.get? b = some o
  slot : ∀ b o, h.get? b = some o -> H b = none -> b ∈ fs -> b ∉ ex -> ∃ sl, h'.get? b = some { o with slots := sl }
  free : ∀ b o, h.get? b = some o -> H b = none -> b ∉ ex -> H' b = none
  there : ∀ b o, h.get? b = some o -> b ∉ ex -> ∃ o', h'.get? b = some o'
  tups : ∀ b xs, H b = some (.tup xs) -> H' b = some (.tup xs)
  frzs : ∀ b o u, H b = some (.frz o u) -> H' b = some (.frz o u)
  tbls : ∀ b ps, H b = some (.tbl ps) -> ∃ more, H' b = some (.tbl (ps ++ more))
section
variable {fs fs' ex ex' : List Addr} {H H1 H2 : Hp} {h h1 h2 h' : Heap} {a x e : Addr} {o : HO}
theorem Un.any (u : Un fs ex H H1 h h1) {b : Addr} {ob : Obj} (q : h.get? b = some ob) (n : H b = none) (hx : b ∉ ex) : ∃ sl, h1.get? b = some { ob with slots := sl } := by
  by_cases hb : b ∈ fs
  . exact u.slot b ob q n hb hx
  . exact ⟨ob.slots, u.keep b ob q n hb hx⟩
theorem Un.kept (k : ∀ b u, h.get? b = some u -> h'.get? b = some u) : Un fs ex H H h h' :=
  ⟨fun b ob q _ _ _ => k b ob q, fun b ob q _ _ _ => ⟨ob.slots, k b ob q⟩, fun _ _ _ n _ => n, fun b ob q _ => ⟨ob, k b ob q⟩, fun _ _ q => q, fun _ _ _ q => q, fun _ ps q => ⟨#[], by rw [q]; simp⟩⟩
theorem Un.refl : Un fs ex H H h h := Un.kept fun _ _ q => q
theorem Un.laid (k : ∀ b u, h.get? b = some u -> h'.get? b = some u) (hp : h.objs.size <= a) (hn : H a = none) : Un fs ex H (upd H a o) h h' where
  keep := fun b u q _ _ _ => k b u q
  slot := fun b u q _ _ _ => ⟨u.slots, k b u q⟩
  free := fun b u q n _ => by rw [upd_ne (Nat.ne_of_lt (Nat.lt_of_lt_of_le (Heap.lt_size q) hp))]; exact n
  there := fun b u q _ => ⟨u, k b u q⟩
  tups := fun b xs q => by rw [upd_ne (ne_of_none q hn)]; exact q
  frzs := fun b u xs q => by rw [upd_ne (ne_of_none q hn)]; exact q
  tbls := fun b ps q => ⟨#[], by rw [upd_ne (ne_of_none q hn), q]; simp⟩
theorem Un.write (mu : Mut (H x)) (he : e = x \/ H e = some (.own x)) (k : ∀ b u, b ≠ e -> h.get? b = some u -> h'.get? b = some u) (heo : ∃ u, h'.get? e = some u) : Un fs ex H (upd H x o) h h' := by
  have hx : ∀ b, H b = none -> b ≠ x := fun b n z => by subst z; rw [n] at mu; exact mu
  have hb : ∀ b, H b = none -> b ≠ e := fun b n z => by
    subst z
    rcases he with r | r
    . exact hx b n r
    . rw [n] at r; cases r
  have hm : ∀ b u, H b = some u -> ¬ Mut (some u) -> b ≠ x := fun b u q nm z => by subst z; rw [q] at mu; exact nm mu
  refine ⟨fun b u q n _ _ => k b u (hb b n) q, fun b u q n _ _ => ⟨u.slots, k b u (hb b n) q⟩, fun b u q n _ => by rw [upd_ne (hx b n)]; exact n, fun b u q _ => ?_,
    fun b xs q => by rw [upd_ne (hm b _ q fun z => z)]; exact q, fun b u xs q => by rw [upd_ne (hm b _ q fun z => z)]; exact q, fun b ps q => ⟨#[], by rw [upd_ne (hm b _ q fun z => z), q]; simp⟩⟩
  by_cases hbe : b = e
  . subst hbe; exact heo
  . exact ⟨u, k b u hbe q⟩
end
def trk (h : Heap) (H : Hp) : List Addr := (List.range h.objs.size).filter fun a => (H a).isSome
def hidT (h : Heap) (H : Hp) : Heap := PySem.W.hideAll h (trk h H)
theorem hidT_size (h : Heap) (H : Hp) : (hidT h H).objs.size = h.objs.size := PySem.W.hideAll_size _ _
theorem hidT_get {h : Heap} {H : Hp} {b : Addr} {o : Obj} (e : h.get? b = some o) (n : H b = none) : (hidT h H).get? b = some o :=
  PySem.W.hideAll_get _ e fun hm => by
    have q : (H b).isSome = true := (List.mem_filter.mp hm).2
    rw [n] at q; simp at q
theorem of_hidT {h : Heap} {H : Hp} {b : Addr} {o : Obj} (e : (hidT h H).get? b = some o) : h.get? b = some o /\ H b = none := by
  have e' : h.get? b = some o := PySem.W.of_hideAll (trk h H) e
  refine ⟨e', ?_⟩
  cases q : H b with
  | none => rfl
  | some x =>
    have hm : b ∈ trk h H := List.mem_filter.mpr ⟨List.mem_range.mpr (Heap.lt_size e'), by simp [q]⟩
    have z : (hidT h H).get? b = none := PySem.W.hideAll_none (trk h H) hm
    rw [z] at e; cases e
def allNews (g h : Heap) (L : Addr) : List (Addr × Obj) := (List.range h.objs.size).filterMap fun a => if a = L \/ (g.get? a).isSome = true then none else (h.get? a).map fun o => (a, o)
theorem mem_allNews {g h : Heap} {L a : Addr} {o : Obj} (h1 : a ≠ L) (h2 : g.get? a = none) (h3 : h.get? a = some o) : (a, o) ∈ allNews g h L :=
  List.mem_filterMap.mpr ⟨a, List.mem_range.mpr (Heap.lt_size h3), by simp [h1, h2, h3]⟩
theorem of_mem_allNews {g h : Heap} {L : Addr} {p : Addr × Obj} (hp : p ∈ allNews g h L) : p.1 ≠ L /\ g.get? p.1 = none /\ h.get? p.1 = some p.2 := by
  obtain ⟨b, _, e⟩ := List.mem_filterMap.mp hp
  split at e
  . cases e
  . rename_i hn
    cases q : h.get? b with
    | none => rw [q] at e; simp at e
    | some u =>
      rw [q] at e
      simp only [Option.map_some, Option.some.injEq] at e
      subst e
      refine ⟨fun z => hn (.inl z), ?_, q⟩
      show g.get? b = none
      cases r : g.get? b with
      | none => rfl
      | some v => exact (hn (.inr (by simp [r]))).elim
def rest (g h : Heap) (L d : Addr) : List (Addr × Obj) := (allNews g h L).filter fun p => decide (p.1 ≠ d)
theorem news_all {g h : Heap} {L : Addr} : News g L h (allNews g h L) := fun p hp => let ⟨a, b, c⟩ := of_mem_allNews hp; ⟨c, a, b⟩
structure Mod (K : PySem.W.Frag) (mg : Str -> Option Value) (base : Heap) : Prop where
  kin : K.In base
  glob : base.Ns mainGlobals mg
  blt : ∃ mb, base.Ns builtinsNs mb /\ ∀ x : Str, x ≠ "__name__" -> mb x = bootBuiltins x
  nolimit : base.NoLimit
structure Cx where
  prog : Program
  w : World
  K : PySem.W.Frag
  mg : Str -> Option Value
  base : Heap
  A : Around
  N : List Str
  s₀ : Shared
  H₀ : Hp
  env : Env
  outer : List Env
  stack : List Env
  ex : List Addr
  fn : Str -> Bool
  calm : Bool
  pn : List (Addr × Obj)
  xe : Value -> Shared -> Prop
def frs (l : List Env) : List Addr := l.filterMap (·.frame)
abbrev Cx.fs (X : Cx) : List Addr := frs X.outer
def Vis (sc : Scope) (x : Str) : Prop := sc.names.lookup x = some .local \/ sc.names.lookup x = some .cell \/ sc.names.lookup x = some .free
def Loc (sc : Scope) (x : Str) : Prop := sc.names.lookup x = some .local \/ sc.names.lookup x = some .cell
def Look (env : Env) (h : Heap) (m : Str -> Option Value) (x : Str) (u : Value) : Prop :=
  (env.kindOf x = some .local /\ m x = some u) \/ ((env.kindOf x = some .cell \/ env.kindOf x = some .free) /\ ∃ c, env.cells.lookup x = some c /\ h.IsCell c (some u))
structure Cx.Ok (X : Cx) : Prop where
  mod : Mod X.K X.mg X.base
  kind : X.env.scope.kind = .function
  glob : X.env.globals = mainGlobals
  blt : X.env.builtins = builtinsNs
  above : X.s₀.heap.objs.size <= X.env.locals
  inj : ∀ x y c, X.env.cells.lookup x = some c -> X.env.cells.lookup y = some c -> x = y
  has : ∀ x, (X.env.kindOf x = some .cell \/ X.env.kindOf x = some .free) -> ∃ c, X.env.cells.lookup x = some c
  cab : ∀ x c, X.fn x = true -> X.env.cells.lookup x = some c -> X.s₀.heap.objs.size <= c
  hd : X.calm = true -> X.A.handled = none
  frames : X.A.frames = some X.stack
  stk : X.stack = X.outer \/ (X.stack = X.env :: X.outer /\ X.env.frame = some X.env.locals)
  exf : ∀ b ∈ X.ex, b ≠ X.env.locals /\ ∀ x c, X.env.cells.lookup x = some c -> c ≠ b
  bs : ∀ b o, X.base.get? b = some o -> X.s₀.heap.get? b = some o /\ X.H₀ b = none
  bsz : X.base.objs.size <= X.s₀.heap.objs.size
  noex : ∀ b o, X.base.get? b = some o -> b ∉ X.ex
  exfs : ∀ b ∈ X.ex, b ∉ X.fs
  funs : X.s₀.heap.FunFrames X.base X.outer
  frf : ∀ b ∈ X.fs, X.H₀ b = none
structure Inv (X : Cx) (pins : List (Addr × Obj)) (σ : List (Option V)) (H : Hp) (s : Shared) : Prop where
  ok : X.Ok
  os : s.os = X.s₀.os
  bare : AllBare s.gens
  base : Un X.fs X.ex X.H₀ H X.s₀.heap s.heap
  loc : ∃ m, s.heap.Ns X.env.locals m /\ ∀ (i : Nat) (x : Str) (v : V), X.N[i]? = some x -> σ[i]? = some (some v) -> Vis X.env.scope x -> ∃ u, RelV v u /\ Look X.env s.heap m x u
  cell : ∀ x c, X.env.cells.lookup x = some c -> ∃ v, s.heap.IsCell c v
  free : H X.env.locals = none
  freeC : ∀ x c, X.env.cells.lookup x = some c -> H c = none
  pin : ∀ p ∈ X.pn ++ pins, s.heap.get? p.1 = some p.2 /\ H p.1 = none /\ p.1 ≠ X.env.locals /\ p.1 ∉ X.fs /\ ∀ v, p.2.data ≠ .cell v
  hok : HOk X.prog X.w H s.heap
  len : σ.length = X.N.length
section
variable {X : Cx} {pins : List (Addr × Obj)} {σ : List (Option V)} {H H' : Hp} {s : Shared} {h' : Heap}
theorem Cx.Ok.nofr (ok : X.Ok) {b : Addr} {o : Obj} (e : X.base.get? b = some o) : b ∉ X.fs := fun hb => by
  have := (ok.funs.mem hb).1
  rw [e] at this; cases this
theorem Inv.bs (I : Inv X pins σ H s) : ∀ b o, X.base.get? b = some o -> s.heap.get? b = some o /\ H b = none := fun b o e =>
  ⟨I.base.keep b o (I.ok.bs b o e).1 (I.ok.bs b o e).2 (I.ok.nofr e) (I.ok.noex b o e), I.base.free b o (I.ok.bs b o e).1 (I.ok.bs b o e).2 (I.ok.noex b o e)⟩
theorem Inv.bk (I : Inv X pins σ H s) : ∀ b o, X.base.get? b = some o -> s.heap.get? b = some o := fun b o e => (I.bs b o e).1
theorem Inv.mod (I : Inv X pins σ H s) : Mod X.K X.mg X.base := I.ok.mod
theorem Inv.kIn (I : Inv X pins σ H s) : X.K.In s.heap := I.ok.mod.kin.keeps I.bk
theorem Inv.fr (I : Inv X pins σ H s) : ∃ m, Fr X.base X.env.locals s.heap m :=
  let ⟨m, hn, _⟩ := I.loc
  ⟨m, hn, I.bk, Nat.le_trans I.ok.bsz I.ok.above⟩
theorem Inv.lt (I : Inv X pins σ H s) : X.env.locals < s.heap.objs.size := let ⟨_, hn, _⟩ := I.loc; hn.lt
theorem Inv.sz (I : Inv X pins σ H s) : X.s₀.heap.objs.size <= s.heap.objs.size := Nat.le_trans I.ok.above (Nat.le_of_lt I.lt)
theorem Inv.nofs (I : Inv X pins σ H s) {a : Addr} (h : s.heap.objs.size <= a) : a ∉ X.fs := fun hb => by
  obtain ⟨_, o, ho, _⟩ := I.ok.funs.mem hb
  exact absurd (Nat.lt_of_lt_of_le (Heap.lt_size ho) (Nat.le_trans I.sz h)) (Nat.lt_irrefl _)
theorem Inv.cne (I : Inv X pins σ H s) : ∀ x c, X.env.cells.lookup x = some c -> c ≠ X.env.locals := fun x c e z => by
  obtain ⟨v, o, ho, hd⟩ := I.cell x c e
  obtain ⟨m, ⟨o', es, ep, ho', hd', _⟩, _⟩ := I.loc
  rw [z, ho'] at ho; cases ho; rw [hd'] at hd; cases hd
theorem Inv.funs (I : Inv X pins σ H s) : s.heap.FunFrames X.base X.outer := by
  have all : ∀ (l : List Env), (∀ b ∈ frs l, b ∈ X.fs) -> X.s₀.heap.FunFrames X.base l -> s.heap.FunFrames X.base l := by
    intro l
    induction l with
    | nil => intro _ _; trivial
    | cons env r ih =>
      intro hs hl
      obtain ⟨hk, ⟨L, o, hf, hn, ho, hd⟩, hr⟩ := hl
      have hL : L ∈ X.fs := hs L (by unfold frs; rw [List.filterMap_cons, hf]; exact List.mem_cons_self)
      obtain ⟨sl, e⟩ := I.base.slot L o ho (I.ok.frf L hL) hL fun z => I.ok.exfs L z hL
      exact ⟨hk, ⟨L, _, hf, hn, e, hd⟩, ih (fun b hb => hs b (by unfold frs; rw [List.filterMap_cons, hf]; exact List.mem_cons_of_mem _ hb)) hr⟩
  exact all X.outer (fun _ hb => hb) I.ok.funs
theorem Inv.stack (I : Inv X pins σ H s) : s.heap.FunFrames X.base X.stack := by
  rcases I.ok.stk with e | ⟨e, hf⟩
  . rw [e]; exact I.funs
  . rw [e]
    obtain ⟨m, hn, _⟩ := I.loc
    refine .cons (by rw [I.ok.kind]; decide) hf hn ?_ I.funs
    exact Heap.get?_none_of_le (Nat.le_trans I.ok.bsz I.ok.above)
theorem Inv.stkSub (I : Inv X pins σ H s) : ∀ b ∈ frs X.stack, b ∈ X.env.locals :: X.fs := fun b hb => by
  rcases I.ok.stk with e | ⟨e, hf⟩
  . rw [e] at hb; exact List.mem_cons_of_mem _ hb
  . rw [e] at hb
    unfold frs at hb
    rw [List.filterMap_cons, hf] at hb
    exact hb
theorem Inv.stkFree (I : Inv X pins σ H s) : ∀ b ∈ frs X.stack, H b = none := fun b hb => by
  rcases List.mem_cons.mp (I.stkSub b hb) with e | hb
  . rw [e]; exact I.free
  . obtain ⟨_, o, ho, _⟩ := I.ok.funs.mem hb
    exact I.base.free b o ho (I.ok.frf b hb) fun z => I.ok.exfs b z hb
theorem Inv.step {g' : Array GenState} {t' : Nat} {d' : Drawn} {ch : List Addr} (I : Inv X pins σ H s)
    (hch : ∀ b ∈ ch, (b ∈ X.ex \/ X.s₀.heap.objs.size <= b) /\ b ≠ X.env.locals /\ (∀ x c, X.env.cells.lookup x = some c -> c ≠ b) /\ ∀ p ∈ X.pn ++ pins, p.1 ≠ b)
    (keep : ∀ b o, b ≠ X.env.locals -> b ∉ X.fs -> b ∉ ch -> s.heap.get? b = some o -> H b = none -> h'.get? b = some o)
    (slot : ∀ b o, b ≠ X.env.locals -> b ∈ X.fs -> b ∉ ch -> s.heap.get? b = some o -> H b = none -> ∃ sl, h'.get? b = some { o with slots := sl }) (free : ∀ b o, b ∉ ch -> s.heap.get? b = some o -> H b = none -> H' b = none)
    (there : ∀ b o, b ∉ ch -> s.heap.get? b = some o -> ∃ o', h'.get? b = some o')
    (tups : ∀ b xs, H b = some (.tup xs) -> H' b = some (.tup xs)) (frzs : ∀ b o u, H b = some (.frz o u) -> H' b = some (.frz o u)) (tbls : ∀ b ps, H b = some (.tbl ps) -> ∃ more, H' b = some (.tbl (ps ++ more)))
    (ns : ∀ m, s.heap.Ns X.env.locals m -> h'.Ns X.env.locals m) (hok : HOk X.prog X.w H' h') (hg : AllBare g') :
    Inv X pins σ H' { s with heap := h', gens := g', drawn := d', toks := t' } := by
  have neL : ∀ b o, X.s₀.heap.get? b = some o -> b ≠ X.env.locals := fun b o e => Nat.ne_of_lt (Nat.lt_of_lt_of_le (Heap.lt_size e) I.ok.above)
  have neC : ∀ b o, X.s₀.heap.get? b = some o -> b ∉ X.ex -> b ∉ ch := fun b o e hx hb => by
    rcases (hch b hb).1 with z | z
    . exact hx z
    . exact absurd (Nat.lt_of_lt_of_le (Heap.lt_size e) z) (Nat.lt_irrefl _)
  have cellK : ∀ x c, X.env.cells.lookup x = some c -> ∀ v, s.heap.IsCell c v -> h'.IsCell c v := fun x c e v ⟨o, ho, hd⟩ => by
    have nch : c ∉ ch := fun z => (hch c z).2.2.1 x c e rfl
    by_cases hc : c ∈ X.fs
    . obtain ⟨sl, q⟩ := slot c o (I.cne x c e) hc nch ho (I.freeC x c e)
      exact ⟨_, q, hd⟩
    . exact ⟨o, keep c o (I.cne x c e) hc nch ho (I.freeC x c e), hd⟩
  refine ⟨I.ok, I.os, hg, ⟨fun b o e n hb hx => ?_, fun b o e n hb hx => ?_, fun b o e n hx => ?_, fun b o e hx => ?_, fun b xs e => tups b xs (I.base.tups b xs e), fun b o xs e => frzs b o xs (I.base.frzs b o xs e), fun b ps e => ?_⟩, ?_, fun x c e => ?_, ?_, fun x c e => ?_, fun p hp => ?_, hok, I.len⟩
  . exact keep b o (neL b o e) hb (neC b o e hx) (I.base.keep b o e n hb hx) (I.base.free b o e n hx)
  . obtain ⟨sl, e1⟩ := I.base.slot b o e n hb hx
    obtain ⟨sl', e2⟩ := slot b _ (neL b o e) hb (neC b o e hx) e1 (I.base.free b o e n hx)
    exact ⟨sl', e2⟩
  . obtain ⟨o', e1⟩ := I.base.there b o e hx
    exact free b o' (neC b o e hx) e1 (I.base.free b o e n hx)
  . obtain ⟨o', e1⟩ := I.base.there b o e hx
    exact there b o' (neC b o e hx) e1
  . obtain ⟨m1, e1⟩ := I.base.tbls b ps e
    obtain ⟨m2, e2⟩ := tbls b _ e1
    exact ⟨m1 ++ m2, by rw [e2, Array.append_assoc]⟩
  . obtain ⟨m, hn, hl⟩ := I.loc
    refine ⟨m, ns m hn, fun i x v e1 e2 e3 => ?_⟩
    obtain ⟨u, r, l⟩ := hl i x v e1 e2 e3
    refine ⟨u, r, ?_⟩
    rcases l with l | ⟨k, c, e, z⟩
    . exact .inl l
    . exact .inr ⟨k, c, e, cellK x c e _ z⟩
  . obtain ⟨v, z⟩ := I.cell x c e
    exact ⟨v, cellK x c e v z⟩
  . obtain ⟨m, ⟨o, _, _, ho, _⟩, _⟩ := I.loc
    exact free _ o (fun z => (hch _ z).2.1 rfl) ho I.free
  . obtain ⟨v, o, ho, hd⟩ := I.cell x c e
    exact free c o (fun z => (hch c z).2.2.1 x c e rfl) ho (I.freeC x c e)
  . obtain ⟨e, n, ne, nf, d⟩ := I.pin p hp
    have nch : p.1 ∉ ch := fun z => (hch p.1 z).2.2.2 p hp rfl
    exact ⟨keep p.1 p.2 ne nf nch e n, free p.1 p.2 nch e n, ne, nf, d⟩
theorem Inv.un {t' : Nat} (I : Inv X pins σ H s) (u : Un X.fs [] H H' s.heap h') (hok : HOk X.prog X.w H' h') : Inv X pins σ H' { s with heap := h', toks := t' } := by
  obtain ⟨m, ⟨o, es, ep, ho, r⟩, _⟩ := id I.loc
  obtain ⟨sl, hL⟩ := u.any ho I.free (by simp)
  exact I.step (g' := s.gens) (d' := s.drawn) (ch := []) (fun _ z => nomatch z) (fun b o _ hb _ e n => u.keep b o e n hb (by simp)) (fun b o _ hb _ e n => u.slot b o e n hb (by simp)) (fun b o _ e n => u.free b o e n (by simp)) (fun b o _ e => u.there b o e (by simp)) u.tups u.frzs u.tbls (fun m' hm => by
    obtain ⟨o', es', ep', ho', r'⟩ := hm
    rw [ho] at ho'; cases ho'
    exact ⟨_, es', ep', hL, r'⟩) hok I.bare
theorem Inv.call {g' : Array GenState} {t' : Nat} {d' : Drawn} {ch : List Addr} (I : Inv X pins σ H s) (u : Un (frs X.stack) ch H H' s.heap h') (hok : HOk X.prog X.w H' h') (hg : AllBare g')
    (hch : ∀ b ∈ ch, (b ∈ X.ex \/ X.s₀.heap.objs.size <= b) /\ b ≠ X.env.locals /\ (∀ x c, X.env.cells.lookup x = some c -> c ≠ b) /\ ∀ p ∈ X.pn ++ pins, p.1 ≠ b) :
    Inv X pins σ H' { s with heap := h', gens := g', drawn := d', toks := t' } := by
  obtain ⟨m, ⟨o, es, ep, ho, r⟩, _⟩ := id I.loc
  obtain ⟨sl, hL⟩ := u.any ho I.free fun z => (hch _ z).2.1 rfl
  exact I.step (ch := ch) hch (fun b o hL hb hc e n => u.keep b o e n (fun z => (List.mem_cons.mp (I.stkSub b z)).elim hL hb) hc) (fun b o _ _ hc e n => u.any e n hc) (fun b o hc e n => u.free b o e n hc) (fun b o hc e => u.there b o e hc) u.tups u.frzs u.tbls (fun m' hm => by
    obtain ⟨o', es', ep', ho', r'⟩ := hm
    rw [ho] at ho'; cases ho'
    exact ⟨_, es', ep', hL, r'⟩) hok hg
theorem Inv.turned {t' : Nat} {it : Addr} (I : Inv X pins σ H s) (k : ∀ b o, b ≠ it -> s.heap.get? b = some o -> h'.get? b = some o) (hn : H it = none) (hL : it ≠ X.env.locals)
    (h1 : it ∈ X.ex \/ X.s₀.heap.objs.size <= it) (h2 : ∀ x c, X.env.cells.lookup x = some c -> c ≠ it) (h3 : ∀ p ∈ X.pn ++ pins, p.1 ≠ it) : Inv X pins σ H { s with heap := h', toks := t' } := by
  have nit : ∀ b u, H b = some u -> b ≠ it := fun b u e z => by rw [z, hn] at e; cases e
  refine I.step (g' := s.gens) (d' := s.drawn) (ch := [it]) (fun b hb => ?_) (fun b o _ _ hc e _ => k b o (fun z => hc (by simp [z])) e) (fun b o _ _ hc e _ => ⟨o.slots, k b o (fun z => hc (by simp [z])) e⟩) (fun _ _ _ _ n => n)
    (fun b o hc e => ⟨o, k b o (fun z => hc (by simp [z])) e⟩) (fun _ _ e => e) (fun _ _ _ e => e) (fun b ps e => ⟨#[], by rw [e]; simp⟩) (fun m hm => ?_) (fun b u e => ?_) I.bare
  . have e : b = it := by simpa using hb
    subst e
    exact ⟨h1, hL, h2, h3⟩
  . obtain ⟨o, es, ep, ho, r⟩ := hm
    exact ⟨o, es, ep, k _ o (Ne.symm hL) ho, r⟩
  . refine (I.hok b u e).stay (fun c v hc q => k c v ?_ q) (fun _ q => q) fun _ _ q => q
    rcases hc with z | z
    . rw [z]; exact nit b u e
    . exact nit c _ z
theorem Inv.tok (I : Inv X pins σ H s) (t : Nat) : Inv X pins σ H { s with toks := t } := I.un (h' := s.heap) (t' := t) Un.refl I.hok
theorem Inv.kept {t' : Nat} (I : Inv X pins σ H s) (k : ∀ b u, s.heap.get? b = some u -> h'.get? b = some u) : Inv X pins σ H { s with heap := h', toks := t' } := I.un (Un.kept k) (I.hok.kept k)
theorem Inv.laid {a : Addr} {o : HO} {t' : Nat} (I : Inv X pins σ H s) (k : ∀ b u, s.heap.get? b = some u -> h'.get? b = some u) (hp : s.heap.objs.size <= a) (new : ObjOk X.prog X.w (upd H a o) h' a o) :
    Inv X pins σ (upd H a o) { s with heap := h', toks := t' } := I.un (Un.laid k hp (I.hok.fresh hp)) (I.hok.laid k hp new)
theorem Inv.write {x e : Addr} {o : HO} {t' : Nat} (I : Inv X pins σ H s) (mu : Mut (H x)) (he : e = x \/ H e = some (.own x)) (k : ∀ b u, b ≠ e -> s.heap.get? b = some u -> h'.get? b = some u) (heo : ∃ u, h'.get? e = some u)
    (new : ObjOk X.prog X.w (upd H x o) h' x o) : Inv X pins σ (upd H x o) { s with heap := h', toks := t' } := I.un (Un.write mu he k heo) (I.hok.write mu he k heo new)
theorem Inv.weak {σ' : List (Option V)} (I : Inv X pins σ H s) (hl : σ'.length = σ.length) (w : ∀ (i : Nat) v, σ'[i]? = some (some v) -> σ[i]? = some (some v)) : Inv X pins σ' H s :=
  ⟨I.ok, I.os, I.bare, I.base, let ⟨m, hn, hl'⟩ := I.loc; ⟨m, hn, fun i x v e1 e2 e3 => hl' i x v e1 (w i v e2) e3⟩, I.cell, I.free, I.freeC, I.pin, I.hok, hl.trans I.len⟩
theorem Inv.pins_of {pins' : List (Addr × Obj)} (I : Inv X pins σ H s) (h : ∀ p ∈ pins', s.heap.get? p.1 = some p.2 /\ H p.1 = none /\ p.1 ≠ X.env.locals /\ p.1 ∉ X.fs /\ ∀ v, p.2.data ≠ .cell v) : Inv X pins' σ H s :=
  ⟨I.ok, I.os, I.bare, I.base, I.loc, I.cell, I.free, I.freeC, fun p hp => (List.mem_append.mp hp).elim (fun z => I.pin p (List.mem_append_left _ z)) (h p), I.hok, I.len⟩
theorem nodup_ix {N : List Str} (hN : N.Nodup) {i j : Nat} {x : Str} (a : N[i]? = some x) (b : N[j]? = some x) : i = j := by
  obtain ⟨h1, e1⟩ := List.getElem?_eq_some_iff.mp a
  obtain ⟨h2, e2⟩ := List.getElem?_eq_some_iff.mp b
  exact (List.getElem_inj hN).mp (e1.trans e2.symm)
theorem store_ok2 {M : Model} {A : Around} {E : Value -> Shared -> Prop} {i : Nat} {x : Str} {v : V} {u : Value} {Q : Unit -> Shared -> Prop} (I : Inv X pins σ H s) (hN : X.N.Nodup) (hi : X.N[i]? = some x) (hx : Loc X.env.scope x) (r : RelV v u)
    (h : ∀ s', Inv X pins (σ.set i (some v)) H s' -> (∃ a, Heap.SameBut a s.heap s'.heap /\ (a = X.env.locals \/ X.env.cells.lookup x = some a)) -> Q () s') (hf : X.fn x = true \/ X.env.scope.names.lookup x = some .local := by first | exact .inl rfl | exact .inr rfl | assumption) : wpAny M A (storeName X.env x u) Q E s := by
  obtain ⟨m, hn, hl⟩ := id I.loc
  have hcls : (X.env.scope.kind == .class || (X.env.scope.kind == .module && X.env.locals != X.env.globals)) = false := by rw [I.ok.kind]; rfl
  have hiσ : i < σ.length := by rw [I.len]; exact (List.getElem?_eq_some_iff.mp hi).1
  have cne := I.cne
  have tracked : ∀ {a : Addr} {h' : Heap}, (∃ o, s.heap.get? a = some o /\ H a = none) -> Heap.SameBut a s.heap h' -> HOk X.prog X.w H h' := fun {a h'} ha hs b ob e => by
    obtain ⟨_, _, hfree⟩ := ha
    refine (I.hok b ob e).stay (fun c w' hc q => (hs.2 c ?_).trans q) (fun _ q => q) fun _ _ q => q
    rintro rfl
    rcases hc with rfl | hc
    . rw [hfree] at e; cases e
    . rw [hfree] at hc; cases hc
  rcases hx with hk | hk
  . refine wpAny_storeName_local hk hn (fun h' hn' hs => ?_) hcls
    obtain ⟨oL, _, _, hoL, _⟩ := id hn
    refine h _ ⟨I.ok, I.os, I.bare, ⟨fun b o e n hb hx => ?_, fun b o e n hb hx => ?_, I.base.free, fun b o e hx => ?_, I.base.tups, I.base.frzs, I.base.tbls⟩, ⟨_, hn', fun j y v' e1 e2 e3 => ?_⟩, fun y c e => ?_, I.free, I.freeC, fun p hp => ?_, tracked ⟨oL, hoL, I.free⟩ hs, by simpa using I.len⟩ ⟨_, hs, .inl rfl⟩
    . exact (hs.2 b (Nat.ne_of_lt (Nat.lt_of_lt_of_le (Heap.lt_size e) I.ok.above))).trans (I.base.keep b o e n hb hx)
    . obtain ⟨sl, e1⟩ := I.base.slot b o e n hb hx
      exact ⟨sl, (hs.2 b (Nat.ne_of_lt (Nat.lt_of_lt_of_le (Heap.lt_size e) I.ok.above))).trans e1⟩
    . obtain ⟨o', e1⟩ := I.base.there b o e hx
      exact ⟨o', (hs.2 b (Nat.ne_of_lt (Nat.lt_of_lt_of_le (Heap.lt_size e) I.ok.above))).trans e1⟩
    . by_cases hj : j = i
      . subst hj
        rw [hi] at e1; cases e1
        rw [List.getElem?_set_self hiσ] at e2
        cases e2
        exact ⟨u, r, .inl ⟨hk, by simp⟩⟩
      . rw [List.getElem?_set_ne (Ne.symm hj)] at e2
        obtain ⟨u', r', q⟩ := hl j y v' e1 e2 e3
        refine ⟨u', r', ?_⟩
        rcases q with ⟨k, e⟩ | ⟨k, c, e, z⟩
        . refine .inl ⟨k, ?_⟩
          have : y ≠ x := fun e => hj (nodup_ix hN e1 (e ▸ hi))
          simp [this, e]
        . exact .inr ⟨k, c, e, z.sameBut hs (cne y c e)⟩
    . obtain ⟨w', z⟩ := I.cell y c e
      exact ⟨w', z.sameBut hs (cne y c e)⟩
    . obtain ⟨e, n, ne, nf, d⟩ := I.pin p hp
      exact ⟨(hs.2 p.1 ne).trans e, n, ne, nf, d⟩
  . have hfn : X.fn x = true := by
      rcases hf with z | z
      . exact z
      . rw [z] at hk; cases hk
    obtain ⟨c, hc⟩ := I.ok.has x (.inl hk)
    obtain ⟨w', z⟩ := I.cell x c hc
    refine wpAny_storeName_cell I.ok.kind hk hc z (fun h' hc' hs => ?_)
    obtain ⟨oc, hoc, hocd⟩ := id z
    refine h { s with heap := h' } ⟨I.ok, I.os, I.bare, ⟨fun b o e n hb hx => ?_, fun b o e n hb hx => ?_, I.base.free, fun b o e hx => ?_, I.base.tups, I.base.frzs, I.base.tbls⟩, ⟨m, hn.sameBut hs (Ne.symm (cne x c hc)), fun j y v' e1 e2 e3 => ?_⟩, fun y c' e => ?_, I.free, I.freeC, fun p hp => ?_, tracked ⟨oc, hoc, I.freeC x c hc⟩ hs, by simpa using I.len⟩ ⟨c, hs, .inr hc⟩
    . exact (hs.2 b (Nat.ne_of_lt (Nat.lt_of_lt_of_le (Heap.lt_size e) (I.ok.cab x c hfn hc)))).trans (I.base.keep b o e n hb hx)
    . obtain ⟨sl, e1⟩ := I.base.slot b o e n hb hx
      exact ⟨sl, (hs.2 b (Nat.ne_of_lt (Nat.lt_of_lt_of_le (Heap.lt_size e) (I.ok.cab x c hfn hc)))).trans e1⟩
    . obtain ⟨o', e1⟩ := I.base.there b o e hx
      exact ⟨o', (hs.2 b (Nat.ne_of_lt (Nat.lt_of_lt_of_le (Heap.lt_size e) (I.ok.cab x c hfn hc)))).trans e1⟩
    . by_cases hj : j = i
      . subst hj
        rw [hi] at e1; cases e1
        rw [List.getElem?_set_self hiσ] at e2
        cases e2
        exact ⟨u, r, .inr ⟨.inl hk, c, hc, hc'⟩⟩
      . rw [List.getElem?_set_ne (Ne.symm hj)] at e2
        obtain ⟨u', r', q⟩ := hl j y v' e1 e2 e3
        refine ⟨u', r', ?_⟩
        rcases q with q | ⟨k, c', e, z'⟩
        . exact .inl q
        . refine .inr ⟨k, c', e, z'.sameBut hs ?_⟩
          rintro rfl
          exact hj (nodup_ix hN e1 (I.ok.inj _ _ _ e hc ▸ hi))
    . by_cases hcc : c' = c
      . subst hcc; exact ⟨_, hc'⟩
      . obtain ⟨w2, z2⟩ := I.cell y c' e
        exact ⟨w2, z2.sameBut hs hcc⟩
    . obtain ⟨e, n, ne, nf, d⟩ := I.pin p hp
      refine ⟨(hs.2 p.1 ?_).trans e, n, ne, nf, d⟩
      intro q
      rw [q, hoc] at e
      have q' : oc = p.2 := Option.some.inj e
      exact d w' (by rw [<- q']; exact hocd)
theorem store_ok {M : Model} {A : Around} {E : Value -> Shared -> Prop} {i : Nat} {x : Str} {v : V} {u : Value} {Q : Unit -> Shared -> Prop} (I : Inv X pins σ H s) (hN : X.N.Nodup) (hi : X.N[i]? = some x) (hx : Loc X.env.scope x) (r : RelV v u)
    (h : ∀ s', Inv X pins (σ.set i (some v)) H s' -> Q () s') (hf : X.fn x = true \/ X.env.scope.names.lookup x = some .local := by first | exact .inl rfl | exact .inr rfl | assumption) : wpAny M A (storeName X.env x u) Q E s :=
  store_ok2 I hN hi hx r (fun s' I' _ => h s' I') hf
theorem Inv.call' {s' : Shared} {ch : List Addr} (I : Inv X pins σ H s) (ho : s'.os = s.os) (u : Un (frs X.stack) ch H H' s.heap s'.heap) (hok : HOk X.prog X.w H' s'.heap) (hg : AllBare s'.gens)
    (hch : ∀ b ∈ ch, (b ∈ X.ex \/ X.s₀.heap.objs.size <= b) /\ b ≠ X.env.locals /\ (∀ x c, X.env.cells.lookup x = some c -> c ≠ b) /\ ∀ p ∈ X.pn ++ pins, p.1 ≠ b) : Inv X pins σ H' s' := by
  obtain ⟨h', g', d', t', o'⟩ := s'
  have e : o' = s.os := ho
  subst e
  exact I.call (g' := g') (t' := t') (d' := d') u hok hg hch
end
abbrev XK := Value -> Option Addr -> Hp -> Prop
abbrev St := List (Option V)
abbrev VK := V -> Hp -> Prop
abbrev TE := St -> Hp -> VK -> Prop
abbrev TT := St -> Hp -> (Bool -> Hp -> Prop) -> Prop
abbrev TA := St -> Hp -> (List V -> Hp -> Prop) -> Prop
structure Ends where
  nx : St -> Hp -> Prop
  rt : VK
  bk : St -> Hp -> Prop := fun _ _ => False
  ct : St -> Hp -> Prop := fun _ _ => False
abbrev TS := Ends -> St -> Hp -> Prop
def EP (X : Cx) (pins : List (Addr × Obj)) (σ : St) (Q : VK) (u : Value) (s' : Shared) : Prop := ∃ v H', Inv X pins σ H' s' /\ RelV v u /\ Q v H'
def TP (X : Cx) (pins : List (Addr × Obj)) (σ : St) (Q : Bool -> Hp -> Prop) (b : Bool) (s' : Shared) : Prop := ∃ H', Inv X pins σ H' s' /\ Q b H'
def AP (X : Cx) (pins : List (Addr × Obj)) (σ : St) (Q : List V -> Hp -> Prop) (us : List Value) (s' : Shared) : Prop := ∃ vs H', Inv X pins σ H' s' /\ Vals vs us /\ Q vs H'
def SP (X : Cx) (pins : List (Addr × Obj)) (D : Ends) (f : Flow) (s' : Shared) : Prop :=
  match f with
  | .next => ∃ σ' H', Inv X pins σ' H' s' /\ D.nx σ' H'
  | .brk => ∃ σ' H', Inv X pins σ' H' s' /\ D.bk σ' H'
  | .cont => ∃ σ' H', Inv X pins σ' H' s' /\ D.ct σ' H'
  | .ret u => ∃ v σ' H', Inv X pins σ' H' s' /\ RelV v u /\ D.rt v H'
def PE (X : Cx) (e : Expr) (t : TE) : Prop :=
  ∀ (pins : List (Addr × Obj)) (s : Shared) (σ : St) (H : Hp) (Q : VK), Inv X pins σ H s -> t σ H Q -> wpAny (model X.prog X.w) X.A (eval e X.env) (EP X pins σ Q) X.xe s
def PT (X : Cx) (e : Expr) (t : TT) : Prop :=
  ∀ (pins : List (Addr × Obj)) (s : Shared) (σ : St) (H : Hp) (Q : Bool -> Hp -> Prop), Inv X pins σ H s -> t σ H Q -> wpAny (model X.prog X.w) X.A (isTrue e X.env (eval e X.env)) (TP X pins σ Q) X.xe s
def PW (X : Cx) (e : Expr) (t : TT) : Prop :=
  ∀ (whole : Sem Value) (pins : List (Addr × Obj)) (s : Shared) (σ : St) (H : Hp) (Q : Bool -> Hp -> Prop), Inv X pins σ H s -> t σ H Q -> wpAny (model X.prog X.w) X.A (isTrue e X.env whole) (TP X pins σ Q) X.xe s
theorem PW.pt {X : Cx} {e : Expr} {t : TT} (h : PW X e t) : PT X e t := h _
def PA (X : Cx) (es : List Expr) (t : TA) : Prop :=
  ∀ (pos : Pos) (pins : List (Addr × Obj)) (s : Shared) (σ : St) (H : Hp) (Q : List V -> Hp -> Prop), Inv X pins σ H s -> t σ H Q -> wpAny (model X.prog X.w) X.A (spliced (backTo pos (starEach es X.env))) (AP X pins σ Q) X.xe s
def PS (X : Cx) (st : Stmt) (t : TS) : Prop :=
  ∀ (pins : List (Addr × Obj)) (s : Shared) (σ : St) (H : Hp) (D : Ends), Inv X pins σ H s -> t D σ H -> wpAny (model X.prog X.w) X.A (exec st X.env) (SP X pins D) X.xe s
def PSs (X : Cx) (st : List Stmt) (t : TS) : Prop :=
  ∀ (pins : List (Addr × Obj)) (s : Shared) (σ : St) (H : Hp) (D : Ends), Inv X pins σ H s -> t D σ H -> wpAny (model X.prog X.w) X.A (execs st X.env) (SP X pins D) X.xe s
theorem thn {α : Type} {t : Sem α} {Q Q' : α -> Shared -> Prop} {M : Model} {A : Around} {E : Value -> Shared -> Prop} {s : Shared} (h : wpAny M A t Q E s) (hQ : ∀ a s, Q a s -> Q' a s) : wpAny M A t Q' E s := wpAny_mono h hQ fun _ _ x => x
section
variable {X : Cx}
def tVar (i : Nat) : TE := fun σ H Q => ∃ v, σ[i]? = some (some v) /\ Q v H
def tC (v : V) : TE := fun _ H Q => Q v H
theorem pe_var {i : Nat} {x : Str} {pos : Pos} (hN : X.N[i]? = some x) (hv : Vis X.env.scope x) (hd : (x == ("__debug__" : Str)) = false := by decide) (hcd : (x == ("__classdict__" : Str)) = false := by decide) : PE X (.Name x pos) (tVar i) := by
  intro pins s σ H Q I h
  obtain ⟨v, e, h⟩ := h
  obtain ⟨m, hn, hl⟩ := I.loc
  obtain ⟨u, r, l⟩ := hl i x v hN e hv
  have fin : EP X pins σ Q u s := ⟨v, H, I, r, h⟩
  rcases l with ⟨hk, hm⟩ | ⟨hk, c, hc, hcell⟩
  . exact wpAny_Name (wpAny_loadName_local I.ok.kind hk hn hm fin) hd
  . rcases hk with hk | hk
    . exact wpAny_Name (wpAny_loadName_cell I.ok.kind hk hc hcell fin) hd
    . exact wpAny_Name (wpAny_loadName_free I.ok.kind hk hc hcell fin hcd) hd
theorem pe_int {i j pos} : PE X (.Constant (.int i) j pos) (tC (.int i)) := fun _ _ _ H _ I h => wpAny_Constant_int ⟨.int i, H, I.tok _, ⟨_, rfl⟩, h⟩
theorem pe_bl {b j pos} : PE X (.Constant (.bool b) j pos) (tC (.bl b)) := fun _ _ _ H _ I h => Constant_bool ⟨.bl b, H, I, rfl, h⟩
theorem pe_str {x j pos} : PE X (.Constant (.str x) j pos) (tC (.str x)) := fun _ _ _ H _ I h => Calls.Constant_str ⟨.str x, H, I.tok _, ⟨_, rfl⟩, h⟩
def Gl (X : Cx) (x : Str) : Prop := X.env.kindOf x = some .globalImplicit
theorem ld_glob {E : Value -> Shared -> Prop} {pins : List (Addr × Obj)} {s : Shared} {σ : St} {H : Hp} {x : Str} {u : Value} {pos : Pos} {Q : Value -> Shared -> Prop} (I : Inv X pins σ H s) (hg : Gl X x) (hm : X.mg x = some u) (h : Q u s)
    (hd : (x == ("__debug__" : Str)) = false := by decide) : wpAny (model X.prog X.w) X.A (eval (.Name x pos) X.env) Q E s :=
  Calls.Name_function_global I.ok.kind hg (Calls.loadGlobal_global (by rw [I.ok.glob]; exact I.mod.glob.keeps I.bk) hm h) hd
theorem ld_blt {E : Value -> Shared -> Prop} {pins : List (Addr × Obj)} {s : Shared} {σ : St} {H : Hp} {x : Str} {u : Value} {pos : Pos} {Q : Value -> Shared -> Prop} (I : Inv X pins σ H s) (hg : Gl X x) (hm : X.mg x = none) (hv : bootBuiltins x = some u) (h : Q u s)
    (hn : x ≠ "__name__" := by decide) (hd : (x == ("__debug__" : Str)) = false := by decide) : wpAny (model X.prog X.w) X.A (eval (.Name x pos) X.env) Q E s := by
  obtain ⟨mb, h1, h2⟩ := I.mod.blt
  exact Calls.Name_function_global I.ok.kind hg (Calls.loadGlobal_builtin (by rw [I.ok.glob]; exact I.mod.glob.keeps I.bk) hm (by rw [I.ok.blt]; exact h1.keeps I.bk) ((h2 x hn).trans hv) h) hd
theorem pe_glob {x : Str} {v : V} {u : Value} {pos : Pos} (hg : Gl X x) (hm : X.mg x = some u) (r : RelV v u) (hd : (x == ("__debug__" : Str)) = false := by decide) : PE X (.Name x pos) (tC v) :=
  fun _ _ _ H _ I h => ld_glob I hg hm ⟨v, H, I, r, h⟩ hd
theorem pe_bltn {x : Str} {v : V} {u : Value} {pos : Pos} (hg : Gl X x) (hm : X.mg x = none) (hv : bootBuiltins x = some u) (r : RelV v u) (hn : x ≠ "__name__" := by decide) (hd : (x == ("__debug__" : Str)) = false := by decide) : PE X (.Name x pos) (tC v) :=
  fun _ _ _ H _ I h => ld_blt I hg hm hv ⟨v, H, I, r, h⟩ hn hd
variable {a b : Expr} {ta tb : TE} {pos : Pos}
theorem nobehind (b : Expr) {op : CmpOp} (h : op ≠ .In) (h2 : op ≠ .NotIn) : behindInMarks op b = false := by
  have e1 : (op == CmpOp.In) = false := by cases op <;> first | rfl | exact absurd rfl h
  have e2 : (op == CmpOp.NotIn) = false := by cases op <;> first | rfl | exact absurd rfl h2
  cases b <;> simp [behindInMarks, e1, e2]
variable {tA tB' : TT} {rest : List Expr}
def tAnd (t u : TT) : TT := fun σ H Q => t σ H fun c H1 => if c = true then u σ H1 Q else Q false H1
def tOr (t u : TT) : TT := fun σ H Q => t σ H fun c H1 => if c = true then Q true H1 else u σ H1 Q
def tNot (t : TT) : TT := fun σ H Q => t σ H fun c H1 => Q (!c) H1
theorem pw_and1 (ha : PT X a tA) : PW X (.BoolOp .And [a] pos) tA := by
  intro wh pins s σ H Q I h
  refine isTrue_and (thn (ha pins s σ H Q I h) fun c s1 e => ?_)
  cases c with
  | true => exact isTrue_and_nil e
  | false => exact e
theorem pw_or1 (ha : PT X a tA) : PW X (.BoolOp .Or [a] pos) tA := by
  intro wh pins s σ H Q I h
  refine isTrue_or (thn (ha pins s σ H Q I h) fun c s1 e => ?_)
  cases c with
  | false => exact isTrue_or_nil e
  | true => exact e
theorem pw_and (ha : PT X a tA) (hb : PW X (.BoolOp .And (b :: rest) pos) tB') : PW X (.BoolOp .And (a :: b :: rest) pos) (tAnd tA tB') := by
  intro wh pins s σ H Q I h
  refine isTrue_and (thn (ha pins s σ H _ I h) fun c s1 ⟨H1, I1, q1⟩ => ?_)
  cases c with
  | true => exact hb wh pins s1 σ H1 Q I1 q1
  | false => exact ⟨H1, I1, q1⟩
theorem pw_or (ha : PT X a tA) (hb : PW X (.BoolOp .Or (b :: rest) pos) tB') : PW X (.BoolOp .Or (a :: b :: rest) pos) (tOr tA tB') := by
  intro wh pins s σ H Q I h
  refine isTrue_or (thn (ha pins s σ H _ I h) fun c s1 ⟨H1, I1, q1⟩ => ?_)
  cases c with
  | true => exact ⟨H1, I1, q1⟩
  | false => exact hb wh pins s1 σ H1 Q I1 q1
theorem pt_not (ha : PT X a tA) : PT X (.UnaryOp .Not a pos) (tNot tA) := by
  intro pins s σ H Q I h
  exact isTrue_not (ha pins s σ H (fun c H1 => Q (!c) H1) I h)
def tAndV (ta tb : TE) : TE := fun σ H Q => ta σ H fun x H1 => ∃ c, x = .bl c /\ if c = true then tb σ H1 Q else Q (.bl false) H1
def tNotV (ta : TE) : TE := fun σ H Q => ta σ H fun x H1 => ∃ c, x = .bl c /\ Q (.bl (!c)) H1
theorem pe_one {op} {t : TE} (h : PE X a t) : PE X (.BoolOp op [a] pos) t := fun pins s σ H Q I hw => BoolOp_one (h pins s σ H Q I hw)
theorem pe_and (ha : PE X a ta) (hb : PE X (.BoolOp .And (b :: rest) pos) tb) : PE X (.BoolOp .And (a :: b :: rest) pos) (tAndV ta tb) := by
  intro pins s σ H Q I h
  refine BoolOp_and (thn (ha pins s σ H _ I h) fun v s1 ⟨x, H1, I1, r1, q1⟩ => ?_)
  obtain ⟨c, rfl, q1⟩ := q1
  cases r1
  refine wpAny_truthy_bool ?_
  cases c with
  | true => exact hb pins s1 σ H1 Q I1 q1
  | false => exact ⟨.bl false, H1, I1, rfl, q1⟩
theorem pe_not (ha : PE X a ta) : PE X (.UnaryOp .Not a pos) (tNotV ta) := by
  intro pins s σ H Q I h
  refine UnaryOp_ (thn (ha pins s σ H _ I h) fun v s1 ⟨x, H1, I1, r1, q1⟩ => ?_)
  obtain ⟨c, rfl, q1⟩ := q1
  cases r1
  exact not_of (wpAny_truthy_bool ⟨.bl (!c), H1, I1, rfl, q1⟩)
def tIf (t : TT) (ta tb : TE) : TE := fun σ H Q => t σ H fun c H1 => if c = true then ta σ H1 Q else tb σ H1 Q
theorem pe_ifExp {c : Expr} (hc : PT X c tA) (ha : PE X a ta) (hb : PE X b tb) : PE X (.IfExp c a b pos) (tIf tA ta tb) := by
  intro pins s σ H Q I h
  refine wpAny_IfExp (thn (hc pins s σ H _ I h) fun d s1 ⟨H1, I1, q1⟩ => ?_)
  cases d with
  | true => exact ha pins s1 σ H1 Q I1 q1
  | false => exact hb pins s1 σ H1 Q I1 q1
end
def SqL (K : PySem.W.Frag) (H : Hp) (a : Addr) (xs : List V) : Prop :=
  Rd H a (.lst xs) \/
    ∃ (o : Obj) (its : Array Value) (n : Nat), K.lookup a = some o /\ o.cls = .type "list" /\ o.dict = none /\ o.data = .seq its n /\ its.size <= sizeLine /\ Vals xs its.toList
def SqT (K : PySem.W.Frag) (H : Hp) (a : Addr) (xs : List V) : Prop :=
  Rd H a (.tup xs) \/
    ∃ (o : Obj) (its : Array Value) (n : Nat), K.lookup a = some o /\ o.cls = .type "tuple" /\ o.dict = none /\ o.data = .seq its n /\ its.size <= sizeLine /\ Vals xs its.toList
def absV : Value -> Option V
  | .none => some .non
  | .bool b => some (.bl b)
  | .int i _ => some (.int i)
  | .str x _ => some (.str x)
  | .bytes b _ => some (.byt b)
  | .float b _ => some (.flt b)
  | .ref a => some (.ref a)
  | .type n => some (.ty n)
  | _ => none
theorem RelV.abs {x : V} {u : Value} (r : RelV x u) : absV u = some x := by
  cases x with
  | non => cases r; rfl
  | bl _ => cases r; rfl
  | int _ => obtain ⟨t, rfl⟩ := r; rfl
  | str _ => obtain ⟨t, rfl⟩ := r; rfl
  | byt _ => obtain ⟨t, rfl⟩ := r; rfl
  | flt _ => obtain ⟨t, rfl⟩ := r; rfl
  | ref _ => cases r; rfl
  | ty _ => cases r; rfl
theorem RelV.inj {x y : V} {u : Value} (r : RelV x u) (q : RelV y u) : x = y := Option.some.inj (r.abs.symm.trans q.abs)
theorem Vals.inj : ∀ {xs ys : List V} {us : List Value}, Vals xs us -> Vals ys us -> xs = ys
  | _, _, _, .nil, .nil => rfl
  | _, _, _, .cons r t, .cons r' t' => by rw [r.inj r', Vals.inj t t']
section
variable {X : Cx} {pins : List (Addr × Obj)} {σ : St} {H : Hp} {s : Shared} {a : Addr} {xs ys : List V}
theorem SqL.of {K : PySem.W.Frag} (h : H a = some (.lst xs)) : SqL K H a xs := .inl (.inl h)
theorem SqT.of {K : PySem.W.Frag} (h : H a = some (.tup xs)) : SqT K H a xs := .inl (.inl h)
theorem Inv.list (I : Inv X pins σ H s) (h : SqL X.K H a xs) : ∃ its : List Value, Vals xs its /\ PlainL s.heap a its.toArray /\ xs.length <= sizeLine := by
  rcases h with h | ⟨o, its, n, hk, hc, hd, hs, hz, r⟩
  . obtain ⟨z, its, n, r, e⟩ := h.ok I.hok
    exact ⟨its, r, ⟨_, n, e, rfl, rfl, rfl⟩, z⟩
  . refine ⟨its.toList, r, ⟨o, n, I.kIn a o hk, hc, hd, by simpa using hs⟩, ?_⟩
    have e := r.length
    simp only [Array.length_toList] at e
    omega
theorem Inv.tuple (I : Inv X pins σ H s) (h : SqT X.K H a xs) : ∃ its : List Value, Vals xs its /\ IsTup s.heap a its.toArray /\ xs.length <= sizeLine := by
  rcases h with h | ⟨o, its, n, hk, hc, hdd, hs, hz, r⟩
  . obtain ⟨z, its, r, p⟩ := h.ok I.hok
    exact ⟨its, r, p.tup, z⟩
  . refine ⟨its.toList, r, ⟨o, I.kIn a o hk, hc, n, by simpa using hs⟩, ?_⟩
    have e := r.length
    simp only [Array.length_toList] at e
    omega
theorem Inv.list_inj (I : Inv X pins σ H s) (h : SqL X.K H a xs) (h' : SqL X.K H a ys) : xs = ys := by
  obtain ⟨its, r, ⟨o, n, e, _, _, d⟩, _⟩ := I.list h
  obtain ⟨its', r', ⟨o', n', e', _, _, d'⟩, _⟩ := I.list h'
  rw [e] at e'; cases e'
  rw [d] at d'
  injection d' with d1 _
  have : its = its' := by simpa using congrArg Array.toList d1
  subst this
  exact r.inj r'
theorem Inv.tuple_inj (I : Inv X pins σ H s) (h : SqT X.K H a xs) (h' : SqT X.K H a ys) : xs = ys := by
  obtain ⟨its, r, ⟨o, e, _, n, d⟩, _⟩ := I.tuple h
  obtain ⟨its', r', ⟨o', e', _, n', d'⟩, _⟩ := I.tuple h'
  rw [e] at e'; cases e'
  rw [d] at d'
  injection d' with d1 _
  have : its = its' := by simpa using congrArg Array.toList d1
  subst this
  exact r.inj r'
end
abbrev Cx.wish (X : Cx) (E : Value -> Shared -> Prop) : Cx := { X with xe := E }
abbrev Cx.nox (X : Cx) : Cx := X.wish fun _ _ => False
theorem Cx.Ok.wish {X : Cx} (ok : X.Ok) (E : Value -> Shared -> Prop) : (X.wish E).Ok :=
  ⟨ok.mod, ok.kind, ok.glob, ok.blt, ok.above, ok.inj, ok.has, ok.cab, ok.hd, ok.frames, ok.stk, ok.exf, ok.bs, ok.bsz, ok.noex, ok.exfs, ok.funs, ok.frf⟩
theorem Cx.Ok.unwish {X : Cx} {E : Value -> Shared -> Prop} (ok : (X.wish E).Ok) : X.Ok :=
  ⟨ok.mod, ok.kind, ok.glob, ok.blt, ok.above, ok.inj, ok.has, ok.cab, ok.hd, ok.frames, ok.stk, ok.exf, ok.bs, ok.bsz, ok.noex, ok.exfs, ok.funs, ok.frf⟩
section
variable {X : Cx} {pins : List (Addr × Obj)} {σ : St} {H : Hp} {s : Shared} {E : Value -> Shared -> Prop}
theorem Inv.wish (I : Inv X pins σ H s) (E : Value -> Shared -> Prop) : Inv (X.wish E) pins σ H s := ⟨I.ok.wish E, I.os, I.bare, I.base, I.loc, I.cell, I.free, I.freeC, I.pin, I.hok, I.len⟩
theorem Inv.unwish (I : Inv (X.wish E) pins σ H s) : Inv X pins σ H s := ⟨I.ok.unwish, I.os, I.bare, I.base, I.loc, I.cell, I.free, I.freeC, I.pin, I.hok, I.len⟩
theorem SP.unwish {D : Ends} {f : Flow} {s' : Shared} (h : SP (X.wish E) pins D f s') : SP X pins D f s' := by
  cases f with
  | next => obtain ⟨σ', H', I, q⟩ := h; exact ⟨σ', H', I.unwish, q⟩
  | brk => obtain ⟨σ', H', I, q⟩ := h; exact ⟨σ', H', I.unwish, q⟩
  | cont => obtain ⟨σ', H', I, q⟩ := h; exact ⟨σ', H', I.unwish, q⟩
  | ret u => obtain ⟨v, σ', H', I, r, q⟩ := h; exact ⟨v, σ', H', I.unwish, r, q⟩
theorem PSs.nox {st : List Stmt} {t : TS} (h : PSs X.nox st t) : PSs X st t := fun pins s σ H D I hw =>
  wpAny_mono (h pins s σ H D (I.wish _) hw) (fun _ _ q => q.unwish) fun _ _ z => False.elim z
end
section
variable {X : Cx} {st : Stmt} {rest : List Stmt} {t u : TS} {e : Expr} {te : TE} {pos : Pos}
def tNext : TS := fun D σ H => D.nx σ H
def tSeq (t u : TS) : TS := fun D σ H => t { D with nx := u D } σ H
theorem pss_nil : PSs X [] tNext := fun _ _ σ H _ I h => wpAny_execs_nil ⟨σ, H, I, h⟩
theorem pss_cons (h1 : PS X st t) (h2 : PSs X rest u) : PSs X (st :: rest) (tSeq t u) := by
  intro pins s σ H D I h
  refine wpAny_execs_cons (thn (h1 pins s σ H { D with nx := u D } I h) fun f s1 q => ?_)
  cases f with
  | next =>
    obtain ⟨σ', H', I', q⟩ := q
    exact h2 pins s1 σ' H' D I' q
  | ret v => exact q
  | brk => exact q
  | cont => exact q
theorem pss_one (h1 : PS X st t) : PSs X [st] t := by
  intro pins s σ H D I h
  refine wpAny_execs_cons (thn (h1 pins s σ H D I h) fun f s1 q => ?_)
  cases f with
  | next => exact wpAny_execs_nil q
  | ret v => exact q
  | brk => exact q
  | cont => exact q
theorem Inv.quiet {pins : List (Addr × Obj)} {σ : St} {H : Hp} {s : Shared} (I : Inv X pins σ H s) : interactive X.env = false := by simp [interactive, I.ok.kind]
def tDrop (te : TE) : TS := fun D σ H => te σ H fun _ H1 => D.nx σ H1
theorem ps_expr (he : PE X e te) (hs : swapsWith e none pos.line X.env = pure false := by rfl) : PS X (.Expr e pos) (tDrop te) := by
  intro pins s σ H D I h
  exact wpAny_Expr_any (thn (he pins s σ H _ I h) fun v s1 ⟨x, H1, I1, r1, q1⟩ => ⟨σ, H1, I1, q1⟩) I.quiet hs
def tRet (te : TE) : TS := fun D σ H => te σ H D.rt
theorem ps_ret (he : PE X e te) : PS X (.Return (some e) pos) (tRet te) := by
  intro pins s σ H D I h
  exact wpAny_Return_some (thn (he pins s σ H _ I h) fun v s1 ⟨x, H1, I1, r1, q1⟩ => ⟨x, σ, H1, I1, r1, q1⟩)
def tIfS (c : TT) (t u : TS) : TS := fun D σ H => c σ H fun b H1 => if b = true then t D σ H1 else u D σ H1
theorem ps_if {c : Expr} {a b : List Stmt} {tc : TT} (hc : PT X c tc) (ha : PSs X a t) (hb : PSs X b u) : PS X (.If c a b pos) (tIfS tc t u) := by
  intro pins s σ H D I h
  refine wpAny_If (thn (hc pins s σ H _ I h) fun d s1 ⟨H1, I1, q1⟩ => ?_)
  cases d with
  | true => exact ha pins s1 σ H1 D I1 q1
  | false => exact hb pins s1 σ H1 D I1 q1
def tNever : TS := fun _ _ _ => False
theorem ps_never : PS X st tNever := fun _ _ _ _ _ _ h => h.elim
end
abbrev TG := V -> St -> Hp -> (St -> Hp -> Prop) -> Prop
abbrev TGs := List V -> St -> Hp -> (St -> Hp -> Prop) -> Prop
def PG (X : Cx) (target : Expr) (t : TG) : Prop :=
  ∀ (pins : List (Addr × Obj)) (s : Shared) (σ : St) (H : Hp) (v : V) (u : Value) (Q : St -> Hp -> Prop), Inv X pins σ H s -> RelV v u -> t v σ H Q ->
    wpAny (model X.prog X.w) X.A (assign target X.env u) (fun _ s' => ∃ σ' H', Inv X pins σ' H' s' /\ Q σ' H') X.xe s
def PGs (X : Cx) (ts : List Expr) (t : TGs) : Prop :=
  ∀ (pins : List (Addr × Obj)) (s : Shared) (σ : St) (H : Hp) (vs : List V) (us : List Value) (Q : St -> Hp -> Prop), Inv X pins σ H s -> Vals vs us -> t vs σ H Q ->
    wpAny (model X.prog X.w) X.A (assignInOrder ((assignEach ts X.env).map (·.2)) us) (fun _ s' => ∃ σ' H', Inv X pins σ' H' s' /\ Q σ' H') X.xe s
abbrev TSet := V -> V -> V -> Hp -> (Hp -> Prop) -> Prop
def PSet (X : Cx) (t : TSet) : Prop :=
  ∀ (pins : List (Addr × Obj)) (s : Shared) (σ : St) (H : Hp) (o i v : V) (ov iv u : Value) (Q : Hp -> Prop), Inv X pins σ H s -> RelV o ov -> RelV i iv -> RelV v u -> t o i v H Q ->
    wpAny (model X.prog X.w) X.A (setItem ov iv u) (fun _ s' => ∃ H', Inv X pins σ H' s' /\ Q H') X.xe s
section
variable {X : Cx} {pos : Pos}
def gName (i : Nat) : TG := fun v σ H Q => Q (σ.set i (some v)) H
theorem pg_name {i : Nat} {x : Str} (hN : X.N.Nodup) (hi : X.N[i]? = some x) (hx : Loc X.env.scope x) (hf : X.fn x = true \/ X.env.scope.names.lookup x = some .local := by first | exact .inl rfl | exact .inr rfl | assumption) : PG X (.Name x pos) (gName i) := by
  intro pins s σ H v u Q I r h
  exact wpAny_assign_Name (store_ok I hN hi hx r (fun s' I' => ⟨_, H, I', h⟩) hf)
def gNil : TGs := fun vs σ H Q => vs = [] /\ Q σ H
def gCons (t : TG) (u : TGs) : TGs := fun vs σ H Q => ∃ v r, vs = v :: r /\ t v σ H fun σ' H' => u r σ' H' Q
theorem pgs_nil : PGs X [] gNil := by
  intro pins s σ H vs us Q I r h
  obtain ⟨e, h⟩ := h
  subst e
  cases r
  exact assignInOrder_nil ⟨σ, H, I, h⟩
theorem pgs_cons {e : Expr} {es : List Expr} {t : TG} {u : TGs} (h1 : PG X e t) (h2 : PGs X es u)
    (hs : (assignEach (e :: es) X.env).map (·.2) = assign e X.env :: (assignEach es X.env).map (·.2) := by rfl) : PGs X (e :: es) (gCons t u) := by
  intro pins s σ H vs us Q I r h
  obtain ⟨v, vr, e1, h⟩ := h
  subst e1
  cases r with
  | cons r rr =>
    rw [hs]
    refine assignInOrder_cons (thn (h1 pins s σ H _ _ _ I r h) fun _ s1 ⟨σ1, H1, I1, q1⟩ => ?_)
    exact h2 pins s1 σ1 H1 _ _ Q I1 rr q1
def gTup (K : PySem.W.Frag) (n : Nat) (t : TGs) : TG := fun v σ H Q => ∃ a xs, v = .ref a /\ SqT K H a xs /\ xs.length = n /\ t xs σ H Q
theorem pg_tup {es : List Expr} {k : Nat} {t : TGs} {n : Nat} (hc : X.calm = true) (h : PGs X es t)
    (hn : (assignEach es X.env).length = n := by rfl) (hst : (assignEach es X.env).findIdx? (·.1) = none := by rfl) : PG X (.Tuple es k pos) (gTup X.K n t) := by
  intro pins s σ H v u Q I r hw
  obtain ⟨a, xs, e1, hq, hl, hw⟩ := hw
  subst e1
  cases r
  obtain ⟨its, rv, ht, hz⟩ := I.tuple hq
  refine assign_Tuple_tuple (I.ok.hd hc) ht (by simp [hn, <- hl, rv.length]) hst fun h' hx => ?_
  have I1 : Inv X pins σ H { s with heap := h' } := I.kept (t' := s.toks) fun b o e => hx b o (Nat.ne_of_lt (Heap.lt_size e)) e
  exact h pins _ σ H xs _ Q I1 (by simpa using rv) hw
def gSub (to ti : TE) (t : TSet) : TG := fun v σ H Q => to σ H fun o H1 => ti σ H1 fun i H2 => t o i v H2 fun H3 => Q σ H3
theorem pg_sub {o i : Expr} {to ti : TE} {t : TSet} (ho : PE X o to) (hi : PE X i ti) (hs : PSet X t)
    (ha : ∀ v, assign (.Subscript o i pos) X.env v = (do
      let ov <- holding [v] (eval o X.env)
      let iv <- holding [v, ov] (eval i X.env)
      standAt pos
      holding [v, ov, iv] (setItem ov iv v)
      release [v, ov, iv] []) := by intro _; rfl) : PG X (.Subscript o i pos) (gSub to ti t) := by
  intro pins s σ H v u Q I r h
  rw [ha]
  refine wpAny_bind (wpAny_holding (thn (ho pins s σ H _ I h) fun ov s1 ⟨x, H1, I1, r1, q1⟩ => ?_))
  refine wpAny_bind (wpAny_holding (thn (hi pins s1 σ H1 _ I1 q1) fun iv s2 ⟨y, H2, I2, r2, q2⟩ => ?_))
  refine wpAny_bind (wpAny_standAt (wpAny_bind (wpAny_holding (thn (hs pins s2 σ H2 x y v ov iv u _ I2 r1 r2 r q2) fun _ s3 ⟨H3, I3, q3⟩ => ?_))))
  exact wpAny_release ⟨σ, H3, I3, q3⟩
def tAsg (te : TE) (g : TG) : TS := fun D σ H => te σ H fun x H1 => g x σ H1 D.nx
theorem ps_asg {tg e : Expr} {te : TE} {g : TG} (he : PE X e te) (hg : PG X tg g) (hs : swapsWithSole [tg] e pos.line X.env = pure false := by rfl) (hw : swappedStores [tg] e X.env = pure none := by rfl)
    (h1 : (assignEach [tg] X.env).map (·.2) = [assign tg X.env] := by rfl) : PS X (.Assign [tg] e pos) (tAsg te g) := by
  intro pins s σ H D I h
  refine wpAny_Assign_stores (thn (he pins s σ H _ I h) fun v s1 ⟨x, H1, I1, r1, q1⟩ => ?_) hs hw
  rw [h1]
  exact thn (hg pins s1 σ H1 x v _ I1 r1 q1) fun _ s2 q => q
theorem ps_set {i : Nat} {x : Str} {e : Expr} {te : TE} {pos' : Pos} (hN : X.N.Nodup) (hi : X.N[i]? = some x) (hx : Loc X.env.scope x) (he : PE X e te) (hs : swapsWith e (some (.Name x pos')) pos.line X.env = pure false := by rfl) (hf : X.fn x = true \/ X.env.scope.names.lookup x = some .local := by first | exact .inl rfl | exact .inr rfl | assumption) :
    PS X (.Assign [.Name x pos'] e pos) (tAsg te (gName i)) := by
  intro pins s σ H D I h
  refine wpAny_Assign_Name (thn (he pins s σ H _ I h) fun v s1 ⟨y, H1, I1, r1, q1⟩ => ?_) hs
  exact store_ok I1 hN hi hx r1 (fun s2 I2 => ⟨_, H1, I2, q1⟩) hf
end
section
variable {X : Cx} {pos : Pos}
end
structure It where
  go : Nat -> Hp -> Prop
  yld : Nat -> Hp -> V -> Hp -> Prop
  stop : Nat -> Hp -> Prop
def FpOk (X : Cx) (pins : List (Addr × Obj)) (H : Hp) (b : Addr) : Prop :=
  H b = none /\ b ≠ X.env.locals /\ b ∉ X.fs /\ (b ∈ X.ex \/ X.s₀.heap.objs.size <= b) /\ (∀ x c, X.env.cells.lookup x = some c -> c ≠ b) /\ ∀ p ∈ X.pn ++ pins, p.1 ≠ b
theorem Inv.fpOk {X : Cx} {pins : List (Addr × Obj)} {σ : St} {H H' : Hp} {s : Shared} {b : Addr} (I : Inv X pins σ H s) (hb : s.heap.objs.size <= b) (hn : H' b = none) : FpOk X pins H' b := by
  refine ⟨hn, Nat.ne_of_gt (Nat.lt_of_lt_of_le I.lt hb), I.nofs hb, .inr (Nat.le_trans I.sz hb), fun x c e z => ?_, fun p hp z => ?_⟩
  . obtain ⟨v, q⟩ := I.cell x c e
    exact absurd (Nat.lt_of_lt_of_le q.lt (by rw [z]; exact hb)) (Nat.lt_irrefl _)
  . exact absurd (Nat.lt_of_lt_of_le (Heap.lt_size (I.pin p hp).1) (by rw [z]; exact hb)) (Nat.lt_irrefl _)
structure Turn (P : Program) (w : World) (K : PySem.W.Frag) (tg : Expr) (J : It) (fp : List Addr) (it : Addr) (tn : Nat -> Heap -> Prop) : Prop where
  mem : it ∈ fp
  obj : ∀ i h, tn i h -> ∀ b ∈ fp, ∃ o, h.get? b = some o /\ ∀ v, o.data ≠ .cell v
  keep : ∀ i h h', tn i h -> (∀ b ∈ fp, ∀ o, h.get? b = some o -> h'.get? b = some o) -> tn i h'
  item : ∀ (X : Cx), X.prog = P -> X.w = w -> X.K = K -> X.calm = true -> ∀ (i : Nat) (pins : List (Addr × Obj)) (s : Shared) (σ : St) (H : Hp) (E : Value -> Shared -> Prop), Inv X pins σ H s -> (∀ b ∈ fp, FpOk X pins H b) -> tn i s.heap -> J.go i H ->
    wpAny (model P w) X.A (pyNext (.ref it)) (fun r s1 => ∃ u, r = some u /\
      wpAny (model P w) X.A (letOwnedTupleGo tg (.ref it) u) (fun _ s2 => ∃ x H', Inv X pins σ H' s2 /\ RelV x u /\ J.yld i H x H' /\ tn (i + 1) s2.heap /\ ∀ b ∈ fp, H' b = none) E s1) E s
  done : ∀ (X : Cx), X.prog = P -> X.w = w -> X.K = K -> X.calm = true -> ∀ (i : Nat) (pins : List (Addr × Obj)) (s : Shared) (σ : St) (H : Hp) (E : Value -> Shared -> Prop), Inv X pins σ H s -> (∀ b ∈ fp, FpOk X pins H b) -> tn i s.heap -> J.stop i H ->
    wpAny (model P w) X.A (pyNext (.ref it)) (fun r s1 => r = none /\ Inv X pins σ H s1) E s
  self : ∀ (A : Around) (i : Nat) (s : Shared) (Q : Value -> Shared -> Prop) (E : Value -> Shared -> Prop), tn i s.heap -> Q (.ref it) s -> wpAny (model P w) A (pyIter (.ref it)) Q E s
abbrev TI := St -> Hp -> (It -> Hp -> Prop) -> Prop
def PIE (X : Cx) (pins : List (Addr × Obj)) (σ : St) (tg : Expr) (R : It -> Hp -> Prop) (itv : Value) (s2 : Shared) : Prop :=
  ∃ (it : Addr) (fp : List Addr) (tn : Nat -> Heap -> Prop) (J : It) (H' : Hp), itv = .ref it /\ Inv X pins σ H' s2 /\ Turn X.prog X.w X.K tg J fp it tn /\ tn 0 s2.heap /\ (∀ b ∈ fp, FpOk X pins H' b) /\ R J H'
def PI (X : Cx) (tg iter : Expr) (wi : TI) : Prop :=
  ∀ (pins : List (Addr × Obj)) (s : Shared) (σ : St) (H : Hp) (R : It -> Hp -> Prop), Inv X pins σ H s -> wi σ H R ->
    wpAny (model X.prog X.w) X.A (eval iter X.env) (fun v s1 => wpAny (model X.prog X.w) X.A (pyIter v) (PIE X pins σ tg R) X.xe s1) X.xe s
theorem go_of {M : Model} {A : Around} {E : Value -> Shared -> Prop} {s : Shared} {tg : Expr} {it : Addr} {u : Value} {o : Obj} {n : String} {vs : Array Value} {Q : Unit -> Shared -> Prop} (ho : s.heap.get? it = some o) (hc : o.cls = .type n) (hd : o.data = .fields vs)
    (hn : ["enumerate", "zip", "dict_itemiterator", "dict_reverseitemiterator", "odict_iterator", "itertools.zip_longest", "itertools.pairwise"].contains n = false) (hQ : Q () s) : wpAny M A (letOwnedTupleGo tg (.ref it) u) Q E s := by
  unfold letOwnedTupleGo
  cases tg <;> first
    | exact wpAny_pure hQ
    | (cases u <;> first
        | exact wpAny_pure hQ
        | (refine wpAny_bind (wpAny_load ho ?_)
           rw [hc, hd]
           show wpAny M A (if (["enumerate", "zip", "dict_itemiterator", "dict_reverseitemiterator", "odict_iterator", "itertools.zip_longest", "itertools.pairwise"].contains n && vs[0]? == some (rawInt _)) = true then _ else _) Q E s
           rw [if_neg (by intro h; rw [hn, Bool.false_and] at h; cases h)]
           exact wpAny_pure hQ))
def Itl (K : PySem.W.Frag) (a : Addr) : It :=
  ⟨fun i H => ∃ xs x, SqL K H a xs /\ xs[i]? = some x, fun i H x H' => H' = H /\ ∀ xs, SqL K H a xs -> xs[i]? = some x, fun i H => ∃ xs, SqL K H a xs /\ xs.length <= i⟩
def Itt (K : PySem.W.Frag) (a : Addr) : It :=
  ⟨fun i H => ∃ xs x, SqT K H a xs /\ xs[i]? = some x, fun i H x H' => H' = H /\ ∀ xs, SqT K H a xs -> xs[i]? = some x, fun i H => ∃ xs, SqT K H a xs /\ xs.length <= i⟩
def Itr (lo : Int) (n : Nat) : It := ⟨fun i _ => i < n, fun i H x H' => H' = H /\ x = .int (lo + i), fun i _ => n <= i⟩
theorem turn_list {P : Program} {w : World} {K : PySem.W.Frag} {tg : Expr} (a it : Addr) : Turn P w K tg (Itl K a) [it] it (fun i h => h.IsListIter it a i) where
  mem := by simp
  obj := fun i h st b hb => by
    have e : b = it := by simpa using hb
    subst e
    obtain ⟨o, e, c, d⟩ := st
    exact ⟨o, e, fun v z => by rw [d] at z; cases z⟩
  keep := fun i h h' st k => st.at fun o e => k it (by simp) o e
  item := by
    intro X hP hw hK hc i pins s σ H E I hf st hg
    subst hP hw hK
    obtain ⟨xs, x, hq, hx⟩ := hg
    obtain ⟨its, rv, p, hz⟩ := I.list hq
    obtain ⟨u, hu, ru⟩ := rv.get hx
    obtain ⟨f0, f1, f2, f3, f4, f5⟩ := hf it (by simp)
    refine wpAny_pyNext_list_item st p.isList (x := u) (by simpa using hu) fun h' st' sb => ?_
    have I1 : Inv X pins σ H { s with heap := h' } := I.turned (t' := s.toks) (fun b o hb e => (sb.2 b hb).trans e) f0 f1 f3 f4 f5
    obtain ⟨o, e, c, d⟩ := id st'
    exact ⟨u, rfl, go_of (s := { s with heap := h' }) e c d (by decide) ⟨x, H, I1, ru, ⟨rfl, fun ys hy => by rw [I.list_inj hy hq]; exact hx⟩, st', fun b hb => (hf b hb).1⟩⟩
  done := by
    intro X hP hw hK hc i pins s σ H E I hf st hg
    subst hP hw hK
    obtain ⟨xs, hq, hx⟩ := hg
    obtain ⟨its, rv, p, hz⟩ := I.list hq
    obtain ⟨f0, f1, f2, f3, f4, f5⟩ := hf it (by simp)
    have hl := rv.length
    exact wpAny_pyNext_list_end (I.ok.hd hc) st p.isList (by simp; omega) fun h' eb => ⟨rfl, I.turned (t' := s.toks) (fun b o hb e => eb b o hb e) f0 f1 f3 f4 f5⟩
  self := fun _ _ _ _ _ st h => wpAny_pyIter_listiter st h
theorem turn_tuple {P : Program} {w : World} {K : PySem.W.Frag} {tg : Expr} (a it : Addr) : Turn P w K tg (Itt K a) [it] it (fun i h => h.IsTupleIter it a i) where
  mem := by simp
  obj := fun i h st b hb => by
    have e : b = it := by simpa using hb
    subst e
    obtain ⟨o, e, c, d⟩ := st
    exact ⟨o, e, fun v z => by rw [d] at z; cases z⟩
  keep := fun i h h' st k => st.at fun o e => k it (by simp) o e
  item := by
    intro X hP hw hK hc i pins s σ H E I hf st hg
    subst hP hw hK
    obtain ⟨xs, x, hq, hx⟩ := hg
    obtain ⟨its, rv, p, hz⟩ := I.tuple hq
    obtain ⟨u, hu, ru⟩ := rv.get hx
    obtain ⟨f0, f1, f2, f3, f4, f5⟩ := hf it (by simp)
    refine wpAny_pyNext_tuple_item st (show s.heap.IsTuple a its.toArray from p) (x := u) (by simpa using hu) fun h' st' sb => ?_
    have I1 : Inv X pins σ H { s with heap := h' } := I.turned (t' := s.toks) (fun b o hb e => (sb.2 b hb).trans e) f0 f1 f3 f4 f5
    obtain ⟨o, e, c, d⟩ := id st'
    exact ⟨u, rfl, go_of (s := { s with heap := h' }) e c d (by decide) ⟨x, H, I1, ru, ⟨rfl, fun ys hy => by rw [I.tuple_inj hy hq]; exact hx⟩, st', fun b hb => (hf b hb).1⟩⟩
  done := by
    intro X hP hw hK hc i pins s σ H E I hf st hg
    subst hP hw hK
    obtain ⟨xs, hq, hx⟩ := hg
    obtain ⟨its, rv, p, hz⟩ := I.tuple hq
    obtain ⟨f0, f1, f2, f3, f4, f5⟩ := hf it (by simp)
    have hl := rv.length
    exact wpAny_pyNext_tuple_end (I.ok.hd hc) st (show s.heap.IsTuple a its.toArray from p) (by simp; omega) fun h' eb => ⟨rfl, I.turned (t' := s.toks) (fun b o hb e => eb b o hb e) f0 f1 f3 f4 f5⟩
  self := fun _ _ _ _ _ st h => wpAny_pyIter_tupleiter st h
theorem turn_range {P : Program} {w : World} {K : PySem.W.Frag} {tg : Expr} (it : Addr) (lo : Int) (n : Nat) : Turn P w K tg (Itr lo n) [it] it (fun i h => IsRangeIter h it (lo + (i : Nat) * 1) ((n : Int) - (i : Nat)) 1) where
  mem := by simp
  obj := fun i h st b hb => by
    have e : b = it := by simpa using hb
    subst e
    exact ⟨_, st, fun v z => by
      have z' : Data.fields _ = Data.cell v := z
      cases z'⟩
  keep := fun i h h' st k => k it (by simp) _ st
  item := by
    intro X hP hw hK hc i pins s σ H E I hf st hg
    subst hP hw hK
    obtain ⟨f0, f1, f2, f3, f4, f5⟩ := hf it (by simp)
    have W := Walks.range (prog := X.prog) (w := X.w) (I.ok.hd hc) it lo 1 n
    refine W.item i s _ _ hg st fun v h' tk hv st' kk => ?_
    obtain ⟨t, rfl⟩ := hv
    have I1 : Inv X pins σ H { s with heap := h', toks := tk } := I.turned (fun b o hb e => kk b o (by simpa using hb) e) f0 f1 f3 f4 f5
    refine ⟨_, rfl, go_of (s := { s with heap := h', toks := tk }) (n := "range_iterator") st' rfl rfl (by decide) ⟨.int (lo + i), H, I1, ⟨t, ?_⟩, ⟨rfl, rfl⟩, st', fun b hb => (hf b hb).1⟩⟩
    rw [Int.mul_one]
  done := by
    intro X hP hw hK hc i pins s σ H E I hf st hg
    subst hP hw hK
    obtain ⟨f0, f1, f2, f3, f4, f5⟩ := hf it (by simp)
    exact wpAny_pyNext_range_end (I.ok.hd hc) st (by have : n <= i := hg; omega) fun h' eb => ⟨rfl, I.turned (t' := s.toks) (fun b o hb e => eb b o hb e) f0 f1 f3 f4 f5⟩
  self := fun _ _ _ _ _ st h => wpAny_pyIter_rangeiter st h
section
variable {X : Cx} {tg : Expr}
theorem range_it {pins : List (Addr × Obj)} {σ : St} {H : Hp} {s : Shared} {R : It -> Hp -> Prop} {E : Value -> Shared -> Prop} {lo hi : Int} {t u v : Tok} {tk : Nat} (I : Inv X pins σ H s) (h1 : -(2 ^ 62) <= lo) (h2 : lo < 2 ^ 62) (h3 : -(2 ^ 62) <= hi) (h4 : hi < 2 ^ 62)
    (q : R (Itr lo (hi - lo).toNat) H) : wpAny (model X.prog X.w) X.A (pyIter (.ref s.heap.objs.size)) (PIE X pins σ tg R) E { s with heap := s.heap.push { cls := .type "range", data := .fields #[.int lo t, .int hi u, .int 1 v] }, toks := tk } := by
  refine wpAny_pyIter_range (IsRange.new ..) (small_one h1 h2 h3 h4) ?_
  have I1 : Inv X pins σ H { s with heap := s.heap.push { cls := .type "range", data := .fields #[.int lo t, .int hi u, .int 1 v] }, toks := tk } := I.kept fun b o e => Heap.get?_push_of_some _ e
  refine ⟨(s.heap.push { cls := .type "range", data := .fields #[.int lo t, .int hi u, .int 1 v] }).objs.size, [(s.heap.push { cls := .type "range", data := .fields #[.int lo t, .int hi u, .int 1 v] }).objs.size], _, _, H, rfl,
    I1.kept (t' := tk) fun b o e => Heap.get?_push_of_some _ e, turn_range _ lo (hi - lo).toNat, ?_, fun b hb => ?_, q⟩
  . have e1 : lo + ((0 : Nat) : Int) * 1 = lo := by simp
    have e2 : (((hi - lo).toNat : Nat) : Int) - ((0 : Nat) : Int) = Builtin.Range.rangeSize lo hi 1 := by rw [rangeSize_one]; split <;> omega
    show IsRangeIter _ _ (lo + ((0 : Nat) : Int) * 1) ((((hi - lo).toNat : Nat) : Int) - ((0 : Nat) : Int)) 1
    rw [e1, e2]
    exact Heap.get?_push_size _ rfl
  . have e : b = (s.heap.push { cls := .type "range", data := .fields #[.int lo t, .int hi u, .int 1 v] }).objs.size := by simpa using hb
    subst e
    exact I1.fpOk (Nat.le_refl _) (I1.hok.fresh (Nat.le_refl _))
def iRng1 (ta : TA) : TI := fun σ H R => ta σ H fun vs H1 => ∃ j : Int, vs = [.int j] /\ -(2 ^ 62) <= j /\ j < 2 ^ 62 /\ R (Itr 0 j.toNat) H1
theorem pi_range1 {a : Expr} {ta : TA} {p pos : Pos} (hg : Gl X "range") (hm : X.mg "range" = none) (ha : PA X [a] ta) (hs : starEach [a] X.env = [(false, eval a X.env)] := by rfl) : PI X tg (.Call (.Name "range" p) [a] [] pos) (iRng1 ta) := by
  intro pins s σ H R I h
  refine Call_ (ld_blt I hg hm boot_range (PyProof.Rows.callWith_type1 (thn (ha pos pins s σ H _ I h) fun us s1 ⟨vs, H1, I1, r1, q1⟩ => ?_) hs rfl))
  obtain ⟨j, e, q1, q2, q⟩ := q1
  subst e
  cases r1 with
  | cons r rr =>
    cases rr
    obtain ⟨t, rfl⟩ := r
    exact call_range_1 (range_it I1 (by omega) (by omega) q1 q2 (by simpa using q))
def tFor (wi : TI) (g : TG) (tb : TS) : TS := fun D σ H => wi σ H fun J H1 => ∃ W : Nat -> Nat -> St -> Hp -> Prop, (∃ m, W 0 m σ H1) /\ ∀ i m σ H, W i m σ H ->
  (J.stop i H /\ D.nx σ H) \/ (J.go i H /\ ∃ N : St -> Hp -> Prop, (∀ σ' H', N σ' H' -> ∃ m', m' < m /\ W (i + 1) m' σ' H') /\ ∀ x H', J.yld i H x H' -> g x σ H' fun σ2 H2 => tb { D with nx := N, ct := N, bk := D.nx } σ2 H2)
def pinsAt (fp : List Addr) (h : Heap) : List (Addr × Obj) := fp.filterMap fun b => (h.get? b).map fun o => (b, o)
theorem mem_pinsAt {fp : List Addr} {h : Heap} {b : Addr} {o : Obj} (hb : b ∈ fp) (e : h.get? b = some o) : (b, o) ∈ pinsAt fp h := List.mem_filterMap.mpr ⟨b, hb, by rw [e]; rfl⟩
theorem of_pinsAt {fp : List Addr} {h : Heap} {p : Addr × Obj} (hp : p ∈ pinsAt fp h) : p.1 ∈ fp /\ h.get? p.1 = some p.2 := by
  obtain ⟨b, hb, e⟩ := List.mem_filterMap.mp hp
  cases q : h.get? b with
  | none => rw [q] at e; cases e
  | some o =>
    rw [q] at e
    have e' : (b, o) = p := Option.some.inj e
    subst e'
    exact ⟨hb, q⟩
theorem Inv.pinned {pins : List (Addr × Obj)} {σ : St} {H : Hp} {s : Shared} {fp : List Addr} (I : Inv X pins σ H s) (hf : ∀ b ∈ fp, FpOk X pins H b) (ho : ∀ b ∈ fp, ∃ o, s.heap.get? b = some o /\ ∀ v, o.data ≠ .cell v) : Inv X (pins ++ pinsAt fp s.heap) σ H s :=
  I.pins_of fun p hp => (List.mem_append.mp hp).elim (fun z => I.pin p (List.mem_append_right _ z)) fun z => by
    obtain ⟨hb, e⟩ := of_pinsAt z
    obtain ⟨f0, f1, f2, _⟩ := hf p.1 hb
    obtain ⟨o, e', d⟩ := ho p.1 hb
    rw [e] at e'; cases e'
    exact ⟨e, f0, f1, f2, d⟩
theorem Inv.unpinned {pins pl : List (Addr × Obj)} {σ : St} {H : Hp} {s : Shared} (I : Inv X (pins ++ pl) σ H s) : Inv X pins σ H s := I.pins_of fun p hp => I.pin p (List.mem_append_right _ (List.mem_append_left _ hp))
theorem ps_for {iter : Expr} {body : List Stmt} {wi : TI} {g : TG} {tb : TS} {pos : Pos} (hp : PassesOwn (model X.prog X.w) X.A X.env X.xe) (hc : X.calm = true) (hi : PI X tg iter wi) (hg : PG X tg g) (hb : PSs X body tb)
    (hs : ∀ x, foldedSetIterable iter X.env x = pure x := by intro _; rfl) : PS X (.For tg iter body [] pos) (tFor wi g tb) := by
  intro pins s σ H D I h
  refine wpAny_For (thn (hi pins s σ H _ I h) fun v s1 h1 => thn h1 fun itv s2 h2 => ?_) hs
  obtain ⟨it, fp, tn, J, H2, e, I2, T, st2, f2, W, ⟨m0, w0⟩, turn⟩ := h2
  subst e
  -- what stays true of the iterator's objects through the loop
  have stat : ∀ {H' : Hp}, (∀ b ∈ fp, H' b = none) -> ∀ b ∈ fp, FpOk X pins H' b := fun hn b hb => ⟨hn b hb, (f2 b hb).2⟩
  refine codeAny_forLoop_any (fun n s' => ∃ i σ' H', Inv X pins σ' H' s' /\ tn i s'.heap /\ (∀ b ∈ fp, H' b = none) /\ W i n σ' H') ?_ m0 ⟨0, σ, H2, I2, st2, fun b hb => (f2 b hb).1, w0⟩
  rintro n s3 ⟨i, σ3, H3, I3, st3, fr3, w3⟩
  rcases turn i n σ3 H3 w3 with ⟨stop, qn⟩ | ⟨go, N, hN, step⟩
  . refine wpAny_passesOwn hp (thn (T.done X rfl rfl rfl hc i pins s3 σ3 H3 X.xe I3 (stat fr3) st3 stop) fun r s4 ⟨hr, I4⟩ => ?_)
    subst hr
    exact wpAny_execs_nil ⟨σ3, H3, I4, qn⟩
  . refine wpAny_passesOwn hp (thn (T.item X rfl rfl rfl hc i pins s3 σ3 H3 X.xe I3 (stat fr3) st3 go) fun r s4 ⟨u, hr, h4⟩ => ?_)
    subst hr
    refine wpAny_passesOwn hp (thn h4 fun _ s5 ⟨x, H5, I5, r5, y5, st5, fr5⟩ => ?_)
    have I5' := I5.pinned (stat fr5) (T.obj _ _ st5)
    refine wpAny_passesOwn hp (thn (hg _ s5 σ3 H5 x u _ I5' r5 (step x H5 y5)) fun _ s6 ⟨σ6, H6, I6, q6⟩ => ?_)
    refine wpAny_passesOwn hp (thn (hb _ s6 σ6 H6 _ I6 q6) fun f s7 q7 => ?_)
    have again : ∀ {σ7 : St} {H7 : Hp}, Inv X (pins ++ pinsAt fp s5.heap) σ7 H7 s7 -> N σ7 H7 -> ∃ m, m < n /\ ∃ i σ' H', Inv X pins σ' H' s7 /\ tn i s7.heap /\ (∀ b ∈ fp, H' b = none) /\ W i m σ' H' := fun {σ7 H7} I7 n7 => by
      obtain ⟨m', hm, w7⟩ := hN σ7 H7 n7
      refine ⟨m', hm, i + 1, σ7, H7, I7.unpinned, T.keep _ _ _ st5 fun b hb o e => (I7.pin (b, o) (List.mem_append_right _ (List.mem_append_right _ (mem_pinsAt hb e)))).1, fun b hb => ?_, w7⟩
      obtain ⟨o, e, d⟩ := T.obj _ _ st5 b hb
      exact (I7.pin (b, o) (List.mem_append_right _ (List.mem_append_right _ (mem_pinsAt hb e)))).2.1
    cases f with
    | next => obtain ⟨σ7, H7, I7, n7⟩ := q7; exact again I7 n7
    | cont => obtain ⟨σ7, H7, I7, n7⟩ := q7; exact again I7 n7
    | brk => obtain ⟨σ7, H7, I7, q7⟩ := q7; exact ⟨σ7, H7, I7.unpinned, q7⟩
    | ret v => obtain ⟨x7, σ7, H7, I7, r7, q7⟩ := q7; exact ⟨x7, σ7, H7, I7.unpinned, r7, q7⟩
end
theorem for_list {K : PySem.W.Frag} {a : Addr} {xs : List V} {g : TG} {tb : TS} {D : Ends} {σ : St} {H : Hp} (Pv : Nat -> St -> Hp -> Prop) (h0 : Pv 0 σ H) (hl : ∀ i σ H, i <= xs.length -> Pv i σ H -> SqL K H a xs)
    (hs : ∀ i x σ H, xs[i]? = some x -> Pv i σ H -> g x σ H fun σ2 H2 => tb { D with nx := Pv (i + 1), ct := Pv (i + 1), bk := D.nx } σ2 H2) (hd : ∀ σ H, Pv xs.length σ H -> D.nx σ H) :
    ∃ W : Nat -> Nat -> St -> Hp -> Prop, (∃ m, W 0 m σ H) /\ ∀ i m σ H, W i m σ H ->
      ((Itl K a).stop i H /\ D.nx σ H) \/ ((Itl K a).go i H /\ ∃ N : St -> Hp -> Prop, (∀ σ' H', N σ' H' -> ∃ m', m' < m /\ W (i + 1) m' σ' H') /\ ∀ x H', (Itl K a).yld i H x H' -> g x σ H' fun σ2 H2 => tb { D with nx := N, ct := N, bk := D.nx } σ2 H2) := by
  refine ⟨fun i m σ H => m = xs.length - i /\ i <= xs.length /\ Pv i σ H, ⟨xs.length, by simp, Nat.zero_le _, h0⟩, ?_⟩
  rintro i m σ H ⟨rfl, hi, p⟩
  have q := hl i σ H hi p
  by_cases hlt : i < xs.length
  . refine .inr ⟨⟨xs, xs[i], q, by simp [hlt]⟩, Pv (i + 1), fun σ' H' p' => ⟨xs.length - (i + 1), by omega, rfl, hlt, p'⟩, fun x H' y => ?_⟩
    obtain ⟨e, y⟩ := y
    subst e
    exact hs i x σ _ (y xs q) p
  . have e : i = xs.length := by omega
    subst e
    exact .inl ⟨⟨xs, q, Nat.le_refl _⟩, hd σ H p⟩
theorem for_tup {K : PySem.W.Frag} {a : Addr} {xs : List V} {g : TG} {tb : TS} {D : Ends} {σ : St} {H : Hp} (Pv : Nat -> St -> Hp -> Prop) (h0 : Pv 0 σ H) (hl : ∀ i σ H, i <= xs.length -> Pv i σ H -> SqT K H a xs)
    (hs : ∀ i x σ H, xs[i]? = some x -> Pv i σ H -> g x σ H fun σ2 H2 => tb { D with nx := Pv (i + 1), ct := Pv (i + 1), bk := D.nx } σ2 H2) (hd : ∀ σ H, Pv xs.length σ H -> D.nx σ H) :
    ∃ W : Nat -> Nat -> St -> Hp -> Prop, (∃ m, W 0 m σ H) /\ ∀ i m σ H, W i m σ H ->
      ((Itt K a).stop i H /\ D.nx σ H) \/ ((Itt K a).go i H /\ ∃ N : St -> Hp -> Prop, (∀ σ' H', N σ' H' -> ∃ m', m' < m /\ W (i + 1) m' σ' H') /\ ∀ x H', (Itt K a).yld i H x H' -> g x σ H' fun σ2 H2 => tb { D with nx := N, ct := N, bk := D.nx } σ2 H2) := by
  refine ⟨fun i m σ H => m = xs.length - i /\ i <= xs.length /\ Pv i σ H, ⟨xs.length, by simp, Nat.zero_le _, h0⟩, ?_⟩
  rintro i m σ H ⟨rfl, hi, p⟩
  have q := hl i σ H hi p
  by_cases hlt : i < xs.length
  . refine .inr ⟨⟨xs, xs[i], q, by simp [hlt]⟩, Pv (i + 1), fun σ' H' p' => ⟨xs.length - (i + 1), by omega, rfl, hlt, p'⟩, fun x H' y => ?_⟩
    obtain ⟨e, y⟩ := y
    subst e
    exact hs i x σ _ (y xs q) p
  . have e : i = xs.length := by omega
    subst e
    exact .inl ⟨⟨xs, q, Nat.le_refl _⟩, hd σ H p⟩
theorem for_range {lo : Int} {n : Nat} {g : TG} {tb : TS} {D : Ends} {σ : St} {H : Hp} (Pv : Nat -> St -> Hp -> Prop) (h0 : Pv 0 σ H)
    (hs : ∀ i σ H, i < n -> Pv i σ H -> g (.int (lo + i)) σ H fun σ2 H2 => tb { D with nx := Pv (i + 1), ct := Pv (i + 1), bk := D.nx } σ2 H2) (hd : ∀ σ H, Pv n σ H -> D.nx σ H) :
    ∃ W : Nat -> Nat -> St -> Hp -> Prop, (∃ m, W 0 m σ H) /\ ∀ i m σ H, W i m σ H ->
      ((Itr lo n).stop i H /\ D.nx σ H) \/ ((Itr lo n).go i H /\ ∃ N : St -> Hp -> Prop, (∀ σ' H', N σ' H' -> ∃ m', m' < m /\ W (i + 1) m' σ' H') /\ ∀ x H', (Itr lo n).yld i H x H' -> g x σ H' fun σ2 H2 => tb { D with nx := N, ct := N, bk := D.nx } σ2 H2) := by
  refine ⟨fun i m σ H => m = n - i /\ i <= n /\ Pv i σ H, ⟨n, by simp, Nat.zero_le _, h0⟩, ?_⟩
  rintro i m σ H ⟨rfl, hi, p⟩
  by_cases hlt : i < n
  . refine .inr ⟨hlt, Pv (i + 1), fun σ' H' p' => ⟨n - (i + 1), by omega, rfl, hlt, p'⟩, fun x H' y => ?_⟩
    obtain ⟨e, y⟩ := y
    subst e y
    exact hs i σ _ hlt p
  . have e : i = n := by omega
    subst e
    exact .inl ⟨Nat.le_refl _, hd σ H p⟩
abbrev R2 := V -> V -> Hp -> VK -> Prop
def OpR (X : Cx) (f : Value -> Value -> Sem Value) (r : R2) : Prop :=
  ∀ (pins : List (Addr × Obj)) (s : Shared) (σ : St) (H : Hp) (x y : V) (v u : Value) (Q : VK), Inv X pins σ H s -> RelV x v -> RelV y u -> r x y H Q ->
    wpAny (model X.prog X.w) X.A (f v u) (EP X pins σ Q) X.xe s
def UnR (X : Cx) (f : Value -> Sem Value) (r : V -> Hp -> VK -> Prop) : Prop :=
  ∀ (pins : List (Addr × Obj)) (s : Shared) (σ : St) (H : Hp) (x : V) (v : Value) (Q : VK), Inv X pins σ H s -> RelV x v -> r x H Q ->
    wpAny (model X.prog X.w) X.A (f v) (EP X pins σ Q) X.xe s
def CallR (X : Cx) (f : Value) (r : List V -> Hp -> VK -> Prop) : Prop :=
  ∀ (pins : List (Addr × Obj)) (s : Shared) (σ : St) (H : Hp) (xs : List V) (us : List Value) (Q : VK), Inv X pins σ H s -> Vals xs us -> r xs H Q ->
    wpAny (model X.prog X.w) X.A (call f us) (EP X pins σ Q) X.xe s
def tOp (r : R2) (ta tb : TE) : TE := fun σ H Q => ta σ H fun x H1 => tb σ H1 fun y H2 => r x y H2 Q
def tUn (r : V -> Hp -> VK -> Prop) (ta : TE) : TE := fun σ H Q => ta σ H fun x H1 => r x H1 Q
def rI (C : Int -> Int -> Prop) (g : Int -> Int -> V) : R2 := fun x y H Q => ∃ i j, x = .int i /\ y = .int j /\ C i j /\ Q (g i j) H
def rI0 (g : Int -> Int -> V) : R2 := fun x y H Q => ∃ i j, x = .int i /\ y = .int j /\ Q (g i j) H
def rU (g : Int -> V) : V -> Hp -> VK -> Prop := fun x H Q => ∃ i, x = .int i /\ Q (g i) H
section
variable {X : Cx} {a b c : Expr} {ta tb tc : TE} {pos : Pos}
theorem binT (ha : PE X a ta) (hb : PE X b tb) {pins : List (Addr × Obj)} {s : Shared} {σ : St} {H : Hp} {R : V -> V -> Hp -> Prop} (I : Inv X pins σ H s)
    (h : ta σ H fun x H1 => tb σ H1 fun y H2 => R x y H2) {Q : Value -> Shared -> Prop} {f : Value -> Value -> Sem Value}
    (hf : ∀ v u s2 x y H2, Inv X pins σ H2 s2 -> RelV x v -> RelV y u -> R x y H2 -> wpAny (model X.prog X.w) X.A (f v u) Q X.xe s2) :
    wpAny (model X.prog X.w) X.A (eval a X.env) (fun v s₁ => wpAny (model X.prog X.w) X.A (eval b X.env) (fun u s₂ => wpAny (model X.prog X.w) X.A (f v u) Q X.xe s₂) X.xe s₁) X.xe s := by
  refine thn (ha pins s σ H _ I h) fun v s1 ⟨x, H1, I1, r1, q1⟩ => ?_
  refine thn (hb pins s1 σ H1 _ I1 q1) fun u s2 ⟨y, H2, I2, r2, q2⟩ => ?_
  exact hf v u s2 x y H2 I2 r1 r2 q2
theorem pe_op {op : Operator} {r : R2} (ho : OpR X (binaryOp op) r) (ha : PE X a ta) (hb : PE X b tb) : PE X (.BinOp a op b pos) (tOp r ta tb) := by
  intro pins s σ H Q I h
  exact wpAny_BinOp (binT ha hb I h fun v u s2 x y H2 I2 rx ry q => ho pins s2 σ H2 x y v u Q I2 rx ry q)
theorem pe_un {op : UnaryOp} {r : V -> Hp -> VK -> Prop} (ho : UnR X (unaryOp op) r) (ha : PE X a ta) : PE X (.UnaryOp op a pos) (tUn r ta) := by
  intro pins s σ H Q I h
  exact UnaryOp_ (thn (ha pins s σ H _ I h) fun v s1 ⟨x, H1, I1, r1, q1⟩ => ho pins s1 σ H1 x v Q I1 r1 q1)
theorem opI {f : Value -> Value -> Sem Value} {C : Int -> Int -> Prop} {g : Int -> Int -> Int}
    (rule : ∀ (i j : Int) (t u : Tok) (s : Shared) (Q : Value -> Shared -> Prop) (E : Value -> Shared -> Prop), C i j -> Q (.int (g i j) s.toks) { s with toks := s.toks + 1 } -> wpAny (model X.prog X.w) X.A (f (.int i t) (.int j u)) Q E s) :
    OpR X f (rI C fun i j => .int (g i j)) := by
  intro pins s σ H x y v u Q I rx ry h
  obtain ⟨i, j, rfl, rfl, hc, q⟩ := h
  obtain ⟨t, rfl⟩ := rx
  obtain ⟨t', rfl⟩ := ry
  exact rule i j t t' s _ _ hc ⟨.int (g i j), H, I.tok _, ⟨_, rfl⟩, q⟩
theorem opI0 {f : Value -> Value -> Sem Value} {g : Int -> Int -> Int}
    (rule : ∀ (i j : Int) (t u : Tok) (s : Shared) (Q : Value -> Shared -> Prop) (E : Value -> Shared -> Prop), Q (.int (g i j) s.toks) { s with toks := s.toks + 1 } -> wpAny (model X.prog X.w) X.A (f (.int i t) (.int j u)) Q E s) :
    OpR X f (rI0 fun i j => .int (g i j)) := by
  intro pins s σ H x y v u Q I rx ry h
  obtain ⟨i, j, rfl, rfl, q⟩ := h
  obtain ⟨t, rfl⟩ := rx
  obtain ⟨t', rfl⟩ := ry
  exact rule i j t t' s _ _ ⟨.int (g i j), H, I.tok _, ⟨_, rfl⟩, q⟩
theorem opB0 {f : Value -> Value -> Sem Value} {g : Int -> Int -> Bool}
    (rule : ∀ (i j : Int) (t u : Tok) (s : Shared) (Q : Value -> Shared -> Prop) (E : Value -> Shared -> Prop), Q (.bool (g i j)) s -> wpAny (model X.prog X.w) X.A (f (.int i t) (.int j u)) Q E s) :
    OpR X f (rI0 fun i j => .bl (g i j)) := by
  intro pins s σ H x y v u Q I rx ry h
  obtain ⟨i, j, rfl, rfl, q⟩ := h
  obtain ⟨t, rfl⟩ := rx
  obtain ⟨t', rfl⟩ := ry
  exact rule i j t t' s _ _ ⟨.bl (g i j), H, I, rfl, q⟩
def CPow (i j : Int) : Prop := 0 <= j /\ j <= 1000000 /\ i.natAbs < 2 ^ 64
def CMul (i j : Int) : Prop := (-(2 ^ 64) < i /\ i < 2 ^ 64) \/ (-(2 ^ 64) < j /\ j < 2 ^ 64)
theorem CMul.ok {i j : Int} (h : CMul i j) : IntMulOk i j := by
  rcases h with ⟨h1, h2⟩ | ⟨h1, h2⟩
  . exact .of_left (intBits_le_64 h1 h2)
  . exact .of_right (intBits_le_64 h1 h2)
theorem op_add : OpR X (binaryOp .Add) (rI0 fun i j => .int (i + j)) := opI0 fun _ _ _ _ _ _ _ q => add_int q
theorem op_sub : OpR X (binaryOp .Sub) (rI0 fun i j => .int (i - j)) := opI0 fun _ _ _ _ _ _ _ q => sub_int q
theorem op_mod : OpR X (binaryOp .Mod) (rI (fun _ j => 0 < j) fun i j => .int (i % j)) := opI fun i j _ _ _ _ _ hc q => by
  have h1 : (0 : Int) < j := hc
  exact mod_int' (by omega) (by rw [Int.fmod_eq_emod_of_nonneg i (by omega)]; exact q)
theorem op_pow : OpR X (binaryOp .Pow) (rI CPow fun i j => .int (i ^ j.toNat)) := opI fun _ _ _ _ _ _ _ hc q => pow_int_small hc.1 hc.2.1 hc.2.2 q
theorem op_and : OpR X (binaryOp .BitAnd) (rI0 fun i j => .int (Builtin.bitAnd i j)) := opI0 fun _ _ _ _ _ _ _ q => and_int q
theorem op_or : OpR X (binaryOp .BitOr) (rI0 fun i j => .int (Builtin.bitOr i j)) := opI0 fun _ _ _ _ _ _ _ q => or_int q
theorem op_xor : OpR X (binaryOp .BitXor) (rI0 fun i j => .int (Builtin.bitXor i j)) := opI0 fun _ _ _ _ _ _ _ q => xor_int q
theorem unI {f : Value -> Sem Value} {g : Int -> Int}
    (rule : ∀ (i : Int) (t : Tok) (s : Shared) (Q : Value -> Shared -> Prop) (E : Value -> Shared -> Prop), Q (.int (g i) s.toks) { s with toks := s.toks + 1 } -> wpAny (model X.prog X.w) X.A (f (.int i t)) Q E s) :
    UnR X f (rU fun i => .int (g i)) := by
  intro pins s σ H x v Q I rx h
  obtain ⟨i, rfl, q⟩ := h
  obtain ⟨t, rfl⟩ := rx
  exact rule i t s _ _ ⟨.int (g i), H, I.tok _, ⟨_, rfl⟩, q⟩
theorem un_neg : UnR X (unaryOp .USub) (rU fun i => .int (-i)) := unI fun _ _ _ _ _ q => neg_int q
end
section
variable {X : Cx} {a b c : Expr} {ta tb tc : TE} {pos : Pos}
theorem fin_bl {pins : List (Addr × Obj)} {σ : St} {H : Hp} {s : Shared} {Q : VK} {k k' : Bool} (I : Inv X pins σ H s) (q : Q (.bl k) H) (e : k = k') : EP X pins σ Q (.bool k') s := by
  subst e
  exact ⟨.bl k, H, I, rfl, q⟩
theorem op_lt : OpR X (compareOp .Lt) (rI0 fun i j => .bl (decide (i < j))) := opB0 fun _ _ _ _ _ _ _ q => lt_int q
theorem op_le : OpR X (compareOp .LtE) (rI0 fun i j => .bl (decide (i <= j))) := opB0 fun _ _ _ _ _ _ _ q => le_int q
theorem op_gt : OpR X (compareOp .Gt) (rI0 fun i j => .bl (decide (j < i))) := opB0 fun _ _ _ _ _ _ _ q => gt_int q
theorem op_notN : OpR X (compareOp .IsNot) (fun x y H Q => y = .non /\ Q (.bl (!decide (x = .non))) H) := by
  intro pins s σ H x y v u Q I rx ry h
  obtain ⟨rfl, q⟩ := h
  cases ry
  refine isnot_none_gen (fin_bl I q ?_)
  cases x <;> first
    | (cases rx; rfl)
    | (obtain ⟨t, rfl⟩ := rx; rfl)
theorem pe_cmpR {op : CmpOp} {r : R2} (ho : OpR X (compareOp op) r) (ha : PE X a ta) (hb : PE X b tb) (hm : behindInMarks op b = false) : PE X (.Compare a [op] [b] pos) (tOp r ta tb) := by
  intro pins s σ H Q I h
  exact wpAny_Compare1 (binT ha hb I h fun v u s2 x y H2 I2 rx ry q => ho pins s2 σ H2 x y v u Q I2 rx ry q) hm
theorem line63 : (sizeLine : Nat) < 2 ^ 63 := by rw [sizeLine_eq]; decide
theorem op_add_str : OpR X (binaryOp .Add) (fun x y H Q => ∃ i j, x = .str i /\ y = .str j /\ i.length + j.length <= sizeLine /\ Q (.str (i ++ j)) H) := by
  intro pins s σ H x y v u Q I rx ry h
  obtain ⟨i, j, rfl, rfl, hz, q⟩ := h
  obtain ⟨t, rfl⟩ := rx
  obtain ⟨t', rfl⟩ := ry
  exact add_str (fun t' tk => ⟨.str (i ++ j), H, I.tok _, ⟨_, rfl⟩, q⟩) hz
theorem vals1 {x : V} {us : List Value} (r : Vals [x] us) : ∃ u, us = [u] /\ RelV x u := by
  cases r with
  | cons r1 r2 => cases r2; exact ⟨_, rfl, r1⟩
theorem vals2 {x y : V} {us : List Value} (r : Vals [x, y] us) : ∃ u w', us = [u, w'] /\ RelV x u /\ RelV y w' := by
  cases r with
  | cons r1 r2 =>
    cases r2 with
    | cons r3 r4 => cases r4; exact ⟨_, _, rfl, r1, r3⟩
theorem call_abs : CallR X (.builtin "abs") (fun xs H Q => ∃ i, xs = [.int i] /\ Q (.int (if i < 0 then -i else i)) H) := by
  intro pins s σ H xs us Q I r h
  obtain ⟨i, rfl, q⟩ := h
  obtain ⟨u, rfl, t, rfl⟩ := vals1 r
  exact call_abs_int fun u tk => ⟨.int (if i < 0 then -i else i), H, I.tok _, ⟨_, rfl⟩, q⟩
theorem call_max2 (hc : X.calm = true) : CallR X (.builtin "max") (fun xs H Q => ∃ i j, xs = [.int i, .int j] /\ Q (.int (if j > i then j else i)) H) := by
  intro pins s σ H xs us Q I r h
  obtain ⟨i, j, rfl, q⟩ := h
  obtain ⟨u, w', rfl, ⟨t, rfl⟩, ⟨t', rfl⟩⟩ := vals2 r
  refine max_two_ints (I.ok.hd hc) fun h' tk k => ⟨_, H, I.kept k, ?_, q⟩
  by_cases hj : j > i
  . rw [if_pos hj, if_pos hj]; exact ⟨_, rfl⟩
  . rw [if_neg hj, if_neg hj]; exact ⟨_, rfl⟩
theorem call_min2 (hc : X.calm = true) : CallR X (.builtin "min") (fun xs H Q => ∃ i j, xs = [.int i, .int j] /\ Q (.int (if j < i then j else i)) H) := by
  intro pins s σ H xs us Q I r h
  obtain ⟨i, j, rfl, q⟩ := h
  obtain ⟨u, w', rfl, ⟨t, rfl⟩, ⟨t', rfl⟩⟩ := vals2 r
  refine min_two_ints (I.ok.hd hc) fun h' tk k => ⟨_, H, I.kept k, ?_, q⟩
  by_cases hj : j < i
  . rw [if_pos hj, if_pos hj]; exact ⟨_, rfl⟩
  . rw [if_neg hj, if_neg hj]; exact ⟨_, rfl⟩
theorem call_int1 : CallR X (.type "int") (fun xs H Q => (∃ i, xs = [.int i] /\ Q (.int i) H) \/ ∃ k, xs = [.bl k] /\ Q (.int (if k then 1 else 0)) H) := by
  intro pins s σ H xs us Q I r h
  rcases h with ⟨i, rfl, q⟩ | ⟨k, rfl, q⟩
  . obtain ⟨u, rfl, t, rfl⟩ := vals1 r
    exact call_int_int ⟨.int i, H, I, ⟨_, rfl⟩, q⟩
  . obtain ⟨u, rfl, r1⟩ := vals1 r
    cases r1
    exact call_int_bool ⟨.int (if k then 1 else 0), H, I.tok _, ⟨_, rfl⟩, q⟩
def LenV (K : PySem.W.Frag) (x : V) (H : Hp) (n : Nat) : Prop :=
  match x with
  | .str y => y.length <= sizeLine /\ n = y.length
  | .byt y => y.size <= sizeLine /\ n = y.size
  | .ref p => (∃ xs, SqL K H p xs /\ n = xs.length) \/ ∃ xs, SqT K H p xs /\ n = xs.length
  | _ => False
theorem call_len : CallR X (.builtin "len") (fun xs H Q => ∃ x n, xs = [x] /\ LenV X.K x H n /\ Q (.int n) H) := by
  intro pins s σ H xs us Q I r h
  obtain ⟨x, n, rfl, e, q⟩ := h
  obtain ⟨u, rfl, rx⟩ := vals1 r
  have hl := line63
  have hs : sizeLine = 16777216 := sizeLine_eq
  cases x with
  | str y =>
    obtain ⟨t, rfl⟩ := rx
    obtain ⟨hy, e'⟩ : y.length <= sizeLine /\ n = y.length := e
    subst e'
    exact len_str (by omega) ⟨.int _, H, I.tok _, ⟨_, rfl⟩, q⟩
  | byt y =>
    obtain ⟨t, rfl⟩ := rx
    obtain ⟨hy, e'⟩ : y.size <= sizeLine /\ n = y.size := e
    subst e'
    exact PySem.W.len_bytes (by omega) ⟨.int _, H, I.tok _, ⟨_, rfl⟩, q⟩
  | ref p =>
    cases rx
    have e' : (∃ xs, SqL X.K H p xs /\ n = xs.length) \/ ∃ xs, SqT X.K H p xs /\ n = xs.length := e
    rcases e' with ⟨xs, hx, e'⟩ | ⟨xs, hx, e'⟩
    . subst e'
      obtain ⟨its, r', pl, hz⟩ := I.list hx
      have hlen := r'.length
      exact Calls.call_len_list pl.isList (by simp only [List.size_toArray]; omega) ⟨.int xs.length, H, I.tok _, ⟨_, by simp only [List.size_toArray]; rw [hlen]⟩, q⟩
    . subst e'
      obtain ⟨its, r', pl, hz⟩ := I.tuple hx
      have hlen := r'.length
      exact len_tuple pl (by simp only [List.size_toArray]; omega) ⟨.int xs.length, H, I.tok _, ⟨_, by simp only [List.size_toArray]; rw [hlen]⟩, q⟩
  | _ => exact (show False from e).elim
end
structure ObjM (h : Heap) (x dx C : Addr) (mA : Str -> Option Value) : Prop where
  obj : h.get? x = some (PySem.W.instObj C dx)
  ns : h.Ns1 dx mA
  ne : dx ≠ x
theorem lookIn_ns {h : Heap} {dx : Addr} {mA : Str -> Option Value} (n : h.Ns1 dx mA) : ∃ od, h.get? dx = some od /\ ∀ name, PySem.W.lookIn name od = some (mA name) := by
  obtain ⟨o, es, ep, ho, hd, hk, _, hm⟩ := n
  refine ⟨o, ho, fun name => ?_⟩
  have e := hm name
  unfold nsFind findBy at e
  rw [<- Array.find?_toList] at e
  unfold PySem.W.lookIn
  rw [hd]
  dsimp only
  split
  . rename_i y q
    rw [q] at e
    exact congrArg some e
  . rename_i q
    rw [q] at e
    have a : es.toList.any (·.refKey) = false := by
      rw [List.any_eq_false]
      intro y hy
      obtain ⟨z, t, hkey⟩ := hk y (Array.mem_toList_iff.mp hy)
      simp [DictEntry.refKey, hkey]
    have a' : ¬ es.toList.any (·.refKey) = true := by rw [a]; exact Bool.false_ne_true
    rw [if_neg a']
    exact congrArg some e
theorem ObjM.look {h : Heap} {x dx C : Addr} {mA : Str -> Option Value} (I : ObjM h x dx C mA) : ∃ od, PySem.W.InstAt h x (PySem.W.instObj C dx) C (some od) /\ ∀ name, PySem.W.lookIn name od = some (mA name) :=
  let ⟨od, ho, hl⟩ := lookIn_ns I.ns
  ⟨od, ⟨I.obj, rfl, rfl, ho⟩, hl⟩
section
variable {prog : Program} {w : World} {A : Around} {E : Value -> Shared -> Prop} {s : Shared} {K : PySem.W.Frag} {x dx C f : Addr} {mA : Str -> Option Value} {name : Str} {v : Value}
end
theorem RelO.some_of {v : V} {o : Option Value} (r : RelO (some v) o) : ∃ u, o = some u /\ RelV v u := by
  cases o with
  | none => exact (show False from r).elim
  | some u => exact ⟨u, rfl, r⟩
section
variable {P : Program} {w : World} {H H' : Hp} {h h' : Heap} {a C dx : Addr} {fs fs' : List (Str × V)}
theorem ins_get (hok : HOk P w H h) (e : H a = some (.ins C dx fs)) : ∃ mA, ObjM h a dx C mA /\ (∀ f, RelO (fs.lookup f) (mA f)) /\ PySem.Within mA (fs.map (·.1)) /\ fs.length <= 1000 /\ H dx = some (.own a) := by
  obtain ⟨d, z, ne, ob, mA, n, r, q⟩ := (show ObjOk P w H h a (.ins C dx fs) from hok a _ e)
  exact ⟨mA, ⟨ob, n, ne⟩, r, q, z, d⟩
end
structure Cls (K : PySem.W.Frag) (C : Addr) : Prop where
  pg : PySem.W.plainGet K C Str.empty = true
  hd : PySem.W.hasDictIn K C = true
  po : PySem.W.plainOver K C = true
  sa : PySem.W.findIn K (.ref C) "__setattr__" = some (some (.builtin "object.__setattr__"))
theorem Cls.get {K : PySem.W.Frag} {C : Addr} (c : Cls K C) (f : Str) : PySem.W.plainGet K C f = true := c.pg
structure Con (K : PySem.W.Frag) (C : Addr) (f : Str) (v : V) (u : Value) : Prop where
  at_ : PySem.W.findIn K (.ref C) f = some (some u)
  rel : RelV v u
  get : PySem.W.specialIn K u "__get__" = some none
  cp : PySem.W.copiedNames.contains f = false
structure Meth (K : PySem.W.Frag) (C : Addr) (m : Str) (f : Addr) : Prop where
  at_ : PySem.W.findIn K (.ref C) m = some (some (.ref f))
  fn : PySem.W.isFn K (.ref f) = true
  kp : PySem.W.keepIn K (.ref f) = true
section
variable {X : Cx} {pins : List (Addr × Obj)} {σ : St} {H : Hp} {s : Shared} {a C dx : Addr} {fs : List (Str × V)} {f : Str} {v : V} {A : Around} {E : Value -> Shared -> Prop}
end
section
variable {X : Cx} {o e value : Expr} {f : Str} {pos pos' tpos : Pos} {ta tv : TE}
end
section
variable {X : Cx} {pins : List (Addr × Obj)} {σ : St} {H : Hp} {s : Shared} {A : Around} {E : Value -> Shared -> Prop} {Q : Value -> Shared -> Prop} {c : Value} {b : Bool}
inductive TyOf (K : PySem.W.Frag) (H : Hp) : V -> Value -> Prop where
  | non : TyOf K H .non (.type "NoneType")
  | bl (x : Bool) : TyOf K H (.bl x) (.type "bool")
  | int (i : Int) : TyOf K H (.int i) (.type "int")
  | str (x : Str) : TyOf K H (.str x) (.type "str")
  | flt (x : UInt64) : TyOf K H (.flt x) (.type "float")
  | lst {a : Addr} {xs : List V} (e : H a = some (.lst xs)) : TyOf K H (.ref a) (.type "list")
  | frz {a : Addr} {o : Obj} {xs : List V} (e : H a = some (.frz o (.lst xs))) : TyOf K H (.ref a) (.type "list")
  | tup {a : Addr} {xs : List V} (e : H a = some (.tup xs)) : TyOf K H (.ref a) (.type "tuple")
  | dK {a : Addr} {kvs : List (Key × V)} (e : H a = some (.dK kvs)) : TyOf K H (.ref a) (.type "dict")
  | dT {a : Addr} {kvs : List (List Key × V)} (e : H a = some (.dT kvs)) : TyOf K H (.ref a) (.type "dict")
  | ins {a C dx : Addr} {fs : List (Str × V)} (e : H a = some (.ins C dx fs)) (cl : Cls K C) (ha : PySem.W.findIn K (.ref C) "__class__" = some (some (.builtin "object.__class__")))
      (hn : PySem.W.specialIn K (.builtin "object.__class__") "__get__" = some (some (.builtin "getset_descriptor.__get__"))) (htk : PySem.W.takesIn K (.builtin "object.__class__") = some true)
      (hm : PySem.W.mroIn K C (.type "object") = some true) : TyOf K H (.ref a) (.ref C)
theorem isinst_ok {x : V} {u t : Value} (I : Inv X pins σ H s) (rx : RelV x u) (ty : TyOf X.K H x t) (e : PySem.W.kitOne X.K t c = some b) (h : ∀ tk, Q (.bool b) { s with toks := tk }) :
    wpAny (model X.prog X.w) A (call (.builtin "isinstance") [u, c]) Q E s := by
  cases ty with
  | non => cases (show u = Value.none from rx); exact PySem.W.kia_one PySem.W.kitx_none I.kIn True.intro e (fun z => nomatch z) h
  | bl y => cases (show u = Value.bool y from rx); exact PySem.W.kia_one PySem.W.kitx_bool I.kIn True.intro e (fun z => nomatch z) h
  | int i => obtain ⟨t, q⟩ := (show ∃ t, u = Value.int i t from rx); cases q; exact PySem.W.kia_one PySem.W.kitx_int I.kIn True.intro e (fun z => nomatch z) h
  | str y => obtain ⟨t, q⟩ := (show ∃ t, u = Value.str y t from rx); cases q; exact PySem.W.kia_one PySem.W.kitx_str I.kIn True.intro e (fun z => nomatch z) h
  | flt y => obtain ⟨t, q⟩ := (show ∃ t, u = Value.float y t from rx); cases q; exact PySem.W.kia_one PySem.W.kitx_float I.kIn True.intro e (fun z => nomatch z) h
  | @lst a xs ea =>
    cases (show u = Value.ref a from rx)
    obtain ⟨_, _, n, _, h1⟩ := (show ObjOk X.prog X.w H s.heap a (.lst xs) from I.hok a _ ea)
    exact PySem.W.kia_one PySem.W.kitx_list I.kIn ⟨_, h1, rfl⟩ e (fun z => nomatch z) h
  | @frz a ob xs ea =>
    cases (show u = Value.ref a from rx)
    obtain ⟨_, _, _, n, _, h1⟩ := (show ObjOk X.prog X.w H s.heap a (.frz ob (.lst xs)) from I.hok a _ ea)
    exact PySem.W.kia_one PySem.W.kitx_list I.kIn ⟨_, h1, rfl⟩ e (fun z => nomatch z) h
  | @tup a xs ea =>
    cases (show u = Value.ref a from rx)
    obtain ⟨_, _, _, p⟩ := (show ObjOk X.prog X.w H s.heap a (.tup xs) from I.hok a _ ea)
    obtain ⟨o, h1, h2, _⟩ := p
    exact PySem.W.kia_one PySem.W.kitx_tuple I.kIn ⟨o, h1, h2⟩ e (fun z => nomatch z) h
  | @dK a kvs ea =>
    cases (show u = Value.ref a from rx)
    obtain ⟨_, _, vs, _, p⟩ := (show ObjOk X.prog X.w H s.heap a (.dK kvs) from I.hok a _ ea)
    obtain ⟨o, es, ep, h1, h2, _⟩ := p
    exact PySem.W.kia_one PySem.W.kitx_dict I.kIn ⟨o, h1, h2.1⟩ e (fun z => nomatch z) h
  | @dT a kvs ea =>
    cases (show u = Value.ref a from rx)
    obtain ⟨_, _, xs, _, o, es, ep, h1, h2, _⟩ := (show ObjOk X.prog X.w H s.heap a (.dT kvs) from I.hok a _ ea)
    exact PySem.W.kia_one PySem.W.kitx_dict I.kIn ⟨o, h1, h2.1⟩ e (fun z => nomatch z) h
  | @ins a C dx fs ea cl ha hn htk hm =>
    cases (show u = Value.ref a from rx)
    obtain ⟨mA, O, _⟩ := ins_get I.hok ea
    obtain ⟨od, J, _⟩ := O.look
    exact PySem.W.kia_one (PySem.W.kitx_own (cl.get _) cl.hd ha hn htk hm) I.kIn J e (fun z => nomatch z) h
end
structure Room (k : Nat) (A : Around) : Prop where
  hd : A.handled = none
  dp : A.depth + 3 * k + 5 < recursionLimit
  un : A.units + 16 * k + 200 < cLine
  gd : A.guards = some []
theorem Room.mono {j k : Nat} {A : Around} (r : Room k A) (h : j <= k) : Room j A := ⟨r.hd, by have := r.dp; omega, by have := r.un; omega, r.gd⟩
theorem Room.deeper {k : Nat} {A : Around} (r : Room (k + 1) A) (env : Env) : Room k (A.deeper env) :=
  ⟨r.hd, by have := r.dp; show A.depth + 1 + 3 * k + 5 < _; omega, by have := r.un; show A.units + 3 + 16 * k + 200 < _; omega, r.gd⟩
theorem Room.in1 {k : Nat} {A : Around} (r : Room (k + 1) A) : Room k A.in1 :=
  ⟨r.hd, by have := r.dp; show A.depth + 3 * k + 5 < _; omega, by have := r.un; show A.units + 1 + 16 * k + 200 < _; omega, r.gd⟩
theorem Room.depth {k : Nat} {A : Around} (r : Room k A) : A.depth < recursionLimit := by have := r.dp; omega
def tNil : TA := fun _ H Q => Q [] H
def tCons (ta : TE) (tr : TA) : TA := fun σ H Q => ta σ H fun x H1 => tr σ H1 fun xs H2 => Q (x :: xs) H2
section
variable {X : Cx} {e : Expr} {es : List Expr} {te : TE} {t : TA} {pos : Pos}
theorem pa_nil : PA X [] tNil := fun _ _ _ _ H Q I h => Calls.spliced_nil ⟨[], H, I, .nil, h⟩
theorem pa_cons (ha : PE X e te) (hr : PA X es t) (hs : starEach (e :: es) X.env = (false, eval e X.env) :: starEach es X.env := by rfl) : PA X (e :: es) (tCons te t) := by
  intro pos pins s σ H Q I h
  rw [hs]
  show wpAny _ _ (spliced ((false, eval e X.env) :: backTo pos (starEach es X.env))) _ _ s
  refine Calls.spliced_cons (thn (ha pins s σ H _ I h) fun u s1 ⟨x, H1, I1, r1, q1⟩ => ?_)
  exact thn (hr pos pins s1 σ H1 _ I1 q1) fun us s2 ⟨xs, H2, I2, r2, q2⟩ => ⟨x :: xs, H2, I2, .cons r1 r2, q2⟩
def tTup (t : TA) : TE := fun σ H Q => t σ H fun xs H1 => xs.length <= sizeLine /\ ∀ p, H1 p = none -> Q (.ref p) (upd H1 p (.tup xs))
def tLst (t : TA) : TE := fun σ H Q => t σ H fun xs H1 => xs.length <= sizeLine /\ ∀ p, H1 p = none -> Q (.ref p) (upd H1 p (.lst xs))
theorem pe_tup {x1} (h : PA X es t) : PE X (.Tuple es x1 pos) (tTup t) := by
  intro pins s σ H Q I hq
  refine wpAny_Tuple_spliced (thn (h pos pins s σ H _ I hq) fun us s1 ⟨xs, H1, I1, r, z, q⟩ => ⟨by rw [<- r.length]; exact z, ?_⟩)
  have hf : H1 s1.heap.objs.size = none := I1.hok.fresh (Nat.le_refl _)
  refine ⟨.ref s1.heap.objs.size, upd H1 s1.heap.objs.size (.tup xs), I1.laid (t' := s1.toks) (fun b u e => Heap.get?_push_of_some _ e) (Nat.le_refl _) ?_, rfl, q _ hf⟩
  exact ⟨z, us, r, ⟨_, Heap.get?_push_size _ rfl, rfl, ⟨_, rfl⟩, rfl⟩⟩
theorem pe_lst (h : PA X es t) : PE X (.List es pos) (tLst t) := by
  intro pins s σ H Q I hq
  refine wpAny_List_spliced (thn (h pos pins s σ H _ I hq) fun us s1 ⟨xs, H1, I1, r, z, q⟩ => ⟨by rw [<- r.length]; exact z, ?_⟩)
  have hf : H1 s1.heap.objs.size = none := I1.hok.fresh (Nat.le_refl _)
  refine ⟨.ref s1.heap.objs.size, upd H1 s1.heap.objs.size (.lst xs), I1.laid (t' := s1.toks) (fun b u e => Heap.get?_push_of_some _ e) (Nat.le_refl _) ?_, rfl, q _ hf⟩
  exact ⟨z, us, 0, r, Heap.get?_push_size _ rfl⟩
end
abbrev Sp := List V -> Hp -> VK -> XK -> Prop
abbrev CXT := List Env -> Hp -> Shared -> XK -> Value -> Shared -> Prop
structure Env0 (P : Program) (w : World) (K : PySem.W.Frag) (mg : Str -> Option Value) (base : Heap) (A : Around) (outer : List Env) (s : Shared) (H : Hp) : Prop where
  frames : A.frames = some outer
  mod : Mod K mg base
  bs : ∀ b o, base.get? b = some o -> s.heap.get? b = some o /\ H b = none
  bsz : base.objs.size <= s.heap.objs.size
  funs : s.heap.FunFrames base outer
  frf : ∀ b ∈ frs outer, H b = none
  hok : HOk P w H s.heap
  bare : AllBare s.gens
def CE (outer : List Env) (P : Program) (w : World) (H : Hp) (s : Shared) (Q : VK) (u : Value) (s' : Shared) : Prop :=
  ∃ v H', s'.os = s.os /\ AllBare s'.gens /\ Un (frs outer) [] H H' s.heap s'.heap /\ HOk P w H' s'.heap /\ RelV v u /\ Q v H'
def CR (CX : CXT) (outer : List Env) (P : Program) (w : World) (H : Hp) (s : Shared) (Q : VK) (E : XK) (r : Result) (s' : Shared) : Prop :=
  match r with
  | .ok (.ret u) => CE outer P w H s Q u s'
  | .ok _ => False
  | .error e => CX outer H s E e s'
structure FnOk (P : Program) (w : World) (K : PySem.W.Frag) (mg : Str -> Option Value) (base : Heap) (CX : CXT) (k : Nat) (f : Addr) (fd : FuncData) (ps : List Str) (sp : Sp) : Prop where
  len : ∀ vs H Q E, sp vs H Q E -> vs.length = ps.length
  run : ∀ (A : Around) (outer : List Env) (s : Shared) (H : Hp) (args : Args) (us : List Value) (vs : List V) (Q : VK) (E : XK), Room k A -> Env0 P w K mg base A outer s H -> BindsTo s fd args (ps.zip us) -> Vals vs us -> sp vs H Q E ->
    codeAny (model P w) A (.call (.ref f) args) (CR CX outer P w H s Q E) s
section
variable {X : Cx} {pins : List (Addr × Obj)} {σ : St} {H : Hp} {s s' : Shared}
theorem Inv.env0 (I : Inv X pins σ H s) : Env0 X.prog X.w X.K X.mg X.base X.A X.stack s H :=
  ⟨I.ok.frames, I.ok.mod, I.bs, Nat.le_trans I.ok.bsz I.sz, I.stack, I.stkFree, I.hok, I.bare⟩
theorem Inv.after {Q : VK} {u : Value} (I : Inv X pins σ H s) (h : CE X.stack X.prog X.w H s Q u s') : EP X pins σ Q u s' := by
  obtain ⟨v, H', os, bare, un, hok, r, q⟩ := h
  obtain ⟨hh, g, d, t, os'⟩ := s'
  obtain rfl : os' = s.os := os
  exact ⟨v, H', I.call (h' := hh) (g' := g) (d' := d) (t' := t) (ch := []) un hok bare (fun b z => absurd z (by simp)), r, q⟩
end
def tCall (sp : Sp) (dvs : List V) (E : XK) (t : TA) : TE := fun σ H Q => t σ H fun vs H1 => sp (vs ++ dvs) H1 Q E
def Binds (K : PySem.W.Frag) (fd : FuncData) (ps : List Str) (ds : List Value) : Prop :=
  ∀ (s : Shared) (us : List Value), K.In s.heap -> (us ++ ds).length = ps.length -> BindsTo s fd ⟨us, []⟩ (ps.zip (us ++ ds))
theorem Binds.all {K : PySem.W.Frag} {fd : FuncData} {ps : List Str} (h : ∀ us : List Value, us.length = ps.length -> bindArgs fd ⟨us, []⟩ = pure (ps.zip us)) : Binds K fd ps [] := fun s us _ hl => by
  rw [List.append_nil] at hl ⊢
  exact .of_eq (h us hl)
def Passes (CX : CXT) (X : Cx) (E : XK) : Prop := ∀ (pins : List (Addr × Obj)) (σ : St) (H : Hp) (s : Shared) (e : Value) (s' : Shared), Inv X pins σ H s -> CX X.stack H s E e s' -> X.xe e s'
section
variable {X : Cx} {CX : CXT} {k : Nat} {f C : Addr} {fd : FuncData} {ps : List Str} {sp : Sp} {dvs : List V} {ds : List Value} {E : XK} {x m : Str} {p pos apos : Pos} {e o : Expr} {es : List Expr} {ta : TE} {t : TA}
theorem run_fn {pins : List (Addr × Obj)} {σ : St} {H : Hp} {s : Shared} {Q : VK} {us : List Value} {vs : List V} (F : FnOk X.prog X.w X.K X.mg X.base CX k f fd ps sp) (hr : Room k X.A) (hb : Binds X.K fd ps ds) (hd : Vals dvs ds) (hx : Passes CX X E)
    (I : Inv X pins σ H s) (r : Vals vs us) (h : sp (vs ++ dvs) H Q E) : wpAny (model X.prog X.w) X.A (call (.ref f) us) (EP X pins σ Q) X.xe s := by
  have r2 : Vals (vs ++ dvs) (us ++ ds) := r.append hd
  have hl : (us ++ ds).length = ps.length := by rw [<- r2.length]; exact F.len _ _ _ _ h
  refine wpAny_call (codeAny_mono (F.run X.A X.stack s H ⟨us, []⟩ (us ++ ds) (vs ++ dvs) Q E hr I.env0 (hb s us I.kIn hl) r2 h) fun r s' hq => ?_)
  cases r with
  | error e => exact hx pins σ H s e s' I hq
  | ok fl =>
    cases fl with
    | ret u => exact I.after hq
    | next => exact False.elim hq
    | brk => exact False.elim hq
    | cont => exact False.elim hq
theorem pe_call (F : FnOk X.prog X.w X.K X.mg X.base CX k f fd ps sp) (hr : Room k X.A) (hg : Gl X x) (hm : X.mg x = some (.ref f)) (hk : PySem.W.keepIn X.K (.ref f) = true) (hb : Binds X.K fd ps ds) (hd : Vals dvs ds) (hx : Passes CX X E)
    (ha : PA X (e :: es) t) (hdb : (x == ("__debug__" : Str)) = false := by decide) (he : starEach (e :: es) X.env = (false, eval e X.env) :: starEach es X.env := by rfl) (hpl : (backTo pos (starEach es X.env)).any (·.1) = false := by rfl) :
    PE X (.Call (.Name x p) (e :: es) [] pos) (tCall sp dvs E t) := by
  intro pins s σ H Q I h
  refine wpAny_Call_Name_kw (ld_glob I hg hm ?_ hdb)
  refine PySem.W.callWith_K (h₀ := X.base) I.ok.mod.kin hk (thn (ha pos pins s σ H _ I h) fun us s1 ⟨vs, H1, I1, r, q⟩ => ⟨I1.kIn, ?_⟩) he hpl
  exact run_fn F hr hb hd hx I1 r q
structure Mk (K : PySem.W.Frag) (C f : Addr) : Prop where
  makes : PySem.W.makesIn K C = true
  init : PySem.W.findIn K (.ref C) "__init__" = some (some (.ref f))
  fn : PySem.W.isFn K (.ref f) = true
  kp : PySem.W.keepIn K (.ref C) = true
end
section
variable {X : Cx} {CX : CXT} {k : Nat} {f C : Addr} {fd : FuncData} {ps ks : List Str} {sp : Sp} {E : XK} {x m : Str} {p pos apos kpos : Pos} {e o : Expr} {es : List Expr} {kws : List Keyword} {te ta : TE} {t tk : TA} {nm : Option Str}
structure KBinds (K : PySem.W.Frag) (fd : FuncData) (ps ks : List Str) (g : List Value -> List Value -> List Value) (gV : List V -> List V -> List V) : Prop where
  to : ∀ (s : Shared) (us ws : List Value), K.In s.heap -> (g us ws).length = ps.length -> BindsTo s fd ⟨us, ks.zip ws⟩ (ps.zip (g us ws))
  rel : ∀ {vs : List V} {us : List Value} {zs : List V} {ws : List Value}, Vals vs us -> Vals zs ws -> Vals (gV vs zs) (g us ws)
variable {g : List Value -> List Value -> List Value} {gV : List V -> List V -> List V}
end
structure FnScope (N P : List Str) (sc : Scope) : Prop where
  kind : sc.kind = .function
  co : sc.isCoroutine = false
  gen : sc.isGenerator = false
  nd : N.Nodup
  pre : N.take P.length = P
  par : ∀ x ∈ P, sc.names.lookup x = some .local \/ sc.names.lookup x = some .cell
  nofree : ∀ y ∈ sc.names, y.2 ≠ .free
theorem bindL_out {kindOf : Str -> Option NameKind} {x : Str} : ∀ {binds : List (Str × Value)} {m : Str -> Option Value}, (∀ v, (x, v) ∉ binds) -> bindL kindOf binds m x = m x
  | [], _, _ => rfl
  | (n, v) :: r, m, h => by
    unfold bindL
    rw [bindL_out fun w hw => h w (List.mem_cons_of_mem _ hw)]
    split
    . have : x ≠ n := by rintro rfl; exact h v List.mem_cons_self
      simp [this]
    . rfl
theorem bindC_out {kindOf : Str -> Option NameKind} {x : Str} : ∀ {binds : List (Str × Value)} {m : Str -> Option Value}, (∀ v, (x, v) ∉ binds) -> bindC kindOf binds m x = m x
  | [], _, _ => rfl
  | (n, v) :: r, m, h => by
    unfold bindC
    rw [bindC_out fun w hw => h w (List.mem_cons_of_mem _ hw)]
    split
    . rfl
    . have : x ≠ n := by rintro rfl; exact h v List.mem_cons_self
      simp [this]
theorem bindL_get {kindOf : Str -> Option NameKind} {x : Str} {v : Value} : ∀ {P : List Str} {vs : List Value} {i : Nat} {m : Str -> Option Value}, P.Nodup -> P[i]? = some x -> vs[i]? = some v -> kindOf x = some .local ->
    bindL kindOf (P.zip vs) m x = some v
  | [], _, _, _, _, h, _, _ => by simp at h
  | _ :: _, [], _, _, _, _, h, _ => by simp at h
  | p :: P, w :: vs, 0, m, nd, h1, h2, hk => by
    simp at h1 h2; subst h1; subst h2
    show bindL kindOf ((p, w) :: P.zip vs) m p = _
    unfold bindL
    rw [bindL_out fun v hv => (List.nodup_cons.mp nd).1 (List.of_mem_zip hv).1, if_pos hk]
    simp
  | p :: P, w :: vs, i + 1, m, nd, h1, h2, hk => by
    show bindL kindOf ((p, w) :: P.zip vs) m x = _
    unfold bindL
    exact bindL_get (i := i) (List.nodup_cons.mp nd).2 (by simpa using h1) (by simpa using h2) hk
theorem bindC_get {kindOf : Str -> Option NameKind} {x : Str} {v : Value} : ∀ {P : List Str} {vs : List Value} {i : Nat} {m : Str -> Option Value}, P.Nodup -> P[i]? = some x -> vs[i]? = some v -> kindOf x ≠ some .local ->
    bindC kindOf (P.zip vs) m x = some v
  | [], _, _, _, _, h, _, _ => by simp at h
  | _ :: _, [], _, _, _, _, h, _ => by simp at h
  | p :: P, w :: vs, 0, m, nd, h1, h2, hk => by
    simp at h1 h2; subst h1; subst h2
    show bindC kindOf ((p, w) :: P.zip vs) m p = _
    unfold bindC
    rw [bindC_out fun v hv => (List.nodup_cons.mp nd).1 (List.of_mem_zip hv).1, if_neg hk]
    simp
  | p :: P, w :: vs, i + 1, m, nd, h1, h2, hk => by
    show bindC kindOf ((p, w) :: P.zip vs) m x = _
    unfold bindC
    exact bindC_get (i := i) (List.nodup_cons.mp nd).2 (by simpa using h1) (by simpa using h2) hk
def start (N : List Str) (vs : List V) : St := vs.map some ++ List.replicate (N.length - vs.length) none
def cxOf (CX : CXT) (P : Program) (w : World) (K : PySem.W.Frag) (mg : Str -> Option Value) (base : Heap) (N : List Str) (qual : Str) (scope : Scope) (f : Addr) (cd : Value) (A : Around) (outer : List Env) (s : Shared) (H : Hp) (E : XK) : Cx where
  prog := P
  w := w
  K := K
  mg := mg
  base := base
  A := A.deeper (envOfC qual scope s.heap.objs.size f cd)
  N := N
  s₀ := s
  H₀ := H
  env := envOfC qual scope s.heap.objs.size f cd
  outer := outer
  stack := envOfC qual scope s.heap.objs.size f cd :: outer
  ex := []
  calm := true
  fn := fun _ => true
  pn := []
  xe := fun e s' => wpAny (model P w) (A.deeper (envOfC qual scope s.heap.objs.size f cd)) (leaving (envOfC qual scope s.heap.objs.size f cd) e) (fun _ s'' => CX outer H s E e s'') (fun e' s'' => CX outer H s E e' s'') s'
theorem cell_has {sc : Scope} {n : Nat} {x : Str} (h : sc.names.lookup x = some .cell) : ∃ c, (cellsFrom n sc.names []).lookup x = some c := by
  have q := PySem.W.cellsFrom_some sc.names n [] (.inl h)
  exact Option.isSome_iff_exists.mp q
theorem inv_start {CX : CXT} {P : Program} {w : World} {K : PySem.W.Frag} {mg : Str -> Option Value} {base : Heap} {N ps : List Str} {qual : Str} {scope : Scope} {f : Addr} {cd : Value} {A : Around} {outer : List Env} {s s1 : Shared} {H : Hp} {E : XK} {us : List Value} {vs : List V}
    (S : FnScope N ps scope) (hd : A.handled = none) (e0 : Env0 P w K mg base A outer s H) (hl : vs.length = ps.length) (r : Vals vs us)
    (x : InCallC s s.heap.objs.size (bindL (envOfC qual scope s.heap.objs.size f cd).kindOf (ps.zip us) fun _ => none) (cellsFrom (s.heap.objs.size + 1) scope.names []) (bindC (envOfC qual scope s.heap.objs.size f cd).kindOf (ps.zip us) fun _ => none) s1) :
    Inv (cxOf CX P w K mg base N qual scope f cd A outer s H E) [] (start N vs) H s1 := by
  have hpl : ps.length <= N.length := by have := congrArg List.length S.pre; rw [List.length_take] at this; omega
  obtain ⟨h1, tk, rfl, hk⟩ := x.done
  have noA : ∀ b : Addr, b ∉ (cxOf CX P w K mg base N qual scope f cd A outer s H E).ex := fun b z => absurd (show b ∈ ([] : List Addr) from z) (by simp)
  refine ⟨⟨e0.mod, S.kind, rfl, rfl, Nat.le_refl _, fun y z c h1 h2 => ?_, fun y hy => ?_, fun y c _ h => ?_, fun _ => hd, Around.frames_deeper e0.frames, .inr ⟨rfl, rfl⟩, fun b z => absurd z (noA b), e0.bs, e0.bsz, fun b _ _ => noA b, fun b z => absurd z (noA b), e0.funs, e0.frf⟩,
    rfl, e0.bare, Un.kept hk, ⟨_, x.toInCall.ns, fun i y v h1 h2 h3 => ?_⟩, fun y c h => ⟨_, x.cell y c h⟩, e0.hok.fresh (Nat.le_refl _), fun y c h => ?_, fun p hp => absurd (show p ∈ ([] : List (Addr × Obj)) from hp) (by simp), e0.hok.kept hk, ?_⟩
  . exact name_of_addr x.apart (PySem.mem_of_lookup h1) (PySem.mem_of_lookup h2)
  . have hy : scope.names.lookup y = some .cell \/ scope.names.lookup y = some .free := hy
    rcases hy with hy | hy
    . exact cell_has hy
    . exact absurd rfl (S.nofree _ (PySem.mem_of_lookup hy))
  . exact Nat.le_of_lt (x.above y c (PySem.mem_of_lookup h))
  . have hi : i < vs.length := by
      unfold start at h2
      by_cases hi : i < vs.length
      . exact hi
      . rw [List.getElem?_append_right (by simpa using hi)] at h2
        rw [List.getElem?_replicate] at h2
        split at h2 <;> cases h2
    have ha : vs[i]? = some v := by
      unfold start at h2
      rw [List.getElem?_append_left (by simpa using hi), List.getElem?_map] at h2
      cases e : vs[i]? with
      | none => rw [e] at h2; cases h2
      | some a => rw [e] at h2; cases h2; rfl
    obtain ⟨u, hu, rv⟩ := r.get ha
    have hp : ps[i]? = some y := by
      rw [<- S.pre, List.getElem?_take_of_lt (by omega)]; exact h1
    have ndP : ps.Nodup := by rw [<- S.pre]; exact S.nd.sublist (List.take_sublist _ _)
    refine ⟨u, rv, ?_⟩
    rcases S.par y (List.mem_of_getElem? hp) with k | k
    . exact .inl ⟨k, bindL_get ndP hp hu k⟩
    . obtain ⟨c, e⟩ := cell_has (n := s.heap.objs.size + 1) k
      refine .inr ⟨.inl k, c, e, ?_⟩
      have q := x.cell y c e
      rw [bindC_get ndP hp hu (by show scope.names.lookup y ≠ _; rw [k]; decide)] at q
      exact q
  . exact e0.hok.fresh (Nat.le_of_lt (x.above y c (PySem.mem_of_lookup h)))
  . unfold start
    show _ = N.length
    rw [List.length_append, List.length_map, List.length_replicate]
    omega
theorem fn_of {CX : CXT} {P : Program} {w : World} {K : PySem.W.Frag} {mg : Str -> Option Value} {base : Heap} {k : Nat} {f : Addr} {name qual : Str} {params : Arguments} {body : List Stmt} {scope : Scope} {dV kV doc pm cdv ct oc : Value} {an od : Option Addr}
    {osl : Array (Option Value)} {N ps : List Str} {sp : Sp} (lk : K.lookup f = some ⟨oc, od, .func (PySem.W.fnOf name qual params body scope dV kV doc pm an cdv ct), osl⟩) (hcd : PySem.W.codeIn K cdv qual = true) (S : FnScope N ps scope)
    (len : ∀ vs H Q E, sp vs H Q E -> vs.length = ps.length)
    (hbody : ∀ (A : Around) (outer : List Env) (s : Shared) (H : Hp) (vs : List V) (Q : VK) (E : XK), Room k (A.deeper (envOfC qual scope s.heap.objs.size f cdv)) -> sp vs H Q E ->
      ∃ t, PSs (cxOf CX P w K mg base N qual scope f cdv A outer s H E) body t /\ t { nx := fun _ H' => Q .non H', rt := Q } (start N vs) H) :
    FnOk P w K mg base CX (k + 1) f (PySem.W.fnOf name qual params body scope dV kV doc pm an cdv ct) ps sp := by
  refine ⟨len, fun A outer s H args us vs Q E hr e0 hb r hsp => ?_⟩
  have hl := len _ _ _ _ hsp
  have KX : K.In s.heap := e0.mod.kin.keeps fun b o e => (e0.bs b o e).1
  have lim : s.heap.NoLimit := e0.mod.nolimit.keeps fun b o e => (e0.bs b o e).1
  have hkind : ∀ y ∈ ps.zip us, scope.names.lookup y.1 = some .local \/ (scope.names.lookup y.1 = some .cell /\ ((cellsFrom (s.heap.objs.size + 1) scope.names []).lookup y.1).isSome = true) := fun ⟨n, v⟩ hy => by
    rcases S.par n (List.of_mem_zip hy).1 with q | q
    . exact .inl q
    . exact .inr ⟨q, PySem.W.cellsFrom_some _ _ _ (.inl q)⟩
  refine codeAny_call_function hr.depth (KX _ _ lk) rfl S.co S.gen rfl (PySem.W.codeRec_of KX hcd) (hb _ _ _ _ ?_)
  refine wpAny_newFunctionEnv_cells S.kind hkind fun env he s1 x => ?_
  subst he
  refine ⟨lim.keeps x.toInCall.keep, codeAny_func ?_⟩
  obtain ⟨t, ht, hq⟩ := hbody A outer s H vs Q E (hr.deeper _) hsp
  have I : Inv (cxOf CX P w K mg base N qual scope f cdv A outer s H E) [] (start N vs) H s1 := inv_start S hr.hd e0 hl r x
  refine wpAny_mono (ht [] s1 (start N vs) H _ I hq) (fun fl s' hs => ?_) fun e s' hs => hs
  have fin : ∀ {σ' : St} {H' : Hp} {v : V} {u : Value}, Inv (cxOf CX P w K mg base N qual scope f cdv A outer s H E) [] σ' H' s' -> RelV v u -> Q v H' -> CE outer P w H s Q u s' :=
    fun {σ' H' v u} J rv q => ⟨v, H', J.os, J.bare, J.base, J.hok, rv, q⟩
  cases fl with
  | ret u =>
    obtain ⟨v, σ', H', J, rv, q⟩ := hs
    exact fin J rv q
  | next =>
    obtain ⟨σ', H', J, q⟩ := hs
    exact fin (v := V.non) (u := Value.none) J rfl q
  | brk =>
    obtain ⟨_, _, _, q⟩ := hs
    exact False.elim q
  | cont =>
    obtain ⟨_, _, _, q⟩ := hs
    exact False.elim q
section
variable {X : Cx} {x : Str} {p pos : Pos} {e : Expr} {es : List Expr} {t : TA} {id T : String} {r : List V -> Hp -> VK -> Prop}
def tCB (r : List V -> Hp -> VK -> Prop) (t : TA) : TE := fun σ H Q => t σ H fun vs H1 => r vs H1 Q
theorem pe_callB (hc : CallR X (.builtin id) r) (hg : Gl X x) (hm : X.mg x = none) (hv : bootBuiltins x = some (.builtin id)) (ha : PA X (e :: es) t) (hn : x ≠ "__name__" := by decide) (hdb : (x == ("__debug__" : Str)) = false := by decide)
    (he : starEach (e :: es) X.env = (false, eval e X.env) :: starEach es X.env := by rfl) (hpl : (backTo pos (starEach es X.env)).any (·.1) = false := by rfl) : PE X (.Call (.Name x p) (e :: es) [] pos) (tCB r t) := by
  intro pins s σ H Q I h
  refine wpAny_Call_Name_kw (ld_blt I hg hm hv ?_ hn hdb)
  exact PyProof.Rows.callWith_builtin1 (thn (ha pos pins s σ H _ I h) fun us s1 ⟨vs, H1, I1, r1, q1⟩ => hc pins s1 σ H1 vs us Q I1 r1 q1) he hpl
theorem pe_callTy (hc : CallR X (.type T) r) (hg : Gl X x) (hm : X.mg x = none) (hv : bootBuiltins x = some (.type T)) (ha : PA X (e :: es) t) (hn : x ≠ "__name__" := by decide) (hdb : (x == ("__debug__" : Str)) = false := by decide)
    (he : starEach (e :: es) X.env = (false, eval e X.env) :: starEach es X.env := by rfl) (hpl : (backTo pos (starEach es X.env)).any (·.1) = false := by rfl) : PE X (.Call (.Name x p) (e :: es) [] pos) (tCB r t) := by
  intro pins s σ H Q I h
  refine wpAny_Call_Name_kw (ld_blt I hg hm hv ?_ hn hdb)
  exact PyProof.Rows.callWith_type1 (thn (ha pos pins s σ H _ I h) fun us s1 ⟨vs, H1, I1, r1, q1⟩ => hc pins s1 σ H1 vs us Q I1 r1 q1) he hpl
end
end L2
namespace HT
open PySem PyProof.Rows
section
open PySem.SeqAt
open PySem.AutoSeq1 (wpAny_loadPart')
open PySem.MeetsSeq PySem.MeetsSeq2 PySem.MeetsSeq3
end
section
variable {prog : Program} {w : World} {A : Around} {E : Value -> Shared -> Prop} {s : Shared}
theorem cat_tup {t b : Addr} {vs ws : List Value} {Q : Value -> Shared -> Prop} (ht : IsTup s.heap t vs.toArray) (hb : IsTup s.heap b ws.toArray) (hv : vs ≠ [])
    (h1 : ws = [] -> Q (.ref t) s) (h2 : ws ≠ [] -> Q (.ref s.heap.objs.size) { s with heap := s.heap.push { cls := .type "tuple", data := .seq (vs ++ ws).toArray } })
    (hsz : vs.length + ws.length <= sizeLine) : wpAny (model prog w) A (binaryOp .Add (.ref t) (.ref b)) Q E s := by
  obtain ⟨⟨cls, dd, data, sl⟩, ho, hc, n, hd⟩ := id ht
  obtain ⟨⟨cls2, dd2, data2, sl2⟩, ho2, hc2, n2, hd2⟩ := id hb
  simp only at hc hd hc2 hd2
  subst hc hd hc2 hd2
  have e : vs.toArray ++ ws.toArray = (vs ++ ws).toArray := by simp
  by_cases hw : ws = []
  . exact concat_meets ⟨_, ho, rfl⟩ ⟨_, ho2, rfl⟩ noFill_tuple_add seq_tuple_add PySem.F.slot_tuple_add PySem.F.entry_tuple_add (PySem.F.args_tuple_add_2 _ _)
      (tuple_addW1 t b vs.toArray ws.toArray n n2 dd dd2 sl sl2 (by simpa using hv) (by simp [hw])) ⟨ho, ho2, h1 hw⟩
  . refine concat_meets ⟨_, ho, rfl⟩ ⟨_, ho2, rfl⟩ noFill_tuple_add seq_tuple_add PySem.F.slot_tuple_add PySem.F.entry_tuple_add (PySem.F.args_tuple_add_2 _ _)
      (tuple_addW2 t b vs.toArray ws.toArray n n2 dd dd2 sl sl2 (by simpa using hv) (by simpa using hw) (by rw [List.size_toArray, List.size_toArray]; exact hsz)) ⟨ho, ho2, ?_⟩
    rw [e]
    exact h2 hw
end
end HT
namespace L2
open PySem PySem.Spec PyProof.Rows
abbrev TO := St -> Hp -> (Option Int -> Hp -> Prop) -> Prop
theorem intsAre_of {ns : List Int} : ∀ {us : List Value}, Vals (ns.map V.int) us -> IntsAre us ns := by
  induction ns with
  | nil => intro us r; rw [List.map_nil] at r; cases r; exact .nil
  | cons n ns ih =>
    intro us r
    rw [List.map_cons] at r
    cases r with
    | cons r1 r2 =>
      obtain ⟨t, e⟩ := r1
      subst e
      exact .cons n t (ih r2)
section
variable {X : Cx} {e : Expr} {te : TE} {lo hi : Option Expr} {tl th : TO} {pos p2 : Pos}
def rCatT (K : PySem.W.Frag) : R2 := fun x y H Q => ∃ a b xs ys, x = .ref a /\ y = .ref b /\ SqT K H a xs /\ SqT K H b ys /\ xs ≠ [] /\ xs.length + ys.length <= sizeLine /\
  (ys = [] -> Q (.ref a) H) /\ (ys ≠ [] -> ∀ p, H p = none -> Q (.ref p) (upd H p (.tup (xs ++ ys))))
theorem Vals.nil_iff {xs : List V} {us : List Value} (r : Vals xs us) : us = [] ↔ xs = [] := by
  cases r with
  | nil => simp
  | cons _ _ => simp
theorem op_catT : OpR X (binaryOp .Add) (rCatT X.K) := by
  intro pins s σ H x y v u Q I rx ry h
  obtain ⟨a, b, xs, ys, rfl, rfl, ha, hb, hx, hz, q1, q2⟩ := h
  cases rx
  cases ry
  obtain ⟨its, r1, p1, _⟩ := I.tuple ha
  obtain ⟨its2, r2, p2, _⟩ := I.tuple hb
  refine HT.cat_tup p1 p2 (fun z => hx (r1.nil_iff.mp z)) (fun z => ⟨.ref a, H, I, rfl, q1 (r2.nil_iff.mp z)⟩) (fun z => ?_) (by rw [<- r1.length, <- r2.length]; exact hz)
  refine ⟨.ref s.heap.objs.size, _, I.laid (t' := s.toks) (o := .tup (xs ++ ys)) (fun b ob q => Heap.get?_push_of_some _ q) (Nat.le_refl _) ?_, rfl, q2 (fun w => z (r2.nil_iff.mpr w)) _ (I.hok.fresh (Nat.le_refl _))⟩
  exact ⟨by rw [List.length_append]; exact hz, _, r1.append r2, IsTupN.new _ _⟩
end
def ixN (n : Nat) (i : Int) : Option Nat := if 0 <= i then (if i < n then some i.toNat else none) else if -(n : Int) <= i then some (i + n).toNat else none
def atI {α : Type} (xs : List α) (i : Int) : Option α := (ixN xs.length i).bind fun j => xs[j]?
theorem ixN_seq {n : Nat} {i : Int} {j : Nat} (h : ixN n i = some j) : seqIndex? i n = some j /\ j < n /\ -(n : Int) <= i /\ i < n := by
  unfold ixN at h
  by_cases h0 : 0 <= i
  . rw [if_pos h0] at h
    by_cases h1 : i < n
    . rw [if_pos h1] at h
      have e : i.toNat = j := Option.some.inj h
      exact ⟨by rw [seqIndex_of h0 h1, e], by omega, by omega, h1⟩
    . rw [if_neg h1] at h; cases h
  . rw [if_neg h0] at h
    by_cases h1 : -(n : Int) <= i
    . rw [if_pos h1] at h
      have e : (i + n).toNat = j := Option.some.inj h
      exact ⟨by rw [seqIndex_neg (by omega) h1, e], by omega, h1, by omega⟩
    . rw [if_neg h1] at h; cases h
theorem atI_get {α : Type} {xs : List α} {i : Int} {v : α} (h : atI xs i = some v) : ∃ j, seqIndex? i xs.length = some j /\ xs[j]? = some v /\ j < xs.length /\ -(xs.length : Int) <= i /\ i < xs.length := by
  unfold atI at h
  cases e : ixN xs.length i with
  | none => rw [e] at h; cases h
  | some j =>
    rw [e] at h
    obtain ⟨h1, h2, h3, h4⟩ := ixN_seq e
    exact ⟨j, h1, h, h2, h3, h4⟩
def PlainIx (b : Expr) : Prop := ∀ o i, subscripted b false o i = operate [o, i] (getItem o i)
def IxR (X : Cx) (r : R2) : Prop :=
  ∀ (value slice : Expr) (pins : List (Addr × Obj)) (s : Shared) (σ : St) (H : Hp) (x y : V) (v u : Value) (Q : VK), Inv X pins σ H s -> RelV x v -> RelV y u -> r x y H Q ->
    subscripted slice false v u = operate [v, u] (getItem v u) -> wpAny (model X.prog X.w) X.A (subscriptTail value slice v u) (EP X pins σ Q) X.xe s
def MtR (X : Cx) (id : String) (r : V -> List V -> Hp -> VK -> Prop) : Prop :=
  ∀ (pins : List (Addr × Obj)) (s : Shared) (σ : St) (H : Hp) (x : V) (xs : List V) (v : Value) (us : List Value) (Q : VK), Inv X pins σ H s -> RelV x v -> Vals xs us -> r x xs H Q ->
    wpAny (model X.prog X.w) X.A (call (.builtin id) (v :: us)) (EP X pins σ Q) X.xe s
section
variable {X : Cx} {a b : Expr} {ta tb : TE} {pos : Pos}
theorem IxR.or {r r' : R2} (h : IxR X r) (h' : IxR X r') : IxR X (fun x y H Q => r x y H Q \/ r' x y H Q) := by
  intro value slice pins s σ H x y v u Q I rx ry q hs
  rcases q with q | q
  . exact h value slice pins s σ H x y v u Q I rx ry q hs
  . exact h' value slice pins s σ H x y v u Q I rx ry q hs
theorem pe_ix {r : R2} (hr : IxR X r) (ha : PE X a ta) (hb : PE X b tb) (hs : PlainIx b) : PE X (.Subscript a b pos) (tOp r ta tb) := by
  intro pins s σ H Q I h
  exact Subscript_ (binT ha hb I h fun v u s2 x y H2 I2 rx ry q => hr a b pins s2 σ H2 x y v u Q I2 rx ry q (hs _ _))
def rIxL (K : PySem.W.Frag) : R2 := fun x y H Q => ∃ p xs i v, x = .ref p /\ y = .int i /\ SqL K H p xs /\ atI xs i = some v /\ Q v H
def rIxT (K : PySem.W.Frag) : R2 := fun x y H Q => ∃ p xs i v, x = .ref p /\ y = .int i /\ SqT K H p xs /\ atI xs i = some v /\ Q v H
def rIxS : R2 := fun x y H Q => ∃ z i c, x = .str z /\ y = .int i /\ z.length <= sizeLine /\ atI z.cps.toList i = some c /\ Q (.str ⟨#[c]⟩) H
theorem ix_list : IxR X (rIxL X.K) := by
  intro value slice pins s σ H x y v u Q I rx ry h hs
  obtain ⟨p, xs, i, z, rfl, rfl, hq, he, q⟩ := h
  cases rx
  obtain ⟨t, rfl⟩ := ry
  obtain ⟨its, r, pl, hz⟩ := I.list hq
  obtain ⟨j, h1, h2, h3, h4, h5⟩ := atI_get he
  obtain ⟨w, ew, rw'⟩ := r.get h2
  have hl := r.length
  have hn := line63
  have fin : EP X pins σ Q w s := ⟨z, H, I, rw', q⟩
  by_cases h0 : 0 <= i
  . have hj : i.toNat = j := by
      rw [seqIndex_of h0 h5] at h1
      exact Option.some.inj h1
    exact item_listR pl.isList h0 (by omega) (by rw [hj]; simpa using ew) fin hs
  . have hj : (i + (its.toArray.size : Int)).toNat = j := by
      rw [seqIndex_neg (by omega) h4] at h1
      rw [List.size_toArray, <- hl]
      exact Option.some.inj h1
    exact subscriptTail_builtinR (x := w) pl.isList.typeIs slot_list_getitem.lookup
      (wpAny_getItem_list_neg (Q := fun r s' => r = w /\ EP X pins σ Q r s') pl.isList (by omega) (by rw [List.size_toArray] <;> omega) (by omega) (by rw [hj]; simpa using ew) ⟨rfl, fin⟩) hs
theorem ix_tup : IxR X (rIxT X.K) := by
  intro value slice pins s σ H x y v u Q I rx ry h hs
  obtain ⟨p, xs, i, z, rfl, rfl, hq, he, q⟩ := h
  cases rx
  obtain ⟨t, rfl⟩ := ry
  obtain ⟨its, r, pl, hz⟩ := I.tuple hq
  obtain ⟨j, h1, h2, h3, h4, h5⟩ := atI_get he
  obtain ⟨w, ew, rw'⟩ := r.get h2
  have hl := r.length
  have hn := line63
  have fin : EP X pins σ Q w s := ⟨z, H, I, rw', q⟩
  exact subscriptTail_builtinR (x := w) pl.typeIs slot_tuple_getitem.lookup
    (getItem_tuple (j := j) (Q := fun r s' => r = w /\ EP X pins σ Q r s') pl (by omega) (by omega) (by rw [List.size_toArray, <- hl]; exact h1) (by simpa using ew) ⟨rfl, fin⟩) hs
theorem ix_str : IxR X rIxS := by
  intro value slice pins s σ H x y v u Q I rx ry h hs
  obtain ⟨z, i, c, rfl, rfl, hz, he, q⟩ := h
  obtain ⟨t, rfl⟩ := rx
  obtain ⟨t', rfl⟩ := ry
  obtain ⟨j, h1, h2, h3, h4, h5⟩ := atI_get he
  have hl : z.cps.toList.length = z.length := by simp [Str.length]
  rw [hl] at h1 h4 h5
  have hn := line63
  exact tail_any (typeIs_str s z t) slot_str_getitem.lookup (getItem_str (c := c) (by
    have e1 : decide (i < -(2 ^ 63 : Int)) = false := decide_eq_false (by omega)
    have e2 : decide (i ≥ 2 ^ 63) = false := decide_eq_false (by omega)
    rw [e1, e2, Bool.or_false]) (by rw [h1]; simpa using h2) ⟨.str ⟨#[c]⟩, H, I.tok _, ⟨_, rfl⟩, q⟩) hs
def rIx (K : PySem.W.Frag) : R2 := fun x y H Q => rIxL K x y H Q \/ rIxT K x y H Q \/ rIxS x y H Q
theorem ix_seq : IxR X (rIx X.K) := ix_list.or (ix_tup.or ix_str)
theorem mapSeq_set (its : List Value) (n j : Nat) (u : Value) : Obj.mapSeq (·.setIfInBounds j u) { cls := .type "list", data := .seq its.toArray n } = { cls := .type "list", data := .seq (its.set j u).toArray n } := by
  simp [Obj.mapSeq]
theorem Inv.lst {pins : List (Addr × Obj)} {σ : St} {H : Hp} {s : Shared} {p : Addr} {xs : List V} (I : Inv X pins σ H s) (h : H p = some (.lst xs)) :
    ∃ (its : List Value) (n : Nat), Vals xs its /\ s.heap.get? p = some { cls := .type "list", data := .seq its.toArray n } /\ xs.length <= sizeLine := by
  obtain ⟨z, its, n, r, e⟩ := I.hok p _ h
  exact ⟨its, n, r, e, z⟩
theorem Inv.lstUpd {pins : List (Addr × Obj)} {σ : St} {H : Hp} {s : Shared} {p : Addr} {xs ys : List V} {its its' : List Value} {n n' : Nat} {f : Obj -> Obj} (I : Inv X pins σ H s) (h : H p = some (.lst xs))
    (ho : s.heap.get? p = some { cls := .type "list", data := .seq its.toArray n }) (hf : f { cls := .type "list", data := .seq its.toArray n } = { cls := .type "list", data := .seq its'.toArray n' }) (r : Vals ys its') (hz : ys.length <= sizeLine) (t : Nat) :
    Inv X pins σ (upd H p (.lst ys)) { s with heap := s.heap.update p f, toks := t } := by
  have e : (s.heap.update p f).get? p = some { cls := .type "list", data := .seq its'.toArray n' } := by
    rw [Heap.get?_update_self f ho (by rw [hf] <;> rfl), hf]
  refine I.write (x := p) (e := p) (by rw [h]; trivial) (.inl rfl) (fun b u hb q => (Heap.get?_update_other _ _ (Ne.symm hb)).trans q) ⟨_, e⟩ ?_
  exact ⟨hz, its', n', r, e⟩
def rSetL : V -> V -> V -> Hp -> (Hp -> Prop) -> Prop := fun o i v H Q => ∃ p xs k j, o = .ref p /\ i = .int k /\ H p = some (.lst xs) /\ ixN xs.length k = some j /\ Q (upd H p (.lst (xs.set j v)))
theorem set_list : PSet X rSetL := by
  intro pins s σ H o i v ov iv u Q I ro ri rv h
  obtain ⟨p, xs, k, j, rfl, rfl, hp, hj, q⟩ := h
  cases ro
  obtain ⟨t, rfl⟩ := ri
  obtain ⟨its, n, r, ho, hz⟩ := I.lst hp
  obtain ⟨h1, h2, h3, h4⟩ := ixN_seq hj
  have hl := r.length
  have hn := line63
  have I' : Inv X pins σ (upd H p (.lst (xs.set j v))) { s with heap := s.heap.update p (Obj.mapSeq (·.setIfInBounds j u)) } :=
    I.lstUpd hp ho (mapSeq_set its n j u) (r.set rv j) (by rw [List.length_set]; exact hz) s.toks
  by_cases h0 : 0 <= k
  . have hk : k.toNat = j := by
      rw [seqIndex_of h0 h4] at h1
      exact Option.some.inj h1
    exact PySem.W.ki_setAt ho h0 (by omega) (by rw [List.size_toArray, <- hl]; exact h4) (by rw [hk]; exact ⟨_, I', q⟩)
  . have hk : (k + (its.toArray.size : Int)).toNat = j := by
      rw [seqIndex_neg (by omega) h3] at h1
      rw [List.size_toArray, <- hl]
      exact Option.some.inj h1
    exact PySem.W.ki_setBack ho (by omega) (by rw [List.size_toArray, <- hl]; exact h3) (by omega) (by rw [hk]; exact ⟨_, I', q⟩)
def flatV : V -> Bool
  | .non => true
  | .bl _ => true
  | .int _ => true
  | .str _ => true
  | _ => false
def eqV : V -> V -> Bool
  | .non, .non => true
  | .bl a, .bl b => a == b
  | .bl a, .int b => (if a then 1 else 0) == b
  | .int a, .bl b => a == (if b then 1 else 0)
  | .int a, .int b => a == b
  | .str a, .str b => a == b
  | _, _ => false
theorem eqAt_V {A : Around} {s : Shared} {y x : V} {u v : Value} (ry : RelV y u) (rx : RelV x v) (fy : flatV y = true) (fx : flatV x = true) : SeqAt.EqAt A s u v (eqV y x) := by
  cases y with
  | non =>
    cases ry
    cases x with
    | non => cases rx; exact SeqAt.EqAt.same _
    | bl b => cases rx; exact SeqAt.EqAt.none_bool b
    | int b => obtain ⟨t, rfl⟩ := rx; exact SeqAt.EqAt.none_int b t
    | str b => obtain ⟨t, rfl⟩ := rx; exact SeqAt.EqAt.none_str b t
    | _ => exact absurd (show false = true from fx) Bool.false_ne_true
  | bl a =>
    cases ry
    cases x with
    | non => cases rx; exact SeqAt.EqAt.bool_none a
    | bl b => cases rx; exact SeqAt.EqAt.bool_bool a b
    | int b => obtain ⟨t, rfl⟩ := rx; exact SeqAt.EqAt.bool_int a b t
    | str b => obtain ⟨t, rfl⟩ := rx; exact SeqAt.EqAt.bool_str a b t
    | _ => exact absurd (show false = true from fx) Bool.false_ne_true
  | int a =>
    obtain ⟨t', rfl⟩ := ry
    cases x with
    | non => cases rx; exact SeqAt.EqAt.int_none a t'
    | bl b => cases rx; exact SeqAt.EqAt.int_bool a t' b
    | int b => obtain ⟨t, rfl⟩ := rx; exact SeqAt.EqAt.int_int a t' b t
    | str b => obtain ⟨t, rfl⟩ := rx; exact SeqAt.EqAt.int_str a t' b t
    | _ => exact absurd (show false = true from fx) Bool.false_ne_true
  | str a =>
    obtain ⟨t', rfl⟩ := ry
    cases x with
    | non => cases rx; exact SeqAt.EqAt.str_none a t'
    | bl b => cases rx; exact SeqAt.EqAt.str_bool a t' b
    | int b => obtain ⟨t, rfl⟩ := rx; exact SeqAt.EqAt.str_int a t' b t
    | str b => obtain ⟨t, rfl⟩ := rx; exact SeqAt.EqAt.str_str a t' b t
    | _ => exact absurd (show false = true from fx) Bool.false_ne_true
  | _ => exact absurd (show false = true from fy) Bool.false_ne_true
def eqU (x : V) (u : Value) : Bool := match u with
  | .none => eqV .non x
  | .bool b => eqV (.bl b) x
  | .int i _ => eqV (.int i) x
  | .str z _ => eqV (.str z) x
  | _ => false
theorem eqU_of {x y : V} {u : Value} (r : RelV y u) (f : flatV y = true) : eqU x u = eqV y x := by
  cases y with
  | non => cases r; rfl
  | bl b => cases r; rfl
  | int i => obtain ⟨t, rfl⟩ := r; rfl
  | str z => obtain ⟨t, rfl⟩ := r; rfl
  | _ => exact absurd (show false = true from f) Bool.false_ne_true
theorem any_eqU {x : V} : ∀ {xs : List V} {us : List Value}, Vals xs us -> xs.all flatV = true -> us.any (eqU x) = xs.any fun y => eqV y x
  | _, _, .nil, _ => rfl
  | y :: xs, u :: us, .cons r t, f => by
    rw [List.all_cons, Bool.and_eq_true] at f
    rw [List.any_cons, List.any_cons, eqU_of r f.1, any_eqU t f.2]
theorem mem_eqAt {A : Around} {s : Shared} {x : V} {v : Value} (rx : RelV x v) (fx : flatV x = true) : ∀ {xs : List V} {us : List Value}, Vals xs us -> xs.all flatV = true -> ∀ u ∈ us, SeqAt.EqAt A s u v (eqU x u)
  | _, _, .nil, _ => fun u hu => by cases hu
  | y :: xs, u :: us, .cons r t, f => fun u' hu => by
    rw [List.all_cons, Bool.and_eq_true] at f
    rcases List.mem_cons.mp hu with rfl | hu
    . rw [eqU_of r f.1]; exact eqAt_V r rx f.1 fx
    . exact mem_eqAt rx fx t f.2 u' hu
def inV (x : V) (xs : List V) : Bool := xs.any fun y => eqV y x
def rIn (K : PySem.W.Frag) (neg : Bool) : R2 := fun x y H Q => ∃ p xs, y = .ref p /\ (SqL K H p xs \/ SqT K H p xs) /\ flatV x = true /\ xs.all flatV = true /\ Q (.bl (if neg then !inV x xs else inV x xs)) H
theorem op_in_seq : OpR X (compareOp .In) (rIn X.K false) := by
  intro pins s σ H x y v u Q I rx ry h
  obtain ⟨p, xs, rfl, hq, fx, fs, q⟩ := h
  cases ry
  rcases hq with hq | hq
  . obtain ⟨its, r, pl, hz⟩ := I.list hq
    refine SeqAt.in_listAt (eqU x) pl.isList (fun w hw => mem_eqAt rx fx r fs w (by simpa using hw)) ⟨.bl _, H, I, rfl, ?_⟩
    rw [show its.toArray.any (eqU x) = its.any (eqU x) by simp, any_eqU r fs]
    exact q
  . obtain ⟨its, r, pl, hz⟩ := I.tuple hq
    refine SeqAt.in_tupleAt (eqU x) pl (fun w hw => mem_eqAt rx fx r fs w (by simpa using hw)) ⟨.bl _, H, I, rfl, ?_⟩
    rw [show its.toArray.any (eqU x) = its.any (eqU x) by simp, any_eqU r fs]
    exact q
theorem op_notIn_seq : OpR X (compareOp .NotIn) (rIn X.K true) := by
  intro pins s σ H x y v u Q I rx ry h
  obtain ⟨p, xs, rfl, hq, fx, fs, q⟩ := h
  cases ry
  rcases hq with hq | hq
  . obtain ⟨its, r, pl, hz⟩ := I.list hq
    refine SeqAt.notIn_listAt (eqU x) pl.isList (fun w hw => mem_eqAt rx fx r fs w (by simpa using hw)) ⟨.bl _, H, I, rfl, ?_⟩
    rw [show its.toArray.any (eqU x) = its.any (eqU x) by simp, any_eqU r fs]
    exact q
  . obtain ⟨its, r, pl, hz⟩ := I.tuple hq
    refine SeqAt.notIn_tupleAt (eqU x) pl (fun w hw => mem_eqAt rx fx r fs w (by simpa using hw)) ⟨.bl _, H, I, rfl, ?_⟩
    rw [show its.toArray.any (eqU x) = its.any (eqU x) by simp, any_eqU r fs]
    exact q
theorem call_list_of : CallR X (.type "list") (fun xs H Q => ∃ p ys, xs = [.ref p] /\ (SqL X.K H p ys \/ SqT X.K H p ys) /\ ∀ l, H l = none -> Q (.ref l) (upd H l (.lst ys))) := by
  intro pins s σ H xs us Q I r h
  obtain ⟨p, ys, rfl, hq, q⟩ := h
  obtain ⟨u, rfl, rx⟩ := vals1 r
  cases rx
  have fin : ∀ (its : List Value), Vals ys its -> ys.length <= sizeLine -> ∀ (h' : Heap) (c' : Nat), (∀ b o', s.heap.get? b = some o' -> h'.get? b = some o') ->
      h'.get? s.heap.objs.size = some { cls := .type "list", dict := none, data := .seq its.toArray c', slots := #[] } -> EP X pins σ Q (.ref s.heap.objs.size) { s with heap := h' } := fun its r' hz h' c' kp e =>
    ⟨.ref s.heap.objs.size, _, I.laid (t' := s.toks) kp (Nat.le_refl _) (show ObjOk X.prog X.w _ h' _ (.lst ys) from ⟨hz, its, c', r', e⟩), rfl, q _ (I.hok.fresh (Nat.le_refl _))⟩
  rcases hq with hq | hq
  . obtain ⟨its, r', pl, hz⟩ := I.list hq
    have hlen := r'.length
    obtain ⟨o, ho, hc, n, hd⟩ := pl.isList
    exact call_list_seq p (.inl rfl) ho hc hd (fun h' c' kp e => fin its r' hz h' c' kp e) (by simp only [List.size_toArray] <;> omega)
  . obtain ⟨its, r', pl, hz⟩ := I.tuple hq
    have hlen := r'.length
    obtain ⟨o, ho, hc, n, hd⟩ := pl
    exact call_list_seq p (.inr rfl) ho hc hd (fun h' c' kp e => fin its r' hz h' c' kp e) (by simp only [List.size_toArray] <;> omega)
theorem call_tuple_of : CallR X (.type "tuple") (fun xs H Q => ∃ p ys, xs = [.ref p] /\ ((SqL X.K H p ys /\ ∀ l, H l = none -> Q (.ref l) (upd H l (.tup ys))) \/ (SqT X.K H p ys /\ Q (.ref p) H))) := by
  intro pins s σ H xs us Q I r h
  obtain ⟨p, ys, rfl, h⟩ := h
  obtain ⟨u, rfl, rx⟩ := vals1 r
  cases rx
  rcases h with ⟨hq, q⟩ | ⟨hq, q⟩
  . obtain ⟨its, r', pl, hz⟩ := I.list hq
    have hlen := r'.length
    refine call_tuple_list pl.isList (fun h' kp => ?_) (by simp only [List.size_toArray] <;> omega)
    have I1 : Inv X pins σ H { s with heap := h' } := I.kept (t' := s.toks) kp
    have I2 : Inv X pins σ (upd H h'.objs.size (.tup ys)) { s with heap := h'.push { cls := .type "tuple", data := .seq its.toArray } } :=
      I1.laid (t' := s.toks) (fun b o e => Heap.get?_push_of_some _ e) (Nat.le_refl _) (show ObjOk X.prog X.w _ _ _ (.tup ys) from ⟨hz, its, r', IsTupN.new _ _⟩)
    exact ⟨.ref h'.objs.size, _, I2, rfl, q _ (I1.hok.fresh (Nat.le_refl _))⟩
  . obtain ⟨its, r', pl, hz⟩ := I.tuple hq
    exact call_tuple_same pl ⟨.ref p, H, I, rfl, q⟩
def tyV (K : PySem.W.Frag) (T : String) (x : V) (H : Hp) : Prop := match x with
  | .str _ => T = "str"
  | .int _ => T = "int"
  | .ref p => (T = "list" /\ ∃ xs, SqL K H p xs) \/ (T = "tuple" /\ ∃ o, K.lookup p = some o /\ o.cls = .type "tuple" /\ o.dict = none) \/
      (T = "dict" /\ ((∃ kvs, H p = some (.dK kvs)) \/ ∃ kvs, H p = some (.dT kvs))) \/ (T = "set" /\ ∃ S n, H p = some (.set S n))
  | _ => False
theorem tyV_is {pins : List (Addr × Obj)} {σ : St} {H : Hp} {s : Shared} {T : String} {x : V} {v : Value} (I : Inv X pins σ H s) (r : RelV x v) (ty : tyV X.K T x H) :
    s.TypeIs v T /\ ∀ a, v = .ref a -> ∃ ob, s.heap.get? a = some ob /\ ob.dict = none := by
  cases x with
  | str z =>
    obtain ⟨t, rfl⟩ := r
    cases (show T = "str" from ty)
    exact ⟨typeIs_str s z t, fun _ e => nomatch e⟩
  | int i =>
    obtain ⟨t, rfl⟩ := r
    cases (show T = "int" from ty)
    exact ⟨typeIs_int s i t, fun _ e => nomatch e⟩
  | ref p =>
    cases r
    rcases ty with ⟨rfl, xs, hq⟩ | ⟨rfl, o, hk, hc, hd⟩ | ⟨rfl, hk⟩ | ⟨rfl, S, n, hk⟩
    . obtain ⟨its, _, pl, _⟩ := I.list hq
      refine ⟨pl.isList.typeIs, fun a e => ?_⟩
      cases e
      obtain ⟨o, n, e, c, hd, _⟩ := pl
      exact ⟨o, e, hd⟩
    . refine ⟨⟨o, I.kIn p o hk, hc⟩, fun a e => ?_⟩
      cases e
      exact ⟨o, I.kIn _ o hk, hd⟩
    . have z : ∃ o, s.heap.get? p = some o /\ o.ExactDict := by
        rcases hk with ⟨kvs, hk⟩ | ⟨kvs, hk⟩
        . obtain ⟨_, _, _, _, o, _, _, e, ex, _⟩ := I.hok p _ hk
          exact ⟨o, e, ex⟩
        . obtain ⟨_, _, _, _, o, _, _, e, ex, _⟩ := I.hok p _ hk
          exact ⟨o, e, ex⟩
      obtain ⟨o, e, ex⟩ := z
      refine ⟨⟨o, e, ex.1⟩, fun a e2 => ?_⟩
      cases e2
      exact ⟨o, e, ex.2.1⟩
    . obtain ⟨o, _, _, _, e, ex, _⟩ := I.hok p _ hk
      refine ⟨⟨o, e, ex.1⟩, fun a e2 => ?_⟩
      cases e2
      exact ⟨o, e, ex.2.1⟩
  | _ => exact False.elim ty
def tBM0 (K : PySem.W.Frag) (T : String) (r : V -> List V -> Hp -> VK -> Prop) (to : TE) : TE := fun σ H Q => to σ H fun x H1 => tyV K T x H1 /\ r x [] H1 Q
def tBM (K : PySem.W.Frag) (T : String) (r : V -> List V -> Hp -> VK -> Prop) (to : TE) (t : TA) : TE := fun σ H Q => to σ H fun x H1 => tyV K T x H1 /\ t σ H1 fun xs H2 => r x xs H2 Q
variable {o e : Expr} {es : List Expr} {to : TE} {t : TA} {name : Str} {apos cpos : Pos} {T id : String} {r : V -> List V -> Hp -> VK -> Prop}
theorem pe_bm0 (pa : PlainAttrs T) (slot : Slot T name id) (hty : typeOf (.builtin id) = pure (.type "method_descriptor")) (hm : MtR X id r) (ho : PE X o to)
    (hbase : attributeBase o name X.env (eval o X.env) = eval o X.env := by rfl) (hline : (apos.endLine == cpos.line) = true := by rfl) : PE X (.Call (.Attribute o name apos) [] [] cpos) (tBM0 X.K T r to) := by
  intro pins s σ H Q I h
  refine wpAny_Call_method0_late hbase hline (thn (ho pins s σ H _ I h) fun v s1 ⟨x, H1, I1, r1, ty, q1⟩ => ?_)
  obtain ⟨h1, h2⟩ := tyV_is I1 r1 ty
  exact ⟨T, id, pa, slot, hty, h1, h2, Calls.callWith_builtin rfl (PySem.evalArgs_none (hm pins s1 σ H1 x [] v [] Q I1 r1 .nil q1))⟩
theorem pe_bm (pa : PlainAttrs T) (slot : Slot T name id) (hty : typeOf (.builtin id) = pure (.type "method_descriptor")) (hm : MtR X id r) (ho : PE X o to) (ha : PA X (e :: es) t)
    (hbase : attributeBase o name X.env (eval o X.env) = eval o X.env := by rfl)
    (hfew : ((backTo cpos (starEach (e :: es) X.env)).all (fun x => !x.1) && (backToKw cpos (keywordEach [] X.env)).all (fun x => x.1.isSome)
      && decide ((e :: es).length + ([] : List Keyword).length + (if ([] : List Keyword).isEmpty then 0 else 1) < 30)) = true := by rfl)
    (hline : (apos.endLine == cpos.line) = true := by rfl) (hs : starEach (e :: es) X.env = (false, eval e X.env) :: starEach es X.env := by rfl) (hplain : (backTo cpos (starEach es X.env)).any (·.1) = false := by rfl) :
    PE X (.Call (.Attribute o name apos) (e :: es) [] cpos) (tBM X.K T r to t) := by
  intro pins s σ H Q I h
  refine wpAny_Call_method_late hbase hfew hline rfl (thn (ho pins s σ H _ I h) fun v s1 ⟨x, H1, I1, r1, ty, q1⟩ => ?_)
  obtain ⟨h1, h2⟩ := tyV_is I1 r1 ty
  refine ⟨T, id, pa, slot, hty, h1, h2, ?_⟩
  have hA := ha cpos pins s1 σ H1 _ I1 q1
  rw [hs] at hA ⊢
  refine Calls.callWith_builtin (by show (false || (backTo cpos (starEach es X.env)).any (·.1)) = false; rw [hplain] <;> rfl) (Calls.evalArgs_plain ?_)
  exact thn hA fun us s2 ⟨vs, H2, I2, r2, q2⟩ => hm pins s2 σ H2 x vs v us Q I2 r1 r2 q2
end
def MtM (X : Cx) (id : String) (r : V -> List V -> Hp -> VK -> Prop) : Prop :=
  ∀ (pins : List (Addr × Obj)) (s : Shared) (σ : St) (H : Hp) (x : V) (xs : List V) (v : Value) (us : List Value) (Q : VK), Inv X pins σ H s -> RelV x v -> Vals xs us -> r x xs H Q ->
    wpAny (model X.prog X.w) X.A (call (.builtin id) (v :: us)) (EP X pins σ Q) X.xe s
theorem Vals.one : ∀ {x : V} {us : List Value}, Vals [x] us -> ∃ u, us = [u] /\ RelV x u
  | _, _, .cons r .nil => ⟨_, rfl, r⟩
theorem Vals.zero : ∀ {us : List Value}, Vals [] us -> us = []
  | _, .nil => rfl
theorem Vals.eraseIdx : ∀ {xs : List V} {us : List Value} (i : Nat), Vals xs us -> Vals (xs.eraseIdx i) (us.eraseIdx i)
  | _, _, _, .nil => .nil
  | _, _, 0, .cons _ t => t
  | _, _, i + 1, .cons r t => .cons r (Vals.eraseIdx i t)
theorem Vals.rep {xs : List V} {us : List Value} (h : Vals xs us) : ∀ k : Nat, Vals (List.replicate k xs).flatten (List.replicate k us).flatten
  | 0 => .nil
  | k + 1 => by
    rw [List.replicate_succ, List.replicate_succ, List.flatten_cons, List.flatten_cons]
    exact Vals.append h (Vals.rep h k)
theorem len_erase {α : Type} : ∀ (l : List α) (i : Nat), (l.eraseIdx i).length <= l.length
  | [], _ => Nat.le_refl _
  | _ :: _, 0 => Nat.le_succ _
  | _ :: r, i + 1 => Nat.succ_le_succ (len_erase r i)
theorem foldl_rep (its : List Value) : ∀ (k : Nat) (acc : List Value),
    List.foldl (fun x1 x2 => x1 ++ x2) acc.toArray (List.replicate k its.toArray) = (acc ++ (List.replicate k its).flatten).toArray
  | 0, acc => by simp
  | k + 1, acc => by
    have e : acc.toArray ++ its.toArray = (acc ++ its).toArray := by simp
    have e2 : (acc ++ its) ++ (List.replicate k its).flatten = acc ++ (List.replicate (k + 1) its).flatten := by
      rw [List.replicate_succ, List.flatten_cons, List.append_assoc]
    rw [<- e2, <- foldl_rep its k (acc ++ its), <- e, List.replicate_succ, List.foldl_cons]
section
variable {X : Cx} {pins : List (Addr × Obj)} {σ : St} {H : Hp} {s : Shared} {l b : Addr} {xs ys zs : List V}
theorem Inv.lset {its its' : List Value} {n : Nat} {f : Array Value -> Array Value} {t' : Nat} (I : Inv X pins σ H s) (hH : H l = some (.lst xs))
    (e : s.heap.get? l = some { cls := .type "list", data := .seq its.toArray n }) (hf : f its.toArray = its'.toArray) (hv : Vals ys its') (hz : ys.length <= sizeLine) :
    Inv X pins σ (upd H l (.lst ys)) { s with heap := s.heap.update l (Obj.mapSeq f), toks := t' } := by
  have q := PySem.IsL.update e f
  rw [hf] at q
  refine I.write (x := l) (e := l) (by rw [hH]; exact trivial) (.inl rfl) (fun b' u hb hu => (Heap.get?_update_other s.heap (Obj.mapSeq f) (Ne.symm hb)).trans hu) ⟨_, q⟩ ?_
  exact ⟨hz, its', _, hv, q⟩
theorem Inv.lnew {its : List Value} {t' : Nat} (I : Inv X pins σ H s) (hv : Vals ys its) (hz : ys.length <= sizeLine) :
    Inv X pins σ (upd H s.heap.objs.size (.lst ys)) { s with heap := s.heap.push { cls := .type "list", data := .seq its.toArray }, toks := t' } :=
  I.laid (fun _ _ q => Heap.get?_push_of_some _ q) (Nat.le_refl _) ⟨hz, its, 0, hv, Heap.get?_push_size _ rfl⟩
theorem Inv.fresh (I : Inv X pins σ H s) : H s.heap.objs.size = none := I.hok.fresh (Nat.le_refl _)
theorem Inv.lstM (I : Inv X pins σ H s) (hH : H l = some (.lst xs)) : xs.length <= sizeLine /\ ∃ (its : List Value) (n : Nat), Vals xs its /\ xs.length = its.length /\ s.heap.get? l = some { cls := .type "list", data := .seq its.toArray n } := by
  obtain ⟨z, its, n, r, e⟩ := I.hok l _ hH
  exact ⟨z, its, n, r, r.length, e⟩
theorem notLongL {n : Nat} (h : n <= sizeLine) : Builtin.List.listTooLong n = false := by
  unfold Builtin.List.listTooLong
  exact decide_eq_false (by omega)
end
section
variable {X : Cx}
def rAppend : V -> List V -> Hp -> VK -> Prop := fun x vs H Q => ∃ l xs y, x = .ref l /\ vs = [y] /\ H l = some (.lst xs) /\ xs.length < sizeLine /\ Q .non (upd H l (.lst (xs ++ [y])))
theorem mt_append : MtM X "list.append" rAppend := by
  intro pins s σ H x vs v us Q I rx rv h
  obtain ⟨l, xs, y, rfl, rfl, hH, hz, q⟩ := h
  cases rx
  obtain ⟨u, rfl, ru⟩ := rv.one
  obtain ⟨z, its, n, r, hl, e⟩ := I.lstM hH
  refine call_meets F.slot_list_append ⟨_, e, rfl⟩ F.entry_list_append (F.args_list_append_2 _ _) (PySem.list_append l its.toArray n u (by rw [List.size_toArray]; omega)) ⟨e, ?_⟩
  refine ⟨.non, _, I.lset (its' := its ++ [u]) hH e (by simp) (r.append (.cons ru .nil)) ?_, rfl, q⟩
  rw [List.length_append, List.length_singleton]
  omega
def rPopAt : V -> List V -> Hp -> VK -> Prop := fun x vs H Q => ∃ l xs i k y, x = .ref l /\ vs = [.int i] /\ H l = some (.lst xs) /\ -(2 ^ 63) <= i /\ i < 2 ^ 63 /\ seqIndex? i xs.length = some k /\ xs[k]? = some y /\ Q y (upd H l (.lst (xs.eraseIdx k)))
theorem mt_popAt : MtM X "list.pop" rPopAt := by
  intro pins s σ H x vs v us Q I rx rv h
  obtain ⟨l, xs, i, k, y, rfl, rfl, hH, h1, h2, hk, hy, q⟩ := h
  cases rx
  obtain ⟨u, rfl, ru⟩ := rv.one
  obtain ⟨t, rfl⟩ := ru
  obtain ⟨z, its, n, r, hl, e⟩ := I.lstM hH
  obtain ⟨w, hw, rw'⟩ := r.get hy
  refine call_meets F.slot_list_pop ⟨_, e, rfl⟩ F.entry_list_pop (F.args_list_pop_2 _ _)
    (MeetsSeq.list_pop_at l its.toArray n i t k w (fitsIndex_both h1 h2) (by rw [List.size_toArray, <- hl]; exact hk) (by rw [<- Array.getElem?_toList]; exact hw) (by rw [List.size_toArray]; omega)) ⟨e, ?_⟩
  refine ⟨y, _, I.lset (its' := its.eraseIdx k) hH e ?_ (r.eraseIdx k) ?_, rw', q⟩
  . show its.toArray.eraseIdxIfInBounds k = (its.eraseIdx k).toArray
    rw [List.eraseIdxIfInBounds_toArray]
  . have := len_erase xs k
    omega
def rCat : R2 := fun x y H Q => ∃ l b xs zs, x = .ref l /\ y = .ref b /\ H l = some (.lst xs) /\ H b = some (.lst zs) /\ xs.length + zs.length <= sizeLine /\ ∀ p, H p = none -> Q (.ref p) (upd H p (.lst (xs ++ zs)))
theorem op_cat : OpR X (binaryOp .Add) rCat := by
  intro pins s σ H x y v u Q I rx ry h
  obtain ⟨l, b, xs, zs, rfl, rfl, hH, hB, hz, q⟩ := h
  cases rx
  cases ry
  obtain ⟨z, its, n, r, hl, e⟩ := I.lstM hH
  obtain ⟨z2, its2, n2, r2, hl2, e2⟩ := I.lstM hB
  refine PySem.P.add_list e e2 ?_ (by rw [List.size_toArray, List.size_toArray]; omega)
  have ea : its.toArray ++ its2.toArray = (its ++ its2).toArray := by simp
  rw [ea]
  exact ⟨.ref _, _, I.lnew (t' := s.toks) (r.append r2) (by rw [List.length_append]; omega), rfl, q _ I.fresh⟩
def rRep : R2 := fun x y H Q => ∃ l k xs, x = .ref l /\ y = .int k /\ H l = some (.lst xs) /\ -(2 ^ 63) <= k /\ k < 2 ^ 63 /\ xs.length * k.toNat <= sizeLine /\
  ∀ p, H p = none -> Q (.ref p) (upd H p (.lst (List.replicate k.toNat xs).flatten))
theorem len_rep {α : Type} (xs : List α) (k : Nat) : (List.replicate k xs).flatten.length = k * xs.length := by
  induction k with
  | zero => simp
  | succ k ih => rw [List.replicate_succ, List.flatten_cons, List.length_append, ih, Nat.succ_mul, Nat.add_comm]
theorem op_rep : OpR X (binaryOp .Mult) rRep := by
  intro pins s σ H x y v u Q I rx ry h
  obtain ⟨l, k, xs, rfl, rfl, hH, h1, h2, hz, q⟩ := h
  cases rx
  obtain ⟨t, rfl⟩ := ry
  obtain ⟨z, its, n, r, hl, e⟩ := I.lstM hH
  have hlen : its.toArray.size * k.toNat <= sizeLine := by rw [List.size_toArray, <- hl]; exact hz
  have hcap : ¬ its.toArray.size * k.toNat > (2 ^ 63 - 1) / 8 := by
    have : (sizeLine : Nat) <= (2 ^ 63 - 1) / 8 := by decide
    omega
  have hfit : ¬ (!Builtin.List.listFitsIndex k) = true := by
    rw [fitsIndex_both h1 h2]
    exact Bool.false_ne_true
  have hlong : ¬ Builtin.List.listTooLong (its.toArray.size * k.toNat) = true := by
    rw [notLongL hlen]
    exact Bool.false_ne_true
  have hnew : List.foldl (fun x1 x2 => x1 ++ x2) #[] (List.replicate (if its.toArray.isEmpty = true then 0 else k.toNat) its.toArray) = (List.replicate k.toNat its).flatten.toArray := by
    have f0 : ∀ m : Nat, List.foldl (fun x1 x2 => x1 ++ x2) #[] (List.replicate m its.toArray) = (List.replicate m its).flatten.toArray := fun m => by
      have := foldl_rep its m []
      rw [List.nil_append] at this
      exact this
    rw [f0]
    cases its with
    | nil => simp
    | cons a r' => rw [if_neg (by simp)]
  refine wpAny_binaryOp_repeat_ref (T := "list") (U := "int") (by decide) ⟨_, e, rfl⟩ (fun s' => typeIs_int s' k t) noFill_list_mul F.fills_int_mul F.slot_int_rmul repeat_list F.slot_int_index.lookup
    (call_meets F.slot_int_rmul (typeIs_int s k t) F.entry_int_rmul (F.args_int_rmul_2 _ _) (int___rmul___int_list k t l its.toArray n)
      ⟨e, rfl, ⟨_, e, rfl⟩, call_meets F.slot_list_mul ⟨_, e, rfl⟩ F.entry_list_mul (F.args_list_mul_2 _ _) (AutoListH.list___mul___list_int_3 l its.toArray n k t hfit hcap hlong) ⟨e, ?_⟩⟩)
  rw [hnew]
  exact ⟨.ref _, _, I.lnew (t' := s.toks) (r.rep k.toNat) (by rw [len_rep, Nat.mul_comm]; exact hz), rfl, q _ I.fresh⟩
end
section
variable {prog : Program} {w : World} {A : Around} {E : Value -> Shared -> Prop} {s : Shared}
end
section
variable {X : Cx}
end
end L2
namespace Att
open PySem PySem.W PySem.Calls PyProof.Rows
theorem ints_of_wellAll {P : Params} {h : Heap} : ∀ (ns : List Int) (vs : List Value), WellAll P h vs (ns.map WData.int) -> IntsAre vs ns := by
  intro ns
  induction ns with
  | nil =>
    intro vs w
    rw [List.map_nil] at w
    cases w
    exact .nil
  | cons n ns ih =>
    intro vs w
    rw [List.map_cons] at w
    cases w with
    | cons a b =>
      cases a
      exact .cons _ _ (ih _ b)
theorem script_of {l : OpenLaw} {n : Nat} (hn : l.most = some n) {P : Params} {h : Heap} {args : List WData} {vals : List Value}
    (hpre : l.row.toRowW.claim.pre args = true) (hwl : WellAll P h vals args) :
    ∃ a vs ns, vals = [Value.ref a] /\ args = [WData.list (ns.map WData.int)] /\ h.get? a = some { cls := .type "list", data := .seq vs.toArray } /\ IntsAre vs ns /\ ns.length <= n := by
  have hsh : WShape.hasAll [] args [.list .int] = true := (pre_splitW hpre).1
  have hc : l.pre.holds [] { args := args } = true := (pre_splitW hpre).2
  obtain ⟨d, r, rfl, h1, h2⟩ := hasAllW_cons hsh
  obtain rfl := hasAllW_nil h2
  obtain ⟨xs, rfl, h3⟩ := hasW_list h1
  obtain ⟨ns, rfl⟩ := items_int h3
  have hlen : ns.length <= n := by
    unfold OpenLaw.pre at hc
    have h4 : (WTm.not (.lt (.lit (.int (n : Int))) (.len (.arg 0)))).holds [] { args := [.list (ns.map .int)] } = true := by
      have h4 := (holds_andW hc).1
      rw [hn] at h4
      exact h4
    have h5 := condW_of h4 (w_not (w_lt w_lit (w_len_list (w_arg rfl))))
    rw [List.length_map] at h5
    refine Nat.le_of_not_lt fun q => ?_
    have q' : (n : Int) < ((ns.length : Nat) : Int) := by omega
    first
      | (rw [decide_eq_true q'] at h5; exact absurd h5 (by decide))
      | (simp at h5; omega)
  cases hwl with
  | cons w1 w2 =>
    cases w2
    cases w1 with
    | list ho hall => exact ⟨_, _, ns, rfl, rfl, ho, ints_of_wellAll ns _ hall, hlen⟩
theorem post_true (l : OpenLaw) (args : List WData) : l.row.toRowW.claim.post args (.bool true) args = true :=
  postW_of (r := l.row.toRowW) (X := (true == true))
    (show WShape.has [] (.bool true) .bool = true by first | rfl | decide | simp [WShape.has, WShape.arms, WShape.armsAll])
    (show (WTm.eq .res (.lit (.bool true))).value [] { args := args, res := some (.bool true), after := args } = some (.bool (true == true)) from w_eq_bool (w_res rfl) w_lit) rfl
theorem attach_call {l : OpenLaw} {n : Nat} {q : Program} {loose : List Str} {XP : (Str -> Option Value) -> Heap -> Prop} {YP : World -> Heap -> Prop} {d : DefRec}
    (hn : l.most = some n) (hdf : d.params.defaults = [])
    (call : ∀ (w : World) (s₀ s₁ : Shared) (mg mb : Str -> Option Value) (fa : Addr) (o : Obj) (pm cd doc : Value) (a : Addr) (vs : List Value) (ns : List Int),
      Ground q loose [] XP w s₀ mg mb s₁.heap -> YP w s₁.heap ->
      s₁.heap.get? fa = some o -> o.data = .func (docDef d.name d.params d.body d.scope pm cd doc) -> s₁.heap.CodeRec cd d.name -> mg d.name = some (.ref fa) ->
      s₁.heap.get? a = some { cls := .type "list", data := .seq vs.toArray } -> IntsAre vs ns -> ns.length <= n -> s₁.gens = #[] ->
      codeAny (model l.prog w) callerA (.call (.ref fa) ⟨[.ref a], []⟩) (fun r s' => r = .ok (.ret (.bool true)) /\ OldK s₁.heap s'.heap /\ s'.os = s₁.os /\ AllBare s'.gens) s₁) :
    WalkO q loose XP YP l.row.toRowW d [] (fun f vs => PySem.call f vs) := by
  intro w s₀ s₁ mg mb G Y fa o pm cd doc dV kV ho hd hcd hD hmg hg args vals as hpre hlay hrd hwl hlo
  obtain rfl : dV = .none := Dflts.none hD hdf
  obtain rfl : kV = .none := Dflts.noKw hD
  obtain ⟨a, vs, ns, rfl, rfl, hobj, hints, hlen⟩ := script_of hn hpre hwl
  refine enter_call (codeAny_mono (call w s₀ s₁ mg mb fa o pm cd doc a vs ns G Y ho (fd_plain hd) hcd hmg hobj hints hlen hg) fun r s' hq => ?_)
  obtain ⟨rfl, h2, h3, h4⟩ := hq
  exact ⟨.inl ⟨.bool true, .bool true, [], rfl, fun _ => rfl, .bool true, post_true l _, fun _ => ⟨List.Pairwise.nil, fun _ hm => (nomatch hm)⟩⟩, h2, h3, h4⟩
section
variable {prog : Program} {w : World} {A : Around} {E : Value -> Shared -> Prop} {s : Shared} {K : Frag}
def noObjs (h : Heap) : Heap := { h with objs := #[] }
theorem noObjs_get (h : Heap) (b : Addr) : (noObjs h).get? b = none := by
  cases e : (noObjs h).get? b with
  | none => rfl
  | some o => exact absurd (Heap.lt_size e) (Nat.not_lt_zero _)
theorem fr_all {h : Heap} {L : Addr} {m : Str -> Option Value} (n : h.Ns L m) : Fr (noObjs h) L h m :=
  ⟨n, fun b o e => (by rw [noObjs_get] at e; cases e), Nat.zero_le _⟩
end
end Att
namespace L2
open PySem PySem.Spec PyProof.Rows
theorem vals_ints : ∀ {vs : List Value} {ns : List Int}, IntsAre vs ns -> Vals (ns.map V.int) vs
  | _, _, .nil => .nil
  | _, _, .cons n t h => .cons ⟨t, rfl⟩ (vals_ints h)
def defArgs (s : Stmt) : Arguments := match s with
  | .FunctionDef _ a _ _ _ _ _ _ _ _ => a
  | _ => { posonlyargs := [], args := [], vararg := none, kwonlyargs := [], kw_defaults := [], kwarg := none, defaults := [] }
def defBody (s : Stmt) : List Stmt := match s with
  | .FunctionDef _ _ b _ _ _ _ _ _ _ => b
  | _ => []
def defScope (s : Stmt) : Scope := match s with
  | .FunctionDef _ _ _ _ _ _ sc _ _ _ => sc
  | _ => { kind := .function, names := [], isGenerator := false, isCoroutine := false }
abbrev CX0 : CXT := fun _ _ _ _ _ _ => False
abbrev E0 : XK := fun _ _ _ => False
theorem pass0 {X : Cx} : Passes CX0 X E0 := fun _ _ _ _ _ _ _ h => h.elim
structure Fun (K : PySem.W.Frag) (x qual : Str) (st : Stmt) (f : Addr) (fd : FuncData) : Prop where
  ex : ∃ (oc : Value) (od : Option Addr) (kV doc pm : Value) (an : Option Addr) (cdv ct : Value) (osl : Array (Option Value)),
    fd = PySem.W.fnOf x qual (defArgs st) (defBody st) (defScope st) .none kV doc pm an cdv ct /\ K.lookup f = some ⟨oc, od, .func fd, osl⟩ /\ PySem.W.codeIn K cdv qual = true
  kp : PySem.W.keepIn K (.ref f) = true
section
variable {P : Program} {w : World} {K : PySem.W.Frag} {mg : Str -> Option Value} {base : Heap}
theorem Fun.ok {x qual : Str} {st : Stmt} {f : Addr} {fd : FuncData} {N ps : List Str} {k : Nat} {sp : Sp} (F : Fun K x qual st f fd) (S : FnScope N ps (defScope st)) (len : ∀ vs H Q E, sp vs H Q E -> vs.length = ps.length)
    (hbody : ∀ (cdv : Value) (A : Around) (outer : List Env) (s : Shared) (H : Hp) (vs : List V) (Q : VK) (E : XK), Room k (A.deeper (envOfC qual (defScope st) s.heap.objs.size f cdv)) -> sp vs H Q E ->
      ∃ t, PSs (cxOf CX0 P w K mg base N qual (defScope st) f cdv A outer s H E).nox (defBody st) t /\ t { nx := fun _ H' => Q .non H', rt := Q } (start N vs) H) : FnOk P w K mg base CX0 (k + 1) f fd ps sp := by
  obtain ⟨oc, od, kV, doc, pm, an, cdv, ct, osl, rfl, lk, hcd⟩ := F.ex
  refine fn_of lk hcd S len fun A outer s H vs Q E hr hsp => ?_
  obtain ⟨t, h, q⟩ := hbody cdv A outer s H vs Q E hr hsp
  exact ⟨t, h.nox, q⟩
theorem Fun.binds {x qual : Str} {st : Stmt} {f : Addr} {fd : FuncData} {ps : List Str} (F : Fun K x qual st f fd)
    (h : ∀ (kV doc pm : Value) (an : Option Addr) (cdv ct : Value) (us : List Value), us.length = ps.length -> bindArgs (PySem.W.fnOf x qual (defArgs st) (defBody st) (defScope st) .none kV doc pm an cdv ct) ⟨us, []⟩ = pure (ps.zip us)) : Binds K fd ps [] := by
  obtain ⟨oc, od, kV, doc, pm, an, cdv, ct, osl, rfl, lk, hcd⟩ := F.ex
  exact .all (h kV doc pm an cdv ct)
theorem fun_mk {x qual : Str} {st : Stmt} {f : Addr} {oc : Value} {od an : Option Addr} {osl : Array (Option Value)} {kV doc pm cdv ct : Value} (l : K.lookup f = some ⟨oc, od, .func (PySem.W.fnOf x qual (defArgs st) (defBody st) (defScope st) .none kV doc pm an cdv ct), osl⟩)
    (c : PySem.W.codeIn K cdv qual = true) (k : PySem.W.keepIn K (.ref f) = true) : Fun K x qual st f (PySem.W.fnOf x qual (defArgs st) (defBody st) (defScope st) .none kV doc pm an cdv ct) := ⟨⟨oc, od, kV, doc, pm, an, cdv, ct, osl, rfl, l, c⟩, k⟩
end
theorem small1000 {n : Nat} (h : n <= 1000) : n < sizeLine := Nat.lt_of_le_of_lt h (by decide)
section
variable {X : Cx}
end
theorem iteF {A B : Prop} (h : B) : if false = true then A else B := by
  rw [if_neg Bool.false_ne_true]
  exact h
theorem iteT {A B : Prop} (h : A) : if true = true then A else B := by
  rw [if_pos rfl]
  exact h
theorem ite2 {c A B : Prop} [Decidable c] (h1 : c -> A) (h2 : ¬ c -> B) : if c then A else B := by
  by_cases h : c
  . rw [if_pos h]
    exact h1 h
  . rw [if_neg h]
    exact h2 h
def Same (H H' : Hp) : Prop := ∀ b o, H b = some o -> H' b = some o
theorem Same.refl (H : Hp) : Same H H := fun _ _ h => h
theorem Same.trans {H H1 H2 : Hp} (a : Same H H1) (b : Same H1 H2) : Same H H2 := fun c o h => b c o (a c o h)
theorem Same.free {H H' : Hp} (e : Same H H') {l : Addr} (h : H' l = Option.none) : H l = Option.none := by
  cases q : H l with
  | none => rfl
  | some o =>
    rw [e l o q] at h
    cases h
theorem cellsFrom_app : ∀ (names : List (Str × NameKind)) (n : Nat) (acc : List (Str × Addr)), cellsFrom n names acc = cellsFrom n names [] ++ acc
  | [], _, _ => rfl
  | (name, kind) :: r, n, acc => by
    unfold cellsFrom
    split
    . rw [cellsFrom_app r (n + 1) ((name, n) :: acc), cellsFrom_app r (n + 1) [(name, n)], List.append_assoc]; rfl
    . exact cellsFrom_app r n acc
theorem cellsFrom_kind : ∀ (names : List (Str × NameKind)) (n : Nat) (acc : List (Str × Addr)) (x : Str) (c : Addr), (x, c) ∈ cellsFrom n names acc -> (x, c) ∈ acc \/ (x, NameKind.cell) ∈ names
  | [], _, _, _, _, h => .inl h
  | (name, kind) :: r, n, acc, x, c, h => by
    unfold cellsFrom at h
    split at h
    . rename_i hk
      rcases cellsFrom_kind r _ _ x c h with h | h
      . rcases List.mem_cons.mp h with e | h
        . cases e
          have : kind = .cell := by simpa using hk
          subst this
          exact .inr List.mem_cons_self
        . exact .inl h
      . exact .inr (List.mem_cons_of_mem _ h)
    . rcases cellsFrom_kind r _ _ x c h with h | h
      . exact .inl h
      . exact .inr (List.mem_cons_of_mem _ h)
theorem lookup_app {α : Type} {x : Str} : ∀ (l r : List (Str × α)), (l ++ r).lookup x = (match l.lookup x with | some c => some c | none => r.lookup x)
  | [], r => rfl
  | (k, v) :: l, r => by
    show List.lookup x ((k, v) :: (l ++ r)) = _
    rw [List.lookup_cons, List.lookup_cons]
    cases x == k with
    | true => rfl
    | false => exact lookup_app l r
theorem lookup_none_of {α : Type} {x : Str} : ∀ {l : List (Str × α)}, (∀ c, (x, c) ∉ l) -> l.lookup x = none
  | [], _ => rfl
  | (k, v) :: l, h => by
    rw [List.lookup_cons]
    cases hb : x == k with
    | true =>
      have : x = k := by simpa using hb
      subst this
      exact absurd List.mem_cons_self (h v)
    | false => exact lookup_none_of fun c hc => h c (List.mem_cons_of_mem _ hc)
def clOf (cells : List (Str × Addr)) : List (Str × NameKind) -> List (Str × Addr) -> List (Str × Addr)
  | [], acc => acc
  | (n, k) :: r, acc => if k == .free then clOf cells r ((n, (cells.lookup n).getD 0) :: acc) else clOf cells r acc
theorem closureFor_eq {scope : Scope} {env : Env} (h : ∀ y ∈ scope.names, y.2 = .free -> ∃ c, env.cells.lookup y.1 = some c) : closureFor scope env = pure (clOf env.cells scope.names []) := by
  have all : ∀ (names : List (Str × NameKind)) (acc : List (Str × Addr)), (∀ y ∈ names, y.2 = .free -> ∃ c, env.cells.lookup y.1 = some c) ->
      (forIn names acc fun (x : Str × NameKind) cs => (if (x.2 == NameKind.free) = true then (do let a <- cellOf env x.1; pure (ForInStep.yield ((x.1, a) :: cs))) else pure (ForInStep.yield cs) : Sem (ForInStep (List (Str × Addr))))) = (pure (clOf env.cells names acc) : Sem _) := by
    intro names
    induction names with
    | nil => intro acc _; rfl
    | cons y r ih =>
      intro acc hy
      obtain ⟨n, k⟩ := y
      rw [List.forIn_cons]
      have hr : ∀ y ∈ r, y.2 = .free -> ∃ c, env.cells.lookup y.1 = some c := fun y hm => hy y (List.mem_cons_of_mem _ hm)
      unfold clOf
      by_cases hk : (k == NameKind.free) = true
      . obtain ⟨c, e⟩ := hy (n, k) List.mem_cons_self (by simpa using hk)
        rw [if_pos hk, if_pos hk]
        have e2 : cellOf env n = pure c := by unfold cellOf; rw [show env.cells.lookup n = some c from e]
        rw [e2]
        rw [show env.cells.lookup n = some c from e]
        exact ih _ hr
      . rw [if_neg hk, if_neg hk]
        exact ih _ hr
  have q := all scope.names [] h
  unfold closureFor
  refine Eq.trans ?_ (congrArg (fun t => t >>= pure) q |>.trans (by rfl))
  congr 1
theorem clOf_mem {cells : List (Str × Addr)} : ∀ (names : List (Str × NameKind)) (acc : List (Str × Addr)) (x : Str) (c : Addr), (∀ y ∈ names, y.2 = .free -> ∃ c, cells.lookup y.1 = some c) -> (x, c) ∈ clOf cells names acc -> (x, c) ∈ acc \/ ((x, NameKind.free) ∈ names /\ cells.lookup x = some c)
  | [], _, _, _, _, h => .inl h
  | (n, k) :: r, acc, x, c, hy, h => by
    have hr : ∀ y ∈ r, y.2 = .free -> ∃ c, cells.lookup y.1 = some c := fun y hm => hy y (List.mem_cons_of_mem _ hm)
    unfold clOf at h
    split at h
    . rename_i hk
      have hk' : k = .free := by simpa using hk
      subst hk'
      obtain ⟨d, e⟩ := hy (n, .free) List.mem_cons_self rfl
      rcases clOf_mem r _ x c hr h with h | ⟨h, h'⟩
      . rcases List.mem_cons.mp h with e' | h
        . obtain ⟨e1, e2⟩ := Prod.mk.inj e'
          rw [show cells.lookup n = some d from e] at e2
          subst e1
          exact .inr ⟨List.mem_cons_self, by rw [e2]; exact e⟩
        . exact .inl h
      . exact .inr ⟨List.mem_cons_of_mem _ h, h'⟩
    . rcases clOf_mem r _ x c hr h with h | ⟨h, h'⟩
      . exact .inl h
      . exact .inr ⟨List.mem_cons_of_mem _ h, h'⟩
theorem clOf_keep {cells : List (Str × Addr)} {x : Str} : ∀ (names : List (Str × NameKind)) (acc : List (Str × Addr)), (∃ c, (x, c) ∈ acc) -> ∃ c, (x, c) ∈ clOf cells names acc
  | [], _, h => h
  | (n, k) :: r, acc, ⟨c, h⟩ => by
    unfold clOf
    split
    . exact clOf_keep r _ ⟨c, List.mem_cons_of_mem _ h⟩
    . exact clOf_keep r _ ⟨c, h⟩
theorem clOf_has {cells : List (Str × Addr)} {x : Str} : ∀ (names : List (Str × NameKind)) (acc : List (Str × Addr)), (x, NameKind.free) ∈ names -> ∃ c, (x, c) ∈ clOf cells names acc
  | (n, k) :: r, acc, h => by
    unfold clOf
    rcases List.mem_cons.mp h with e | h
    . cases e
      rw [if_pos (by decide)]
      exact clOf_keep r _ ⟨_, List.mem_cons_self⟩
    . split
      . exact clOf_has r _ h
      . exact clOf_has r _ h
theorem lookup_of_mem {α : Type} {x : Str} : ∀ {l : List (Str × α)}, (∃ c, (x, c) ∈ l) -> ∃ c, l.lookup x = some c
  | (k, v) :: l, ⟨c, h⟩ => by
    rw [List.lookup_cons]
    cases hb : x == k with
    | true => exact ⟨v, rfl⟩
    | false =>
      rcases List.mem_cons.mp h with e | h
      . cases e; simp at hb
      . exact lookup_of_mem ⟨c, h⟩
def relS (scope sc : Scope) : Scope :=
  { scope with names := scope.names.map fun (n, k) => if (k == .free && sc.kind == .function && sc.names.lookup n == some .cell) then (n, .cell) else (n, k) }
structure CompScope (scope sc : Scope) : Prop where
  kind : scope.kind = .function
  nd : (scope.names.map (·.1)).Nodup
  fr : ∀ y ∈ scope.names, y.2 = .free -> sc.names.lookup y.1 = some .cell \/ sc.names.lookup y.1 = some .free
theorem lookup_nd {α : Type} : ∀ {l : List (Str × α)} {x : Str} {c : α}, (l.map (·.1)).Nodup -> (x, c) ∈ l -> l.lookup x = some c
  | (k, v) :: l, x, c, nd, h => by
    obtain ⟨n1, n2⟩ := List.nodup_cons.mp (show (k :: l.map (·.1)).Nodup from nd)
    rw [List.lookup_cons]
    rcases List.mem_cons.mp h with e | h
    . cases e; simp
    . have hne : ¬ x = k := fun e => n1 (by rw [<- e]; exact List.mem_map.mpr ⟨(x, c), h, rfl⟩)
      have : (x == k) = false := by simpa using hne
      rw [this]
      exact lookup_nd n2 h
theorem relS_lookup {scope sc : Scope} {x : Str} : (relS scope sc).names.lookup x = (scope.names.lookup x).map fun k => if (k == .free && sc.kind == .function && sc.names.lookup x == some .cell) then NameKind.cell else k := by
  show (scope.names.map _).lookup x = _
  generalize scope.names = names
  induction names with
  | nil => rfl
  | cons y r ih =>
    obtain ⟨n, k⟩ := y
    rw [List.map_cons]
    by_cases hc : (k == .free && sc.kind == .function && sc.names.lookup n == some .cell) = true
    . show List.lookup x ((if (k == .free && sc.kind == .function && sc.names.lookup n == some .cell) = true then (n, NameKind.cell) else (n, k)) :: _) = _
      rw [if_pos hc, List.lookup_cons, List.lookup_cons]
      cases hb : x == n with
      | true =>
        have hx : x = n := by simpa using hb
        subst hx
        show some NameKind.cell = some (if _ then _ else _)
        rw [if_pos hc]
      | false => exact ih
    . show List.lookup x ((if (k == .free && sc.kind == .function && sc.names.lookup n == some .cell) = true then (n, NameKind.cell) else (n, k)) :: _) = _
      rw [if_neg hc, List.lookup_cons, List.lookup_cons]
      cases hb : x == n with
      | true =>
        have hx : x = n := by simpa using hb
        subst hx
        show some k = some (if _ then _ else _)
        rw [if_neg hc]
      | false => exact ih
structure CArgs where
  pins : List (Addr × Obj)
  cells : List (Str × Addr)
  s : Shared
  H : Hp
  fp : List Addr
  C : Addr
def Cx.comp (X : Cx) (scope : Scope) (N' : List Str) (c : CArgs) : Cx where
  prog := X.prog
  w := X.w
  K := X.K
  mg := X.mg
  base := X.base
  A := X.A
  N := N'
  s₀ := c.s
  H₀ := c.H
  env := compEnvC scope c.cells c.C X.env
  outer := X.stack
  stack := X.stack
  ex := c.fp
  fn := fun x => scope.names.lookup x == some .cell
  calm := X.calm
  pn := X.pn ++ c.pins
  xe := fun _ _ => False
def cSt (own : Nat) (ix : List Nat) (σ : St) : St := List.replicate own none ++ ix.map fun i => (σ[i]?).join
section
variable {X : Cx} {pins : List (Addr × Obj)} {σ : St} {H : Hp} {s s4 : Shared} {fp : List Addr} {scope : Scope} {N' : List Str} {own : Nat} {ix : List Nat}
theorem comp_inv (I : Inv X pins σ H s) (f2 : ∀ b ∈ fp, FpOk X pins H b) (hob : ∀ b ∈ fp, ∃ o, s.heap.get? b = some o) (S : CompScope scope X.env.scope)
    (hlen : N'.length = own + ix.length) (hN : (N'.drop own).map some = ix.map (X.N[·]?)) (hfr : ∀ x ∈ N'.drop own, scope.names.lookup x = some .free)
    {C : Addr} (hC : s.heap.objs.size < C) (k4 : ∀ b o, s.heap.get? b = some o -> s4.heap.get? b = some o) (os4 : s4.os = s.os) (g4 : s4.gens = s.gens)
    (n4 : ∃ m, s4.heap.Ns C m) (own4 : ∀ x c, (x, c) ∈ cellsFrom (C + 1) scope.names [] -> s4.heap.IsCell c none /\ C + 1 <= c)
    (apart : (cellsFrom (C + 1) scope.names []).Pairwise fun x y => x.2 ≠ y.2) :
    Inv (X.comp scope N' ⟨pins, cellsFrom (C + 1) scope.names (clOf X.env.cells scope.names []), s, H, fp, C⟩) [] (cSt own ix σ) H s4 := by
  have hfree : ∀ y ∈ scope.names, y.2 = .free -> ∃ c, X.env.cells.lookup y.1 = some c := fun y hy h => I.ok.has y.1 (S.fr y hy h)
  -- a cell of the block
  have cases : ∀ x c, (cellsFrom (C + 1) scope.names (clOf X.env.cells scope.names [])).lookup x = some c ->
      ((x, c) ∈ cellsFrom (C + 1) scope.names [] /\ scope.names.lookup x = some .cell) \/ ((x, NameKind.free) ∈ scope.names /\ X.env.cells.lookup x = some c) := fun x c h => by
    rw [cellsFrom_app, lookup_app] at h
    cases e : (cellsFrom (C + 1) scope.names []).lookup x with
    | some d =>
      rw [e] at h
      cases h
      have m := mem_of_lookup e
      rcases cellsFrom_kind _ _ _ _ _ m with z | z
      . exact absurd z (by simp)
      . exact .inl ⟨m, lookup_nd S.nd z⟩
    | none =>
      rw [e] at h
      rcases clOf_mem _ _ _ _ hfree (mem_of_lookup h) with z | z
      . exact absurd z (by simp)
      . exact .inr z
  have oldlt : ∀ x c, X.env.cells.lookup x = some c -> c < s.heap.objs.size := fun x c e => let ⟨v, q⟩ := I.cell x c e; q.lt
  have kin : ∀ x, (relS scope X.env.scope).names.lookup x = some .cell \/ (relS scope X.env.scope).names.lookup x = some .free -> (scope.names.lookup x = some .cell \/ scope.names.lookup x = some .free) := fun x h => by
    rw [relS_lookup] at h
    cases e : scope.names.lookup x with
    | none => rw [e] at h; simp at h
    | some k =>
      rw [e] at h
      cases k with
      | cell => exact .inl rfl
      | free => exact .inr rfl
      | _ => exact absurd h (by simp)
  have hCn : ∀ b o, s.heap.get? b = some o -> b ≠ C := fun b o e z => by have := Heap.lt_size e; rw [z] at this; exact Nat.lt_irrefl _ (Nat.lt_trans this hC)
  have lk : ∀ x, (x, NameKind.free) ∈ scope.names -> ∀ c, X.env.cells.lookup x = some c -> (cellsFrom (C + 1) scope.names (clOf X.env.cells scope.names [])).lookup x = some c := fun x hx c hc => by
    have hl : scope.names.lookup x = some .free := lookup_nd S.nd hx
    rw [cellsFrom_app, lookup_app, lookup_none_of (l := cellsFrom (C + 1) scope.names []) fun d hd => ?_]
    . obtain ⟨d, hd⟩ := lookup_of_mem (clOf_has (cells := X.env.cells) scope.names [] hx)
      rcases clOf_mem _ _ _ _ hfree (mem_of_lookup hd) with z | ⟨_, z⟩
      . exact absurd z (by simp)
      . rw [hc] at z; cases z; exact hd
    . rcases cellsFrom_kind _ _ _ _ _ hd with z | z
      . exact absurd z (by simp)
      . rw [lookup_nd S.nd z] at hl; cases hl
  refine ⟨⟨I.ok.mod, S.kind, I.ok.glob, I.ok.blt, Nat.le_of_lt hC, fun x y c hx hy => ?_, fun x hx => ?_, fun x c hf hx => ?_, I.ok.hd, I.ok.frames, .inl rfl, fun b hb => ⟨?_, fun x c hx => ?_⟩, fun b o e => I.bs b o e, Nat.le_trans I.ok.bsz I.sz, fun b o e hb => ?_, fun b hb z => ?_, I.stack, I.stkFree⟩,
    os4, by rw [g4]; exact I.bare, Un.kept k4, ?_, fun x c hx => ?_, ?_, fun x c hx => ?_, fun p hp => ?_, I.hok.kept k4, ?_⟩
  . -- inj
    rcases cases x c hx with ⟨m1, _⟩ | ⟨_, m1⟩ <;> rcases cases y c hy with ⟨m2, _⟩ | ⟨_, m2⟩
    . exact name_of_addr apart m1 m2
    . exact absurd (Nat.lt_of_lt_of_le (Nat.lt_trans (oldlt y c m2) hC) (Nat.le_of_succ_le (own4 x c m1).2)) (Nat.lt_irrefl _)
    . exact absurd (Nat.lt_of_lt_of_le (Nat.lt_trans (oldlt x c m1) hC) (Nat.le_of_succ_le (own4 y c m2).2)) (Nat.lt_irrefl _)
    . exact I.ok.inj x y c m1 m2
  . -- has
    rcases kin x hx with h | h
    . have q := PySem.W.cellsFrom_some scope.names (C + 1) (clOf X.env.cells scope.names []) (.inl h)
      exact Option.isSome_iff_exists.mp q
    . obtain ⟨c, e⟩ := hfree (x, .free) (mem_of_lookup h) rfl
      exact ⟨c, lk x (mem_of_lookup h) c e⟩
  . -- cab
    rcases cases x c hx with ⟨m1, _⟩ | ⟨m1, _⟩
    . exact Nat.le_of_lt (Nat.lt_of_lt_of_le hC (Nat.le_of_succ_le (own4 x c m1).2))
    . have hl := lookup_nd S.nd m1
      have hf' : (scope.names.lookup x == some NameKind.cell) = true := hf
      rw [hl] at hf'; cases hf'
  . obtain ⟨o, e⟩ := hob b hb
    exact hCn b o e
  . intro z
    obtain ⟨o, e⟩ := hob b hb
    have hlt := Heap.lt_size e
    rcases cases x c hx with ⟨m1, _⟩ | ⟨_, m1⟩
    . subst z; exact absurd (Nat.lt_of_lt_of_le (Nat.lt_trans hlt hC) (Nat.le_of_succ_le (own4 x c m1).2)) (Nat.lt_irrefl _)
    . exact (f2 b hb).2.2.2.2.1 x c m1 z
  . -- noex
    have e1 := (I.ok.bs b o e).1
    rcases (f2 b hb).2.2.2.1 with z | z
    . exact I.ok.noex b o e z
    . exact absurd (Nat.lt_of_lt_of_le (Heap.lt_size e1) z) (Nat.lt_irrefl _)
  . -- exfs
    rcases List.mem_cons.mp (I.stkSub b z) with e | z
    . exact (f2 b hb).2.1 e
    . exact (f2 b hb).2.2.1 z
  . -- loc
    obtain ⟨m, hm⟩ := n4
    obtain ⟨m0, hn0, hl0⟩ := I.loc
    refine ⟨m, hm, fun i x v h1 h2 h3 => ?_⟩
    have h1 : N'[i]? = some x := h1
    unfold cSt at h2
    by_cases hi : i < own
    . rw [List.getElem?_append_left (by simpa using hi), List.getElem?_replicate] at h2
      split at h2 <;> cases h2
    . rw [List.getElem?_append_right (by simpa using hi), List.length_replicate, List.getElem?_map] at h2
      obtain ⟨j, hj⟩ : ∃ j, i = own + j := ⟨i - own, by omega⟩
      subst hj
      rw [Nat.add_sub_cancel_left] at h2
      cases e : ix[j]? with
      | none => rw [e] at h2; cases h2
      | some q =>
        rw [e] at h2
        have h2 : some (σ[q]?).join = some (some v) := h2
        have h2 : (σ[q]?).join = some v := Option.some.inj h2
        have hσ : σ[q]? = some (some v) := by
          cases eq : σ[q]? with
          | none => rw [eq] at h2; cases h2
          | some z => rw [eq] at h2; simp at h2; rw [h2]
        have hx : (N'.drop own)[j]? = some x := by rw [List.getElem?_drop]; exact h1
        have hNq : X.N[q]? = some x := by
          have := congrArg (·[j]?) hN
          simp only [List.getElem?_map, hx, e, Option.map_some] at this
          exact (Option.some.inj this).symm
        have hfx := hfr x (List.mem_of_getElem? hx)
        have hmem := mem_of_lookup hfx
        have kx := S.fr (x, .free) hmem rfl
        have vis : Vis X.env.scope x := .inr kx
        obtain ⟨u, r, l⟩ := hl0 q x v hNq hσ vis
        refine ⟨u, r, ?_⟩
        rcases l with ⟨k, _⟩ | ⟨k, c, hc, z⟩
        . exfalso
          have k' : X.env.scope.names.lookup x = some .local := k
          rcases kx with kx | kx
          . rw [show X.env.scope.names.lookup x = some .cell from kx] at k'; cases k'
          . rw [show X.env.scope.names.lookup x = some .free from kx] at k'; cases k'
        . refine .inr ⟨?_, c, lk x hmem c hc, z.keeps k4⟩
          show (relS scope X.env.scope).names.lookup x = some .cell \/ (relS scope X.env.scope).names.lookup x = some .free
          rw [relS_lookup, hfx]
          by_cases hc : (NameKind.free == .free && X.env.scope.kind == .function && X.env.scope.names.lookup x == some .cell) = true
          . exact .inl (by rw [Option.map_some, if_pos hc])
          . exact .inr (by rw [Option.map_some, if_neg hc])
  . rcases cases x c hx with ⟨m1, _⟩ | ⟨_, m1⟩
    . exact ⟨_, (own4 x c m1).1⟩
    . obtain ⟨v, q⟩ := I.cell x c m1
      exact ⟨v, q.keeps k4⟩
  . exact I.hok.fresh (Nat.le_of_lt hC)
  . rcases cases x c hx with ⟨m1, _⟩ | ⟨_, m1⟩
    . exact I.hok.fresh (Nat.le_of_lt (Nat.lt_of_lt_of_le hC (Nat.le_of_succ_le (own4 x c m1).2)))
    . exact I.freeC x c m1
  . have hp : p ∈ X.pn ++ pins := by
      have : p ∈ (X.pn ++ pins) ++ [] := hp
      rwa [List.append_nil] at this
    obtain ⟨e, n, ne, nf, d⟩ := I.pin p hp
    refine ⟨k4 _ _ e, n, hCn _ _ e, fun z => ?_, d⟩
    rcases List.mem_cons.mp (I.stkSub _ z) with q | q
    . exact ne q
    . exact nf q
  . unfold cSt
    rw [List.length_append, List.length_replicate, List.length_map]
    exact hlen.symm
end
section
variable {prog : Program} {w : World} {A : Around} {R : Result -> Shared -> Prop} {s : Shared}
theorem codeAny_compLoop_any {elt target iter : Expr} {ifs : List Expr} {scope : Scope} {pos : Pos} {it acc : Value} {env : Env} (I : Nat -> Shared -> Prop)
    (turn : ∀ n s, I n s -> wpAny (model prog w) A (pyNext it) (fun r s₁ => match r with
      | none => R (.ok .next) s₁
      | some v => wpAny (model prog w) A (letOwnedTupleGo target it v) (fun _ s₁' => wpAny (model prog w) A (assign target env v) (fun _ s₂ =>
          wpAny (model prog w) A (forIn ifs true fun c r => if r = true then do let ok <- isTrue c env (eval c env); pure (ForInStep.yield ok) else pure (ForInStep.yield r)) (fun ok s₃ =>
            if ok = true then wpAny (model prog w) A (eval elt env) (fun x s₄ =>
              wpAny (model prog w) A (call (.builtin "list.append") [acc, x]) (fun _ s₅ => ∃ m, m < n /\ I m s₅) (fun _ _ => False) s₄) (fun _ _ => False) s₃
            else ∃ m, m < n /\ I m s₃) (fun _ _ => False) s₂) (fun _ _ => False) s₁') (fun _ _ => False) s₁) (fun _ _ => False) s)
    (n : Nat) (h : I n s) :
    codeAny (model prog w) A (.compLoop (.ListComp elt [⟨target, iter, ifs, 0⟩] scope pos) 0 it acc env) R s := by
  refine codeAny_loop rfl I (fun n s hI => ?_) n h
  show wpAny _ A ((compTurn (.ListComp elt [⟨target, iter, ifs, 0⟩] scope pos) 0 it acc env).onRaise (fun x => do noteFrame x env; theTreesLotGoes x)) _ _ s
  refine wpAny_noted ?_
  rw [compTurn_list]
  refine wpAny_bind (wpAny_standAt (wpAny_bind (wpAny_mono (turn n s hI) (fun r s₁ h₁ => ?_) fun _ _ h' => h'.elim)))
  cases r with
  | none => exact wpAny_pure h₁
  | some v =>
    refine wpAny_bind (wpAny_mono h₁ (fun _ s₁' h₁' => ?_) fun _ _ h' => h'.elim)
    refine wpAny_bind (wpAny_mono h₁' (fun _ s₂ h₂ => wpAny_bind (wpAny_mono h₂ (fun ok s₃ h₃ => ?_) fun _ _ h' => h'.elim)) fun _ _ h' => h'.elim)
    cases ok with
    | false => exact wpAny_pure ⟨rfl, h₃⟩
    | true =>
      exact wpAny_bind (wpAny_bind (wpAny_mono h₃ (fun x s₄ h₄ => wpAny_bind (wpAny_mono h₄ (fun _ s₅ h₅ => wpAny_pure (wpAny_pure ⟨rfl, h₅⟩)) fun _ _ h' => h'.elim)) fun _ _ h' => h'.elim))
end
def PTs (X : Cx) (ifs : List Expr) (t : TT) : Prop :=
  ∀ (pins : List (Addr × Obj)) (s : Shared) (σ : St) (H : Hp) (Q : Bool -> Hp -> Prop), Inv X pins σ H s -> t σ H Q ->
    wpAny (model X.prog X.w) X.A (forIn ifs true fun c r => if r = true then do let ok <- isTrue c X.env (eval c X.env); pure (ForInStep.yield ok) else pure (ForInStep.yield r)) (TP X pins σ Q) X.xe s
def tTrue : TT := fun _ H Q => Q true H
theorem pts_nil {X : Cx} : PTs X [] tTrue := fun _ _ _ H _ I h => wpAny_tests_nil ⟨H, I, h⟩
theorem pts_one {X : Cx} {c : Expr} {t : TT} (h : PT X c t) : PTs X [c] t := fun pins s σ H Q I hq => wpAny_tests_one (h pins s σ H Q I hq)
def GOwn (own : Nat) (g : TG) : Prop := ∀ x σ H Q, g x σ H Q -> g x σ H fun σ' H' => (σ'.length = σ.length /\ ∀ i, own <= i -> σ'[i]? = σ[i]?) /\ Q σ' H'
def GsOwn (own : Nat) (g : TGs) : Prop := ∀ x σ H Q, g x σ H Q -> g x σ H fun σ' H' => (σ'.length = σ.length /\ ∀ i, own <= i -> σ'[i]? = σ[i]?) /\ Q σ' H'
theorem go_name {own i : Nat} (h : i < own) : GOwn own (gName i) := fun x σ H Q q =>
  ⟨⟨by simp, fun j hj => by rw [List.getElem?_set_ne (by omega)]⟩, q⟩
theorem gos_nil {own : Nat} : GsOwn own gNil := fun x σ H Q ⟨e, q⟩ => ⟨e, ⟨rfl, fun _ _ => rfl⟩, q⟩
def GMono (g : TG) : Prop := ∀ x σ H (Q Q' : St -> Hp -> Prop), (∀ σ H, Q σ H -> Q' σ H) -> g x σ H Q -> g x σ H Q'
def GsMono (g : TGs) : Prop := ∀ x σ H (Q Q' : St -> Hp -> Prop), (∀ σ H, Q σ H -> Q' σ H) -> g x σ H Q -> g x σ H Q'
theorem gm_name {i : Nat} : GMono (gName i) := fun _ _ _ _ _ h q => h _ _ q
theorem gms_nil : GsMono gNil := fun _ _ _ _ _ h ⟨e, q⟩ => ⟨e, h _ _ q⟩
theorem gms_cons {t : TG} {u : TGs} (h1 : GMono t) (h2 : GsMono u) : GsMono (gCons t u) := fun _ _ _ _ _ h ⟨v, r, e, q⟩ => ⟨v, r, e, h1 _ _ _ _ _ (fun _ _ q => h2 _ _ _ _ _ h q) q⟩
theorem gos_cons {own : Nat} {t : TG} {u : TGs} (m : GMono t) (mu : GsMono u) (h1 : GOwn own t) (h2 : GsOwn own u) : GsOwn own (gCons t u) := fun x σ H Q ⟨v, r, e, q⟩ =>
  ⟨v, r, e, m _ _ _ _ _ (fun σ' H' ⟨⟨e1, e2⟩, q⟩ => mu _ _ _ _ _ (fun σ'' H'' ⟨⟨e3, e4⟩, q⟩ => ⟨⟨e3.trans e1, fun i hi => (e4 i hi).trans (e2 i hi)⟩, q⟩) (h2 r σ' H' Q q)) (h1 v σ H _ q)⟩
theorem go_tup {own : Nat} {K : PySem.W.Frag} {n : Nat} {t : TGs} (h : GsOwn own t) : GOwn own (gTup K n t) := fun x σ H Q ⟨a, xs, e, s, l, q⟩ => ⟨a, xs, e, s, l, h _ _ _ _ q⟩
theorem cSt_own {own : Nat} {ix : List Nat} {σ : St} {i : Nat} {v : V} (h : (cSt own ix σ)[i]? = some (some v)) : own <= i := by
  unfold cSt at h
  by_cases hi : i < own
  . rw [List.getElem?_append_left (by simpa using hi), List.getElem?_replicate] at h
    split at h <;> cases h
  . omega
def CompTurns (J : It) (g : TG) (tc : TT) (te : TE) (σc : St) (Q : VK) (H1 : Hp) : Prop :=
  ∃ W : Nat -> Nat -> List V -> Hp -> Prop, (∃ m, W 0 m [] H1) /\ ∀ i m ys H, W i m ys H ->
    (J.stop i H /\ ∀ p, H p = none -> Q (.ref p) (upd H p (.lst ys))) \/
    (J.go i H /\ ys.length < sizeLine /\ ∃ N : List V -> Hp -> Prop, (∀ ys' H', N ys' H' -> ∃ m', m' < m /\ W (i + 1) m' ys' H') /\ ∀ x H', J.yld i H x H' -> g x σc H' fun σ4 H4 => tc σ4 H4 fun b H5 =>
      if b = true then te σ4 H5 fun y H6 => N (ys ++ [y]) H6 else N ys H5)
def tComp (wi : TI) (own : Nat) (ix : List Nat) (g : TG) (tc : TT) (te : TE) : TE := fun σ H Q => wi σ H fun J H1 => CompTurns J g tc te (cSt own ix σ) Q H1
section
variable {X : Cx} {pins : List (Addr × Obj)} {σ : St} {H : Hp} {s : Shared} {fp : List Addr} {it : Addr} {tn : Nat -> Heap -> Prop} {J : It} {tg iter elt : Expr} {ifs : List Expr} {scope : Scope} {pos : Pos} {N' : List Str} {own : Nat} {ix : List Nat} {g : TG} {tc : TT} {te : TE} {Q : VK} {E : Value -> Shared -> Prop}
theorem comp_block (I : Inv X pins σ H s) (T : Turn X.prog X.w X.K tg J fp it tn) (st : tn 0 s.heap) (f2 : ∀ b ∈ fp, FpOk X pins H b) (hc : X.calm = true) (S : CompScope scope X.env.scope)
    (hlen : N'.length = own + ix.length) (hN : (N'.drop own).map some = ix.map (X.N[·]?)) (hfr : ∀ x ∈ N'.drop own, scope.names.lookup x = some .free)
    (hg : ∀ c, PG (X.comp scope N' c) tg g) (hgo : GOwn own g) (ht : ∀ c, PTs (X.comp scope N' c) ifs tc) (he : ∀ c, PE (X.comp scope N' c) elt te)
    (hq : CompTurns J g tc te (cSt own ix σ) Q H) {RR : Value -> Addr -> Result -> Shared -> Prop}
    (fin : ∀ (D C : Addr) (s' : Shared) (H' : Hp) (ys : List V) (its : List Value) (n : Nat), s'.os = s.os -> AllBare s'.gens -> Un (frs X.stack) fp H H' s.heap s'.heap -> HOk X.prog X.w H' s'.heap -> (∃ m, s'.heap.Ns C m) -> H' C = none -> s.heap.objs.size <= C ->
      H' D = none -> s.heap.objs.size <= D -> D ≠ C -> s'.heap.get? D = some { cls := .type "list", data := .seq its.toArray n } -> Vals ys its -> ys.length <= sizeLine -> (∀ p, H' p = none -> Q (.ref p) (upd H' p (.lst ys))) -> RR (.ref D) C (.ok .next) s') :
    wpAny (model X.prog X.w) X.A (newList []) (fun acc s₃ => wpAny (model X.prog X.w) X.A (newFunctionEnv scope X.env.globals (clOf X.env.cells scope.names []) [] X.env.qual none .none (some X.env)) (fun cenv s₄ =>
      codeAny (model X.prog X.w) X.A (.compStart (.ListComp elt [⟨tg, iter, ifs, 0⟩] scope pos) 0 (.ref it) acc { cenv with scope := relabel scope X.env }) (RR acc cenv.locals) s₄) E s₃) E s := by
  obtain ⟨W, ⟨m0, w0⟩, turn⟩ := hq
  have hob : ∀ b ∈ fp, ∃ o, s.heap.get? b = some o := fun b hb => let ⟨o, e, _⟩ := T.obj 0 _ st b hb; ⟨o, e⟩
  refine wpAny_newObj_type ?_
  generalize hH1 : s.heap.push { cls := .type "list", dict := none, data := .seq ([] : List Value).toArray } = h1
  have hs1 : h1.objs.size = s.heap.objs.size + 1 := by rw [<- hH1, Heap.size_push]
  have k1 : ∀ b o, s.heap.get? b = some o -> h1.get? b = some o := fun b o e => by rw [<- hH1]; exact Heap.get?_push_of_some _ e
  have d1 : h1.get? s.heap.objs.size = some { cls := .type "list", data := .seq ([] : List Value).toArray } := by rw [<- hH1]; exact Heap.get?_push_size _ rfl
  simp only [newFunctionEnv, Option.isSome_some, if_true]
  refine wpAny_bind (wpAny_alloc ?_)
  generalize hH2 : (({ s with heap := h1 } : Shared).heap.push { cls := .type "dict", data := .dict #[] }) = h2
  have hH2' : h1.push { cls := .type "dict", data := .dict #[] } = h2 := hH2
  have hs2 : h2.objs.size = h1.objs.size + 1 := by rw [<- hH2', Heap.size_push]
  have k2 : ∀ b o, h1.get? b = some o -> h2.get? b = some o := fun b o e => by rw [<- hH2']; exact Heap.get?_push_of_some _ e
  have n2 : h2.Ns h1.objs.size (fun _ => none) := by rw [<- hH2']; exact Heap.Ns.new h1 (.type "dict")
  refine wpAny_bind (wpAny_layCells _ (fun name kind cells => by cases hkc : kind == NameKind.cell <;> simp [hkc]) _ _ _ _ ?_)
  have ok := cellsFrom_ok scope.names h2 (h1.objs.size + 1) [] ⟨fun _ _ hm => (nomatch hm), List.Pairwise.nil⟩ (by rw [hs2]; exact Nat.le_refl _)
  rw [hs2] at ok
  show wpAny _ _ (forIn ([] : List (Str × Value)) PUnit.unit _ >>= _) _ _ _
  rw [List.forIn_nil]
  refine wpAny_bind (wpAny_pure (wpAny_pure ?_))
  show codeAny _ _ (.compStart _ 0 (.ref it) (.ref s.heap.objs.size) (compEnvC scope (cellsFrom h2.objs.size scope.names (clOf X.env.cells scope.names [])) h1.objs.size X.env)) (RR (.ref s.heap.objs.size) h1.objs.size) { s with heap := pushCells h2 scope.names }
  rw [hs2]
  generalize hH3 : pushCells h2 scope.names = h3 at ok ⊢
  have k3 : ∀ b o, h2.get? b = some o -> h3.get? b = some o := fun b o e => by rw [<- hH3]; exact pushCells_keeps _ _ b o e
  have kk : ∀ b o, s.heap.get? b = some o -> h3.get? b = some o := fun b o e => k3 b o (k2 b o (k1 b o e))
  have d3 : h3.get? s.heap.objs.size = some { cls := .type "list", data := .seq ([] : List Value).toArray } := k3 _ _ (k2 _ _ d1)
  have hC : s.heap.objs.size < h1.objs.size := by rw [hs1]; exact Nat.lt_succ_self _
  have I3 : Inv (X.comp scope N' ⟨pins, cellsFrom (h1.objs.size + 1) scope.names (clOf X.env.cells scope.names []), s, H, fp, h1.objs.size⟩) [] (cSt own ix σ) H { s with heap := h3 } :=
    comp_inv (s4 := { s with heap := h3 }) I f2 hob S hlen hN hfr hC kk rfl rfl ⟨_, n2.keeps k3⟩ (fun x c hm => ok.empty x c hm) ok.apart
  generalize hcs : cellsFrom (h1.objs.size + 1) scope.names (clOf X.env.cells scope.names []) = cs at I3 ⊢
  generalize hCC : h1.objs.size = C at *
  generalize hDD : s.heap.objs.size = D at *
  have hY := I3.ok
  -- what is fixed of the records
  have sD : D ≠ C /\ (∀ x c, cs.lookup x = some c -> c ≠ D) /\ D ∉ frs X.stack /\ ∀ p ∈ X.pn ++ pins, p.1 ≠ D := by
    refine ⟨Nat.ne_of_lt hC, fun x c e z => ?_, fun z => ?_, fun p hp z => ?_⟩
    . subst z
      have e' := e
      rw [<- hcs, cellsFrom_app, lookup_app] at e'
      cases q : (cellsFrom (C + 1) scope.names []).lookup x with
      | some d =>
        rw [q] at e'; cases e'
        have := (ok.empty x c (mem_of_lookup q)).2
        exact absurd (Nat.lt_of_lt_of_le hC (Nat.le_of_succ_le this)) (Nat.lt_irrefl _)
      | none =>
        rw [q] at e'
        have hfree : ∀ y ∈ scope.names, y.2 = .free -> ∃ c, X.env.cells.lookup y.1 = some c := fun y hy h => I.ok.has y.1 (S.fr y hy h)
        rcases clOf_mem _ _ _ _ hfree (mem_of_lookup e') with z | ⟨_, z⟩
        . exact absurd z (by simp)
        . obtain ⟨v, q⟩ := I.cell x c z
          have := q.lt
          rw [hDD] at this
          exact Nat.lt_irrefl _ this
    . exact (I3.nofs (a := D) (by exact absurd z (by
        intro z'
        obtain ⟨_, o, ho, _⟩ := (show s.heap.FunFrames X.base X.stack from I.stack).mem z'
        have := Heap.lt_size ho
        rw [hDD] at this
        exact Nat.lt_irrefl _ this))) z
    . have := Heap.lt_size (I.pin p hp).1
      rw [z, hDD] at this
      exact Nat.lt_irrefl _ this
  have stat : ∀ {H' : Hp}, (∀ b ∈ fp, H' b = none) -> ∀ b ∈ fp, FpOk (X.comp scope N' ⟨pins, cs, s, H, fp, C⟩) [] H' b := fun {H'} hn b hb => by
    refine ⟨hn b hb, (hY.exf b hb).1, hY.exfs b hb, .inl hb, (hY.exf b hb).2, fun p hp => ?_⟩
    have hp : p ∈ (X.pn ++ pins) ++ [] := hp
    rw [List.append_nil] at hp
    exact (f2 b hb).2.2.2.2.2 p hp
  have statD : ∀ {H' : Hp}, H' D = none -> FpOk (X.comp scope N' ⟨pins, cs, s, H, fp, C⟩) [] H' D := fun {H'} hn => by
    refine ⟨hn, sD.1, sD.2.2.1, .inr (Nat.le_of_eq hDD), sD.2.1, fun p hp => ?_⟩
    have hp : p ∈ (X.pn ++ pins) ++ [] := hp
    rw [List.append_nil] at hp
    exact sD.2.2.2 p hp
  have loop : codeAny (model X.prog X.w) X.A (.compLoop (.ListComp elt [⟨tg, iter, ifs, 0⟩] scope pos) 0 (.ref it) (.ref D) (compEnvC scope cs C X.env)) (RR (.ref D) C) { s with heap := h3 } := by
    refine codeAny_compLoop_any (fun n s' => ∃ (i : Nat) (H' : Hp) (ys : List V) (its : List Value) (k : Nat), Inv (X.comp scope N' ⟨pins, cs, s, H, fp, C⟩) [] (cSt own ix σ) H' s' /\ tn i s'.heap /\ (∀ b ∈ fp, H' b = none) /\ H' D = none /\
      s'.heap.get? D = some { cls := .type "list", data := .seq its.toArray k } /\ Vals ys its /\ ys.length <= sizeLine /\ W i n ys H') ?_ m0
      ⟨0, H, [], [], 0, I3, T.keep _ _ _ st fun b _ o e => kk b o e, fun b hb => (f2 b hb).1, I.hok.fresh (Nat.le_of_eq hDD), d3, .nil, Nat.zero_le _, w0⟩
    rintro n s4 ⟨i, H4, ys, its, k, I4, st4, fr4, dn4, d4, rv4, z4, w4⟩
    rcases turn i n ys H4 w4 with ⟨stop, qn⟩ | ⟨go, zl, N, hN2, step⟩
    . have ID := I4.pinned (fp := [D]) (fun b hb => by rw [List.mem_singleton.mp hb]; exact statD dn4) (fun b hb => by rw [List.mem_singleton.mp hb]; exact ⟨_, d4, fun v z => nomatch z⟩)
      have nD : ∀ b ∈ fp, b ≠ D := fun b hb z => by
        obtain ⟨o, e⟩ := hob b hb
        have := Heap.lt_size e
        rw [z, hDD] at this
        exact Nat.lt_irrefl _ this
      have stat' : ∀ b ∈ fp, FpOk (X.comp scope N' ⟨pins, cs, s, H, fp, C⟩) ([] ++ pinsAt [D] s4.heap) H4 b := fun b hb => by
        obtain ⟨q1, q2, q3, q4, q5, q6⟩ := stat fr4 b hb
        refine ⟨q1, q2, q3, q4, q5, fun p hp => ?_⟩
        rcases List.mem_append.mp hp with z | z
        . exact q6 p (List.mem_append_left _ z)
        . have := (of_pinsAt (by simpa using z : p ∈ pinsAt [D] s4.heap)).1
          rw [List.mem_singleton.mp this]
          exact fun z => nD b hb z.symm
      refine thn (T.done (X.comp scope N' ⟨pins, cs, s, H, fp, C⟩) rfl rfl rfl hc i _ s4 _ H4 (fun _ _ => False) ID stat' st4 stop) fun r s5 ⟨hr, I5⟩ => ?_
      subst hr
      obtain ⟨m, hm, _⟩ := I5.loc
      refine fin D C s5 H4 ys its k I5.os I5.bare I5.base I5.hok ⟨m, hm⟩ I5.free (Nat.le_of_lt hC) dn4 (Nat.le_refl _) sD.1 ?_ rv4 z4 qn
      . exact (I5.pin (D, _) (List.mem_append_right _ (List.mem_append_right _ (mem_pinsAt (List.mem_singleton.mpr rfl) d4)))).1
    . have nD : ∀ b ∈ fp, b ≠ D := fun b hb z => by
        obtain ⟨o, e⟩ := hob b hb
        have := Heap.lt_size e
        rw [z, hDD] at this
        exact Nat.lt_irrefl _ this
      have ID := I4.pinned (fp := [D]) (fun b hb => by rw [List.mem_singleton.mp hb]; exact statD dn4) (fun b hb => by rw [List.mem_singleton.mp hb]; exact ⟨_, d4, fun v z => nomatch z⟩)
      have statP : ∀ {H' : Hp}, (∀ b ∈ fp, H' b = none) -> ∀ b ∈ fp, FpOk (X.comp scope N' ⟨pins, cs, s, H, fp, C⟩) ([] ++ pinsAt [D] s4.heap) H' b := fun {H'} hn b hb => by
        obtain ⟨q1, q2, q3, q4, q5, q6⟩ := stat hn b hb
        refine ⟨q1, q2, q3, q4, q5, fun p hp => ?_⟩
        rcases List.mem_append.mp hp with z | z
        . exact q6 p (List.mem_append_left _ z)
        . have := (of_pinsAt (by simpa using z : p ∈ pinsAt [D] s4.heap)).1
          rw [List.mem_singleton.mp this]
          exact fun z => nD b hb z.symm
      refine thn (T.item (X.comp scope N' ⟨pins, cs, s, H, fp, C⟩) rfl rfl rfl hc i _ s4 _ H4 (fun _ _ => False) ID (statP fr4) st4 go) fun r s5 ⟨u, hr, h5⟩ => ?_
      subst hr
      refine thn h5 fun _ s6 ⟨x, H6, I6, r6, y6, st6, fr6⟩ => ?_
      have I6' := I6.pinned (statP fr6) (T.obj _ _ st6)
      refine thn (hg _ _ s6 _ H6 x u _ I6' r6 (hgo _ _ _ _ (step x H6 y6))) fun _ s7 ⟨σ7, H7, I7, ⟨e7, k7⟩, q7⟩ => ?_
      have I7' : Inv (X.comp scope N' ⟨pins, cs, s, H, fp, C⟩) ([] ++ pinsAt [D] s4.heap ++ pinsAt fp s6.heap) σ7 H7 s7 := I7
      refine thn (ht _ _ s7 σ7 H7 _ I7' q7) fun b s8 ⟨H8, I8, q8⟩ => ?_
      -- what is kept through the turn
      have back : ∀ {s9 : Shared} {H9 : Hp}, Inv (X.comp scope N' ⟨pins, cs, s, H, fp, C⟩) ([] ++ pinsAt [D] s4.heap ++ pinsAt fp s6.heap) σ7 H9 s9 ->
          Inv (X.comp scope N' ⟨pins, cs, s, H, fp, C⟩) [] (cSt own ix σ) H9 s9 /\ tn (i + 1) s9.heap /\ (∀ b ∈ fp, H9 b = none) /\ H9 D = none /\ s9.heap.get? D = some { cls := .type "list", data := .seq its.toArray k } := fun {s9 H9} I9 => by
        have pD := I9.pin (D, _) (List.mem_append_right _ (List.mem_append_left _ (List.mem_append_right _ (mem_pinsAt (List.mem_singleton.mpr rfl) d4))))
        refine ⟨I9.unpinned.unpinned.weak (by rw [e7]) fun j v hj => ?_, T.keep _ _ _ st6 fun b hb o e => (I9.pin (b, o) (List.mem_append_right _ (List.mem_append_right _ (mem_pinsAt hb e)))).1, fun b hb => ?_, pD.2.1, pD.1⟩
        . rw [k7 j (cSt_own hj)]; exact hj
        . obtain ⟨o, e, _⟩ := T.obj _ _ st6 b hb
          exact (I9.pin (b, o) (List.mem_append_right _ (List.mem_append_right _ (mem_pinsAt hb e)))).2.1
      cases b with
      | false =>
        rw [if_neg Bool.false_ne_true] at q8
        obtain ⟨m', hm, w8⟩ := hN2 _ _ q8
        obtain ⟨b1, b2, b3, b4, b5⟩ := back I8
        exact ⟨m', hm, i + 1, H8, ys, its, k, b1, b2, b3, b4, b5, rv4, z4, w8⟩
      | true =>
        rw [if_pos rfl] at q8
        rw [if_pos rfl]
        refine thn (he _ _ s8 σ7 H8 _ I8 q8) fun yv s9 ⟨y, H9, I9, r9, q9⟩ => ?_
        obtain ⟨m', hm, w9⟩ := hN2 _ _ q9
        obtain ⟨b1, b2, b3, b4, b5⟩ := back I9
        have hl := rv4.length
        refine call_meets F.slot_list_append ⟨_, b5, rfl⟩ F.entry_list_append (F.args_list_append_2 _ _) (PySem.list_append D its.toArray k yv (by rw [List.size_toArray]; omega)) ⟨b5, ?_⟩
        have up := PySem.IsL.update b5 (fun a => a.push yv)
        have keep : ∀ b o, b ≠ D -> s9.heap.get? b = some o -> (s9.heap.update D (Obj.mapSeq fun a => a.push yv)).get? b = some o := fun b o hb q => (Heap.get?_update_other _ _ (Ne.symm hb)).trans q
        obtain ⟨f0, f1, f2', f3, f4, f5⟩ := statD b4
        refine ⟨m', hm, i + 1, H9, ys ++ [y], its ++ [yv], (if ((its.toArray.push yv).size == its.toArray.size) = true then k else k + 1), b1.turned (t' := s9.toks) keep b4 f1 f3 f4 f5, ?_, b3, b4, ?_, rv4.append (.cons r9 .nil), ?_, w9⟩
        . exact T.keep _ _ _ b2 fun b hb o e => keep b o (nD b hb) e
        . have e2 : (its.toArray.push yv) = (its ++ [yv]).toArray := by simp
          rw [<- e2]
          exact up
        . rw [List.length_append, List.length_singleton]
          omega
  exact codeAny_compStart_list loop (T.self X.A 0 _ _ _ (T.keep _ _ _ st fun b _ o e => kk b o e) loop)
end
section
variable {X : Cx} {pins : List (Addr × Obj)} {σ : St} {H : Hp} {s : Shared} {fp : List Addr} {it : Addr} {tn : Nat -> Heap -> Prop} {J : It} {tg iter elt : Expr} {ifs : List Expr} {scope : Scope} {pos : Pos} {N' : List Str} {own : Nat} {ix : List Nat} {g : TG} {tc : TT} {te : TE} {wi : TI} {E : Value -> Shared -> Prop}
theorem comp_adopt {H' : Hp} {s' : Shared} {D : Addr} {ys : List V} {its : List Value} {n : Nat} (I : Inv X pins σ H s) (f2 : ∀ b ∈ fp, FpOk X pins H b) (ho : s'.os = s.os) (hg : AllBare s'.gens) (u : Un (frs X.stack) fp H H' s.heap s'.heap) (hok : HOk X.prog X.w H' s'.heap)
    (dn : H' D = none) (ds : s.heap.objs.size <= D) (d : s'.heap.get? D = some { cls := .type "list", data := .seq its.toArray n }) (rv : Vals ys its) (z : ys.length <= sizeLine) : Inv X pins σ (upd H' D (.lst ys)) s' := by
  have nD : ∀ b o, s.heap.get? b = some o -> b ≠ D := fun b o e q => by rw [q, Heap.get?_none_of_le ds] at e; cases e
  have nH : ∀ b o, H' b = some o -> b ≠ D := fun b o e q => by rw [q, dn] at e; cases e
  refine I.call' (ch := fp) ho ⟨u.keep, u.slot, fun b o e q hx => ?_, u.there, fun b xs e => ?_, fun b o v e => ?_, fun b ps e => ?_⟩ (fun b o e => ?_) hg fun b hb => ?_
  . rw [upd_ne (nD b o e)]; exact u.free b o e q hx
  . have := u.tups b xs e
    rw [upd_ne (nH _ _ this)]; exact this
  . have := u.frzs b o v e
    rw [upd_ne (nH _ _ this)]; exact this
  . obtain ⟨more, q⟩ := u.tbls b ps e
    exact ⟨more, by rw [upd_ne (nH _ _ q)]; exact q⟩
  . by_cases hb : b = D
    . subst hb
      rw [upd_same] at e
      cases e
      exact ⟨z, its, n, rv, d⟩
    . rw [upd_ne hb] at e
      exact (hok b o e).stay (fun _ _ _ q => q) (fun c q => by rw [upd_ne (nH _ _ q)]; exact q) fun c xs q => by rw [upd_ne (nH _ _ q)]; exact q
  . obtain ⟨q1, q2, q3, q4, q5, q6⟩ := f2 b hb
    exact ⟨q4, q2, q5, q6⟩
theorem Inv.dictGone {s' : Shared} {h' : Heap} {C : Addr} {H' : Hp} {σ' : St} (I : Inv X pins σ H s) (J : Inv X pins σ' H' s') (hC : s.heap.objs.size <= C) (hn : H' C = none) (k : Heap.SameBut C s'.heap h') : Inv X pins σ' H' { s' with heap := h' } := by
  have hC0 := Heap.get?_none_of_le hC
  refine J.turned (t' := s'.toks) (fun b o hb e => (k.2 b hb).trans e) hn (fun z => ?_) (.inr (Nat.le_trans I.sz hC)) (fun x c e z => ?_) fun p hp z => ?_
  . obtain ⟨m, ⟨o, _, _, ho, _⟩, _⟩ := I.loc
    rw [<- z, hC0] at ho; cases ho
  . obtain ⟨v, o, ho, _⟩ := I.cell x c e
    rw [z, hC0] at ho; cases ho
  . have := (I.pin p hp).1
    rw [z, hC0] at this; cases this
theorem pe_comp (hc : X.calm = true) (hi : PI X tg iter wi) (S : CompScope scope X.env.scope)
    (hlen : N'.length = own + ix.length) (hN : (N'.drop own).map some = ix.map (X.N[·]?)) (hfr : ∀ x ∈ N'.drop own, scope.names.lookup x = some .free)
    (hg : ∀ c, PG (X.comp scope N' c) tg g) (hgo : GOwn own g) (ht : ∀ c, PTs (X.comp scope N' c) ifs tc) (he : ∀ c, PE (X.comp scope N' c) elt te)
    (hs : ∀ x, foldedSetIterable iter X.env x = pure x := by intro _; rfl) : PE X (.ListComp elt [⟨tg, iter, ifs, 0⟩] scope pos) (tComp wi own ix g tc te) := by
  intro pins s σ H Q I h
  rw [eval_ListComp]
  have hfree : ∀ y ∈ scope.names, y.2 = .free -> ∃ c, X.env.cells.lookup y.1 = some c := fun y hy h => I.ok.has y.1 (S.fr y hy h)
  refine wpAny_comprehension_free (use := none) rfl hs (closureFor_eq hfree) S.kind (fun y hy hl => lookup_nd S.nd (by rw [<- hl]; exact hy)) ?_
  refine thn (hi pins s σ H _ I h) fun v s1 h1 => thn h1 fun itv s2 h2 => ?_
  obtain ⟨it, fp, tn, J, H2, e, I2, T, st2, f2, q2⟩ := h2
  subst e
  refine comp_block (RR := fun acc C => compPost (model X.prog X.w) X.A X.xe none (EP X pins σ Q) acc C) I2 T st2 f2 hc S hlen hN hfr hg hgo ht he q2 ?_
  intro D C s' H' ys its n ho hgn u hok hm hC hCs hD hDs hDC d rv z q
  obtain ⟨m, hm⟩ := hm
  have I3 := comp_adopt I2 f2 ho hgn u hok hD hDs d rv z
  refine ⟨m, hm, fun h' hs' => ?_⟩
  exact ⟨.ref D, _, I2.dictGone I3 hCs (by rw [upd_ne (Ne.symm hDC)]; exact hC) hs', rfl, q D hD⟩
theorem ps_comp {i : Nat} {y : Str} {py spos : Pos} (hc : X.calm = true) (hnd : X.N.Nodup) (hiy : X.N[i]? = some y) (hy : X.env.scope.names.lookup y = some .local) (hi : PI X tg iter wi) (S : CompScope scope X.env.scope)
    (hlen : N'.length = own + ix.length) (hN : (N'.drop own).map some = ix.map (X.N[·]?)) (hfr : ∀ x ∈ N'.drop own, scope.names.lookup x = some .free)
    (hg : ∀ c, PG (X.comp scope N' c) tg g) (hgo : GOwn own g) (ht : ∀ c, PTs (X.comp scope N' c) ifs tc) (he : ∀ c, PE (X.comp scope N' c) elt te)
    (hsw : swapsWith (.ListComp elt [⟨tg, iter, ifs, 0⟩] scope pos) (some (.Name y py)) spos.line X.env = pure true)
    (hs : ∀ x, foldedSetIterable iter X.env x = pure x := by intro _; rfl) : PS X (.Assign [.Name y py] (.ListComp elt [⟨tg, iter, ifs, 0⟩] scope pos) spos) (tAsg (tComp wi own ix g tc te) (gName i)) := by
  intro pins s σ H D I h
  rw [exec_Assign_Name_used _ _ _ _ hsw]
  refine wpAny_bind (wpAny_standAt (wpAny_bind ?_))
  show wpAny _ _ (do let _ <- comprehension (.ListComp elt [⟨tg, iter, ifs, 0⟩] scope pos) scope X.env _ (newList []) false (eval iter X.env) (some (assign (.Name y py) X.env))) _ _ s
  have hfree : ∀ y ∈ scope.names, y.2 = .free -> ∃ c, X.env.cells.lookup y.1 = some c := fun y hy h => I.ok.has y.1 (S.fr y hy h)
  refine wpAny_bind (wpAny_mono (wpAny_comprehension_free (use := some (assign (.Name y py) X.env)) (Q := fun _ s' => SP X pins D .next s') rfl hs (closureFor_eq hfree) S.kind (fun y hy hl => lookup_nd S.nd (by rw [<- hl]; exact hy)) ?_) (fun _ s' hq => wpAny_pure (wpAny_pure hq)) fun _ _ e => e)
  refine thn (hi pins s σ H _ I h) fun v s1 h1 => thn h1 fun itv s2 h2 => ?_
  obtain ⟨it, fp, tn, J, H2, e, I2, T, st2, f2, q2⟩ := h2
  subst e
  refine comp_block (RR := fun acc C => compPost (model X.prog X.w) X.A X.xe (some (assign (.Name y py) X.env)) (fun _ s' => SP X pins D .next s') acc C) I2 T st2 f2 hc S hlen hN hfr hg hgo ht he q2 ?_
  intro d C s' H' ys its n ho hgn u hok hm hC hCs hD hDs hDC hd rv z q
  obtain ⟨m, hm⟩ := hm
  have I3 := comp_adopt I2 f2 ho hgn u hok hD hDs hd rv z
  show wpAny _ _ (assign (.Name y py) X.env (.ref d)) _ _ s'
  have hCn : (upd H' d (.lst ys)) C = none := by rw [upd_ne (Ne.symm hDC)]; exact hC
  refine wpAny_assign_Name (store_ok2 I3 hnd hiy (.inl hy) (v := .ref d) rfl (fun s3 I4 ⟨a, sb, ha⟩ => ?_) (.inr hy))
  have ha' : a ≠ C := fun e => by
    have hC0 := Heap.get?_none_of_le hCs
    rcases ha with z | z
    . obtain ⟨m, ⟨o, _, _, ho, _⟩, _⟩ := I2.loc
      rw [<- z, e, hC0] at ho; cases ho
    . obtain ⟨v, o, ho, _⟩ := I2.cell y a z
      rw [e, hC0] at ho; cases ho
  refine ⟨m, hm.sameBut sb (Ne.symm ha'), fun h' hs' => ?_⟩
  exact ⟨_, _, I2.dictGone I4 hCs hCn hs', q d hD⟩
end
section
variable {X : Cx}
theorem PE.imp {e : Expr} {t t' : TE} (h : PE X e t) (f : ∀ σ H Q, t' σ H Q -> t σ H Q) : PE X e t' := fun pins s σ H Q I q => h pins s σ H Q I (f σ H Q q)
theorem OpR.imp {f : Value -> Value -> Sem Value} {r r' : R2} (h : OpR X f r) (g : ∀ x y H Q, r' x y H Q -> r x y H Q) : OpR X f r' := fun pins s σ H x y v u Q I rx ry q => h pins s σ H x y v u Q I rx ry (g _ _ _ _ q)
theorem CallR.imp {f : Value} {r r' : List V -> Hp -> VK -> Prop} (h : CallR X f r) (g : ∀ x H Q, r' x H Q -> r x H Q) : CallR X f r' := fun pins s σ H xs us Q I r q => h pins s σ H xs us Q I r (g _ _ _ q)
def vVar (i : Nat) : TE := fun σ H Q => match σ[i]? with
  | some (some v) => Q v H
  | _ => False
theorem vv (i : Nat) {x : Str} {pos : Pos} (hN : X.N[i]? = some x := by rfl) (hv : Vis X.env.scope x := by first | exact Or.inl rfl | exact Or.inr (Or.inl rfl) | exact Or.inr (Or.inr rfl)) (hd : (x == ("__debug__" : Str)) = false := by decide)
    (hcd : (x == ("__classdict__" : Str)) = false := by decide) : PE X (.Name x pos) (vVar i) := (pe_var hN hv hd hcd).imp fun σ H Q q => by
  unfold vVar at q
  split at q
  . rename_i v e; exact ⟨v, e, q⟩
  . exact q.elim
def okMul (i j : Int) : Prop := (i.natAbs < 2 ^ 4096 /\ j.natAbs < 2 ^ 4096) \/ (-(2 ^ 64) < i /\ i < 2 ^ 64) \/ (-(2 ^ 64) < j /\ j < 2 ^ 64)
theorem bits_of {i : Int} (h : i.natAbs < 2 ^ 4096) : Builtin.Int.intBits i <= 2 ^ 20 := by
  unfold Builtin.Int.intBits
  split
  . exact Nat.zero_le _
  . rename_i hz
    have hne : i.natAbs ≠ 0 := by
      have : ¬ i = 0 := by simpa using hz
      omega
    have := (Nat.log2_lt hne).mpr h
    have e : (2 : Nat) ^ 20 = 1048576 := by decide
    omega
theorem okMul.ok {i j : Int} (h : okMul i j) : IntMulOk i j := by
  rcases h with ⟨h1, h2⟩ | h | h
  . exact .of_bits (bits_of h1) (bits_of h2)
  . exact CMul.ok (.inl h)
  . exact CMul.ok (.inr h)
def okDiv (j : Int) : Prop := 0 < j /\ j < 2 ^ 4096
theorem okDiv.ok {i j : Int} (h : okDiv j) : Builtin.divisionGoesByPylong i j = false := by
  refine PyProof.noPylong_of_log2 ?_
  obtain ⟨h1, h2⟩ := h
  have hne : j.natAbs ≠ 0 := by omega
  have h3 : j.natAbs < 2 ^ 4096 := by
    have e : ((j.natAbs : Int)) = j := by omega
    have h2' : ((j.natAbs : Nat) : Int) < ((2 ^ 4096 : Nat) : Int) := by rw [e, Int.natCast_pow]; exact h2
    exact Int.ofNat_lt.mp h2'
  have := (Nat.log2_lt hne).mpr h3
  omega
def mAdd (K : PySem.W.Frag) : R2 := fun x y H Q => match x, y with
  | .int i, .int j => Q (.int (i + j)) H
  | .str a, .str b => a.length + b.length <= sizeLine /\ Q (.str (a ++ b)) H
  | .ref a, .ref b => rCat (.ref a) (.ref b) H Q \/ rCatT K (.ref a) (.ref b) H Q
  | _, _ => False
theorem om_add : OpR X (binaryOp .Add) (mAdd X.K) := by
  intro pins s σ H x y v u Q I rx ry q
  cases x <;> cases y <;> first
    | exact False.elim q
    | exact op_add pins s σ H _ _ v u Q I rx ry ⟨_, _, rfl, rfl, q⟩
    | exact op_add_str pins s σ H _ _ v u Q I rx ry ⟨_, _, rfl, rfl, q.1, q.2⟩
    | (rcases q with q | q
       . exact op_cat pins s σ H _ _ v u Q I rx ry q
       . exact op_catT pins s σ H _ _ v u Q I rx ry q)
def mSub : R2 := fun x y H Q => match x, y with
  | .int i, .int j => Q (.int (i - j)) H
  | _, _ => False
theorem om_sub : OpR X (binaryOp .Sub) mSub := by
  intro pins s σ H x y v u Q I rx ry q
  cases x <;> cases y <;> first
    | exact False.elim q
    | exact op_sub pins s σ H _ _ v u Q I rx ry ⟨_, _, rfl, rfl, q⟩
def mMul : R2 := fun x y H Q => match x, y with
  | .int i, .int j => okMul i j /\ Q (.int (i * j)) H
  | .ref a, .int k => rRep (.ref a) (.int k) H Q
  | _, _ => False
theorem om_mul : OpR X (binaryOp .Mult) mMul := by
  have hI : OpR X (binaryOp .Mult) (rI okMul fun i j => .int (i * j)) := opI fun _ _ _ _ _ _ _ hc q => mul_int q hc.ok
  intro pins s σ H x y v u Q I rx ry q
  cases x <;> cases y <;> first
    | exact False.elim q
    | exact hI pins s σ H _ _ v u Q I rx ry ⟨_, _, rfl, rfl, q.1, q.2⟩
    | exact op_rep pins s σ H _ _ v u Q I rx ry q
def mDiv : R2 := fun x y H Q => match x, y with
  | .int i, .int j => okDiv j /\ Q (.int (i / j)) H
  | _, _ => False
theorem om_div : OpR X (binaryOp .FloorDiv) mDiv := by
  have hI : OpR X (binaryOp .FloorDiv) (rI (fun _ j => okDiv j) fun i j => .int (i / j)) := opI fun i j _ _ _ _ _ hc q => by
    refine floordiv_int (by have := hc.1; omega) ?_ (.inl hc.ok)
    rw [Int.fdiv_eq_ediv_of_nonneg i (by have := hc.1; omega)]
    exact q
  intro pins s σ H x y v u Q I rx ry q
  cases x <;> cases y <;> first
    | exact False.elim q
    | exact hI pins s σ H _ _ v u Q I rx ry ⟨_, _, rfl, rfl, q.1, q.2⟩
def mMod : R2 := fun x y H Q => match x, y with
  | .int i, .int j => 0 < j /\ Q (.int (i % j)) H
  | _, _ => False
theorem om_mod : OpR X (binaryOp .Mod) mMod := by
  intro pins s σ H x y v u Q I rx ry q
  cases x <;> cases y <;> first
    | exact False.elim q
    | exact op_mod pins s σ H _ _ v u Q I rx ry ⟨_, _, rfl, rfl, q.1, q.2⟩
def mPow : R2 := fun x y H Q => match x, y with
  | .int i, .int j => CPow i j /\ Q (.int (i ^ j.toNat)) H
  | _, _ => False
theorem om_pow : OpR X (binaryOp .Pow) mPow := by
  intro pins s σ H x y v u Q I rx ry q
  cases x <;> cases y <;> first
    | exact False.elim q
    | exact op_pow pins s σ H _ _ v u Q I rx ry ⟨_, _, rfl, rfl, q.1, q.2⟩
def mBit (f : Int -> Int -> Int) : R2 := fun x y H Q => match x, y with
  | .int i, .int j => Q (.int (f i j)) H
  | _, _ => False
theorem om_and : OpR X (binaryOp .BitAnd) (mBit Builtin.bitAnd) := by
  intro pins s σ H x y v u Q I rx ry q
  cases x <;> cases y <;> first
    | exact False.elim q
    | exact op_and pins s σ H _ _ v u Q I rx ry ⟨_, _, rfl, rfl, q⟩
theorem om_xor : OpR X (binaryOp .BitXor) (mBit Builtin.bitXor) := by
  intro pins s σ H x y v u Q I rx ry q
  cases x <;> cases y <;> first
    | exact False.elim q
    | exact op_xor pins s σ H _ _ v u Q I rx ry ⟨_, _, rfl, rfl, q⟩
theorem om_or : OpR X (binaryOp .BitOr) (mBit Builtin.bitOr) := by
  intro pins s σ H x y v u Q I rx ry q
  cases x <;> cases y <;> first
    | exact False.elim q
    | exact op_or pins s σ H _ _ v u Q I rx ry ⟨_, _, rfl, rfl, q⟩
def mNeg : V -> Hp -> VK -> Prop := fun x H Q => match x with
  | .int i => Q (.int (-i)) H
  | _ => False
theorem um_neg : UnR X (unaryOp .USub) mNeg := by
  intro pins s σ H x v Q I rx q
  cases x <;> first
    | exact False.elim q
    | exact un_neg pins s σ H _ v Q I rx ⟨_, rfl, q⟩
def mCmp (p : Int -> Int -> Bool) : R2 := fun x y H Q => match x, y with
  | .int i, .int j => Q (.bl (p i j)) H
  | _, _ => False
theorem om_lt : OpR X (compareOp .Lt) (mCmp fun i j => decide (i < j)) := by
  intro pins s σ H x y v u Q I rx ry q
  cases x <;> cases y <;> first
    | exact False.elim q
    | exact op_lt pins s σ H _ _ v u Q I rx ry ⟨_, _, rfl, rfl, q⟩
theorem om_le : OpR X (compareOp .LtE) (mCmp fun i j => decide (i <= j)) := by
  intro pins s σ H x y v u Q I rx ry q
  cases x <;> cases y <;> first
    | exact False.elim q
    | exact op_le pins s σ H _ _ v u Q I rx ry ⟨_, _, rfl, rfl, q⟩
theorem om_gt : OpR X (compareOp .Gt) (mCmp fun i j => decide (j < i)) := by
  intro pins s σ H x y v u Q I rx ry q
  cases x <;> cases y <;> first
    | exact False.elim q
    | exact op_gt pins s σ H _ _ v u Q I rx ry ⟨_, _, rfl, rfl, q⟩
end
inductive Dv where
  | non | bl (b : Bool) | int (i : Int) | str (x : Str) | tup (ds : List Dv) | lst (ds : List Dv)
mutual
def Rep (K : PySem.W.Frag) (H : Hp) : Dv -> V -> Prop
  | .non, v => v = .non
  | .bl b, v => v = .bl b
  | .int i, v => v = .int i
  | .str x, v => v = .str x
  | .tup ds, v => ∃ a xs, v = .ref a /\ SqT K H a xs /\ Reps K H ds xs
  | .lst ds, v => ∃ a xs, v = .ref a /\ SqL K H a xs /\ Reps K H ds xs
def Reps (K : PySem.W.Frag) (H : Hp) : List Dv -> List V -> Prop
  | [], xs => xs = []
  | d :: ds, xs => ∃ x r, xs = x :: r /\ Rep K H d x /\ Reps K H ds r
end
mutual
def eqD : Dv -> Dv -> Bool
  | .non, .non => true
  | .bl a, .bl b => a == b
  | .bl a, .int b => (if a then 1 else 0) == b
  | .int a, .bl b => a == (if b then 1 else 0)
  | .int a, .int b => a == b
  | .str a, .str b => a == b
  | .tup ds, .tup es => eqDs ds es
  | .lst ds, .lst es => eqDs ds es
  | _, _ => false
def eqDs : List Dv -> List Dv -> Bool
  | [], [] => true
  | d :: ds, e :: es => eqD d e && eqDs ds es
  | _, _ => false
end
mutual
def depD : Dv -> Nat
  | .tup ds => depDs ds + 1
  | .lst ds => depDs ds + 1
  | _ => 0
def depDs : List Dv -> Nat
  | [] => 0
  | d :: ds => max (depD d) (depDs ds)
end
theorem eqD_tup (ds es : List Dv) : eqD (.tup ds) (.tup es) = eqDs ds es := by rw [eqD]
theorem eqD_lst (ds es : List Dv) : eqD (.lst ds) (.lst es) = eqDs ds es := by rw [eqD]
theorem Reps.length {K : PySem.W.Frag} {H : Hp} : ∀ {ds : List Dv} {xs : List V}, Reps K H ds xs -> ds.length = xs.length
  | [], xs, h => by unfold Reps at h; subst h; rfl
  | d :: ds, xs, h => by
    unfold Reps at h
    obtain ⟨x, r, rfl, _, h⟩ := h
    rw [List.length_cons, List.length_cons, Reps.length h]
theorem Reps.get {K : PySem.W.Frag} {H : Hp} : ∀ {ds : List Dv} {xs : List V} {i : Nat} {d : Dv}, Reps K H ds xs -> ds[i]? = some d -> ∃ x, xs[i]? = some x /\ Rep K H d x
  | [], _, _, _, _, e => by simp at e
  | d :: ds, xs, 0, _, h, e => by
    unfold Reps at h
    obtain ⟨x, r, rfl, h1, _⟩ := h
    simp at e; subst e
    exact ⟨x, rfl, h1⟩
  | d :: ds, xs, i + 1, _, h, e => by
    unfold Reps at h
    obtain ⟨x, r, rfl, _, h⟩ := h
    obtain ⟨y, h1, h2⟩ := Reps.get (i := i) h (by simpa using e)
    exact ⟨y, by simpa using h1, h2⟩
theorem depD_le {ds : List Dv} {i : Nat} {d : Dv} (h : ds[i]? = some d) : depD d <= depDs ds := by
  induction ds generalizing i with
  | nil => simp at h
  | cons e es ih =>
    unfold depDs
    cases i with
    | zero => simp at h; subst h; omega
    | succ i => have := ih (i := i) (by simpa using h); omega
theorem eqDs_all : ∀ (ds es : List Dv), ds.length = es.length -> eqDs ds es = (List.range ds.length).all fun i => match ds[i]?, es[i]? with | some d, some e => eqD d e | _, _ => false
  | [], [], _ => by unfold eqDs; rfl
  | d :: ds, e :: es, h => by
    unfold eqDs
    rw [List.length_cons, List.range_succ_eq_map, List.all_cons, List.all_map, eqDs_all ds es (by simpa using h)]
    congr 1
  | [], e :: es, h => by simp at h
  | d :: ds, [], h => by simp at h
theorem eqDs_len : ∀ (ds es : List Dv), ds.length ≠ es.length -> eqDs ds es = false
  | [], [], h => absurd rfl h
  | [], _ :: _, _ => by unfold eqDs; rfl
  | _ :: _, [], _ => by unfold eqDs; rfl
  | d :: ds, e :: es, h => by unfold eqDs; rw [eqDs_len ds es (fun z => h (by simp [z])), Bool.and_false]
mutual
theorem eqD_refl : ∀ d : Dv, eqD d d = true
  | .non => by unfold eqD; rfl
  | .bl b => by unfold eqD; simp
  | .int i => by unfold eqD; simp
  | .str x => by unfold eqD; simp
  | .tup ds => by unfold eqD; exact eqDs_refl ds
  | .lst ds => by unfold eqD; exact eqDs_refl ds
theorem eqDs_refl : ∀ ds : List Dv, eqDs ds ds = true
  | [] => by unfold eqDs; rfl
  | d :: ds => by unfold eqDs; rw [eqD_refl d, eqDs_refl ds]; rfl
end
section
variable {X : Cx} {pins : List (Addr × Obj)} {σ : St} {H : Hp} {s : Shared}
theorem no_both {a : Addr} {xs ys : List V} (I : Inv X pins σ H s) (h : SqL X.K H a xs) (h' : SqT X.K H a ys) : False := by
  obtain ⟨its, _, ⟨o, n, e, c, _⟩, _⟩ := I.list h
  obtain ⟨its', _, ⟨o', e', c', _⟩, _⟩ := I.tuple h'
  rw [e] at e'; cases e'
  rw [c] at c'
  exact absurd c' (by decide)
mutual
theorem rep_inj (I : Inv X pins σ H s) : ∀ (d e : Dv) (x : V), Rep X.K H d x -> Rep X.K H e x -> d = e
  | .non, e, x, h, h' => by
    unfold Rep at h; subst h
    cases e <;> unfold Rep at h' <;> first | rfl | (obtain ⟨a, xs, q, _⟩ := h'; cases q; done) | (cases h'; done)
  | .bl b, e, x, h, h' => by
    unfold Rep at h; subst h
    cases e <;> unfold Rep at h' <;> first | (obtain ⟨a, xs, q, _⟩ := h'; cases q; done) | (cases h'; rfl) | (cases h'; done)
  | .int b, e, x, h, h' => by
    unfold Rep at h; subst h
    cases e <;> unfold Rep at h' <;> first | (obtain ⟨a, xs, q, _⟩ := h'; cases q; done) | (cases h'; rfl) | (cases h'; done)
  | .str b, e, x, h, h' => by
    unfold Rep at h; subst h
    cases e <;> unfold Rep at h' <;> first | (obtain ⟨a, xs, q, _⟩ := h'; cases q; done) | (cases h'; rfl) | (cases h'; done)
  | .tup ds, e, x, h, h' => by
    unfold Rep at h
    obtain ⟨a, xs, rfl, hs, hr⟩ := h
    cases e with
    | tup es =>
      unfold Rep at h'
      obtain ⟨b, ys, q, hs', hr'⟩ := h'
      cases q
      rw [I.tuple_inj hs' hs] at hr'
      rw [reps_inj I ds es xs hr hr']
    | lst es =>
      unfold Rep at h'
      obtain ⟨b, ys, q, hs', hr'⟩ := h'
      cases q
      exact (no_both I hs' hs).elim
    | _ => unfold Rep at h'; cases h'
  | .lst ds, e, x, h, h' => by
    unfold Rep at h
    obtain ⟨a, xs, rfl, hs, hr⟩ := h
    cases e with
    | lst es =>
      unfold Rep at h'
      obtain ⟨b, ys, q, hs', hr'⟩ := h'
      cases q
      rw [I.list_inj hs' hs] at hr'
      rw [reps_inj I ds es xs hr hr']
    | tup es =>
      unfold Rep at h'
      obtain ⟨b, ys, q, hs', hr'⟩ := h'
      cases q
      exact (no_both I hs hs').elim
    | _ => unfold Rep at h'; cases h'
theorem reps_inj (I : Inv X pins σ H s) : ∀ (ds es : List Dv) (xs : List V), Reps X.K H ds xs -> Reps X.K H es xs -> ds = es
  | [], es, xs, h, h' => by
    unfold Reps at h; subst h
    cases es with
    | nil => rfl
    | cons e es => unfold Reps at h'; obtain ⟨x, r, q, _⟩ := h'; cases q
  | d :: ds, es, xs, h, h' => by
    unfold Reps at h
    obtain ⟨x, r, rfl, h1, h2⟩ := h
    cases es with
    | nil => unfold Reps at h'; cases h'
    | cons e es =>
      unfold Reps at h'
      obtain ⟨y, r', q, h3, h4⟩ := h'
      cases q
      rw [rep_inj I d e _ h1 h3, reps_inj I ds es _ h2 h4]
end
abbrev Eq3 (A : Around) (s : Shared) (u v : Value) (b : Bool) : Prop := SeqAt.EqAt A s u v b /\ SeqAt.RcAt A s u v b /\ SeqAt.RcNeAt A s u v (!b)
theorem eq3_tup {A : Around} {a b : Addr} {xs ys : List V} {ds es : List Dv} (I : Inv X pins σ H s) (hu : A.units < cLine) (ha : SqT X.K H a xs) (hb : SqT X.K H b ys) (hd : Reps X.K H ds xs) (he : Reps X.K H es ys)
    (ih : ∀ (i : Nat) (d e : Dv) (x y : V) (u v : Value), ds[i]? = some d -> es[i]? = some e -> xs[i]? = some x -> ys[i]? = some y -> RelV x u -> RelV y v -> SeqAt.EqAt A.in1 s u v (eqD d e)) : Eq3 A s (.ref a) (.ref b) (eqD (.tup ds) (.tup es)) := by
  obtain ⟨its, r1, p1, _⟩ := I.tuple ha
  obtain ⟨its2, r2, p2, _⟩ := I.tuple hb
  have l1 := hd.length; have l2 := he.length; have l3 := r1.length; have l4 := r2.length
  have hitem : ∀ j (h1 : j < its.toArray.size) (h2 : j < its2.toArray.size), SeqAt.EqAt A.in1 s its.toArray[j] its2.toArray[j] (match ds[j]?, es[j]? with | some d, some e => eqD d e | _, _ => false) := fun j h1 h2 => by
    rw [List.size_toArray] at h1 h2
    have e1 : ds[j]? = some ds[j] := List.getElem?_eq_getElem (by omega)
    have e2 : es[j]? = some es[j] := List.getElem?_eq_getElem (by omega)
    have e3 : xs[j]? = some xs[j] := List.getElem?_eq_getElem (by omega)
    have e4 : ys[j]? = some ys[j] := List.getElem?_eq_getElem (by omega)
    obtain ⟨u, q1, q2⟩ := r1.get e3
    obtain ⟨v, q3, q4⟩ := r2.get e4
    rw [e1, e2]
    have z1 : its.toArray[j] = u := by rw [List.getElem_toArray]; rw [List.getElem?_eq_getElem h1] at q1; exact Option.some.inj q1
    have z2 : its2.toArray[j] = v := by rw [List.getElem_toArray]; rw [List.getElem?_eq_getElem h2] at q3; exact Option.some.inj q3
    rw [z1, z2]
    exact ih j _ _ _ _ _ _ e1 e2 e3 e4 q2 q4
  have val : ((List.range (min its.toArray.size its2.toArray.size)).all (fun j => match ds[j]?, es[j]? with | some d, some e => eqD d e | _, _ => false) && its.toArray.size == its2.toArray.size) = eqD (.tup ds) (.tup es) := by
    rw [List.size_toArray, List.size_toArray, <- l3, <- l4, <- l1, <- l2, eqD_tup]
    by_cases h : ds.length = es.length
    . rw [h, Nat.min_self, <- h, eqDs_all ds es h]
      simp
    . rw [eqDs_len ds es h]
      have : (ds.length == es.length) = false := by simpa using h
      rw [this, Bool.and_false]
  have R := SeqAt.RcAt.tuples (A := A) p1 p2 hu hitem
  have N := SeqAt.RcNeAt.tuples (A := A) p1 p2 hu hitem
  rw [val] at R N
  refine ⟨?_, R, N⟩
  by_cases hab : a = b
  . subst hab
    have e : ds = es := by
      have := rep_inj I (.tup ds) (.tup es) (.ref a) (by unfold Rep; exact ⟨a, xs, rfl, ha, hd⟩) (by unfold Rep; exact ⟨a, ys, rfl, hb, he⟩)
      cases this; rfl
    subst e
    rw [eqD_refl]
    exact SeqAt.EqAt.same _
  . exact .of_refs hab R
theorem eq3_lst {A : Around} {a b : Addr} {xs ys : List V} {ds es : List Dv} (I : Inv X pins σ H s) (hu : A.units < cLine) (ha : SqL X.K H a xs) (hb : SqL X.K H b ys) (hd : Reps X.K H ds xs) (he : Reps X.K H es ys)
    (ih : ∀ (i : Nat) (d e : Dv) (x y : V) (u v : Value), ds[i]? = some d -> es[i]? = some e -> xs[i]? = some x -> ys[i]? = some y -> RelV x u -> RelV y v -> SeqAt.EqAt A.in1 s u v (eqD d e)) : Eq3 A s (.ref a) (.ref b) (eqD (.lst ds) (.lst es)) := by
  obtain ⟨its, r1, p1, _⟩ := I.list ha
  obtain ⟨its2, r2, p2, _⟩ := I.list hb
  have l1 := hd.length; have l2 := he.length; have l3 := r1.length; have l4 := r2.length
  have hitem : ∀ j (h1 : j < its.toArray.size) (h2 : j < its2.toArray.size), SeqAt.EqAt A.in1 s its.toArray[j] its2.toArray[j] (match ds[j]?, es[j]? with | some d, some e => eqD d e | _, _ => false) := fun j h1 h2 => by
    rw [List.size_toArray] at h1 h2
    have e1 : ds[j]? = some ds[j] := List.getElem?_eq_getElem (by omega)
    have e2 : es[j]? = some es[j] := List.getElem?_eq_getElem (by omega)
    have e3 : xs[j]? = some xs[j] := List.getElem?_eq_getElem (by omega)
    have e4 : ys[j]? = some ys[j] := List.getElem?_eq_getElem (by omega)
    obtain ⟨u, q1, q2⟩ := r1.get e3
    obtain ⟨v, q3, q4⟩ := r2.get e4
    rw [e1, e2]
    have z1 : its.toArray[j] = u := by rw [List.getElem_toArray]; rw [List.getElem?_eq_getElem h1] at q1; exact Option.some.inj q1
    have z2 : its2.toArray[j] = v := by rw [List.getElem_toArray]; rw [List.getElem?_eq_getElem h2] at q3; exact Option.some.inj q3
    rw [z1, z2]
    exact ih j _ _ _ _ _ _ e1 e2 e3 e4 q2 q4
  have RN : SeqAt.RcAt A s (.ref a) (.ref b) (eqD (.lst ds) (.lst es)) /\ SeqAt.RcNeAt A s (.ref a) (.ref b) (!eqD (.lst ds) (.lst es)) := by
    by_cases h : ds.length = es.length
    . have hsz : its.toArray.size = its2.toArray.size := by rw [List.size_toArray, List.size_toArray]; omega
      have val : (List.range its.toArray.size).all (fun j => match ds[j]?, es[j]? with | some d, some e => eqD d e | _, _ => false) = eqD (.lst ds) (.lst es) := by
        rw [eqD_lst, List.size_toArray, <- l3, <- l1, eqDs_all ds es h]
      have R := SeqAt.RcAt.lists (A := A) p1.isList p2.isList hsz hu hitem
      have N := SeqAt.RcNeAt.lists (A := A) p1.isList p2.isList hsz hu hitem
      rw [val] at R N
      exact ⟨R, N⟩
    . have hsz : (its.toArray.size != its2.toArray.size) = true := by rw [List.size_toArray, List.size_toArray]; simp; omega
      have val : eqD (.lst ds) (.lst es) = false := by rw [eqD_lst]; exact eqDs_len ds es h
      rw [val]
      exact ⟨SeqAt.RcAt.lists_lengths p1.isList p2.isList hsz hu, SeqAt.RcNeAt.lists_lengths p1.isList p2.isList hsz hu⟩
  refine ⟨?_, RN.1, RN.2⟩
  by_cases hab : a = b
  . subst hab
    have e : ds = es := by
      have := rep_inj I (.lst ds) (.lst es) (.ref a) (by unfold Rep; exact ⟨a, xs, rfl, ha, hd⟩) (by unfold Rep; exact ⟨a, ys, rfl, hb, he⟩)
      cases this; rfl
    subst e
    rw [eqD_refl]
    exact SeqAt.EqAt.same _
  . exact .of_refs hab RN.1
theorem eq_all (I : Inv X pins σ H s) : ∀ (n : Nat) (A : Around) (d e : Dv) (x y : V) (u v : Value), depD d <= n -> A.units + n < cLine -> Rep X.K H d x -> Rep X.K H e y -> RelV x u -> RelV y v -> Eq3 A s u v (eqD d e) := by
  intro n
  induction n with
  | zero =>
    intro A d e x y u v hd hu hx hy ru rv
    have hu' : A.units < cLine := by omega
    cases d with
    | tup ds => unfold depD at hd; omega
    | lst ds => unfold depD at hd; omega
    | non =>
      unfold Rep at hx; subst hx; cases ru
      cases e <;> unfold Rep at hy
      case non => subst hy; cases rv; exact ⟨SeqAt.EqAt.same _, SeqAt.RcAt.none_none, SeqAt.RcNeAt.none_none⟩
      case bl => subst hy; cases rv; exact ⟨.none_bool _, .none_bool _, .none_bool _⟩
      case int => subst hy; obtain ⟨t, rfl⟩ := rv; exact ⟨.none_int _ _, .none_int _ _, .none_int _ _⟩
      case str => subst hy; obtain ⟨t, rfl⟩ := rv; exact ⟨.none_str _ _, .none_str _ _, .none_str _ _⟩
      case tup => obtain ⟨a, xs, rfl, ha, _⟩ := hy; cases rv; obtain ⟨its, _, p, _⟩ := I.tuple ha; exact ⟨.none_tuple p hu', .none_tuple p hu', .none_tuple p hu'⟩
      case lst => obtain ⟨a, xs, rfl, ha, _⟩ := hy; cases rv; obtain ⟨its, _, p, _⟩ := I.list ha; exact ⟨.none_list p.isList hu', .none_list p.isList hu', .none_list p.isList hu'⟩
    | bl c =>
      unfold Rep at hx; subst hx; cases ru
      cases e <;> unfold Rep at hy
      case non => subst hy; cases rv; exact ⟨.bool_none _, .bool_none _, .bool_none _⟩
      case bl => subst hy; cases rv; unfold eqD; exact ⟨.bool_bool _ _, .bool_bool _ _, .bool_bool _ _⟩
      case int => subst hy; obtain ⟨t, rfl⟩ := rv; unfold eqD; exact ⟨.bool_int _ _ _, .bool_int _ _ _, .bool_int _ _ _⟩
      case str => subst hy; obtain ⟨t, rfl⟩ := rv; exact ⟨.bool_str _ _ _, .bool_str _ _ _, .bool_str _ _ _⟩
      case tup => obtain ⟨a, xs, rfl, ha, _⟩ := hy; cases rv; obtain ⟨its, _, p, _⟩ := I.tuple ha; exact ⟨.bool_tuple _ p hu', .bool_tuple _ p hu', .bool_tuple _ p hu'⟩
      case lst => obtain ⟨a, xs, rfl, ha, _⟩ := hy; cases rv; obtain ⟨its, _, p, _⟩ := I.list ha; exact ⟨.bool_list _ p.isList hu', .bool_list _ p.isList hu', .bool_list _ p.isList hu'⟩
    | int c =>
      unfold Rep at hx; subst hx; obtain ⟨t0, rfl⟩ := ru
      cases e <;> unfold Rep at hy
      case non => subst hy; cases rv; exact ⟨.int_none _ _, .int_none _ _, .int_none _ _⟩
      case bl => subst hy; cases rv; unfold eqD; exact ⟨.int_bool _ _ _, .int_bool _ _ _, .int_bool _ _ _⟩
      case int => subst hy; obtain ⟨t, rfl⟩ := rv; unfold eqD; exact ⟨.int_int _ _ _ _, .int_int _ _ _ _, .int_int _ _ _ _⟩
      case str => subst hy; obtain ⟨t, rfl⟩ := rv; exact ⟨.int_str _ _ _ _, .int_str _ _ _ _, .int_str _ _ _ _⟩
      case tup => obtain ⟨a, xs, rfl, ha, _⟩ := hy; cases rv; obtain ⟨its, _, p, _⟩ := I.tuple ha; exact ⟨.int_tuple _ _ p hu', .int_tuple _ _ p hu', .int_tuple _ _ p hu'⟩
      case lst => obtain ⟨a, xs, rfl, ha, _⟩ := hy; cases rv; obtain ⟨its, _, p, _⟩ := I.list ha; exact ⟨.int_list _ _ p.isList hu', .int_list _ _ p.isList hu', .int_list _ _ p.isList hu'⟩
    | str c =>
      unfold Rep at hx; subst hx; obtain ⟨t0, rfl⟩ := ru
      cases e <;> unfold Rep at hy
      case non => subst hy; cases rv; exact ⟨.str_none _ _, .str_none _ _, .str_none _ _⟩
      case bl => subst hy; cases rv; exact ⟨.str_bool _ _ _, .str_bool _ _ _, .str_bool _ _ _⟩
      case int => subst hy; obtain ⟨t, rfl⟩ := rv; exact ⟨.str_int _ _ _ _, .str_int _ _ _ _, .str_int _ _ _ _⟩
      case str => subst hy; obtain ⟨t, rfl⟩ := rv; unfold eqD; exact ⟨.str_str _ _ _ _, .str_str _ _ _ _, .str_str _ _ _ _⟩
      case tup => obtain ⟨a, xs, rfl, ha, _⟩ := hy; cases rv; obtain ⟨its, _, p, _⟩ := I.tuple ha; exact ⟨.str_tuple _ _ p hu', .str_tuple _ _ p hu', .str_tuple _ _ p hu'⟩
      case lst => obtain ⟨a, xs, rfl, ha, _⟩ := hy; cases rv; obtain ⟨its, _, p, _⟩ := I.list ha; exact ⟨.str_list _ _ p.isList hu', .str_list _ _ p.isList hu', .str_list _ _ p.isList hu'⟩
  | succ n ih =>
    intro A d e x y u v hd hu hx hy ru rv
    have hu' : A.units < cLine := by omega
    have hin : A.in1.units + n < cLine := by show A.units + 1 + n < cLine; omega
    cases d with
    | tup ds =>
      unfold depD at hd
      unfold Rep at hx
      obtain ⟨a, xs, rfl, ha, hr⟩ := hx
      cases ru
      cases e <;> unfold Rep at hy
      case tup es =>
        obtain ⟨b, ys, rfl, hb, hr'⟩ := hy
        cases rv
        refine eq3_tup I hu' ha hb hr hr' fun i d e x y u v e1 e2 e3 e4 ru rv => ?_
        obtain ⟨x', q1, q2⟩ := hr.get e1
        obtain ⟨y', q3, q4⟩ := hr'.get e2
        rw [e3] at q1; cases q1
        rw [e4] at q3; cases q3
        exact (ih A.in1 d e x y u v (by have := depD_le e1; omega) hin q2 q4 ru rv).1
      case non => subst hy; cases rv; obtain ⟨its, _, p, _⟩ := I.tuple ha; exact ⟨.tuple_none p hu', .tuple_none p hu', .tuple_none p hu'⟩
      case bl => subst hy; cases rv; obtain ⟨its, _, p, _⟩ := I.tuple ha; exact ⟨.tuple_bool _ p hu', .tuple_bool _ p hu', .tuple_bool _ p hu'⟩
      case int => subst hy; obtain ⟨t, rfl⟩ := rv; obtain ⟨its, _, p, _⟩ := I.tuple ha; exact ⟨.tuple_int _ _ p hu', .tuple_int _ _ p hu', .tuple_int _ _ p hu'⟩
      case str => subst hy; obtain ⟨t, rfl⟩ := rv; obtain ⟨its, _, p, _⟩ := I.tuple ha; exact ⟨.tuple_str _ _ p hu', .tuple_str _ _ p hu', .tuple_str _ _ p hu'⟩
      case lst => obtain ⟨b, ys, rfl, hb, _⟩ := hy; cases rv; obtain ⟨its, _, p, _⟩ := I.tuple ha; obtain ⟨its2, _, p2, _⟩ := I.list hb; exact ⟨.tuple_list p p2.isList hu', .tuple_list p p2.isList hu', .tuple_list p p2.isList hu'⟩
    | lst ds =>
      unfold depD at hd
      unfold Rep at hx
      obtain ⟨a, xs, rfl, ha, hr⟩ := hx
      cases ru
      cases e <;> unfold Rep at hy
      case lst es =>
        obtain ⟨b, ys, rfl, hb, hr'⟩ := hy
        cases rv
        refine eq3_lst I hu' ha hb hr hr' fun i d e x y u v e1 e2 e3 e4 ru rv => ?_
        obtain ⟨x', q1, q2⟩ := hr.get e1
        obtain ⟨y', q3, q4⟩ := hr'.get e2
        rw [e3] at q1; cases q1
        rw [e4] at q3; cases q3
        exact (ih A.in1 d e x y u v (by have := depD_le e1; omega) hin q2 q4 ru rv).1
      case non => subst hy; cases rv; obtain ⟨its, _, p, _⟩ := I.list ha; exact ⟨.list_none p.isList hu', .list_none p.isList hu', .list_none p.isList hu'⟩
      case bl => subst hy; cases rv; obtain ⟨its, _, p, _⟩ := I.list ha; exact ⟨.list_bool _ p.isList hu', .list_bool _ p.isList hu', .list_bool _ p.isList hu'⟩
      case int => subst hy; obtain ⟨t, rfl⟩ := rv; obtain ⟨its, _, p, _⟩ := I.list ha; exact ⟨.list_int _ _ p.isList hu', .list_int _ _ p.isList hu', .list_int _ _ p.isList hu'⟩
      case str => subst hy; obtain ⟨t, rfl⟩ := rv; obtain ⟨its, _, p, _⟩ := I.list ha; exact ⟨.list_str _ _ p.isList hu', .list_str _ _ p.isList hu', .list_str _ _ p.isList hu'⟩
      case tup => obtain ⟨b, ys, rfl, hb, _⟩ := hy; cases rv; obtain ⟨its, _, p, _⟩ := I.list ha; obtain ⟨its2, _, p2, _⟩ := I.tuple hb; exact ⟨.list_tuple p.isList p2 hu', .list_tuple p.isList p2 hu', .list_tuple p.isList p2 hu'⟩
    | non => exact ih A .non e x y u v (by unfold depD; omega) (by omega) hx hy ru rv
    | bl c => exact ih A (.bl c) e x y u v (by unfold depD; omega) (by omega) hx hy ru rv
    | int c => exact ih A (.int c) e x y u v (by unfold depD; omega) (by omega) hx hy ru rv
    | str c => exact ih A (.str c) e x y u v (by unfold depD; omega) (by omega) hx hy ru rv
end
section
variable {X : Cx}
def mEq (neg : Bool) (K : PySem.W.Frag) : R2 := fun x y H Q => match x, y with
  | .non, .non => Q (.bl (neg ^^ true)) H
  | .bl a, .bl b => Q (.bl (neg ^^ (a == b))) H
  | .int a, .int b => Q (.bl (neg ^^ (a == b))) H
  | .str a, .str b => Q (.bl (neg ^^ (a == b))) H
  | x, y => ∃ d e, Rep K H d x /\ Rep K H e y /\ depD d <= 60 /\ Q (.bl (neg ^^ eqD d e)) H
theorem om_eqAll (hu : X.A.units + 60 < cLine) : OpR X (compareOp .Eq) (fun x y H Q => ∃ d e, Rep X.K H d x /\ Rep X.K H e y /\ depD d <= 60 /\ Q (.bl (eqD d e)) H) := by
  intro pins s σ H x y v u Q I rx ry h
  obtain ⟨d, e, h1, h2, h3, q⟩ := h
  exact (eq_all I 60 X.A d e x y v u h3 hu h1 h2 rx ry).2.1 X.prog X.w _ _ ⟨.bl _, H, I, rfl, q⟩
theorem om_neAll (hu : X.A.units + 60 < cLine) : OpR X (compareOp .NotEq) (fun x y H Q => ∃ d e, Rep X.K H d x /\ Rep X.K H e y /\ depD d <= 60 /\ Q (.bl (!eqD d e)) H) := by
  intro pins s σ H x y v u Q I rx ry h
  obtain ⟨d, e, h1, h2, h3, q⟩ := h
  exact (eq_all I 60 X.A d e x y v u h3 hu h1 h2 rx ry).2.2 X.prog X.w _ _ ⟨.bl _, H, I, rfl, q⟩
theorem mEq_imp {neg : Bool} {K : PySem.W.Frag} {x y : V} {H : Hp} {Q : VK} (h : mEq neg K x y H Q) : ∃ d e, Rep K H d x /\ Rep K H e y /\ depD d <= 60 /\ Q (.bl (neg ^^ eqD d e)) H := by
  unfold mEq at h
  split at h
  . exact ⟨.non, .non, by unfold Rep; rfl, by unfold Rep; rfl, by unfold depD; omega, by unfold eqD; exact h⟩
  . rename_i a b; exact ⟨.bl a, .bl b, by unfold Rep; rfl, by unfold Rep; rfl, by unfold depD; omega, by unfold eqD; exact h⟩
  . rename_i a b; exact ⟨.int a, .int b, by unfold Rep; rfl, by unfold Rep; rfl, by unfold depD; omega, by unfold eqD; exact h⟩
  . rename_i a b; exact ⟨.str a, .str b, by unfold Rep; rfl, by unfold Rep; rfl, by unfold depD; omega, by unfold eqD; exact h⟩
  . exact h
theorem om_eq (hu : X.A.units + 60 < cLine) : OpR X (compareOp .Eq) (mEq false X.K) := (om_eqAll hu).imp fun x y H Q h => by
  obtain ⟨d, e, h1, h2, h3, q⟩ := mEq_imp h
  exact ⟨d, e, h1, h2, h3, by rw [Bool.false_xor] at q; exact q⟩
theorem om_ne (hu : X.A.units + 60 < cLine) : OpR X (compareOp .NotEq) (mEq true X.K) := (om_neAll hu).imp fun x y H Q h => by
  obtain ⟨d, e, h1, h2, h3, q⟩ := mEq_imp h
  exact ⟨d, e, h1, h2, h3, by rw [Bool.true_xor] at q; exact q⟩
end
section
variable {X : Cx} {a b c e : Expr} {es : List Expr} {ta tb tc te : TE} {tA tB' : TT} {t : TA} {pos p : Pos} {x : Str}
def isB (v : V) (Q : Bool -> Prop) : Prop := match v with
  | .bl c => Q c
  | _ => False
theorem isB_of {v : V} {Q : Bool -> Prop} (h : isB v Q) : ∃ c, v = .bl c /\ Q c := by
  cases v <;> first | exact False.elim h | exact ⟨_, rfl, h⟩
def EMono (t : TE) : Prop := ∀ σ H (Q Q' : VK), (∀ v H, Q v H -> Q' v H) -> t σ H Q -> t σ H Q'
def uB (t : TE) : TT := fun σ H Q => t σ H fun x H1 => isB x fun c => Q c H1
theorem tu_cmp {op : CmpOp} {r : R2} (ho : OpR X (compareOp op) r) (ha : PE X a ta) (hb : PE X b tb) (hm : behindInMarks op b = false := by first | exact nobehind _ (by decide) (by decide) | rfl) : PT X (.Compare a [op] [b] pos) (uB (tOp r ta tb)) := by
  intro pins s σ H Q I h
  refine wpAny_isTrue_Compare1 (thn (ha pins s σ H _ I h) fun v s1 ⟨x, H1, I1, r1, q1⟩ => thn (hb pins s1 σ H1 _ I1 q1) fun u s2 ⟨y, H2, I2, r2, q2⟩ =>
    thn (ho pins s2 σ H2 x y v u _ I2 r1 r2 q2) fun c s3 ⟨z, H3, I3, r3, q⟩ => ?_) hm
  obtain ⟨k, e, q3⟩ := isB_of q
  subst e
  cases r3
  exact wpAny_truthy_bool ⟨H3, I3, q3⟩
theorem pe_cmpM {op : CmpOp} {r : R2} (ho : OpR X (compareOp op) r) (ha : PE X a ta) (hb : PE X b tb) (hm : behindInMarks op b = false := by first | exact nobehind _ (by decide) (by decide) | rfl) : PE X (.Compare a [op] [b] pos) (tOp r ta tb) := pe_cmpR ho ha hb hm
theorem tu_val (h : PE X e te) (he : ∀ whole, isTrue e X.env whole = (do let v <- whole; standAt e.pos; holding [v] (truthy v)) := by intro _; rfl) : PT X e (uB te) := by
  intro pins s σ H Q I hq
  refine isTrue_plain (thn (h pins s σ H _ I hq) fun v s1 ⟨x, H1, I1, r1, q1⟩ => ?_) (he _)
  obtain ⟨k, e, q⟩ := isB_of q1
  subst e
  cases r1
  exact wpAny_truthy_bool ⟨H1, I1, q⟩
def vChain (r r' : R2) (ta tb tc : TE) : TE := fun σ H Q => ta σ H fun x H1 => tb σ H1 fun y H2 => r x y H2 fun z H3 => isB z fun k =>
  (if k = true then tc σ H3 fun w' H4 => r' y w' H4 Q else Q (.bl false) H3)
theorem pe_chainM {op op' : CmpOp} {r r' : R2} (ho : OpR X (compareOp op) r) (ho' : OpR X (compareOp op') r') (ha : PE X a ta) (hb : PE X b tb) (hc : PE X c tc)
    (hm : lastMarks [op, op'] [b, c] = false := by with_unfolding_all rfl) : PE X (.Compare a [op, op'] [b, c] pos) (vChain r r' ta tb tc) := by
  intro pins s σ H Q I h
  refine Compare_chain (thn (ha pins s σ H _ I h) fun v s1 ⟨x, H1, I1, r1, q1⟩ => chain_link (thn (hb pins s1 σ H1 _ I1 q1) fun u s2 ⟨y, H2, I2, r2, q2⟩ =>
    thn (ho pins s2 σ H2 x y v u _ I2 r1 r2 q2) fun d s3 ⟨z, H3, I3, r3, q⟩ => ?_)) hm
  obtain ⟨k, e, q3⟩ := isB_of q
  subst e
  cases r3
  refine wpAny_truthy_bool ?_
  cases k with
  | false => exact ite_ff ⟨.bl false, H3, I3, rfl, q3⟩
  | true => exact ite_tt (chain_last (thn (hc pins s3 σ H3 _ I3 q3) fun w' s4 ⟨z', H4, I4, r4, q4⟩ => ho' pins s4 σ H4 y z' u w' Q I4 r2 r4 q4))
def vAnd (ta tb : TE) : TE := fun σ H Q => ta σ H fun x H1 => isB x fun c => if c = true then tb σ H1 Q else Q (.bl false) H1
def vNot (ta : TE) : TE := fun σ H Q => ta σ H fun x H1 => isB x fun c => Q (.bl (!c)) H1
theorem pe_andM (ha : PE X a ta) (hb : PE X (.BoolOp .And (b :: es) pos) tb) : PE X (.BoolOp .And (a :: b :: es) pos) (vAnd ta tb) := by
  have ha' : PE X a (fun σ H Q => ta σ H fun x H1 => isB x fun c => Q (.bl c) H1) := fun pins s σ H Q I h => thn (ha pins s σ H _ I h) fun v s1 ⟨x, H1, I1, r1, q1⟩ => by
    obtain ⟨c, e, q⟩ := isB_of q1
    subst e
    exact ⟨.bl c, H1, I1, r1, q⟩
  have h := pe_and (pos := pos) ha' hb
  exact h.imp fun σ H Q q => by
    show ta σ H fun x H1 => isB x fun c => ∃ c', V.bl c = .bl c' /\ if c' = true then tb σ H1 Q else Q (.bl false) H1
    have e : (fun (x : V) (H1 : Hp) => isB x fun c => ∃ c', V.bl c = .bl c' /\ if c' = true then tb σ H1 Q else Q (.bl false) H1) = fun x H1 => isB x fun c => if c = true then tb σ H1 Q else Q (.bl false) H1 := by
      funext x H1
      cases x <;> first | rfl | (apply propext; constructor; (rintro ⟨c', e, h⟩; cases e; exact h); (intro h; exact ⟨_, rfl, h⟩))
    rw [e]
    exact q
theorem pe_notM (ha : PE X a ta) : PE X (.UnaryOp .Not a pos) (vNot ta) := by
  have ha' : PE X a (fun σ H Q => ta σ H fun x H1 => isB x fun c => Q (.bl c) H1) := fun pins s σ H Q I h => thn (ha pins s σ H _ I h) fun v s1 ⟨x, H1, I1, r1, q1⟩ => by
    obtain ⟨c, e, q⟩ := isB_of q1
    subst e
    exact ⟨.bl c, H1, I1, r1, q⟩
  have h := pe_not (pos := pos) ha'
  exact h.imp fun σ H Q q => by
    show ta σ H fun x H1 => isB x fun c => ∃ c', V.bl c = .bl c' /\ Q (.bl (!c')) H1
    have e : (fun (x : V) (H1 : Hp) => isB x fun c => ∃ c', V.bl c = .bl c' /\ Q (.bl (!c')) H1) = fun x H1 => isB x fun c => Q (.bl (!c)) H1 := by
      funext x H1
      cases x <;> first | rfl | (apply propext; constructor; (rintro ⟨c', e, h⟩; cases e; exact h); (intro h; exact ⟨_, rfl, h⟩))
    rw [e]
    exact q
def SqA (K : PySem.W.Frag) (H : Hp) (p : Addr) (xs : List V) : Prop := SqL K H p xs \/ SqT K H p xs
def mIx (K : PySem.W.Frag) : R2 := fun x y H Q => match x, y with
  | .ref p, .int i => ∃ xs v, SqA K H p xs /\ atI xs i = some v /\ Q v H
  | .str z, .int i => ∃ c, z.length <= sizeLine /\ atI z.cps.toList i = some c /\ Q (.str ⟨#[c]⟩) H
  | _, _ => False
theorem IxR.imp {r r' : R2} (h : IxR X r) (g : ∀ x y H Q, r' x y H Q -> r x y H Q) : IxR X r' := fun a b pins s σ H x y v u Q I rx ry q z => h a b pins s σ H x y v u Q I rx ry (g _ _ _ _ q) z
theorem xm_ix : IxR X (mIx X.K) := ix_seq.imp fun x y H Q q => by
  cases x <;> cases y <;> first
    | exact False.elim q
    | (obtain ⟨xs, v, h | h, e, q⟩ := q
       . exact .inl ⟨_, xs, _, v, rfl, rfl, h, e, q⟩
       . exact .inr (.inl ⟨_, xs, _, v, rfl, rfl, h, e, q⟩))
    | (obtain ⟨c, hz, e, q⟩ := q
       exact .inr (.inr ⟨_, _, c, rfl, rfl, hz, e, q⟩))
theorem pe_ixM (ha : PE X a ta) (hb : PE X b tb) (hs : PlainIx b := by intro _ _; rfl) : PE X (.Subscript a b pos) (tOp (mIx X.K) ta tb) := pe_ix xm_ix ha hb hs
def mLen (K : PySem.W.Frag) : List V -> Hp -> VK -> Prop := fun xs H Q => match xs with
  | [x] => ∃ n, LenV K x H n /\ Q (.int n) H
  | _ => False
theorem cm_len : CallR X (.builtin "len") (mLen X.K) := call_len.imp fun xs H Q q => by
  match xs, q with
  | [x], ⟨n, h, q⟩ => exact ⟨x, n, rfl, h, q⟩
def mAbs : List V -> Hp -> VK -> Prop := fun xs H Q => match xs with
  | [.int i] => Q (.int (i.natAbs : Int)) H
  | _ => False
theorem cm_abs : CallR X (.builtin "abs") mAbs := call_abs.imp fun xs H Q q => by
  match xs, q with
  | [.int i], q =>
    refine ⟨i, rfl, ?_⟩
    have e : (if i < 0 then -i else i) = (i.natAbs : Int) := by split <;> omega
    rw [e]
    exact q
def mMax : List V -> Hp -> VK -> Prop := fun xs H Q => match xs with
  | [.int i, .int j] => Q (.int (max i j)) H
  | _ => False
theorem cm_max (hc : X.calm = true) : CallR X (.builtin "max") mMax := (call_max2 hc).imp fun xs H Q q => by
  match xs, q with
  | [.int i, .int j], q =>
    refine ⟨i, j, rfl, ?_⟩
    have e : (if j > i then j else i) = max i j := by split <;> omega
    rw [e]
    exact q
def mMin : List V -> Hp -> VK -> Prop := fun xs H Q => match xs with
  | [.int i, .int j] => Q (.int (min i j)) H
  | _ => False
theorem cm_min (hc : X.calm = true) : CallR X (.builtin "min") mMin := (call_min2 hc).imp fun xs H Q q => by
  match xs, q with
  | [.int i, .int j], q =>
    refine ⟨i, j, rfl, ?_⟩
    have e : (if j < i then j else i) = min i j := by split <;> omega
    rw [e]
    exact q
def mInt : List V -> Hp -> VK -> Prop := fun xs H Q => match xs with
  | [.int i] => Q (.int i) H
  | [.bl k] => Q (.int (if k then 1 else 0)) H
  | _ => False
theorem cm_int : CallR X (.type "int") mInt := call_int1.imp fun xs H Q q => by
  match xs, q with
  | [.int i], q => exact .inl ⟨i, rfl, q⟩
  | [.bl k], q => exact .inr ⟨k, rfl, q⟩
def mTuple (K : PySem.W.Frag) : List V -> Hp -> VK -> Prop := fun xs H Q => match xs with
  | [.ref p] => ∃ ys, (SqL K H p ys /\ ∀ l, H l = none -> Q (.ref l) (upd H l (.tup ys))) \/ (SqT K H p ys /\ Q (.ref p) H)
  | _ => False
theorem cm_tuple : CallR X (.type "tuple") (mTuple X.K) := call_tuple_of.imp fun xs H Q q => by
  match xs, q with
  | [.ref p], ⟨ys, q⟩ => exact ⟨p, ys, rfl, q⟩
def mList (K : PySem.W.Frag) : List V -> Hp -> VK -> Prop := fun xs H Q => match xs with
  | [.ref p] => ∃ ys, SqA K H p ys /\ ∀ l, H l = none -> Q (.ref l) (upd H l (.lst ys))
  | _ => False
theorem cm_list : CallR X (.type "list") (mList X.K) := call_list_of.imp fun xs H Q q => by
  match xs, q with
  | [.ref p], ⟨ys, h, q⟩ => exact ⟨p, ys, rfl, h, q⟩
def isiT (K : PySem.W.Frag) (T : String) (x : V) (H : Hp) (b : Bool) : Prop := match x with
  | .non => b = (T == "NoneType")
  | .bl _ => b = (T == "bool" || T == "int")
  | .int _ => b = (T == "int")
  | .str _ => b = (T == "str")
  | .ref a => (∃ xs, (H a = some (.lst xs) \/ ∃ o, H a = some (.frz o (.lst xs))) /\ b = (T == "list")) \/ (∃ xs, H a = some (.tup xs) /\ b = (T == "tuple")) \/ ((∃ kvs, H a = some (.dK kvs)) /\ b = (T == "dict")) \/ ((∃ kvs, H a = some (.dT kvs)) /\ b = (T == "dict"))
  | _ => False
def kinds : List String := ["int", "bool", "str", "tuple", "list", "dict"]
theorem kit_all (K : PySem.W.Frag) : ∀ T ∈ kinds, PySem.W.kitOne K (.type "NoneType") (.type T) = some (T == "NoneType") /\ PySem.W.kitOne K (.type "bool") (.type T) = some (T == "bool" || T == "int") /\
    PySem.W.kitOne K (.type "int") (.type T) = some (T == "int") /\ PySem.W.kitOne K (.type "str") (.type T) = some (T == "str") /\ PySem.W.kitOne K (.type "list") (.type T) = some (T == "list") /\
    PySem.W.kitOne K (.type "tuple") (.type T) = some (T == "tuple") /\ PySem.W.kitOne K (.type "dict") (.type T) = some (T == "dict") := by
  intro T h
  unfold kinds at h
  rcases List.mem_cons.mp h with rfl | h
  . exact ⟨rfl, rfl, rfl, rfl, rfl, rfl, rfl⟩
  rcases List.mem_cons.mp h with rfl | h
  . exact ⟨rfl, rfl, rfl, rfl, rfl, rfl, rfl⟩
  rcases List.mem_cons.mp h with rfl | h
  . exact ⟨rfl, rfl, rfl, rfl, rfl, rfl, rfl⟩
  rcases List.mem_cons.mp h with rfl | h
  . exact ⟨rfl, rfl, rfl, rfl, rfl, rfl, rfl⟩
  rcases List.mem_cons.mp h with rfl | h
  . exact ⟨rfl, rfl, rfl, rfl, rfl, rfl, rfl⟩
  rcases List.mem_cons.mp h with rfl | h
  . exact ⟨rfl, rfl, rfl, rfl, rfl, rfl, rfl⟩
  . exact absurd h (by simp)
theorem isiT_ty {K : PySem.W.Frag} {T : String} {v : V} {H : Hp} {k : Bool} (hT : T ∈ kinds) (h : isiT K T v H k) : ∃ ty, TyOf K H v ty /\ PySem.W.kitOne K ty (.type T) = some k := by
  obtain ⟨k1, k2, k3, k4, k5, k6, k7⟩ := kit_all K T hT
  cases v with
  | non => cases (show k = _ from h); exact ⟨_, .non, k1⟩
  | bl _ => cases (show k = _ from h); exact ⟨_, .bl _, k2⟩
  | int _ => cases (show k = _ from h); exact ⟨_, .int _, k3⟩
  | str _ => cases (show k = _ from h); exact ⟨_, .str _, k4⟩
  | ref q =>
    rcases h with ⟨xs, h | ⟨o, h⟩, e⟩ | ⟨xs, h, e⟩ | ⟨⟨kvs, h⟩, e⟩ | ⟨⟨kvs, h⟩, e⟩
    . subst e; exact ⟨_, .lst h, k5⟩
    . subst e; exact ⟨_, .frz h, k5⟩
    . subst e; exact ⟨_, .tup h, k6⟩
    . subst e; exact ⟨_, .dK h, k7⟩
    . subst e; exact ⟨_, .dT h, k7⟩
  | _ => exact False.elim h
def mIsi (K : PySem.W.Frag) : List V -> Hp -> VK -> Prop := fun xs H Q => match xs with
  | [x, .ty T] => T ∈ kinds /\ ∃ k, isiT K T x H k /\ Q (.bl k) H
  | _ => False
theorem cm_isi : CallR X (.builtin "isinstance") (mIsi X.K) := by
  intro pins s σ H xs us Q I r q
  match xs, q with
  | [x, .ty T], q =>
    obtain ⟨hT, k, h, q⟩ := q
    obtain ⟨u, w', rfl, ru, rw'⟩ := vals2 r
    cases rw'
    obtain ⟨ty, h1, h2⟩ := isiT_ty hT h
    exact isinst_ok I ru h1 h2 fun tk => ⟨.bl k, H, I.tok _, rfl, q⟩
end
def compOkB (scope sc : Scope) : Bool :=
  decide (scope.kind = .function) && decide (scope.names.map (·.1)).Nodup && scope.names.all fun y => !(y.2 == .free) || (sc.names.lookup y.1 == some .cell || sc.names.lookup y.1 == some .free)
theorem CompScope.of {scope sc : Scope} (h : compOkB scope sc = true) : CompScope scope sc := by
  unfold compOkB at h
  rw [Bool.and_eq_true, Bool.and_eq_true] at h
  obtain ⟨⟨h1, h2⟩, h3⟩ := h
  refine ⟨of_decide_eq_true h1, of_decide_eq_true h2, fun y hy hf => ?_⟩
  have := List.all_eq_true.mp h3 y hy
  rw [hf] at this
  rcases (Bool.or_eq_true _ _).mp this with z | z
  . exact absurd z (by decide)
  . rcases (Bool.or_eq_true _ _).mp z with z | z
    . exact .inl (by simpa using z)
    . exact .inr (by simpa using z)
section
variable {X : Cx} {tg iter elt : Expr} {ifs : List Expr} {scope : Scope} {pos : Pos} {N' : List Str} {own : Nat} {ix : List Nat} {g : TG} {tc : TT} {te : TE} {wi : TI}
theorem frB {l : List Str} (h : (l.all fun x => scope.names.lookup x == some .free) = true) : ∀ x ∈ l, scope.names.lookup x = some .free := fun x hx => by
  have := List.all_eq_true.mp h x hx
  simpa using this
theorem pe_compB (hc : X.calm = true) (hi : PI X tg iter wi) (S : compOkB scope X.env.scope = true)
    (hlen : N'.length = own + ix.length) (hN : (N'.drop own).map some = ix.map (X.N[·]?)) (hfr : ((N'.drop own).all fun x => scope.names.lookup x == some .free) = true)
    (hg : ∀ c, PG (X.comp scope N' c) tg g) (hgo : GOwn own g) (ht : ∀ c, PTs (X.comp scope N' c) ifs tc) (he : ∀ c, PE (X.comp scope N' c) elt te)
    (hs : ∀ x, foldedSetIterable iter X.env x = pure x := by intro _; rfl) : PE X (.ListComp elt [⟨tg, iter, ifs, 0⟩] scope pos) (tComp wi own ix g tc te) :=
  pe_comp hc hi (.of S) hlen hN (frB hfr) hg hgo ht he hs
theorem ps_compB {i : Nat} {y : Str} {py spos : Pos} (hc : X.calm = true) (hnd : X.N.Nodup) (hiy : X.N[i]? = some y) (hy : X.env.scope.names.lookup y = some .local) (hi : PI X tg iter wi) (S : compOkB scope X.env.scope = true)
    (hlen : N'.length = own + ix.length) (hN : (N'.drop own).map some = ix.map (X.N[·]?)) (hfr : ((N'.drop own).all fun x => scope.names.lookup x == some .free) = true)
    (hg : ∀ c, PG (X.comp scope N' c) tg g) (hgo : GOwn own g) (ht : ∀ c, PTs (X.comp scope N' c) ifs tc) (he : ∀ c, PE (X.comp scope N' c) elt te)
    (hsw : swapsWith (.ListComp elt [⟨tg, iter, ifs, 0⟩] scope pos) (some (.Name y py)) spos.line X.env = pure true)
    (hs : ∀ x, foldedSetIterable iter X.env x = pure x := by intro _; rfl) : PS X (.Assign [.Name y py] (.ListComp elt [⟨tg, iter, ifs, 0⟩] scope pos) spos) (tAsg (tComp wi own ix g tc te) (gName i)) :=
  ps_comp hc hnd hiy hy hi (.of S) hlen hN (frB hfr) hg hgo ht he hsw hs
def iSeq (K : PySem.W.Frag) (tl : TE) : TI := fun σ H R => tl σ H fun x H1 => match x with
  | .ref a => ((∃ xs, SqL K H1 a xs) /\ R (Itl K a) H1) \/ ((∃ xs, SqT K H1 a xs) /\ R (Itt K a) H1)
  | _ => False
theorem pi_seq {l : Expr} {tl : TE} (hl : PE X l tl) : PI X tg l (iSeq X.K tl) := by
  intro pins s σ H R I h
  refine thn (hl pins s σ H _ I h) fun v s1 ⟨x, H1, I1, r1, q1⟩ => ?_
  cases x with
  | ref a =>
    cases r1
    rcases q1 with ⟨⟨xs, hq⟩, q⟩ | ⟨⟨xs, hq⟩, q⟩
    . obtain ⟨its, rv, p, hz⟩ := I1.list hq
      refine wpAny_pyIter_list p.isList ?_
      refine ⟨s1.heap.objs.size, [s1.heap.objs.size], _, _, H1, rfl, I1.kept (t' := s1.toks) fun b o e => Heap.get?_push_of_some _ e, turn_list a _, ⟨_, Heap.get?_push_size _ rfl, rfl, rfl⟩, fun b hb => ?_, q⟩
      have e : b = s1.heap.objs.size := by simpa using hb
      subst e
      exact I1.fpOk (Nat.le_refl _) (I1.hok.fresh (Nat.le_refl _))
    . obtain ⟨its, rv, p, hz⟩ := I1.tuple hq
      refine wpAny_pyIter_tuple (show s1.heap.IsTuple a its.toArray from p) ?_
      refine ⟨s1.heap.objs.size, [s1.heap.objs.size], _, _, H1, rfl, I1.kept (t' := s1.toks) fun b o e => Heap.get?_push_of_some _ e, turn_tuple a _, ⟨_, Heap.get?_push_size _ rfl, rfl, rfl⟩, fun b hb => ?_, q⟩
      have e : b = s1.heap.objs.size := by simpa using hb
      subst e
      exact I1.fpOk (Nat.le_refl _) (I1.hok.fresh (Nat.le_refl _))
  | _ => exact False.elim q1
def mSet : TSet := fun o i v H Q => match o, i with
  | .ref p, .int k => ∃ xs j, H p = some (.lst xs) /\ ixN xs.length k = some j /\ Q (upd H p (.lst (xs.set j v)))
  | _, _ => False
theorem set_any : PSet X mSet := by
  intro pins s σ H o i v ov iv u Q I ro ri rv h
  cases o <;> cases i <;> first
    | exact False.elim h
    | (obtain ⟨xs, j, h1, h2, q⟩ := h
       exact set_list pins s σ H _ _ v ov iv u Q I ro ri rv ⟨_, xs, _, j, rfl, rfl, h1, h2, q⟩)
theorem comp_list {K : PySem.W.Frag} {a : Addr} {xs : List V} {σc : St} {Q : VK} {H : Hp} (Pv : Nat -> List V -> Hp -> Prop) (h0 : Pv 0 [] H) (hl : ∀ i ys H, i <= xs.length -> Pv i ys H -> SqL K H a xs) (hz : ∀ i ys H, i < xs.length -> Pv i ys H -> ys.length < sizeLine)
    (hs : ∀ i x ys H, xs[i]? = some x -> Pv i ys H -> g x σc H fun σ2 H2 => tc σ2 H2 fun b H3 => if b = true then te σ2 H3 fun y H4 => Pv (i + 1) (ys ++ [y]) H4 else Pv (i + 1) ys H3)
    (hd : ∀ ys H, Pv xs.length ys H -> ∀ p, H p = none -> Q (.ref p) (upd H p (.lst ys))) : CompTurns (Itl K a) g tc te σc Q H := by
  refine ⟨fun i m ys H => m = xs.length - i /\ i <= xs.length /\ Pv i ys H, ⟨xs.length, by simp, Nat.zero_le _, h0⟩, ?_⟩
  rintro i m ys H ⟨rfl, hi, p⟩
  have q := hl i ys H hi p
  by_cases hlt : i < xs.length
  . refine .inr ⟨⟨xs, xs[i], q, by simp [hlt]⟩, hz i ys H hlt p, Pv (i + 1), fun ys' H' p' => ⟨xs.length - (i + 1), by omega, rfl, hlt, p'⟩, fun x H' y => ?_⟩
    obtain ⟨e, y⟩ := y
    subst e
    exact hs i x ys _ (y xs q) p
  . have e : i = xs.length := by omega
    subst e
    exact .inl ⟨⟨xs, q, Nat.le_refl _⟩, hd ys H p⟩
theorem comp_tup {K : PySem.W.Frag} {a : Addr} {xs : List V} {σc : St} {Q : VK} {H : Hp} (Pv : Nat -> List V -> Hp -> Prop) (h0 : Pv 0 [] H) (hl : ∀ i ys H, i <= xs.length -> Pv i ys H -> SqT K H a xs) (hz : ∀ i ys H, i < xs.length -> Pv i ys H -> ys.length < sizeLine)
    (hs : ∀ i x ys H, xs[i]? = some x -> Pv i ys H -> g x σc H fun σ2 H2 => tc σ2 H2 fun b H3 => if b = true then te σ2 H3 fun y H4 => Pv (i + 1) (ys ++ [y]) H4 else Pv (i + 1) ys H3)
    (hd : ∀ ys H, Pv xs.length ys H -> ∀ p, H p = none -> Q (.ref p) (upd H p (.lst ys))) : CompTurns (Itt K a) g tc te σc Q H := by
  refine ⟨fun i m ys H => m = xs.length - i /\ i <= xs.length /\ Pv i ys H, ⟨xs.length, by simp, Nat.zero_le _, h0⟩, ?_⟩
  rintro i m ys H ⟨rfl, hi, p⟩
  have q := hl i ys H hi p
  by_cases hlt : i < xs.length
  . refine .inr ⟨⟨xs, xs[i], q, by simp [hlt]⟩, hz i ys H hlt p, Pv (i + 1), fun ys' H' p' => ⟨xs.length - (i + 1), by omega, rfl, hlt, p'⟩, fun x H' y => ?_⟩
    obtain ⟨e, y⟩ := y
    subst e
    exact hs i x ys _ (y xs q) p
  . have e : i = xs.length := by omega
    subst e
    exact .inl ⟨⟨xs, q, Nat.le_refl _⟩, hd ys H p⟩
theorem comp_range {lo : Int} {n : Nat} {σc : St} {Q : VK} {H : Hp} (Pv : Nat -> List V -> Hp -> Prop) (h0 : Pv 0 [] H) (hz : ∀ i ys H, i < n -> Pv i ys H -> ys.length < sizeLine)
    (hs : ∀ i ys H, i < n -> Pv i ys H -> g (.int (lo + i)) σc H fun σ2 H2 => tc σ2 H2 fun b H3 => if b = true then te σ2 H3 fun y H4 => Pv (i + 1) (ys ++ [y]) H4 else Pv (i + 1) ys H3)
    (hd : ∀ ys H, Pv n ys H -> ∀ p, H p = none -> Q (.ref p) (upd H p (.lst ys))) : CompTurns (Itr lo n) g tc te σc Q H := by
  refine ⟨fun i m ys H => m = n - i /\ i <= n /\ Pv i ys H, ⟨n, by simp, Nat.zero_le _, h0⟩, ?_⟩
  rintro i m ys H ⟨rfl, hi, p⟩
  by_cases hlt : i < n
  . refine .inr ⟨hlt, hz i ys H hlt p, Pv (i + 1), fun ys' H' p' => ⟨n - (i + 1), by omega, rfl, hlt, p'⟩, fun x H' y => ?_⟩
    obtain ⟨e, y⟩ := y
    subst e y
    exact hs i ys _ hlt p
  . have e : i = n := by omega
    subst e
    exact .inl ⟨Nat.le_refl _, hd ys H p⟩
def vWhile (c : TT) (tb : TS) : TS := fun D σ H => ∃ W : Nat -> St -> Hp -> Prop, (∃ m, W m σ H) /\ ∀ m σ H, W m σ H ->
  c σ H fun b H1 => if b = true then tb { D with nx := fun σ' H' => ∃ m', m' < m /\ W m' σ' H', ct := fun σ' H' => ∃ m', m' < m /\ W m' σ' H', bk := D.nx } σ H1 else D.nx σ H1
theorem ps_whileM {c : Expr} {body : List Stmt} {tc : TT} {tb : TS} (hp : PassesOwn (model X.prog X.w) X.A X.env X.xe) (hc : PT X c tc) (hb : PSs X body tb) : PS X (.While c body [] pos) (vWhile tc tb) := by
  intro pins s σ H D I h
  obtain ⟨W, ⟨m0, w0⟩, turn⟩ := h
  refine wpAny_While (codeAny_whileLoop (fun n s' => ∃ σ' H', Inv X pins σ' H' s' /\ W n σ' H') ?_ m0 ⟨σ, H, I, w0⟩)
  rintro n s1 ⟨σ1, H1, I1, w1⟩
  refine wpAny_passesOwn hp (thn (hc pins s1 σ1 H1 _ I1 (turn n σ1 H1 w1)) fun b s2 ⟨H2, I2, q2⟩ => ?_)
  cases b with
  | true =>
    rw [if_pos rfl] at q2
    rw [if_pos rfl]
    refine wpAny_passesOwn hp (thn (hb pins s2 σ1 H2 _ I2 q2) fun f s3 q3 => ?_)
    cases f with
    | next =>
      obtain ⟨σ3, H3, I3, m', hm, w3⟩ := q3
      exact ⟨m', hm, σ3, H3, I3, w3⟩
    | cont =>
      obtain ⟨σ3, H3, I3, m', hm, w3⟩ := q3
      exact ⟨m', hm, σ3, H3, I3, w3⟩
    | brk => exact q3
    | ret v => exact q3
  | false =>
    rw [if_neg Bool.false_ne_true] at q2
    rw [if_neg Bool.false_ne_true]
    exact wpAny_execs_nil ⟨σ1, H2, I2, q2⟩
end
theorem hu60 {A : Around} {k : Nat} (hr : Room k A) : A.units + 60 < cLine := by have := hr.un; omega
def Frm (t : Addr) (H H' : Hp) : Prop := ∀ b o, b ≠ t -> H b = some o -> H' b = some o
theorem Frm.refl {t : Addr} {H : Hp} : Frm t H H := fun _ _ _ h => h
theorem Frm.trans {t : Addr} {H H1 H2 : Hp} (a : Frm t H H1) (b : Frm t H1 H2) : Frm t H H2 := fun c o n h => b c o n (a c o n h)
theorem Frm.upd {t p : Addr} {H : Hp} {o : HO} (h : H p = none) : Frm t H (upd H p o) := fun b u _ e => by rw [upd_ne (ne_of_none e h)]; exact e
theorem Frm.updT {t : Addr} {H : Hp} {o : HO} : Frm t H (L2.upd H t o) := fun b u n e => by rw [upd_ne n]; exact e
theorem Same.upd {p : Addr} {H : Hp} {o : HO} (h : H p = none) : Same H (L2.upd H p o) := fun b u e => by rw [upd_ne (ne_of_none e h)]; exact e
theorem Same.frm {t : Addr} {H H' : Hp} (h : Same H H') : Frm t H H' := fun b o _ e => h b o e
theorem sqL_stay {K : PySem.W.Frag} {H H' : Hp} {a : Addr} {xs : List V} (h : SqL K H a xs) (k : ∀ o, H a = some o -> H' a = some o) : SqL K H' a xs := by
  rcases h with (h | ⟨o, h⟩) | h
  . exact .inl (.inl (k _ h))
  . exact .inl (.inr ⟨o, k _ h⟩)
  . exact .inr h
theorem sqT_stay {K : PySem.W.Frag} {H H' : Hp} {a : Addr} {xs : List V} (h : SqT K H a xs) (k : ∀ o, H a = some o -> H' a = some o) : SqT K H' a xs := by
  rcases h with (h | ⟨o, h⟩) | h
  . exact .inl (.inl (k _ h))
  . exact .inl (.inr ⟨o, k _ h⟩)
  . exact .inr h
def ScrAt (K : PySem.W.Frag) (H : Hp) (t a : Addr) (ns : List Int) : Prop :=
  (Rd H a (.lst (ns.map V.int)) /\ a ≠ t) \/ ∃ (o : Obj) (its : Array Value) (n : Nat), K.lookup a = some o /\ o.cls = .type "list" /\ o.dict = none /\ o.data = .seq its n /\ its.size <= sizeLine /\ Vals (ns.map V.int) its.toList
theorem ScrAt.sq {K : PySem.W.Frag} {H : Hp} {t a : Addr} {ns : List Int} (h : ScrAt K H t a ns) : SqL K H a (ns.map V.int) := by
  rcases h with ⟨h, _⟩ | h
  . exact .inl h
  . exact .inr h
theorem ScrAt.stay {K : PySem.W.Frag} {H H' : Hp} {t a : Addr} {ns : List Int} (h : ScrAt K H t a ns) (k : ∀ o, a ≠ t -> H a = some o -> H' a = some o) : ScrAt K H' t a ns := by
  rcases h with ⟨h | ⟨o, h⟩, n⟩ | h
  . exact .inl ⟨.inl (k _ n h), n⟩
  . exact .inl ⟨.inr ⟨o, k _ n h⟩, n⟩
  . exact .inr h
theorem ScrAt.of {K : PySem.W.Frag} {H : Hp} {t a : Addr} {ns : List Int} (h : SqL K H a (ns.map V.int)) (ht : H t = none) : ScrAt K H t a ns := by
  rcases h with h | h
  . refine .inl ⟨h, fun e => ?_⟩
    subst e
    rcases h with h | ⟨o, h⟩ <;> rw [ht] at h <;> cases h
  . exact .inr h
structure Tape (K : PySem.W.Frag) (H : Hp) (t a : Addr) (ns : List Int) : Prop where
  at_ : ∃ i r c : Int, 0 <= i /\ 0 <= r /\ H t = some (.lst [.ref a, .int i, .int r, .int c])
  scr : ScrAt K H t a ns
theorem Tape.same {K : PySem.W.Frag} {H H' : Hp} {t a : Addr} {ns : List Int} (T : Tape K H t a ns) (h : Same H H') : Tape K H' t a ns := by
  obtain ⟨i, r, c, h1, h2, h3⟩ := T.at_
  exact ⟨⟨i, r, c, h1, h2, h _ _ h3⟩, T.scr.stay fun o _ e => h a o e⟩
theorem Tape.upd {K : PySem.W.Frag} {H : Hp} {t a p : Addr} {o : HO} {ns : List Int} (T : Tape K H t a ns) (h : H p = none) : Tape K (L2.upd H p o) t a ns := T.same (Same.upd h)
theorem Tape.free {K : PySem.W.Frag} {H H' : Hp} {t a p : Addr} {ns : List Int} (T : Tape K H' t a ns) (h : Frm t H H') (hp : H' p = none) : H p = none := by
  cases e : H p with
  | none => rfl
  | some o =>
    by_cases hpt : p = t
    . subst hpt
      obtain ⟨i, r, c, _, _, h3⟩ := T.at_
      rw [h3] at hp; cases hp
    . rw [h p o hpt e] at hp; cases hp
theorem Tape.neT {K : PySem.W.Frag} {H : Hp} {t a p : Addr} {ns : List Int} (T : Tape K H t a ns) (hp : H p = none) : p ≠ t := fun e => by
  obtain ⟨i, r, c, _, _, h3⟩ := T.at_
  rw [e, h3] at hp; cases hp
def spNext (K : PySem.W.Frag) : Sp := fun vs H Q _ => match vs with
  | [.ref t, .int m] => ∃ a ns, Tape K H t a ns /\ okDiv m /\ ∀ d H', 0 <= d -> d < m -> Tape K H' t a ns -> (∀ b, b ≠ t -> H' b = H b) -> Q (.int d) H'
  | _ => False
def spTape (K : PySem.W.Frag) : Sp := fun vs H Q _ => match vs with
  | [.ref a] => ∀ p, H p = none -> Q (.ref p) (upd H p (.lst [.ref a, .int 0, .int 0, .int 0]))
  | _ => False
theorem atI_of {xs : List V} {i : Int} {n : Nat} {v : V} (h : i = (n : Int)) (hx : xs[n]? = some v) : atI xs i = some v := by
  subst h
  have hn : n < xs.length := (List.getElem?_eq_some_iff.mp hx).1
  unfold atI ixN
  rw [if_pos (Int.natCast_nonneg n), if_pos (by omega)]
  simpa using hx
theorem atI_int {ns : List Int} {i : Int} (h0 : 0 <= i) (h1 : i < ns.length) : ∃ z, atI (ns.map V.int) i = some (.int z) := by
  obtain ⟨n, rfl⟩ := Int.eq_ofNat_of_zero_le h0
  have hn : n < ns.length := by omega
  exact ⟨ns[n], atI_of rfl (by rw [List.getElem?_map, List.getElem?_eq_getElem hn]; rfl)⟩
theorem newTape {K : PySem.W.Frag} {H : Hp} {a p : Addr} {ns : List Int} (h : H p = none) (hs : SqL K H a (ns.map V.int)) : Tape K (L2.upd H p (.lst [.ref a, .int 0, .int 0, .int 0])) p a ns :=
  ⟨⟨0, 0, 0, Int.le_refl _, Int.le_refl _, upd_same⟩, (ScrAt.of hs h).stay fun o n e => by rw [upd_ne n]; exact e⟩
theorem okDiv_of {j : Int} (h1 : 0 < j) (h2 : j <= 2 ^ 1000) : okDiv j := ⟨h1, Int.lt_of_le_of_lt h2 (by decide)⟩
theorem small_le {n : Nat} (h : n <= 1000) : n <= sizeLine := Nat.le_of_lt (small1000 h)
def TMono (t : TT) : Prop := ∀ σ H (Q Q' : Bool -> Hp -> Prop), (∀ b H, Q b H -> Q' b H) -> t σ H Q -> t σ H Q'
def AMono (t : TA) : Prop := ∀ σ H (Q Q' : List V -> Hp -> Prop), (∀ b H, Q b H -> Q' b H) -> t σ H Q -> t σ H Q'
def RMono (r : R2) : Prop := ∀ x y H (Q Q' : VK), (∀ v H, Q v H -> Q' v H) -> r x y H Q -> r x y H Q'
def CMono (r : List V -> Hp -> VK -> Prop) : Prop := ∀ xs H (Q Q' : VK), (∀ v H, Q v H -> Q' v H) -> r xs H Q -> r xs H Q'
def BMono (r : V -> List V -> Hp -> VK -> Prop) : Prop := ∀ x xs H (Q Q' : VK), (∀ v H, Q v H -> Q' v H) -> r x xs H Q -> r x xs H Q'
def SpMono (sp : Sp) : Prop := ∀ vs H (Q Q' : VK) E, (∀ v H, Q v H -> Q' v H) -> sp vs H Q E -> sp vs H Q' E
def IMono (t : TI) : Prop := ∀ σ H (Q Q' : It -> Hp -> Prop), (∀ J H, Q J H -> Q' J H) -> t σ H Q -> t σ H Q'
def SetMono (t : TSet) : Prop := ∀ o i v H (Q Q' : Hp -> Prop), (∀ H, Q H -> Q' H) -> t o i v H Q -> t o i v H Q'
structure Ends.le (D D' : Ends) : Prop where
  nx : ∀ σ H, D.nx σ H -> D'.nx σ H
  rt : ∀ v H, D.rt v H -> D'.rt v H
  bk : ∀ σ H, D.bk σ H -> D'.bk σ H
  ct : ∀ σ H, D.ct σ H -> D'.ct σ H
def SMono (t : TS) : Prop := ∀ D D' σ H, Ends.le D D' -> t D σ H -> t D' σ H
theorem em_var {i : Nat} : EMono (vVar i) := fun σ H Q Q' h q => by
  unfold vVar at *
  split at q
  . exact h _ _ q
  . exact q.elim
theorem em_c {v : V} : EMono (tC v) := fun _ _ _ _ h q => h _ _ q
theorem em_op {r : R2} {ta tb : TE} (hr : RMono r) (ha : EMono ta) (hb : EMono tb) : EMono (tOp r ta tb) := fun σ H Q Q' h q => ha _ _ _ _ (fun _ _ q => hb _ _ _ _ (fun _ _ q => hr _ _ _ _ _ h q) q) q
theorem rm_add {K} : RMono (mAdd K) := fun x y H Q Q' h q => by
  unfold mAdd at *
  split at q
  . exact h _ _ q
  . exact ⟨q.1, h _ _ q.2⟩
  . rcases q with ⟨l, b, xs, zs, e1, e2, h1, h2, h3, q⟩ | ⟨a, b, xs, ys, e1, e2, h1, h2, h3, h4, q1, q2⟩
    . exact .inl ⟨l, b, xs, zs, e1, e2, h1, h2, h3, fun p hp => h _ _ (q p hp)⟩
    . exact .inr ⟨a, b, xs, ys, e1, e2, h1, h2, h3, h4, fun e => h _ _ (q1 e), fun e p hp => h _ _ (q2 e p hp)⟩
  . exact q.elim
theorem rm_sub : RMono mSub := fun x y H Q Q' h q => by unfold mSub at *; split at q <;> first | exact h _ _ q | exact q.elim
theorem rm_mul : RMono mMul := fun x y H Q Q' h q => by
  unfold mMul at *
  split at q
  . exact ⟨q.1, h _ _ q.2⟩
  . obtain ⟨l, k, xs, e1, e2, h1, h2, h3, h4, q⟩ := q
    exact ⟨l, k, xs, e1, e2, h1, h2, h3, h4, fun p hp => h _ _ (q p hp)⟩
  . exact q.elim
theorem rm_div : RMono mDiv := fun x y H Q Q' h q => by unfold mDiv at *; split at q <;> first | exact ⟨q.1, h _ _ q.2⟩ | exact q.elim
theorem rm_mod : RMono mMod := fun x y H Q Q' h q => by unfold mMod at *; split at q <;> first | exact ⟨q.1, h _ _ q.2⟩ | exact q.elim
theorem rm_pow : RMono mPow := fun x y H Q Q' h q => by unfold mPow at *; split at q <;> first | exact ⟨q.1, h _ _ q.2⟩ | exact q.elim
theorem rm_cmp {p} : RMono (mCmp p) := fun x y H Q Q' h q => by unfold mCmp at *; split at q <;> first | exact h _ _ q | exact q.elim
theorem rm_eq {n K} : RMono (mEq n K) := fun x y H Q Q' h q => by
  unfold mEq at *
  split at q <;> first | exact h _ _ q | (obtain ⟨d, e, h1, h2, h3, q⟩ := q; exact ⟨d, e, h1, h2, h3, h _ _ q⟩)
theorem rm_ix {K} : RMono (mIx K) := fun x y H Q Q' h q => by
  unfold mIx at *
  split at q
  . obtain ⟨xs, v, h1, h2, q⟩ := q; exact ⟨xs, v, h1, h2, h _ _ q⟩
  . obtain ⟨c, h1, h2, q⟩ := q; exact ⟨c, h1, h2, h _ _ q⟩
  . exact q.elim
theorem isB_mono {v : V} {Q Q' : Bool -> Prop} (h : ∀ b, Q b -> Q' b) (q : isB v Q) : isB v Q' := by
  cases v <;> first | exact h _ q | exact q
theorem tm_b {t : TE} (h : EMono t) : TMono (uB t) := fun σ H Q Q' k q => h _ _ _ _ (fun _ _ q => isB_mono (fun b q => k b _ q) q) q
theorem em_not {ta : TE} (ha : EMono ta) : EMono (vNot ta) := fun σ H Q Q' h q => ha _ _ _ _ (fun _ _ q => isB_mono (fun b q => h _ _ q) q) q
theorem em_if {t : TT} {ta tb : TE} (ht : TMono t) (ha : EMono ta) (hb : EMono tb) : EMono (tIf t ta tb) := fun σ H Q Q' h q => ht _ _ _ _ (fun b _ q => by
    cases b with
    | true => exact ha _ _ _ _ h q
    | false => exact hb _ _ _ _ h q) q
theorem tm_and {t u : TT} (ht : TMono t) (hu : TMono u) : TMono (tAnd t u) := fun σ H Q Q' h q => ht _ _ _ _ (fun b _ q => by
    cases b with
    | true => exact hu _ _ _ _ h q
    | false => exact h _ _ q) q
theorem tm_or {t u : TT} (ht : TMono t) (hu : TMono u) : TMono (tOr t u) := fun σ H Q Q' h q => ht _ _ _ _ (fun b _ q => by
    cases b with
    | true => exact h _ _ q
    | false => exact hu _ _ _ _ h q) q
theorem tm_not {t : TT} (ht : TMono t) : TMono (tNot t) := fun σ H Q Q' h q => ht _ _ _ _ (fun b _ q => h _ _ q) q
theorem am_nil : AMono tNil := fun _ _ _ _ h q => h _ _ q
theorem am_cons {ta : TE} {t : TA} (ha : EMono ta) (ht : AMono t) : AMono (tCons ta t) := fun σ H Q Q' h q => ha _ _ _ _ (fun _ _ q => ht _ _ _ _ (fun _ _ q => h _ _ q) q) q
theorem em_cb {r} {t : TA} (hr : CMono r) (ht : AMono t) : EMono (tCB r t) := fun σ H Q Q' h q => ht _ _ _ _ (fun _ _ q => hr _ _ _ _ h q) q
theorem em_call {sp dvs E} {t : TA} (hs : SpMono sp) (ht : AMono t) : EMono (tCall sp dvs E t) := fun σ H Q Q' h q => ht _ _ _ _ (fun _ _ q => hs _ _ _ _ _ h q) q
theorem em_tup {t : TA} (ht : AMono t) : EMono (tTup t) := fun σ H Q Q' h q => ht _ _ _ _ (fun _ _ q => ⟨q.1, fun p hp => h _ _ (q.2 p hp)⟩) q
theorem em_lst {t : TA} (ht : AMono t) : EMono (tLst t) := fun σ H Q Q' h q => ht _ _ _ _ (fun _ _ q => ⟨q.1, fun p hp => h _ _ (q.2 p hp)⟩) q
theorem em_comp {wi own ix g tc te} (hi : IMono wi) : EMono (tComp wi own ix g tc te) := fun σ H Q Q' h q => hi _ _ _ _ (fun J H1 q => by
    obtain ⟨W, w0, turn⟩ := q
    refine ⟨W, w0, fun i m ys H w => ?_⟩
    rcases turn i m ys H w with ⟨a, b⟩ | r
    . exact .inl ⟨a, fun p hp => h _ _ (b p hp)⟩
    . exact .inr r) q
theorem cm_len_ {K} : CMono (mLen K) := fun xs H Q Q' h q => by unfold mLen at *; split at q <;> first | (obtain ⟨n, a, q⟩ := q; exact ⟨n, a, h _ _ q⟩) | exact q.elim
theorem cm_max_ : CMono mMax := fun xs H Q Q' h q => by unfold mMax at *; split at q <;> first | exact h _ _ q | exact q.elim
theorem cm_min_ : CMono mMin := fun xs H Q Q' h q => by unfold mMin at *; split at q <;> first | exact h _ _ q | exact q.elim
theorem cm_int_ : CMono mInt := fun xs H Q Q' h q => by unfold mInt at *; split at q <;> first | exact h _ _ q | exact q.elim
theorem cm_tuple_ {K} : CMono (mTuple K) := fun xs H Q Q' h q => by
  unfold mTuple at *
  split at q
  . obtain ⟨ys, ⟨a, q⟩ | ⟨a, q⟩⟩ := q
    . exact ⟨ys, .inl ⟨a, fun l hl => h _ _ (q l hl)⟩⟩
    . exact ⟨ys, .inr ⟨a, h _ _ q⟩⟩
  . exact q.elim
theorem im_seq {K} {tl : TE} (h : EMono tl) : IMono (iSeq K tl) := fun σ H Q Q' k q => h _ _ _ _ (fun v H1 q => by
    cases v <;> first | exact q.elim | (rcases q with ⟨a, q⟩ | ⟨a, q⟩
                                        . exact .inl ⟨a, k _ _ q⟩
                                        . exact .inr ⟨a, k _ _ q⟩)) q
theorem im_rng1 {ta : TA} (h : AMono ta) : IMono (iRng1 ta) := fun σ H Q Q' k q => h _ _ _ _ (fun _ _ ⟨j, e, a, b, q⟩ => ⟨j, e, a, b, k _ _ q⟩) q
theorem sm_set : SetMono mSet := fun o i v H Q Q' h q => by
  unfold mSet at *
  split at q
  . obtain ⟨xs, j, a, b, q⟩ := q; exact ⟨xs, j, a, b, h _ q⟩
  . exact q.elim
theorem gm_sub {to ti : TE} {t : TSet} (h1 : EMono to) (h2 : EMono ti) (h3 : SetMono t) : GMono (gSub to ti t) := fun v σ H Q Q' h q => h1 _ _ _ _ (fun _ _ q => h2 _ _ _ _ (fun _ _ q => h3 _ _ _ _ _ _ (fun H q => h _ _ q) q) q) q
theorem sm_next : SMono tNext := fun D D' σ H h q => h.nx _ _ q
theorem sm_never : SMono tNever := fun D D' σ H h q => q
theorem sm_seq {t u : TS} (h1 : SMono t) (h2 : SMono u) : SMono (tSeq t u) := fun D D' σ H h q => h1 { D with nx := u D } { D' with nx := u D' } σ H ⟨fun σ H q => h2 D D' σ H h q, h.rt, h.bk, h.ct⟩ q
theorem sm_asg {te : TE} {g : TG} (h1 : EMono te) (h2 : GMono g) : SMono (tAsg te g) := fun D D' σ H h q => h1 _ _ _ _ (fun _ _ q => h2 _ _ _ _ _ h.nx q) q
theorem sm_ret {te : TE} (h1 : EMono te) : SMono (tRet te) := fun D D' σ H h q => h1 _ _ _ _ h.rt q
theorem sm_drop {te : TE} (h1 : EMono te) : SMono (tDrop te) := fun D D' σ H h q => h1 _ _ _ _ (fun _ _ q => h.nx _ _ q) q
theorem sm_if {c : TT} {t u : TS} (hc : TMono c) (h1 : SMono t) (h2 : SMono u) : SMono (tIfS c t u) := fun D D' σ H h q => hc _ _ _ _ (fun b _ q => by
    cases b with
    | true => exact h1 _ _ _ _ h q
    | false => exact h2 _ _ _ _ h q) q
theorem sm_for {wi : TI} {g : TG} {tb : TS} (hi : IMono wi) (hg : GMono g) (h1 : SMono tb) : SMono (tFor wi g tb) := fun D D' σ H h q => hi _ _ _ _ (fun J H1 q => by
  obtain ⟨W, w0, turn⟩ := q
  refine ⟨W, w0, fun i m σ H w => ?_⟩
  rcases turn i m σ H w with ⟨a, b⟩ | ⟨a, N, hN, step⟩
  . exact .inl ⟨a, h.nx _ _ b⟩
  . exact .inr ⟨a, N, hN, fun x H' y => hg _ _ _ _ _ (fun σ2 H2 q => h1 { D with nx := N, ct := N, bk := D.nx } _ _ _ ⟨fun _ _ q => q, h.rt, h.nx, fun _ _ q => q⟩ q) (step x H' y)⟩) q
theorem seq_at {t u : TS} {D : Ends} {σ : St} {H : Hp} (J : St -> Hp -> Prop) (h1 : t { D with nx := J } σ H) (h2 : ∀ σ' H', J σ' H' -> u D σ' H') (hm : SMono t) : tSeq t u D σ H :=
  hm { D with nx := J } { D with nx := u D } σ H ⟨h2, fun _ _ q => q, fun _ _ q => q, fun _ _ q => q⟩ h1
theorem spNext_mono {K} : SpMono (spNext K) := fun vs H Q Q' E h q => by
  unfold spNext at *
  split at q
  . obtain ⟨a, ns, x, y, q⟩ := q; exact ⟨a, ns, x, y, fun d H' e1 e2 e3 e4 => h _ _ (q d H' e1 e2 e3 e4)⟩
  . exact q.elim
section
variable {X : Cx} {K : PySem.W.Frag} {a b c e l tg : Expr} {es : List Expr} {ta tb tc te tl : TE} {pos p : Pos}
theorem kAdd (hK : X.K = K := by rfl) : OpR X (binaryOp .Add) (mAdd K) := hK ▸ om_add
theorem kEq (hu : X.A.units + 60 < cLine) (hK : X.K = K := by rfl) : OpR X (compareOp .Eq) (mEq false K) := hK ▸ om_eq hu
theorem kNe (hu : X.A.units + 60 < cLine) (hK : X.K = K := by rfl) : OpR X (compareOp .NotEq) (mEq true K) := hK ▸ om_ne hu
theorem kIx (ha : PE X a ta) (hb : PE X b tb) (hs : PlainIx b := by intro _ _; rfl) (hK : X.K = K := by rfl) : PE X (.Subscript a b pos) (tOp (mIx K) ta tb) := hK ▸ pe_ixM ha hb hs
theorem kLen (hK : X.K = K := by rfl) : CallR X (.builtin "len") (mLen K) := hK ▸ cm_len
theorem kTuple (hK : X.K = K := by rfl) : CallR X (.type "tuple") (mTuple K) := hK ▸ cm_tuple
theorem kList (hK : X.K = K := by rfl) : CallR X (.type "list") (mList K) := hK ▸ cm_list
theorem kSeq (hl : PE X l tl) (hK : X.K = K := by rfl) : PI X tg l (iSeq K tl) := hK ▸ pi_seq hl
theorem kTup {es : List Expr} {k : Nat} {t : TGs} {n : Nat} (hc : X.calm = true) (h : PGs X es t)
    (hn : (assignEach es X.env).length = n := by rfl) (hst : (assignEach es X.env).findIdx? (·.1) = none := by rfl) (hK : X.K = K := by rfl) : PG X (.Tuple es k pos) (gTup K n t) := hK ▸ pg_tup hc h hn hst
end
def Itz (K : PySem.W.Frag) (l1 l2 : Addr) : It :=
  ⟨fun i H => ∃ xs ys x y, SqL K H l1 xs /\ SqL K H l2 ys /\ xs[i]? = some x /\ ys[i]? = some y,
   fun i H v H' => ∃ p x y, H p = none /\ v = .ref p /\ H' = upd H p (.tup [x, y]) /\ (∀ xs, SqL K H l1 xs -> xs[i]? = some x) /\ (∀ ys, SqL K H l2 ys -> ys[i]? = some y),
   fun i H => ∃ xs ys, SqL K H l1 xs /\ SqL K H l2 ys /\ (xs.length <= i \/ ys.length <= i)⟩
theorem Inv.turnedNew {X : Cx} {pins : List (Addr × Obj)} {σ : St} {H : Hp} {s : Shared} {h' : Heap} {ch : List Addr} {T : Addr} {o : HO} (I : Inv X pins σ H s) (hf : ∀ b ∈ ch, FpOk X pins H b) (hT : s.heap.objs.size <= T)
    (k : ∀ b u, b ∉ ch -> s.heap.get? b = some u -> h'.get? b = some u) (new : ObjOk X.prog X.w (upd H T o) h' T o) (th : ∀ b ∈ ch, ∃ u, h'.get? b = some u) : Inv X pins σ (upd H T o) { s with heap := h' } := by
  have hTn : H T = none := I.hok.fresh hT
  have nT : ∀ b u, H b = some u -> b ≠ T := fun b u e z => by rw [z, hTn] at e; cases e
  have nc : ∀ b u, H b = some u -> b ∉ ch := fun b u e z => by rw [(hf b z).1] at e; cases e
  refine I.step (g' := s.gens) (d' := s.drawn) (t' := s.toks) (ch := ch) (fun b hb => ?_) (fun b u _ _ hc e _ => k b u hc e) (fun b u _ _ hc e _ => ⟨u.slots, k b u hc e⟩) (fun b u hc e n => ?_) (fun b u hc e => ⟨u, k b u hc e⟩)
    (fun b xs e => by rw [upd_ne (nT _ _ e)]; exact e) (fun b u v e => by rw [upd_ne (nT _ _ e)]; exact e) (fun b ps e => ⟨#[], by rw [upd_ne (nT _ _ e), e]; simp⟩) (fun m hm => ?_) (fun b u e => ?_) I.bare
  . obtain ⟨q1, q2, q3, q4, q5, q6⟩ := hf b hb
    exact ⟨q4, q2, q5, q6⟩
  . rw [upd_ne (Nat.ne_of_lt (Nat.lt_of_lt_of_le (Heap.lt_size e) hT))]; exact n
  . obtain ⟨u, es, ep, ho, r⟩ := hm
    exact ⟨u, es, ep, k _ u (fun z => (hf _ z).2.1 rfl) ho, r⟩
  . by_cases hb : b = T
    . subst hb; rw [upd_same] at e; cases e; exact new
    . rw [upd_ne hb] at e
      refine (I.hok b u e).stay (fun c v hc q => k c v ?_ q) (fun c q => by rw [upd_ne (nT _ _ q)]; exact q) fun c xs q => by rw [upd_ne (nT _ _ q)]; exact q
      rcases hc with z | z
      . rw [z]; exact nc b u e
      . exact nc c _ z
theorem turn_zip {P : Program} {w : World} {K : PySem.W.Frag} {es : List Expr} {kt : Nat} {tpos : Pos} {z TI TO i1 i2 l1 l2 : Addr} (D : ZipApart z TI TO i1 i2 l1 l2) :
    Turn P w K (.Tuple es kt tpos) (Itz K l1 l2) [z, TI, TO, i1, i2] z (fun i h => IsZip h z TI TO .none /\ IsPair h TI (.ref i1) (.ref i2) /\ (∃ a b, IsPair h TO a b) /\ h.IsListIter i1 l1 i /\ h.IsListIter i2 l2 i) where
  mem := by simp
  obj := fun i h st b hb => by
    obtain ⟨hz, hTI, ⟨a, c, hTO⟩, ⟨o1, e1, c1, d1⟩, ⟨o2, e2, c2, d2⟩⟩ := st
    simp only [List.mem_cons, List.mem_nil_iff, or_false] at hb
    rcases hb with rfl | rfl | rfl | rfl | rfl
    . exact ⟨_, hz, fun v q => nomatch q⟩
    . exact ⟨_, hTI, fun v q => nomatch q⟩
    . exact ⟨_, hTO, fun v q => nomatch q⟩
    . exact ⟨o1, e1, fun v q => by rw [d1] at q; cases q⟩
    . exact ⟨o2, e2, fun v q => by rw [d2] at q; cases q⟩
  keep := fun i h h' ⟨hz, hTI, ⟨a, c, hTO⟩, h1, h2⟩ k =>
    ⟨k z (by simp) _ hz, k TI (by simp) _ hTI, ⟨a, c, k TO (by simp) _ hTO⟩, h1.at fun o e => k i1 (by simp) o e, h2.at fun o e => k i2 (by simp) o e⟩
  item := by
    intro X hP hw hK hc i pins s σ H E I hf st hg
    subst hP hw hK
    obtain ⟨xs, ys, x, y, hq1, hq2, hx, hy⟩ := hg
    obtain ⟨hz, hTI, ⟨a, c, hTO⟩, h1, h2⟩ := st
    obtain ⟨its, rv, p, _⟩ := I.list hq1
    obtain ⟨its2, rv2, p2, _⟩ := I.list hq2
    obtain ⟨u, hu, ru⟩ := rv.get hx
    obtain ⟨u2, hu2, ru2⟩ := rv2.get hy
    refine wpAny_pyNext_zip_item D hz hTI hTO h1 h2 p.isList p2.isList (x := u) (y := u2) (by simpa using hu) (by simpa using hu2) fun h' z1 z2 z3 z4 z5 z6 z7 => ?_
    refine ⟨_, rfl, ?_⟩
    have z7' : ∀ b v, b ∉ [z, TO, i1, i2] -> s.heap.get? b = some v -> h'.get? b = some v := fun b v hb e => by
      simp only [List.mem_cons, List.mem_nil_iff, or_false, not_or] at hb
      exact z7 b v hb.1 hb.2.1 hb.2.2.1 hb.2.2.2 e
    have I1 : Inv X pins σ (upd H s.heap.objs.size (.tup [x, y])) { s with heap := h' } := by
      refine I.turnedNew (ch := [z, TO, i1, i2]) (fun b hb => hf b ?_) (Nat.le_refl _) z7' ?_ fun b hb => ?_
      . simp only [List.mem_cons, List.mem_nil_iff, or_false] at hb ⊢
        rcases hb with h | h | h | h <;> simp [h]
      . exact ⟨small_le (show 2 <= 1000 by decide), [u, u2], .cons ru (.cons ru2 .nil), ⟨_, z5, rfl, ⟨_, rfl⟩, rfl⟩⟩
      . simp only [List.mem_cons, List.mem_nil_iff, or_false] at hb
        rcases hb with rfl | rfl | rfl | rfl
        . exact ⟨_, z1⟩
        . exact ⟨_, z2⟩
        . obtain ⟨o, e, _⟩ := z3; exact ⟨o, e⟩
        . obtain ⟨o, e, _⟩ := z4; exact ⟨o, e⟩
    refine wpAny_letOwnedTupleGo_zip (s := { s with heap := h' }) z1 fun h'' z8 z9 => ?_
    have hfz := hf z (by simp)
    have neT : ∀ b, b ∈ [z, TI, TO, i1, i2] -> b ≠ s.heap.objs.size := fun b hb e => by
      have st' : ∃ o, s.heap.get? b = some o := by
        simp only [List.mem_cons, List.mem_nil_iff, or_false] at hb
        rcases hb with rfl | rfl | rfl | rfl | rfl
        . exact ⟨_, hz⟩
        . exact ⟨_, hTI⟩
        . exact ⟨_, hTO⟩
        . obtain ⟨o, e, _⟩ := h1; exact ⟨o, e⟩
        . obtain ⟨o, e, _⟩ := h2; exact ⟨o, e⟩
      obtain ⟨o, ho⟩ := st'
      have := Heap.lt_size ho
      rw [e] at this
      exact Nat.lt_irrefl _ this
    have hTH : ∀ b ∈ [z, TI, TO, i1, i2], upd H s.heap.objs.size (.tup [x, y]) b = none := fun b hb => by rw [upd_ne (neT b hb)]; exact (hf b hb).1
    have I2 : Inv X pins σ (upd H s.heap.objs.size (.tup [x, y])) { s with heap := h'' } :=
      I1.turned (t' := s.toks) (fun b o hb e => (z9.2 b hb).trans e) (hTH z (by simp)) hfz.2.1 hfz.2.2.2.1 hfz.2.2.2.2.1 hfz.2.2.2.2.2
    have up : ∀ b o, b ≠ z -> h'.get? b = some o -> h''.get? b = some o := fun b o hb e => (z9.2 b hb).trans e
    refine ⟨.ref s.heap.objs.size, _, I2, rfl, ⟨_, x, y, I.hok.fresh (Nat.le_refl _), rfl, rfl, fun xs' h => by rw [I.list_inj h hq1]; exact hx, fun ys' h => by rw [I.list_inj h hq2]; exact hy⟩, ⟨z8, ?_, ⟨u, u2, up _ _ D.TOz z2⟩, z3.at fun o e => up _ o D.i1z e, z4.at fun o e => up _ o D.i2z e⟩, hTH⟩
    exact up _ _ D.TIz (z7 _ _ D.TIz D.TITO D.TIi1 D.TIi2 hTI)
  done := by
    intro X hP hw hK hc i pins s σ H E I hf st hg
    subst hP hw hK
    obtain ⟨xs, ys, hq1, hq2, hl⟩ := hg
    obtain ⟨hz, hTI, ⟨a, c, hTO⟩, h1, h2⟩ := st
    obtain ⟨its, rv, p, _⟩ := I.list hq1
    obtain ⟨its2, rv2, p2, _⟩ := I.list hq2
    have e1 := rv.length
    have e2 := rv2.length
    refine wpAny_pyNext_zip_end (I.ok.hd hc) D hz hTI hTO h1 h2 p.isList p2.isList (by
      rcases hl with h | h
      . exact .inl (by simp; omega)
      . exact .inr (by simp; omega)) fun h' z7 => ⟨rfl, ?_⟩
    have nc : ∀ b u, H b = some u -> b ∉ [z, TO, i1, i2] := fun b u e q => by
      have : b ∈ [z, TI, TO, i1, i2] := by
        simp only [List.mem_cons, List.mem_nil_iff, or_false] at q ⊢
        rcases q with h | h | h | h <;> simp [h]
      rw [(hf b this).1] at e; cases e
    have z7' : ∀ b v, b ∉ [z, TO, i1, i2] -> s.heap.get? b = some v -> h'.get? b = some v := fun b v hb e => by
      simp only [List.mem_cons, List.mem_nil_iff, or_false, not_or] at hb
      exact z7 b v hb.1 hb.2.1 hb.2.2.1 hb.2.2.2 e
    refine I.step (g' := s.gens) (d' := s.drawn) (t' := s.toks) (ch := [z, TO, i1, i2]) (fun b hb => ?_) (fun b u _ _ hc e _ => z7' b u hc e) (fun b u _ _ hc e _ => ⟨u.slots, z7' b u hc e⟩) (fun b u hc e n => n) (fun b u hc e => ⟨u, z7' b u hc e⟩)
      (fun _ _ e => e) (fun _ _ _ e => e) (fun b ps e => ⟨#[], by rw [e]; simp⟩) (fun m hm => ?_) (fun b u e => ?_) I.bare
    . have : b ∈ [z, TI, TO, i1, i2] := by
        simp only [List.mem_cons, List.mem_nil_iff, or_false] at hb ⊢
        rcases hb with h | h | h | h <;> simp [h]
      obtain ⟨q1, q2, q3, q4, q5, q6⟩ := hf b this
      exact ⟨q4, q2, q5, q6⟩
    . obtain ⟨u, es, ep, ho, r⟩ := hm
      refine ⟨u, es, ep, z7' _ u (fun q => ?_) ho, r⟩
      have : X.env.locals ∈ [z, TI, TO, i1, i2] := by
        simp only [List.mem_cons, List.mem_nil_iff, or_false] at q ⊢
        rcases q with h | h | h | h <;> simp [h]
      exact (hf _ this).2.1 rfl
    . refine (I.hok b u e).stay (fun c v hc q => z7' c v ?_ q) (fun _ q => q) fun _ _ q => q
      rcases hc with h | h
      . rw [h]; exact nc b u e
      . exact nc c _ h
  self := fun _ _ _ _ _ st h => wpAny_pyIter_zip st.1 h
section
variable {X : Cx}
def iZip (K : PySem.W.Frag) (ta : TA) : TI := fun σ H R => ta σ H fun vs H1 => match vs with
  | [.ref a, .ref b] => (∃ xs, SqL K H1 a xs) /\ (∃ ys, SqL K H1 b ys) /\ R (Itz K a b) H1
  | _ => False
theorem kZip {K : PySem.W.Frag} {a b : Expr} {ta : TA} {p pos : Pos} {es : List Expr} {kt : Nat} {tpos : Pos} (hg : Gl X "zip") (hm : X.mg "zip" = none) (ha : PA X [a, b] ta)
    (hs : starEach [a, b] X.env = [(false, eval a X.env), (false, eval b X.env)] := by rfl) (hs2 : starEach [b] X.env = [(false, eval b X.env)] := by rfl) (hK : X.K = K := by rfl) :
    PI X (.Tuple es kt tpos) (.Call (.Name "zip" p) [a, b] [] pos) (iZip K ta) := by
  subst hK
  intro pins s σ H R I h
  refine Call_ (ld_blt I hg hm (by rfl : bootBuiltins "zip" = some (.type "zip")) (PyProof.Rows.callWith_type1 (thn (ha pos pins s σ H _ I h) fun us s1 ⟨vs, H1, I1, r1, q1⟩ => ?_) (by rw [hs, hs2]) (by rw [hs2]; rfl)))
  match vs, q1, r1 with
  | [.ref l1, .ref l2], ⟨⟨xs, hx⟩, ⟨ys, hy⟩, q⟩, r1 =>
  cases r1 with
  | cons r rr =>
  cases rr with
  | cons r' rr =>
  cases rr
  cases r
  cases r'
  obtain ⟨its, rv, p1, _⟩ := I1.list hx
  obtain ⟨its2, rv2, p2, _⟩ := I1.list hy
  obtain ⟨o1, n1, g1, _⟩ := id p1
  obtain ⟨o2, n2, g2, _⟩ := id p2
  have lt1 := Heap.lt_size g1
  have lt2 := Heap.lt_size g2
  refine call_zip_2 p1.isList p2.isList fun h' z1 z2 z3 z4 z5 z6 z7 => ?_
  refine wpAny_pyIter_zip (s := { s1 with heap := h' }) z1 ?_
  have I2 : Inv X pins σ H1 { s1 with heap := h' } := I1.kept (t' := s1.toks) z7
  refine ⟨_, _, _, _, H1, rfl, I2, turn_zip (i1 := s1.heap.objs.size) (i2 := s1.heap.objs.size + 1) (l1 := l1) (l2 := l2) (PyProof.Rows.zipApart_new lt1 lt2), ⟨z1, z2, ⟨_, _, z3⟩, z4, z5⟩, fun b hb => ?_, q⟩
  refine I1.fpOk ?_ ?_
  . simp only [List.mem_cons, List.mem_nil_iff, or_false] at hb
    rcases hb with rfl | rfl | rfl | rfl | rfl
    . exact Nat.le_add_right _ _
    . exact Nat.le_add_right _ _
    . exact Nat.le_add_right _ _
    . exact Nat.le_refl _
    . exact Nat.le_add_right _ _
  . refine I1.hok.fresh ?_
    simp only [List.mem_cons, List.mem_nil_iff, or_false] at hb
    rcases hb with rfl | rfl | rfl | rfl | rfl
    . exact Nat.le_add_right _ _
    . exact Nat.le_add_right _ _
    . exact Nat.le_add_right _ _
    . exact Nat.le_refl _
    . exact Nat.le_add_right _ _
theorem im_zip {K : PySem.W.Frag} {ta : TA} (h : AMono ta) : IMono (iZip K ta) := fun σ H Q Q' k q => h _ _ _ _ (fun vs _ q => by
  match vs, q with
  | [.ref a, .ref b], ⟨h1, h2, q⟩ => exact ⟨h1, h2, k _ _ q⟩) q
theorem comp_zip {K : PySem.W.Frag} {l1 l2 : Addr} {xs ys : List V} {g : TG} {tc : TT} {te : TE} {σc : St} {Q : VK} {H : Hp} (Pv : Nat -> List V -> Hp -> Prop) (h0 : Pv 0 [] H) (hlen : xs.length = ys.length) (hl : ∀ i zs H, i <= xs.length -> Pv i zs H -> SqL K H l1 xs /\ SqL K H l2 ys) (hz : ∀ i zs H, i < xs.length -> Pv i zs H -> zs.length < sizeLine)
    (hs : ∀ i x y zs H p, xs[i]? = some x -> ys[i]? = some y -> Pv i zs H -> H p = none -> g (.ref p) σc (upd H p (.tup [x, y])) fun σ2 H2 => tc σ2 H2 fun b H3 => if b = true then te σ2 H3 fun v H4 => Pv (i + 1) (zs ++ [v]) H4 else Pv (i + 1) zs H3)
    (hd : ∀ zs H, Pv xs.length zs H -> ∀ p, H p = none -> Q (.ref p) (upd H p (.lst zs))) : CompTurns (Itz K l1 l2) g tc te σc Q H := by
  refine ⟨fun i m zs H => m = xs.length - i /\ i <= xs.length /\ Pv i zs H, ⟨xs.length, by simp, Nat.zero_le _, h0⟩, ?_⟩
  rintro i m zs H ⟨rfl, hi, p⟩
  obtain ⟨q1, q2⟩ := hl i zs H hi p
  by_cases hlt : i < xs.length
  . refine .inr ⟨⟨xs, ys, xs[i], ys[i], q1, q2, by simp [hlt], List.getElem?_eq_getElem (by omega)⟩, hz i zs H hlt p, Pv (i + 1), fun zs' H' p' => ⟨xs.length - (i + 1), by omega, rfl, hlt, p'⟩, ?_⟩
    rintro v H' ⟨pp, x, y, hp, rfl, rfl, k1, k2⟩
    exact hs i x y zs H pp (k1 xs q1) (k2 ys q2) p hp
  . have e : i = xs.length := by omega
    subst e
    exact .inl ⟨⟨xs, ys, q1, q2, .inl (Nat.le_refl _)⟩, hd zs H p⟩
end
section
variable {X : Cx} {K : PySem.W.Frag} {o e : Expr} {es : List Expr} {to : TE} {t : TA} {apos cpos : Pos}
def mAppend : V -> List V -> Hp -> VK -> Prop := fun x vs H Q => match x, vs with
  | .ref l, [y] => ∃ xs, H l = some (.lst xs) /\ xs.length < sizeLine /\ Q .non (upd H l (.lst (xs ++ [y])))
  | _, _ => False
theorem mm_append : MtR X "list.append" mAppend := by
  intro pins s σ H x vs v us Q I rx rv q
  match x, vs, q with
  | .ref l, [y], ⟨xs, h1, h2, q⟩ => exact mt_append pins s σ H _ _ v us Q I rx rv ⟨l, xs, y, rfl, rfl, h1, h2, q⟩
theorem kAppend (ho : PE X o to) (ha : PA X [e] t) (hbase : attributeBase o "append" X.env (eval o X.env) = eval o X.env := by rfl)
    (hfew : ((backTo cpos (starEach [e] X.env)).all (fun x => !x.1) && (backToKw cpos (keywordEach [] X.env)).all (fun x => x.1.isSome)
      && decide ([e].length + ([] : List Keyword).length + (if ([] : List Keyword).isEmpty then 0 else 1) < 30)) = true := by rfl)
    (hline : (apos.endLine == cpos.line) = true := by rfl) (hs : starEach [e] X.env = (false, eval e X.env) :: starEach [] X.env := by rfl) (hplain : (backTo cpos (starEach [] X.env)).any (·.1) = false := by rfl) (hK : X.K = K := by rfl) :
    PE X (.Call (.Attribute o "append" apos) [e] [] cpos) (tBM K "list" mAppend to t) := hK ▸ pe_bm PySem.F.plainAttrs_list PySem.F.slot_list_append PySem.F.type_list_append mm_append ho ha hbase hfew hline hs hplain
def mCount (K : PySem.W.Frag) : V -> List V -> Hp -> VK -> Prop := fun x vs H Q => match x, vs with
  | .ref l, [y] => ∃ xs, SqL K H l xs /\ flatV y = true /\ xs.all flatV = true /\ Q (.int (xs.countP fun v => eqV v y : Nat)) H
  | _, _ => False
theorem countP_eqU {y : V} : ∀ {xs : List V} {us : List Value}, Vals xs us -> xs.all flatV = true -> us.countP (eqU y) = xs.countP fun v => eqV v y
  | _, _, .nil, _ => rfl
  | x :: xs, u :: us, .cons r t, f => by
    rw [List.all_cons, Bool.and_eq_true] at f
    rw [List.countP_cons, List.countP_cons, eqU_of r f.1, countP_eqU t f.2]
theorem mm_count : MtR X "list.count" (mCount X.K) := by
  intro pins s σ H x vs v us Q I rx rv q
  match x, vs, q with
  | .ref l, [y], ⟨xs, h1, h2, h3, q⟩ =>
  cases rx
  obtain ⟨u, rfl, ru⟩ := rv.one
  obtain ⟨its, r, pl, hz⟩ := I.list h1
  obtain ⟨⟨cls, dd, data, sl⟩, n, ho, hc, hd, hs⟩ := id pl
  simp only at hc hs
  subst hc hs
  refine call_meets F.slot_list_count ⟨_, ho, rfl⟩ F.entry_list_count (F.args_list_count_2 _ _) (SeqAt.list_countAt l its.toArray n dd sl u (eqU y)) ⟨ho, fun w hw => mem_eqAt ru h2 r h3 w (by simpa using hw), ?_⟩
  refine ⟨.int _, H, I.tok _, ⟨_, rfl⟩, ?_⟩
  have e : its.toArray.toList.countP (eqU y) = xs.countP fun v => eqV v y := by rw [show its.toArray.toList = its by simp]; exact countP_eqU r h3
  rw [e]
  exact q
theorem kCount (ho : PE X o to) (ha : PA X [e] t) (hbase : attributeBase o "count" X.env (eval o X.env) = eval o X.env := by rfl)
    (hfew : ((backTo cpos (starEach [e] X.env)).all (fun x => !x.1) && (backToKw cpos (keywordEach [] X.env)).all (fun x => x.1.isSome)
      && decide ([e].length + ([] : List Keyword).length + (if ([] : List Keyword).isEmpty then 0 else 1) < 30)) = true := by rfl)
    (hline : (apos.endLine == cpos.line) = true := by rfl) (hs : starEach [e] X.env = (false, eval e X.env) :: starEach [] X.env := by rfl) (hplain : (backTo cpos (starEach [] X.env)).any (·.1) = false := by rfl) (hK : X.K = K := by rfl) :
    PE X (.Call (.Attribute o "count" apos) [e] [] cpos) (tBM K "list" (mCount K) to t) := hK ▸ pe_bm PySem.F.plainAttrs_list PySem.F.slot_list_count PySem.F.type_list_count mm_count ho ha hbase hfew hline hs hplain
theorem em_bm {T : String} {r : V -> List V -> Hp -> VK -> Prop} (h1 : EMono to) (h2 : AMono t) (h3 : BMono r) : EMono (tBM K T r to t) := fun σ H Q Q' h q => h1 _ _ _ _ (fun _ _ q => ⟨q.1, h2 _ _ _ _ (fun _ _ q => h3 _ _ _ _ _ h q) q.2⟩) q
theorem bm_append : BMono mAppend := fun x xs H Q Q' h q => by
  unfold mAppend at *
  split at q
  . obtain ⟨ys, a, b, q⟩ := q; exact ⟨ys, a, b, h _ _ q⟩
  . exact q.elim
theorem bm_count : BMono (mCount K) := fun x xs H Q Q' h q => by
  unfold mCount at *
  split at q
  . obtain ⟨ys, a, b, c, q⟩ := q; exact ⟨ys, a, b, c, h _ _ q⟩
  . exact q.elim
def mSum (K : PySem.W.Frag) : List V -> Hp -> VK -> Prop := fun xs H Q => match xs with
  | [.ref l] => ∃ ns : List Int, SqL K H l (ns.map V.int) /\ Q (.int ns.sum) H
  | _ => False
theorem cm_sum (hc : X.calm = true) : CallR X (.builtin "sum") (mSum X.K) := by
  intro pins s σ H xs us Q I r q
  match xs, q with
  | [.ref l], q =>
  obtain ⟨ns, hl, q⟩ := q
  obtain ⟨u, rfl, ru⟩ := vals1 r
  cases ru
  obtain ⟨its, rv, pl, hz⟩ := I.list hl
  have hi : IntsAre its ns := by simpa using intsAre_of rv
  obtain ⟨zs, hzs⟩ := (hi.allInts).items
  have e : (numsOf its).sum = ns.sum := by rw [hi.numsOf]
  have pl' := pl.isList
  rw [hzs] at pl'
  refine sum_intListG (I.ok.hd hc) pl' fun h' tk t' hk => ?_
  refine ⟨.int _, H, I.kept hk, ⟨t', rfl⟩, ?_⟩
  have e2 : preSum (numAt zs) zs.size = ns.sum := by
    rw [preSum_eq, List.take_of_length_le (by simp), <- e]
    rw [show its = its.toArray.toList by simp, hzs, nums_intItems]
  rw [e2]
  exact q
theorem kSum (hc : X.calm = true) (hK : X.K = K := by rfl) : CallR X (.builtin "sum") (mSum K) := hK ▸ cm_sum hc
theorem cm_sum_ : CMono (mSum K) := fun xs H Q Q' h q => by
  unfold mSum at *
  split at q
  . obtain ⟨ns, a, q⟩ := q; exact ⟨ns, a, h _ _ q⟩
  . exact q.elim
def mAll (K : PySem.W.Frag) : List V -> Hp -> VK -> Prop := fun xs H Q => match xs with
  | [.ref l] => ∃ bs : List Bool, SqL K H l (bs.map V.bl) /\ Q (.bl (bs.all id)) H
  | _ => False
theorem cm_all (hc : X.calm = true) : CallR X (.builtin "all") (mAll X.K) := by
  intro pins s σ H xs us Q I r q
  match xs, q with
  | [.ref l], q =>
  obtain ⟨bs, hl, q⟩ := q
  obtain ⟨u, rfl, ru⟩ := vals1 r
  cases ru
  obtain ⟨its, rv, pl, hz⟩ := I.list hl
  have hlen := rv.length
  rw [List.length_map] at hlen
  obtain ⟨o1, n1, g1, _⟩ := id pl
  have hlt := Heap.lt_size g1
  refine call_all_walk (wpAny_pyIter_list pl.isList ?_)
  have hne : l ≠ s.heap.objs.size := Nat.ne_of_lt hlt
  refine ⟨_, _, _, _, _, _, fun i => bs.getD i false, rfl, Walks.list (A := X.A.in1) (I.ok.hd hc) s.heap.objs.size l hne its.toArray, ?_, ?_, fun h' tk hk => ?_⟩
  . exact ⟨⟨_, Heap.get?_push_size _ rfl, rfl, rfl⟩, (show s.heap.IsList l its.toArray from pl.isList).at fun o e => Heap.get?_push_of_some _ e⟩
  . intro i v s' Q' E' hv hq
    have hv : its.toArray[i]? = some v := hv
    have hi : i < its.length := by
      have := (Array.getElem?_eq_some_iff.mp hv).1
      simpa using this
    have hb : (bs.map V.bl)[i]? = some (.bl bs[i]) := by rw [List.getElem?_map, List.getElem?_eq_getElem (by omega)]; rfl
    obtain ⟨w', q1, q2⟩ := rv.get hb
    have e : v = w' := by simp at hv; rw [q1] at hv; exact (Option.some.inj hv).symm
    subst e
    cases q2
    refine wpAny_truthy_bool ?_
    have e2 : bs.getD i false = bs[i] := by rw [List.getD_eq_getElem?_getD, List.getElem?_eq_getElem (by omega)]; rfl
    have hq : Q' (bs.getD i false) s' := hq
    rw [e2] at hq
    exact hq
  . refine ⟨.bl _, H, I.kept (fun b o e => hk b o ?_ (Heap.get?_push_of_some _ e)), rfl, ?_⟩
    . simp only [List.mem_singleton]
      exact Nat.ne_of_lt (Heap.lt_size e)
    . have e : (List.range its.toArray.size).all (fun i => bs.getD i false) = bs.all id := by
        rw [List.size_toArray, <- hlen]
        rw [Bool.eq_iff_iff, List.all_eq_true, List.all_eq_true]
        constructor
        . intro h b hb
          obtain ⟨i, hi, rfl⟩ := List.mem_iff_getElem.mp hb
          have := h i (List.mem_range.mpr hi)
          rw [List.getD_eq_getElem?_getD, List.getElem?_eq_getElem hi] at this
          exact this
        . intro h i hi
          have hi' := List.mem_range.mp hi
          rw [List.getD_eq_getElem?_getD, List.getElem?_eq_getElem hi']
          exact h _ (List.getElem_mem hi')
      rw [e]
      exact q
theorem kAll (hc : X.calm = true) (hK : X.K = K := by rfl) : CallR X (.builtin "all") (mAll K) := hK ▸ cm_all hc
theorem cm_all_ : CMono (mAll K) := fun xs H Q Q' h q => by
  unfold mAll at *
  split at q
  . obtain ⟨ns, a, q⟩ := q; exact ⟨ns, a, h _ _ q⟩
  . exact q.elim
end
section
variable {prog : Program} {w : World} {A : Around} {E : Value -> Shared -> Prop} {s : Shared}
theorem draw_list {it t : Addr} {items : Array Value} (hne : t ≠ it) : ∀ (n i : Nat) (s : Shared) (Q : List Value -> Shared -> Prop), s.heap.IsListIter it t i -> s.heap.IsList t items -> i + n <= items.size ->
    (∀ h', h'.IsListIter it t (i + n) -> Heap.SameBut it s.heap h' -> Q ((items.toList.drop i).take n) { s with heap := h' }) -> wpAny (model prog w) A (draw (.ref it) n) Q E s
  | 0, i, s, Q, hit, _, _, hQ => by
    show wpAny _ _ (pure []) Q E s
    exact wpAny_pure (by simpa using hQ s.heap hit (Heap.SameBut.refl ..))
  | n + 1, i, s, Q, hit, ht, hle, hQ => by
    have hlt : i < items.size := by omega
    show wpAny _ _ (pyNext (.ref it) >>= _) Q E s
    refine wpAny_bind (wpAny_pyNext_list_item hit ht (x := items[i]) (by simp [hlt]) fun h₁ hit₁ hs₁ => ?_)
    refine wpAny_bind (wpAny_holding (draw_list hne n (i + 1) _ _ hit₁ (ht.extBut hs₁.extBut hne) (by omega) fun h₂ hit₂ hs₂ => wpAny_pure ?_))
    have hd : items.toList.drop i = items[i] :: items.toList.drop (i + 1) := by simp [List.drop_eq_getElem_cons, hlt]
    have := hQ h₂ (by rw [show i + (n + 1) = i + 1 + n by omega]; exact hit₂) (hs₁.trans hs₂)
    rw [hd, List.take_succ_cons] at this
    exact this
theorem unpackItems_list {t : Addr} {items : Array Value} {Q : List Value -> Shared -> Prop} (hh : A.handled = none) (ht : s.heap.IsList t items)
    (hQ : ∀ h', Heap.ExtBut s.heap.objs.size s.heap h' -> Q items.toList { s with heap := h' }) : wpAny (model prog w) A (unpackItems (.ref t) items.size none) Q E s := by
  have hlt : t ≠ s.heap.objs.size := by obtain ⟨o, ho, _⟩ := ht; exact Nat.ne_of_lt (Heap.lt_size ho)
  unfold unpackItems
  refine wpAny_bind ?_
  . unfold notIterableAtAll
    refine wpAny_bind (wpAny_specialOf ht.typeIs slot_list_iter.lookup ?_)
    refine wpAny_pure ?_
    simp only [Bool.false_eq_true, if_false]
    refine wpAny_bind (wpAny_holding (wpAny_pyIter_list ht ?_))
    refine wpAny_bind (wpAny_holding (draw_list hlt items.size 0 _ _ ⟨_, Heap.get?_push_size _ rfl, rfl, rfl⟩ (ht.at fun o e => Heap.get?_push_of_some _ e) (by omega) fun h₁ hit₁ hs₁ => ?_))
    have hall : List.take items.size (List.drop 0 items.toList) = items.toList := by
      rw [List.drop_zero]; exact List.take_of_length_le (by simp)
    rw [hall]
    rw [if_neg (by simp)]
    have ht₁ : h₁.IsList t items := (Heap.IsList.at ht fun o e => Heap.get?_push_of_some _ e).extBut hs₁.extBut hlt
    refine wpAny_bind (wpAny_holding (wpAny_pyNext_list_end hh hit₁ ht₁ (by simp) fun h₂ he₂ => ?_))
    simp only [Option.isSome_none, Bool.false_eq_true, if_false]
    refine wpAny_pure (hQ h₂ fun b o hb e => he₂ b o hb (hs₁.extBut b o hb (Heap.get?_push_of_some _ e)))
theorem assign_Tuple_list {env : Env} {elts : List Expr} {x1} {pos : Pos} {t : Addr} {items : Array Value} {Q : Unit -> Shared -> Prop} (hh : A.handled = none) (ht : s.heap.IsList t items)
    (hn : (assignEach elts env).length = items.size) (hstar : (assignEach elts env).findIdx? (·.1) = none)
    (h : ∀ h', Heap.ExtBut s.heap.objs.size s.heap h' -> wpAny (model prog w) A (assignInOrder ((assignEach elts env).map (·.2)) items.toList) Q E { s with heap := h' }) :
    wpAny (model prog w) A (assign (.Tuple elts x1 pos) env (.ref t)) Q E s := by
  rw [assign_Tuple]
  refine wpAny_bind (wpAny_standAt ?_)
  unfold unpack
  rw [hn, hstar]
  exact wpAny_bind (wpAny_holding (unpackItems_list hh ht h))
end
section
variable {X : Cx} {K : PySem.W.Frag} {pos p2 : Pos} {e : Expr} {lo hi : Option Expr} {te : TE} {tl th : TO}
def gSeqs (K : PySem.W.Frag) (n : Nat) (t : TGs) : TG := fun v σ H Q => match v with
  | .ref a => ∃ xs, SqA K H a xs /\ xs.length = n /\ t xs σ H Q
  | _ => False
theorem kTupA {es : List Expr} {k : Nat} {t : TGs} {n : Nat} (hc : X.calm = true) (h : PGs X es t)
    (hn : (assignEach es X.env).length = n := by rfl) (hst : (assignEach es X.env).findIdx? (·.1) = none := by rfl) (hK : X.K = K := by rfl) : PG X (.Tuple es k pos) (gSeqs K n t) := by
  subst hK
  intro pins s σ H v u Q I r hw
  cases v with
  | ref a =>
    obtain ⟨xs, hq | hq, hl, hw⟩ := hw
    . cases r
      obtain ⟨its, rv, ht, hz⟩ := I.list hq
      refine assign_Tuple_list (I.ok.hd hc) ht.isList (by simp [hn, <- hl, rv.length]) hst fun h' hx => ?_
      have I1 : Inv X pins σ H { s with heap := h' } := I.kept (t' := s.toks) fun b o e => hx b o (Nat.ne_of_lt (Heap.lt_size e)) e
      exact h pins _ σ H xs _ Q I1 (by simpa using rv) hw
    . exact pg_tup hc h hn hst pins s σ H _ u Q I r ⟨a, xs, rfl, hq, hl, hw⟩
  | _ => exact False.elim hw
end
theorem sqT_same {K : PySem.W.Frag} {H H' : Hp} {a : Addr} {xs : List V} (h : SqT K H a xs) (s : Same H H') : SqT K H' a xs := sqT_stay h fun o e => s a o e
mutual
theorem Rep.same {K : PySem.W.Frag} {H H' : Hp} (s : Same H H') : ∀ (d : Dv) (v : V), Rep K H d v -> Rep K H' d v
  | .non, v, h => by unfold Rep at *; exact h
  | .bl b, v, h => by unfold Rep at *; exact h
  | .int i, v, h => by unfold Rep at *; exact h
  | .str x, v, h => by unfold Rep at *; exact h
  | .tup ds, v, h => by
    unfold Rep at *
    obtain ⟨a, xs, e, h1, h2⟩ := h
    exact ⟨a, xs, e, sqT_same h1 s, Reps.same s ds xs h2⟩
  | .lst ds, v, h => by
    unfold Rep at *
    obtain ⟨a, xs, e, h1, h2⟩ := h
    exact ⟨a, xs, e, sqL_stay h1 fun o e => s a o e, Reps.same s ds xs h2⟩
theorem Reps.same {K : PySem.W.Frag} {H H' : Hp} (s : Same H H') : ∀ (ds : List Dv) (xs : List V), Reps K H ds xs -> Reps K H' ds xs
  | [], xs, h => by unfold Reps at *; exact h
  | d :: ds, xs, h => by
    unfold Reps at *
    obtain ⟨x, r, e, h1, h2⟩ := h
    exact ⟨x, r, e, Rep.same s d x h1, Reps.same s ds r h2⟩
end
mutual
def tupOnly : Dv -> Bool
  | .tup ds => tupsOnly ds
  | .lst _ => false
  | _ => true
def tupsOnly : List Dv -> Bool
  | [] => true
  | d :: ds => tupOnly d && tupsOnly ds
end
mutual
theorem Rep.frm {K : PySem.W.Frag} {H H' : Hp} {t : Addr} (s : Frm t H H') (ht : ∃ zs, H t = some (.lst zs)) : ∀ (d : Dv) (v : V), tupOnly d = true -> Rep K H d v -> Rep K H' d v
  | .non, v, _, h => by unfold Rep at *; exact h
  | .bl b, v, _, h => by unfold Rep at *; exact h
  | .int i, v, _, h => by unfold Rep at *; exact h
  | .str x, v, _, h => by unfold Rep at *; exact h
  | .tup ds, v, hd, h => by
    unfold tupOnly at hd
    unfold Rep at *
    obtain ⟨a, xs, e, h1, h2⟩ := h
    refine ⟨a, xs, e, ?_, Reps.frm s ht ds xs hd h2⟩
    obtain ⟨zs, hz⟩ := ht
    rcases h1 with (h1 | ⟨o, h1⟩) | h1
    . exact .inl (.inl (s a _ (fun q => by rw [q, hz] at h1; cases h1) h1))
    . exact .inl (.inr ⟨o, s a _ (fun q => by rw [q, hz] at h1; cases h1) h1⟩)
    . exact .inr h1
  | .lst ds, v, hd, h => by unfold tupOnly at hd; cases hd
theorem Reps.frm {K : PySem.W.Frag} {H H' : Hp} {t : Addr} (s : Frm t H H') (ht : ∃ zs, H t = some (.lst zs)) : ∀ (ds : List Dv) (xs : List V), tupsOnly ds = true -> Reps K H ds xs -> Reps K H' ds xs
  | [], xs, _, h => by unfold Reps at *; exact h
  | d :: ds, xs, hd, h => by
    unfold tupsOnly at hd
    rw [Bool.and_eq_true] at hd
    unfold Reps at *
    obtain ⟨x, r, e, h1, h2⟩ := h
    exact ⟨x, r, e, Rep.frm s ht d x hd.1 h1, Reps.frm s ht ds r hd.2 h2⟩
end
theorem if_val {c : TT} {t u : TS} {D : Ends} {σ : St} {H : Hp} (b : Bool) (hc : ∀ Q : Bool -> Hp -> Prop, Q b H -> c σ H Q) (h : if b = true then t D σ H else u D σ H) : tIfS c t u D σ H := hc _ h
theorem Tape.lst {K : PySem.W.Frag} {H : Hp} {t a : Addr} {ns : List Int} (T : Tape K H t a ns) : ∃ zs, H t = some (.lst zs) := by
  obtain ⟨i, r, c, _, _, h⟩ := T.at_
  exact ⟨_, h⟩
theorem rep_tup1 {K : PySem.W.Frag} {H : Hp} {p : Addr} {xs : List V} {ds : List Dv} (h : H p = some (.tup xs)) (r : Reps K H ds xs) : Rep K H (.tup ds) (.ref p) := by unfold Rep; exact ⟨p, xs, rfl, .of h, r⟩
theorem reps_nil {K : PySem.W.Frag} {H : Hp} : Reps K H [] [] := by unfold Reps; rfl
theorem reps_cons {K : PySem.W.Frag} {H : Hp} {d : Dv} {ds : List Dv} {x : V} {xs : List V} (h : Rep K H d x) (r : Reps K H ds xs) : Reps K H (d :: ds) (x :: xs) := by unfold Reps; exact ⟨x, xs, rfl, h, r⟩
theorem rep_str {K : PySem.W.Frag} {H : Hp} {x : Str} : Rep K H (.str x) (.str x) := by unfold Rep; rfl
theorem rep_int {K : PySem.W.Frag} {H : Hp} {x : Int} : Rep K H (.int x) (.int x) := by unfold Rep; rfl
theorem rep_bl {K : PySem.W.Frag} {H : Hp} {x : Bool} : Rep K H (.bl x) (.bl x) := by unfold Rep; rfl
theorem Reps.append {K : PySem.W.Frag} {H : Hp} : ∀ {ds es : List Dv} {xs ys : List V}, Reps K H ds xs -> Reps K H es ys -> Reps K H (ds ++ es) (xs ++ ys)
  | [], es, xs, ys, h, h' => by unfold Reps at h; subst h; exact h'
  | d :: ds, es, xs, ys, h, h' => by
    unfold Reps at h
    obtain ⟨x, r, rfl, h1, h2⟩ := h
    exact reps_cons h1 (Reps.append h2 h')
section
variable {κ : Type} [DecidableEq κ]
def valV (kvs : List (κ × V)) (k : κ) : Option V := (kvs.find? fun kv => decide (kv.1 = k)).map (·.2)
def putK (kvs : List (κ × V)) (k : κ) (v : V) : List (κ × V) :=
  if (kvs.any fun kv => decide (kv.1 = k)) = true then kvs.map (fun kv => if kv.1 = k then (kv.1, v) else kv) else kvs ++ [(k, v)]
theorem valV_pos {p : κ × V} {r : List (κ × V)} {k : κ} (e : p.1 = k) : valV (p :: r) k = some p.2 := by simp [valV, List.find?_cons, e]
theorem valV_neg {p : κ × V} {r : List (κ × V)} {k : κ} (e : ¬ p.1 = k) : valV (p :: r) k = valV r k := by simp [valV, List.find?_cons, e]
theorem valV_any (k : κ) : ∀ kvs : List (κ × V), (kvs.any fun kv => decide (kv.1 = k)) = (valV kvs k).isSome
  | [] => rfl
  | p :: r => by
    rw [List.any_cons]
    by_cases e : p.1 = k
    . simp only [valV_pos e, decide_eq_true e, Bool.true_or, Option.isSome_some]
    . rw [valV_neg e, decide_eq_false e, Bool.false_or]; exact valV_any k r
theorem putK_new {kvs : List (κ × V)} {k : κ} (v : V) (h : valV kvs k = none) : putK kvs k v = kvs ++ [(k, v)] := by
  unfold putK
  rw [valV_any, h]
  exact if_neg (by decide)
theorem RelO.getD {o : Option V} {u : Option Value} {d : V} {d' : Value} (r : RelO o u) (rd : RelV d d') : RelV (o.getD d) (u.getD d') := by
  cases o with
  | none => cases u with
    | none => exact rd
    | some _ => exact (show False from r).elim
  | some _ => cases u with
    | none => exact (show False from r).elim
    | some _ => exact r
theorem KV.any {kvs : List (κ × V)} {vs : List (κ × Value)} (r : KV kvs vs) (k : κ) : (kvs.any fun kv => decide (kv.1 = k)) = vs.any fun kv => decide (kv.1 = k) := by
  unfold KV at r
  induction r with
  | nil => rfl
  | cons h t ih => rw [List.any_cons, List.any_cons, ih, h.1]
theorem KV.length {kvs : List (κ × V)} {vs : List (κ × Value)} (r : KV kvs vs) : kvs.length = vs.length := Paired.length r
end
section
variable {P : Program} {w : World} {H : Hp} {h : Heap} {a : Addr}
end
def DGet (H : Hp) (a : Addr) (y : V) (r : Option V) : Prop :=
  (∃ kvs k, Rd H a (.dK kvs) /\ y = kV k /\ r = valV kvs k) \/ ∃ kvs k b, Rd H a (.dT kvs) /\ y = .ref b /\ H b = some (.tup (k.map kV)) /\ r = valV kvs k
def DPut (H : Hp) (a : Addr) (y v : V) (H' : Hp) : Prop :=
  (∃ kvs k, H a = some (.dK kvs) /\ y = kV k /\ kvs.length < sizeLine /\ H' = upd H a (.dK (putK kvs k v))) \/
  ∃ kvs k b, H a = some (.dT kvs) /\ y = .ref b /\ H b = some (.tup (k.map kV)) /\ kvs.length < sizeLine /\ H' = upd H a (.dT (putK kvs k v))
theorem DGet.k {H : Hp} {a : Addr} {kvs : List (Key × V)} {k : Key} (e : H a = some (.dK kvs)) : DGet H a (kV k) (valV kvs k) := .inl ⟨kvs, k, .inl e, rfl, rfl⟩
theorem DGet.t {H : Hp} {a b : Addr} {kvs : List (List Key × V)} {k : List Key} (e : H a = some (.dT kvs)) (eb : H b = some (.tup (k.map kV))) : DGet H a (.ref b) (valV kvs k) := .inr ⟨kvs, k, b, .inl e, rfl, eb, rfl⟩
theorem DPut.k {H : Hp} {a : Addr} {kvs : List (Key × V)} {k : Key} {v : V} (e : H a = some (.dK kvs)) (hl : kvs.length < sizeLine) : DPut H a (kV k) v (upd H a (.dK (putK kvs k v))) := .inl ⟨kvs, k, e, rfl, hl, rfl⟩
theorem DPut.t {H : Hp} {a b : Addr} {kvs : List (List Key × V)} {k : List Key} {v : V} (e : H a = some (.dT kvs)) (eb : H b = some (.tup (k.map kV))) (hl : kvs.length < sizeLine) :
    DPut H a (.ref b) v (upd H a (.dT (putK kvs k v))) := .inr ⟨kvs, k, b, e, rfl, eb, hl, rfl⟩
section
variable {X : Cx} {pins : List (Addr × Obj)} {σ : St} {H : Hp} {s : Shared} {a : Addr} {y v : V} {u r : Value} {o : Option V} {A : Around} {E : Value -> Shared -> Prop}
theorem Inv.big (I : Inv X pins σ H s) : sysModules < s.heap.objs.size := by
  have h : mainGlobals < s.heap.objs.size := (I.mod.glob.keeps I.bk).lt
  exact Nat.lt_trans (by decide) h
theorem d_write {h' : Heap} {t' : Nat} {ob : HO} (I : Inv X pins σ H s) (mu : Mut (H a)) (hs : Heap.SameBut a s.heap h') (he : ∃ q, h'.get? a = some q) (new : ObjOk X.prog X.w (upd H a ob) h' a ob) :
    Inv X pins σ (upd H a ob) { s with heap := h', toks := t' } :=
  I.write (x := a) (e := a) mu (.inl rfl) (fun b q hb z => (hs.2 b hb).trans z) he new
end
section
variable {X : Cx} {pins : List (Addr × Obj)} {σ : St} {H : Hp} {s : Shared} {a : Addr} {kvs : List (Key × V)} {k : Key} {u : Value} {A : Around} {E : Value -> Shared -> Prop}
end
def NoSl (i : Expr) : Prop := ∀ ov iv, subscripted i false ov iv = operate [ov, iv] (getItem ov iv)
theorem subD_of {prog : Program} {w : World} {A : Around} {E : Value -> Shared -> Prop} {s : Shared} {env : Env} {value slice : Expr} {pos : Pos} {T id : String} {Q : Value -> Shared -> Prop}
    (hl : typeLookup (.type T) "__getitem__" = pure (some (.builtin id))) (hs : NoSl slice)
    (h : wpAny (model prog w) A (eval value env) (fun o s₁ => wpAny (model prog w) A (eval slice env) (fun i s₂ => s₂.TypeIs o T /\ wpAny (model prog w) A (getItem o i) Q E s₂) E s₁) E s) :
    wpAny (model prog w) A (eval (.Subscript value slice pos) env) Q E s := by
  refine Subscript_ (wpAny_mono h (fun o s₁ h₁ => wpAny_mono h₁ (fun i s₂ h₂ => ?_) fun _ _ x => x) fun _ _ x => x)
  obtain ⟨hT, h₂⟩ := h₂
  unfold subscriptTail
  refine wpAny_bind ?_
  rw [getitemInPython_of_ne hT.not_modules]
  refine wpAny_bind (wpAny_specialOf hT hl ?_)
  have fin : wpAny (model prog w) A (subscripted slice false o i) (fun r s₃ => wpAny (model prog w) A (letTemporaryGo value o r >>= fun _ => pure r) Q E s₃) E s₂ := by
    rw [hs o i]
    exact wpAny_operating (wpAny_mono h₂ (fun r s₃ h₃ => wpAny_bind (wpAny_letTemporaryGo (wpAny_pure h₃))) fun _ _ x => x)
  first
    | exact wpAny_pure (wpAny_bind fin)
    | exact wpAny_bind (wpAny_pure (wpAny_bind fin))
    | exact wpAny_bind fin
section
variable {X : Cx} {o i e value : Expr} {pos pos' tpos : Pos} {td ty tv : TE}
end
section
variable {X : Cx} {pos : Pos}
end
structure M1 (X : Cx) (o : Expr) (m : Str) (apos : Pos) (e : Expr) (cpos : Pos) : Prop where
  base : attributeBase o m X.env (eval o X.env) = eval o X.env
  few : ((backTo cpos (starEach [e] X.env)).all (fun x => !x.1) && (backToKw cpos (keywordEach [] X.env)).all (fun x => x.1.isSome)
    && decide (([e] : List Expr).length + ([] : List Keyword).length + (if ([] : List Keyword).isEmpty then 0 else 1) < 30)) = true
  line : (apos.endLine == cpos.line) = true
  trees : backTo cpos (starEach [e] X.env) = [(false, eval e X.env)]
structure M2 (X : Cx) (o : Expr) (m : Str) (apos : Pos) (e f : Expr) (cpos : Pos) : Prop where
  base : attributeBase o m X.env (eval o X.env) = eval o X.env
  few : ((backTo cpos (starEach [e, f] X.env)).all (fun x => !x.1) && (backToKw cpos (keywordEach [] X.env)).all (fun x => x.1.isSome)
    && decide (([e, f] : List Expr).length + ([] : List Keyword).length + (if ([] : List Keyword).isEmpty then 0 else 1) < 30)) = true
  line : (apos.endLine == cpos.line) = true
  trees : backTo cpos (starEach [e, f] X.env) = [(false, eval e X.env), (false, eval f X.env)]
section
variable {X : Cx} {pins : List (Addr × Obj)} {σ : St} {H : Hp} {s : Shared} {a : Addr} {y d : V} {u r : Value} {o : Option V} {A : Around} {E : Value -> Shared -> Prop}
end
section
variable {X : Cx} {o e f : Expr} {apos cpos : Pos} {td ty tx : TE}
end
section
variable {X : Cx} {pins : List (Addr × Obj)} {σ : St} {H : Hp} {s : Shared} {a : Addr} {kvs : List (Key × V)} {A : Around} {E : Value -> Shared -> Prop}
end
section
variable {X : Cx} {pins : List (Addr × Obj)} {σ : St} {H : Hp} {s : Shared} {a : Addr} {y : V} {u : Value} {A : Around} {E : Value -> Shared -> Prop}
end
theorem intOfSelf_bool {M : Model} {A : Around} {E : Value -> Shared -> Prop} {s : Shared} {b : Bool} {Q : Int -> Shared -> Prop} (h : Q (if b = true then 1 else 0) s) : wpAny M A (Builtin.Int.intOfSelf (.bool b)) Q E s := by
  unfold Builtin.Int.intOfSelf
  exact wpAny_pure h
theorem pyHash_bool {prog : Program} {w : World} {A : Around} {E : Value -> Shared -> Prop} {s : Shared} {b : Bool} {Q : Int -> Shared -> Prop} (h : Q (if b = true then 1 else 0) { s with toks := s.toks + 1 }) : wpAny (model prog w) A (pyHash (.bool b)) Q E s := by
  show wpAny _ _ (pyHashByItsType (.bool b)) _ _ _
  refine PySem.W.pyHash_slot (T := "bool") rfl PySem.F.slot_bool_hash PySem.F.entry_int_hash (PySem.F.args_int_hash_1 _) rfl (.inl rfl) ?_
  unfold Builtin.«int.__hash__» Builtin.Int.intSlot0
  refine wpAny_bind (wpAny_bind ?_)
  show wpAny _ _ (pure (Value.bool b, [])) _ _ _
  refine wpAny_pure (wpAny_bind (intOfSelf_bool (wpAny_pure ?_)))
  cases b with
  | true => exact wpAny_bind (wpAny_mkInt (wpAny_pure ⟨_, _, rfl, h⟩))
  | false => exact wpAny_bind (wpAny_mkInt (wpAny_pure ⟨_, _, rfl, h⟩))
def boolIs : Bool -> Value -> Bool
  | b, .bool c => b == c
  | _, _ => false
theorem boolIs_shape {b : Bool} {v : Value} (h : boolIs b v = true) : v = .bool b := by
  unfold boolIs at h
  split at h
  . rw [beq_iff_eq.mp h]
  . cases h
def boolKind (prog : Program) (w : World) : PySem.KeyKind prog w Bool where
  is := boolIs
  hash := fun b => if b = true then 1 else 0
  inj := fun v a b ha hb => by
    have e1 := boolIs_shape ha
    have e2 := boolIs_shape hb
    rw [e1] at e2
    injection e2
  byValue := fun k v h => by rw [boolIs_shape h]; rfl
  pyHash := fun hv h => by rw [boolIs_shape hv]; exact pyHash_bool h
  eqBool := fun {A E s a b u v Q} hu hv h => by
    rw [boolIs_shape hu, boolIs_shape hv]
    refine SeqAt.EqAt.bool_bool a b _ _ _ _ ?_
    have e : (a == b) = decide (a = b) := by cases a <;> cases b <;> rfl
    rw [e]; exact h
  «strs» := fun k x t v h => by
    have := boolIs_shape h
    cases this
abbrev BX := List (List Bool × Addr × Bool)
def bxv (xs : BX) : List (List Bool × Addr × Value) := xs.map fun q => (q.1, q.2.1, Value.bool q.2.2)
def dB (P : Program) (w : World) (a : Addr) (xs : BX) : HO := .ext fun h => ∃ o es ep, h.get? a = some o /\ o.ExactDict /\ o.data = .dict es ep /\ es.toList = (bxv xs).map (entryOfKey (tupleKind (boolKind P w))) /\ ((bxv xs).map (·.1)).Nodup /\ xs.length <= sizeLine /\ (a == sysModules) = false
def KeysB (H : Hp) (xs : BX) : Prop := ∀ q ∈ xs, H q.2.1 = some (.tup (q.1.map V.bl))
theorem items_bl {P : Program} {w : World} : ∀ {ks : List Bool} {us : List Value}, Vals (ks.map V.bl) us -> PySem.ItemsAre (boolKind P w) ks us
  | [], _, r => by rw [List.map_nil] at r; cases r; exact .nil
  | k :: ks, _, r => by
    rw [List.map_cons] at r
    cases r with
    | cons h t =>
      refine .cons ?_ (items_bl t)
      rw [show _ = Value.bool k from h]
      show (k == k) = true
      simp
section
variable {P : Program} {w : World} {H : Hp} {h : Heap} {a : Addr}
theorem key_bl {ks : List Bool} (ok : HOk P w H h) (e : H a = some (.tup (ks.map V.bl))) : (tupleKind (boolKind P w)).is h ks a := by
  obtain ⟨_, its, r, o, h1, h2, ⟨n, h3⟩, _⟩ := (show ObjOk P w H h a (.tup (ks.map V.bl)) from ok a _ e)
  exact ⟨o, its.toArray, n, h1, h2, h3, by simpa using items_bl r⟩
theorem db_of {xs : BX} (ok : HOk P w H h) (e : H a = some (dB P w a xs)) (hk : KeysB H xs) : xs.length <= sizeLine /\ (a == sysModules) = false /\ h.DictOfH (tupleKind (boolKind P w)) a (bxv xs) := by
  obtain ⟨⟨o, es, ep, h1, h2, h3, h4, h5, h6, h7⟩, _⟩ := (show ObjOk P w H h a (dB P w a xs) from ok a _ e)
  refine ⟨h6, h7, o, es, ep, h1, h2, h3, h4, fun x hx => ?_, h5⟩
  obtain ⟨q, hq, rfl⟩ := List.mem_map.mp hx
  exact key_bl ok (hk q hq)
theorem db_new {xs : BX} {H' : Hp} (hl : xs.length <= sizeLine) (hd : (a == sysModules) = false) (dd : h.DictOfH (tupleKind (boolKind P w)) a (bxv xs)) : ObjOk P w H' h a (dB P w a xs) := by
  obtain ⟨o, es, ep, h1, h2, h3, h4, _, h5⟩ := dd
  refine ⟨⟨o, es, ep, h1, h2, h3, h4, h5, hl, hd⟩, ⟨o, h1⟩, fun g1 g2 ⟨o, es, ep, h1, h2, h3, h4, h5, h6, h7⟩ k => ⟨o, es, ep, k _ h1, h2, h3, h4, h5, h6, h7⟩⟩
end
def hasB (xs : BX) (ks : List Bool) : Bool := xs.any fun q => decide (q.1 = ks)
theorem atKey_bxv (xs : BX) (ks : List Bool) : (atKey (bxv xs) ks).isSome = hasB xs ks := by
  unfold atKey bxv hasB
  induction xs with
  | nil => rfl
  | cons q r ih =>
    rw [List.map_cons, List.find?_cons, List.any_cons]
    by_cases e : q.1 = ks
    . simp [e]
    . simp only [e, decide_false, Bool.false_or]; exact ih
section
variable {X : Cx} {o i e value : Expr} {pos pos' tpos : Pos} {td ty tv : TE}
def rNotB (P : Program) (w : World) : R2 := fun x y H Q => match x, y with
  | .ref b, .ref a => ∃ xs ks, H b = some (.tup (ks.map V.bl)) /\ H a = some (dB P w a xs) /\ KeysB H xs /\ Q (.bl (!hasB xs ks)) H
  | _, _ => False
theorem om_notinB (hu : X.A.units + 60 < cLine) : OpR X (compareOp .NotIn) (rNotB X.prog X.w) := by
  intro pins s σ H x y v u Q I rx ry q
  cases x <;> cases y <;> first
    | exact False.elim q
    | (obtain ⟨xs, ks, h1, h2, h3, q⟩ := q
       cases (show v = Value.ref _ from rx)
       cases (show u = Value.ref _ from ry)
       obtain ⟨z, hd, dd⟩ := db_of I.hok h2 h3
       refine wpAny_notIn_heap (tupleKind_room_in1 (by omega)) (key_bl I.hok h1) hd dd ?_
       rw [atKey_bxv]
       exact ⟨.bl (!hasB xs ks), H, I.tok _, rfl, q⟩)
def rGetB (P : Program) (w : World) : R2 := fun x y H Q => match x, y with
  | .ref a, .ref b => ∃ xs ks c v, H b = some (.tup (ks.map V.bl)) /\ H a = some (dB P w a xs) /\ KeysB H xs /\ atKey (bxv xs) ks = some (c, .bool v) /\ Q (.bl v) H
  | _, _ => False
theorem pe_getB (hu : X.A.units + 60 < cLine) (ho : PE X o td) (hi : PE X i ty) (hs : NoSl i := by intro _ _; rfl) : PE X (.Subscript o i pos) (tOp (rGetB X.prog X.w) td ty) := by
  intro pins s σ H Q I h
  refine subD_of PySem.F.slot_dict_getitem.lookup hs (thn (ho pins s σ H _ I h) fun u s1 ⟨x, H1, I1, rx, q1⟩ => thn (hi pins s1 σ H1 _ I1 q1) fun iv s2 ⟨y, H2, I2, ry, q⟩ => ?_)
  cases x <;> cases y <;> first
    | exact False.elim q
    | (obtain ⟨xs, ks, c, v, h1, h2, h3, h4, q⟩ := q
       cases (show u = Value.ref _ from rx)
       cases (show iv = Value.ref _ from ry)
       obtain ⟨z, hd, dd⟩ := db_of I2.hok h2 h3
       exact ⟨dd.typeIs, wpAny_getItem_heap (tupleKind_room_in1 (by omega)) (key_bl I2.hok h1) dd h4 ⟨.bl v, H2, I2.tok _, rfl, q⟩⟩)
def rSetB (P : Program) (w : World) : TSet := fun o i v H Q => match o, i, v with
  | .ref a, .ref b, .bl v => ∃ xs ks, H b = some (.tup (ks.map V.bl)) /\ H a = some (dB P w a xs) /\ KeysB H xs /\ hasB xs ks = false /\ xs.length < sizeLine /\ Q (upd H a (dB P w a (xs ++ [(ks, b, v)])))
  | _, _, _ => False
theorem set_B (hu : X.A.units + 60 < cLine) : PSet X (rSetB X.prog X.w) := by
  intro pins s σ H o i v ov iv u Q I ro ri rv h
  cases o <;> cases i <;> cases v <;> first
    | exact False.elim h
    | (obtain ⟨xs, ks, h1, h2, h3, h4, h5, q⟩ := h
       cases (show ov = Value.ref _ from ro)
       cases (show iv = Value.ref _ from ri)
       cases (show u = Value.bool _ from rv)
       obtain ⟨z, hd, dd⟩ := db_of I.hok h2 h3
       refine wpAny_setItem_heap (hsz := by unfold bxv; rw [List.length_map]; exact z) (tupleKind_room_in1 (by omega)) (key_bl I.hok h1) dd fun h' dd' hs => ?_
       rw [show storedH (bxv xs) ks _ _ = bxv (xs ++ [(ks, _, _)]) by
         unfold storedH
         rw [atKey_bxv, h4, if_neg (by decide)]
         unfold bxv
         rw [List.map_append]; rfl] at dd'
       have he : ∃ q, h'.get? _ = some q := let ⟨q, _, _, hq, _⟩ := dd'; ⟨q, hq⟩
       exact ⟨_, d_write I (by rw [h2]; exact True.intro) hs he (db_new (by rw [List.length_append]; exact h5) hd dd'), q⟩)
def tNewB (P : Program) (w : World) : TE := fun _ H Q => ∀ p, H p = none -> Q (.ref p) (upd H p (dB P w p []))
theorem pe_newB {pos : Pos} : PE X (.Dict [] [] pos) (tNewB X.prog X.w) := fun pins s σ H Q I h =>
  wpAny_Dict_empty ⟨.ref s.heap.objs.size, _, I.laid (a := s.heap.objs.size) (o := dB X.prog X.w s.heap.objs.size []) (t' := s.toks) (fun _ _ q => Heap.get?_push_of_some _ q) (Nat.le_refl _)
    (db_new (Nat.zero_le _) (beq_eq_false_iff_ne.mpr (Ne.symm (Nat.ne_of_lt I.big))) ⟨_, #[], 0, Heap.get?_push_size _ rfl, ⟨rfl, rfl, rfl⟩, rfl, rfl, (fun x hx => by cases hx), List.nodup_nil⟩), rfl, h _ (I.hok.fresh (Nat.le_refl _))⟩
end
section
variable {X : Cx} {P : Program} {w : World} {o i : Expr} {pos : Pos} {td ty : TE}
theorem kNewB (hP : X.prog = P := by rfl) (hw : X.w = w := by rfl) : PE X (.Dict [] [] pos) (tNewB P w) := by subst hP hw; exact pe_newB
theorem kNotB (hu : X.A.units + 60 < cLine) (hP : X.prog = P := by rfl) (hw : X.w = w := by rfl) : OpR X (compareOp .NotIn) (rNotB P w) := by subst hP hw; exact om_notinB hu
theorem kGetB (hu : X.A.units + 60 < cLine) (ho : PE X o td) (hi : PE X i ty) (hs : NoSl i := by intro _ _; rfl) (hP : X.prog = P := by rfl) (hw : X.w = w := by rfl) : PE X (.Subscript o i pos) (tOp (rGetB P w) td ty) := by subst hP hw; exact pe_getB hu ho hi hs
theorem kSetB (hu : X.A.units + 60 < cLine) (hP : X.prog = P := by rfl) (hw : X.w = w := by rfl) : PSet X (rSetB P w) := by subst hP hw; exact set_B hu
end
theorem rm_notB {P w} : RMono (rNotB P w) := fun x y H Q Q' h q => by
  unfold rNotB at *
  split at q
  . obtain ⟨xs, ks, a, b, c, q⟩ := q; exact ⟨xs, ks, a, b, c, h _ _ q⟩
  . exact q.elim
theorem rm_getB {P w} : RMono (rGetB P w) := fun x y H Q Q' h q => by
  unfold rGetB at *
  split at q
  . obtain ⟨xs, ks, c, v, a, b, d, e, q⟩ := q; exact ⟨xs, ks, c, v, a, b, d, e, h _ _ q⟩
  . exact q.elim
theorem sm_setB {P w} : SetMono (rSetB P w) := fun o i v H Q Q' h q => by
  unfold rSetB at *
  split at q
  . obtain ⟨xs, ks, a, b, c, d, e, q⟩ := q; exact ⟨xs, ks, a, b, c, d, e, h _ q⟩
  . exact q.elim
theorem em_newB {P w} : EMono (tNewB P w) := fun σ H Q Q' h q => fun p hp => h _ _ (q p hp)
section
variable {X : Cx} {K : PySem.W.Frag} {o : Expr} {to : TE} {apos cpos : Pos}
def mBitlen : V -> List V -> Hp -> VK -> Prop := fun x vs H Q => match x, vs with
  | .int i, [] => Q (.int (Builtin.Int.intBits i : Nat)) H
  | _, _ => False
theorem mm_bitlen : MtR X "int.bit_length" mBitlen := by
  intro pins s σ H x vs v us Q I rx rv q
  match x, vs, q with
  | .int i, [], q =>
    cases rv
    obtain ⟨t, rfl⟩ := (show ∃ t, v = Value.int i t from rx)
    exact PyProof.Rows.call_int_bit_length ⟨.int (Builtin.Int.intBits i : Nat), H, I.tok _, ⟨_, rfl⟩, q⟩
theorem kBitlen (ho : PE X o to) (hbase : attributeBase o "bit_length" X.env (eval o X.env) = eval o X.env := by rfl) (hline : (apos.endLine == cpos.line) = true := by rfl) (hK : X.K = K := by rfl) :
    PE X (.Call (.Attribute o "bit_length" apos) [] [] cpos) (tBM0 K "int" mBitlen to) := hK ▸ pe_bm0 PySem.F.plainAttrs_int PySem.F.slot_int_bit_length PySem.F.type_int_bit_length mm_bitlen ho hbase hline
end
def Ite (K : PySem.W.Frag) (l : Addr) : It :=
  ⟨fun i H => ∃ xs x, SqL K H l xs /\ xs[i]? = some x,
   fun i H v H' => ∃ p x, H p = none /\ v = .ref p /\ H' = upd H p (.tup [.int i, x]) /\ ∀ xs, SqL K H l xs -> xs[i]? = some x,
   fun i H => ∃ xs, SqL K H l xs /\ xs.length <= i⟩
theorem turn_enum {P : Program} {w : World} {K : PySem.W.Frag} {es : List Expr} {kt : Nat} {tpos : Pos} {e it l : Addr} (hne : e ≠ it) :
    Turn P w K (.Tuple es kt tpos) (Ite K l) [e, it] e (fun i h => (∃ old, IsEnum h e it (i : Int) old) /\ h.IsListIter it l i) where
  mem := by simp
  obj := fun i h st b hb => by
    obtain ⟨⟨old, hz⟩, ⟨o1, e1, c1, d1⟩⟩ := st
    simp only [List.mem_cons, List.mem_nil_iff, or_false] at hb
    rcases hb with rfl | rfl
    . exact ⟨_, hz, fun v q => nomatch q⟩
    . exact ⟨o1, e1, fun v q => by rw [d1] at q; cases q⟩
  keep := fun i h h' ⟨⟨old, hz⟩, h1⟩ k => ⟨⟨old, k e (by simp) _ hz⟩, h1.at fun o q => k it (by simp) o q⟩
  item := by
    intro X hP hw hK hc i pins s σ H E I hf st hg
    subst hP hw hK
    obtain ⟨xs, x, hq1, hx⟩ := hg
    obtain ⟨⟨old, hz⟩, h1⟩ := st
    obtain ⟨its, rv, p, _⟩ := I.list hq1
    obtain ⟨u, hu, ru⟩ := rv.get hx
    refine wpAny_pyNext_enum_item hz h1 p.isList (x := u) (by simpa using hu) hne fun h' z1 z2 z3 z4 z5 => ?_
    refine ⟨_, rfl, ?_⟩
    have z5' : ∀ b v, b ∉ [e, it] -> s.heap.get? b = some v -> h'.get? b = some v := fun b v hb q => by
      simp only [List.mem_cons, List.mem_nil_iff, or_false, not_or] at hb
      exact z5 b v hb.1 hb.2 q
    have I1 : Inv X pins σ (upd H s.heap.objs.size (.tup [.int i, x])) { s with heap := h' } := by
      refine I.turnedNew (ch := [e, it]) (fun b hb => hf b hb) (Nat.le_refl _) z5' ?_ fun b hb => ?_
      . exact ⟨small_le (show 2 <= 1000 by decide), [.int i s.toks, u], .cons ⟨_, rfl⟩ (.cons ru .nil), ⟨_, z3, rfl, ⟨_, rfl⟩, rfl⟩⟩
      . simp only [List.mem_cons, List.mem_nil_iff, or_false] at hb
        rcases hb with rfl | rfl
        . exact ⟨_, z1⟩
        . obtain ⟨o, q, _⟩ := z2; exact ⟨o, q⟩
    refine wpAny_letOwnedTupleGo_enum (s := { s with heap := h', toks := s.toks + 1 }) z1 fun h'' z8 z9 => ?_
    have hfz := hf e (by simp)
    have neT : ∀ b, b ∈ [e, it] -> b ≠ s.heap.objs.size := fun b hb q => by
      have st' : ∃ o, s.heap.get? b = some o := by
        simp only [List.mem_cons, List.mem_nil_iff, or_false] at hb
        rcases hb with rfl | rfl
        . exact ⟨_, hz⟩
        . obtain ⟨o, q, _⟩ := h1; exact ⟨o, q⟩
      obtain ⟨o, ho⟩ := st'
      have := Heap.lt_size ho
      rw [q] at this
      exact Nat.lt_irrefl _ this
    have hTH : ∀ b ∈ [e, it], upd H s.heap.objs.size (.tup [.int i, x]) b = none := fun b hb => by rw [upd_ne (neT b hb)]; exact (hf b hb).1
    have I2 : Inv X pins σ (upd H s.heap.objs.size (.tup [.int i, x])) { s with heap := h'', toks := s.toks + 1 } :=
      I1.turned (t' := s.toks + 1) (fun b o hb q => (z9.2 b hb).trans q) (hTH e (by simp)) hfz.2.1 hfz.2.2.2.1 hfz.2.2.2.2.1 hfz.2.2.2.2.2
    have up : ∀ b o, b ≠ e -> h'.get? b = some o -> h''.get? b = some o := fun b o hb q => (z9.2 b hb).trans q
    exact ⟨.ref s.heap.objs.size, _, I2, rfl, ⟨_, x, I.hok.fresh (Nat.le_refl _), rfl, rfl, fun xs' h => by rw [I.list_inj h hq1]; exact hx⟩, ⟨⟨_, z8⟩, z2.at fun o q => up _ o (Ne.symm hne) q⟩, hTH⟩
  done := by
    intro X hP hw hK hc i pins s σ H E I hf st hg
    subst hP hw hK
    obtain ⟨xs, hq1, hl⟩ := hg
    obtain ⟨⟨old, hz⟩, h1⟩ := st
    obtain ⟨its, rv, p, _⟩ := I.list hq1
    have e1 := rv.length
    refine wpAny_pyNext_enum_end (I.ok.hd hc) hz h1 p.isList (by simp; omega) fun h' z7 => ⟨rfl, ?_⟩
    obtain ⟨f0, f1, f2, f3, f4, f5⟩ := hf it (by simp)
    exact I.turned (t' := s.toks) (fun b o hb q => z7 b o hb q) f0 f1 f3 f4 f5
  self := fun _ _ _ _ _ st h => wpAny_pyIter_enum st.1.choose_spec h
section
variable {X : Cx}
def iEnum (K : PySem.W.Frag) (ta : TA) : TI := fun σ H R => ta σ H fun vs H1 => match vs with
  | [.ref a] => (∃ xs, SqL K H1 a xs) /\ R (Ite K a) H1
  | _ => False
theorem kEnum {K : PySem.W.Frag} {a : Expr} {ta : TA} {p pos : Pos} {es : List Expr} {kt : Nat} {tpos : Pos} (hg : Gl X "enumerate") (hm : X.mg "enumerate" = none) (ha : PA X [a] ta)
    (hs : starEach [a] X.env = [(false, eval a X.env)] := by rfl) (hK : X.K = K := by rfl) :
    PI X (.Tuple es kt tpos) (.Call (.Name "enumerate" p) [a] [] pos) (iEnum K ta) := by
  subst hK
  intro pins s σ H R I h
  refine Call_ (ld_blt I hg hm (by rfl : bootBuiltins "enumerate" = some (.type "enumerate")) (PyProof.Rows.callWith_type1 (thn (ha pos pins s σ H _ I h) fun us s1 ⟨vs, H1, I1, r1, q1⟩ => ?_) (by rw [hs]; rfl) (by rfl)))
  match vs, q1, r1 with
  | [.ref l1], ⟨⟨xs, hx⟩, q⟩, r1 =>
  cases r1 with
  | cons r rr =>
  cases rr
  cases r
  obtain ⟨its, rv, p1, _⟩ := I1.list hx
  refine call_enumerate_list p1.isList fun h' z1 z2 z3 z4 => ?_
  refine wpAny_pyIter_enum (s := { s1 with heap := h' }) z1 ?_
  have I2 : Inv X pins σ H1 { s1 with heap := h' } := I1.kept (t' := s1.toks) z4
  refine ⟨_, _, _, _, H1, rfl, I2, turn_enum (l := l1) (it := s1.heap.objs.size) (Nat.ne_of_gt (Nat.lt_succ_self _)), ⟨⟨_, z1⟩, z2⟩, fun b hb => ?_, q⟩
  refine I1.fpOk ?_ (I1.hok.fresh ?_)
  all_goals
    simp only [List.mem_cons, List.mem_nil_iff, or_false] at hb
    rcases hb with rfl | rfl
    . exact Nat.le_succ _
    . exact Nat.le_refl _
theorem comp_enum {K : PySem.W.Frag} {l : Addr} {xs : List V} {g : TG} {tc : TT} {te : TE} {σc : St} {Q : VK} {H : Hp} (Pv : Nat -> List V -> Hp -> Prop) (h0 : Pv 0 [] H) (hl : ∀ i zs H, i <= xs.length -> Pv i zs H -> SqL K H l xs) (hz : ∀ i zs H, i < xs.length -> Pv i zs H -> zs.length < sizeLine)
    (hs : ∀ i x zs H p, xs[i]? = some x -> Pv i zs H -> H p = none -> g (.ref p) σc (upd H p (.tup [.int (i : Nat), x])) fun σ2 H2 => tc σ2 H2 fun b H3 => if b = true then te σ2 H3 fun v H4 => Pv (i + 1) (zs ++ [v]) H4 else Pv (i + 1) zs H3)
    (hd : ∀ zs H, Pv xs.length zs H -> ∀ p, H p = none -> Q (.ref p) (upd H p (.lst zs))) : CompTurns (Ite K l) g tc te σc Q H := by
  refine ⟨fun i m zs H => m = xs.length - i /\ i <= xs.length /\ Pv i zs H, ⟨xs.length, by simp, Nat.zero_le _, h0⟩, ?_⟩
  rintro i m zs H ⟨rfl, hi, p⟩
  have q1 := hl i zs H hi p
  by_cases hlt : i < xs.length
  . refine .inr ⟨⟨xs, xs[i], q1, by simp [hlt]⟩, hz i zs H hlt p, Pv (i + 1), fun zs' H' p' => ⟨xs.length - (i + 1), by omega, rfl, hlt, p'⟩, ?_⟩
    rintro v H' ⟨pp, x, hp, rfl, rfl, k1⟩
    exact hs i x zs H pp (k1 xs q1) p hp
  . have e : i = xs.length := by omega
    subst e
    exact .inl ⟨⟨xs, q1, Nat.le_refl _⟩, hd zs H p⟩
end
theorem bits_pow : ∀ m < 7, (Builtin.Int.intBits ((2 ^ m : Nat) : Int) : Nat) = m + 1 := by decide +kernel
def TyS (K : PySem.W.Frag) (H : Hp) (x : V) (t : String) : Prop := match x with
  | .int _ => t = "int"
  | .bl _ => t = "bool"
  | .ref a => (t = "tuple" /\ ∃ xs, SqT K H a xs) \/ (t = "list" /\ ∃ xs, SqL K H a xs)
  | _ => False
def isTy (t T : String) : Bool := t == T || (t == "bool" && T == "int")
section
variable {X : Cx} {K : PySem.W.Frag}
theorem tyS_kit {pins : List (Addr × Obj)} {σ : St} {H : Hp} {s : Shared} {x : V} {u : Value} {t : String} (I : Inv X pins σ H s) (rx : RelV x u) (h : TyS X.K H x t) :
    (t = "int" \/ t = "bool" \/ t = "tuple" \/ t = "list") /\ u ≠ Value.builtin "__main__.__loader__#opaque" /\ ∃ Hh : Heap -> Prop, PySem.W.KitX X.K u (.type t) Hh /\ Hh s.heap := by
  cases x with
  | int i =>
    obtain ⟨k, rfl⟩ := (show ∃ t, u = Value.int i t from rx)
    cases (show t = "int" from h)
    exact ⟨.inl rfl, (fun z => nomatch z), _, PySem.W.kitx_int, True.intro⟩
  | bl b =>
    cases (show u = Value.bool b from rx)
    cases (show t = "bool" from h)
    exact ⟨.inr (.inl rfl), (fun z => nomatch z), _, PySem.W.kitx_bool, True.intro⟩
  | ref a =>
    cases (show u = Value.ref a from rx)
    rcases h with ⟨rfl, xs, hq⟩ | ⟨rfl, xs, hq⟩
    . obtain ⟨its, rv, p, _⟩ := I.tuple hq
      obtain ⟨o, h1, h2, _⟩ := p
      exact ⟨.inr (.inr (.inl rfl)), (fun z => nomatch z), _, PySem.W.kitx_tuple, ⟨o, h1, h2⟩⟩
    . obtain ⟨its, rv, p, _⟩ := I.list hq
      obtain ⟨o, n, h1, h2, _⟩ := p
      exact ⟨.inr (.inr (.inr rfl)), (fun z => nomatch z), _, PySem.W.kitx_list, ⟨o, h1, h2⟩⟩
  | _ => exact False.elim h
end
section
variable {X : Cx} {pins : List (Addr × Obj)} {σ : St} {H : Hp} {s : Shared}
end
section
variable {X : Cx} {K : PySem.W.Frag}
end
open AutoSeq1 (wpAny_loadPart')
section
variable {prog : Program} {w : World} {A : Around} {E : Value -> Shared -> Prop} {s : Shared}
theorem nx_tup_item {j tp : Addr} {k : Nat} {its : Array Value} {z : Value} {Q : Value -> Shared -> Prop} (hj : s.heap.IsTupleIter j tp k) (hp : s.heap.IsTuple tp its) (hz : its[k]? = some z)
    (q : ∀ h', h'.IsTupleIter j tp (k + 1) -> Heap.SameBut j s.heap h' -> Q z { s with heap := h' }) : wpAny (model prog w) A (Builtin.SmallTypes.nextOf (.ref j)) Q E s := by
  obtain ⟨ob, g1, g2, g3⟩ := id hj
  obtain ⟨ol, k1, _, nl, k3⟩ := hp
  unfold Builtin.SmallTypes.nextOf
  refine wpAny_bind (wpAny_callSpecial?_slot (name := Str.ofString "__next__") hj.typeIs F.slot_tuple_iterator_next (wpAny_call_entry F.slot_tuple_iterator_next hj.typeIs F.entry_tuple_iterator_next ?_ (F.args_tuple_iterator_next_1 _)))
  show wpAny _ _ (field (.ref j) 0 >>= _) _ _ s
  refine wpAny_bind (wpAny_field g1 g3 (x := .ref tp) rfl ?_)
  show wpAny _ _ (if (Value.ref tp == Value.none) = true then _ else _) _ _ s
  rw [if_neg (c := (Value.ref tp == Value.none) = true) (fun z => Bool.false_ne_true z)]
  show wpAny _ _ (field (.ref j) 1 >>= _) _ _ s
  refine wpAny_bind (wpAny_field g1 g3 (x := .int k 0) rfl ?_)
  show wpAny _ _ (seqItems? (.ref tp) >>= _) _ _ s
  refine wpAny_bind (wpAny_seqItems k1 k3 ?_)
  simp only [Int.toNat_natCast, hz]
  refine wpAny_bind (wpAny_setField g1 g3 (by simp) (wpAny_pure ⟨z, rfl, wpAny_pure (q _ ?_ (Heap.SameBut.update ..))⟩))
  refine ⟨_, Heap.get?_update_self _ g1 (Obj.isFreed_of_fields (Obj.data_mapFields g3 _)), (Obj.cls_mapFields ..).trans g2, ?_⟩
  rw [Obj.data_mapFields g3]
  simp [rawInt]
theorem nx_tup_end {j tp : Addr} {k : Nat} {its : Array Value} {Q : Value -> Shared -> Prop} (hh : A.handled = none) (hj : s.heap.IsTupleIter j tp k) (hp : s.heap.IsTuple tp its) (hz : its[k]? = none)
    (q : ∀ h' e, Heap.ExtBut j s.heap h' -> (∃ o, h'.get? e = some o /\ o.cls = .type "StopIteration") -> E (.ref e) { s with heap := h' }) : wpAny (model prog w) A (Builtin.SmallTypes.nextOf (.ref j)) Q E s := by
  obtain ⟨ob, g1, g2, g3⟩ := id hj
  obtain ⟨ol, k1, _, nl, k3⟩ := hp
  unfold Builtin.SmallTypes.nextOf
  refine wpAny_bind (wpAny_callSpecial?_slot (name := Str.ofString "__next__") hj.typeIs F.slot_tuple_iterator_next (wpAny_call_entry F.slot_tuple_iterator_next hj.typeIs F.entry_tuple_iterator_next ?_ (F.args_tuple_iterator_next_1 _)))
  show wpAny _ _ (field (.ref j) 0 >>= _) _ _ s
  refine wpAny_bind (wpAny_field g1 g3 (x := .ref tp) rfl ?_)
  show wpAny _ _ (if (Value.ref tp == Value.none) = true then _ else _) _ _ s
  rw [if_neg (c := (Value.ref tp == Value.none) = true) (fun z => Bool.false_ne_true z)]
  show wpAny _ _ (field (.ref j) 1 >>= _) _ _ s
  refine wpAny_bind (wpAny_field g1 g3 (x := .int k 0) rfl ?_)
  show wpAny _ _ (seqItems? (.ref tp) >>= _) _ _ s
  refine wpAny_bind (wpAny_seqItems k1 k3 ?_)
  simp only [Int.toNat_natCast, hz]
  refine wpAny_bind (wpAny_rule (wpAny_bind (wpAny_setField g1 g3 (by simp) ?_)))
  show wpAny _ _ (newExc (.type "StopIteration") [] >>= fun z => _) _ _ _
  refine wpAny_bind ?_
  simp only [newExc, newTuple]
  refine wpAny_bind (wpAny_newObj_type (hd := by size_fits) ?_)
  refine wpAny_bind (m := firstArgMember _ _) (wpAny_of_eq (a := Value.none) (by first | (simp only [firstArgMember]; rfl) | rfl) ?_)
  refine wpAny_newObj_type (hd := by size_fits) ?_
  simp only [raiseNew]
  refine wpAny_bind (wpAny_handled ?_)
  first | rw [hh] | rw [show A.in1.handled = none from hh]
  refine wpAny_bind (wpAny_pure (wpAny_throw ?_))
  exact q _ _ (((Heap.SameBut.update ..).extBut.push _).push _) ⟨_, Heap.get?_push_size _ rfl, rfl⟩
theorem draws_tup (hh : A.handled = none) (j tp : Addr) (hne : tp ≠ j) (its : Array Value) :
    Draws prog w A j [j, tp] its.size (fun k v => its[k]? = some v) (fun k h => h.IsTupleIter j tp k /\ h.IsTuple tp its) where
  live := fun _ _ st => by obtain ⟨⟨o, ho, _⟩, _⟩ := st; exact ⟨o, ho⟩
  frame := fun _ _ _ st hk => by
    obtain ⟨st1, o, h1, h2⟩ := st
    exact ⟨st1.at fun o e => hk j (by simp) o e, o, hk tp (by simp) o h1, h2⟩
  item := fun k s Q E hi st hQ => by
    refine nx_tup_item st.1 st.2 (z := its[k]) (by simp [hi]) fun h' h1 h2 => ?_
    exact hQ _ h' s.toks (by simp [hi]) ⟨h1, st.2.extBut h2.extBut hne⟩ h2
  done := fun s Q E st hE => nx_tup_end hh st.1 st.2 (by simp) hE
theorem meets_enum_tup (tp : Addr) (its : Array Value) (n : Nat) (dct : Option Addr) (sl : Array (Option Value)) :
    Meets (Builtin.«enumerate.__new__» ⟨[.type "enumerate", .ref tp], []⟩) (fun _ R s => s.heap.get? tp = some { cls := .type "tuple", dict := dct, data := .seq its n, slots := sl } /\
      R (.ok (.ret (.ref (s.heap.push { cls := .type "tuple_iterator", data := .fields #[.ref tp, .int 0 0] }).objs.size)))
        { s with heap := (s.heap.push { cls := .type "tuple_iterator", data := .fields #[.ref tp, .int 0 0] }).push { cls := .type "enumerate", data := .fields #[.none, .bool false, .ref s.heap.objs.size, rawInt 0, .none, .none] } }) :=
  .of_wp fun prog w A R s h => by
    obtain ⟨hp, g, d, tk, os⟩ := s
    obtain ⟨hl, h⟩ := h
    have hsub := sub_enumerate
    have ht : Heap.IsTuple (Shared.heap ⟨hp, g, d, tk, os⟩) tp its := ⟨_, hl, rfl, n, rfl⟩
    wp_walk using wpAny_loadPart' hl
    refine wpAny_stack_any fun st => wpAny_pure ?_
    split
    . rename_i c _ _ _ _ _
      cases (c == Value.type "enumerate") <;> (wp_walk using wpAny_loadPart' hl, wpAny_pyIter_tuple ht; exact ⟨_, rfl, h⟩)
    . wp_walk using wpAny_loadPart' hl, wpAny_pyIter_tuple ht
      exact ⟨_, rfl, h⟩
theorem call_enum_tup {tp : Addr} {its : Array Value} {Q : Value -> Shared -> Prop} (ht : s.heap.IsTuple tp its)
    (h : ∀ h', IsEnum h' (s.heap.objs.size + 1) s.heap.objs.size 0 .none -> h'.IsTupleIter s.heap.objs.size tp 0 -> (∀ b o, s.heap.get? b = some o -> h'.get? b = some o) -> Q (.ref (s.heap.objs.size + 1)) { s with heap := h' }) :
    wpAny (model prog w) A (call (.type "enumerate") [.ref tp]) Q E s := by
  obtain ⟨⟨c, dct, dt, sl⟩, hl, hc, n, hd⟩ := ht
  cases (show c = .type "tuple" from hc)
  cases (show dt = .seq its n from hd)
  refine callType_new F.called_enumerate (by decide) (F.typeCall_enumerate_1 _) (F.newCall_enumerate_1 _) (fun obj => F.args_object_init_2 obj _) F.entry_enumerate_new (meets_enum_tup tp its n dct sl) ⟨hl, ?_⟩
  have z1 : (s.heap.push { cls := .type "tuple_iterator", data := .fields #[.ref tp, .int 0 0] }).objs.size = s.heap.objs.size + 1 := Heap.size_push ..
  show _ /\ _
  rw [z1]
  have z2 := Heap.get?_push_size (s.heap.push { cls := .type "tuple_iterator", data := .fields #[.ref tp, .int 0 0] }) (o := { cls := .type "enumerate", data := .fields #[.none, .bool false, .ref s.heap.objs.size, rawInt 0, .none, .none] }) rfl
  rw [z1] at z2
  have z3 : IsEnum _ (s.heap.objs.size + 1) s.heap.objs.size 0 .none := z2
  exact ⟨⟨_, z2, rfl⟩, h _ z3 ⟨_, Heap.get?_push_of_some _ (Heap.get?_push_size _ rfl), rfl, rfl⟩ fun b o x => Heap.get?_push_of_some _ (Heap.get?_push_of_some _ x)⟩
end
def Itet (K : PySem.W.Frag) (l : Addr) : It :=
  ⟨fun i H => ∃ xs x, SqT K H l xs /\ xs[i]? = some x,
   fun i H v H' => ∃ p x, H p = none /\ v = .ref p /\ H' = upd H p (.tup [.int i, x]) /\ ∀ xs, SqT K H l xs -> xs[i]? = some x,
   fun i H => ∃ xs, SqT K H l xs /\ xs.length <= i⟩
theorem turn_enumT {P : Program} {w : World} {K : PySem.W.Frag} {es : List Expr} {kt : Nat} {tpos : Pos} {e it l : Addr} (hne : e ≠ it) :
    Turn P w K (.Tuple es kt tpos) (Itet K l) [e, it] e (fun i h => (∃ old, IsEnum h e it (i : Int) old) /\ h.IsTupleIter it l i) where
  mem := by simp
  obj := fun i h st b hb => by
    obtain ⟨⟨old, hz⟩, ⟨o1, e1, c1, d1⟩⟩ := st
    simp only [List.mem_cons, List.mem_nil_iff, or_false] at hb
    rcases hb with rfl | rfl
    . exact ⟨_, hz, fun v q => nomatch q⟩
    . exact ⟨o1, e1, fun v q => by rw [d1] at q; cases q⟩
  keep := fun i h h' ⟨⟨old, hz⟩, h1⟩ k => ⟨⟨old, k e (by simp) _ hz⟩, h1.at fun o q => k it (by simp) o q⟩
  item := by
    intro X hP hw hK hc i pins s σ H E I hf st hg
    subst hP hw hK
    obtain ⟨xs, x, hq1, hx⟩ := hg
    obtain ⟨⟨old, hz⟩, h1⟩ := st
    obtain ⟨its, rv, p, _⟩ := I.tuple hq1
    obtain ⟨u, hu, ru⟩ := rv.get hx
    have hp : s.heap.IsTuple l its.toArray := p
    have le : l ≠ e := fun q => by obtain ⟨o, g1, g2, _⟩ := hp; rw [q] at g1; rw [show s.heap.get? e = _ from hz] at g1; cases g1; exact absurd (show Value.type "enumerate" = Value.type "tuple" from g2) (by decide)
    have li : l ≠ it := fun q => by obtain ⟨o, g1, g2, _⟩ := hp; obtain ⟨o', g3, g4, _⟩ := h1; rw [q, g3] at g1; cases g1; rw [g4] at g2; exact absurd g2 (by decide)
    refine wpAny_pyNext_enum_itemD (draws_tup (A := X.A.in1) (show X.A.in1.handled = none from I.ok.hd hc) it l li its.toArray) hz ⟨h1, hp⟩ ?_ hne (by simp [hne, Ne.symm le]) fun y h' tk py z1 z2' z3 z4 z5 => ?_
    . have := (List.getElem?_eq_some_iff.mp hu).1
      simpa using this
    obtain ⟨z2, _⟩ := z2'
    have ey : y = u := by
      have : its.toArray[i]? = some u := by simpa using hu
      rw [this] at py
      exact (Option.some.inj py).symm
    subst ey
    refine ⟨_, rfl, ?_⟩
    have z5' : ∀ b v, b ∉ [e, it] -> s.heap.get? b = some v -> h'.get? b = some v := fun b v hb q => by
      simp only [List.mem_cons, List.mem_nil_iff, or_false, not_or] at hb
      exact z5 b v hb.1 hb.2 q
    have I1 : Inv X pins σ (upd H s.heap.objs.size (.tup [.int i, x])) { s with heap := h' } := by
      refine I.turnedNew (ch := [e, it]) (fun b hb => hf b hb) (Nat.le_refl _) z5' ?_ fun b hb => ?_
      . exact ⟨small_le (show 2 <= 1000 by decide), [.int i tk, y], .cons ⟨_, rfl⟩ (.cons ru .nil), ⟨_, z3, rfl, ⟨_, rfl⟩, rfl⟩⟩
      . simp only [List.mem_cons, List.mem_nil_iff, or_false] at hb
        rcases hb with rfl | rfl
        . exact ⟨_, z1⟩
        . obtain ⟨o, q, _⟩ := z2; exact ⟨o, q⟩
    refine wpAny_letOwnedTupleGo_enum (s := { s with heap := h', toks := tk + 1 }) z1 fun h'' z8 z9 => ?_
    have hfz := hf e (by simp)
    have neT : ∀ b, b ∈ [e, it] -> b ≠ s.heap.objs.size := fun b hb q => by
      have st' : ∃ o, s.heap.get? b = some o := by
        simp only [List.mem_cons, List.mem_nil_iff, or_false] at hb
        rcases hb with rfl | rfl
        . exact ⟨_, hz⟩
        . obtain ⟨o, q, _⟩ := h1; exact ⟨o, q⟩
      obtain ⟨o, ho⟩ := st'
      have := Heap.lt_size ho
      rw [q] at this
      exact Nat.lt_irrefl _ this
    have hTH : ∀ b ∈ [e, it], upd H s.heap.objs.size (.tup [.int i, x]) b = none := fun b hb => by rw [upd_ne (neT b hb)]; exact (hf b hb).1
    have I2 : Inv X pins σ (upd H s.heap.objs.size (.tup [.int i, x])) { s with heap := h'', toks := tk + 1 } :=
      I1.turned (t' := tk + 1) (fun b o hb q => (z9.2 b hb).trans q) (hTH e (by simp)) hfz.2.1 hfz.2.2.2.1 hfz.2.2.2.2.1 hfz.2.2.2.2.2
    have up : ∀ b o, b ≠ e -> h'.get? b = some o -> h''.get? b = some o := fun b o hb q => (z9.2 b hb).trans q
    exact ⟨.ref s.heap.objs.size, _, I2, rfl, ⟨_, x, I.hok.fresh (Nat.le_refl _), rfl, rfl, fun xs' h => by rw [I.tuple_inj h hq1]; exact hx⟩, ⟨⟨_, z8⟩, z2.at fun o q => up _ o (Ne.symm hne) q⟩, hTH⟩
  done := by
    intro X hP hw hK hc i pins s σ H E I hf st hg
    subst hP hw hK
    obtain ⟨xs, hq1, hl⟩ := hg
    obtain ⟨⟨old, hz⟩, h1⟩ := st
    obtain ⟨its, rv, p, _⟩ := I.tuple hq1
    have e1 := rv.length
    have hp : s.heap.IsTuple l its.toArray := p
    have hT : s.TypeIs (.ref e) "enumerate" := ⟨_, hz, rfl⟩
    unfold pyNext
    refine wpAny_bind (wpAny_attempt (wpAny_callSpecial?_slot (name := Str.ofString "__next__") hT F.slot_enumerate_next (wpAny_call_entry F.slot_enumerate_next hT F.entry_enumerate_next ?_ (F.args_enumerate_next_1 _))))
    show wpAny _ _ (field (.ref e) 2 >>= fun z => _) _ _ _
    refine wpAny_bind (wpAny_field hz rfl (x := .ref it) rfl ?_)
    refine wpAny_bind (nx_tup_end (by first | exact I.ok.hd hc | simpa using I.ok.hd hc) h1 hp (by simp; omega) fun h' x z7 hx' => ?_)
    obtain ⟨o, ho, hcl⟩ := hx'
    refine wpAny_bind (wpAny_isInstance (T := "StopIteration") (b := true) ⟨o, ho, hcl⟩ isSubtype_stop (wpAny_pure ⟨rfl, ?_⟩))
    obtain ⟨f0, f1, f2, f3, f4, f5⟩ := hf it (by simp)
    exact I.turned (t' := s.toks) (fun b o hb q => z7 b o hb q) f0 f1 f3 f4 f5
  self := fun _ _ _ _ _ st h => wpAny_pyIter_enum st.1.choose_spec h
section
variable {X : Cx}
def iEnumT (K : PySem.W.Frag) (ta : TA) : TI := fun σ H R => ta σ H fun vs H1 => match vs with
  | [.ref a] => (∃ xs, SqT K H1 a xs) /\ R (Itet K a) H1
  | _ => False
theorem kEnumT {K : PySem.W.Frag} {a : Expr} {ta : TA} {p pos : Pos} {es : List Expr} {kt : Nat} {tpos : Pos} (hg : Gl X "enumerate") (hm : X.mg "enumerate" = none) (ha : PA X [a] ta)
    (hs : starEach [a] X.env = [(false, eval a X.env)] := by rfl) (hK : X.K = K := by rfl) :
    PI X (.Tuple es kt tpos) (.Call (.Name "enumerate" p) [a] [] pos) (iEnumT K ta) := by
  subst hK
  intro pins s σ H R I h
  refine Call_ (ld_blt I hg hm (by rfl : bootBuiltins "enumerate" = some (.type "enumerate")) (PyProof.Rows.callWith_type1 (thn (ha pos pins s σ H _ I h) fun us s1 ⟨vs, H1, I1, r1, q1⟩ => ?_) (by rw [hs]; rfl) (by rfl)))
  match vs, q1, r1 with
  | [.ref l1], ⟨⟨xs, hx⟩, q⟩, r1 =>
  cases r1 with
  | cons r rr =>
  cases rr
  cases r
  obtain ⟨its, rv, p1, _⟩ := I1.tuple hx
  refine call_enum_tup (its := its.toArray) p1 fun h' z1 z2 z4 => ?_
  refine wpAny_pyIter_enum (s := { s1 with heap := h' }) z1 ?_
  have I2 : Inv X pins σ H1 { s1 with heap := h' } := I1.kept (t' := s1.toks) z4
  refine ⟨_, _, _, _, H1, rfl, I2, turn_enumT (l := l1) (it := s1.heap.objs.size) (Nat.ne_of_gt (Nat.lt_succ_self _)), ⟨⟨_, z1⟩, z2⟩, fun b hb => ?_, q⟩
  refine I1.fpOk ?_ (I1.hok.fresh ?_)
  all_goals
    simp only [List.mem_cons, List.mem_nil_iff, or_false] at hb
    rcases hb with rfl | rfl
    . exact Nat.le_succ _
    . exact Nat.le_refl _
theorem comp_enumT {K : PySem.W.Frag} {l : Addr} {xs : List V} {g : TG} {tc : TT} {te : TE} {σc : St} {Q : VK} {H : Hp} (Pv : Nat -> List V -> Hp -> Prop) (h0 : Pv 0 [] H) (hl : ∀ i zs H, i <= xs.length -> Pv i zs H -> SqT K H l xs) (hz : ∀ i zs H, i < xs.length -> Pv i zs H -> zs.length < sizeLine)
    (hs : ∀ i x zs H p, xs[i]? = some x -> Pv i zs H -> H p = none -> g (.ref p) σc (upd H p (.tup [.int (i : Nat), x])) fun σ2 H2 => tc σ2 H2 fun b H3 => if b = true then te σ2 H3 fun v H4 => Pv (i + 1) (zs ++ [v]) H4 else Pv (i + 1) zs H3)
    (hd : ∀ zs H, Pv xs.length zs H -> ∀ p, H p = none -> Q (.ref p) (upd H p (.lst zs))) : CompTurns (Itet K l) g tc te σc Q H := by
  refine ⟨fun i m zs H => m = xs.length - i /\ i <= xs.length /\ Pv i zs H, ⟨xs.length, by simp, Nat.zero_le _, h0⟩, ?_⟩
  rintro i m zs H ⟨rfl, hi, p⟩
  have q1 := hl i zs H hi p
  by_cases hlt : i < xs.length
  . refine .inr ⟨⟨xs, xs[i], q1, by simp [hlt]⟩, hz i zs H hlt p, Pv (i + 1), fun zs' H' p' => ⟨xs.length - (i + 1), by omega, rfl, hlt, p'⟩, ?_⟩
    rintro v H' ⟨pp, x, hp, rfl, rfl, k1⟩
    exact hs i x zs H pp (k1 xs q1) p hp
  . have e : i = xs.length := by omega
    subst e
    exact .inl ⟨⟨xs, q1, Nat.le_refl _⟩, hd zs H p⟩
end
structure Feed (H : Hp) (t : Addr) : Prop where
  at_ : ∃ a b k c : Int, 0 <= a /\ H t = some (.lst [.int a, .int b, .int k, .int c])
theorem Feed.same {H H' : Hp} {t : Addr} (F : Feed H t) (h : Same H H') : Feed H' t := by
  obtain ⟨a, b, k, c, h1, h2⟩ := F.at_
  exact ⟨a, b, k, c, h1, h _ _ h2⟩
theorem Feed.upd {H : Hp} {t p : Addr} {o : HO} (F : Feed H t) (h : H p = none) : Feed (L2.upd H p o) t := F.same (Same.upd h)
theorem and_half (a b : Nat) : (a &&& b) / 2 = a / 2 &&& b / 2 := by
  have := Nat.and_div_two_pow (a := a) (b := b) (n := 1)
  simpa using this
theorem xor_half (a b : Nat) : (a ^^^ b) / 2 = a / 2 ^^^ b / 2 := by
  have := Nat.xor_div_two_pow (a := a) (b := b) (n := 1)
  simpa using this
theorem or_half (a b : Nat) : (a ||| b) / 2 = a / 2 ||| b / 2 := by
  have := Nat.or_div_two_pow (a := a) (b := b) (n := 1)
  simpa using this
theorem low3 (a b : Nat) : (a &&& b) % 2 = a % 2 * (b % 2) /\ (a ^^^ b) % 2 = (a % 2 + b % 2) % 2 /\ (a ||| b) % 2 = a % 2 + b % 2 - a % 2 * (b % 2) := by
  have h1 := Nat.and_mod_two_pow (a := a) (b := b) (n := 1)
  have h2 := Nat.xor_mod_two_pow (a := a) (b := b) (n := 1)
  have h3 := Nat.or_mod_two_pow (a := a) (b := b) (n := 1)
  rw [Nat.pow_one] at h1 h2 h3
  rw [h1, h2, h3]
  have ha : a % 2 = 0 \/ a % 2 = 1 := by omega
  have hb : b % 2 = 0 \/ b % 2 = 1 := by omega
  rcases ha with ha | ha <;> rcases hb with hb | hb <;> rw [ha, hb] <;> decide
theorem xor_and : ∀ a b : Nat, (a ^^^ b) + 2 * (a &&& b) = a + b := by
  intro a
  induction a using Nat.strongRecOn with
  | ind a ih =>
    intro b
    by_cases h0 : a = 0
    . subst h0; simp
    . have i := ih (a / 2) (by omega) (b / 2)
      rw [<- xor_half, <- and_half] at i
      obtain ⟨l1, l2, _⟩ := low3 a b
      have ha : a % 2 = 0 \/ a % 2 = 1 := by omega
      have hb : b % 2 = 0 \/ b % 2 = 1 := by omega
      rcases ha with ha | ha <;> rcases hb with hb | hb <;> rw [ha, hb] at l1 l2 <;> omega
theorem or_and : ∀ a b : Nat, (a ||| b) + (a &&& b) = a + b := by
  intro a
  induction a using Nat.strongRecOn with
  | ind a ih =>
    intro b
    by_cases h0 : a = 0
    . subst h0; simp
    . have i := ih (a / 2) (by omega) (b / 2)
      rw [<- or_half, <- and_half] at i
      obtain ⟨l1, _, l2⟩ := low3 a b
      have ha : a % 2 = 0 \/ a % 2 = 1 := by omega
      have hb : b % 2 = 0 \/ b % 2 = 1 := by omega
      rcases ha with ha | ha <;> rcases hb with hb | hb <;> rw [ha, hb] at l1 l2 <;> omega
theorem bitAnd_nat (a b : Nat) : Builtin.bitAnd (a : Int) (b : Int) = ((a &&& b : Nat) : Int) := by
  unfold Builtin.bitAnd
  rw [decide_eq_true (Int.natCast_nonneg a), decide_eq_true (Int.natCast_nonneg b)]
  rfl
theorem bitXor_nat (a b : Nat) : Builtin.bitXor (a : Int) (b : Int) = ((a ^^^ b : Nat) : Int) := by
  rw [PyProof.Rows.bitXor_and, bitAnd_nat]
  have := xor_and a b
  omega
theorem bitOr_nat (a b : Nat) : Builtin.bitOr (a : Int) (b : Int) = ((a ||| b : Nat) : Int) := by
  rw [PyProof.Rows.bitOr_and, bitAnd_nat]
  have := or_and a b
  omega
def iL (xs : List Nat) : List V := xs.map fun i => V.int (i : Nat)
theorem iL_len (xs : List Nat) : (iL xs).length = xs.length := by unfold iL; rw [List.length_map]
theorem iL_app (xs ys : List Nat) : iL (xs ++ ys) = iL xs ++ iL ys := by unfold iL; rw [List.map_append]
theorem iL_at {xs : List Nat} {i : Nat} {v : V} (h : (iL xs)[i]? = some v) : ∃ x, xs[i]? = some x /\ x ∈ xs /\ v = .int (x : Nat) := by
  unfold iL at h
  rw [List.getElem?_map] at h
  cases e : xs[i]? with
  | none => rw [e] at h; cases h
  | some x => rw [e] at h; exact ⟨x, rfl, List.mem_of_getElem? e, (Option.some.inj h).symm⟩
theorem same_put {H0 H : Hp} {t : Addr} {o : HO} (s : Same H0 H) (ht : H0 t = none) : Same H0 (upd H t o) := fun b u e => by
  rw [upd_ne (ne_of_none e ht)]; exact s b u e
theorem Same.sqT {K : PySem.W.Frag} {H H' : Hp} {a : Addr} {xs : List V} (e : Same H H') (h : SqT K H a xs) : SqT K H' a xs := sqT_stay h (fun o k => e _ _ k)
theorem Same.sqL {K : PySem.W.Frag} {H H' : Hp} {a : Addr} {xs : List V} (e : Same H H') (h : SqL K H a xs) : SqL K H' a xs := sqL_stay h (fun o k => e _ _ k)
def sumTo (f : Nat -> Int) : Nat -> Int
  | 0 => 0
  | n + 1 => sumTo f n + f n
theorem sumTo_congr {f g : Nat -> Int} : ∀ {n : Nat}, (∀ j, j < n -> f j = g j) -> sumTo f n = sumTo g n
  | 0, _ => rfl
  | n + 1, h => by
    show sumTo f n + f n = sumTo g n + g n
    rw [sumTo_congr fun j hj => h j (Nat.lt_succ_of_lt hj), h n (Nat.lt_succ_self n)]
theorem sumTo_add (f : Nat -> Int) (a : Nat) : ∀ b, sumTo f (a + b) = sumTo f a + sumTo (fun j => f (a + j)) b
  | 0 => by show sumTo f a = sumTo f a + 0; omega
  | b + 1 => by
    show sumTo f (a + b) + f (a + b) = sumTo f a + (sumTo (fun j => f (a + j)) b + f (a + b))
    rw [sumTo_add f a b]; omega
theorem sumTo_plus (f g : Nat -> Int) : ∀ n, sumTo f n + sumTo g n = sumTo (fun j => f j + g j) n
  | 0 => rfl
  | n + 1 => by
    show sumTo f n + f n + (sumTo g n + g n) = sumTo (fun j => f j + g j) n + (f n + g n)
    rw [<- sumTo_plus f g n]; omega
theorem sumTo_minus (f g : Nat -> Int) : ∀ n, sumTo f n - sumTo g n = sumTo (fun j => f j - g j) n
  | 0 => rfl
  | n + 1 => by
    show sumTo f n + f n - (sumTo g n + g n) = sumTo (fun j => f j - g j) n + (f n - g n)
    rw [<- sumTo_minus f g n]; omega
theorem sumTo_mul (c : Int) (f : Nat -> Int) : ∀ n, c * sumTo f n = sumTo (fun j => c * f j) n
  | 0 => by show c * 0 = 0; omega
  | n + 1 => by
    show c * (sumTo f n + f n) = sumTo (fun j => c * f j) n + c * f n
    rw [<- sumTo_mul c f n, Int.mul_add]
theorem sumTo_mulr (c : Int) (f : Nat -> Int) (n : Nat) : sumTo f n * c = sumTo (fun j => f j * c) n := by
  rw [Int.mul_comm, sumTo_mul]
  exact sumTo_congr fun j _ => Int.mul_comm _ _
theorem sumTo_zero : ∀ n, sumTo (fun _ => 0) n = 0
  | 0 => rfl
  | n + 1 => by show sumTo (fun _ => 0) n + 0 = 0; rw [sumTo_zero n]; rfl
theorem sumTo_const (c : Int) : ∀ n, sumTo (fun _ => c) n = n * c
  | 0 => by show (0 : Int) = ((0 : Nat) : Int) * c; simp
  | n + 1 => by
    show sumTo (fun _ => c) n + c = _
    rw [sumTo_const c n, Int.natCast_add, Int.add_mul]; simp
theorem sumTo_swap (f : Nat -> Nat -> Int) (m : Nat) : ∀ n, sumTo (fun i => sumTo (fun j => f i j) m) n = sumTo (fun j => sumTo (fun i => f i j) n) m
  | 0 => by show (0 : Int) = sumTo (fun _ => 0) m; rw [sumTo_zero]
  | n + 1 => by
    show sumTo (fun i => sumTo (fun j => f i j) m) n + sumTo (fun j => f n j) m = sumTo (fun j => sumTo (fun i => f i j) n + f n j) m
    rw [sumTo_swap f m n, sumTo_plus]
theorem sumTo_pick (g : Nat -> Int) (x : Nat) : ∀ n, sumTo (fun y => if x = y then g y else 0) n = if x < n then g x else 0
  | 0 => by simp [sumTo]
  | n + 1 => by
    show sumTo (fun y => if x = y then g y else 0) n + (if x = n then g n else 0) = _
    rw [sumTo_pick g x n]
    by_cases h : x = n
    . subst h; rw [if_neg (by omega), if_pos rfl, if_pos (by omega)]; omega
    . by_cases h2 : x < n
      . rw [if_pos h2, if_neg h, if_pos (by omega)]; omega
      . rw [if_neg h2, if_neg h, if_neg (by omega)]; rfl
theorem sumTo_two (f : Nat -> Int) : ∀ m, sumTo f (2 * m) = sumTo (fun j => f (2 * j) + f (2 * j + 1)) m
  | 0 => rfl
  | m + 1 => by
    show sumTo f (2 * m) + f (2 * m) + f (2 * m + 1) = sumTo (fun j => f (2 * j) + f (2 * j + 1)) m + (f (2 * m) + f (2 * m + 1))
    rw [sumTo_two f m]; omega
def chi : Nat -> Nat -> Nat -> Int
  | 0, _, _ => 1
  | n + 1, a, b => (if a % 2 = 1 /\ b % 2 = 1 then -1 else 1) * chi n (a / 2) (b / 2)
theorem chi_comm : ∀ n a b, chi n a b = chi n b a
  | 0, _, _ => rfl
  | n + 1, a, b => by
    show _ * chi n (a / 2) (b / 2) = _ * chi n (b / 2) (a / 2)
    rw [chi_comm n]
    congr 1
    by_cases h : a % 2 = 1 /\ b % 2 = 1
    . rw [if_pos h, if_pos ⟨h.2, h.1⟩]
    . rw [if_neg h, if_neg fun z => h ⟨z.2, z.1⟩]
theorem chi_xor : ∀ n a b c, chi n a (b ^^^ c) = chi n a b * chi n a c
  | 0, _, _, _ => rfl
  | n + 1, a, b, c => by
    show _ * chi n (a / 2) ((b ^^^ c) / 2) = (_ * chi n (a / 2) (b / 2)) * (_ * chi n (a / 2) (c / 2))
    rw [xor_half, chi_xor n]
    generalize chi n (a / 2) (b / 2) = x
    generalize chi n (a / 2) (c / 2) = y
    have e := (low3 b c).2.1
    have ha : a % 2 = 0 \/ a % 2 = 1 := by omega
    have hb : b % 2 = 0 \/ b % 2 = 1 := by omega
    have hc : c % 2 = 0 \/ c % 2 = 1 := by omega
    rw [e]
    rcases ha with ha | ha <;> rcases hb with hb | hb <;> rcases hc with hc | hc <;> rw [ha, hb, hc] <;> simp [Int.mul_neg, Int.neg_mul]
theorem chi_one : ∀ n a b, chi n a b = 1 \/ chi n a b = -1
  | 0, _, _ => .inl rfl
  | n + 1, a, b => by
    show _ * chi n (a / 2) (b / 2) = 1 \/ _ * chi n (a / 2) (b / 2) = -1
    rcases chi_one n (a / 2) (b / 2) with h | h <;> rw [h] <;> by_cases g : a % 2 = 1 /\ b % 2 = 1 <;> simp [g]
theorem chi_sq (n a b : Nat) : chi n a b * chi n a b = 1 := by
  rcases chi_one n a b with h | h <;> rw [h] <;> rfl
theorem chi_zero : ∀ n a, chi n a 0 = 1
  | 0, _ => rfl
  | n + 1, a => by
    show (if a % 2 = 1 /\ 0 % 2 = 1 then -1 else 1) * chi n (a / 2) (0 / 2) = 1
    rw [if_neg (by omega), Nat.zero_div, chi_zero n]; rfl
theorem chi_sum : ∀ n b, b < 2 ^ n -> sumTo (fun a => chi n a b) (2 ^ n) = if b = 0 then ((2 ^ n : Nat) : Int) else 0
  | 0, b, h => by
    have : b = 0 := by simpa using h
    subst this; rfl
  | n + 1, b, h => by
    rw [Nat.pow_succ, Nat.mul_comm, sumTo_two]
    have e : ∀ j, chi (n + 1) (2 * j) b + chi (n + 1) (2 * j + 1) b = (if b % 2 = 1 then 0 else 2) * chi n j (b / 2) := fun j => by
      show (if 2 * j % 2 = 1 /\ b % 2 = 1 then -1 else 1) * chi n (2 * j / 2) (b / 2) + (if (2 * j + 1) % 2 = 1 /\ b % 2 = 1 then -1 else 1) * chi n ((2 * j + 1) / 2) (b / 2) = _
      rw [show 2 * j / 2 = j by omega, show (2 * j + 1) / 2 = j by omega, if_neg (by omega)]
      by_cases hb : b % 2 = 1
      . rw [if_pos ⟨by omega, hb⟩, if_pos hb]; omega
      . rw [if_neg (fun z => hb z.2), if_neg hb]; omega
    rw [sumTo_congr (g := fun j => (if b % 2 = 1 then 0 else 2) * chi n j (b / 2)) fun j _ => e j, <- sumTo_mul, chi_sum n (b / 2) (by rw [Nat.pow_succ] at h; omega)]
    by_cases hb : b % 2 = 1
    . rw [if_pos hb, Int.zero_mul, if_neg (by omega)]
    . rw [if_neg hb]
      by_cases h0 : b = 0
      . subst h0; simp [Int.natCast_mul]
      . rw [if_neg (by omega), if_neg h0]; rfl
theorem xor_eq_zero {a b : Nat} : a ^^^ b = 0 ↔ a = b := by
  constructor
  . intro h
    have := congrArg (fun z => z ^^^ b) h
    simpa [Nat.xor_assoc] using this
  . intro h; subst h; exact Nat.xor_self a
def wt (n : Nat) (v : Nat -> Int) (s : Nat) : Int := sumTo (fun p => chi n s p * v p) (2 ^ n)
theorem wt_mul (n : Nat) (a b : Nat -> Int) : sumTo (fun s => wt n a s * wt n b s) (2 ^ n) = ((2 ^ n : Nat) : Int) * sumTo (fun x => a x * b x) (2 ^ n) := by
  have e1 : ∀ s, wt n a s * wt n b s = sumTo (fun x => sumTo (fun y => (a x * b y) * chi n s (x ^^^ y)) (2 ^ n)) (2 ^ n) := fun s => by
    unfold wt
    rw [sumTo_mulr]
    refine sumTo_congr fun x _ => ?_
    rw [sumTo_mul]
    refine sumTo_congr fun y _ => ?_
    rw [chi_xor]
    ac_rfl
  rw [sumTo_congr fun s _ => e1 s, sumTo_swap, sumTo_mul]
  refine sumTo_congr fun x hx => ?_
  rw [sumTo_swap]
  have e2 : ∀ y, y < 2 ^ n -> sumTo (fun s => a x * b y * chi n s (x ^^^ y)) (2 ^ n) = if x = y then ((2 ^ n : Nat) : Int) * (a x * b y) else 0 := fun y hy => by
    rw [<- sumTo_mul, chi_sum n _ (Nat.xor_lt_two_pow hx hy)]
    by_cases h : x = y
    . rw [if_pos (xor_eq_zero.mpr h), if_pos h, Int.mul_comm]
    . rw [if_neg (fun z => h (xor_eq_zero.mp z)), if_neg h, Int.mul_zero]
  rw [sumTo_congr e2, sumTo_pick (fun y => ((2 ^ n : Nat) : Int) * (a x * b y)), if_pos hx]
theorem sumTo_xor : ∀ (n : Nat) (f : Nat -> Int) (t : Nat), t < 2 ^ n -> sumTo (fun x => f (x ^^^ t)) (2 ^ n) = sumTo f (2 ^ n)
  | 0, f, t, h => by
    have : t = 0 := by simpa using h
    subst this
    exact sumTo_congr fun j _ => by rw [Nat.xor_zero]
  | n + 1, f, t, h => by
    rw [Nat.pow_succ, Nat.mul_comm, sumTo_two, sumTo_two]
    have ih := sumTo_xor n (fun j => f (2 * j) + f (2 * j + 1)) (t / 2) (by rw [Nat.pow_succ] at h; omega)
    rw [<- ih]
    refine sumTo_congr fun j _ => ?_
    have k1 := xor_half (2 * j) t
    have k2 := xor_half (2 * j + 1) t
    have l1 := (low3 (2 * j) t).2.1
    have l2 := (low3 (2 * j + 1) t).2.1
    rw [show 2 * j / 2 = j by omega] at k1
    rw [show (2 * j + 1) / 2 = j by omega] at k2
    have ht : t % 2 = 0 \/ t % 2 = 1 := by omega
    rcases ht with ht | ht
    . have e1 : 2 * j ^^^ t = 2 * (j ^^^ t / 2) := by omega
      have e2 : 2 * j + 1 ^^^ t = 2 * (j ^^^ t / 2) + 1 := by omega
      rw [e1, e2]
    . have e1 : 2 * j ^^^ t = 2 * (j ^^^ t / 2) + 1 := by omega
      have e2 : 2 * j + 1 ^^^ t = 2 * (j ^^^ t / 2) := by omega
      rw [e1, e2, Int.add_comm]
theorem wt_shift (n : Nat) (v : Nat -> Int) (s t : Nat) (ht : t < 2 ^ n) : chi n s t * wt n v s = wt n (fun x => v (x ^^^ t)) s := by
  unfold wt
  rw [<- sumTo_xor n (fun p => chi n s p * v p) t ht, sumTo_mul]
  refine sumTo_congr fun x _ => ?_
  rw [chi_xor, <- Int.mul_assoc, Int.mul_comm (chi n s x), <- Int.mul_assoc, chi_sq, Int.one_mul]
theorem wt_auto (n : Nat) (v : Nat -> Int) (t : Nat) (ht : t < 2 ^ n) : sumTo (fun s => chi n s t * (wt n v s * wt n v s)) (2 ^ n) = ((2 ^ n : Nat) : Int) * sumTo (fun x => v (x ^^^ t) * v x) (2 ^ n) := by
  rw [<- wt_mul n (fun x => v (x ^^^ t)) v]
  refine sumTo_congr fun s _ => ?_
  rw [<- Int.mul_assoc, wt_shift n v s t ht]
theorem wt_inv (n : Nat) (v : Nat -> Int) (p : Nat) (hp : p < 2 ^ n) : sumTo (fun s => chi n s p * wt n v s) (2 ^ n) = ((2 ^ n : Nat) : Int) * v p := by
  have e : sumTo (fun s => chi n s p * wt n v s) (2 ^ n) = sumTo (fun s => wt n (fun x => if p = x then 1 else 0) s * wt n v s) (2 ^ n) := sumTo_congr fun s _ => by
    congr 1
    unfold wt
    rw [sumTo_congr (g := fun y => if p = y then chi n s y else 0) fun y _ => by by_cases h : p = y <;> simp [h], sumTo_pick, if_pos hp]
  rw [e, wt_mul]
  congr 1
  rw [sumTo_congr (g := fun y => if p = y then v y else 0) fun y _ => by by_cases h : p = y <;> simp [h], sumTo_pick, if_pos hp]
theorem chi_top : ∀ {s b r c j : Nat}, r < 2 ^ s -> j < 2 ^ s -> b < 2 -> c < 2 -> chi (s + 1) (b * 2 ^ s + r) (c * 2 ^ s + j) = chi s r j * (if b = 1 /\ c = 1 then -1 else 1)
  | 0, b, r, c, j, hr, hj, hb, hc => by
    have r0 : r = 0 := by simpa using hr
    have j0 : j = 0 := by simpa using hj
    subst r0 j0
    have eb : b = 0 \/ b = 1 := by omega
    have ec : c = 0 \/ c = 1 := by omega
    rcases eb with rfl | rfl <;> rcases ec with rfl | rfl <;> rfl
  | s + 1, b, r, c, j, hr, hj, hb, hc => by
    have d1 : ∀ x : Nat, x * 2 ^ (s + 1) = 2 * (x * 2 ^ s) := fun x => by rw [Nat.pow_succ, Nat.mul_comm (2 ^ s), <- Nat.mul_assoc, Nat.mul_comm x 2, Nat.mul_assoc]
    have k1 : (b * 2 ^ (s + 1) + r) % 2 = r % 2 := by rw [d1]; omega
    have k2 : (c * 2 ^ (s + 1) + j) % 2 = j % 2 := by rw [d1]; omega
    have k3 : (b * 2 ^ (s + 1) + r) / 2 = b * 2 ^ s + r / 2 := by rw [d1]; omega
    have k4 : (c * 2 ^ (s + 1) + j) / 2 = c * 2 ^ s + j / 2 := by rw [d1]; omega
    have e1 : chi (s + 1 + 1) (b * 2 ^ (s + 1) + r) (c * 2 ^ (s + 1) + j) = (if r % 2 = 1 /\ j % 2 = 1 then -1 else 1) * chi (s + 1) (b * 2 ^ s + r / 2) (c * 2 ^ s + j / 2) := by
      show (if (b * 2 ^ (s + 1) + r) % 2 = 1 /\ (c * 2 ^ (s + 1) + j) % 2 = 1 then -1 else 1) * chi (s + 1) ((b * 2 ^ (s + 1) + r) / 2) ((c * 2 ^ (s + 1) + j) / 2) = _
      rw [k1, k2, k3, k4]
    rw [e1, chi_top (s := s) (by rw [Nat.pow_succ] at hr; omega) (by rw [Nat.pow_succ] at hj; omega) hb hc, <- Int.mul_assoc]
    rfl
def crossF (v : Nat -> Int) (s k : Nat) : Int := if k / s % 2 = 1 then v (k - s) - v k else v k + v (k + s)
def hadF (v : Nat -> Int) : Nat -> Nat -> Int
  | 0 => v
  | s + 1 => crossF (hadF v s) (2 ^ s)
def hs (v : Nat -> Int) (s k : Nat) : Int := sumTo (fun j => chi s (k % 2 ^ s) j * v (k / 2 ^ s * 2 ^ s + j)) (2 ^ s)
theorem hs_at {v : Nat -> Int} {s q r : Nat} (h : r < 2 ^ s) : hs v s (q * 2 ^ s + r) = sumTo (fun j => chi s r j * v (q * 2 ^ s + j)) (2 ^ s) := by
  unfold hs
  have e1 : (q * 2 ^ s + r) % 2 ^ s = r := by rw [Nat.mul_comm, Nat.mul_add_mod, Nat.mod_eq_of_lt h]
  have e2 : (q * 2 ^ s + r) / 2 ^ s = q := by rw [Nat.mul_comm, Nat.mul_add_div (Nat.two_pow_pos s), Nat.div_eq_of_lt h, Nat.add_zero]
  rw [e1, e2]
theorem had_step {v : Nat -> Int} {s : Nat} (q b r : Nat) (hr : r < 2 ^ s) (hb : b < 2) :
    crossF (hs v s) (2 ^ s) (q * 2 ^ (s + 1) + (b * 2 ^ s + r)) = hs v (s + 1) (q * 2 ^ (s + 1) + (b * 2 ^ s + r)) := by
  have hB : 2 ^ (s + 1) = 2 ^ s + 2 ^ s := by rw [Nat.pow_succ]; omega
  have hrr : b * 2 ^ s + r < 2 ^ (s + 1) := by
    rw [hB]
    have : b = 0 \/ b = 1 := by omega
    rcases this with e | e <;> subst e <;> omega
  rw [hs_at hrr, hB, sumTo_add]
  have low : ∀ j, j < 2 ^ s -> chi (s + 1) (b * 2 ^ s + r) j = chi s r j := fun j hj => by
    have := chi_top (c := 0) hr hj hb (by decide)
    rw [Nat.zero_mul, Nat.zero_add, if_neg (by omega), Int.mul_one] at this
    exact this
  have high : ∀ j, j < 2 ^ s -> chi (s + 1) (b * 2 ^ s + r) (2 ^ s + j) = chi s r j * (if b = 1 then -1 else 1) := fun j hj => by
    have := chi_top (c := 1) hr hj hb (by decide)
    rw [Nat.one_mul] at this
    rw [this]
    simp
  have e0 : q * (2 ^ s + 2 ^ s) + (b * 2 ^ s + r) = (2 * q + b) * 2 ^ s + r := by
    rw [Nat.add_mul, Nat.mul_comm 2 q, Nat.mul_assoc, Nat.two_mul]; omega
  have eq0 : q * (2 ^ s + 2 ^ s) = (2 * q) * 2 ^ s := by rw [Nat.mul_comm 2 q, Nat.mul_assoc, Nat.two_mul]
  have eq1 : q * (2 ^ s + 2 ^ s) + 2 ^ s = (2 * q + 1) * 2 ^ s := by rw [Nat.add_mul, Nat.one_mul, eq0]
  unfold crossF
  rw [e0]
  have et : ((2 * q + b) * 2 ^ s + r) / 2 ^ s % 2 = b := by
    rw [Nat.mul_comm, Nat.mul_add_div (Nat.two_pow_pos s), Nat.div_eq_of_lt hr]; omega
  rw [et]
  have : b = 0 \/ b = 1 := by omega
  rcases this with e | e <;> subst e
  . rw [if_neg (by decide)]
    have ek : (2 * q + 0) * 2 ^ s + r + 2 ^ s = (2 * q + 1) * 2 ^ s + r := by rw [Nat.add_zero, Nat.add_mul, Nat.one_mul]; omega
    rw [ek, hs_at hr, hs_at hr]
    congr 1
    . refine sumTo_congr fun j hj => ?_
      rw [low j hj, eq0]; rfl
    . refine sumTo_congr fun j hj => ?_
      show chi s r j * v ((2 * q + 1) * 2 ^ s + j) = chi (s + 1) (0 * 2 ^ s + r) (2 ^ s + j) * v (q * (2 ^ s + 2 ^ s) + (2 ^ s + j))
      rw [high j hj, if_neg (by decide), Int.mul_one, <- Nat.add_assoc, eq1]
  . rw [if_pos rfl]
    have ek : (2 * q + 1) * 2 ^ s + r - 2 ^ s = (2 * q) * 2 ^ s + r := by rw [Nat.add_mul, Nat.one_mul]; omega
    rw [ek, hs_at hr, hs_at hr, Int.sub_eq_add_neg]
    congr 1
    . refine sumTo_congr fun j hj => ?_
      rw [low j hj, eq0]
    . have neg : ∀ (f : Nat -> Int) n, - sumTo f n = sumTo (fun j => - f j) n := fun f n => by
        induction n with
        | zero => rfl
        | succ n ih => show -(sumTo f n + f n) = sumTo (fun j => - f j) n + - f n; rw [<- ih]; omega
      rw [neg]
      refine sumTo_congr fun j hj => ?_
      show -(chi s r j * v ((2 * q + 1) * 2 ^ s + j)) = chi (s + 1) (1 * 2 ^ s + r) (2 ^ s + j) * v (q * (2 ^ s + 2 ^ s) + (2 ^ s + j))
      rw [high j hj, if_pos rfl, <- Nat.add_assoc, eq1, Int.mul_neg, Int.mul_one, Int.neg_mul]
theorem split_k (s k : Nat) : ∃ q b r, k = q * 2 ^ (s + 1) + (b * 2 ^ s + r) /\ r < 2 ^ s /\ b < 2 := by
  refine ⟨k / 2 ^ s / 2, k / 2 ^ s % 2, k % 2 ^ s, ?_, Nat.mod_lt _ (Nat.two_pow_pos s), Nat.mod_lt _ (by decide)⟩
  have h1 := Nat.div_add_mod k (2 ^ s)
  have h2 := Nat.div_add_mod (k / 2 ^ s) 2
  rw [Nat.pow_succ]
  generalize k % 2 ^ s = r at *
  generalize hd : k / 2 ^ s = d at *
  rw [<- Nat.add_assoc, Nat.mul_comm (2 ^ s) 2, <- Nat.mul_assoc, <- Nat.add_mul, Nat.mul_comm (d / 2) 2, h2, Nat.mul_comm]
  exact h1.symm
theorem had_all (v : Nat -> Int) : ∀ s k, hadF v s k = hs v s k
  | 0, k => by
    show v k = sumTo (fun j => chi 0 (k % 2 ^ 0) j * v (k / 2 ^ 0 * 2 ^ 0 + j)) 1
    show v k = 0 + chi 0 (k % 2 ^ 0) 0 * v (k / 2 ^ 0 * 2 ^ 0 + 0)
    have : chi 0 (k % 2 ^ 0) 0 = 1 := rfl
    rw [this, Int.one_mul, Int.zero_add]
    simp
  | s + 1, k => by
    have e : hadF v s = hs v s := funext fun k => had_all v s k
    show crossF (hadF v s) (2 ^ s) k = _
    rw [e]
    obtain ⟨q, b, r, rfl, hr, hb⟩ := split_k s k
    exact had_step q b r hr hb
theorem had_end {v : Nat -> Int} {m k : Nat} (h : k < 2 ^ m) : hadF v m k = sumTo (fun j => chi m k j * v j) (2 ^ m) := by
  rw [had_all]
  have := hs_at (v := v) (s := m) (q := 0) h
  rw [Nat.zero_mul, Nat.zero_add] at this
  rw [this]
  refine sumTo_congr fun j _ => ?_
  rw [Nat.zero_add]
theorem had_wt {v : Nat -> Int} {m k : Nat} (h : k < 2 ^ m) : hadF v m k = wt m v k := had_end h
def manyF : Nat -> Nat -> Nat
  | 0, _ => 0
  | f + 1, x => x % 2 + manyF f (x / 2)
@[irreducible] def many (x : Nat) : Nat := manyF 64 x
theorem manyF_zero : ∀ f, manyF f 0 = 0
  | 0 => rfl
  | f + 1 => by
    show 0 % 2 + manyF f (0 / 2) = 0
    rw [Nat.zero_div, manyF_zero f]
theorem manyF_up : ∀ (f g x : Nat), x < 2 ^ f -> f <= g -> manyF g x = manyF f x
  | 0, g, x, h, _ => by
    have : x = 0 := by simpa using h
    subst this
    rw [manyF_zero, manyF_zero]
  | f + 1, 0, x, _, h => by omega
  | f + 1, g + 1, x, h, hg => by
    show x % 2 + manyF g (x / 2) = x % 2 + manyF f (x / 2)
    rw [manyF_up f g (x / 2) (by rw [Nat.pow_succ] at h; omega) (by omega)]
theorem many_of {n x : Nat} (h : x < 2 ^ n) (hn : n <= 64) : many x = manyF n x := by
  unfold many
  exact manyF_up n 64 x h hn
theorem manyF_le : ∀ n x, manyF n x <= n
  | 0, _ => Nat.le_refl _
  | n + 1, x => by
    show x % 2 + manyF n (x / 2) <= n + 1
    have := manyF_le n (x / 2)
    omega
def ixL (g : Nat -> Int) (M : Nat) : List V := (List.range M).map fun i => V.int (g i)
theorem ixL_len {g : Nat -> Int} {M : Nat} : (ixL g M).length = M := by unfold ixL; simp
theorem ixL_get {g : Nat -> Int} {M k : Nat} (h : k < M) : (ixL g M)[k]? = some (.int (g k)) := by unfold ixL; rw [List.getElem?_map, List.getElem?_range h]; rfl
theorem ixL_at {g : Nat -> Int} {M k : Nat} (h : k < M) : atI (ixL g M) (k : Int) = some (.int (g k)) := atI_of rfl (ixL_get h)
theorem ixL_take {g : Nat -> Int} {M i : Nat} (h : i < M) : (ixL g M).take (i + 1) = (ixL g M).take i ++ [V.int (g i)] := by
  rw [List.take_add_one, ixL_get h]; rfl
theorem ixL_succ (g : Nat -> Int) (M : Nat) : ixL g (M + 1) = ixL g M ++ [V.int (g M)] := by unfold ixL; rw [List.range_succ, List.map_append]; rfl
theorem ixL_congr {f g : Nat -> Int} {M : Nat} (h : ∀ k, k < M -> f k = g k) : ixL f M = ixL g M := by
  unfold ixL
  exact List.map_congr_left fun k hk => by rw [h k (List.mem_range.mp hk)]
theorem ixL_set {g : Nat -> Int} {M i : Nat} {z : Int} : (ixL g M).set i (.int z) = ixL (fun k => if k = i then z else g k) M := by
  refine List.ext_getElem? fun k => ?_
  rw [List.getElem?_set, ixL_len]
  by_cases hk : k < M
  . rw [ixL_get hk]
    by_cases e : i = k
    . subst e; rw [if_pos rfl, if_pos hk, ixL_get hk, if_pos rfl]
    . rw [if_neg e, ixL_get hk, if_neg (Ne.symm e)]
  . have n1 : (ixL g M)[k]? = none := List.getElem?_eq_none (by rw [ixL_len]; omega)
    have n2 : (ixL (fun k => if k = i then z else g k) M)[k]? = none := List.getElem?_eq_none (by rw [ixL_len]; omega)
    rw [n1, n2]
    split
    . split
      . omega
      . rfl
    . rfl
def valB (b : Bool) : Int := if b = true then -1 else 1
def valF (bs : List Bool) (p : Nat) : Int := valB (bs.getD p false)
def termG (g : Nat -> Int) : Nat -> List (Nat × Int)
  | 0 => []
  | i + 1 => termG g i ++ (if g i = 0 then [] else [(i, g i)])
theorem termG_congr {f g : Nat -> Int} : ∀ {n : Nat}, (∀ j, j < n -> f j = g j) -> termG f n = termG g n
  | 0, _ => rfl
  | n + 1, h => by
    show termG f n ++ (if f n = 0 then [] else [(n, f n)]) = termG g n ++ (if g n = 0 then [] else [(n, g n)])
    rw [termG_congr fun j hj => h j (Nat.lt_succ_of_lt hj), h n (Nat.lt_succ_self n)]
theorem termG_len (g : Nat -> Int) : ∀ n, (termG g n).length <= n
  | 0 => Nat.le_refl _
  | n + 1 => by
    unfold termG
    rw [List.length_append]
    have := termG_len g n
    split
    . rw [List.length_nil]; omega
    . rw [List.length_singleton]; omega
theorem termG_mem {g : Nat -> Int} : ∀ {n : Nat} {q : Nat × Int}, q ∈ termG g n -> q.1 < n /\ q.2 = g q.1 /\ q.2 ≠ 0
  | 0, q, h => by cases h
  | n + 1, q, h => by
    rcases List.mem_append.mp h with h | h
    . have := termG_mem h; exact ⟨by omega, this.2⟩
    . split at h
      . cases h
      . rename_i hn
        rw [List.mem_singleton.mp h]
        exact ⟨Nat.lt_succ_self n, rfl, hn⟩
def termD (q : Nat × Int) : Dv := .tup [.int q.1, .int q.2]
def sumD (m : Nat) (ts : List (Nat × Int)) : Dv := .tup [.int m, .tup (ts.map termD)]
structure SumAt (K : PySem.W.Frag) (H : Hp) (v : V) (m : Nat) (ts : List (Nat × Int)) : Prop where
  at_ : ∃ (a b : Addr) (vs : List V), v = .ref a /\ SqT K H a [.int m, .ref b] /\ SqT K H b vs /\ Reps K H (ts.map termD) vs
theorem SumAt.of {K : PySem.W.Frag} {H : Hp} {v : V} {m : Nat} {ts : List (Nat × Int)} (h : Rep K H (sumD m ts) v) : SumAt K H v m ts := by
  unfold sumD Rep at h
  obtain ⟨a, xs, rfl, ha, hr⟩ := h
  unfold Reps at hr
  obtain ⟨x, r, rfl, h1, hr⟩ := hr
  unfold Rep at h1; subst h1
  unfold Reps at hr
  obtain ⟨x, r, rfl, h2, hr⟩ := hr
  unfold Reps at hr; subst hr
  unfold Rep at h2
  obtain ⟨b, vs, rfl, hb, hr⟩ := h2
  exact ⟨a, b, vs, rfl, ha, hb, hr⟩
theorem SumAt.rep {K : PySem.W.Frag} {H : Hp} {v : V} {m : Nat} {ts : List (Nat × Int)} (h : SumAt K H v m ts) : Rep K H (sumD m ts) v := by
  obtain ⟨a, b, vs, rfl, ha, hb, hr⟩ := h.at_
  unfold sumD Rep
  refine ⟨a, _, rfl, ha, reps_cons rep_int (reps_cons ?_ reps_nil)⟩
  unfold Rep
  exact ⟨b, vs, rfl, hb, hr⟩
theorem SumAt.same {K : PySem.W.Frag} {H H' : Hp} {v : V} {m : Nat} {ts : List (Nat × Int)} (h : SumAt K H v m ts) (s : Same H H') : SumAt K H' v m ts := .of (Rep.same s _ _ h.rep)
theorem reps_terms_at {K : PySem.W.Frag} {H : Hp} {ts : List (Nat × Int)} {vs : List V} {i : Nat} {v : V} (h : Reps K H (ts.map termD) vs) (e : vs[i]? = some v) : ∃ q c, ts[i]? = some q /\ v = .ref c /\ SqT K H c [.int q.1, .int q.2] := by
  have hl := h.length
  have hi : i < ts.length := by
    have := (List.getElem?_eq_some_iff.mp e).1
    rw [List.length_map] at hl; omega
  have e1 : (ts.map termD)[i]? = some (termD ts[i]) := by rw [List.getElem?_map, List.getElem?_eq_getElem hi]; rfl
  obtain ⟨x, e2, hx⟩ := h.get e1
  rw [e] at e2
  cases e2
  unfold termD Rep at hx
  obtain ⟨c, xs, rfl, hc, hr⟩ := hx
  unfold Reps at hr
  obtain ⟨x, r, rfl, h1, hr⟩ := hr
  unfold Rep at h1; subst h1
  unfold Reps at hr
  obtain ⟨x, r, rfl, h2, hr⟩ := hr
  unfold Rep at h2; subst h2
  unfold Reps at hr; subst hr
  exact ⟨ts[i], c, List.getElem?_eq_getElem hi, rfl, hc⟩
theorem cross_in : ∀ m < 7, ∀ s < m, ∀ k < 2 ^ m, k / 2 ^ s % 2 ≠ 1 -> k + 2 ^ s < 2 ^ m := by decide +kernel
def gB (bs : List Bool) (i : Nat) : Bool := bs.getD i false
def matF (bs : List Bool) (s i : Nat) : Bool := gB bs (i ^^^ s) != gB bs i
def matL (bs : List Bool) (s n : Nat) : List Nat := (List.range n).filter (matF bs s)
theorem matL_succ (bs : List Bool) (s n : Nat) : matL bs s (n + 1) = matL bs s n ++ (if matF bs s n = true then [n] else []) := by
  unfold matL
  rw [List.range_succ, List.filter_append]
  congr 1
  by_cases h : matF bs s n = true
  . rw [if_pos h, List.filter_cons_of_pos h]; rfl
  . rw [if_neg h, List.filter_cons_of_neg h]; rfl
theorem gB_get {bs : List Bool} {i : Nat} (h : i < bs.length) : gB bs i = bs[i] := by unfold gB; rw [List.getD_eq_getElem?_getD, List.getElem?_eq_getElem h]; rfl
theorem gB_at {bs : List Bool} {i : Nat} (h : i < bs.length) : atI (bs.map V.bl) ((i : Nat) : Int) = some (.bl (gB bs i)) := by
  rw [gB_get h]
  exact atI_of rfl (by rw [List.getElem?_map, List.getElem?_eq_getElem h]; rfl)
theorem val_prod (bs : List Bool) (s i : Nat) : valF bs (i ^^^ s) * valF bs i = 1 - 2 * (if matF bs s i = true then 1 else 0) := by
  unfold valF matF gB valB
  cases bs.getD (i ^^^ s) false <;> cases bs.getD i false <;> decide
theorem mat_sum (bs : List Bool) (s : Nat) : ∀ n, sumTo (fun i => valF bs (i ^^^ s) * valF bs i) n = (n : Int) - 2 * ((matL bs s n).length : Int)
  | 0 => rfl
  | n + 1 => by
    show sumTo _ n + valF bs (n ^^^ s) * valF bs n = _
    rw [mat_sum bs s n, val_prod, matL_succ, List.length_append]
    by_cases h : matF bs s n = true
    . rw [if_pos h, if_pos h, List.length_singleton]; omega
    . rw [if_neg h, if_neg h, List.length_nil]; omega
theorem mat_zero (bs : List Bool) : ∀ n, matL bs 0 n = []
  | 0 => rfl
  | n + 1 => by
    rw [matL_succ, mat_zero bs n, if_neg]
    . rfl
    . unfold matF; rw [Nat.xor_zero]; simp
def oddSq (m : Nat) (g : Nat -> Int) (t : Nat) : Int := sumTo (fun s => if chi m s t = -1 then g s * g s else 0) (2 ^ m)
theorem odd_squares (m : Nat) (bs : List Bool) (t : Nat) (ht : t < 2 ^ m) : oddSq m (wt m (valF bs)) t = ((2 ^ m : Nat) : Int) * ((matL bs t (2 ^ m)).length : Int) := by
  have a1 := wt_auto m (valF bs) t ht
  have a0 := wt_auto m (valF bs) 0 (Nat.two_pow_pos m)
  rw [mat_sum] at a1 a0
  rw [mat_zero] at a0
  have e : ∀ s, (if chi m s t = -1 then wt m (valF bs) s * wt m (valF bs) s else 0) * 2 = chi m s 0 * (wt m (valF bs) s * wt m (valF bs) s) - chi m s t * (wt m (valF bs) s * wt m (valF bs) s) := fun s => by
    rw [chi_zero]
    rcases chi_one m s t with h | h
    . rw [h, if_neg (by decide)]; omega
    . rw [h, if_pos rfl]; omega
  have k : oddSq m (wt m (valF bs)) t * 2 = ((2 ^ m : Nat) : Int) * (((2 ^ m : Nat) : Int) - 2 * (([] : List Nat).length : Int)) - ((2 ^ m : Nat) : Int) * (((2 ^ m : Nat) : Int) - 2 * ((matL bs t (2 ^ m)).length : Int)) := by
    unfold oddSq
    rw [sumTo_mulr, sumTo_congr fun s _ => e s, <- sumTo_minus, a0, a1]
  have z : ((([] : List Nat).length : Nat) : Int) = 0 := rfl
  rw [z, Int.mul_zero, Int.sub_zero, Int.mul_sub] at k
  have k2 : ((2 ^ m : Nat) : Int) * (2 * ((matL bs t (2 ^ m)).length : Int)) = 2 * (((2 ^ m : Nat) : Int) * ((matL bs t (2 ^ m)).length : Int)) := by ac_rfl
  rw [k2] at k
  generalize ((2 ^ m : Nat) : Int) * ((matL bs t (2 ^ m)).length : Int) = y at *
  generalize ((2 ^ m : Nat) : Int) * ((2 ^ m : Nat) : Int) = u at *
  generalize oddSq m (wt m (valF bs)) t = x at *
  omega
theorem sum_bound {f : Nat -> Int} : ∀ {n : Nat}, (∀ j, j < n -> f j = 1 \/ f j = -1) -> -(n : Int) <= sumTo f n /\ sumTo f n <= n
  | 0, _ => ⟨Int.le_refl _, Int.le_refl _⟩
  | n + 1, h => by
    have i := sum_bound fun j hj => h j (Nat.lt_succ_of_lt hj)
    show -((n + 1 : Nat) : Int) <= sumTo f n + f n /\ sumTo f n + f n <= ((n + 1 : Nat) : Int)
    rcases h n (Nat.lt_succ_self n) with e | e <;> rw [e] <;> omega
theorem wt_bound (m : Nat) (bs : List Bool) (s : Nat) : -((2 ^ m : Nat) : Int) <= wt m (valF bs) s /\ wt m (valF bs) s <= ((2 ^ m : Nat) : Int) := by
  unfold wt
  refine sum_bound fun j _ => ?_
  rcases chi_one m s j with h | h <;> rw [h] <;> unfold valF valB <;> cases bs.getD j false <;> decide
def Light (g : Nat -> Int) : Prop := ∀ k, -64 <= g k /\ g k <= 64
theorem wt_light {m : Nat} (m6 : m <= 6) (bs : List Bool) : Light (wt m (valF bs)) := fun k => by
  have := wt_bound m bs k
  have h64 : 2 ^ m <= 64 := Nat.pow_le_pow_right (n := 2) (by decide) m6
  omega
theorem sumTo_range {f : Nat -> Int} {B : Int} : ∀ {n : Nat}, (∀ j, j < n -> 0 <= f j /\ f j <= B) -> 0 <= sumTo f n /\ sumTo f n <= n * B
  | 0, _ => by show (0 : Int) <= 0 /\ (0 : Int) <= ((0 : Nat) : Int) * B; simp
  | n + 1, h => by
    have i := sumTo_range fun j hj => h j (Nat.lt_succ_of_lt hj)
    have k := h n (Nat.lt_succ_self n)
    show 0 <= sumTo f n + f n /\ sumTo f n + f n <= ((n + 1 : Nat) : Int) * B
    rw [Int.natCast_add, Int.add_mul]
    have : ((1 : Nat) : Int) * B = B := by simp
    omega
theorem tups_T : ∀ ts : List (Nat × Int), tupsOnly (ts.map termD) = true
  | [] => by unfold tupsOnly; rfl
  | q :: ts => by
    rw [List.map_cons]
    unfold tupsOnly
    rw [tups_T ts]
    unfold termD tupOnly tupsOnly tupOnly tupsOnly tupOnly tupsOnly
    rfl
theorem Feed.lst {H : Hp} {t : Addr} (F : Feed H t) : ∃ zs, H t = some (.lst zs) := by
  obtain ⟨a, b, k, c, _, h⟩ := F.at_
  exact ⟨_, h⟩
theorem chi_bit : ∀ (m i s : Nat), i < m -> (chi m s (2 ^ i) = -1 ↔ s.testBit i = true)
  | 0, _, _, h => by omega
  | m + 1, 0, s, _ => by
    show (if s % 2 = 1 /\ 2 ^ 0 % 2 = 1 then -1 else 1) * chi m (s / 2) (2 ^ 0 / 2) = -1 ↔ _
    rw [show (2 : Nat) ^ 0 / 2 = 0 from rfl, chi_zero, Int.mul_one, Nat.testBit_zero, decide_eq_true_eq]
    by_cases h : s % 2 = 1
    . rw [if_pos ⟨h, rfl⟩]; exact ⟨fun _ => h, fun _ => rfl⟩
    . rw [if_neg (fun z => h z.1)]; exact ⟨fun z => by omega, fun z => absurd z h⟩
  | m + 1, i + 1, s, h => by
    show (if s % 2 = 1 /\ 2 ^ (i + 1) % 2 = 1 then -1 else 1) * chi m (s / 2) (2 ^ (i + 1) / 2) = -1 ↔ _
    rw [if_neg (fun z => by have := z.2; rw [Nat.pow_succ] at this; omega), Int.one_mul, Nat.pow_succ, Nat.mul_div_cancel _ (by decide), Nat.testBit_succ]
    exact chi_bit m i (s / 2) (by omega)
def orL : Nat -> List (Nat × Int) -> Nat
  | a, [] => a
  | a, q :: ts => orL (a ||| q.1) ts
theorem orL_app : ∀ (xs ys : List (Nat × Int)) (a : Nat), orL a (xs ++ ys) = orL (orL a xs) ys
  | [], _, _ => rfl
  | x :: xs, ys, a => by show orL (a ||| x.1) (xs ++ ys) = _; rw [orL_app xs ys]; rfl
theorem orL_take {ts : List (Nat × Int)} {i : Nat} {q : Nat × Int} (h : ts[i]? = some q) : orL 0 (ts.take (i + 1)) = orL 0 (ts.take i) ||| q.1 := by
  rw [List.take_add_one, h, orL_app]; rfl
theorem orL_bit (j : Nat) : ∀ (ts : List (Nat × Int)) (a : Nat), (orL a ts).testBit j = (a.testBit j || ts.any fun q => q.1.testBit j)
  | [], a => by simp [orL]
  | q :: ts, a => by
    show (orL (a ||| q.1) ts).testBit j = _
    rw [orL_bit j ts, Nat.testBit_or, List.any_cons, Bool.or_assoc]
def hungTo (c : Nat -> Nat) : Nat -> Nat
  | 0 => 0
  | i + 1 => if 0 < c i then hungTo c i + 2 ^ i else hungTo c i
theorem hungTo_lt (c : Nat -> Nat) : ∀ i, hungTo c i < 2 ^ i
  | 0 => by show 0 < 1; omega
  | i + 1 => by
    have := hungTo_lt c i
    unfold hungTo
    rw [Nat.pow_succ]
    split <;> omega
theorem hungTo_bit (c : Nat -> Nat) (j : Nat) : ∀ n, (hungTo c n).testBit j = (decide (j < n) && decide (0 < c j))
  | 0 => by simp [hungTo]
  | n + 1 => by
    have hl := hungTo_lt c n
    unfold hungTo
    by_cases h : 0 < c n
    . rw [if_pos h, Nat.add_comm]
      by_cases e : j = n
      . subst e
        rw [Nat.testBit_two_pow_add_eq, Nat.testBit_lt_two_pow hl]
        simp [h]
      . by_cases l : j < n
        . rw [Nat.testBit_two_pow_add_gt l, hungTo_bit c j n]
          simp [l, Nat.lt_succ_of_lt l]
        . have : 2 ^ n + hungTo c n < 2 ^ j := by
            have : 2 ^ (n + 1) <= 2 ^ j := Nat.pow_le_pow_right (by decide) (by omega)
            rw [Nat.pow_succ] at this
            omega
          rw [Nat.testBit_lt_two_pow this]
          have : ¬ j < n + 1 := by omega
          simp [this]
    . rw [if_neg h, hungTo_bit c j n]
      by_cases e : j = n
      . subst e; simp [h]
      . have : (j < n + 1) = (j < n) := propext ⟨fun z => by omega, fun z => by omega⟩
        simp only [this]
theorem sumTo_pos {f : Nat -> Int} : ∀ {n : Nat}, (∀ j, j < n -> 0 <= f j) -> (0 < sumTo f n ↔ ∃ j, j < n /\ 0 < f j)
  | 0, _ => ⟨fun z => absurd z (by show ¬ (0 : Int) < 0; omega), fun ⟨j, h, _⟩ => by omega⟩
  | n + 1, h => by
    have i := sumTo_pos fun j hj => h j (Nat.lt_succ_of_lt hj)
    have z := sumTo_range (f := fun j => -(-(f j))) (n := n) (B := sumTo f n) 
    have nn : 0 <= sumTo f n := by
      by_cases c : 0 < sumTo f n
      . omega
      . have : ∀ k, k <= n -> 0 <= sumTo f k := fun k => by
          induction k with
          | zero => intro _; exact Int.le_refl _
          | succ k ih =>
            intro hk
            have := ih (by omega)
            have := h k (by omega)
            show 0 <= sumTo f k + f k
            omega
        exact this n (Nat.le_refl _)
    have fn := h n (Nat.lt_succ_self n)
    show 0 < sumTo f n + f n ↔ _
    constructor
    . intro hh
      by_cases c : 0 < f n
      . exact ⟨n, Nat.lt_succ_self n, c⟩
      . obtain ⟨j, hj, hp⟩ := i.mp (by omega)
        exact ⟨j, by omega, hp⟩
    . rintro ⟨j, hj, hp⟩
      by_cases e : j = n
      . subst e; omega
      . have := i.mpr ⟨j, by omega, hp⟩
        omega
theorem sq_nonneg (a : Int) : 0 <= a * a := by
  rw [show a * a = ((a.natAbs * a.natAbs : Nat) : Int) by rw [Int.natCast_mul, Int.natAbs_mul_self' a]]
  omega
theorem sq_pos {a : Int} : 0 < a * a ↔ a ≠ 0 := by
  have := sq_nonneg a
  constructor
  . intro h z; subst z; simp at h
  . intro h
    have : a * a ≠ 0 := Int.mul_ne_zero h h
    omega
def cntS (bs : List Bool) (m i : Nat) : Nat := (matL bs (2 ^ i) (2 ^ m)).length
theorem cnt_pos {m i : Nat} (bs : List Bool) (h : i < m) : 0 < cntS bs m i ↔ ∃ s, s < 2 ^ m /\ wt m (valF bs) s ≠ 0 /\ s.testBit i = true := by
  have o := odd_squares m bs (2 ^ i) (Nat.pow_lt_pow_right (by decide) h)
  have p := sumTo_pos (f := fun s => if chi m s (2 ^ i) = -1 then wt m (valF bs) s * wt m (valF bs) s else 0) (n := 2 ^ m) fun j _ => by
    show 0 <= (if chi m j (2 ^ i) = -1 then wt m (valF bs) j * wt m (valF bs) j else 0)
    split
    . exact sq_nonneg _
    . exact Int.le_refl _
  have hM : 0 < ((2 ^ m : Nat) : Int) := by have := Nat.two_pow_pos m; omega
  have e : 0 < cntS bs m i ↔ 0 < oddSq m (wt m (valF bs)) (2 ^ i) := by
    rw [o]
    unfold cntS
    constructor
    . intro z; exact Int.mul_pos hM (by omega)
    . intro z
      rcases Nat.eq_zero_or_pos (matL bs (2 ^ i) (2 ^ m)).length with h0 | h0
      . rw [h0] at z; simp at z
      . exact h0
  rw [e]
  unfold oddSq
  rw [p]
  constructor
  . rintro ⟨s, hs, hp⟩
    split at hp
    . rename_i hc
      exact ⟨s, hs, sq_pos.mp hp, (chi_bit m i s h).mp hc⟩
    . omega
  . rintro ⟨s, hs, hw, hb⟩
    refine ⟨s, hs, ?_⟩
    rw [if_pos ((chi_bit m i s h).mpr hb)]
    exact sq_pos.mpr hw
theorem termG_has {g : Nat -> Int} : ∀ {n s : Nat}, s < n -> g s ≠ 0 -> (s, g s) ∈ termG g n
  | 0, s, h, _ => by omega
  | n + 1, s, h, hg => by
    show (s, g s) ∈ termG g n ++ _
    by_cases e : s = n
    . subst e
      rw [if_neg hg]
      exact List.mem_append_right _ (List.mem_singleton.mpr rfl)
    . exact List.mem_append_left _ (termG_has (by omega) hg)
theorem hang_eq (m : Nat) (bs : List Bool) : orL 0 (termG (wt m (valF bs)) (2 ^ m)) = hungTo (cntS bs m) m := by
  refine Nat.eq_of_testBit_eq fun i => ?_
  rw [orL_bit, hungTo_bit, Nat.zero_testBit, Bool.false_or, Bool.eq_iff_iff]
  simp only [List.any_eq_true, Bool.and_eq_true, decide_eq_true_eq]
  constructor
  . rintro ⟨q, hq, hb⟩
    obtain ⟨h1, h2, h3⟩ := termG_mem hq
    have hi : i < m := by
      rcases Nat.lt_or_ge i m with z | z
      . exact z
      . have : q.1 < 2 ^ i := Nat.lt_of_lt_of_le h1 (Nat.pow_le_pow_right (by decide) z)
        rw [Nat.testBit_lt_two_pow this] at hb
        cases hb
    exact ⟨hi, (cnt_pos bs hi).mpr ⟨q.1, h1, by rw [<- h2]; exact h3, hb⟩⟩
  . rintro ⟨hi, hc⟩
    obtain ⟨s, hs, hw, hb⟩ := (cnt_pos bs hi).mp hc
    exact ⟨_, termG_has hs hw, hb⟩
section
variable {X : Cx} {K : PySem.W.Frag}
end
def Nb (x : Int) (k : Nat) : Prop := x.natAbs < 2 ^ k
theorem Nb.mul {x y : Int} {a b : Nat} (hx : Nb x a) (hy : Nb y b) : Nb (x * y) (a + b) := by
  unfold Nb at *
  rw [Int.natAbs_mul, Nat.pow_add]
  exact Nat.mul_lt_mul'' hx hy
theorem Nb.up {x : Int} {a b : Nat} (hx : Nb x a) (h : a <= b) : Nb x b := Nat.lt_of_lt_of_le hx (Nat.pow_le_pow_right (by decide) h)
theorem Nb.pow {x : Int} {a : Nat} (hx : Nb x a) : ∀ i, Nb (x ^ i) (a * i + 1)
  | 0 => by unfold Nb; rw [Int.pow_zero]; show 1 < 2 ^ (a * 0 + 1); rw [Nat.mul_zero]; decide
  | i + 1 => by
    rw [Int.pow_succ]
    have := (hx.pow i).mul hx
    rw [show a * (i + 1) + 1 = a * i + 1 + a by rw [Nat.mul_succ]; omega]
    exact this
theorem Nb.okMul {x y : Int} (hx : Nb x 4000) (hy : Nb y 4000) : okMul x y := .inl ⟨hx.up (by decide), hy.up (by decide)⟩
def setT : List (Nat × Int) -> (Nat -> Int) -> Nat -> Int
  | [], f => f
  | q :: ts, f => setT ts fun j => if j = q.1 then q.2 else f j
theorem setT_app : ∀ (xs ys : List (Nat × Int)) (f : Nat -> Int), setT (xs ++ ys) f = setT ys (setT xs f)
  | [], _, _ => rfl
  | x :: xs, ys, f => setT_app xs ys _
theorem setT_take {ts : List (Nat × Int)} {i : Nat} {q : Nat × Int} {f : Nat -> Int} (h : ts[i]? = some q) : setT (ts.take (i + 1)) f = fun j => if j = q.1 then q.2 else setT (ts.take i) f j := by
  rw [List.take_add_one, h, setT_app]
  rfl
theorem setT_termG (g : Nat -> Int) : ∀ (n j : Nat), setT (termG g n) (fun _ => 0) j = if j < n then g j else 0
  | 0, j => by simp [termG, setT]
  | n + 1, j => by
    show setT (termG g n ++ (if g n = 0 then [] else [(n, g n)])) (fun _ => 0) j = _
    rw [setT_app]
    by_cases h : g n = 0
    . rw [if_pos h]
      show setT (termG g n) (fun _ => 0) j = _
      rw [setT_termG g n j]
      by_cases e : j = n
      . subst e; rw [if_neg (by omega), if_pos (by omega), h]
      . by_cases l : j < n
        . rw [if_pos l, if_pos (by omega)]
        . rw [if_neg l, if_neg (by omega)]
    . rw [if_neg h]
      show (if j = n then g n else setT (termG g n) (fun _ => 0) j) = _
      by_cases e : j = n
      . subst e; rw [if_pos rfl, if_pos (by omega)]
      . rw [if_neg e, setT_termG g n j]
        by_cases l : j < n
        . rw [if_pos l, if_pos (by omega)]
        . rw [if_neg l, if_neg (by omega)]
def newL (H : Hp) (Q : VK) (xs : List V) : Prop := ∀ p H', H p = none -> Same H H' -> H' p = some (.lst xs) -> Q (.ref p) H'
theorem newL_mono {H : Hp} {Q Q' : VK} {xs : List V} (h : ∀ v H, Q v H -> Q' v H) (q : newL H Q xs) : newL H Q' xs := fun p H' a b c => h _ _ (q p H' a b c)
theorem repZ (n : Nat) : (List.replicate n [V.int 0]).flatten = ixL (fun _ => 0) n := by
  induction n with
  | zero => rfl
  | succ n ih => rw [List.replicate_succ', List.flatten_append, ih, ixL_succ]; rfl
theorem wt_wt (m : Nat) (v : Nat -> Int) (p : Nat) (hp : p < 2 ^ m) : wt m (wt m v) p = ((2 ^ m : Nat) : Int) * v p := by
  rw [<- wt_inv m v p hp]
  show sumTo (fun s => chi m p s * wt m v s) (2 ^ m) = _
  exact sumTo_congr fun s _ => by rw [chi_comm]
def inF (g : Nat -> Int) (o s : Nat) : Int := if s &&& o = s then g s else 0
theorem bl_list (f : Nat -> Bool) (n : Nat) : ((List.range (n + 1)).map f).map V.bl = ((List.range n).map f).map V.bl ++ [V.bl (f n)] := by
  rw [List.range_succ, List.map_append, List.map_append]; rfl
theorem map_get (bs : List Bool) : (List.range bs.length).map (fun i => bs.getD i false) = bs := by
  refine List.ext_getElem? fun k => ?_
  rw [List.getElem?_map]
  by_cases h : k < bs.length
  . rw [List.getElem?_range h, List.getElem?_eq_getElem h]
    simp [List.getD_eq_getElem?_getD, List.getElem?_eq_getElem h]
  . rw [List.getElem?_eq_none (by rw [List.length_range]; omega), List.getElem?_eq_none (by omega)]; rfl
theorem and_eq_half (s o : Nat) : s &&& o = s ↔ (s % 2 = 1 -> o % 2 = 1) /\ s / 2 &&& o / 2 = s / 2 := by
  have h1 := and_half s o
  have h2 := (low3 s o).1
  have hs : s % 2 = 0 \/ s % 2 = 1 := by omega
  have ho : o % 2 = 0 \/ o % 2 = 1 := by omega
  constructor
  . intro e
    rw [e] at h1 h2
    refine ⟨fun z => ?_, h1.symm⟩
    rcases ho with ho | ho
    . rw [ho, Nat.mul_zero] at h2; omega
    . exact ho
  . rintro ⟨a, b⟩
    rw [b] at h1
    rcases hs with hs | hs
    . rw [hs, Nat.zero_mul] at h2; omega
    . rw [hs, a hs] at h2; omega
theorem and_zero_half (x o : Nat) : x &&& o = 0 ↔ ¬ (x % 2 = 1 /\ o % 2 = 1) /\ x / 2 &&& o / 2 = 0 := by
  have h1 := and_half x o
  have h2 := (low3 x o).1
  have hs : x % 2 = 0 \/ x % 2 = 1 := by omega
  have ho : o % 2 = 0 \/ o % 2 = 1 := by omega
  constructor
  . intro e
    rw [e] at h1 h2
    refine ⟨fun ⟨a, b⟩ => ?_, by rw [<- h1]⟩
    rw [a, b] at h2; omega
  . rintro ⟨a, b⟩
    rw [b] at h1
    rcases hs with hs | hs
    . rw [hs, Nat.zero_mul] at h2; omega
    . rcases ho with ho | ho
      . rw [ho, Nat.mul_zero] at h2; omega
      . exact absurd ⟨hs, ho⟩ a
theorem chi_in : ∀ (m o x : Nat), o < 2 ^ m -> sumTo (fun s => if s &&& o = s then chi m s x else 0) (2 ^ m) = if x &&& o = 0 then ((2 ^ manyF m o : Nat) : Int) else 0
  | 0, o, x, h => by
    have : o = 0 := by simpa using h
    subst this
    simp [sumTo, chi, manyF]
  | m + 1, o, x, h => by
    have hp : 2 ^ (m + 1) = 2 * 2 ^ m := by rw [Nat.pow_succ, Nat.mul_comm]
    rw [hp, sumTo_two]
    have e : ∀ j, (if 2 * j &&& o = 2 * j then chi (m + 1) (2 * j) x else 0) + (if 2 * j + 1 &&& o = 2 * j + 1 then chi (m + 1) (2 * j + 1) x else 0) = (if o % 2 = 1 then (if x % 2 = 1 then 0 else 2) else 1) * (if j &&& o / 2 = j then chi m j (x / 2) else 0) := fun j => by
      have a1 := and_eq_half (2 * j) o
      have a2 := and_eq_half (2 * j + 1) o
      rw [show 2 * j / 2 = j by omega] at a1
      rw [show (2 * j + 1) / 2 = j by omega] at a2
      have c1 : chi (m + 1) (2 * j) x = chi m j (x / 2) := by
        show (if 2 * j % 2 = 1 /\ x % 2 = 1 then -1 else 1) * chi m (2 * j / 2) (x / 2) = _
        rw [if_neg (by omega), show 2 * j / 2 = j by omega, Int.one_mul]
      have c2 : chi (m + 1) (2 * j + 1) x = (if x % 2 = 1 then -1 else 1) * chi m j (x / 2) := by
        show (if (2 * j + 1) % 2 = 1 /\ x % 2 = 1 then -1 else 1) * chi m ((2 * j + 1) / 2) (x / 2) = _
        rw [show (2 * j + 1) / 2 = j by omega]
        by_cases hx : x % 2 = 1
        . rw [if_pos ⟨by omega, hx⟩, if_pos hx]
        . rw [if_neg (fun z => hx z.2), if_neg hx]
      rw [c1, c2]
      by_cases hj : j &&& o / 2 = j
      . rw [if_pos hj, if_pos (a1.mpr ⟨fun z => by omega, hj⟩)]
        by_cases ho : o % 2 = 1
        . rw [if_pos (a2.mpr ⟨fun _ => ho, hj⟩), if_pos ho]
          by_cases hx : x % 2 = 1
          . rw [if_pos hx, if_pos hx]; omega
          . rw [if_neg hx, if_neg hx]; omega
        . rw [if_neg (fun z => ho ((a2.mp z).1 (by omega))), if_neg ho]; omega
      . rw [if_neg hj, if_neg (fun z => hj (a1.mp z).2), if_neg (fun z => hj (a2.mp z).2)]
        simp
    rw [sumTo_congr fun j _ => e j, <- sumTo_mul, chi_in m (o / 2) (x / 2) (by rw [Nat.pow_succ] at h; omega)]
    have z := and_zero_half x o
    have em : manyF (m + 1) o = o % 2 + manyF m (o / 2) := rfl
    by_cases hz : x / 2 &&& o / 2 = 0
    . rw [if_pos hz, em]
      by_cases ho : o % 2 = 1
      . rw [if_pos ho, ho]
        by_cases hx : x % 2 = 1
        . rw [if_pos hx, if_neg (fun q => (z.mp q).1 ⟨hx, ho⟩), Int.zero_mul]
        . rw [if_neg hx, if_pos (z.mpr ⟨fun q => hx q.1, hz⟩), Nat.add_comm 1, Nat.pow_succ, Int.natCast_mul, Int.mul_comm]; rfl
      . have h0 : o % 2 = 0 := by omega
        rw [if_neg ho, h0, Nat.zero_add, if_pos (z.mpr ⟨fun q => ho q.2, hz⟩), Int.one_mul]
    . rw [if_neg hz, if_neg (fun q => hz (z.mp q).2), Int.mul_zero]
def setS (m : Nat) (v : Nat -> Int) (o r : Nat) : Int := sumTo (fun q => if q &&& o = r then v q else 0) (2 ^ m)
theorem xor_and_zero : ∀ (m p q o : Nat), p < 2 ^ m -> q < 2 ^ m -> ((p ^^^ q) &&& o = 0 ↔ q &&& o = p &&& o)
  | 0, p, q, o, hp, hq => by
    have h1 : p = 0 := by simpa using hp
    have h2 : q = 0 := by simpa using hq
    subst h1 h2
    simp
  | m + 1, p, q, o, hp, hq => by
    have i := xor_and_zero m (p / 2) (q / 2) (o / 2) (by rw [Nat.pow_succ] at hp; omega) (by rw [Nat.pow_succ] at hq; omega)
    rw [and_zero_half, xor_half, i]
    have a1 := and_half q o
    have a2 := and_half p o
    have b1 := (low3 q o).1
    have b2 := (low3 p o).1
    have b3 := (low3 p q).2.1
    rw [<- a1, <- a2]
    have hs : p % 2 = 0 \/ p % 2 = 1 := by omega
    have ht : q % 2 = 0 \/ q % 2 = 1 := by omega
    have ho : o % 2 = 0 \/ o % 2 = 1 := by omega
    rcases hs with hs | hs <;> rcases ht with ht | ht <;> rcases ho with ho | ho <;> rw [hs, ht] at b3 <;> rw [ht, ho] at b1 <;> rw [hs, ho] at b2 <;> rw [b3, ho] <;> omega
theorem wt_in (m : Nat) (v : Nat -> Int) (o p : Nat) (ho : o < 2 ^ m) (hp : p < 2 ^ m) : wt m (inF (wt m v) o) p = ((2 ^ manyF m o : Nat) : Int) * setS m v o (p &&& o) := by
  have e1 : wt m (inF (wt m v) o) p = sumTo (fun s => sumTo (fun q => v q * (if s &&& o = s then chi m s (p ^^^ q) else 0)) (2 ^ m)) (2 ^ m) := by
    show sumTo (fun s => chi m p s * inF (wt m v) o s) (2 ^ m) = _
    refine sumTo_congr fun s _ => ?_
    unfold inF
    by_cases h : s &&& o = s
    . rw [if_pos h]
      unfold wt
      rw [sumTo_mul]
      refine sumTo_congr fun q _ => ?_
      rw [if_pos h, chi_xor, chi_comm m p s]
      ac_rfl
    . rw [if_neg h, Int.mul_zero, sumTo_congr (g := fun _ => 0) fun q _ => by rw [if_neg h, Int.mul_zero], sumTo_zero]
  rw [e1, sumTo_swap]
  unfold setS
  rw [sumTo_mul]
  refine sumTo_congr fun q hq => ?_
  rw [<- sumTo_mul, chi_in m o (p ^^^ q) ho]
  have x := xor_and_zero m p q o hp hq
  by_cases h : q &&& o = p &&& o
  . rw [if_pos (x.mpr h), if_pos h, Int.mul_comm]
  . rw [if_neg (fun z => h (x.mp z)), if_neg h, Int.mul_zero, Int.mul_zero]
end L2
namespace HT
open PySem PyProof.Rows
section
variable {prog : Program} {w : World} {A : Around} {E : Value -> Shared -> Prop} {s : Shared}
end
end HT
namespace L2
open PySem PySem.Spec PyProof.Rows
section
variable {X : Cx} {K : PySem.W.Frag} {e sx : Expr} {te ts : TE} {lo hi : Option Expr} {tl th : TO} {pos p2 : Pos}
def mIs (neg : Bool) : R2 := fun x y H Q => match x, y with
  | .bl a, .bl b => Q (.bl (neg ^^ (a == b))) H
  | x, .non => Q (.bl (neg ^^ decide (x = .non))) H
  | _, _ => False
theorem om_isn : OpR X (compareOp .IsNot) (mIs true) := by
  intro pins s σ H x y v u Q I rx ry h
  unfold mIs at h
  split at h
  . cases rx; cases ry
    rename_i a b
    exact wpAny_of_eq (show compareOp .IsNot (.bool a) (.bool b) = pure (.bool (!(a == b))) by cases a <;> cases b <;> rfl) ⟨.bl (!(a == b)), H, I, rfl, by rw [Bool.true_xor] at h; exact h⟩
  . exact op_notN pins s σ H _ _ v u Q I rx ry ⟨rfl, by rw [Bool.true_xor] at h; exact h⟩
  . exact h.elim
theorem rm_is {neg : Bool} : RMono (mIs neg) := fun x y H Q Q' h q => by
  unfold mIs at *
  split at q
  . exact h _ _ q
  . exact h _ _ q
  . exact q.elim
end
structure GFeed (H : Hp) (t : Addr) (N : Nat) : Prop where
  at_ : ∃ (l : Addr) (i g c : Int) (ns : List Int), 0 <= i /\ 0 <= g /\ 0 <= c /\ c <= N /\ H t = some (.lst [.ref l, .int i, .int g, .int c]) /\ l ≠ t /\ H l = some (.lst (ns.map V.int)) /\ ns.length ≠ 0
theorem GFeed.same {H H' : Hp} {t : Addr} {N : Nat} (F : GFeed H t N) (h : Same H H') : GFeed H' t N := by
  obtain ⟨l, i, g, c, ns, h1, h2, h3, h4, h5, h6, h7, h8⟩ := F.at_
  exact ⟨l, i, g, c, ns, h1, h2, h3, h4, h _ _ h5, h6, h _ _ h7, h8⟩
theorem GFeed.upd {H : Hp} {t p : Addr} {o : HO} {N : Nat} (F : GFeed H t N) (h : H p = none) : GFeed (L2.upd H p o) t N := F.same (Same.upd h)
theorem GFeed.lst {H : Hp} {t : Addr} {N : Nat} (F : GFeed H t N) : ∃ zs, H t = some (.lst zs) := by
  obtain ⟨l, i, g, c, ns, h1, h2, h3, h4, h5, _⟩ := F.at_
  exact ⟨_, h5⟩
def tyD : Dv -> String
  | .non => "NoneType"
  | .bl _ => "bool"
  | .int _ => "int"
  | .str _ => "str"
  | .tup _ => "tuple"
  | .lst _ => "list"
def mIsiD (K : PySem.W.Frag) : List V -> Hp -> VK -> Prop := fun xs H Q => match xs with
  | [x, .ty T] => T ∈ kinds /\ ∃ d, Rep K H d x /\ Q (.bl (isTy (tyD d) T)) H
  | _ => False
theorem kitD {K : PySem.W.Frag} {t T : String} (ht : t = "int" \/ t = "bool" \/ t = "tuple" \/ t = "list") (hT : T ∈ kinds) : PySem.W.kitOne K (.type t) (.type T) = some (isTy t T) := by
  unfold kinds at hT
  simp only [List.mem_cons, List.mem_nil_iff, or_false] at hT
  rcases ht with rfl | rfl | rfl | rfl <;> rcases hT with rfl | rfl | rfl | rfl | rfl | rfl <;> rfl
theorem cm_isiD {X : Cx} : CallR X (.builtin "isinstance") (mIsiD X.K) := by
  intro pins s σ H xs us Q I r q
  match xs, q with
  | [x, .ty T], q =>
    obtain ⟨hT, d, h, q⟩ := q
    have go : ∀ t, TyS X.K H x t -> Q (.bl (isTy t T)) H -> wpAny (model X.prog X.w) X.A (call (.builtin "isinstance") us) (EP X pins σ Q) X.xe s := fun t ht hq => by
      obtain ⟨u, w', rfl, ru, rw'⟩ := vals2 r
      cases rw'
      obtain ⟨ht, hn, Hh, k, hh⟩ := tyS_kit I ru ht
      exact PySem.W.kia_one k I.kIn hh (kitD ht hT) hn fun tk => ⟨.bl (isTy t T), H, I.tok _, rfl, hq⟩
    have hT' := hT
    unfold kinds at hT'
    simp only [List.mem_cons, List.mem_nil_iff, or_false] at hT'
    cases d with
    | non =>
      unfold Rep at h; subst h
      refine cm_isi pins s σ H _ us Q I r ⟨hT, _, rfl, ?_⟩
      have e : (T == "NoneType") = isTy (tyD .non) T := by rcases hT' with rfl | rfl | rfl | rfl | rfl | rfl <;> rfl
      rw [e]; exact q
    | str z =>
      unfold Rep at h; subst h
      refine cm_isi pins s σ H _ us Q I r ⟨hT, _, rfl, ?_⟩
      have e : (T == "str") = isTy (tyD (.str z)) T := by rcases hT' with rfl | rfl | rfl | rfl | rfl | rfl <;> rfl
      rw [e]; exact q
    | bl b => unfold Rep at h; subst h; exact go _ rfl q
    | int i => unfold Rep at h; subst h; exact go _ rfl q
    | tup ds => unfold Rep at h; obtain ⟨a, xs, rfl, hs, _⟩ := h; exact go _ (.inl ⟨rfl, xs, hs⟩) q
    | lst ds => unfold Rep at h; obtain ⟨a, xs, rfl, hs, _⟩ := h; exact go _ (.inr ⟨rfl, xs, hs⟩) q
theorem kIsiD {X : Cx} {K : PySem.W.Frag} (hK : X.K = K := by rfl) : CallR X (.builtin "isinstance") (mIsiD K) := hK ▸ cm_isiD
theorem cm_isiD_ {K : PySem.W.Frag} : CMono (mIsiD K) := fun xs H Q Q' h q => by
  unfold mIsiD at *
  split at q
  . obtain ⟨a, t, b, q⟩ := q; exact ⟨a, t, b, h _ _ q⟩
  . exact q.elim
theorem reps_bl {K : PySem.W.Frag} {H : Hp} : ∀ bs : List Bool, Reps K H (bs.map Dv.bl) (bs.map V.bl)
  | [] => reps_nil
  | b :: bs => reps_cons rep_bl (reps_bl bs)
theorem rep_tup_inv {K : PySem.W.Frag} {H : Hp} {ds : List Dv} {v : V} (h : Rep K H (.tup ds) v) : ∃ a xs, v = .ref a /\ SqT K H a xs /\ Reps K H ds xs := by unfold Rep at h; exact h
theorem rep_tup2 {K : PySem.W.Frag} {H : Hp} {p : Addr} {xs : List V} {ds : List Dv} (h : SqT K H p xs) (r : Reps K H ds xs) : Rep K H (.tup ds) (.ref p) := by unfold Rep; exact ⟨p, xs, rfl, h, r⟩
theorem tups_bl : ∀ bs : List Bool, tupsOnly (bs.map Dv.bl) = true
  | [] => rfl
  | b :: bs => by
    show (true && tupsOnly (bs.map Dv.bl)) = true
    rw [tups_bl bs]; rfl
section
variable {X : Cx} {pins : List (Addr × Obj)} {σ : St} {H : Hp} {s : Shared}
theorem KV.get {kvs : List (Key × V)} {vs : List (Key × Value)} (r : KV kvs vs) : ∀ {i : Nat} {q : Key × V}, kvs[i]? = some q -> ∃ v, vs[i]? = some (q.1, v) /\ RelV q.2 v := by
  induction r with
  | nil => intro i q e; simp at e
  | @cons a b l1 l2 h t ih =>
    intro i q e
    cases i with
    | zero =>
      simp at e; subst e
      obtain ⟨b1, b2⟩ := b
      obtain ⟨h1, h2⟩ := h
      exact ⟨b2, by simp; exact h1.symm, h2⟩
    | succ i =>
      obtain ⟨v, h1, h2⟩ := ih (i := i) (q := q) (by simpa using e)
      exact ⟨v, by simpa using h1, h2⟩
end
section
variable {X : Cx} {K : PySem.W.Frag} {tg oe : Expr} {to : TE} {ts : List Expr} {kt : Nat} {tpos apos cpos : Pos}
end
end L2
namespace L2
open PySem PySem.Spec PyProof.Rows PySem.W
open Att (noObjs noObjs_get fr_all)
def CdO (a : Addr) (q : Str) : HO := .ext fun h => h.CodeRec (.ref a) q
theorem cd_ok {P : Program} {w : World} {H : Hp} {h : Heap} {a : Addr} {q : Str} (r : h.CodeRec (.ref a) q) : ObjOk P w H h a (CdO a q) := by
  refine ⟨r, ?_, fun h1 h2 p k => ?_⟩
  . obtain ⟨c, o, vs, t, e, g, _⟩ := r
    cases e
    exact ⟨o, g⟩
  . obtain ⟨c, o, vs, t, e, g, z⟩ := p
    cases e
    exact ⟨_, o, vs, t, rfl, k o g, z⟩
def Lam (Pt : Addr) (pos : Pos) (q : Str) (H : Hp) : Prop :=
  ∃ ps : Array Value, H Pt = some (.tbl ps) /\ TriplesOk ps.toList /\ (codeAmong pos ps.toList = none \/ ∃ c', codeAmong pos ps.toList = some (.ref c') /\ H c' = some (CdO c' q))
def Grow (Pt : Addr) (H H' : Hp) : Prop := ∀ b o, b ≠ Pt -> H b = some o -> H' b = some o
theorem Grow.refl (Pt : Addr) (H : Hp) : Grow Pt H H := fun _ _ _ e => e
theorem Grow.trans {Pt : Addr} {H H1 H2 : Hp} (a : Grow Pt H H1) (b : Grow Pt H1 H2) : Grow Pt H H2 := fun c o n e => b c o n (a c o n e)
theorem Grow.same {Pt : Addr} {H H' : Hp} (h : Same H H') : Grow Pt H H' := fun b o _ e => h b o e
theorem Lam.same {Pt : Addr} {pos : Pos} {q : Str} {H H' : Hp} (l : Lam Pt pos q H) (h : Same H H') : Lam Pt pos q H' := by
  obtain ⟨ps, a, b, c⟩ := l
  refine ⟨ps, h _ _ a, b, ?_⟩
  rcases c with c | ⟨c', c, d⟩
  . exact .inl c
  . exact .inr ⟨c', c, h _ _ d⟩
theorem sqT_tab {K : PySem.W.Frag} {Pt : Addr} {ps : Array Value} {H H' : Hp} {a : Addr} {xs : List V} (s : Grow Pt H H') (hz : H Pt = some (.tbl ps)) (h1 : SqT K H a xs) : SqT K H' a xs := by
  rcases h1 with (h1 | ⟨o, h1⟩) | h1
  . exact .inl (.inl (s a _ (fun q => by rw [q, hz] at h1; cases h1) h1))
  . exact .inl (.inr ⟨o, s a _ (fun q => by rw [q, hz] at h1; cases h1) h1⟩)
  . exact .inr h1
theorem sqL_tab {K : PySem.W.Frag} {Pt : Addr} {ps : Array Value} {H H' : Hp} {a : Addr} {xs : List V} (s : Grow Pt H H') (hz : H Pt = some (.tbl ps)) (h1 : SqL K H a xs) : SqL K H' a xs := by
  rcases h1 with (h1 | ⟨o, h1⟩) | h1
  . exact .inl (.inl (s a _ (fun q => by rw [q, hz] at h1; cases h1) h1))
  . exact .inl (.inr ⟨o, s a _ (fun q => by rw [q, hz] at h1; cases h1) h1⟩)
  . exact .inr h1
mutual
theorem Rep.tab {K : PySem.W.Frag} {Pt : Addr} {ps : Array Value} {H H' : Hp} (s : Grow Pt H H') (hz : H Pt = some (.tbl ps)) : ∀ (d : Dv) (v : V), Rep K H d v -> Rep K H' d v
  | .non, v, h => by unfold Rep at *; exact h
  | .bl b, v, h => by unfold Rep at *; exact h
  | .int i, v, h => by unfold Rep at *; exact h
  | .str x, v, h => by unfold Rep at *; exact h
  | .tup ds, v, h => by
    unfold Rep at *
    obtain ⟨a, xs, e, h1, h2⟩ := h
    exact ⟨a, xs, e, sqT_tab s hz h1, Reps.tab s hz ds xs h2⟩
  | .lst ds, v, h => by
    unfold Rep at *
    obtain ⟨a, xs, e, h1, h2⟩ := h
    exact ⟨a, xs, e, sqL_tab s hz h1, Reps.tab s hz ds xs h2⟩
theorem Reps.tab {K : PySem.W.Frag} {Pt : Addr} {ps : Array Value} {H H' : Hp} (s : Grow Pt H H') (hz : H Pt = some (.tbl ps)) : ∀ (ds : List Dv) (xs : List V), Reps K H ds xs -> Reps K H' ds xs
  | [], xs, h => by unfold Reps at *; exact h
  | d :: ds, xs, h => by
    unfold Reps at *
    obtain ⟨x, r, e, h1, h2⟩ := h
    exact ⟨x, r, e, Rep.tab s hz d x h1, Reps.tab s hz ds r h2⟩
end
def BMn (mg : Str -> Option Value) (h : Heap) : Prop := ∃ bm ob, mg "__builtins__" = some (.ref bm) /\ bm ≠ builtinsNs /\ h.get? bm = some ob /\ ob.cls = .type "module" /\ ob.dict = some builtinsNs /\ ob.data = .plain
section
variable {X : Cx} {pins : List (Addr × Obj)} {σ : List (Option V)} {H : Hp} {s : Shared} {h' : Heap}
theorem Inv.grow {Pt c' : Addr} {ps more : Array Value} {t' : Nat} {q : Str} (I : Inv X pins σ H s) (hP : H Pt = some (.tbl ps)) (hx : Heap.ExtBut Pt s.heap h') (hP' : h'.get? Pt = some (tabObj (ps ++ more)))
    (hc : s.heap.objs.size <= c') (hr : h'.CodeRec (.ref c') q) : Inv X pins σ (upd (upd H Pt (.tbl (ps ++ more))) c' (CdO c' q)) { s with heap := h', toks := t' } := by
  have hcn : H c' = none := I.hok.fresh hc
  have hcP : c' ≠ Pt := fun z => by rw [z, hP] at hcn; cases hcn
  have hn : ∀ b, H b = none -> b ≠ Pt := fun b e z => by rw [z, hP] at e; cases e
  have hs : ∀ b u, H b = some u -> b ≠ c' := fun b u e z => by rw [z, hcn] at e; cases e
  have up : ∀ b, b ≠ c' -> b ≠ Pt -> upd (upd H Pt (.tbl (ps ++ more))) c' (CdO c' q) b = H b := fun b n1 n2 => by rw [upd_ne n1, upd_ne n2]
  refine I.un ⟨fun b o e n _ _ => hx b o (hn b n) e, fun b o e n _ _ => ⟨o.slots, hx b o (hn b n) e⟩, fun b o e n _ => ?_, fun b o e _ => ?_, fun b xs e => ?_, fun b o u e => ?_, fun b qs e => ?_⟩ fun b u e => ?_
  . rw [up b (Nat.ne_of_lt (Nat.lt_of_lt_of_le (Heap.lt_size e) hc)) (hn b n)]; exact n
  . by_cases z : b = Pt
    . subst z; exact ⟨_, hP'⟩
    . exact ⟨o, hx b o z e⟩
  . have z : b ≠ Pt := fun z => by rw [z, hP] at e; cases e
    rw [up b (hs b _ e) z]; exact e
  . have z : b ≠ Pt := fun z => by rw [z, hP] at e; cases e
    rw [up b (hs b _ e) z]; exact e
  . by_cases z : b = Pt
    . subst z
      rw [hP] at e; cases e
      exact ⟨more, by rw [upd_ne (Ne.symm hcP), upd_same]⟩
    . exact ⟨#[], by rw [up b (hs b _ e) z, e]; simp⟩
  . by_cases z : b = c'
    . subst z
      rw [upd_same] at e; cases e
      exact cd_ok hr
    . rw [upd_ne z] at e
      by_cases y : b = Pt
      . subst y
        rw [upd_same] at e; cases e
        exact hP'
      . rw [upd_ne y] at e
        refine (I.hok b u e).stay (fun c v hc' r => hx c v ?_ r) (fun c r => ?_) fun c xs r => ?_
        . rcases hc' with k | k
          . rw [k]; exact y
          . rintro rfl; rw [hP] at k; cases k
        . rw [up c (hs c _ r) (fun k => by rw [k, hP] at r; cases r)]; exact r
        . rw [up c (hs c _ r) (fun k => by rw [k, hP] at r; cases r)]; exact r
end
abbrev lamObj (qual : Str) (params : Arguments) (body : Expr) (scope : Scope) (pm : Value) (c' : Addr) (ctv : Value) : Obj := kla_obj "<lambda>" qual params body scope [] pm c' ctv
section
variable {prog : Program} {w : World} {A : Around} {s : Shared}
theorem lam_item {E : Value -> Shared -> Prop} {Q : Value -> Shared -> Prop} {f c' a : Addr} {qual x : Str} {params : Arguments} {scope : Scope} {pm ctv : Value} {np cp sp : Pos} {kd : Nat} {i : Int} {j : Nat} {its : Array Value} {v : Value}
    (hroom : A.depth < recursionLimit) (hf : s.heap.get? f = some (lamObj qual params (.Subscript (.Name x np) (.Constant (.int i) kd cp) sp) scope pm c' ctv)) (hcd : s.heap.CodeRec (.ref c') qual)
    (hlim : s.heap.NoLimit) (ht : IsTup s.heap a its) (hi : its[j]? = some v) (hij : i = (j : Int)) (hj : (j : Int) < 2 ^ 62) (hsz : its.size <= sizeLine)
    (hbind : ∀ u : Value, bindArgs (kla_fn "<lambda>" qual params (.Subscript (.Name x np) (.Constant (.int i) kd cp) sp) scope [] pm (.ref c') ctv) ⟨[u], []⟩ = pure [(x, u)]) (hx : scope.names.lookup x = some .local)
    (hco : scope.isCoroutine = false) (hgen : scope.isGenerator = false) (hk : scope.kind = .function) (hcell : ∀ y ∈ scope.names, y.2 ≠ .cell) (hxd : (x == ("__debug__" : Str)) = false)
    (h : ∀ (h' : Heap) (tk : Nat), (∀ b o, s.heap.get? b = some o -> h'.get? b = some o) -> Q v { s with heap := h', toks := tk }) :
    wpAny (model prog w) A (call (.ref f) [.ref a]) Q E s := by
  refine wpAny_call (kla_callFunE hroom hf rfl hco hgen rfl hcd ?_)
  rw [hbind]
  refine wpAny_pure (wpAny_newFunctionEnv hcell (fun y hy => by rw [List.mem_singleton.mp hy]; exact hx) (fun h₁ hns hsb => ⟨(hlim.fresh _ hsb), ?_⟩) hk)
  have hk₁ : ∀ b o, s.heap.get? b = some o -> h₁.get? b = some o := fun b o e => hsb.extBut b o (Nat.ne_of_lt (Heap.lt_size e)) (Heap.get?_push_of_some _ e)
  refine kla_codeExpr (Subscript_ (wpAny_Name (wpAny_loadName_local hk hx hns (v := .ref a) ?_ (wpAny_Constant_int ?_)) hxd))
  . simp
  . have ht' : IsTup h₁ a its := by
      obtain ⟨o, e, c⟩ := ht
      exact ⟨o, hk₁ _ _ e, c⟩
    have hlt : j < its.size := (Array.getElem?_eq_some_iff.mp hi).1
    have hn := line63
    refine subscriptTail_builtinR (x := v) ht'.typeIs slot_tuple_getitem.lookup
      (getItem_tuple (j := j) (Q := fun r s' => r = v /\ _) ht' (by omega) (by omega) (by rw [hij]; exact seqIndex_of (by omega) (by simpa using hlt)) hi ⟨rfl, h _ _ hk₁⟩) rfl
end
section
variable {X : Cx} {Pt c : Addr} {e : Expr} {te : TE} {p pos kpos lpos np cp sp : Pos} {x qual : Str} {params : Arguments} {scope : Scope} {kd : Nat} {i : Int} {K : PySem.W.Frag}
def firstMin (ks : List Int) (i : Nat) : Prop := i < ks.length /\ ∀ j, j < ks.length -> ks.getD i 0 <= ks.getD j 0 /\ (j < i -> ks.getD i 0 < ks.getD j 0)
def tMinKey (K : PySem.W.Frag) (Pt : Addr) (lpos : Pos) (qual : Str) (n : Nat) (te : TE) : TE := fun σ H Q => te σ H fun x H1 => ∃ l xs ks, x = .ref l /\ H1 l = some (.lst xs) /\ 0 < xs.length /\ ks.length = xs.length /\
  (∀ i < xs.length, ∃ a ys, xs[i]? = some (.ref a) /\ SqT K H1 a ys /\ ys[n]? = some (.int (ks.getD i 0))) /\ Lam Pt lpos qual H1 /\
  ∀ i v H2, firstMin ks i -> xs[i]? = some v -> Grow Pt H1 H2 -> Lam Pt lpos qual H2 -> Q v H2
theorem pe_minkey {n : Nat} (he : PE X e te) (hm : X.mg "min" = none) (hr : Room 2 X.A) (hc : X.calm = true) (hcode : X.env.code = .ref c) (hcK : codeHdIn X.K c Pt = true) (hbm : BMn X.mg X.base)
    (hq : X.env.qual ++ "<lambda>" = qual) (hin : i = (n : Int)) (hn62 : (n : Int) < 2 ^ 62)
    (hdef : defaultsOf params X.env = ([], [])) (hcl : closureFor scope X.env = pure [])
    (hbind : ∀ (u pm ctv : Value) (c' : Addr), bindArgs (kla_fn "<lambda>" qual params (.Subscript (.Name x np) (.Constant (.int i) kd cp) sp) scope [] pm (.ref c') ctv) ⟨[u], []⟩ = pure [(x, u)]) (hx : scope.names.lookup x = some .local)
    (hco : scope.isCoroutine = false) (hgen : scope.isGenerator = false) (hk : scope.kind = .function) (hcell : ∀ y ∈ scope.names, y.2 ≠ .cell) (hxd : (x == ("__debug__" : Str)) = false) 
    (hg : Gl X "min" := by rfl) (hK : X.K = K := by rfl)
    (hst : starEach [e] X.env = (false, eval e X.env) :: starEach [] X.env := by rfl) :
    PE X (.Call (.Name "min" p) [e] [⟨some "key", .Lambda params (.Subscript (.Name x np) (.Constant (.int i) kd cp) sp) scope lpos, kpos⟩] pos) (tMinKey K Pt lpos qual n te) := by
  intro pins s σ H Q I h
  subst hq hK
  refine wpAny_Call_Name_kw (ld_blt I hg hm (show bootBuiltins "min" = some (.builtin "min") by kernel_rfl) ?_)
  refine callWith_kw (e := e) (rest := []) (id := "min") ?_ (by rw [hst]; rfl) (by rw [hst]; rfl)
  refine thn ((pa_cons he pa_nil hst) pos pins s σ H (fun vs H1 => match vs with | [x] => (∃ l xs ks, x = .ref l /\ H1 l = some (.lst xs) /\ 0 < xs.length /\ ks.length = xs.length /\
      (∀ i < xs.length, ∃ a ys, xs[i]? = some (.ref a) /\ SqT X.K H1 a ys /\ ys[n]? = some (.int (ks.getD i 0))) /\ Lam Pt lpos (X.env.qual ++ "<lambda>") H1 /\
      ∀ i v H2, firstMin ks i -> xs[i]? = some v -> Grow Pt H1 H2 -> Lam Pt lpos (X.env.qual ++ "<lambda>") H2 -> Q v H2) | _ => False) I h) fun us s1 ⟨vs, H1, I1, r1, q1⟩ => ?_
  match vs, r1, q1 with
  | [_], .cons rx .nil, ⟨l, xs, ks, ex, hl, hpos, hkl, hks, hL, hQ⟩ =>
  subst ex
  cases rx
  obtain ⟨ps, hP, htr, hcs⟩ := id hL
  have hlP : l ≠ Pt := fun z => by rw [z, hP] at hl; cases hl
  have fin : ∀ (H2 : Hp) (s2 : Shared) (f c' : Addr) (pm ctv : Value), Inv X pins σ H2 s2 -> s2.heap.get? f = some (lamObj (X.env.qual ++ "<lambda>") params (.Subscript (.Name x np) (.Constant (.int i) kd cp) sp) scope pm c' ctv) ->
      s2.heap.CodeRec (.ref c') (X.env.qual ++ "<lambda>") -> Grow Pt H1 H2 -> Lam Pt lpos (X.env.qual ++ "<lambda>") H2 ->
      wpAny (model X.prog X.w) X.A (call (.builtin "min") [.ref l] [(Str.ofString "key", .ref f)]) (EP X pins σ Q) X.xe s2 := by
    intro H2 s2 f c' pm ctv I2 hf hcr hG hL2
    obtain ⟨its, r, pl, hz⟩ := I2.list (.of (hG _ _ hlP hl))
    have hlen := r.length
    obtain ⟨m, hns, _⟩ := id I2.loc
    have neL : ∀ b u, H2 b = some u -> b ≠ X.env.locals := fun b u e z => by rw [z, I2.free] at e; cases e
    have kp : ∀ {h' : Heap} {own : List (Addr × Obj)}, News (noObjs s2.heap) X.env.locals h' (allNews (noObjs s2.heap) s2.heap X.env.locals ++ own) -> ∀ b o, b ≠ X.env.locals -> s2.heap.get? b = some o -> h'.get? b = some o :=
      fun {h' own} N b o n e => (N (b, o) (List.mem_append_left _ (mem_allNews n (noObjs_get _ _) e))).1
    have lnl : l ≠ X.env.locals := neL _ _ (hG _ _ hlP hl)
    have isl : ∀ h', Fr (noObjs s2.heap) X.env.locals h' m -> News (noObjs s2.heap) X.env.locals h' (allNews (noObjs s2.heap) s2.heap X.env.locals) -> h'.IsList l its.toArray := fun h' F' N' => by
      obtain ⟨o, k, e, z⟩ := pl
      have pl' : PlainL h' l its.toArray := ⟨o, k, kp (own := []) (by simpa using N') _ _ lnl e, z⟩
      exact pl'.isList
    refine kmk_min (fun i => ks.getD i 0) (I2.ok.hd hc) (fr_all hns) news_all isl (by omega) (fun i v hv h tk own F' N' => ?_) fun i v h' tk' hv hb F' N' => ?_
    . have hi : i < xs.length := by rw [hlen]; exact (List.getElem?_eq_some_iff.mp hv).1
      obtain ⟨a, ys, e1, e2, e3⟩ := hks i hi
      obtain ⟨u, eu, ru⟩ := r.get e1
      rw [hv] at eu
      cases eu
      cases ru
      have ha2 := sqT_tab hG hP e2
      obtain ⟨jts, r2, pt, hz2⟩ := I2.tuple ha2
      have anl : a ≠ X.env.locals := fun z => by
        obtain ⟨o, es, ep, e, hd, _⟩ := hns
        obtain ⟨o2, q1, q2, n2, q3⟩ := pt
        rw [z, e] at q1
        have q5 := Option.some.inj q1
        rw [q5] at hd
        have q4 := hd.symm.trans q3
        cases q4
      obtain ⟨u, eu, t, ru⟩ := r2.get e3
      have fnl : f ≠ X.env.locals := fun z => by
        obtain ⟨o, es, ep, e, hd, _⟩ := hns
        rw [z, e] at hf; cases hf; cases hd
      have cnl : c' ≠ X.env.locals := fun z => by
        obtain ⟨o, es, ep, e, hd, _⟩ := hns
        obtain ⟨c2, oc, vs2, t2, q1, q2, q3, _⟩ := hcr
        cases q1
        rw [z, e] at q2; cases q2; rw [hd] at q3; cases q3
      have pt' : IsTup h a jts.toArray := by
        obtain ⟨o, e, z⟩ := pt
        exact ⟨o, kp N' _ _ anl e, z⟩
      have hcr' : h.CodeRec (.ref c') (X.env.qual ++ "<lambda>") := by
        obtain ⟨c2, oc, vs2, t2, q1, q2, q3⟩ := hcr
        cases q1
        exact ⟨_, oc, vs2, t2, rfl, kp N' _ _ cnl q2, q3⟩
      obtain ⟨mF, FB⟩ := I2.fr
      have lim : h.NoLimit := I2.mod.nolimit.keeps fun b o e => kp N' b o (Nat.ne_of_lt (Nat.lt_of_lt_of_le (Heap.lt_size e) FB.above)) (I2.bk b o e)
      have hl2 := r2.length
      refine lam_item (s := { s2 with heap := h, toks := tk }) (j := n) (Room.in1 (k := 1) hr).depth (kp N' _ _ fnl hf) hcr' lim pt' (by simpa using eu) hin hn62 (by simp; omega) (fun u => hbind u pm ctv c') hx hco hgen hk hcell hxd fun h2 tk2 k2 => ?_
      refine ⟨h2, tk2, t, rfl, ru, ⟨F'.ns.keeps k2, fun b o e => (by rw [noObjs_get] at e; cases e), F'.above⟩, fun p hp => ⟨k2 _ _ (N' p hp).1, (N' p hp).2⟩⟩
    . have hi : i < xs.length := by rw [hlen]; exact (List.getElem?_eq_some_iff.mp hv).1
      obtain ⟨y, ey⟩ : ∃ y, xs[i]? = some y := ⟨_, List.getElem?_eq_getElem hi⟩
      obtain ⟨u, eu, ru⟩ := r.get ey
      rw [hv] at eu
      cases eu
      have kk := kp (own := []) (by simpa using N')
      have I3 : Inv X pins σ H2 { s2 with heap := h', gens := s2.gens, drawn := s2.drawn, toks := tk' } := I2.step (ch := []) (fun _ z => nomatch z) (fun b o n _ _ e _ => kk b o n e) (fun b o n _ _ e _ => ⟨o.slots, kk b o n e⟩) (fun _ _ _ _ z => z)
        (fun b o _ e => by
          by_cases z : b = X.env.locals
          . subst z
            obtain ⟨o', _, _, e', _⟩ := F'.ns
            exact ⟨o', e'⟩
          . exact ⟨o, kk b o z e⟩) (fun _ _ z => z) (fun _ _ _ z => z) (fun b ps e => ⟨#[], by rw [e]; simp⟩) (fun m' hm' => ?_) (fun b u e => ?_) I2.bare
      . exact ⟨y, H2, I3, ru, hQ i y H2 ⟨by omega, fun j hj => hb j (by omega)⟩ ey hG hL2⟩
      . rw [hm'.eq_nsMap.trans hns.eq_nsMap.symm]; exact F'.ns
      . refine (I2.hok b u e).stay (fun c v hc q => kk c v ?_ q) (fun _ q => q) fun _ _ q => q
        rcases hc with z | z
        . rw [z]; exact neL b u e
        . exact neL c _ z
  show wpAny _ _ (evalAll ((do let v <- eval (.Lambda params (.Subscript (.Name x np) (.Constant (.int i) kd cp) sp) scope lpos) X.env; standAt pos; pure v) :: [])) _ _ s1
  have gl : ∀ {s : Shared} {H : Hp}, Inv X pins σ H s -> s.heap.Ns mainGlobals X.mg := fun J => J.mod.glob.keeps J.bk
  have C : CodeHd s1.heap c Pt := codeHd_of_K I1.kIn hcK
  have hPt : s1.heap.get? Pt = some (tabObj ps) := I1.hok _ _ hP
  have gP : mainGlobals ≠ Pt := fun z => by
    obtain ⟨o, es, ep, e, hd, _⟩ := gl I1
    rw [z, hPt] at e; cases e; cases hd
  have hB : s1.heap.BuiltinsAt X.mg Pt := by
    obtain ⟨bm, ob, b1, b2, b3, b4, b5, b6⟩ := hbm
    have e := I1.bk _ _ b3
    refine ⟨bm, ob, b1, b2, fun z => ?_, fun z => ?_, e, b4, b5, b6⟩
    . obtain ⟨o, es, ep, e', hd, _⟩ := gl I1
      rw [z, e'] at e; cases e; rw [hd] at b6; cases b6
    . rw [z, hPt] at e; cases e; cases b4
  refine wpAny_evalAll_cons (wpAny_bind (kla_eval hdef ?_))
  rcases hcs with hnf | ⟨c', hf, hc'⟩
  . refine kla_makeFunction hcl I1.ok.glob (gl I1) hcode C hPt htr hnf gP hB fun c' ctv h' tk hx' hge hlt hrec htb => ?_
    refine wpAny_bind (wpAny_standAt (wpAny_pure (wpAny_evalAll_nil ?_)))
    have J := I1.grow (t' := tk) hP hx' htb hge hrec
    have J' := J.kept (h' := h'.push _) (t' := tk) fun b u e => Heap.get?_push_of_some (kla_obj "<lambda>" (X.env.qual ++ "<lambda>") params (.Subscript (.Name x np) (.Constant (.int i) kd cp) sp) scope [] ((X.mg "__name__").getD .none) c' ctv) e
    have hcn : H1 c' = none := I1.hok.fresh hge
    have hcP : c' ≠ Pt := fun z => by rw [z, hP] at hcn; cases hcn
    refine fin _ _ _ c' _ ctv J' (Heap.get?_push_size _ rfl) (hrec.keeps fun b o e => Heap.get?_push_of_some _ e) (fun b o n e => ?_) ⟨_, by rw [upd_ne (Ne.symm hcP), upd_same], ?_, .inr ⟨c', ?_, upd_same⟩⟩
    . have hbc : b ≠ c' := fun z => by rw [z, hcn] at e; cases e
      rw [upd_ne hbc, upd_ne n]; exact e
    . rw [Array.toList_append]
      exact TriplesOk_snoc _ _ _ _ htr
    . rw [Array.toList_append]
      exact codeAmong_snoc _ htr hnf
  . refine kla_makeFunctionHit hcl I1.ok.glob (gl I1) hcode C hPt htr hf hB fun ctv h' tk hk' hsz => ?_
    refine wpAny_bind (wpAny_standAt (wpAny_pure (wpAny_evalAll_nil ?_)))
    have J := I1.kept (h' := h'.push _) (t' := tk) fun b u e => Heap.get?_push_of_some (kla_obj "<lambda>" (X.env.qual ++ "<lambda>") params (.Subscript (.Name x np) (.Constant (.int i) kd cp) sp) scope [] ((X.mg "__name__").getD .none) c' ctv) (hk' b u e)
    obtain ⟨hcr, _⟩ := I1.hok _ _ hc'
    exact fin _ _ _ c' _ ctv J (Heap.get?_push_size _ rfl) (Heap.CodeRec.keeps hcr fun b o e => Heap.get?_push_of_some _ (hk' b o e)) (Grow.refl _ _) hL
end
theorem law_callT {P : Program} {w : World} {K : PySem.W.Frag} {mg mb : Str -> Option Value} {CX : CXT} {k : Nat} {fa a : Addr} {fd : FuncData} {x : Str} {sp : Sp} {s₁ : Shared} {vs : List Value} {ns : List Int} {ts : List (Addr × Addr)}
    (KX : K.In s₁.heap) (hns : s₁.heap.Ns mainGlobals mg) (hb : s₁.heap.Ns builtinsNs mb) (hbb : ∀ x : Str, x ≠ "__name__" -> mb x = bootBuiltins x) (hlim : s₁.heap.NoLimit) (hg : s₁.gens = #[])
    (ha : s₁.heap.get? a = some { cls := .type "list", data := .seq vs.toArray }) (hi : IntsAre vs ns) (hl : ns.length <= sizeLine) (hr : Room k callerA) (hbm : BMn mg s₁.heap) (hT : TabsAt ts s₁.heap) (hnt : noTabs K = true)
    (F : ∀ base : Heap, K.In base -> base.Ns mainGlobals mg -> BMn mg base -> FnOk P w K mg base CX k fa fd [x] sp) (hbind : ∀ (s : Shared) (u : Value), BindsTo s fd ⟨[u], []⟩ [(x, u)])
    (hsp : ∀ H : Hp, (∀ q ∈ ts, H q.2 = some (.tbl #[])) -> SqL K H a (ns.map V.int) -> sp [.ref a] H (fun v _ => v = .bl true) fun _ _ _ => False)
    (hCX : ∀ H e s', CX [] H s₁ (fun _ _ _ => False) e s' -> False) :
    codeAny (model P w) callerA (.call (.ref fa) ⟨[.ref a], []⟩) (fun r s' => r = .ok (.ret (.bool true)) /\ OldK s₁.heap s'.heap /\ s'.os = s₁.os /\ AllBare s'.gens) s₁ := by
  have rv := vals_ints hi
  have lenV := hi.length
  have tabK : ∀ b, b ∈ ts.map (·.2) -> K.lookup b = none := fun b hb' => by
    obtain ⟨q, hq, rfl⟩ := List.mem_map.mp hb'
    cases e : K.lookup q.2 with
    | none => rfl
    | some o =>
      have e1 := KX _ _ e
      rw [(hT q hq).2] at e1
      cases e1
      have h2 := List.all_eq_true.mp hnt (q.2, tabObj #[]) (mem_of_lookupK e)
      exact absurd (show false = true from h2) Bool.false_ne_true
  have tabO : ∀ b, b ∈ ts.map (·.2) -> s₁.heap.get? b = some (tabObj #[]) := fun b hb' => by
    obtain ⟨q, hq, rfl⟩ := List.mem_map.mp hb'
    exact (hT q hq).2
  have core : ∀ H : Hp, (∀ b, H b = none \/ (∃ o xs, H b = some (.frz o (.lst xs))) \/ (b ∈ ts.map (·.2) /\ H b = some (.tbl #[]))) -> (∀ q ∈ ts, H q.2 = some (.tbl #[])) -> SqL K H a (ns.map V.int) -> HOk P w H s₁.heap -> (∀ b, H b ≠ none -> b = a \/ b ∈ ts.map (·.2)) -> (H a ≠ none -> K.lookup a = none) ->
      codeAny (model P w) callerA (.call (.ref fa) ⟨[.ref a], []⟩) (fun r s' => r = .ok (.ret (.bool true)) /\ OldK s₁.heap s'.heap /\ s'.os = s₁.os /\ AllBare s'.gens) s₁ := by
    intro H hO hTs hS hok hA hK
    have base_of : ∀ {b : Addr} {o : Obj}, s₁.heap.get? b = some o -> H b = none -> (hidT s₁.heap H).get? b = some o := fun e n => hidT_get e n
    have noA : ∀ {b : Addr} {o : Obj}, s₁.heap.get? b = some o -> (∀ as n, o.data ≠ .seq as n) -> (∀ as, o.data ≠ .fields as) -> H b = none := fun {b o} e d d2 => by
      cases q : H b with
      | none => rfl
      | some u =>
        rcases hA b (by rw [q]; simp) with e' | e'
        . subst e'
          rw [ha] at e; cases e
          exact absurd rfl (d _ _)
        . rw [tabO b e'] at e; cases e
          exact absurd rfl (d2 _)
    have nsK : ∀ {b : Addr} {m : Str -> Option Value}, s₁.heap.Ns b m -> (hidT s₁.heap H).Ns b m := fun {b m} ⟨o, es, ep, e, d, r⟩ => ⟨o, es, ep, base_of e (noA e (fun _ _ => by rw [d]; simp) (fun _ => by rw [d]; simp)), d, r⟩
    have hKb : K.In (hidT s₁.heap H) := fun b o e => base_of (KX b o e) (by
      cases q : H b with
      | none => rfl
      | some u =>
        rcases hA b (by rw [q]; simp) with e' | e'
        . subst e'
          rw [hK (by rw [q]; simp)] at e; cases e
        . rw [tabK b e'] at e; cases e)
    have hM : Mod K mg (hidT s₁.heap H) := ⟨hKb, nsK hns, ⟨mb, nsK hb, hbb⟩, let ⟨mc, h1, h2⟩ := hlim; ⟨mc, nsK h1, h2⟩⟩
    have hBb : BMn mg (hidT s₁.heap H) := by
      obtain ⟨bm, ob, b1, b2, b3, b4, b5, b6⟩ := hbm
      exact ⟨bm, ob, b1, b2, base_of b3 (noA b3 (fun _ _ => by rw [b6]; simp) (fun _ => by rw [b6]; simp)), b4, b5, b6⟩
    have e0 : Env0 P w K mg (hidT s₁.heap H) callerA [] s₁ H := ⟨rfl, hM, fun b o e => of_hidT e, Nat.le_of_eq (hidT_size _ _), trivial, fun b hb => absurd (show b ∈ ([] : List Addr) from hb) (by simp), hok, .of_eq hg⟩
    refine codeAny_mono ((F _ hKb (nsK hns) hBb).run callerA [] s₁ H ⟨[.ref a], []⟩ [.ref a] [.ref a] _ _ hr e0 (hbind s₁ (.ref a)) (.cons rfl .nil) (hsp H hTs hS)) fun r s' h => ?_
    cases r with
    | error e => exact (hCX H e s' h).elim
    | ok fl =>
      cases fl with
      | next => exact False.elim h
      | brk => exact False.elim h
      | cont => exact False.elim h
      | ret u =>
        obtain ⟨v, H', os, bare, un, hok', r', q⟩ := h
        have q' : v = .bl true := q
        subst q'
        obtain rfl : u = Value.bool true := r'
        have kk : ∀ b o, s₁.heap.get? b = some o -> b ∉ ts.map (·.2) -> s'.heap.get? b = some o := fun b o e nb => by
          cases q : H b with
          | none => exact un.keep b o e q (by intro z; exact absurd (show b ∈ ([] : List Addr) from z) (by simp)) (by simp)
          | some u =>
            rcases hO b with z | ⟨ob, xs, z⟩ | ⟨z, _⟩
            . rw [q] at z; cases z
            . have z2 := un.frzs b ob _ z
              obtain ⟨e1, _⟩ := hok b _ z
              obtain ⟨e2, _⟩ := hok' b _ z2
              rw [e] at e1; cases e1
              exact e2
            . exact absurd z nb
        have tt : ∀ b, b ∈ ts.map (·.2) -> ∃ more, s'.heap.get? b = some (tabObj more) := fun b hb' => by
          obtain ⟨q, hq, rfl⟩ := List.mem_map.mp hb'
          obtain ⟨more, e⟩ := un.tbls _ _ (hTs q hq)
          exact ⟨_, hok' _ _ e⟩
        refine ⟨rfl, ⟨fun b o e => ?_, fun b o e => ?_⟩, os, bare⟩
        . by_cases z : b ∈ ts.map (·.2)
          . obtain ⟨more, e2⟩ := tt b z
            have e3 := tabO b z
            rw [e] at e3; cases e3
            obtain ⟨q, hq, rfl⟩ := List.mem_map.mp z
            refine .inr (.inl ⟨((hT q hq).1.tab (hT q hq).2).isCodeTable, rfl, #[], more, rfl, by rw [e2]; simp⟩)
          . exact .inl (kk b o e z)
        . by_cases z : b ∈ ts.map (·.2)
          . obtain ⟨more, e2⟩ := tt b z
            exact ⟨_, e2⟩
          . exact ⟨o, kk b o e z⟩
  have aT : a ∉ ts.map (·.2) := fun z => by
    have e := tabO a z
    rw [ha] at e; cases e
  have tm : ∀ q ∈ ts, q.2 ∈ ts.map (·.2) := fun q hq => List.mem_map_of_mem hq
  cases hk : K.lookup a with
  | some o =>
    have e := KX a o hk
    rw [ha] at e
    cases e
    refine core (fun b => if b ∈ ts.map (·.2) then some (.tbl #[]) else none) (fun b => ?_) (fun q hq => if_pos (tm q hq)) (.inr ⟨_, vs.toArray, _, hk, rfl, rfl, rfl, by rw [List.size_toArray, lenV]; exact hl, by simpa using rv⟩) (fun b u z => ?_) (fun b z => ?_) fun z => absurd (if_neg aT) z
    . by_cases z : b ∈ ts.map (·.2)
      . exact .inr (.inr ⟨z, if_pos z⟩)
      . exact .inl (if_neg z)
    . by_cases y : b ∈ ts.map (·.2)
      . have z' := (if_pos y).symm.trans z
        cases z'
        exact tabO b y
      . have z' := (if_neg y).symm.trans z
        cases z'
    . by_cases y : b ∈ ts.map (·.2)
      . exact .inr y
      . exact absurd (if_neg y) z
  | none =>
    refine core (fun b => if b = a then some (.frz { cls := .type "list", data := .seq vs.toArray } (.lst (ns.map V.int))) else if b ∈ ts.map (·.2) then some (.tbl #[]) else none) (fun b => ?_) (fun q hq => ?_) (.inl (.inr ⟨{ cls := .type "list", data := .seq vs.toArray }, if_pos rfl⟩)) (fun b u z => ?_) (fun b z => ?_) fun _ => hk
    . by_cases hb : b = a
      . exact .inr (.inl ⟨_, _, if_pos hb⟩)
      . by_cases y : b ∈ ts.map (·.2)
        . exact .inr (.inr ⟨y, (if_neg hb).trans (if_pos y)⟩)
        . exact .inl ((if_neg hb).trans (if_neg y))
    . have hb : q.2 ≠ a := fun z => aT (z ▸ tm q hq)
      exact (if_neg hb).trans (if_pos (tm q hq))
    . by_cases hb : b = a
      . have z' := (if_pos hb).symm.trans z
        cases z'
        subst hb
        exact ⟨ha, by rw [List.length_map]; exact hl, vs, _, rv, ha⟩
      . by_cases y : b ∈ ts.map (·.2)
        . have z' := ((if_neg hb).trans (if_pos y)).symm.trans z
          cases z'
          exact tabO b y
        . have z' := ((if_neg hb).trans (if_neg y)).symm.trans z
          cases z'
    . by_cases hb : b = a
      . exact .inl hb
      . by_cases y : b ∈ ts.map (·.2)
        . exact .inr y
        . exact absurd ((if_neg hb).trans (if_neg y)) z
theorem walk_ofT {l : PySem.W.OpenLaw} {n k : Nat} {q : Program} {loose : List Str} {XP : (Str -> Option Value) -> Heap -> Prop} {YP : World -> Heap -> Prop} {d : DefRec} {K : Params -> PySem.W.Frag} {sp : World -> List Addr -> Sp} {x : Str}
    (hn : l.most = some n) (hn2 : n <= sizeLine) (hdf : d.params.defaults = []) (hr : Room k callerA)
    (hY : ∀ (w : World) (h : Heap), YP w h -> (K w.params).In h)
    (F : ∀ (w : World) (mg : Str -> Option Value) (fa : Addr) (h : Heap), YP w h -> (K w.params).In h -> h.Ns mainGlobals mg -> mg d.name = some (.ref fa) ->
      ∃ (fd : FuncData) (ts : List (Addr × Addr)), TabsAt ts h /\ noTabs (K w.params) = true /\ (∀ (s : Shared) (u : Value), BindsTo s fd ⟨[u], []⟩ [(x, u)]) /\
        ∀ base : Heap, (K w.params).In base -> base.Ns mainGlobals mg -> BMn mg base -> FnOk l.prog w (K w.params) mg base CX0 k fa fd [x] (sp w (ts.map (·.2))))
    (hsp : ∀ (w : World) (H : Hp) (a : Addr) (ns : List Int) (ts : List Addr), ns.length <= n -> (∀ Pt ∈ ts, H Pt = some (.tbl #[])) -> SqL (K w.params) H a (ns.map V.int) -> sp w ts [.ref a] H (fun v _ => v = .bl true) fun _ _ _ => False) :
    PySem.W.WalkO q loose XP YP l.row.toRowW d [] (fun f vs => PySem.call f vs) := by
  refine Att.attach_call hn hdf fun w s₀ s₁ mg mb fa o pm cd doc a vs ns G Y ho hd hcd hmg hobj hints hlen hg => ?_
  have KX := hY w _ Y
  obtain ⟨fd, ts, hT, hnt, hb, hF⟩ := F w mg fa _ Y KX G.T.g hmg
  exact law_callT KX G.T.g G.T.b G.T.builtins G.T.nolimit hg hobj hints (Nat.le_trans hlen hn2) hr G.T.bmain hT hnt hF hb (fun H hO hS => hsp w H a ns _ hlen (fun Pt hP => by
    obtain ⟨q, hq, rfl⟩ := List.mem_map.mp hP
    exact hO q hq) hS) fun H e s' z => z
theorem Fun.okC {P : Program} {w : World} {K : PySem.W.Frag} {mg : Str -> Option Value} {base : Heap} {x qual : Str} {st : Stmt} {f c : Addr} {fd : FuncData} {N ps : List Str} {k : Nat} {sp : Sp} (F : Fun K x qual st f fd) (hc : fd.code = .ref c) (S : FnScope N ps (defScope st)) (len : ∀ vs H Q E, sp vs H Q E -> vs.length = ps.length)
    (hbody : ∀ (A : Around) (outer : List Env) (s : Shared) (H : Hp) (vs : List V) (Q : VK) (E : XK), Room k (A.deeper (envOfC qual (defScope st) s.heap.objs.size f (.ref c))) -> sp vs H Q E ->
      ∃ t, PSs (cxOf CX0 P w K mg base N qual (defScope st) f (.ref c) A outer s H E).nox (defBody st) t /\ t { nx := fun _ H' => Q .non H', rt := Q } (start N vs) H) : FnOk P w K mg base CX0 (k + 1) f fd ps sp := by
  obtain ⟨oc, od, kV, doc, pm, an, cdv, ct, osl, rfl, lk, hcd⟩ := F.ex
  cases hc
  refine fn_of lk hcd S len fun A outer s H vs Q E hr hsp => ?_
  obtain ⟨t, h, q⟩ := hbody A outer s H vs Q E hr hsp
  exact ⟨t, h.nox, q⟩
end L2
namespace L2
open PySem
def spLawT (K : PySem.W.Frag) (ts : List Addr) : Sp := fun vs H Q _ => ∃ (a : Addr) (ns : List Int), vs = [.ref a] /\ SqL K H a (ns.map V.int) /\ ns.length <= 63 /\ (∀ Pt ∈ ts, H Pt = some (.tbl #[])) /\ ∀ H', Q (.bl true) H'
theorem lam_new {Pt : Addr} {pos : Pos} {q : Str} {H : Hp} (h : H Pt = some (.tbl #[])) : Lam Pt pos q H := ⟨#[], h, trivial, .inl rfl⟩
end L2
namespace L2
open PySem PySem.Spec PyProof.Rows
section
variable {X : Cx} {tg oe : Expr} {to : TE} {apos cpos : Pos}
end
def mIn (K : PySem.W.Frag) (neg : Bool) : R2 := fun x y H Q => match y with
  | .ref p => ∃ xs, (SqL K H p xs \/ SqT K H p xs) /\ flatV x = true /\ xs.all flatV = true /\ Q (.bl (neg ^^ inV x xs)) H
  | _ => False
section
variable {X : Cx} {K : PySem.W.Frag}
theorem kIn (hK : X.K = K := by rfl) : OpR X (compareOp .In) (mIn K false) := by
  subst hK
  intro pins s σ H x y v u Q I rx ry h
  cases y with
  | ref p =>
    obtain ⟨xs, h1, h2, h3, q⟩ := h
    exact op_in_seq pins s σ H x _ v u Q I rx ry ⟨p, xs, rfl, h1, h2, h3, by simpa using q⟩
  | _ => exact False.elim h
theorem kNotIn (hK : X.K = K := by rfl) : OpR X (compareOp .NotIn) (mIn K true) := by
  subst hK
  intro pins s σ H x y v u Q I rx ry h
  cases y with
  | ref p =>
    obtain ⟨xs, h1, h2, h3, q⟩ := h
    exact op_notIn_seq pins s σ H x _ v u Q I rx ry ⟨p, xs, rfl, h1, h2, h3, by simpa using q⟩
  | _ => exact False.elim h
end
theorem rm_in {K : PySem.W.Frag} {neg : Bool} : RMono (mIn K neg) := fun x y H Q Q' h q => by
  cases y with
  | ref p => obtain ⟨xs, h1, h2, h3, q⟩ := q; exact ⟨xs, h1, h2, h3, h _ _ q⟩
  | _ => exact False.elim q
section
variable {X : Cx} {K : PySem.W.Frag}
def mAny (K : PySem.W.Frag) : List V -> Hp -> VK -> Prop := fun xs H Q => match xs with
  | [.ref l] => ∃ bs : List Bool, SqL K H l (bs.map V.bl) /\ Q (.bl (bs.any id)) H
  | _ => False
theorem cm_any (hc : X.calm = true) : CallR X (.builtin "any") (mAny X.K) := by
  intro pins s σ H xs us Q I r q
  match xs, q with
  | [.ref l], q =>
  obtain ⟨bs, hl, q⟩ := q
  obtain ⟨u, rfl, ru⟩ := vals1 r
  cases ru
  obtain ⟨its, rv, pl, hz⟩ := I.list hl
  have hlen := rv.length
  rw [List.length_map] at hlen
  obtain ⟨o1, n1, g1, _⟩ := id pl
  have hlt := Heap.lt_size g1
  refine call_any_walk (wpAny_pyIter_list pl.isList ?_)
  have hne : l ≠ s.heap.objs.size := Nat.ne_of_lt hlt
  refine ⟨_, _, _, _, _, _, fun i => bs.getD i false, rfl, Walks.list (A := X.A.in1) (I.ok.hd hc) s.heap.objs.size l hne its.toArray, ?_, ?_, fun h' tk hk => ?_⟩
  . exact ⟨⟨_, Heap.get?_push_size _ rfl, rfl, rfl⟩, (show s.heap.IsList l its.toArray from pl.isList).at fun o e => Heap.get?_push_of_some _ e⟩
  . intro i v s' Q' E' hv hq
    have hv : its.toArray[i]? = some v := hv
    have hi : i < its.length := by
      have := (Array.getElem?_eq_some_iff.mp hv).1
      simpa using this
    have hb : (bs.map V.bl)[i]? = some (.bl bs[i]) := by rw [List.getElem?_map, List.getElem?_eq_getElem (by omega)]; rfl
    obtain ⟨w', q1, q2⟩ := rv.get hb
    have e : v = w' := by simp at hv; rw [q1] at hv; exact (Option.some.inj hv).symm
    subst e
    cases q2
    refine wpAny_truthy_bool ?_
    have e2 : bs.getD i false = bs[i] := by rw [List.getD_eq_getElem?_getD, List.getElem?_eq_getElem (by omega)]; rfl
    have hq : Q' (bs.getD i false) s' := hq
    rw [e2] at hq
    exact hq
  . refine ⟨.bl _, H, I.kept (fun b o e => hk b o ?_ (Heap.get?_push_of_some _ e)), rfl, ?_⟩
    . simp only [List.mem_singleton]
      exact Nat.ne_of_lt (Heap.lt_size e)
    . have e : (List.range its.toArray.size).any (fun i => bs.getD i false) = bs.any id := by
        rw [List.size_toArray, <- hlen]
        rw [Bool.eq_iff_iff, List.any_eq_true, List.any_eq_true]
        constructor
        . rintro ⟨i, hi, e⟩
          have hi' := List.mem_range.mp hi
          rw [List.getD_eq_getElem?_getD, List.getElem?_eq_getElem hi'] at e
          exact ⟨_, List.getElem_mem hi', e⟩
        . rintro ⟨b, hb, e⟩
          obtain ⟨i, hi, rfl⟩ := List.mem_iff_getElem.mp hb
          refine ⟨i, List.mem_range.mpr hi, ?_⟩
          rw [List.getD_eq_getElem?_getD, List.getElem?_eq_getElem hi]
          exact e
      rw [e]
      exact q
theorem kAny (hc : X.calm = true) (hK : X.K = K := by rfl) : CallR X (.builtin "any") (mAny K) := hK ▸ cm_any hc
end
end L2
namespace L2
theorem on1 {α : Type} {P : List α -> Prop} (h : ∀ a, P [a]) : ∀ us : List α, us.length = 1 -> P us
  | [a], _ => h a
theorem on2 {α : Type} {P : List α -> Prop} (h : ∀ a b, P [a, b]) : ∀ us : List α, us.length = 2 -> P us
  | [a, b], _ => h a b
theorem on3 {α : Type} {P : List α -> Prop} (h : ∀ a b c, P [a, b, c]) : ∀ us : List α, us.length = 3 -> P us
  | [a, b, c], _ => h a b c
theorem on4 {α : Type} {P : List α -> Prop} (h : ∀ a b c d, P [a, b, c, d]) : ∀ us : List α, us.length = 4 -> P us
  | [a, b, c, d], _ => h a b c d
open PySem in
theorem star_lst {xs es : List PySem.Expr} {p : Pos} {env : Env} : starEach (.List xs p :: es) env = (false, eval (.List xs p) env) :: starEach es env := by rfl
end L2
namespace L2
open PySem
end L2
namespace L2
open PySem PyProof.Rows
section
variable {prog : Program} {w : World} {A : Around} {E : Value -> Shared -> Prop} {s : Shared}
end
section
variable {X : Cx}
end
abbrev IsZp (h : Heap) (z TI TO : Addr) (f0 bb : Value) : Prop :=
  h.get? z = some { cls := .type "zip", dict := none, data := .fields #[f0, bb, .bool false, .ref TI, .ref TO], slots := #[] }
section
variable {prog : Program} {w : World} {A : Around} {E : Value -> Shared -> Prop} {s : Shared}
end
section
variable {prog : Program} {w : World} {A : Around} {E : Value -> Shared -> Prop} {s : Shared}
structure ZS (z TI TO i1 i2 l1 l2 T0 : Addr) (xs ys : Array Value) (i : Nat) (h : Heap) : Prop where
  zp : (i = 0 /\ IsZip h z TI TO .none) \/ (0 < i /\ (∃ b, IsZp h z TI TO (rawInt T0) b) /\ ∃ a b, IsPair h T0 a b)
  ti : IsPair h TI (.ref i1) (.ref i2)
  to : ∃ a b, IsPair h TO a b
  a1 : h.IsTupleIter i1 l1 i
  a2 : h.IsTupleIter i2 l2 i
  t1 : h.IsTuple l1 xs
  t2 : h.IsTuple l2 ys
end
section
variable {prog : Program} {w : World} {A : Around} {R : Result -> Shared -> Prop}
end
section
variable {prog : Program} {w : World} {A : Around} {R : Result -> Shared -> Prop} {s : Shared}
end
section
variable {prog : Program} {w : World} {A : Around} {E : Value -> Shared -> Prop} {s : Shared}
end
section
variable {X : Cx}
end
end L2
namespace L2
open PySem
def ins : Nat -> Nat -> Nat -> Nat
  | 0, b, q => 2 * q + b
  | i + 1, b, q => 2 * ins i b (q / 2) + q % 2
end L2
namespace L2
open PySem PyProof.Rows
section
variable {prog : Program} {w : World} {A : Around} {E : Value -> Shared -> Prop} {s : Shared}
end
section
variable {prog : Program} {w : World} {K : Type} [DecidableEq K] {knd : KeyKind prog w K} {A : Around} {R : Result -> Shared -> Prop}
end
section
variable {prog : Program} {w : World} {K : Type} [DecidableEq K] {knd : KeyKind prog w K} {A : Around} {E : Value -> Shared -> Prop} {s : Shared}
end
section
variable {X : Cx}
end
section
variable {prog : Program} {w : World} {A : Around} {E : Value -> Shared -> Prop} {s : Shared}
end
section
variable {prog : Program} {w : World} {A : Around} {E : Value -> Shared -> Prop} {s : Shared}
end
section
variable {prog : Program} {w : World} {K : Type} [DecidableEq K] {knd : KeyKind prog w K} {A : Around} {R : Result -> Shared -> Prop}
end
section
variable {prog : Program} {w : World} {K : Type} [DecidableEq K] {knd : KeyKind prog w K} {A : Around} {E : Value -> Shared -> Prop} {s : Shared}
end
section
variable {X : Cx}
end
section
variable {X : Cx}
end
section
variable {X : Cx} {K : PySem.W.Frag}
end
def mInsert : V -> List V -> Hp -> VK -> Prop := fun x vs H Q => match x, vs with
  | .ref l, [.int i, y] => ∃ xs, H l = some (.lst xs) /\ 0 <= i /\ i <= xs.length /\ xs.length < 1000 /\ Q .non (upd H l (.lst (xs.take i.toNat ++ y :: xs.drop i.toNat)))
  | _, _ => False
theorem vals_put : ∀ {xs : List V} {us : List Value} {y : V} {u : Value} (k : Nat), Vals xs us -> RelV y u -> Vals (xs.take k ++ y :: xs.drop k) (us.take k ++ u :: us.drop k)
  | _, _, _, _, 0, r, ry => by simpa using Paired.cons ry r
  | _, _, _, _, k + 1, .nil, ry => by simpa using Paired.cons ry .nil
  | _, _, _, _, k + 1, .cons r t, ry => by simpa using Paired.cons r (vals_put k t ry)
section
variable {X : Cx} {K : PySem.W.Frag} {o e e2 : Expr} {to : TE} {t : TA} {apos cpos : Pos}
theorem mm_insert : MtR X "list.insert" mInsert := by
  intro pins s σ H x vs v us Q I rx rv q
  match x, vs, q with
  | .ref l, [.int i, y], ⟨xs, hH, h1, h2, h3, q⟩ =>
  cases rx
  obtain ⟨u1, u, rfl, ⟨tk, rfl⟩, ru⟩ := vals2 rv
  obtain ⟨z, its, n, r, hl, e⟩ := I.lstM hH
  have hi63 : i < 2 ^ 63 := by omega
  have hfit : ¬ (!Builtin.List.listFitsIndex i) = true := by
    rw [fitsIndex_both (by omega) hi63]
    exact Bool.false_ne_true
  refine call_meets F.slot_list_insert ⟨_, e, rfl⟩ F.entry_list_insert (F.args_list_insert_3 _ _ _) (AutoListH.list_insert_list_int_val_1 l its.toArray n i tk u hfit (by rw [List.size_toArray]; omega)) ⟨e, ?_⟩
  refine ⟨.non, _, I.lset (its' := its.take i.toNat ++ u :: its.drop i.toNat) hH e ?_ (vals_put i.toNat r ru) ?_, rfl, q⟩
  . have hm : min i.toNat its.length = i.toNat := by omega
    show (have k := if i < 0 then (i + ((its.toArray.size : Nat) : Int)).toNat else min i.toNat its.toArray.size; (its.toArray.extract 0 k).push u ++ its.toArray.extract k) = _
    rw [if_neg (by omega), List.size_toArray, hm]
    apply Array.toList_inj.mp
    simp
    exact List.take_of_length_le (by rw [List.length_drop]; exact Nat.le_refl _)
  . rw [List.length_append, List.length_cons, List.length_take, List.length_drop]
    exact small_le (by omega)
theorem kInsert (ho : PE X o to) (ha : PA X [e, e2] t) (hbase : attributeBase o "insert" X.env (eval o X.env) = eval o X.env := by rfl)
    (hfew : ((backTo cpos (starEach [e, e2] X.env)).all (fun x => !x.1) && (backToKw cpos (keywordEach [] X.env)).all (fun x => x.1.isSome)
      && decide ([e, e2].length + ([] : List Keyword).length + (if ([] : List Keyword).isEmpty then 0 else 1) < 30)) = true := by rfl)
    (hline : (apos.endLine == cpos.line) = true := by rfl) (hs : starEach [e, e2] X.env = (false, eval e X.env) :: starEach [e2] X.env := by rfl) (hplain : (backTo cpos (starEach [e2] X.env)).any (·.1) = false := by rfl) (hK : X.K = K := by rfl) :
    PE X (.Call (.Attribute o "insert" apos) [e, e2] [] cpos) (tBM K "list" mInsert to t) := hK ▸ pe_bm PySem.F.plainAttrs_list PySem.F.slot_list_insert PySem.F.type_list_insert mm_insert ho ha hbase hfew hline hs hplain
def mPopAt : V -> List V -> Hp -> VK -> Prop := fun x vs H Q => match x, vs with
  | .ref l, [.int i] => ∃ xs y, H l = some (.lst xs) /\ 0 <= i /\ i < 2 ^ 63 /\ xs[i.toNat]? = some y /\ Q y (upd H l (.lst (xs.eraseIdx i.toNat)))
  | _, _ => False
theorem mm_popAt : MtR X "list.pop" mPopAt := by
  intro pins s σ H x vs v us Q I rx rv q
  match x, vs, q with
  | .ref l, [.int i], ⟨xs, y, h1, h2, h3, h4, q⟩ =>
  refine mt_popAt pins s σ H _ _ v us Q I rx rv ⟨l, xs, i, i.toNat, y, rfl, rfl, h1, by omega, h3, ?_, h4, q⟩
  have hn : i.toNat < xs.length := (List.getElem?_eq_some_iff.mp h4).1
  unfold seqIndex?
  have hi : ¬ i < 0 := by omega
  have hb : (decide (0 <= i) && decide (i < (xs.length : Int))) = true := by
    rw [decide_eq_true h2, decide_eq_true (by omega)]
    rfl
  simp only [if_neg hi, hb]
  rfl
theorem kPopAt (ho : PE X o to) (ha : PA X [e] t) (hbase : attributeBase o "pop" X.env (eval o X.env) = eval o X.env := by rfl)
    (hfew : ((backTo cpos (starEach [e] X.env)).all (fun x => !x.1) && (backToKw cpos (keywordEach [] X.env)).all (fun x => x.1.isSome)
      && decide ([e].length + ([] : List Keyword).length + (if ([] : List Keyword).isEmpty then 0 else 1) < 30)) = true := by rfl)
    (hline : (apos.endLine == cpos.line) = true := by rfl) (hs : starEach [e] X.env = (false, eval e X.env) :: starEach [] X.env := by rfl) (hplain : (backTo cpos (starEach [] X.env)).any (·.1) = false := by rfl) (hK : X.K = K := by rfl) :
    PE X (.Call (.Attribute o "pop" apos) [e] [] cpos) (tBM K "list" mPopAt to t) := hK ▸ pe_bm PySem.F.plainAttrs_list PySem.F.slot_list_pop PySem.F.type_list_pop mm_popAt ho ha hbase hfew hline hs hplain
theorem bm_insert : BMono mInsert := fun x xs H Q Q' h q => by
  unfold mInsert at *
  split at q
  . obtain ⟨ys, a, b, c, d, q⟩ := q; exact ⟨ys, a, b, c, d, h _ _ q⟩
  . exact q.elim
theorem bm_popAt : BMono mPopAt := fun x xs H Q Q' h q => by
  unfold mPopAt at *
  split at q
  . obtain ⟨ys, y, a, b, c, d, q⟩ := q; exact ⟨ys, y, a, b, c, d, h _ _ q⟩
  . exact q.elim
end
end L2
namespace L2
open PySem PySem.Spec PyProof.Rows
section
variable {X : Cx} {K : PySem.W.Frag}
end
end L2
namespace L2
open PySem PyProof.Rows
section
variable {X : Cx}
end
section
variable {X : Cx}
end
section
variable {X : Cx} {K : PySem.W.Frag}
end
end L2
namespace HT
open PySem PyProof.Rows
section
variable {prog : Program} {w : World} {A : Around} {E : Value -> Shared -> Prop} {s : Shared}
end
end HT
namespace L2
open PySem PySem.Spec PyProof.Rows
section
variable {X : Cx} {K : PySem.W.Frag} {e sx : Expr} {te ts : TE} {lo hi : Option Expr} {tl th : TO} {pos p2 : Pos}
end
end L2
namespace HT
open PySem PyProof.Rows
section
variable {prog : Program} {w : World} {A : Around} {E : Value -> Shared -> Prop} {s : Shared}
end
end HT
namespace L2
open PySem PySem.Spec PyProof.Rows
section
variable {X : Cx} {K : PySem.W.Frag}
end
section
variable {X : Cx} {K : PySem.W.Frag}
end
section
variable {X : Cx} {K : PySem.W.Frag} {e sx : Expr} {te ts : TE} {lo hi : Option Expr} {tl th : TO} {pos p2 : Pos}
end
abbrev BV := List (List Bool × Addr × V)
abbrev BVr : BV -> List (List Bool × Addr × Value) -> Prop := Paired fun p q => p.1 = q.1 /\ p.2.1 = q.2.1 /\ RelV p.2.2 q.2.2
def dV (P : Program) (w : World) (a : Addr) (kvs : BV) : HO := .ext fun h => ∃ xs o es ep, BVr kvs xs /\ h.get? a = some o /\ o.ExactDict /\ o.data = .dict es ep /\ es.toList = xs.map (entryOfKey (tupleKind (boolKind P w))) /\ (xs.map (·.1)).Nodup /\ xs.length <= sizeLine /\ (a == sysModules) = false
def KeysV (H : Hp) (kvs : BV) : Prop := ∀ q ∈ kvs, H q.2.1 = some (.tup (q.1.map V.bl))
theorem BVr.mem {kvs : BV} {xs : List (List Bool × Addr × Value)} (r : BVr kvs xs) : ∀ x ∈ xs, ∃ q ∈ kvs, q.1 = x.1 /\ q.2.1 = x.2.1 := by
  induction r with
  | nil => intro x hx; cases hx
  | @cons p q ps qs h t ih =>
    intro x hx
    rcases List.mem_cons.mp hx with e | e
    . subst e; exact ⟨p, List.mem_cons_self, h.1, h.2.1⟩
    . obtain ⟨y, hy, h1⟩ := ih x e
      exact ⟨y, List.mem_cons_of_mem _ hy, h1⟩
section
variable {P : Program} {w : World} {H : Hp} {h : Heap} {a : Addr}
theorem dv_of {kvs : BV} (ok : HOk P w H h) (e : Rd H a (dV P w a kvs)) (hk : KeysV H kvs) : ∃ xs, BVr kvs xs /\ xs.length <= sizeLine /\ (a == sysModules) = false /\ h.DictOfH (tupleKind (boolKind P w)) a xs := by
  obtain ⟨⟨xs, o, es, ep, h0, h1, h2, h3, h4, h5, h6, h7⟩, _⟩ := (show ObjOk P w H h a (dV P w a kvs) from e.ok ok)
  refine ⟨xs, h0, h6, h7, o, es, ep, h1, h2, h3, h4, fun x hx => ?_, h5⟩
  obtain ⟨q, hq, e1, e2⟩ := h0.mem x hx
  rw [<- e1, <- e2]
  exact key_bl ok (hk q hq)
theorem dv_new {kvs : BV} {xs : List (List Bool × Addr × Value)} {H' : Hp} (r : BVr kvs xs) (hl : xs.length <= sizeLine) (hd : (a == sysModules) = false) (dd : h.DictOfH (tupleKind (boolKind P w)) a xs) : ObjOk P w H' h a (dV P w a kvs) := by
  obtain ⟨o, es, ep, h1, h2, h3, h4, _, h5⟩ := dd
  exact ⟨⟨xs, o, es, ep, r, h1, h2, h3, h4, h5, hl, hd⟩, ⟨o, h1⟩, fun g1 g2 ⟨xs, o, es, ep, r, h1, h2, h3, h4, h5, h6, h7⟩ k => ⟨xs, o, es, ep, r, k _ h1, h2, h3, h4, h5, h6, h7⟩⟩
end
def atB (kvs : BV) (ks : List Bool) : Option V := (kvs.find? fun q => decide (q.1 = ks)).map fun q => q.2.2
def setAtB (kvs : BV) (ks : List Bool) (b : Addr) (v : V) : BV := if (atB kvs ks).isSome = true then kvs.map (fun q => if q.1 = ks then (q.1, q.2.1, v) else q) else kvs ++ [(ks, b, v)]
theorem BVr.val {kvs : BV} {xs : List (List Bool × Addr × Value)} (r : BVr kvs xs) (ks : List Bool) : RelO (atB kvs ks) ((atKey xs ks).map (·.2)) := by
  unfold atB atKey
  induction r with
  | nil => exact True.intro
  | @cons p q ps qs h t ih =>
    rw [List.find?_cons, List.find?_cons]
    by_cases e : p.1 = ks
    . have e2 : q.1 = ks := by rw [<- h.1]; exact e
      simp only [e, e2, decide_true]
      exact h.2.2
    . have e2 : ¬ q.1 = ks := by rw [<- h.1]; exact e
      simp only [e, e2, decide_false]
      exact ih
theorem relO_some {x : Option V} {y : Option Value} (r : RelO x y) : x.isSome = y.isSome := by
  cases x <;> cases y <;> first | rfl | exact False.elim r
theorem BVr.put {kvs : BV} {xs : List (List Bool × Addr × Value)} {v : V} {u : Value} (r : BVr kvs xs) (ks : List Bool) (b : Addr) (rv : RelV v u) : BVr (setAtB kvs ks b v) (storedH xs ks b u) := by
  have e := relO_some (r.val ks)
  rw [Option.isSome_map] at e
  unfold setAtB storedH
  by_cases c : (atKey xs ks).isSome = true
  . rw [if_pos c, if_pos (by rw [e]; exact c)]
    clear e c
    induction r with
    | nil => exact .nil
    | @cons p q ps qs h t ih =>
      rw [List.map_cons, List.map_cons]
      refine .cons ?_ ih
      unfold putAt
      by_cases c : p.1 = ks
      . rw [if_pos c, if_pos (by rw [<- h.1]; exact c)]
        exact ⟨h.1, h.2.1, rv⟩
      . rw [if_neg c, if_neg (by rw [<- h.1]; exact c)]
        exact h
  . rw [if_neg c, if_neg (by rw [e]; exact c)]
    exact Paired.snoc r ⟨rfl, rfl, rv⟩
theorem setAtB_len (kvs : BV) (ks : List Bool) (b : Addr) (v : V) : (setAtB kvs ks b v).length <= kvs.length + 1 := by
  unfold setAtB
  split
  . rw [List.length_map]; omega
  . rw [List.length_append]; exact Nat.le_refl _
theorem KeysV.same {H H' : Hp} {kvs : BV} (h : KeysV H kvs) (s : ∀ b ys, H b = some (.tup ys) -> H' b = some (.tup ys)) : KeysV H' kvs := fun q hq => s _ _ (h q hq)
theorem KeysV.upd {P : Program} {w : World} {H : Hp} {kvs k1 : BV} {a : Addr} {o : HO} (h : KeysV H kvs) (e : H a = some (dV P w a k1)) : KeysV (upd H a o) kvs := fun q hq => by
  have := h q hq
  rw [upd_ne (fun z => by rw [z, e] at this; exact nomatch Option.some.inj this)]
  exact this
section
variable {X : Cx} {o i e f value : Expr} {pos pos' tpos apos cpos : Pos} {td ty tx tv : TE}
def rGetV (P : Program) (w : World) : R2 := fun x y H Q => match x, y with
  | .ref a, .ref b => ∃ kvs ks v, H b = some (.tup (ks.map V.bl)) /\ Rd H a (dV P w a kvs) /\ KeysV H kvs /\ atB kvs ks = some v /\ Q v H
  | _, _ => False
theorem pe_getV (hu : X.A.units + 60 < cLine) (ho : PE X o td) (hi : PE X i ty) (hs : NoSl i := by intro _ _; rfl) : PE X (.Subscript o i pos) (tOp (rGetV X.prog X.w) td ty) := by
  intro pins s σ H Q I h
  refine subD_of PySem.F.slot_dict_getitem.lookup hs (thn (ho pins s σ H _ I h) fun u s1 ⟨x, H1, I1, rx, q1⟩ => thn (hi pins s1 σ H1 _ I1 q1) fun iv s2 ⟨y, H2, I2, ry, q⟩ => ?_)
  cases x <;> cases y <;> first
    | exact False.elim q
    | (obtain ⟨kvs, ks, v, h1, h2, h3, h4, q⟩ := q
       cases (show u = Value.ref _ from rx)
       cases (show iv = Value.ref _ from ry)
       obtain ⟨xs, r, z, hd, dd⟩ := dv_of I2.hok h2 h3
       obtain ⟨w', hw, rw'⟩ := RelO.some_of (v := v) (o := (atKey xs ks).map (·.2)) (by rw [<- h4]; exact r.val ks)
       obtain ⟨p, hp, hp2⟩ := Option.map_eq_some_iff.mp hw
       refine ⟨dd.typeIs, wpAny_getItem_heap (tupleKind_room_in1 (by omega)) (key_bl I2.hok h1) dd hp ?_⟩
       rw [hp2]
       exact ⟨v, H2, I2.tok _, rw', q⟩)
def tGet2V (P : Program) (w : World) (td ty tx : TE) : TE := fun σ H Q => td σ H fun x H1 => ∃ a kvs, x = .ref a /\ Rd H1 a (dV P w a kvs) /\ KeysV H1 kvs /\ ty σ H1 fun y H2 => tx σ H2 fun z H3 => ∃ b ks kvs, y = .ref b /\ H3 b = some (.tup (ks.map V.bl)) /\ Rd H3 a (dV P w a kvs) /\ KeysV H3 kvs /\ Q ((atB kvs ks).getD z) H3
theorem pe_get2V (hu : X.A.units + 60 < cLine) (ho : PE X o td) (he : PE X e ty) (hf : PE X f tx) (m : M2 X o "get" apos e f cpos) : PE X (.Call (.Attribute o "get" apos) [e, f] [] cpos) (tGet2V X.prog X.w td ty tx) := by
  intro pins s σ H Q I h
  refine wpAny_Call_method m.base m.few m.line PySem.F.plainAttrs_dict PySem.F.slot_dict_get PySem.F.type_dict_get (thn (ho pins s σ H _ I h) fun u s1 ⟨x, H1, I1, rx, a, kvs, ex, d1, d2, q1⟩ => ?_)
  subst ex
  obtain rfl : u = Value.ref a := rx
  obtain ⟨xs, r, z, hd, dd⟩ := dv_of I1.hok d1 d2
  refine ⟨dd.typeIs, fun b eb => ?_, ?_⟩
  . cases eb
    obtain ⟨o', es, ep, h1, h2, _⟩ := id dd
    exact ⟨o', h1, h2.2.1⟩
  rw [m.trees]
  refine Calls.callWith_builtin rfl (Calls.evalArgs_plain (Calls.spliced_cons (thn (he pins s1 σ H1 _ I1 q1) fun iv s2 ⟨y, H2, I2, ry, q2⟩ =>
    Calls.spliced_cons (thn (hf pins s2 σ H2 _ I2 q2) fun fv s3 ⟨zz, H3, I3, rz, b, ks, kvs3, ey, hb, d3, d4, q3⟩ => Calls.spliced_nil ?_))))
  subst ey
  cases (show iv = Value.ref _ from ry)
  obtain ⟨xs3, r3, z3, hd3, dd3⟩ := dv_of I3.hok d3 d4
  refine call_meetsIn PySem.F.slot_dict_get dd3.typeIs PySem.F.entry_dict_get (PySem.F.args_dict_get_3 _ _ _) (meetsH_dict_get_default (tupleKind (boolKind X.prog X.w)) a b hd3 fv) ⟨tupleKind_room_in1 (by omega), ks, xs3, key_bl I3.hok hb, dd3, ⟨_, H3, I3.tok _, ?_, q3⟩⟩
  exact (r3.val ks).getD rz
def rSetV (P : Program) (w : World) : TSet := fun o i v H Q => match o, i with
  | .ref a, .ref b => ∃ kvs ks, H b = some (.tup (ks.map V.bl)) /\ H a = some (dV P w a kvs) /\ KeysV H kvs /\ kvs.length < sizeLine /\ Q (upd H a (dV P w a (setAtB kvs ks b v)))
  | _, _ => False
theorem set_V (hu : X.A.units + 60 < cLine) : PSet X (rSetV X.prog X.w) := by
  intro pins s σ H o i v ov iv u Q I ro ri rv h
  cases o <;> cases i <;> first
    | exact False.elim h
    | (obtain ⟨kvs, ks, h1, h2, h3, h5, q⟩ := h
       cases (show ov = Value.ref _ from ro)
       cases (show iv = Value.ref _ from ri)
       obtain ⟨xs, r, z, hd, dd⟩ := dv_of I.hok (.inl h2) h3
       refine wpAny_setItem_heap (hsz := z) (tupleKind_room_in1 (by omega)) (key_bl I.hok h1) dd fun h' dd' hs => ?_
       have he : ∃ q, h'.get? _ = some q := let ⟨q, _, _, hq, _⟩ := dd'; ⟨q, hq⟩
       refine ⟨_, d_write I (by rw [h2]; exact True.intro) hs he (dv_new (r.put ks _ rv) ?_ hd dd'), q⟩
       rw [<- Paired.length (r.put ks _ rv)]
       exact Nat.le_trans (setAtB_len _ _ _ _) h5)
def tNewV (P : Program) (w : World) : TE := fun _ H Q => ∀ p, H p = none -> Q (.ref p) (upd H p (dV P w p []))
theorem pe_newV {pos : Pos} : PE X (.Dict [] [] pos) (tNewV X.prog X.w) := fun pins s σ H Q I h =>
  wpAny_Dict_empty ⟨.ref s.heap.objs.size, _, I.laid (a := s.heap.objs.size) (o := dV X.prog X.w s.heap.objs.size []) (t' := s.toks) (fun _ _ q => Heap.get?_push_of_some _ q) (Nat.le_refl _)
    (dv_new .nil (Nat.zero_le _) (beq_eq_false_iff_ne.mpr (Ne.symm (Nat.ne_of_lt I.big))) ⟨_, #[], 0, Heap.get?_push_size _ rfl, ⟨rfl, rfl, rfl⟩, rfl, rfl, (fun x hx => by cases hx), List.nodup_nil⟩), rfl, h _ (I.hok.fresh (Nat.le_refl _))⟩
end
section
variable {X : Cx} {P : Program} {w : World} {o i e f : Expr} {pos apos cpos : Pos} {td ty tx : TE}
theorem kNewV (hP : X.prog = P := by rfl) (hw : X.w = w := by rfl) : PE X (.Dict [] [] pos) (tNewV P w) := by subst hP hw; exact pe_newV
theorem kGetV (hu : X.A.units + 60 < cLine) (ho : PE X o td) (hi : PE X i ty) (hs : NoSl i := by intro _ _; rfl) (hP : X.prog = P := by rfl) (hw : X.w = w := by rfl) : PE X (.Subscript o i pos) (tOp (rGetV P w) td ty) := by subst hP hw; exact pe_getV hu ho hi hs
theorem kGet2V (hu : X.A.units + 60 < cLine) (ho : PE X o td) (he : PE X e ty) (hf : PE X f tx) (m : M2 X o "get" apos e f cpos) (hP : X.prog = P := by rfl) (hw : X.w = w := by rfl) : PE X (.Call (.Attribute o "get" apos) [e, f] [] cpos) (tGet2V P w td ty tx) := by subst hP hw; exact pe_get2V hu ho he hf m
theorem kSetV (hu : X.A.units + 60 < cLine) (hP : X.prog = P := by rfl) (hw : X.w = w := by rfl) : PSet X (rSetV P w) := by subst hP hw; exact set_V hu
end
theorem sm_setV {P w} : SetMono (rSetV P w) := fun o i v H Q Q' h q => by
  unfold rSetV at *
  split at q
  . obtain ⟨xs, ks, a, b, c, d, q⟩ := q; exact ⟨xs, ks, a, b, c, d, h _ q⟩
  . exact q.elim
theorem em_get2V {P w} {td ty tx : TE} (h1 : EMono td) (h2 : EMono ty) (h3 : EMono tx) : EMono (tGet2V P w td ty tx) := fun σ H Q Q' h q => h1 _ _ _ _ (fun _ _ ⟨a, k, e, d, d2, q⟩ => ⟨a, k, e, d, d2, h2 _ _ _ _ (fun _ _ q => h3 _ _ _ _ (fun _ _ ⟨b, ks, k2, g1, g2, g3, g4, q⟩ => ⟨b, ks, k2, g1, g2, g3, g4, h _ _ q⟩) q) q⟩) q
section
variable {prog : Program} {w : World} {A : Around} {E : Value -> Shared -> Prop} {s : Shared} {d it : Addr} {o : Obj} {es : Array DictEntry} {ep i : Nat}
theorem iter_raw {Q : Value -> Shared -> Prop} (hd : (d == sysModules) = false) (ho : s.heap.get? d = some o) (hc : o.ExactDict) (hdat : o.data = .dict es ep)
    (hQ : Q (.ref s.heap.objs.size) { s with heap := s.heap.push { cls := .type "dict_keyiterator", data := .fields #[.ref d, .int 0 0, .int es.size 0, .int ep 0] } }) : wpAny (model prog w) A (pyIter (.ref d)) Q E s := by
  have hT : s.TypeIs (.ref d) "dict" := ⟨o, ho, hc.1⟩
  refine wpAny_pyIter_slot hT F.slot_dict_iter (wpAny_call_entry F.slot_dict_iter hT F.entry_dict_iter ?_ (F.args_dict_iter_1 _))
  unfold Builtin.«dict.__iter__»
  refine wpAny_bind ?_
  unfold Builtin.Dict.dictSlotNone
  refine wpAny_bind (wpAny_notOrdered_dict hT ?_)
  show wpAny _ _ (pure (Value.ref d)) _ _ s
  refine wpAny_pure ?_
  show wpAny _ _ (Builtin.Dict.showsAll d >>= _) _ _ s
  unfold Builtin.Dict.showsAll
  rw [if_neg (by rw [hd]; exact Bool.false_ne_true)]
  refine wpAny_bind (wpAny_pure ?_)
  refine wpAny_bind (wpAny_dictEntries ho hdat ?_)
  refine wpAny_bind (wpAny_dictEpoch ho hdat ?_)
  refine wpAny_bind (wpAny_newObj_type (wpAny_pure ⟨_, rfl, "dict_keyiterator", _, ⟨_, Heap.get?_push_size _ rfl, rfl⟩, F.slot_dict_keyiterator_next.lookup, ?_⟩))
  simpa [rawInt] using hQ
theorem next_raw_item {Q : Option Value -> Shared -> Prop} (hit : s.heap.IsKeyIter it d i es.size ep) (hod : s.heap.get? d = some o) (hdd : o.data = .dict es ep) (hlt' : i < es.size)
    (hQ : ∀ h', h'.IsKeyIter it d (i + 1) es.size ep -> Heap.SameBut it s.heap h' -> Q (some es[i].key) { s with heap := h' }) : wpAny (model prog w) A (pyNext (.ref it)) Q E s := by
  obtain ⟨o1, ho, hc, hd⟩ := id hit
  unfold pyNext
  refine wpAny_bind (wpAny_attempt (wpAny_callSpecial?_slot (name := Str.ofString "__next__") hit.typeIs F.slot_dict_keyiterator_next
    (wpAny_call_entry F.slot_dict_keyiterator_next hit.typeIs F.entry_dict_keyiterator_next ?_ (F.args_dict_keyiterator_next_1 _))))
  refine wpAny_bind (wpAny_pure ?_)
  refine wpAny_bind ?_
  refine wpAny_bind ?_
  first | refine wpAny_bind (wpAny_typeNameOfWhole_keyiter hit.typeIs (wpAny_pure ?_)) | refine wpAny_bind (wpAny_typeNameOf_keyiter hit.typeIs (wpAny_pure ?_))
  refine wpAny_bind (wpAny_fieldsOf ho hd ?_)
  have hown : Builtin.Dict_items.ownsTuple "dict_keyiterator" = false := by decide
  simp only [hown, Bool.false_eq_true, if_false]
  show wpAny _ _ (if (Value.ref d == Value.none) = true then _ else _) _ _ s
  rw [if_neg (show ¬ ((Value.ref d == Value.none) = true) from Bool.false_ne_true)]
  refine wpAny_bind (wpAny_pure ?_)
  refine wpAny_bind (wpAny_dictEntries hod hdd ?_)
  rw [if_neg (by simp)]
  refine wpAny_bind (wpAny_pure ?_)
  refine wpAny_bind (wpAny_dictEpoch hod hdd ?_)
  rw [if_neg (by simp)]
  refine wpAny_pure ?_
  simp only [show ¬ ((i : Int) < 0) from by omega, if_false, Int.toNat_natCast, Array.getElem?_eq_getElem hlt']
  refine wpAny_bind ?_
  first | refine wpAny_bind (wpAny_typeNameOfWhole_keyiter hit.typeIs (wpAny_pure ?_)) | refine wpAny_bind (wpAny_typeNameOf_keyiter hit.typeIs (wpAny_pure ?_))
  refine wpAny_bind (wpAny_isOneOf_keyiter hit.typeIs ?_)
  show wpAny _ _ (setField (.ref it) 1 (rawInt ((i : Int) + 1)) >>= _) _ _ s
  refine wpAny_bind (wpAny_setField ho hd (by simp) ?_)
  have hit' : (s.heap.update it (Obj.mapFields (·.setIfInBounds 1 (rawInt ((i : Int) + 1))))).IsKeyIter it d (i + 1) es.size ep :=
    ⟨_, Heap.get?_update_self _ ho (Obj.isFreed_of_fields (Obj.data_mapFields hd _)), (Obj.cls_mapFields ..).trans hc, by rw [Obj.data_mapFields hd]; simp [rawInt]⟩
  refine wpAny_bind (wpAny_holding ?_)
  refine wpAny_bind (wpAny_isOneOf_keyiter (s := { s with heap := s.heap.update it (Obj.mapFields (·.setIfInBounds 1 (rawInt ((i : Int) + 1)))) }) hit'.typeIs ?_)
  show wpAny _ _ (pure es[i].key) _ _ _
  exact wpAny_pure (wpAny_pure ⟨_, rfl, wpAny_pure (hQ _ hit' (Heap.SameBut.update ..))⟩)
theorem next_raw_end {Q : Option Value -> Shared -> Prop} (hh : A.handled = none) (hit : s.heap.IsKeyIter it d i es.size ep) (hod : s.heap.get? d = some o) (hdd : o.data = .dict es ep) (hge : es.size <= i)
    (hQ : ∀ h', Heap.ExtBut it s.heap h' -> Q none { s with heap := h' }) : wpAny (model prog w) A (pyNext (.ref it)) Q E s := by
  obtain ⟨o1, ho, hc, hd⟩ := id hit
  unfold pyNext
  refine wpAny_bind (wpAny_attempt (wpAny_callSpecial?_slot (name := Str.ofString "__next__") hit.typeIs F.slot_dict_keyiterator_next
    (wpAny_call_entry F.slot_dict_keyiterator_next hit.typeIs F.entry_dict_keyiterator_next ?_ (F.args_dict_keyiterator_next_1 _))))
  refine wpAny_bind (wpAny_pure ?_)
  refine wpAny_bind ?_
  refine wpAny_bind ?_
  first | refine wpAny_bind (wpAny_typeNameOfWhole_keyiter hit.typeIs (wpAny_pure ?_)) | refine wpAny_bind (wpAny_typeNameOf_keyiter hit.typeIs (wpAny_pure ?_))
  refine wpAny_bind (wpAny_fieldsOf ho hd ?_)
  have hown : Builtin.Dict_items.ownsTuple "dict_keyiterator" = false := by decide
  simp only [hown, Bool.false_eq_true, if_false]
  show wpAny _ _ (if (Value.ref d == Value.none) = true then _ else _) _ _ s
  rw [if_neg (show ¬ ((Value.ref d == Value.none) = true) from Bool.false_ne_true)]
  refine wpAny_bind (wpAny_pure ?_)
  refine wpAny_bind (wpAny_dictEntries hod hdd ?_)
  rw [if_neg (by simp)]
  refine wpAny_bind (wpAny_pure ?_)
  refine wpAny_bind (wpAny_dictEpoch hod hdd ?_)
  rw [if_neg (by simp)]
  refine wpAny_pure ?_
  simp only [show ¬ ((i : Int) < 0) from by omega, if_false, Int.toNat_natCast, Array.getElem?_eq_none hge]
  refine wpAny_bind ?_
  first | refine wpAny_bind (wpAny_typeNameOfWhole_keyiter hit.typeIs (wpAny_pure ?_)) | refine wpAny_bind (wpAny_typeNameOf_keyiter hit.typeIs (wpAny_pure ?_))
  show wpAny _ _ (setField (.ref it) 0 .none >>= _) _ _ s
  refine wpAny_bind (wpAny_setField ho hd (by simp) ?_)
  show wpAny _ _ (newExc (.type "StopIteration") [] >>= _) _ _ _
  refine wpAny_bind ?_
  simp only [newExc, newTuple]
  refine wpAny_bind (wpAny_newObj_type ?_ (by size_fits))
  refine wpAny_bind (m := firstArgMember _ _) (wpAny_of_eq (a := Value.none) (by first | rfl | (simp only [firstArgMember]; rfl)) ?_)
  refine wpAny_newObj_type ?_ (by size_fits)
  simp only [raiseNew]
  refine wpAny_bind (wpAny_handled ?_)
  rw [show A.in1.handled = none from hh]
  refine wpAny_bind (wpAny_pure (wpAny_throw ?_))
  refine wpAny_bind (wpAny_isInstance (T := "StopIteration") (b := true) ⟨_, Heap.get?_push_size _ rfl, rfl⟩ isSubtype_stop ?_)
  exact wpAny_pure (hQ _ (((Heap.SameBut.update ..).extBut.push _).push _))
end
section
variable {X : Cx} {pins : List (Addr × Obj)} {σ : St} {H : Hp} {s : Shared}
theorem Inv.holdV {d : Addr} {kvs : BV} (I : Inv X pins σ H s) (h : H d = some (dV X.prog X.w d kvs)) : ∃ o, s.heap.get? d = some o /\ Inv X pins σ (upd H d (.frz o (dV X.prog X.w d kvs))) s := by
  obtain ⟨hp, ⟨o, ho⟩, hk⟩ := (show ObjOk X.prog X.w H s.heap d (dV X.prog X.w d kvs) from I.hok d _ h)
  refine ⟨o, ho, ?_⟩
  have := I.write (x := d) (e := d) (o := .frz o (dV X.prog X.w d kvs)) (h' := s.heap) (t' := s.toks) (by rw [h]; exact True.intro) (.inl rfl) (fun b u _ q => q) ⟨o, ho⟩ ⟨ho, hp, ⟨o, ho⟩, hk⟩
  exact this
theorem BVr.get {kvs : BV} {xs : List (List Bool × Addr × Value)} (r : BVr kvs xs) : ∀ {i : Nat} {q : List Bool × Addr × V}, kvs[i]? = some q -> ∃ x, xs[i]? = some x /\ x.2.1 = q.2.1 := by
  induction r with
  | nil => intro i q e; simp at e
  | @cons a b l1 l2 h t ih =>
    intro i q e
    cases i with
    | zero =>
      simp at e; subst e
      exact ⟨b, by simp, h.2.1.symm⟩
    | succ i =>
      obtain ⟨v, h1, h2⟩ := ih (i := i) (q := q) (by simpa using e)
      exact ⟨v, by simpa using h1, h2⟩
theorem Inv.heldV {d : Addr} {o : Obj} {kvs : BV} (I : Inv X pins σ H s) (h : H d = some (.frz o (dV X.prog X.w d kvs))) : s.heap.get? d = some o /\ (d == sysModules) = false /\ o.ExactDict /\ ∃ es ep, o.data = .dict es ep /\ es.size = kvs.length /\ ∀ i (hi : i < es.size) q, kvs[i]? = some q -> es[i].key = .ref q.2.1 := by
  obtain ⟨ho, ⟨xs, o', es, ep, h0, h1, h2, h3, h4, h5, h6, h7⟩, _⟩ := (show ObjOk X.prog X.w H s.heap d (.frz o (dV X.prog X.w d kvs)) from I.hok d _ h)
  rw [ho] at h1; cases h1
  have hl : es.size = xs.length := by rw [<- Array.length_toList, h4, List.length_map]
  refine ⟨ho, h7, h2, es, ep, h3, by rw [hl, <- Paired.length h0], fun i hi q hq => ?_⟩
  obtain ⟨x, hx, e⟩ := h0.get hq
  have e1 : es.toList[i]? = some es[i] := by simp [hi]
  rw [h4, List.getElem?_map, hx] at e1
  have e2 := (Option.some.inj e1).symm
  rw [e2, <- e]
  rfl
end
def ItkV (P : Program) (w : World) (d : Addr) (o : Obj) (kvs : BV) : It :=
  ⟨fun i H => i < kvs.length /\ H d = some (.frz o (dV P w d kvs)),
   fun i H v H' => H' = H /\ ∃ q, kvs[i]? = some q /\ v = .ref q.2.1,
   fun i H => H d = some (.frz o (dV P w d kvs)) /\ kvs.length <= i⟩
theorem turn_keysV {P : Program} {w : World} {K : PySem.W.Frag} {tg : Expr} {it d : Addr} {o : Obj} {es : Array DictEntry} {ep : Nat} {kvs : BV} (hdat : o.data = .dict es ep) :
    Turn P w K tg (ItkV P w d o kvs) [it] it (fun i h => h.IsKeyIter it d i es.size ep) where
  mem := by simp
  obj := fun i h st b hb => by
    obtain rfl : b = it := by simpa using hb
    obtain ⟨o, e, c, d⟩ := st
    exact ⟨o, e, fun v z => by rw [d] at z; cases z⟩
  keep := fun i h h' ⟨o, e, r⟩ k => ⟨o, k it (by simp) _ e, r⟩
  item := by
    intro X hP hw hK hc i pins s σ H E I hf st hg
    subst hP hw hK
    obtain ⟨hlt, hq1⟩ := hg
    obtain ⟨ho, hs, hx, es', ep', hd', hsz, hk⟩ := I.heldV hq1
    rw [hdat] at hd'; cases hd'
    obtain ⟨f0, f1, f2, f3, f4, f5⟩ := hf it (by simp)
    have hi : i < es.size := by rw [hsz]; exact hlt
    have hq := hk i hi kvs[i] (by simp [hlt])
    refine next_raw_item st ho hdat hi fun h' st' sb => ?_
    have I1 : Inv X pins σ H { s with heap := h' } := I.turned (t' := s.toks) (fun b o hb e => (sb.2 b hb).trans e) f0 f1 f3 f4 f5
    obtain ⟨o', e, c, d'⟩ := id st'
    exact ⟨_, rfl, go_of (s := { s with heap := h' }) e c d' (by decide) ⟨.ref kvs[i].2.1, H, I1, hq, ⟨rfl, kvs[i], by simp [hlt], rfl⟩, st', fun b hb => (hf b hb).1⟩⟩
  done := by
    intro X hP hw hK hc i pins s σ H E I hf st hg
    subst hP hw hK
    obtain ⟨hq1, hl⟩ := hg
    obtain ⟨ho, hs, hx, es', ep', hd', hsz, hk⟩ := I.heldV hq1
    rw [hdat] at hd'; cases hd'
    obtain ⟨f0, f1, f2, f3, f4, f5⟩ := hf it (by simp)
    exact next_raw_end (I.ok.hd hc) st ho hdat (by omega) fun h' eb => ⟨rfl, I.turned (t' := s.toks) (fun b o hb e => eb b o hb e) f0 f1 f3 f4 f5⟩
  self := fun _ _ _ _ _ st h => wpAny_pyIter_keyiter st h
def toHeldV (P : Program) (w : World) (x : V) (H : Hp) (R : Addr -> Obj -> BV -> Hp -> Prop) : Prop := match x with
  | .ref d => ∃ kvs, (H d = some (dV P w d kvs) /\ ∀ o, R d o kvs (upd H d (.frz o (dV P w d kvs)))) \/ ∃ o, H d = some (.frz o (dV P w d kvs)) /\ R d o kvs H
  | _ => False
theorem toHeldV_of {X : Cx} {pins : List (Addr × Obj)} {σ : St} {H : Hp} {s : Shared} {x : V} {v : Value} {R : Addr -> Obj -> BV -> Hp -> Prop} (I : Inv X pins σ H s) (r : RelV x v) (h : toHeldV X.prog X.w x H R) :
    ∃ d kvs o H2, v = .ref d /\ Inv X pins σ H2 s /\ H2 d = some (.frz o (dV X.prog X.w d kvs)) /\ R d o kvs H2 := by
  cases x with
  | ref d =>
    cases r
    obtain ⟨kvs, h⟩ := h
    rcases h with ⟨e, q⟩ | ⟨o, e, q⟩
    . obtain ⟨o, ho, I2⟩ := I.holdV e
      exact ⟨d, kvs, o, _, rfl, I2, upd_same, q o⟩
    . exact ⟨d, kvs, o, H, rfl, I, e, q⟩
  | _ => exact False.elim h
def iKeysV (P : Program) (w : World) (to : TE) : TI := fun σ H R => to σ H fun x H1 => toHeldV P w x H1 fun d o kvs H2 => R (ItkV P w d o kvs) H2
theorem kKeysV {P : Program} {w : World} {X : Cx} {tg oe : Expr} {to : TE} (ho : PE X oe to) (hP : X.prog = P := by rfl) (hw : X.w = w := by rfl) : PI X tg oe (iKeysV P w to) := by
  subst hP hw
  intro pins s σ H R I h
  refine thn (ho pins s σ H _ I h) fun v s1 ⟨x, H1, I1, r1, q1⟩ => ?_
  obtain ⟨d, kvs, o, H2, rfl, I2, hd2, q⟩ := toHeldV_of I1 r1 q1
  obtain ⟨ho', hs, hx, es, ep, e3, hsz, hk⟩ := I2.heldV hd2
  refine iter_raw hs ho' hx e3 ?_
  refine ⟨s1.heap.objs.size, [s1.heap.objs.size], _, _, H2, rfl, I2.kept (t' := s1.toks) fun b o e => Heap.get?_push_of_some _ e, turn_keysV e3, ⟨_, Heap.get?_push_size _ rfl, rfl, rfl⟩, fun b hb => ?_, q⟩
  obtain rfl : b = s1.heap.objs.size := by simpa using hb
  exact I2.fpOk (Nat.le_refl _) (I2.hok.fresh (Nat.le_refl _))
theorem comp_keysV {P : Program} {w : World} {d : Addr} {o : Obj} {kvs : BV} {g : TG} {tc : TT} {te : TE} {σc : St} {Q : VK} {H : Hp} (Pv : Nat -> List V -> Hp -> Prop) (h0 : Pv 0 [] H) (hl : ∀ i ys H, i <= kvs.length -> Pv i ys H -> H d = some (.frz o (dV P w d kvs)))
    (hz : ∀ i ys H, i < kvs.length -> Pv i ys H -> ys.length < sizeLine)
    (hs : ∀ i r ys H, kvs[i]? = some r -> Pv i ys H -> g (.ref r.2.1) σc H fun σ2 H2 => tc σ2 H2 fun b H3 => if b = true then te σ2 H3 fun y H4 => Pv (i + 1) (ys ++ [y]) H4 else Pv (i + 1) ys H3)
    (hd : ∀ ys H, Pv kvs.length ys H -> ∀ p, H p = none -> Q (.ref p) (upd H p (.lst ys))) : CompTurns (ItkV P w d o kvs) g tc te σc Q H := by
  refine ⟨fun i m ys H => m = kvs.length - i /\ i <= kvs.length /\ Pv i ys H, ⟨kvs.length, by simp, Nat.zero_le _, h0⟩, ?_⟩
  rintro i m ys H ⟨rfl, hi, p⟩
  have q := hl i ys H hi p
  by_cases hlt : i < kvs.length
  . refine .inr ⟨⟨hlt, q⟩, hz i ys H hlt p, Pv (i + 1), fun ys' H' p' => ⟨kvs.length - (i + 1), by omega, rfl, hlt, p'⟩, fun x H' y => ?_⟩
    obtain ⟨rfl, r, e2, rfl⟩ := y
    exact hs i r ys _ e2 p
  . have e : i = kvs.length := by omega
    subst e
    exact .inl ⟨⟨q, Nat.le_refl _⟩, hd ys H p⟩
section
variable {X : Cx} {K : PySem.W.Frag}
end
end L2
namespace Mine
open PySem L2
def top (i : Nat) : Stmt := PySem.Challenge.pw_flips_k90_whole_what_is_let_by_is_neares.main.body.getD i (.Pass ⟨0, 0, 0, 0⟩)
abbrev s_is_whole : Stmt := top 1
abbrev s_is_below : Stmt := top 2
abbrev s_two_to : Stmt := top 3
abbrev s_power_of : Stmt := top 4
abbrev s_is_place : Stmt := top 7
abbrev s_is_table : Stmt := top 8
abbrev s_switches_of : Stmt := top 9
abbrev s_within : Stmt := top 10
abbrev s_many_in : Stmt := top 11
abbrev s_sets_of : Stmt := top 12
abbrev s_hangs_on : Stmt := top 14
abbrev s_is_pair : Stmt := top 19
abbrev s_sum_of : Stmt := top 20
abbrev s_told : Stmt := top 21
abbrev s_weights_of : Stmt := top 22
abbrev s_weights_within : Stmt := top 23
abbrev s_sum_from : Stmt := top 24
abbrev s_times_signs : Stmt := top 25
abbrev s_crossed : Stmt := top 26
abbrev s_met : Stmt := top 28
abbrev s_lets_near : Stmt := top 31
abbrev s_has_paper_form : Stmt := top 32
abbrev s_lead_of : Stmt := top 33
abbrev s_covers_all : Stmt := top 34
abbrev s_is_so : Stmt := top 35
abbrev s_setting_by_setting : Stmt := top 36
abbrev s_best_on : Stmt := top 38
abbrev s_differences : Stmt := top 39
abbrev s_nearest : Stmt := top 40
abbrev s_near_paper : Stmt := top 42
abbrev s__law_tape : Stmt := top 44
abbrev s__law_next : Stmt := top 45
abbrev s__law_two : Stmt := top 46
abbrev s__law_bits : Stmt := top 47
abbrev s__law_sign : Stmt := top 48
abbrev s__law_table : Stmt := top 49
abbrev s__law_inside : Stmt := top 50
abbrev s__law_differs : Stmt := top 51
abbrev s__law_hangs : Stmt := top 52
abbrev s__law_sets : Stmt := top 53
abbrev s__law_other_table : Stmt := top 54
abbrev s__law_bent : Stmt := top 55
abbrev s__law_holds : Stmt := top 56
abbrev s_law : Stmt := top 57
local macro_rules | `(tactic| walk_at "f") => `(tactic| exact ⟨rfl, rfl, rfl, by decide +kernel, rfl, by decide +kernel, by decide +kernel⟩)
theorem sc_is_whole : FnScope ["thing"] ["thing"] (defScope s_is_whole) := by walk_at "f"
theorem sc_is_below : FnScope ["bound", "thing"] ["bound", "thing"] (defScope s_is_below) := by walk_at "f"
theorem sc_two_to : FnScope ["n"] ["n"] (defScope s_two_to) := by walk_at "f"
theorem sc_power_of : FnScope ["base", "times", "power", "step"] ["base", "times"] (defScope s_power_of) := by walk_at "f"
theorem sc_is_place : FnScope ["n", "thing"] ["n", "thing"] (defScope s_is_place) := by walk_at "f"
theorem sc_is_table : FnScope ["thing"] ["thing"] (defScope s_is_table) := by walk_at "f"
theorem sc_switches_of : FnScope ["table"] ["table"] (defScope s_switches_of) := by walk_at "f"
theorem sc_within : FnScope ["subset", "other"] ["subset", "other"] (defScope s_within) := by walk_at "f"
theorem sc_many_in : FnScope ["subset", "many", "rest"] ["subset"] (defScope s_many_in) := by walk_at "f"
theorem sc_sets_of : FnScope ["n", "k", "many"] ["n", "k"] (defScope s_sets_of) := by walk_at "f"
theorem sc_hangs_on : FnScope ["one", "switches", "subset", "weight"] ["one"] (defScope s_hangs_on) := by walk_at "f"
theorem sc_is_pair : FnScope ["thing"] ["thing"] (defScope s_is_pair) := by walk_at "f"
theorem sc_sum_of : FnScope ["table", "values"] ["table"] (defScope s_sum_of) := by walk_at "f"
theorem sc_told : FnScope ["one", "tops", "bottom"] ["one"] (defScope s_told) := by walk_at "f"
theorem sc_weights_of : FnScope ["one", "weights", "subset", "weight"] ["one"] (defScope s_weights_of) := by walk_at "f"
theorem sc_weights_within : FnScope ["one", "outer"] ["one", "outer"] (defScope s_weights_within) := by walk_at "f"
theorem sc_sum_from : FnScope ["n", "weights"] ["n", "weights"] (defScope s_sum_from) := by walk_at "f"
theorem sc_times_signs : FnScope ["numbers", "sums", "step"] ["numbers"] (defScope s_times_signs) := by walk_at "f"
theorem sc_crossed : FnScope ["numbers", "step", "place"] ["numbers", "step", "place"] (defScope s_crossed) := by walk_at "f"
theorem sc_met : FnScope ["terms", "weights", "apart"] ["terms", "weights", "apart"] (defScope s_met) := by walk_at "f"
theorem sc_lets_near : FnScope ["one", "k", "thing", "total", "lead"] ["one", "k", "thing"] (defScope s_lets_near) := by walk_at "f"
theorem sc_has_paper_form : FnScope ["n", "thing"] ["n", "thing"] (defScope s_has_paper_form) := by walk_at "f"
theorem sc_lead_of : FnScope ["one", "total"] ["one", "total"] (defScope s_lead_of) := by walk_at "f"
theorem sc_covers_all : FnScope ["n", "k", "covers"] ["n", "k", "covers"] (defScope s_covers_all) := by walk_at "f"
theorem sc_is_so : FnScope ["one", "lead", "cover", "weights"] ["one", "lead", "cover"] (defScope s_is_so) := by walk_at "f"
theorem sc_setting_by_setting : FnScope ["weights", "switches"] ["weights", "switches"] (defScope s_setting_by_setting) := by walk_at "f"
theorem sc_best_on : FnScope ["one", "subset", "table"] ["one", "subset"] (defScope s_best_on) := by walk_at "f"
theorem sc_differences : FnScope ["table", "other"] ["table", "other"] (defScope s_differences) := by walk_at "f"
theorem sc_nearest : FnScope ["one", "k"] ["one", "k"] (defScope s_nearest) := by walk_at "f"
theorem sc_near_paper : FnScope ["one", "k", "covers"] ["one", "k"] (defScope s_near_paper) := by walk_at "f"
theorem sc__law_tape : FnScope ["_law_script"] ["_law_script"] (defScope s__law_tape) := by walk_at "f"
theorem sc__law_next : FnScope ["_law_tape_here", "_law_many", "_law_script", "_law_digit", "_law_cell", "_law_seed"] ["_law_tape_here", "_law_many"] (defScope s__law_next) := by walk_at "f"
theorem sc__law_two : FnScope ["_law_k"] ["_law_k"] (defScope s__law_two) := by walk_at "f"
theorem sc__law_bits : FnScope ["_law_n", "_law_number"] ["_law_n", "_law_number"] (defScope s__law_bits) := by walk_at "f"
theorem sc__law_sign : FnScope ["_law_n", "_law_one", "_law_place", "_law_shared"] ["_law_n", "_law_one", "_law_place"] (defScope s__law_sign) := by walk_at "f"
theorem sc__law_table : FnScope ["_law_tape_here", "_law_n", "_law_many", "_law_way", "_law_some", "_law_first", "_law_answers", "_law_seen", "_law_place", "_law_key", "_law_turn"] ["_law_tape_here", "_law_n"] (defScope s__law_table) := by walk_at "f"
theorem sc__law_inside : FnScope ["_law_n", "_law_place", "_law_some"] ["_law_n", "_law_place", "_law_some"] (defScope s__law_inside) := by walk_at "f"
theorem sc__law_differs : FnScope ["_law_n", "_law_table_here", "_law_some", "_law_yes", "_law_many", "_law_place", "_law_key"] ["_law_n", "_law_table_here", "_law_some"] (defScope s__law_differs) := by walk_at "f"
theorem sc__law_hangs : FnScope ["_law_n", "_law_table_here", "_law_found", "_law_k", "_law_place"] ["_law_n", "_law_table_here"] (defScope s__law_hangs) := by walk_at "f"
theorem sc__law_sets : FnScope ["_law_n", "_law_k"] ["_law_n", "_law_k"] (defScope s__law_sets) := by walk_at "f"
theorem sc__law_other_table : FnScope ["_law_tape_here", "_law_n", "_law_k", "_law_some", "_law_one", "_law_answers", "_law_row", "_law_place", "_law_key"] ["_law_tape_here", "_law_n", "_law_k"] (defScope s__law_other_table) := by walk_at "f"
theorem sc__law_bent : FnScope ["_law_tape_here", "_law_n", "_law_k", "_law_paper", "_law_table_here", "_law_covers", "_law_some", "_law_turn", "_law_way", "_law_one", "_law_at"] ["_law_tape_here", "_law_n", "_law_k", "_law_paper"] (defScope s__law_bent) := by walk_at "f"
theorem sc__law_holds : FnScope ["_law_n", "_law_k", "_law_table_here", "_law_paper", "_law_near", "_law_apart"] ["_law_n", "_law_k", "_law_table_here", "_law_paper"] (defScope s__law_holds) := by walk_at "f"
theorem sc_law : FnScope ["_law_script", "_law_tape_here", "_law_turn", "_law_n", "_law_k", "_law_table_here", "_law_whole", "_law_own", "_law_wide", "_law_all_sets", "_law_paper"] ["_law_script"] (defScope s_law) := by walk_at "f"
def lamQ_nearest : Str := PySem.Str.ofString "nearest" ++ PySem.Str.ofString ".<locals>." ++ PySem.Str.ofString "<lambda>"
def lamP_nearest : Pos := ⟨117, 76, 117, 98⟩
set_option genInjectivity false
set_option genSizeOf false
structure Txt (K : W.Frag) (mg : Str -> Option Value) where
  f_is_whole : Addr
  d_is_whole : FuncData
  F_is_whole : Fun K "is_whole" "is_whole" s_is_whole f_is_whole d_is_whole
  b_is_whole : Binds K d_is_whole ["thing"] []
  m_is_whole : mg "is_whole" = some (.ref f_is_whole)
  f_is_below : Addr
  d_is_below : FuncData
  F_is_below : Fun K "is_below" "is_below" s_is_below f_is_below d_is_below
  b_is_below : Binds K d_is_below ["bound", "thing"] []
  m_is_below : mg "is_below" = some (.ref f_is_below)
  f_two_to : Addr
  d_two_to : FuncData
  F_two_to : Fun K "two_to" "two_to" s_two_to f_two_to d_two_to
  b_two_to : Binds K d_two_to ["n"] []
  m_two_to : mg "two_to" = some (.ref f_two_to)
  f_power_of : Addr
  d_power_of : FuncData
  F_power_of : Fun K "power_of" "power_of" s_power_of f_power_of d_power_of
  b_power_of : Binds K d_power_of ["base", "times"] []
  m_power_of : mg "power_of" = some (.ref f_power_of)
  f_is_place : Addr
  d_is_place : FuncData
  F_is_place : Fun K "is_place" "is_place" s_is_place f_is_place d_is_place
  b_is_place : Binds K d_is_place ["n", "thing"] []
  m_is_place : mg "is_place" = some (.ref f_is_place)
  f_is_table : Addr
  d_is_table : FuncData
  F_is_table : Fun K "is_table" "is_table" s_is_table f_is_table d_is_table
  b_is_table : Binds K d_is_table ["thing"] []
  m_is_table : mg "is_table" = some (.ref f_is_table)
  f_switches_of : Addr
  d_switches_of : FuncData
  F_switches_of : Fun K "switches_of" "switches_of" s_switches_of f_switches_of d_switches_of
  b_switches_of : Binds K d_switches_of ["table"] []
  m_switches_of : mg "switches_of" = some (.ref f_switches_of)
  f_within : Addr
  d_within : FuncData
  F_within : Fun K "within" "within" s_within f_within d_within
  b_within : Binds K d_within ["subset", "other"] []
  m_within : mg "within" = some (.ref f_within)
  f_many_in : Addr
  d_many_in : FuncData
  F_many_in : Fun K "many_in" "many_in" s_many_in f_many_in d_many_in
  b_many_in : Binds K d_many_in ["subset"] []
  m_many_in : mg "many_in" = some (.ref f_many_in)
  f_sets_of : Addr
  d_sets_of : FuncData
  F_sets_of : Fun K "sets_of" "sets_of" s_sets_of f_sets_of d_sets_of
  b_sets_of : Binds K d_sets_of ["n", "k"] []
  m_sets_of : mg "sets_of" = some (.ref f_sets_of)
  f_hangs_on : Addr
  d_hangs_on : FuncData
  F_hangs_on : Fun K "hangs_on" "hangs_on" s_hangs_on f_hangs_on d_hangs_on
  b_hangs_on : Binds K d_hangs_on ["one"] []
  m_hangs_on : mg "hangs_on" = some (.ref f_hangs_on)
  f_is_pair : Addr
  d_is_pair : FuncData
  F_is_pair : Fun K "is_pair" "is_pair" s_is_pair f_is_pair d_is_pair
  b_is_pair : Binds K d_is_pair ["thing"] []
  m_is_pair : mg "is_pair" = some (.ref f_is_pair)
  f_sum_of : Addr
  d_sum_of : FuncData
  F_sum_of : Fun K "sum_of" "sum_of" s_sum_of f_sum_of d_sum_of
  b_sum_of : Binds K d_sum_of ["table"] []
  m_sum_of : mg "sum_of" = some (.ref f_sum_of)
  f_told : Addr
  d_told : FuncData
  F_told : Fun K "told" "told" s_told f_told d_told
  b_told : Binds K d_told ["one"] []
  m_told : mg "told" = some (.ref f_told)
  f_weights_of : Addr
  d_weights_of : FuncData
  F_weights_of : Fun K "weights_of" "weights_of" s_weights_of f_weights_of d_weights_of
  b_weights_of : Binds K d_weights_of ["one"] []
  m_weights_of : mg "weights_of" = some (.ref f_weights_of)
  f_weights_within : Addr
  d_weights_within : FuncData
  F_weights_within : Fun K "weights_within" "weights_within" s_weights_within f_weights_within d_weights_within
  b_weights_within : Binds K d_weights_within ["one", "outer"] []
  m_weights_within : mg "weights_within" = some (.ref f_weights_within)
  f_sum_from : Addr
  d_sum_from : FuncData
  F_sum_from : Fun K "sum_from" "sum_from" s_sum_from f_sum_from d_sum_from
  b_sum_from : Binds K d_sum_from ["n", "weights"] []
  m_sum_from : mg "sum_from" = some (.ref f_sum_from)
  f_times_signs : Addr
  d_times_signs : FuncData
  F_times_signs : Fun K "times_signs" "times_signs" s_times_signs f_times_signs d_times_signs
  b_times_signs : Binds K d_times_signs ["numbers"] []
  m_times_signs : mg "times_signs" = some (.ref f_times_signs)
  f_crossed : Addr
  d_crossed : FuncData
  F_crossed : Fun K "crossed" "crossed" s_crossed f_crossed d_crossed
  b_crossed : Binds K d_crossed ["numbers", "step", "place"] []
  m_crossed : mg "crossed" = some (.ref f_crossed)
  f_met : Addr
  d_met : FuncData
  F_met : Fun K "met" "met" s_met f_met d_met
  b_met : Binds K d_met ["terms", "weights", "apart"] []
  m_met : mg "met" = some (.ref f_met)
  f_lets_near : Addr
  d_lets_near : FuncData
  F_lets_near : Fun K "lets_near" "lets_near" s_lets_near f_lets_near d_lets_near
  b_lets_near : Binds K d_lets_near ["one", "k", "thing"] []
  m_lets_near : mg "lets_near" = some (.ref f_lets_near)
  f_has_paper_form : Addr
  d_has_paper_form : FuncData
  F_has_paper_form : Fun K "has_paper_form" "has_paper_form" s_has_paper_form f_has_paper_form d_has_paper_form
  b_has_paper_form : Binds K d_has_paper_form ["n", "thing"] []
  m_has_paper_form : mg "has_paper_form" = some (.ref f_has_paper_form)
  f_lead_of : Addr
  d_lead_of : FuncData
  F_lead_of : Fun K "lead_of" "lead_of" s_lead_of f_lead_of d_lead_of
  b_lead_of : Binds K d_lead_of ["one", "total"] []
  m_lead_of : mg "lead_of" = some (.ref f_lead_of)
  f_covers_all : Addr
  d_covers_all : FuncData
  F_covers_all : Fun K "covers_all" "covers_all" s_covers_all f_covers_all d_covers_all
  b_covers_all : Binds K d_covers_all ["n", "k", "covers"] []
  m_covers_all : mg "covers_all" = some (.ref f_covers_all)
  f_is_so : Addr
  d_is_so : FuncData
  F_is_so : Fun K "is_so" "is_so" s_is_so f_is_so d_is_so
  b_is_so : Binds K d_is_so ["one", "lead", "cover"] []
  m_is_so : mg "is_so" = some (.ref f_is_so)
  f_setting_by_setting : Addr
  d_setting_by_setting : FuncData
  F_setting_by_setting : Fun K "setting_by_setting" "setting_by_setting" s_setting_by_setting f_setting_by_setting d_setting_by_setting
  b_setting_by_setting : Binds K d_setting_by_setting ["weights", "switches"] []
  m_setting_by_setting : mg "setting_by_setting" = some (.ref f_setting_by_setting)
  f_best_on : Addr
  d_best_on : FuncData
  F_best_on : Fun K "best_on" "best_on" s_best_on f_best_on d_best_on
  b_best_on : Binds K d_best_on ["one", "subset"] []
  m_best_on : mg "best_on" = some (.ref f_best_on)
  f_differences : Addr
  d_differences : FuncData
  F_differences : Fun K "differences" "differences" s_differences f_differences d_differences
  b_differences : Binds K d_differences ["table", "other"] []
  m_differences : mg "differences" = some (.ref f_differences)
  f_nearest : Addr
  d_nearest : FuncData
  F_nearest : Fun K "nearest" "nearest" s_nearest f_nearest d_nearest
  b_nearest : Binds K d_nearest ["one", "k"] []
  m_nearest : mg "nearest" = some (.ref f_nearest)
  f_near_paper : Addr
  d_near_paper : FuncData
  F_near_paper : Fun K "near_paper" "near_paper" s_near_paper f_near_paper d_near_paper
  b_near_paper : Binds K d_near_paper ["one", "k"] []
  m_near_paper : mg "near_paper" = some (.ref f_near_paper)
  f__law_tape : Addr
  d__law_tape : FuncData
  F__law_tape : Fun K "_law_tape" "_law_tape" s__law_tape f__law_tape d__law_tape
  b__law_tape : Binds K d__law_tape ["_law_script"] []
  m__law_tape : mg "_law_tape" = some (.ref f__law_tape)
  f__law_next : Addr
  d__law_next : FuncData
  F__law_next : Fun K "_law_next" "_law_next" s__law_next f__law_next d__law_next
  b__law_next : Binds K d__law_next ["_law_tape_here", "_law_many"] []
  m__law_next : mg "_law_next" = some (.ref f__law_next)
  f__law_two : Addr
  d__law_two : FuncData
  F__law_two : Fun K "_law_two" "_law_two" s__law_two f__law_two d__law_two
  b__law_two : Binds K d__law_two ["_law_k"] []
  m__law_two : mg "_law_two" = some (.ref f__law_two)
  f__law_bits : Addr
  d__law_bits : FuncData
  F__law_bits : Fun K "_law_bits" "_law_bits" s__law_bits f__law_bits d__law_bits
  b__law_bits : Binds K d__law_bits ["_law_n", "_law_number"] []
  m__law_bits : mg "_law_bits" = some (.ref f__law_bits)
  f__law_sign : Addr
  d__law_sign : FuncData
  F__law_sign : Fun K "_law_sign" "_law_sign" s__law_sign f__law_sign d__law_sign
  b__law_sign : Binds K d__law_sign ["_law_n", "_law_one", "_law_place"] []
  m__law_sign : mg "_law_sign" = some (.ref f__law_sign)
  f__law_table : Addr
  d__law_table : FuncData
  F__law_table : Fun K "_law_table" "_law_table" s__law_table f__law_table d__law_table
  b__law_table : Binds K d__law_table ["_law_tape_here", "_law_n"] []
  m__law_table : mg "_law_table" = some (.ref f__law_table)
  f__law_inside : Addr
  d__law_inside : FuncData
  F__law_inside : Fun K "_law_inside" "_law_inside" s__law_inside f__law_inside d__law_inside
  b__law_inside : Binds K d__law_inside ["_law_n", "_law_place", "_law_some"] []
  m__law_inside : mg "_law_inside" = some (.ref f__law_inside)
  f__law_differs : Addr
  d__law_differs : FuncData
  F__law_differs : Fun K "_law_differs" "_law_differs" s__law_differs f__law_differs d__law_differs
  b__law_differs : Binds K d__law_differs ["_law_n", "_law_table_here", "_law_some"] []
  m__law_differs : mg "_law_differs" = some (.ref f__law_differs)
  f__law_hangs : Addr
  d__law_hangs : FuncData
  F__law_hangs : Fun K "_law_hangs" "_law_hangs" s__law_hangs f__law_hangs d__law_hangs
  b__law_hangs : Binds K d__law_hangs ["_law_n", "_law_table_here"] []
  m__law_hangs : mg "_law_hangs" = some (.ref f__law_hangs)
  f__law_sets : Addr
  d__law_sets : FuncData
  F__law_sets : Fun K "_law_sets" "_law_sets" s__law_sets f__law_sets d__law_sets
  b__law_sets : Binds K d__law_sets ["_law_n", "_law_k"] []
  m__law_sets : mg "_law_sets" = some (.ref f__law_sets)
  f__law_other_table : Addr
  d__law_other_table : FuncData
  F__law_other_table : Fun K "_law_other_table" "_law_other_table" s__law_other_table f__law_other_table d__law_other_table
  b__law_other_table : Binds K d__law_other_table ["_law_tape_here", "_law_n", "_law_k"] []
  m__law_other_table : mg "_law_other_table" = some (.ref f__law_other_table)
  f__law_bent : Addr
  d__law_bent : FuncData
  F__law_bent : Fun K "_law_bent" "_law_bent" s__law_bent f__law_bent d__law_bent
  b__law_bent : Binds K d__law_bent ["_law_tape_here", "_law_n", "_law_k", "_law_paper"] []
  m__law_bent : mg "_law_bent" = some (.ref f__law_bent)
  f__law_holds : Addr
  d__law_holds : FuncData
  F__law_holds : Fun K "_law_holds" "_law_holds" s__law_holds f__law_holds d__law_holds
  b__law_holds : Binds K d__law_holds ["_law_n", "_law_k", "_law_table_here", "_law_paper"] []
  m__law_holds : mg "_law_holds" = some (.ref f__law_holds)
  f_law : Addr
  d_law : FuncData
  F_law : Fun K "law" "law" s_law f_law d_law
  b_law : Binds K d_law ["_law_script"] []
  m_law : mg "law" = some (.ref f_law)
  g_nearest : Addr
  p_nearest : Addr
  gc_nearest : d_nearest.code = .ref g_nearest
  gh_nearest : W.codeHdIn K g_nearest p_nearest = true
  z_abs : mg "abs" = none
  z_all : mg "all" = none
  z_any : mg "any" = none
  z_bool : mg "bool" = none
  z_enumerate : mg "enumerate" = none
  z_int : mg "int" = none
  z_isinstance : mg "isinstance" = none
  z_len : mg "len" = none
  z_list : mg "list" = none
  z_max : mg "max" = none
  z_min : mg "min" = none
  z_range : mg "range" = none
  z_sum : mg "sum" = none
  z_tuple : mg "tuple" = none
  z_zip : mg "zip" = none
  a_TABLE_LENGTHS : Addr
  c_TABLE_LENGTHS : mg "TABLE_LENGTHS" = some (.ref a_TABLE_LENGTHS)
  q_TABLE_LENGTHS : ∀ H : Hp, SqT K H a_TABLE_LENGTHS [.int 2, .int 4, .int 8, .int 16, .int 32, .int 64]
  t_MOST_COVERS : Tok
  c_MOST_COVERS : mg "MOST_COVERS" = some (.int 64 t_MOST_COVERS)
set_option genInjectivity true
set_option genSizeOf true
section
variable {P : Program} {w : World} {K : W.Frag} {mg : Str -> Option Value} {base : Heap} (T : Txt K mg)
local macro_rules | `(tactic| walk_at "sm") => `(tactic| repeat' with_reducible first | exact sm_next | exact sm_never | apply sm_seq | apply sm_asg | apply sm_ret | apply sm_drop | apply sm_if | apply sm_for | exact em_var | exact em_c | apply em_op | apply em_not | apply em_if | apply em_cb | apply em_call | apply em_tup | apply em_lst | apply em_comp | exact rm_add | exact rm_sub | exact rm_mul | exact rm_div | exact rm_mod | exact rm_pow | exact rm_cmp | exact rm_eq | exact rm_ix | exact rm_notB | exact rm_getB | exact sm_setB | exact em_newB | apply em_get2V | exact sm_setV | apply tm_b | apply tm_and | apply tm_or | apply tm_not | exact am_nil | apply am_cons | exact cm_len_ | exact cm_max_ | exact cm_min_ | exact cm_int_ | exact cm_tuple_ | exact cm_isiD_ | apply im_seq | apply im_rng1 | apply gm_sub | exact gm_name | apply gms_cons | exact gms_nil | exact sm_set | exact spNext_mono | exact rm_is | apply im_zip | exact rm_in | apply em_bm | exact bm_append | exact bm_insert | exact bm_popAt | exact bm_count | exact cm_sum_ | exact cm_all_ | assumption)
theorem vw {X : Cx} (i : Nat) {x : Str} {pos : Pos} (h : X.N[i]? = some x /\ Vis X.env.scope x /\ (x == ("__debug__" : Str)) = false /\ (x == ("__classdict__" : Str)) = false) : PE X (.Name x pos) (vVar i) := vv i h.1 h.2.1 h.2.2.1 h.2.2.2
theorem pa1 {X : Cx} {e : PySem.Expr} {te : TE} (ha : PE X e te) (hs : starEach [e] X.env = [(false, eval e X.env)]) : PA X [e] (tCons te tNil) := pa_cons ha pa_nil hs
local macro_rules | `(tactic| walk_at "v") => `(tactic| exact ⟨by rfl, by first | exact Or.inl rfl | exact Or.inr (Or.inl rfl) | exact Or.inr (Or.inr rfl), by decide, by decide⟩)
local macro_rules | `(tactic| walk_at "m") => `(tactic| with_reducible first | refine Exists.imp fun _ => ?_ | refine And.imp_right ?_ | refine forall_imp fun _ => ?_)
local macro_rules | `(tactic| walk_at "o") => `(tactic| first | exact Or.inl rfl | exact Or.inr (Or.inl rfl) | exact Or.inr (Or.inr rfl))
local macro_rules | `(tactic| walk_at "i") => `(tactic| first | exact .inl rfl | exact .inr rfl | assumption)
local macro_rules | `(tactic| walk_at "e") => `(tactic| first | exact Or.inl rfl | exact Or.inr rfl)
local macro_rules | `(tactic| walk_at "n") => `(tactic| first | exact nobehind _ (by decide) (by decide) | rfl)
def sp_power : Sp := fun vs H Q _ => match vs with
  | [.int b, .int t] => ∃ m : Nat, t = m /\ m <= 64 /\ ((-(2 ^ 64) < b /\ b < 2 ^ 64) \/ (Nb b 100 /\ m <= 12)) /\ Q (.int (b ^ m)) H
  | _ => False
theorem ok_power_of : FnOk P w K mg base CX0 1 T.f_power_of T.d_power_of ["base", "times"] sp_power := by
  refine T.F_power_of.ok sc_power_of (fun vs H Q E h => by unfold sp_power at h; split at h <;> first | rfl | exact h.elim) (fun cdv A outer s H vs Q E hr h => ?_)
  have hu := hu60 hr
  unfold sp_power at h
  split at h
  rotate_left
  . exact h.elim
  rename_i b t
  obtain ⟨m, e1, h1, b1, q⟩ := h
  subst e1
  refine ⟨_, (@pss_cons _ _ _ _ _ (@ps_set _ _ 2 _ _ _ _ sc_power_of.nd rfl (by walk_at "e") (@pe_int _ _ _ _) (by rfl) (by walk_at "i")) (@pss_cons _ _ _ _ _ (@ps_for _ _ _ _ _ _ _ _ PassesOwn.never rfl (@pi_range1 _ _ _ _ _ _ rfl T.z_range (@pa1 _ _ _ (@vw _ 1 _ _ (by walk_at "v")) (by rfl)) (by rfl)) (@pg_name _ _ 3 _ sc_power_of.nd rfl (by walk_at "e") (by walk_at "i")) (@pss_one _ _ _ (@ps_set _ _ 2 _ _ _ _ sc_power_of.nd rfl (by walk_at "e") (@pe_op _ _ _ _ _ _ _ _ om_mul (@vw _ 2 _ _ (by walk_at "v")) (@vw _ 0 _ _ (by walk_at "v"))) (by rfl) (by walk_at "i"))) (by intro _; rfl)) (@pss_one _ _ _ (@ps_ret _ _ _ _ (@vw _ 2 _ _ (by walk_at "v")))))), ?_⟩
  refine ⟨m, rfl, by omega, by omega, ?_⟩
  refine for_range (fun i σ H' => H' = H /\ ∃ z : Option V, σ = [some (.int b), some (.int m), some (.int (b ^ i)), z]) ⟨rfl, none, by rw [Int.pow_zero]; rfl⟩ ?_ ?_
  . rintro i σ H' hi ⟨rfl, z, rfl⟩
    have hi' : i < m := by omega
    have okm : okMul (b ^ i) b := by
      rcases b1 with b1 | ⟨b1, b2⟩
      . exact .inr (.inr b1)
      . exact Nb.okMul ((b1.pow i).up (by omega)) (b1.up (by omega))
    refine ⟨okm, rfl, some (.int (0 + (i : Int))), ?_⟩
    rw [Int.pow_succ]
    rfl
  . rintro σ H' ⟨rfl, z, rfl⟩
    have : (m : Int).toNat = m := by omega
    rw [this]
    exact q
def sp_two_to : Sp := fun vs H Q _ => match vs with
  | [.int n] => ∃ m : Nat, n = m /\ m <= 64 /\ Q (.int (2 ^ m : Nat)) H
  | _ => False
theorem sp_two_to_mono : SpMono sp_two_to := fun vs H Q Q' E h q => by
  unfold sp_two_to at *
  split at q
  . revert q; repeat' first | exact h _ _ | exact newL_mono h | exact out_mono h | exact outT_mono h | walk_at "m"
  . exact q.elim
theorem ok_two_to : FnOk P w K mg base CX0 2 T.f_two_to T.d_two_to ["n"] sp_two_to := by
  have G_power_of := ok_power_of (P := P) (w := w) (base := base) T
  refine T.F_two_to.ok sc_two_to (fun vs H Q E h => by unfold sp_two_to at h; split at h <;> first | rfl | exact h.elim) (fun cdv A outer s H vs Q E hr h => ?_)
  have hu := hu60 hr
  have hr_power_of := hr.mono (show 1 <= _ by decide)
  unfold sp_two_to at h
  split at h
  rotate_left
  . exact h.elim
  rename_i n
  obtain ⟨m, e1, h1, q⟩ := h
  subst e1
  refine ⟨_, (@pss_one _ _ _ (@ps_ret _ _ _ _ (@pe_call _ _ _ _ _ _ _ _ _ _ _ _ _ _ _ _ G_power_of hr_power_of rfl T.m_power_of T.F_power_of.kp T.b_power_of .nil pass0 (@pa_cons _ _ _ _ _ (@pe_int _ _ _ _) (@pa1 _ _ _ (@vw _ 0 _ _ (by walk_at "v")) (by rfl)) (by rfl)) (by decide) (by rfl) (by rfl)))), ?_⟩
  refine ⟨m, rfl, h1, .inl ⟨by decide, by decide⟩, ?_⟩
  have e : (2 : Int) ^ m = ((2 ^ m : Nat) : Int) := by rw [Int.natCast_pow]; rfl
  rw [e]
  exact q
theorem ok__law_tape : FnOk P w K mg base CX0 1 T.f__law_tape T.d__law_tape ["_law_script"] (spTape K) := by
  refine T.F__law_tape.ok sc__law_tape (fun vs H Q E h => by unfold spTape at h; split at h <;> first | rfl | exact h.elim) (fun cdv A outer s H vs Q E hr h => ?_)
  unfold spTape at h
  split at h
  rotate_left
  . exact h.elim
  rename_i a
  have k := h
  refine ⟨_, (@pss_one _ _ _ (@ps_ret _ _ _ _ (@pe_lst _ _ _ _ (@pa_cons _ _ _ _ _ (@vw _ 0 _ _ (by walk_at "v")) (@pa_cons _ _ _ _ _ (@pe_int _ _ _ _) (@pa_cons _ _ _ _ _ (@pe_int _ _ _ _) (@pa1 _ _ _ (@pe_int _ _ _ _) (by rfl)) (by rfl)) (by rfl)) (by rfl))))), ?_⟩
  exact ⟨by show 4 <= sizeLine; rw [sizeLine_eq]; decide, k⟩
theorem ok__law_next : FnOk P w K mg base CX0 1 T.f__law_next T.d__law_next ["_law_tape_here", "_law_many"] (spNext K) := by
  refine T.F__law_next.ok sc__law_next (fun vs H Q E h => by unfold spNext at h; split at h <;> first | rfl | exact h.elim) (fun cdv A outer s H vs Q E hr h => ?_)
  have hu := hu60 hr
  unfold spNext at h
  split at h
  rotate_left
  . exact h.elim
  rename_i t m
  obtain ⟨a, ns, TP, hm, k⟩ := h
  obtain ⟨⟨i, r, c, hi, hr0, ht⟩, hscr⟩ := id TP
  refine ⟨_, (@pss_cons _ _ _ _ _ (@ps_set _ _ 2 _ _ _ _ sc__law_next.nd rfl (by walk_at "e") (@kIx _ K _ _ _ _ _ (@vw _ 0 _ _ (by walk_at "v")) (@pe_int _ _ _ _) (by intro _ _; rfl) (by rfl)) (by rfl) (by walk_at "i")) (@pss_cons _ _ _ _ _ (@ps_asg _ _ _ _ _ _ (@pe_op _ _ _ _ _ _ _ _ (kAdd (K := K)) (@kIx _ K _ _ _ _ _ (@vw _ 0 _ _ (by walk_at "v")) (@pe_int _ _ _ _) (by intro _ _; rfl) (by rfl)) (@pe_int _ _ _ _)) (@pg_sub _ _ _ _ _ _ _ (@vw _ 0 _ _ (by walk_at "v")) (@pe_int _ _ _ _) set_any (by intro _; rfl)) (by rfl) (by rfl) (by rfl)) (@pss_cons _ _ _ _ _ (@ps_if _ _ _ _ _ _ _ _ (PW.pt (@pw_and _ _ _ _ _ _ _ (@tu_cmp _ _ _ _ _ _ _ _ (kEq (K := K) hu) (@kIx _ K _ _ _ _ _ (@vw _ 0 _ _ (by walk_at "v")) (@pe_int _ _ _ _) (by intro _ _; rfl) (by rfl)) (@pe_int _ _ _ _) (by walk_at "n")) (@pw_and1 _ _ _ _ (@tu_cmp _ _ _ _ _ _ _ _ om_lt (@kIx _ K _ _ _ _ _ (@vw _ 0 _ _ (by walk_at "v")) (@pe_int _ _ _ _) (by intro _ _; rfl) (by rfl)) (@pe_callB _ _ _ _ _ _ _ _ _ (kLen (K := K)) rfl T.z_len (by rfl) (@pa1 _ _ _ (@vw _ 2 _ _ (by walk_at "v")) (by rfl)) (by decide) (by decide) (by rfl) (by rfl)) (by walk_at "n"))))) (@pss_cons _ _ _ _ _ (@ps_asg _ _ _ _ _ _ (@pe_callB _ _ _ _ _ _ _ _ _ (cm_max rfl) rfl T.z_max (by rfl) (@pa_cons _ _ _ _ _ (@pe_int _ _ _ _) (@pa1 _ _ _ (@pe_op _ _ _ _ _ _ _ _ om_div (@kIx _ K _ _ _ _ _ (@vw _ 2 _ _ (by walk_at "v")) (@kIx _ K _ _ _ _ _ (@vw _ 0 _ _ (by walk_at "v")) (@pe_int _ _ _ _) (by intro _ _; rfl) (by rfl)) (by intro _ _; rfl) (by rfl)) (@pe_op _ _ _ _ _ _ _ _ om_pow (@pe_int _ _ _ _) (@pe_int _ _ _ _))) (by rfl)) (by rfl)) (by decide) (by decide) (by rfl) (by rfl)) (@pg_sub _ _ _ _ _ _ _ (@vw _ 0 _ _ (by walk_at "v")) (@pe_int _ _ _ _) set_any (by intro _; rfl)) (by rfl) (by rfl) (by rfl)) (@pss_one _ _ _ (@ps_asg _ _ _ _ _ _ (@pe_op _ _ _ _ _ _ _ _ (kAdd (K := K)) (@kIx _ K _ _ _ _ _ (@vw _ 0 _ _ (by walk_at "v")) (@pe_int _ _ _ _) (by intro _ _; rfl) (by rfl)) (@pe_int _ _ _ _)) (@pg_sub _ _ _ _ _ _ _ (@vw _ 0 _ _ (by walk_at "v")) (@pe_int _ _ _ _) set_any (by intro _; rfl)) (by rfl) (by rfl) (by rfl)))) (@pss_nil _)) (@pss_cons _ _ _ _ _ (@ps_if _ _ _ _ _ _ _ _ (@tu_cmp _ _ _ _ _ _ _ _ om_gt (@kIx _ K _ _ _ _ _ (@vw _ 0 _ _ (by walk_at "v")) (@pe_int _ _ _ _) (by intro _ _; rfl) (by rfl)) (@pe_int _ _ _ _) (by walk_at "n")) (@pss_cons _ _ _ _ _ (@ps_set _ _ 3 _ _ _ _ sc__law_next.nd rfl (by walk_at "e") (@pe_op _ _ _ _ _ _ _ _ om_mod (@kIx _ K _ _ _ _ _ (@vw _ 0 _ _ (by walk_at "v")) (@pe_int _ _ _ _) (by intro _ _; rfl) (by rfl)) (@vw _ 1 _ _ (by walk_at "v"))) (by rfl) (by walk_at "i")) (@pss_cons _ _ _ _ _ (@ps_asg _ _ _ _ _ _ (@pe_op _ _ _ _ _ _ _ _ om_div (@kIx _ K _ _ _ _ _ (@vw _ 0 _ _ (by walk_at "v")) (@pe_int _ _ _ _) (by intro _ _; rfl) (by rfl)) (@vw _ 1 _ _ (by walk_at "v"))) (@pg_sub _ _ _ _ _ _ _ (@vw _ 0 _ _ (by walk_at "v")) (@pe_int _ _ _ _) set_any (by intro _; rfl)) (by rfl) (by rfl) (by rfl)) (@pss_one _ _ _ (@ps_ret _ _ _ _ (@vw _ 3 _ _ (by walk_at "v")))))) (@pss_nil _)) (@pss_cons _ _ _ _ _ (@ps_set _ _ 4 _ _ _ _ sc__law_next.nd rfl (by walk_at "e") (@pe_ifExp _ _ _ _ _ _ _ _ (@tu_cmp _ _ _ _ _ _ _ _ om_gt (@pe_callB _ _ _ _ _ _ _ _ _ (kLen (K := K)) rfl T.z_len (by rfl) (@pa1 _ _ _ (@vw _ 2 _ _ (by walk_at "v")) (by rfl)) (by decide) (by decide) (by rfl) (by rfl)) (@pe_int _ _ _ _) (by walk_at "n")) (@kIx _ K _ _ _ _ _ (@vw _ 2 _ _ (by walk_at "v")) (@pe_op _ _ _ _ _ _ _ _ om_mod (@kIx _ K _ _ _ _ _ (@vw _ 0 _ _ (by walk_at "v")) (@pe_int _ _ _ _) (by intro _ _; rfl) (by rfl)) (@pe_callB _ _ _ _ _ _ _ _ _ (kLen (K := K)) rfl T.z_len (by rfl) (@pa1 _ _ _ (@vw _ 2 _ _ (by walk_at "v")) (by rfl)) (by decide) (by decide) (by rfl) (by rfl))) (by intro _ _; rfl) (by rfl)) (@pe_int _ _ _ _)) (by rfl) (by walk_at "i")) (@pss_cons _ _ _ _ _ (@ps_set _ _ 5 _ _ _ _ sc__law_next.nd rfl (by walk_at "e") (@pe_op _ _ _ _ _ _ _ _ om_mod (@pe_op _ _ _ _ _ _ _ _ om_mul (@pe_op _ _ _ _ _ _ _ _ (kAdd (K := K)) (@pe_op _ _ _ _ _ _ _ _ (kAdd (K := K)) (@pe_op _ _ _ _ _ _ _ _ om_mod (@vw _ 4 _ _ (by walk_at "v")) (@pe_int _ _ _ _)) (@pe_op _ _ _ _ _ _ _ _ om_mul (@pe_int _ _ _ _) (@kIx _ K _ _ _ _ _ (@vw _ 0 _ _ (by walk_at "v")) (@pe_int _ _ _ _) (by intro _ _; rfl) (by rfl)))) (@pe_int _ _ _ _)) (@pe_int _ _ _ _)) (@pe_int _ _ _ _)) (by rfl) (by walk_at "i")) (@pss_one _ _ _ (@ps_ret _ _ _ _ (@pe_op _ _ _ _ _ _ _ _ om_mod (@pe_op _ _ _ _ _ _ _ _ om_mod (@pe_op _ _ _ _ _ _ _ _ om_mul (@pe_op _ _ _ _ _ _ _ _ om_mod (@pe_op _ _ _ _ _ _ _ _ (kAdd (K := K)) (@pe_op _ _ _ _ _ _ _ _ om_mul (@vw _ 5 _ _ (by walk_at "v")) (@pe_int _ _ _ _)) (@kIx _ K _ _ _ _ _ (@vw _ 0 _ _ (by walk_at "v")) (@pe_int _ _ _ _) (by intro _ _; rfl) (by rfl))) (@pe_int _ _ _ _)) (@pe_int _ _ _ _)) (@pe_int _ _ _ _)) (@vw _ 1 _ _ (by walk_at "v"))))))))))), ?_⟩
  -- script = tape[0]; tape[3] = tape[3] + 1
  refine ⟨_, _, .inl (.of ht), rfl, _, _, .inl (.of ht), rfl, _, _, ht, rfl, ?_⟩
  have sc0 : ∀ {H1 : Hp}, (∀ b, b ≠ t -> H1 b = H b) -> ScrAt K H1 t a ns := fun h => hscr.stay fun o n e => by rw [h a n]; exact e
  have sc1 : ∀ {H1 : Hp}, (∀ b, b ≠ t -> H1 b = H b) -> SqL K H1 a (ns.map V.int) := fun h => (sc0 h).sq
  have f1 : ∀ {o : HO} {H1 : Hp}, (∀ b, b ≠ t -> H1 b = H b) -> ∀ b, b ≠ t -> upd H1 t o b = H b := fun h b n => by rw [upd_ne n]; exact h b n
  dsimp only
  refine seq_at (fun σ' H1 => σ' = [some (.ref t), some (.int m), some (.ref a), none, none, none] /\ (∀ b, b ≠ t -> H1 b = H b) /\ ∃ i r c : Int, 0 <= i /\ 0 <= r /\ H1 t = some (.lst [.ref a, .int i, .int r, .int c])) ?_ ?_ (by walk_at "sm")
  . -- the next number of the script, where the last one is used up
    have h1 : ∀ {o : HO} (b : Addr), b ≠ t -> upd H t o b = H b := fun b n => upd_ne n
    refine ⟨_, _, .inl (.of upd_same), rfl, ?_⟩
    refine ite2 (fun e => ?_) (fun e => ?_)
    . refine ⟨_, _, .inl (.of upd_same), rfl, ns.length, .inl ⟨_, sc1 h1, by rw [List.length_map]⟩, ?_⟩
      refine ite2 (fun e => ?_) (fun e => ?_)
      . have hlt : i < ns.length := of_decide_eq_true e
        obtain ⟨z, hz⟩ := atI_int hi hlt
        refine ⟨_, _, .inl (.of upd_same), rfl, _, _, .inl (sc1 h1), hz, ⟨by decide, by decide, by decide⟩, ⟨by decide, by decide⟩, ?_⟩
        refine ⟨_, _, upd_same, rfl, _, _, .inl (.of upd_same), rfl, _, _, upd_same, rfl, rfl, ?_, i + 1, max 0 (z / 10 ^ 18), c + 1, by omega, by omega, upd_same⟩
        exact f1 (f1 h1)
      . exact ⟨rfl, h1, i, r, c + 1, hi, hr0, upd_same⟩
    . exact ⟨rfl, h1, i, r, c + 1, hi, hr0, upd_same⟩
  rintro σ' H1 ⟨rfl, h1, i, r, c, hi, hr0, ht⟩
  have T1 : ∀ {H2 : Hp} {i r c : Int}, (∀ b, b ≠ t -> H2 b = H b) -> 0 <= i -> 0 <= r -> H2 t = some (.lst [.ref a, .int i, .int r, .int c]) -> Tape K H2 t a ns := fun h h1 h2 h3 => ⟨⟨_, _, _, h1, h2, h3⟩, sc0 h⟩
  -- a digit of it
  refine ⟨_, _, .inl (.of ht), rfl, ?_⟩
  have hm0 : 0 < m := hm.1
  refine ite2 (fun e => ?_) (fun e => ?_)
  . refine ⟨_, _, .inl (.of ht), rfl, hm0, _, _, .inl (.of ht), rfl, hm, _, _, ht, rfl, ?_⟩
    exact k _ _ (Int.emod_nonneg _ (by omega)) (Int.emod_lt_of_pos _ hm0) (T1 (f1 h1) hi (Int.ediv_nonneg hr0 (by omega)) upd_same) (f1 h1)
  -- else a number made of the cell
  dsimp only [tNext]
  refine seq_at (fun σ' H2 => H2 = H1 /\ ∃ z : Int, σ' = [some (.ref t), some (.int m), some (.ref a), none, some (.int z), none]) ?_ ?_ (by walk_at "sm")
  . refine ⟨ns.length, .inl ⟨_, sc1 h1, by rw [List.length_map]⟩, ?_⟩
    refine ite2 (fun e => ?_) (fun e => ?_)
    . have hlt : (0 : Int) < ns.length := of_decide_eq_true e
      obtain ⟨z, hz⟩ := atI_int (ns := ns) (Int.emod_nonneg c (show (ns.length : Int) ≠ 0 by omega)) (Int.emod_lt_of_pos c hlt)
      exact ⟨_, _, .inl (.of ht), rfl, ns.length, .inl ⟨_, sc1 h1, by rw [List.length_map]⟩, hlt, _, _, .inl (sc1 h1), hz, rfl, z, rfl⟩
    . exact ⟨rfl, 0, rfl⟩
  rintro σ' H2 ⟨rfl, z, rfl⟩
  refine ⟨by decide, _, _, .inl (.of ht), rfl, .inr (.inl ⟨by decide, by decide⟩), .inr (.inr ⟨by decide, by decide⟩), by decide, ?_⟩
  refine ⟨.inr (.inr ⟨by decide, by decide⟩), _, _, .inl (.of ht), rfl, by decide, .inr (.inr ⟨by decide, by decide⟩), by decide, hm0, ?_⟩
  exact k _ _ (Int.emod_nonneg _ (by omega)) (Int.emod_lt_of_pos _ hm0) (T1 h1 hi hr0 ht) h1
def bitL (n x : Nat) : List Bool := (List.range n).map fun k => x / 2 ^ k % 2 == 1
def shared (n x y : Nat) : List Bool := (List.zip (bitL n x) (bitL n y)).map fun p => p.1 && p.2
def sgL (n x y : Nat) : Int := if (shared n x y).countP id % 2 = 1 then -1 else 1
def out (H : Hp) (Q : VK) (v : V) : Prop := ∀ H', Same H H' -> Q v H'
def outL (H : Hp) (Q : VK) (xs : List V) : Prop := ∀ p H', H p = none -> Same H H' -> H' p = some (.lst xs) -> Q (.ref p) H'
def outT (H : Hp) (Q : VK) (xs : List V) : Prop := ∀ p H', H p = none -> Same H H' -> H' p = some (.tup xs) -> Q (.ref p) H'
theorem out_mono {H : Hp} {Q Q' : VK} {v : V} (h : ∀ v H, Q v H -> Q' v H) (q : out H Q v) : out H Q' v := fun H' s => h _ _ (q H' s)
theorem outL_mono {H : Hp} {Q Q' : VK} {xs : List V} (h : ∀ v H, Q v H -> Q' v H) (q : outL H Q xs) : outL H Q' xs := fun p H' a b c => h _ _ (q p H' a b c)
theorem outT_mono {H : Hp} {Q Q' : VK} {xs : List V} (h : ∀ v H, Q v H -> Q' v H) (q : outT H Q xs) : outT H Q' xs := fun p H' a b c => h _ _ (q p H' a b c)
def sp_two : Sp := fun vs H Q _ => match vs with
  | [.int k] => 0 <= k /\ k <= 6 /\ out H Q (.int (2 ^ k.toNat))
  | _ => False
theorem sp_two_mono : SpMono sp_two := fun vs H Q Q' E h q => by
  unfold sp_two at *
  split at q
  . exact ⟨q.1, q.2.1, out_mono h q.2.2⟩
  . exact q.elim
theorem ok__law_two : FnOk P w K mg base CX0 1 T.f__law_two T.d__law_two ["_law_k"] sp_two := by
  refine T.F__law_two.ok sc__law_two (fun vs H Q E h => by unfold sp_two at h; split at h <;> first | rfl | exact h.elim) (fun cdv A outer s H vs Q E hr h => ?_)
  unfold sp_two at h
  split at h
  rotate_left
  . exact h.elim
  rename_i k
  obtain ⟨h1, h2, q⟩ := h
  refine ⟨_, (@pss_one _ _ _ (@ps_ret _ _ _ _ (@kIx _ K _ _ _ _ _ (@pe_lst _ _ _ _ (@pa_cons _ _ _ _ _ (@pe_int _ _ _ _) (@pa_cons _ _ _ _ _ (@pe_int _ _ _ _) (@pa_cons _ _ _ _ _ (@pe_int _ _ _ _) (@pa_cons _ _ _ _ _ (@pe_int _ _ _ _) (@pa_cons _ _ _ _ _ (@pe_int _ _ _ _) (@pa_cons _ _ _ _ _ (@pe_int _ _ _ _) (@pa1 _ _ _ (@pe_int _ _ _ _) (by rfl)) (by rfl)) (by rfl)) (by rfl)) (by rfl)) (by rfl)) (by rfl))) (@vw _ 0 _ _ (by walk_at "v")) (by intro _ _; rfl) (by rfl)))), ?_⟩
  refine ⟨small_le (show 7 <= 1000 by decide), fun p hp => ?_⟩
  have e : atI [V.int 1, .int 2, .int 4, .int 8, .int 16, .int 32, .int 64] k = some (.int (2 ^ k.toNat)) := by
    have : k = 0 \/ k = 1 \/ k = 2 \/ k = 3 \/ k = 4 \/ k = 5 \/ k = 6 := by omega
    rcases this with e | e | e | e | e | e | e <;> subst e <;> rfl
  exact ⟨_, _, .inl (.of upd_same), e, q _ (Same.upd hp)⟩
def sp_bits : Sp := fun vs H Q _ => match vs with
  | [.int n, .int x] => ∃ m y : Nat, n = m /\ x = y /\ m <= 6 /\ outL H Q ((bitL m y).map V.bl)
  | _ => False
theorem sp_bits_mono : SpMono sp_bits := fun vs H Q Q' E h q => by
  unfold sp_bits at *
  split at q
  . revert q; repeat' first | exact h _ _ | exact newL_mono h | exact out_mono h | exact outT_mono h | walk_at "m"
  . exact q.elim
theorem bitL_take {m y i : Nat} (h : i < m) : (bitL m y).take (i + 1) = (bitL m y).take i ++ [y / 2 ^ i % 2 == 1] := by
  rw [List.take_add_one]
  congr 1
  unfold bitL
  rw [List.getElem?_map, List.getElem?_range h]
  rfl
theorem bitL_len {m y : Nat} : (bitL m y).length = m := by unfold bitL; simp
theorem ok__law_bits : FnOk P w K mg base CX0 2 T.f__law_bits T.d__law_bits ["_law_n", "_law_number"] sp_bits := by
  have G__law_two := ok__law_two (P := P) (w := w) (base := base) T
  refine T.F__law_bits.ok sc__law_bits (fun vs H Q E h => by unfold sp_bits at h; split at h <;> first | rfl | exact h.elim) (fun cdv A outer s H vs Q E hr h => ?_)
  have hu := hu60 hr
  have hr__law_two := hr.mono (show 1 <= _ by decide)
  unfold sp_bits at h
  split at h
  rotate_left
  . exact h.elim
  rename_i n x
  obtain ⟨m, y, e1, e2, h1, q⟩ := h
  subst e1 e2
  refine ⟨_, (@pss_one _ _ _ (@ps_ret _ _ _ _ (@pe_compB _ _ _ _ _ _ _ (["_law_k", "_law_number"]) 1 [1] _ _ _ _ rfl (@pi_range1 _ _ _ _ _ _ rfl T.z_range (@pa1 _ _ _ (@vw _ 0 _ _ (by walk_at "v")) (by rfl)) (by rfl)) (by kernel_rfl) rfl rfl (by kernel_rfl) (fun c => @pg_name _ _ 0 _ (show (["_law_k", "_law_number"] : List Str).Nodup by decide +kernel) rfl (by walk_at "e") (by walk_at "i")) (go_name (by decide)) (fun c => @pts_nil _) (fun c => (@pe_cmpM _ _ _ _ _ _ _ _ (kEq (K := K) hu) (@pe_op _ _ _ _ _ _ _ _ om_mod (@pe_op _ _ _ _ _ _ _ _ om_div (@vw _ 1 _ _ (by walk_at "v")) (@pe_call _ _ _ _ _ _ _ _ _ _ _ _ _ _ _ _ G__law_two hr__law_two rfl T.m__law_two T.F__law_two.kp T.b__law_two .nil pass0 (@pa1 _ _ _ (@vw _ 0 _ _ (by walk_at "v")) (by rfl)) (by decide) (by rfl) (by rfl))) (@pe_int _ _ _ _)) (@pe_int _ _ _ _) (by walk_at "n"))) (by intro _; rfl)))), ?_⟩
  refine ⟨m, rfl, by omega, by omega, ?_⟩
  refine comp_range (fun i ys H' => Same H H' /\ ys = ((bitL m y).take i).map V.bl) ⟨Same.refl _, rfl⟩ (fun i ys H' hi ⟨_, e⟩ => by rw [e]; exact small1000 (by rw [List.length_map, List.length_take]; omega)) ?_ ?_
  . rintro i ys H' hi ⟨s1, rfl⟩
    have hi' : i < m := by omega
    refine ⟨by omega, by omega, fun H2 s2 => ?_⟩
    have e0 : ((0 : Int) + (i : Int)).toNat = i := by omega
    rw [e0]
    have ep : ((2 : Int) ^ i) = ((2 ^ i : Nat) : Int) := by rw [Int.natCast_pow]; rfl
    have hp : 0 < 2 ^ i := Nat.two_pow_pos i
    have hle : (2 : Nat) ^ i <= 2 ^ 6 := Nat.pow_le_pow_right (by decide) (by omega)
    refine ⟨okDiv_of (by rw [ep]; omega) (by rw [ep]; exact Int.le_trans (Int.ofNat_le.mpr hle) (by decide)), by decide, ?_⟩
    refine ⟨s1.trans s2, ?_⟩
    rw [bitL_take hi', List.map_append]
    congr 2
    rw [ep]
    show V.bl (false ^^ (((y : Int) / ((2 ^ i : Nat) : Int) % 2) == 1)) = V.bl (y / 2 ^ i % 2 == 1)
    rw [Bool.false_xor, <- Int.natCast_ediv]
    congr 1
    rw [Bool.eq_iff_iff]
    simp only [beq_iff_eq]
    omega
  . rintro ys H' ⟨s1, rfl⟩ p hp
    have : (bitL m y).take (m : Int).toNat = bitL m y := by
      rw [List.take_of_length_le]
      rw [bitL_len]; omega
    rw [this]
    exact q p _ (s1.free hp) (s1.trans (Same.upd hp)) upd_same
def sp_sign (K : W.Frag) : Sp := fun vs H Q _ => match vs with
  | [.int n, .int x, .int y] => ∃ m a b : Nat, n = m /\ x = a /\ y = b /\ m <= 6 /\ out H Q (.int (sgL m a b))
  | _ => False
theorem sp_sign_mono : SpMono (sp_sign K) := fun vs H Q Q' E h q => by
  unfold sp_sign at *
  split at q
  . revert q; repeat' first | exact h _ _ | exact newL_mono h | exact out_mono h | exact outT_mono h | walk_at "m"
  . exact q.elim
theorem countP_bl (bs : List Bool) : (bs.map V.bl).countP (fun v => eqV v (.bl true)) = bs.countP id := by
  rw [List.countP_map]
  congr 1
  funext b
  cases b <;> rfl
theorem all_flat_bl (bs : List Bool) : (bs.map V.bl).all flatV = true := by
  rw [List.all_map, List.all_eq_true]
  intro b _
  rfl
theorem shared_take {m a b i : Nat} (h : i < m) : (shared m a b).take (i + 1) = (shared m a b).take i ++ [(a / 2 ^ i % 2 == 1) && (b / 2 ^ i % 2 == 1)] := by
  rw [List.take_add_one]
  congr 1
  unfold shared bitL
  simp [List.getElem?_map, List.getElem?_zip_eq_some, h]
theorem ok__law_sign : FnOk P w K mg base CX0 3 T.f__law_sign T.d__law_sign ["_law_n", "_law_one", "_law_place"] (sp_sign K) := by
  have G__law_bits := ok__law_bits (P := P) (w := w) (base := base) T
  refine T.F__law_sign.ok sc__law_sign (fun vs H Q E h => by unfold sp_sign at h; split at h <;> first | rfl | exact h.elim) (fun cdv A outer s H vs Q E hr h => ?_)
  have hu := hu60 hr
  have hr__law_bits := hr.mono (show 2 <= _ by decide)
  unfold sp_sign at h
  split at h
  rotate_left
  . exact h.elim
  rename_i n x y
  obtain ⟨m, a, b, e1, e2, e3, h1, q⟩ := h
  subst e1 e2 e3
  refine ⟨_, (@pss_cons _ _ _ _ _ (@ps_compB _ _ _ _ _ _ _ (["_law_a", "_law_b"]) 2 [] _ _ _ _ 3 _ _ _ rfl sc__law_sign.nd rfl rfl (@kZip _ K _ _ _ _ _ _ _ _ rfl T.z_zip (@pa_cons _ _ _ _ _ (@pe_call _ _ _ _ _ _ _ _ _ _ _ _ _ _ _ _ G__law_bits hr__law_bits rfl T.m__law_bits T.F__law_bits.kp T.b__law_bits .nil pass0 (@pa_cons _ _ _ _ _ (@vw _ 0 _ _ (by walk_at "v")) (@pa1 _ _ _ (@vw _ 1 _ _ (by walk_at "v")) (by rfl)) (by rfl)) (by decide) (by rfl) (by rfl)) (@pa1 _ _ _ (@pe_call _ _ _ _ _ _ _ _ _ _ _ _ _ _ _ _ G__law_bits hr__law_bits rfl T.m__law_bits T.F__law_bits.kp T.b__law_bits .nil pass0 (@pa_cons _ _ _ _ _ (@vw _ 0 _ _ (by walk_at "v")) (@pa1 _ _ _ (@vw _ 2 _ _ (by walk_at "v")) (by rfl)) (by rfl)) (by decide) (by rfl) (by rfl)) (by rfl)) (by rfl)) (by rfl) (by rfl) (by rfl)) (by kernel_rfl) rfl rfl (by kernel_rfl) (fun c => @kTup _ K _ _ _ _ 2 rfl (@pgs_cons _ _ _ _ _ (@pg_name _ _ 0 _ (show (["_law_a", "_law_b"] : List Str).Nodup by decide +kernel) rfl (by walk_at "e") (by walk_at "i")) (@pgs_cons _ _ _ _ _ (@pg_name _ _ 1 _ (show (["_law_a", "_law_b"] : List Str).Nodup by decide +kernel) rfl (by walk_at "e") (by walk_at "i")) (@pgs_nil _) (by rfl)) (by rfl)) (by rfl) (by rfl) (by rfl)) (go_tup (gos_cons gm_name (gms_cons gm_name gms_nil) (go_name (by decide)) (gos_cons gm_name gms_nil (go_name (by decide)) gos_nil))) (fun c => @pts_nil _) (fun c => (@pe_andM _ _ _ _ _ _ _ (@vw _ 0 _ _ (by walk_at "v")) (@pe_one _ _ _ _ _ (@vw _ 1 _ _ (by walk_at "v"))))) (by rfl) (by intro _; rfl)) (@pss_one _ _ _ (@ps_ret _ _ _ _ (@kIx _ K _ _ _ _ _ (@pe_lst _ _ _ _ (@pa_cons _ _ _ _ _ (@pe_int _ _ _ _) (@pa1 _ _ _ (@pe_un _ _ _ _ _ _ um_neg (@pe_int _ _ _ _)) (by rfl)) (by rfl))) (@pe_op _ _ _ _ _ _ _ _ om_mod (@kCount _ K _ _ _ _ _ _ (@vw _ 3 _ _ (by walk_at "v")) (@pa1 _ _ _ (@pe_bl _ _ _ _) (by rfl)) (by rfl) (by rfl) (by rfl) (by rfl) (by rfl) (by rfl)) (@pe_int _ _ _ _)) (by intro _ _; rfl) (by rfl))))), ?_⟩
  refine ⟨m, a, rfl, rfl, h1, fun p1 H1 n1 s1 g1 => ⟨m, b, rfl, rfl, h1, fun p2 H2 n2 s2 g2 => ?_⟩⟩
  have g1' := s2 _ _ g1
  refine ⟨⟨_, .of g1'⟩, ⟨_, .of g2⟩, ?_⟩
  refine comp_zip (xs := (bitL m a).map V.bl) (ys := (bitL m b).map V.bl) (fun i zs H' => Same H2 H' /\ zs = ((shared m a b).take i).map V.bl) ⟨Same.refl _, rfl⟩ (by rw [List.length_map, List.length_map, bitL_len, bitL_len])
    (fun i zs H' _ ⟨s, _⟩ => ⟨.of (s _ _ g1'), .of (s _ _ g2)⟩) (fun i zs H' hi ⟨_, e⟩ => by
      rw [List.length_map, bitL_len] at hi
      rw [e]; exact small1000 (by rw [List.length_map, List.length_take]; omega)) ?_ ?_
  . rintro i u v zs H' p hx hy ⟨s, rfl⟩ hp
    have hi : i < m := by
      have := (List.getElem?_eq_some_iff.mp hx).1
      rw [List.length_map, bitL_len] at this
      exact this
    have ex : u = .bl (a / 2 ^ i % 2 == 1) := by
      rw [List.getElem?_map, show bitL m a = (List.range m).map _ from rfl, List.getElem?_map, List.getElem?_range hi] at hx
      exact (Option.some.inj hx).symm
    have ey : v = .bl (b / 2 ^ i % 2 == 1) := by
      rw [List.getElem?_map, show bitL m b = (List.range m).map _ from rfl, List.getElem?_map, List.getElem?_range hi] at hy
      exact (Option.some.inj hy).symm
    subst ex ey
    refine ⟨p, _, rfl, .of upd_same, rfl, _, _, rfl, _, _, rfl, rfl, ?_⟩
    have s' : Same H2 (upd H' p (.tup [.bl (a / 2 ^ i % 2 == 1), .bl (b / 2 ^ i % 2 == 1)])) := s.trans (Same.upd hp)
    refine ite2 (fun e => ?_) (fun e => ?_)
    . refine ⟨s', ?_⟩
      rw [shared_take hi, List.map_append, e, Bool.true_and]
      rfl
    . refine ⟨s', ?_⟩
      have e : (a / 2 ^ i % 2 == 1) = false := by simpa using e
      rw [shared_take hi, List.map_append, e, Bool.false_and]
      rfl
  rintro zs H' ⟨s, rfl⟩ l hl
  have hlen : ((bitL m a).map V.bl).length = m := by rw [List.length_map, bitL_len]
  have sl : (shared m a b).length = m := by unfold shared; simp [bitL_len]
  rw [hlen, List.take_of_length_le (by omega)]
  refine ⟨small_le (show 2 <= 1000 by decide), fun r hr' => ?_⟩
  have hl' : upd (upd H' l (.lst ((shared m a b).map V.bl))) r (.lst [.int 1, .int (-1)]) l = some (.lst ((shared m a b).map V.bl)) := by
    have : l ≠ r := fun e => by rw [e, upd_same] at hr'; cases hr'
    rw [upd_ne this]; exact upd_same
  refine ⟨.inl ⟨rfl, _, .of hl'⟩, _, .of hl', rfl, all_flat_bl _, by decide, ?_⟩
  rw [countP_bl]
  have e : atI [V.int 1, V.int (-1)] ((((shared m a b).countP id : Nat) : Int) % 2) = some (.int (sgL m a b)) := by
    unfold sgL
    have : (shared m a b).countP id % 2 = 0 \/ (shared m a b).countP id % 2 = 1 := by omega
    rcases this with e | e
    . rw [if_neg (by omega)]
      have : (((shared m a b).countP id : Nat) : Int) % 2 = 0 := by omega
      rw [this]; rfl
    . rw [if_pos e]
      have : (((shared m a b).countP id : Nat) : Int) % 2 = 1 := by omega
      rw [this]; rfl
  refine ⟨_, _, .inl (.of upd_same), e, ?_⟩
  exact q _ ((s1.trans s2).trans ((s.trans (Same.upd hl)).trans (Same.upd hr')))
def sp_table (K : W.Frag) : Sp := fun vs H Q _ => match vs with
  | [.ref t, .int n] => ∃ (a : Addr) (ns : List Int) (m : Nat), Tape K H t a ns /\ n = m /\ 1 <= m /\ m <= 6 /\ ∀ (bs : List Bool) p H', bs.length = 2 ^ m -> H p = none -> H' p = some (.tup (bs.map V.bl)) -> Tape K H' t a ns -> Frm t H H' -> Q (.ref p) H'
  | _ => False
theorem sp_table_mono : SpMono (sp_table K) := fun vs H Q Q' E h q => by
  unfold sp_table at *
  split at q
  . revert q; repeat' first | exact h _ _ | exact newL_mono h | exact out_mono h | exact outT_mono h | walk_at "m"
  . exact q.elim
structure TabL (K : W.Frag) (H0 : Hp) (t a : Addr) (ns : List Int) (M : Nat) (l : Addr) (H : Hp) : Prop where
  tp : Tape K H t a ns
  fr : Frm t H0 H
  new : H0 l = none
  at_ : ∃ bs : List Bool, H l = some (.lst (bs.map V.bl)) /\ bs.length = M
def TabJ (K : W.Frag) (H0 : Hp) (t a : Addr) (ns : List Int) (m M : Nat) : St -> Hp -> Prop := fun σ H => ∃ (l : Addr) (way : Int) (y : Nat) (fb : Bool) (z1 z2 z3 z4 : Option V),
  σ = [some (.ref t), some (.int m), some (.int M), some (.int way), some (.int y), some (.bl fb), some (.ref l), z1, z2, z3, z4] /\ y < M /\ TabL K H0 t a ns M l H
theorem frm_all {t : Addr} {H H' : Hp} (h : ∀ b, b ≠ t -> H' b = H b) : Frm t H H' := fun b o n e => by rw [h b n]; exact e
theorem TabL.same {K : W.Frag} {H0 H H' : Hp} {t a : Addr} {ns : List Int} {M : Nat} {l : Addr} (L : TabL K H0 t a ns M l H) (s : Same H H') : TabL K H0 t a ns M l H' :=
  ⟨L.tp.same s, L.fr.trans s.frm, L.new, let ⟨bs, h, e⟩ := L.at_; ⟨bs, s _ _ h, e⟩⟩
theorem TabL.ne {K : W.Frag} {H0 H : Hp} {t a : Addr} {ns : List Int} {M : Nat} {l : Addr} (L : TabL K H0 t a ns M l H) (T0 : Tape K H0 t a ns) : l ≠ t := T0.neT L.new
theorem TabL.draw {K : W.Frag} {H0 H H' : Hp} {t a : Addr} {ns : List Int} {M : Nat} {l : Addr} (L : TabL K H0 t a ns M l H) (T0 : Tape K H0 t a ns) (T1 : Tape K H' t a ns) (f : ∀ b, b ≠ t -> H' b = H b) : TabL K H0 t a ns M l H' :=
  ⟨T1, L.fr.trans (frm_all f), L.new, let ⟨bs, h, e⟩ := L.at_; ⟨bs, by rw [f l (L.ne T0)]; exact h, e⟩⟩
theorem frm_new {t p : Addr} {H0 H : Hp} {o : HO} (f : Frm t H0 H) (hp : H0 p = none) : Frm t H0 (upd H p o) := fun b u n e => by
  rw [upd_ne (ne_of_none e hp)]; exact f b u n e
theorem TabL.other {K : W.Frag} {H0 H : Hp} {t a p : Addr} {ns : List Int} {M : Nat} {l : Addr} {o : HO} (L : TabL K H0 t a ns M l H) (T0 : Tape K H0 t a ns) (hp : H0 p = none) (hl : p ≠ l) : TabL K H0 t a ns M l (upd H p o) := by
  have nt := T0.neT hp
  have F : Frm t H0 (upd H p o) := frm_new L.fr hp
  obtain ⟨i, r, c, h1, h2, h3⟩ := L.tp.at_
  refine ⟨⟨⟨i, r, c, h1, h2, by rw [upd_ne (Ne.symm nt)]; exact h3⟩, T0.scr.stay fun o n e => F a o n e⟩, F, L.new, ?_⟩
  obtain ⟨bs, h, e⟩ := L.at_
  exact ⟨bs, by rw [upd_ne (Ne.symm hl)]; exact h, e⟩
theorem TabL.put {K : W.Frag} {H0 H : Hp} {t a : Addr} {ns : List Int} {M : Nat} {l : Addr} {bs : List Bool} (L : TabL K H0 t a ns M l H) (T0 : Tape K H0 t a ns) (hb : bs.length = M) : TabL K H0 t a ns M l (upd H l (.lst (bs.map V.bl))) := by
  have F : Frm t H0 (upd H l (.lst (bs.map V.bl))) := frm_new L.fr L.new
  obtain ⟨i, r, c, h1, h2, h3⟩ := L.tp.at_
  exact ⟨⟨⟨i, r, c, h1, h2, by rw [upd_ne (Ne.symm (L.ne T0))]; exact h3⟩, T0.scr.stay fun o n e => F a o n e⟩, F, L.new, bs, upd_same, hb⟩
theorem ixN_nat {n i : Nat} (h : i < n) : ixN n ((i : Nat) : Int) = some i := by
  unfold ixN
  rw [if_pos (Int.natCast_nonneg i), if_pos (by omega)]
  simp
theorem bl_set (bs : List Bool) (i : Nat) (b : Bool) : (bs.map V.bl).set i (.bl b) = (bs.set i b).map V.bl := by
  rw [List.map_set]
theorem hasB_at {xs : BX} {ks : List Bool} (h : hasB xs ks = true) : ∃ c v, atKey (bxv xs) ks = some (c, Value.bool v) := by
  have e := atKey_bxv xs ks
  rw [h] at e
  obtain ⟨⟨c, u⟩, hc⟩ := Option.isSome_iff_exists.mp e
  have hc' := hc
  unfold atKey at hc'
  obtain ⟨z, hz, ez⟩ := Option.map_eq_some_iff.mp hc'
  have hm := List.mem_of_find?_eq_some hz
  unfold bxv at hm
  obtain ⟨q, _, rfl⟩ := List.mem_map.mp hm
  cases ez
  exact ⟨_, _, hc⟩
theorem keysB_upd {H : Hp} {p : Addr} {xs : BX} {o o' : HO} (h : KeysB H xs) (hp : H p = some o) (ho : ∀ ys, HO.tup ys ≠ o) : KeysB (upd H p o') xs := fun q hq => by
  rw [upd_ne (ne_of (h q hq) hp (ho _))]; exact h q hq
theorem keysB_same {H H' : Hp} {xs : BX} (h : KeysB H xs) (s : Same H H') : KeysB H' xs := fun q hq => s _ _ (h q hq)
theorem ok__law_table : FnOk P w K mg base CX0 4 T.f__law_table T.d__law_table ["_law_tape_here", "_law_n"] (sp_table K) := by
  have G__law_two := ok__law_two (P := P) (w := w) (base := base) T; have G__law_next := ok__law_next (P := P) (w := w) (base := base) T; have G__law_sign := ok__law_sign (P := P) (w := w) (base := base) T; have G__law_bits := ok__law_bits (P := P) (w := w) (base := base) T
  refine T.F__law_table.ok sc__law_table (fun vs H Q E h => by unfold sp_table at h; split at h <;> first | rfl | exact h.elim) (fun cdv A outer s H vs Q E hr h => ?_)
  have hu := hu60 hr
  have mo1 : SpMono (sp_sign K) := sp_sign_mono
  have mo2 : SpMono sp_bits := sp_bits_mono
  have hr__law_two := hr.mono (show 1 <= _ by decide); have hr__law_next := hr.mono (show 1 <= _ by decide); have hr__law_sign := hr.mono (show 3 <= _ by decide); have hr__law_bits := hr.mono (show 2 <= _ by decide)
  unfold sp_table at h
  split at h
  rotate_left
  . exact h.elim
  rename_i t n
  obtain ⟨a, ns, m, TP, e1, m1, m6, q⟩ := h
  subst e1
  refine ⟨_, (@pss_cons _ _ _ _ _ (@ps_set _ _ 2 _ _ _ _ sc__law_table.nd rfl (by walk_at "e") (@pe_call _ _ _ _ _ _ _ _ _ _ _ _ _ _ _ _ G__law_two hr__law_two rfl T.m__law_two T.F__law_two.kp T.b__law_two .nil pass0 (@pa1 _ _ _ (@vw _ 1 _ _ (by walk_at "v")) (by rfl)) (by decide) (by rfl) (by rfl)) (by rfl) (by walk_at "i")) (@pss_cons _ _ _ _ _ (@ps_set _ _ 3 _ _ _ _ sc__law_table.nd rfl (by walk_at "e") (@pe_call _ _ _ _ _ _ _ _ _ _ _ _ _ _ _ _ G__law_next hr__law_next rfl T.m__law_next T.F__law_next.kp T.b__law_next .nil pass0 (@pa_cons _ _ _ _ _ (@vw _ 0 _ _ (by walk_at "v")) (@pa1 _ _ _ (@pe_int _ _ _ _) (by rfl)) (by rfl)) (by decide) (by rfl) (by rfl)) (by rfl) (by walk_at "i")) (@pss_cons _ _ _ _ _ (@ps_set _ _ 4 _ _ _ _ sc__law_table.nd rfl (by walk_at "e") (@pe_call _ _ _ _ _ _ _ _ _ _ _ _ _ _ _ _ G__law_next hr__law_next rfl T.m__law_next T.F__law_next.kp T.b__law_next .nil pass0 (@pa_cons _ _ _ _ _ (@vw _ 0 _ _ (by walk_at "v")) (@pa1 _ _ _ (@vw _ 2 _ _ (by walk_at "v")) (by rfl)) (by rfl)) (by decide) (by rfl) (by rfl)) (by rfl) (by walk_at "i")) (@pss_cons _ _ _ _ _ (@ps_set _ _ 5 _ _ _ _ sc__law_table.nd rfl (by walk_at "e") (@pe_cmpM _ _ _ _ _ _ _ _ (kEq (K := K) hu) (@pe_call _ _ _ _ _ _ _ _ _ _ _ _ _ _ _ _ G__law_next hr__law_next rfl T.m__law_next T.F__law_next.kp T.b__law_next .nil pass0 (@pa_cons _ _ _ _ _ (@vw _ 0 _ _ (by walk_at "v")) (@pa1 _ _ _ (@pe_int _ _ _ _) (by rfl)) (by rfl)) (by decide) (by rfl) (by rfl)) (@pe_int _ _ _ _) (by walk_at "n")) (by rfl) (by walk_at "i")) (@pss_cons _ _ _ _ _ (@ps_compB _ _ _ _ _ _ _ (["_law_place", "_law_first"]) 1 [5] _ _ _ _ 6 _ _ _ rfl sc__law_table.nd rfl rfl (@pi_range1 _ _ _ _ _ _ rfl T.z_range (@pa1 _ _ _ (@vw _ 2 _ _ (by walk_at "v")) (by rfl)) (by rfl)) (by kernel_rfl) rfl rfl (by kernel_rfl) (fun c => @pg_name _ _ 0 _ (show (["_law_place", "_law_first"] : List Str).Nodup by decide +kernel) rfl (by walk_at "e") (by walk_at "i")) (go_name (by decide)) (fun c => @pts_nil _) (fun c => (@vw _ 1 _ _ (by walk_at "v"))) (by rfl) (by intro _; rfl)) (@pss_cons _ _ _ _ _ (@ps_if _ _ _ _ _ _ _ _ (@tu_cmp _ _ _ _ _ _ _ _ om_lt (@vw _ 3 _ _ (by walk_at "v")) (@pe_int _ _ _ _) (by walk_at "n")) (@pss_one _ _ _ (@ps_compB _ _ _ _ _ _ _ (["_law_place", "_law_tape_here"]) 1 [0] _ _ _ _ 6 _ _ _ rfl sc__law_table.nd rfl rfl (@pi_range1 _ _ _ _ _ _ rfl T.z_range (@pa1 _ _ _ (@vw _ 2 _ _ (by walk_at "v")) (by rfl)) (by rfl)) (by kernel_rfl) rfl rfl (by kernel_rfl) (fun c => @pg_name _ _ 0 _ (show (["_law_place", "_law_tape_here"] : List Str).Nodup by decide +kernel) rfl (by walk_at "e") (by walk_at "i")) (go_name (by decide)) (fun c => @pts_nil _) (fun c => (@pe_cmpM _ _ _ _ _ _ _ _ (kEq (K := K) hu) (@pe_call _ _ _ _ _ _ _ _ _ _ _ _ _ _ _ _ G__law_next hr__law_next rfl T.m__law_next T.F__law_next.kp T.b__law_next .nil pass0 (@pa_cons _ _ _ _ _ (@vw _ 1 _ _ (by walk_at "v")) (@pa1 _ _ _ (@pe_int _ _ _ _) (by rfl)) (by rfl)) (by decide) (by rfl) (by rfl)) (@pe_int _ _ _ _) (by walk_at "n"))) (by rfl) (by intro _; rfl))) (@pss_nil _)) (@pss_cons _ _ _ _ _ (@ps_if _ _ _ _ _ _ _ _ (@tu_cmp _ _ _ _ _ _ _ _ (kEq (K := K) hu) (@vw _ 3 _ _ (by walk_at "v")) (@pe_int _ _ _ _) (by walk_at "n")) (@pss_one _ _ _ (@ps_compB _ _ _ _ _ _ _ (["_law_place", "_law_first", "_law_n", "_law_some"]) 1 ([5, 1, 4]) _ _ _ _ 6 _ _ _ rfl sc__law_table.nd rfl rfl (@pi_range1 _ _ _ _ _ _ rfl T.z_range (@pa1 _ _ _ (@vw _ 2 _ _ (by walk_at "v")) (by rfl)) (by rfl)) (by kernel_rfl) rfl rfl (by kernel_rfl) (fun c => @pg_name _ _ 0 _ (show (["_law_place", "_law_first", "_law_n", "_law_some"] : List Str).Nodup by decide +kernel) rfl (by walk_at "e") (by walk_at "i")) (go_name (by decide)) (fun c => @pts_nil _) (fun c => (@pe_cmpM _ _ _ _ _ _ _ _ (kEq (K := K) hu) (@vw _ 1 _ _ (by walk_at "v")) (@pe_cmpM _ _ _ _ _ _ _ _ (kEq (K := K) hu) (@pe_call _ _ _ _ _ _ _ _ _ _ _ _ _ _ _ _ G__law_sign hr__law_sign rfl T.m__law_sign T.F__law_sign.kp T.b__law_sign .nil pass0 (@pa_cons _ _ _ _ _ (@vw _ 2 _ _ (by walk_at "v")) (@pa_cons _ _ _ _ _ (@vw _ 3 _ _ (by walk_at "v")) (@pa1 _ _ _ (@vw _ 0 _ _ (by walk_at "v")) (by rfl)) (by rfl)) (by rfl)) (by decide) (by rfl) (by rfl)) (@pe_int _ _ _ _) (by walk_at "n")) (by walk_at "n"))) (by rfl) (by intro _; rfl))) (@pss_nil _)) (@pss_cons _ _ _ _ _ (@ps_if _ _ _ _ _ _ _ _ (@tu_cmp _ _ _ _ _ _ _ _ (kEq (K := K) hu) (@vw _ 3 _ _ (by walk_at "v")) (@pe_int _ _ _ _) (by walk_at "n")) (@pss_cons _ _ _ _ _ (@ps_set _ _ 7 _ _ _ _ sc__law_table.nd rfl (by walk_at "e") (@kNewB _ P w _ (by rfl) (by rfl)) (by rfl) (by walk_at "i")) (@pss_one _ _ _ (@ps_for _ _ _ _ _ _ _ _ PassesOwn.never rfl (@pi_range1 _ _ _ _ _ _ rfl T.z_range (@pa1 _ _ _ (@vw _ 2 _ _ (by walk_at "v")) (by rfl)) (by rfl)) (@pg_name _ _ 8 _ sc__law_table.nd rfl (by walk_at "e") (by walk_at "i")) (@pss_cons _ _ _ _ _ (@ps_set _ _ 9 _ _ _ _ sc__law_table.nd rfl (by walk_at "e") (@pe_callTy _ _ _ _ _ _ _ _ _ (kTuple (K := K)) rfl T.z_tuple (by rfl) (@pa1 _ _ _ (@pe_compB _ _ _ _ _ _ _ (["_law_a", "_law_b"]) 2 [] _ _ _ _ rfl (@kZip _ K _ _ _ _ _ _ _ _ rfl T.z_zip (@pa_cons _ _ _ _ _ (@pe_call _ _ _ _ _ _ _ _ _ _ _ _ _ _ _ _ G__law_bits hr__law_bits rfl T.m__law_bits T.F__law_bits.kp T.b__law_bits .nil pass0 (@pa_cons _ _ _ _ _ (@vw _ 1 _ _ (by walk_at "v")) (@pa1 _ _ _ (@vw _ 8 _ _ (by walk_at "v")) (by rfl)) (by rfl)) (by decide) (by rfl) (by rfl)) (@pa1 _ _ _ (@pe_call _ _ _ _ _ _ _ _ _ _ _ _ _ _ _ _ G__law_bits hr__law_bits rfl T.m__law_bits T.F__law_bits.kp T.b__law_bits .nil pass0 (@pa_cons _ _ _ _ _ (@vw _ 1 _ _ (by walk_at "v")) (@pa1 _ _ _ (@vw _ 4 _ _ (by walk_at "v")) (by rfl)) (by rfl)) (by decide) (by rfl) (by rfl)) (by rfl)) (by rfl)) (by rfl) (by rfl) (by rfl)) (by kernel_rfl) rfl rfl (by kernel_rfl) (fun c => @kTup _ K _ _ _ _ 2 rfl (@pgs_cons _ _ _ _ _ (@pg_name _ _ 0 _ (show (["_law_a", "_law_b"] : List Str).Nodup by decide +kernel) rfl (by walk_at "e") (by walk_at "i")) (@pgs_cons _ _ _ _ _ (@pg_name _ _ 1 _ (show (["_law_a", "_law_b"] : List Str).Nodup by decide +kernel) rfl (by walk_at "e") (by walk_at "i")) (@pgs_nil _) (by rfl)) (by rfl)) (by rfl) (by rfl) (by rfl)) (go_tup (gos_cons gm_name (gms_cons gm_name gms_nil) (go_name (by decide)) (gos_cons gm_name gms_nil (go_name (by decide)) gos_nil))) (fun c => @pts_nil _) (fun c => (@pe_andM _ _ _ _ _ _ _ (@vw _ 0 _ _ (by walk_at "v")) (@pe_one _ _ _ _ _ (@vw _ 1 _ _ (by walk_at "v"))))) (by intro _; rfl)) (by rfl)) (by decide) (by decide) (by rfl) (by rfl)) (by rfl) (by walk_at "i")) (@pss_cons _ _ _ _ _ (@ps_if _ _ _ _ _ _ _ _ (@tu_cmp _ _ _ _ _ _ _ _ (kNotB (P := P) (w := w) hu) (@vw _ 9 _ _ (by walk_at "v")) (@vw _ 7 _ _ (by walk_at "v")) (by walk_at "n")) (@pss_one _ _ _ (@ps_asg _ _ _ _ _ _ (@pe_cmpM _ _ _ _ _ _ _ _ (kEq (K := K) hu) (@pe_call _ _ _ _ _ _ _ _ _ _ _ _ _ _ _ _ G__law_next hr__law_next rfl T.m__law_next T.F__law_next.kp T.b__law_next .nil pass0 (@pa_cons _ _ _ _ _ (@vw _ 0 _ _ (by walk_at "v")) (@pa1 _ _ _ (@pe_int _ _ _ _) (by rfl)) (by rfl)) (by decide) (by rfl) (by rfl)) (@pe_int _ _ _ _) (by walk_at "n")) (@pg_sub _ _ _ _ _ _ _ (@vw _ 7 _ _ (by walk_at "v")) (@vw _ 9 _ _ (by walk_at "v")) (kSetB (P := P) (w := w) hu) (by intro _; rfl)) (by rfl) (by rfl) (by rfl))) (@pss_nil _)) (@pss_one _ _ _ (@ps_asg _ _ _ _ _ _ (@kGetB _ P w _ _ _ _ _ hu (@vw _ 7 _ _ (by walk_at "v")) (@vw _ 9 _ _ (by walk_at "v")) (by intro _ _; rfl) (by rfl) (by rfl)) (@pg_sub _ _ _ _ _ _ _ (@vw _ 6 _ _ (by walk_at "v")) (@vw _ 8 _ _ (by walk_at "v")) set_any (by intro _; rfl)) (by rfl) (by rfl) (by rfl))))) (by intro _; rfl)))) (@pss_nil _)) (@pss_cons _ _ _ _ _ (@ps_for _ _ _ _ _ _ _ _ PassesOwn.never rfl (@pi_range1 _ _ _ _ _ _ rfl T.z_range (@pa1 _ _ _ (@pe_op _ _ _ _ _ _ _ _ om_mul (@pe_call _ _ _ _ _ _ _ _ _ _ _ _ _ _ _ _ G__law_next hr__law_next rfl T.m__law_next T.F__law_next.kp T.b__law_next .nil pass0 (@pa_cons _ _ _ _ _ (@vw _ 0 _ _ (by walk_at "v")) (@pa1 _ _ _ (@pe_int _ _ _ _) (by rfl)) (by rfl)) (by decide) (by rfl) (by rfl)) (@pe_callTy _ _ _ _ _ _ _ _ _ cm_int rfl T.z_int (by rfl) (@pa1 _ _ _ (@pe_cmpM _ _ _ _ _ _ _ _ om_gt (@vw _ 3 _ _ (by walk_at "v")) (@pe_int _ _ _ _) (by walk_at "n")) (by rfl)) (by decide) (by decide) (by rfl) (by rfl))) (by rfl)) (by rfl)) (@pg_name _ _ 10 _ sc__law_table.nd rfl (by walk_at "e") (by walk_at "i")) (@pss_cons _ _ _ _ _ (@ps_set _ _ 8 _ _ _ _ sc__law_table.nd rfl (by walk_at "e") (@pe_call _ _ _ _ _ _ _ _ _ _ _ _ _ _ _ _ G__law_next hr__law_next rfl T.m__law_next T.F__law_next.kp T.b__law_next .nil pass0 (@pa_cons _ _ _ _ _ (@vw _ 0 _ _ (by walk_at "v")) (@pa1 _ _ _ (@vw _ 2 _ _ (by walk_at "v")) (by rfl)) (by rfl)) (by decide) (by rfl) (by rfl)) (by rfl) (by walk_at "i")) (@pss_one _ _ _ (@ps_asg _ _ _ _ _ _ (@pe_notM _ _ _ _ (@kIx _ K _ _ _ _ _ (@vw _ 6 _ _ (by walk_at "v")) (@vw _ 8 _ _ (by walk_at "v")) (by intro _ _; rfl) (by rfl))) (@pg_sub _ _ _ _ _ _ _ (@vw _ 6 _ _ (by walk_at "v")) (@vw _ 8 _ _ (by walk_at "v")) set_any (by intro _; rfl)) (by rfl) (by rfl) (by rfl)))) (by intro _; rfl)) (@pss_one _ _ _ (@ps_ret _ _ _ _ (@pe_callTy _ _ _ _ _ _ _ _ _ (kTuple (K := K)) rfl T.z_tuple (by rfl) (@pa1 _ _ _ (@vw _ 6 _ _ (by walk_at "v")) (by rfl)) (by decide) (by decide) (by rfl) (by rfl))))))))))))), ?_⟩
  have e2 : (2 : Int) ^ ((m : Int).toNat) = ((2 ^ m : Nat) : Int) := by rw [Int.toNat_natCast, Int.natCast_pow]; rfl
  have h64 : 2 ^ m <= 64 := Nat.pow_le_pow_right (n := 2) (by decide) m6
  have h2 : 2 <= 2 ^ m := Nat.pow_le_pow_right (n := 2) (i := 1) (by decide) m1
  refine ⟨by omega, by omega, fun H1 s1 => ?_⟩
  rw [e2]
  generalize hM : 2 ^ m = M at *
  have T1 := TP.same s1
  have hMd : okDiv (M : Int) := okDiv_of (by omega) (Int.le_trans (Int.ofNat_le.mpr h64) (by decide))
  have hMr : (M : Int) < 2 ^ 62 := Int.lt_of_le_of_lt (Int.ofNat_le.mpr h64) (by decide)
  refine ⟨a, ns, T1, okDiv_of (by decide) (by decide), fun way H2 w0 w1 T2 f2 => ⟨a, ns, T2, hMd, fun y' H3 y0 y1 T3 f3 => ⟨a, ns, T3, okDiv_of (by decide) (by decide), fun d H4 _ _ T4 f4 => ?_⟩⟩⟩
  obtain ⟨y, rfl⟩ := Int.eq_ofNat_of_zero_le y0
  have hy : y < M := by omega
  have F4 : Frm t H H4 := s1.frm.trans ((frm_all f2).trans ((frm_all f3).trans (frm_all f4)))
  dsimp only [tC, mEq, gName, eqV]
  generalize (false ^^ (d == 1)) = fb
  refine seq_at (TabJ K H t a ns m M) ?_ ?_ (by walk_at "sm")
  . refine ⟨(M : Int), rfl, by omega, by omega, ?_⟩
    refine comp_range (fun i ys H' => H' = H4 /\ ys = (List.replicate i fb).map V.bl) ⟨rfl, rfl⟩ (fun i ys H' hi ⟨_, e⟩ => by
      rw [e]; exact small1000 (by rw [List.length_map, List.length_replicate]; omega)) ?_ ?_
    . rintro i ys H' hi ⟨rfl, rfl⟩
      refine ⟨rfl, ?_⟩
      rw [List.replicate_succ', List.map_append]; rfl
    . rintro ys H' ⟨rfl, rfl⟩ l hl
      exact ⟨l, way, y, fb, none, none, none, none, rfl, hy, T4.upd hl, F4.trans (Frm.upd hl), T4.free F4 hl, _, upd_same, by rw [List.length_replicate]; omega⟩
  rintro σ Ha ⟨l, way, y, fb, z1, z2, z3, z4, rfl, hy, L⟩
  refine seq_at (TabJ K H t a ns m M) ?_ ?_ (by walk_at "sm")
  . -- any answers
    refine ite2 (fun e => ?_) (fun e => ⟨l, way, y, fb, z1, z2, z3, z4, rfl, hy, L⟩)
    refine ⟨(M : Int), rfl, by omega, by omega, ?_⟩
    refine comp_range (fun i ys H' => Tape K H' t a ns /\ Frm t H H' /\ ∃ bs : List Bool, ys = bs.map V.bl /\ bs.length = i) ⟨L.tp, L.fr, [], rfl, rfl⟩ (fun i ys H' hi ⟨_, _, bs, e, el⟩ => by
      rw [e]; exact small1000 (by rw [List.length_map]; omega)) ?_ ?_
    . rintro i ys H' hi ⟨Ti, Fi, bs, rfl, rfl⟩
      refine ⟨a, ns, Ti, okDiv_of (by decide) (by decide), fun d H2 _ _ T2 f2 => ?_⟩
      exact ⟨T2, Fi.trans (frm_all f2), bs ++ [(false ^^ (d == 1))], by rw [List.map_append]; rfl, by rw [List.length_append]; rfl⟩
    . rintro ys H' ⟨Ti, Fi, bs, rfl, hb⟩ l' hl
      exact ⟨l', way, y, fb, z1, z2, z3, z4, rfl, hy, Ti.upd hl, Fi.trans (Frm.upd hl), Ti.free Fi hl, bs, upd_same, by omega⟩
  clear L
  rintro σ Ha ⟨l, way, y, fb, z1, z2, z3, z4, rfl, hy, L⟩
  refine seq_at (TabJ K H t a ns m M) ?_ ?_ (by walk_at "sm")
  . -- odd of a set
    refine ite2 (fun e => ?_) (fun e => ⟨l, way, y, fb, z1, z2, z3, z4, rfl, hy, L⟩)
    refine ⟨(M : Int), rfl, by omega, by omega, ?_⟩
    refine comp_range (fun i ys H' => Same Ha H' /\ ∃ bs : List Bool, ys = bs.map V.bl /\ bs.length = i) ⟨Same.refl _, [], rfl, rfl⟩ (fun i ys H' hi ⟨_, bs, e, el⟩ => by
      rw [e]; exact small1000 (by rw [List.length_map]; omega)) ?_ ?_
    . rintro i ys H' hi ⟨Si, bs, rfl, rfl⟩
      refine ⟨m, y, bs.length, rfl, rfl, by omega, m6, fun H2 s2 => ?_⟩
      exact ⟨Si.trans s2, bs ++ [(false ^^ (fb == (false ^^ (sgL m y bs.length == 1))))], by rw [List.map_append]; rfl, by rw [List.length_append]; rfl⟩
    . rintro ys H' ⟨Si, bs, rfl, hb⟩ l' hl
      have Fi := L.fr.trans (Si.frm (t := t))
      exact ⟨l', way, y, fb, z1, z2, z3, z4, rfl, hy, (L.tp.same Si).upd hl, Fi.trans (Frm.upd hl), (L.tp.same Si).free Fi hl, bs, upd_same, by omega⟩
  clear L
  rintro σ Ha ⟨l, way, y, fb, z1, z2, z3, z4, rfl, hy, L⟩
  refine seq_at (TabJ K H t a ns m M) ?_ ?_ (by walk_at "sm")
  . -- of few switches
    refine ite2 (fun e => ?_) (fun e => ⟨l, way, y, fb, z1, z2, z3, z4, rfl, hy, L⟩)
    refine fun p hp => ?_
    have hp0 : H p = none := L.tp.free L.fr hp
    have pl : p ≠ l := fun e => by
      obtain ⟨bs, hb, _⟩ := L.at_
      rw [e, hb] at hp; cases hp
    refine ⟨(M : Int), rfl, by omega, by omega, ?_⟩
    refine for_range (fun i σ H' => ∃ (z2 z3 : Option V) (xs : BX), σ = [some (.ref t), some (.int m), some (.int M), some (.int way), some (.int y), some (.bl fb), some (.ref l), some (.ref p), z2, z3, z4] /\ TabL K H t a ns M l H' /\ H' p = some (dB P w p xs) /\ KeysB H' xs /\ xs.length <= i)
      ⟨z2, z3, [], rfl, L.other TP hp0 pl, upd_same, (fun q hq => by cases hq), Nat.le_refl _⟩ ?_ ?_
    . rintro i σ Hb hi ⟨z2, z3, xs, rfl, Lb, hd, hk, hx⟩
      have hi' : i < M := by omega
      have e0 : (0 : Int) + (i : Int) = (i : Int) := Int.zero_add _
      rw [e0]
      refine ⟨m, i, rfl, rfl, m6, fun p1 H1 n1 s1 g1 => ⟨m, y, rfl, rfl, m6, fun p2 H2 n2 s2 g2 => ?_⟩⟩
      have g1' := s2 _ _ g1
      refine ⟨⟨_, .of g1'⟩, ⟨_, .of g2⟩, ?_⟩
      refine comp_zip (xs := (bitL m i).map V.bl) (ys := (bitL m y).map V.bl) (fun j zs H' => Same H2 H' /\ zs = ((shared m i y).take j).map V.bl) ⟨Same.refl _, rfl⟩ (by rw [List.length_map, List.length_map, bitL_len, bitL_len])
        (fun j zs H' _ ⟨s, _⟩ => ⟨.of (s _ _ g1'), .of (s _ _ g2)⟩) (fun j zs H' hj ⟨_, e⟩ => by
          rw [List.length_map, bitL_len] at hj
          rw [e]; exact small1000 (by rw [List.length_map, List.length_take]; omega)) ?_ ?_
      . rintro j u v zs H' pp hx hy ⟨s, rfl⟩ hpp
        have hj : j < m := by
          have := (List.getElem?_eq_some_iff.mp hx).1
          rw [List.length_map, bitL_len] at this
          exact this
        have ex : u = .bl (i / 2 ^ j % 2 == 1) := by
          rw [List.getElem?_map, show bitL m i = (List.range m).map _ from rfl, List.getElem?_map, List.getElem?_range hj] at hx
          exact (Option.some.inj hx).symm
        have ey : v = .bl (y / 2 ^ j % 2 == 1) := by
          rw [List.getElem?_map, show bitL m y = (List.range m).map _ from rfl, List.getElem?_map, List.getElem?_range hj] at hy
          exact (Option.some.inj hy).symm
        subst ex ey
        refine ⟨pp, _, rfl, .of upd_same, rfl, _, _, rfl, _, _, rfl, rfl, ?_⟩
        have s' : Same H2 (upd H' pp (.tup [.bl (i / 2 ^ j % 2 == 1), .bl (y / 2 ^ j % 2 == 1)])) := s.trans (Same.upd hpp)
        refine ite2 (fun e => ?_) (fun e => ?_)
        . refine ⟨s', ?_⟩
          rw [shared_take hj, List.map_append, e, Bool.true_and]
          rfl
        . refine ⟨s', ?_⟩
          have e : (i / 2 ^ j % 2 == 1) = false := by simpa using e
          rw [shared_take hj, List.map_append, e, Bool.false_and]
          rfl
      rintro zs H3 ⟨s3, rfl⟩ l3 hl3
      have hlen : ((bitL m i).map V.bl).length = m := by rw [List.length_map, bitL_len]
      have sl : (shared m i y).length = m := by unfold shared; simp [bitL_len]
      rw [hlen, List.take_of_length_le (by omega)]
      generalize shared m i y = ks
      refine ⟨_, .inl ⟨.of upd_same, fun kk hkk => ?_⟩⟩
      have S : Same Hb (upd (upd H3 l3 (.lst (ks.map V.bl))) kk (.tup (ks.map V.bl))) := (s1.trans (s2.trans s3)).trans ((Same.upd hl3).trans (Same.upd hkk))
      have gk : upd (upd H3 l3 (.lst (ks.map V.bl))) kk (.tup (ks.map V.bl)) kk = some (.tup (ks.map V.bl)) := upd_same
      have Lc := Lb.same S
      have hd := S _ _ hd
      have hk := keysB_same hk S
      clear Lb
      generalize upd (upd H3 l3 (.lst (ks.map V.bl))) kk (.tup (ks.map V.bl)) = Hc at *
      dsimp only [gName]
      refine seq_at (fun σ H' => ∃ xs : BX, σ = [some (.ref t), some (.int m), some (.int M), some (.int way), some (.int y), some (.bl fb), some (.ref l), some (.ref p), some (.int i), some (.ref kk), z4] /\ TabL K H t a ns M l H' /\ H' p = some (dB P w p xs) /\ KeysB H' xs /\ xs.length <= i + 1 /\ H' kk = some (.tup (ks.map V.bl)) /\ hasB xs ks = true) ?_ ?_ (by walk_at "sm")
      . refine ⟨xs, ks, gk, hd, hk, ?_⟩
        refine ite2 (fun e => ?_) (fun e => ?_)
        . have hn : hasB xs ks = false := by simpa using e
          refine ⟨a, ns, Lc.tp, okDiv_of (by decide) (by decide), fun d H6 _ _ T6 f6 => ?_⟩
          have L6 := Lc.draw TP T6 f6
          have pt : p ≠ t := TP.neT hp0
          have hd6 : H6 p = some (dB P w p xs) := by rw [f6 p pt]; exact hd
          have nt : ∀ {b : Addr} {ys : List V}, Hc b = some (.tup ys) -> b ≠ t := fun {b ys} hb e => by
            obtain ⟨i, r, c, _, _, h3⟩ := Lc.tp.at_
            rw [e, h3] at hb; cases hb
          have gk6 : H6 kk = some (.tup (ks.map V.bl)) := by rw [f6 kk (nt gk)]; exact gk
          have hk6 : KeysB H6 xs := fun q hq => by rw [f6 _ (nt (hk q hq))]; exact hk q hq
          refine ⟨xs, ks, gk6, hd6, hk6, hn, small1000 (by omega), ?_⟩
          refine ⟨xs ++ [(ks, kk, (false ^^ (d == 1)))], rfl, L6.other TP hp0 pl, upd_same, ?_, by rw [List.length_append]; exact Nat.succ_le_succ hx, ?_, ?_⟩
          . intro q hq
            rcases List.mem_append.mp hq with hq | hq
            . exact keysB_upd hk6 hd6 (fun ys z => nomatch z) q hq
            . have := List.mem_singleton.mp hq
              subst this
              rw [upd_ne (ne_of gk6 hd6 (fun z => nomatch z))]; exact gk6
          . rw [upd_ne (ne_of gk6 hd6 (fun z => nomatch z))]; exact gk6
          . unfold hasB; rw [List.any_append]; simp
        . have hn : hasB xs ks = true := by simpa using e
          exact ⟨xs, rfl, Lc, hd, hk, Nat.le_succ_of_le hx, gk, hn⟩
      rintro σ He ⟨xs, rfl, Le, hd, hk, hx, gk, hh⟩
      obtain ⟨c, v, hv⟩ := hasB_at hh
      obtain ⟨bs, hbs, hbl⟩ := Le.at_
      refine ⟨xs, ks, c, v, gk, hd, hk, hv, _, i, hbs, ixN_nat (by rw [List.length_map]; omega), ?_⟩
      rw [bl_set]
      refine ⟨some (.int i), some (.ref kk), xs, rfl, Le.put TP (by rw [List.length_set]; exact hbl), ?_, keysB_upd hk hbs (fun ys z => nomatch z), hx⟩
      rw [upd_ne pl]; exact hd
    . rintro σ He ⟨z2, z3, xs, rfl, Le, _⟩
      exact ⟨l, way, y, fb, _, z2, z3, z4, rfl, hy, Le⟩
  clear L
  rintro σ Ha ⟨l, way, y, fb, z1, z2, z3, z4, rfl, hy, L⟩
  refine seq_at (TabJ K H t a ns m M) ?_ ?_ (by walk_at "sm")
  . -- some places turned
    refine ⟨a, ns, L.tp, okDiv_of (by decide) (by decide), fun d Hb d0 d3 Tb fb' => ?_⟩
    have Lb := L.draw TP Tb fb'
    have hmul : ∃ N : Nat, d * (if decide (way > 1) = true then 1 else 0) = (N : Int) /\ N <= 2 := by
      by_cases h : way > 1
      . rw [decide_eq_true h, if_pos rfl, Int.mul_one]; exact ⟨d.toNat, by omega, by omega⟩
      . rw [decide_eq_false h, if_neg (by decide), Int.mul_zero]; exact ⟨0, rfl, by omega⟩
    obtain ⟨N, hN, hN2⟩ := hmul
    refine ⟨.inr (.inl ⟨by omega, by omega⟩), (N : Int), congrArg (fun z => [V.int z]) hN, by omega, by omega, ?_⟩
    refine for_range (fun _ => TabJ K H t a ns m M) ⟨l, way, y, fb, z1, z2, z3, z4, rfl, hy, Lb⟩ ?_ (fun σ H' h => h)
    rintro i σ Hc hi ⟨l, way, y, fb, z1, z2, z3, z4, rfl, hy, Lc⟩
    refine ⟨a, ns, Lc.tp, hMd, fun k' Hd k0 k1 Td fd => ?_⟩
    obtain ⟨k, rfl⟩ := Int.eq_ofNat_of_zero_le k0
    have Ld := Lc.draw TP Td fd
    obtain ⟨bs, hbs, hbl⟩ := Ld.at_
    have hk : k < bs.length := by omega
    refine ⟨_, .bl bs[k], .inl (.of hbs), atI_of rfl (by rw [List.getElem?_map, List.getElem?_eq_getElem hk]; rfl), _, k, hbs, ixN_nat (by rw [List.length_map]; omega), ?_⟩
    rw [bl_set]
    exact ⟨l, way, y, fb, z1, some (.int k), z3, some (.int (0 + (i : Int))), rfl, hy, Ld.put TP (by rw [List.length_set]; exact hbl)⟩
  clear L
  rintro σ Ha ⟨l, way, y, fb, z1, z2, z3, z4, rfl, hy, L⟩
  obtain ⟨bs, hbs, hbl⟩ := L.at_
  refine ⟨_, .inl ⟨.of hbs, fun p hp => ?_⟩⟩
  exact q bs p _ hbl (L.tp.free L.fr hp) upd_same (L.tp.upd hp) (L.fr.trans (Frm.upd hp))
def sp_many : Sp := fun vs H Q _ => match vs with
  | [.int x] => ∃ a : Nat, x = a /\ a < 2 ^ 64 /\ Q (.int (many a)) H
  | _ => False
theorem sp_many_mono : SpMono sp_many := fun vs H Q Q' E h q => by
  unfold sp_many at *
  split at q
  . revert q; repeat' first | exact h _ _ | exact newL_mono h | exact out_mono h | exact outT_mono h | walk_at "m"
  . exact q.elim
def sp_crossed (K : W.Frag) : Sp := fun vs H Q _ => match vs with
  | [.ref p, .int s, .int k] => ∃ (g : Nat -> Int) (M sn kn : Nat), SqL K H p (ixL g M) /\ s = sn /\ k = kn /\ kn < M /\ 0 < sn /\ sn <= 64 /\ (kn / sn % 2 ≠ 1 -> kn + sn < M) /\ Q (.int (crossF g sn kn)) H
  | _ => False
theorem sp_crossed_mono : SpMono (sp_crossed K) := fun vs H Q Q' E h q => by
  unfold sp_crossed at *
  split at q
  . revert q; repeat' first | exact h _ _ | exact newL_mono h | exact out_mono h | exact outT_mono h | walk_at "m"
  . exact q.elim
theorem ok_crossed : FnOk P w K mg base CX0 1 T.f_crossed T.d_crossed ["numbers", "step", "place"] (sp_crossed K) := by
  refine T.F_crossed.ok sc_crossed (fun vs H Q E h => by unfold sp_crossed at h; split at h <;> first | rfl | exact h.elim) (fun cdv A outer s H vs Q E hr h => ?_)
  have hu := hu60 hr
  unfold sp_crossed at h
  split at h
  rotate_left
  . exact h.elim
  rename_i p s k
  obtain ⟨g, M, sn, kn, hp, e1, e2, h1, h2, h3, h4, q⟩ := h
  subst e1 e2
  refine ⟨_, (@pss_cons _ _ _ _ _ (@ps_if _ _ _ _ _ _ _ _ (@tu_cmp _ _ _ _ _ _ _ _ (kEq (K := K) hu) (@pe_op _ _ _ _ _ _ _ _ om_mod (@pe_op _ _ _ _ _ _ _ _ om_div (@vw _ 2 _ _ (by walk_at "v")) (@vw _ 1 _ _ (by walk_at "v"))) (@pe_int _ _ _ _)) (@pe_int _ _ _ _) (by walk_at "n")) (@pss_one _ _ _ (@ps_ret _ _ _ _ (@pe_op _ _ _ _ _ _ _ _ om_sub (@kIx _ K _ _ _ _ _ (@vw _ 0 _ _ (by walk_at "v")) (@pe_op _ _ _ _ _ _ _ _ om_sub (@vw _ 2 _ _ (by walk_at "v")) (@vw _ 1 _ _ (by walk_at "v"))) (by intro _ _; rfl) (by rfl)) (@kIx _ K _ _ _ _ _ (@vw _ 0 _ _ (by walk_at "v")) (@vw _ 2 _ _ (by walk_at "v")) (by intro _ _; rfl) (by rfl))))) (@pss_nil _)) (@pss_one _ _ _ (@ps_ret _ _ _ _ (@pe_op _ _ _ _ _ _ _ _ (kAdd (K := K)) (@kIx _ K _ _ _ _ _ (@vw _ 0 _ _ (by walk_at "v")) (@vw _ 2 _ _ (by walk_at "v")) (by intro _ _; rfl) (by rfl)) (@kIx _ K _ _ _ _ _ (@vw _ 0 _ _ (by walk_at "v")) (@pe_op _ _ _ _ _ _ _ _ (kAdd (K := K)) (@vw _ 2 _ _ (by walk_at "v")) (@vw _ 1 _ _ (by walk_at "v"))) (by intro _ _; rfl) (by rfl)))))), ?_⟩
  refine ⟨okDiv_of (by omega) (Int.le_trans (Int.ofNat_le.mpr h3) (by decide)), by decide, ?_⟩
  unfold crossF at q
  have ed : ((kn : Int) / (sn : Int) % 2 == 1) = decide (kn / sn % 2 = 1) := by
    rw [<- Int.natCast_ediv]
    generalize kn / sn = d
    rw [Bool.eq_iff_iff]
    simp only [beq_iff_eq, decide_eq_true_eq]
    omega
  dsimp only [tC, mEq, isB]
  rw [ed]
  refine ite2 (fun e => ?_) (fun e => ?_)
  . have e' : kn / sn % 2 = 1 := by simpa using e
    rw [if_pos e'] at q
    have hge : sn <= kn := by
      rcases Nat.lt_or_ge kn sn with z | z
      . rw [Nat.div_eq_of_lt z] at e'; cases e'
      . exact z
    refine ⟨_, .int (g (kn - sn)), .inl hp, ?_, _, _, .inl hp, ixL_at h1, q⟩
    have : (kn : Int) - (sn : Int) = ((kn - sn : Nat) : Int) := by omega
    rw [this]
    exact ixL_at (by omega)
  . have e' : ¬ kn / sn % 2 = 1 := by simpa using e
    rw [if_neg e'] at q
    refine ⟨_, _, .inl hp, ixL_at h1, _, .int (g (kn + sn)), .inl hp, ?_, q⟩
    have : (kn : Int) + (sn : Int) = ((kn + sn : Nat) : Int) := by omega
    rw [this]
    exact ixL_at (h4 e')
def sp_times (K : W.Frag) : Sp := fun vs H Q _ => match vs with
  | [.ref p] => ∃ (g : Nat -> Int) (m : Nat), SqL K H p (ixL g (2 ^ m)) /\ m <= 6 /\ newL H Q (ixL (hadF g m) (2 ^ m))
  | _ => False
theorem sp_times_mono : SpMono (sp_times K) := fun vs H Q Q' E h q => by
  unfold sp_times at *
  split at q
  . revert q; repeat' first | exact h _ _ | exact newL_mono h | exact out_mono h | exact outT_mono h | walk_at "m"
  . exact q.elim
theorem ok_times_signs : FnOk P w K mg base CX0 2 T.f_times_signs T.d_times_signs ["numbers"] (sp_times K) := by
  have G_crossed := ok_crossed (P := P) (w := w) (base := base) T
  refine T.F_times_signs.ok sc_times_signs (fun vs H Q E h => by unfold sp_times at h; split at h <;> first | rfl | exact h.elim) (fun cdv A outer s H vs Q E hr h => ?_)
  have hu := hu60 hr
  have mo1 : SpMono (sp_crossed K) := sp_crossed_mono
  have hr_crossed := hr.mono (show 1 <= _ by decide)
  unfold sp_times at h
  split at h
  rotate_left
  . exact h.elim
  rename_i p
  obtain ⟨g, m, hp, m6, q⟩ := h
  refine ⟨_, (@pss_cons _ _ _ _ _ (@ps_set _ _ 1 _ _ _ _ sc_times_signs.nd rfl (by walk_at "e") (@pe_callTy _ _ _ _ _ _ _ _ _ (kList (K := K)) rfl T.z_list (by rfl) (@pa1 _ _ _ (@vw _ 0 _ _ (by walk_at "v")) (by rfl)) (by decide) (by decide) (by rfl) (by rfl)) (by rfl) (by walk_at "i")) (@pss_cons _ _ _ _ _ (@ps_set _ _ 2 _ _ _ _ sc_times_signs.nd rfl (by walk_at "e") (@pe_int _ _ _ _) (by rfl) (by walk_at "i")) (@pss_cons _ _ _ _ _ (@ps_whileM _ _ _ _ _ _ PassesOwn.never (@tu_cmp _ _ _ _ _ _ _ _ om_lt (@vw _ 2 _ _ (by walk_at "v")) (@pe_callB _ _ _ _ _ _ _ _ _ (kLen (K := K)) rfl T.z_len (by rfl) (@pa1 _ _ _ (@vw _ 1 _ _ (by walk_at "v")) (by rfl)) (by decide) (by decide) (by rfl) (by rfl)) (by walk_at "n")) (@pss_cons _ _ _ _ _ (@ps_set _ _ 1 _ _ _ _ sc_times_signs.nd rfl (by walk_at "e") (@pe_compB _ _ _ _ _ _ _ (["place", "sums", "step"]) 1 ([1, 2]) _ _ _ _ rfl (@pi_range1 _ _ _ _ _ _ rfl T.z_range (@pa1 _ _ _ (@pe_callB _ _ _ _ _ _ _ _ _ (kLen (K := K)) rfl T.z_len (by rfl) (@pa1 _ _ _ (@vw _ 1 _ _ (by walk_at "v")) (by rfl)) (by decide) (by decide) (by rfl) (by rfl)) (by rfl)) (by rfl)) (by kernel_rfl) rfl rfl (by kernel_rfl) (fun c => @pg_name _ _ 0 _ (show (["place", "sums", "step"] : List Str).Nodup by decide +kernel) rfl (by walk_at "e") (by walk_at "i")) (go_name (by decide)) (fun c => @pts_nil _) (fun c => (@pe_call _ _ _ _ _ _ _ _ _ _ _ _ _ _ _ _ G_crossed hr_crossed rfl T.m_crossed T.F_crossed.kp T.b_crossed .nil pass0 (@pa_cons _ _ _ _ _ (@vw _ 1 _ _ (by walk_at "v")) (@pa_cons _ _ _ _ _ (@vw _ 2 _ _ (by walk_at "v")) (@pa1 _ _ _ (@vw _ 0 _ _ (by walk_at "v")) (by rfl)) (by rfl)) (by rfl)) (by decide) (by rfl) (by rfl))) (by intro _; rfl)) (by rfl) (by walk_at "i")) (@pss_one _ _ _ (@ps_set _ _ 2 _ _ _ _ sc_times_signs.nd rfl (by walk_at "e") (@pe_op _ _ _ _ _ _ _ _ om_mul (@vw _ 2 _ _ (by walk_at "v")) (@pe_int _ _ _ _)) (by rfl) (by walk_at "i"))))) (@pss_one _ _ _ (@ps_ret _ _ _ _ (@vw _ 1 _ _ (by walk_at "v"))))))), ?_⟩
  have hin := cross_in m (by omega)
  have hpow : ∀ s, s < m -> 2 ^ s < 2 ^ m := fun s hs => Nat.pow_lt_pow_right (by decide) hs
  have hpm : ∀ s, s < m -> 2 ^ s <= 64 := fun s hs => Nat.le_trans (Nat.le_of_lt (hpow s hs)) (Nat.pow_le_pow_right (n := 2) (j := 6) (by decide) m6)
  have h64 : 2 ^ m <= 64 := Nat.pow_le_pow_right (n := 2) (by decide) m6
  have hpos : ∀ s : Nat, 0 < 2 ^ s := fun s => Nat.two_pow_pos s
  refine ⟨_, .inl hp, fun l hl => ?_⟩
  dsimp only [gName]
  have h0 : ixL g (2 ^ m) = ixL (hadF g 0) (2 ^ m) := rfl
  rw [h0]
  refine seq_at (fun σ H' => σ = [some (.ref p), some (.ref l), some (.int (2 ^ 0 : Nat))] /\ upd H l (.lst (ixL (hadF g 0) (2 ^ m))) = H') ⟨rfl, rfl⟩ ?_ (by walk_at "sm")
  rintro σ _ ⟨rfl, rfl⟩
  generalize hM : 2 ^ m = M at *
  have hMr : (M : Int) < 2 ^ 62 := Int.lt_of_le_of_lt (Int.ofNat_le.mpr h64) (by decide)
  refine ⟨fun f σ H' => ∃ (s : Nat) (l : Addr), s <= m /\ f = m - s /\ σ = [some (.ref p), some (.ref l), some (.int (2 ^ s : Nat))] /\ Same H H' /\ H l = none /\ H' l = some (.lst (ixL (hadF g s) M)), ⟨m, 0, l, Nat.zero_le _, rfl, rfl, Same.upd hl, hl, upd_same⟩, ?_⟩
  clear hl
  rintro f σ H1 ⟨s, l, hs, rfl, rfl, s1, hl, g1⟩
  refine ⟨M, .inl ⟨_, .of g1, ixL_len.symm⟩, ?_⟩
  refine ite2 (fun e => ?_) (fun e => ?_)
  . have hlt : 2 ^ s < M := by have : ((2 ^ s : Nat) : Int) < (M : Int) := of_decide_eq_true e; omega
    have hsm : s < m := by
      rcases Nat.lt_or_ge s m with z | z
      . exact z
      . have : s = m := by omega
        subst this; omega
    refine ⟨M, .inl ⟨_, .of g1, ixL_len.symm⟩, (M : Int), rfl, by omega, by omega, ?_⟩
    refine comp_range (fun i ys H' => H1 = H' /\ ys = (ixL (hadF g (s + 1)) M).take i) ⟨rfl, rfl⟩ (fun i ys H' hi ⟨_, e⟩ => by
      rw [e]; exact small1000 (by rw [List.length_take, ixL_len]; omega)) ?_ ?_
    . rintro i ys H' hi ⟨rfl, rfl⟩
      have hi' : i < M := by omega
      refine ⟨hadF g s, M, 2 ^ s, i, .of g1, rfl, by omega, hi', hpos s, hpm s hsm, hin s hsm i hi', rfl, ?_⟩
      rw [ixL_take hi']
      rfl
    . rintro ys H' ⟨rfl, rfl⟩ l' hl'
      refine ⟨.inr (.inr ⟨by decide, by decide⟩), m - (s + 1), by omega, s + 1, l', hsm, rfl, ?_, s1.trans (Same.upd hl'), s1.free hl', ?_⟩
      . show [some (V.ref p), some (V.ref l'), some (V.int (((2 ^ s : Nat) : Int) * 2))] = _
        rw [Nat.pow_succ, Int.natCast_mul]
        rfl
      . rw [Int.toNat_natCast, List.take_of_length_le (by rw [ixL_len]; omega)]
        exact upd_same
  . have hsm : s = m := by
      rcases Nat.lt_or_ge s m with z | z
      . have := hpow s z
        exact (e (decide_eq_true (by omega))).elim
      . omega
    subst hsm
    exact q l H1 hl s1 g1
def sp_weights (K : W.Frag) : Sp := fun vs H Q _ => match vs with
  | [v] => ∃ (m : Nat) (g : Nat -> Int), SumAt K H v m (termG g (2 ^ m)) /\ m <= 6 /\ newL H Q (ixL g (2 ^ m))
  | _ => False
theorem sp_weights_mono : SpMono (sp_weights K) := fun vs H Q Q' E h q => by
  unfold sp_weights at *
  split at q
  . revert q; repeat' first | exact h _ _ | exact newL_mono h | exact out_mono h | exact outT_mono h | walk_at "m"
  . exact q.elim
theorem ok_weights_of : FnOk P w K mg base CX0 3 T.f_weights_of T.d_weights_of ["one"] (sp_weights K) := by
  have G_two_to := ok_two_to (P := P) (w := w) (base := base) T
  refine T.F_weights_of.ok sc_weights_of (fun vs H Q E h => by unfold sp_weights at h; split at h <;> first | rfl | exact h.elim) (fun cdv A outer s H vs Q E hr h => ?_)
  have hu := hu60 hr
  have mo1 : SpMono sp_two_to := sp_two_to_mono
  have hr_two_to := hr.mono (show 2 <= _ by decide)
  unfold sp_weights at h
  split at h
  rotate_left
  . exact h.elim
  rename_i v
  obtain ⟨m, g, S, m6, q⟩ := h
  obtain ⟨a, b, vs, rfl, ha, hb, hr'⟩ := id S.at_
  have h64 : 2 ^ m <= 64 := Nat.pow_le_pow_right (n := 2) (by decide) m6
  have i0 : (0 : Int) <= ((2 ^ m : Nat) : Int) := Int.natCast_nonneg _
  have i1 : ((2 ^ m : Nat) : Int) <= 64 := Int.ofNat_le.mpr h64
  have hvl : vs.length = (termG g (2 ^ m)).length := by have := hr'.length; rw [List.length_map] at this; omega
  refine ⟨_, (@pss_cons _ _ _ _ _ (@ps_set _ _ 1 _ _ _ _ sc_weights_of.nd rfl (by walk_at "e") (@pe_op _ _ _ _ _ _ _ _ om_mul (@pe_lst _ _ _ _ (@pa1 _ _ _ (@pe_int _ _ _ _) (by rfl))) (@pe_call _ _ _ _ _ _ _ _ _ _ _ _ _ _ _ _ G_two_to hr_two_to rfl T.m_two_to T.F_two_to.kp T.b_two_to .nil pass0 (@pa1 _ _ _ (@kIx _ K _ _ _ _ _ (@vw _ 0 _ _ (by walk_at "v")) (@pe_int _ _ _ _) (by intro _ _; rfl) (by rfl)) (by rfl)) (by decide) (by rfl) (by rfl))) (by rfl) (by walk_at "i")) (@pss_cons _ _ _ _ _ (@ps_for _ _ _ _ _ _ _ _ PassesOwn.never rfl (@kSeq _ K _ _ _ (@kIx _ K _ _ _ _ _ (@vw _ 0 _ _ (by walk_at "v")) (@pe_int _ _ _ _) (by intro _ _; rfl) (by rfl)) (by rfl)) (@kTupA _ K _ _ _ _ 2 rfl (@pgs_cons _ _ _ _ _ (@pg_name _ _ 2 _ sc_weights_of.nd rfl (by walk_at "e") (by walk_at "i")) (@pgs_cons _ _ _ _ _ (@pg_name _ _ 3 _ sc_weights_of.nd rfl (by walk_at "e") (by walk_at "i")) (@pgs_nil _) (by rfl)) (by rfl)) (by rfl) (by rfl) (by rfl)) (@pss_one _ _ _ (@ps_asg _ _ _ _ _ _ (@vw _ 3 _ _ (by walk_at "v")) (@pg_sub _ _ _ _ _ _ _ (@vw _ 1 _ _ (by walk_at "v")) (@vw _ 2 _ _ (by walk_at "v")) set_any (by intro _; rfl)) (by rfl) (by rfl) (by rfl))) (by intro _; rfl)) (@pss_one _ _ _ (@ps_ret _ _ _ _ (@vw _ 1 _ _ (by walk_at "v")))))), ?_⟩
  refine ⟨small_le (show 1 <= 1000 by decide), fun p0 hp0 => ?_⟩
  have s0 := Same.upd (o := .lst [.int 0]) hp0
  refine ⟨_, .int m, .inr (sqT_same ha s0), rfl, m, rfl, by omega, p0, ((2 ^ m : Nat) : Int), _, rfl, rfl, upd_same, by omega, by omega, small_le (by show 1 * ((2 ^ m : Nat) : Int).toNat <= 1000; omega), fun l hl => ?_⟩
  rw [Int.toNat_natCast, repZ]
  dsimp only [gName]
  have s1 := s0.trans (Same.upd (o := .lst (ixL (fun _ => 0) (2 ^ m))) hl)
  have hl0 : H l = none := s0.free hl
  have g1 : upd (upd H p0 (.lst [.int 0])) l (.lst (ixL (fun _ => 0) (2 ^ m))) l = some (.lst (ixL (setT ((termG g (2 ^ m)).take 0) (fun _ => 0)) (2 ^ m))) := upd_same
  generalize upd (upd H p0 (.lst [.int 0])) l (.lst (ixL (fun _ => 0) (2 ^ m))) = H1 at *
  refine ⟨_, .ref b, .inr (sqT_same ha s1), rfl, .inr ⟨⟨_, sqT_same hb s1⟩, ?_⟩⟩
  refine for_tup (xs := vs) (fun i σ H' => ∃ z2 z3 : Option V, σ = [some (.ref a), some (.ref l), z2, z3] /\ Same H H' /\ H' l = some (.lst (ixL (setT ((termG g (2 ^ m)).take i) (fun _ => 0)) (2 ^ m)))) ⟨none, none, rfl, s1, g1⟩ (fun i σ H' _ ⟨_, _, _, s, _⟩ => sqT_same hb s) ?_ ?_
  . rintro i x σ H2 hx ⟨z2, z3, rfl, s2, g2⟩
    obtain ⟨⟨k, wgt⟩, c, hq, rfl, hc⟩ := reps_terms_at hr' hx
    have hk : k < 2 ^ m := (termG_mem (List.mem_of_getElem? hq)).1
    refine ⟨_, .inr (sqT_same hc s2), rfl, _, _, rfl, _, _, rfl, rfl, ?_⟩
    refine ⟨_, k, g2, by rw [ixL_len]; exact ixN_nat hk, ?_⟩
    refine ⟨_, _, rfl, same_put s2 hl0, ?_⟩
    rw [upd_same, ixL_set, setT_take hq]
  . rintro σ H2 ⟨z2, z3, rfl, s2, g2⟩
    rw [List.take_of_length_le (by omega), ixL_congr (g := g) fun j hj => by rw [setT_termG, if_pos hj]] at g2
    exact q l H2 hl0 s2 g2
def sp_told (K : W.Frag) : Sp := fun vs H Q _ => match vs with
  | [v] => ∃ (m : Nat) (bs : List Bool), SumAt K H v m (termG (wt m (valF bs)) (2 ^ m)) /\ m <= 6 /\ bs.length = 2 ^ m /\ ∀ p H', H p = none -> Same H H' -> H' p = some (.tup (bs.map V.bl)) -> Q (.ref p) H'
  | _ => False
theorem sp_told_mono : SpMono (sp_told K) := fun vs H Q Q' E h q => by
  unfold sp_told at *
  split at q
  . revert q; repeat' first | exact h _ _ | exact newL_mono h | exact out_mono h | exact outT_mono h | walk_at "m"
  . exact q.elim
theorem ok_told : FnOk P w K mg base CX0 4 T.f_told T.d_told ["one"] (sp_told K) := by
  have G_times_signs := ok_times_signs (P := P) (w := w) (base := base) T; have G_two_to := ok_two_to (P := P) (w := w) (base := base) T; have G_weights_of := ok_weights_of (P := P) (w := w) (base := base) T
  refine T.F_told.ok sc_told (fun vs H Q E h => by unfold sp_told at h; split at h <;> first | rfl | exact h.elim) (fun cdv A outer s H vs Q E hr h => ?_)
  have hu := hu60 hr
  have mo1 : SpMono sp_two_to := sp_two_to_mono
  have mo2 : SpMono (sp_weights K) := sp_weights_mono
  have mo3 : SpMono (sp_times K) := sp_times_mono
  have hr_times_signs := hr.mono (show 2 <= _ by decide); have hr_two_to := hr.mono (show 2 <= _ by decide); have hr_weights_of := hr.mono (show 3 <= _ by decide)
  unfold sp_told at h
  split at h
  rotate_left
  . exact h.elim
  rename_i v
  obtain ⟨m, bs, S, m6, hb, q⟩ := h
  obtain ⟨a, b, vs, rfl, ha, hb', hr'⟩ := id S.at_
  have h64 : 2 ^ m <= 64 := Nat.pow_le_pow_right (n := 2) (by decide) m6
  have h0 := Nat.two_pow_pos m
  refine ⟨_, (@pss_cons _ _ _ _ _ (@ps_set _ _ 1 _ _ _ _ sc_told.nd rfl (by walk_at "e") (@pe_call _ _ _ _ _ _ _ _ _ _ _ _ _ _ _ _ G_times_signs hr_times_signs rfl T.m_times_signs T.F_times_signs.kp T.b_times_signs .nil pass0 (@pa1 _ _ _ (@pe_call _ _ _ _ _ _ _ _ _ _ _ _ _ _ _ _ G_weights_of hr_weights_of rfl T.m_weights_of T.F_weights_of.kp T.b_weights_of .nil pass0 (@pa1 _ _ _ (@vw _ 0 _ _ (by walk_at "v")) (by rfl)) (by decide) (by rfl) (by rfl)) (by rfl)) (by decide) (by rfl) (by rfl)) (by rfl) (by walk_at "i")) (@pss_cons _ _ _ _ _ (@ps_set _ _ 2 _ _ _ _ sc_told.nd rfl (by walk_at "e") (@pe_call _ _ _ _ _ _ _ _ _ _ _ _ _ _ _ _ G_two_to hr_two_to rfl T.m_two_to T.F_two_to.kp T.b_two_to .nil pass0 (@pa1 _ _ _ (@kIx _ K _ _ _ _ _ (@vw _ 0 _ _ (by walk_at "v")) (@pe_int _ _ _ _) (by intro _ _; rfl) (by rfl)) (by rfl)) (by decide) (by rfl) (by rfl)) (by rfl) (by walk_at "i")) (@pss_cons _ _ _ _ _ (@ps_if _ _ _ _ _ _ _ _ (@pt_not _ _ _ _ (@tu_val _ _ _ (@pe_callB _ _ _ _ _ _ _ _ _ (kAll (K := K) rfl) rfl T.z_all (by rfl) (@pa1 _ _ _ (@pe_compB _ _ _ _ _ _ _ (["top", "bottom"]) 1 [2] _ _ _ _ rfl (@kSeq _ K _ _ _ (@vw _ 1 _ _ (by walk_at "v")) (by rfl)) (by kernel_rfl) rfl rfl (by kernel_rfl) (fun c => @pg_name _ _ 0 _ (show (["top", "bottom"] : List Str).Nodup by decide +kernel) rfl (by walk_at "e") (by walk_at "i")) (go_name (by decide)) (fun c => @pts_nil _) (fun c => (@pe_cmpM _ _ _ _ _ _ _ _ (kEq (K := K) hu) (@pe_callB _ _ _ _ _ _ _ _ _ cm_abs rfl T.z_abs (by rfl) (@pa1 _ _ _ (@vw _ 0 _ _ (by walk_at "v")) (by rfl)) (by decide) (by decide) (by rfl) (by rfl)) (@vw _ 1 _ _ (by walk_at "v")) (by walk_at "n"))) (by intro _; rfl)) (by rfl)) (by decide) (by decide) (by rfl) (by rfl)) (by intro _; rfl))) (@pss_one _ _ _ (@ps_never _ _)) (@pss_nil _)) (@pss_one _ _ _ (@ps_ret _ _ _ _ (@pe_callTy _ _ _ _ _ _ _ _ _ (kTuple (K := K)) rfl T.z_tuple (by rfl) (@pa1 _ _ _ (@pe_compB _ _ _ _ _ _ _ ["top"] 1 [] _ _ _ _ rfl (@kSeq _ K _ _ _ (@vw _ 1 _ _ (by walk_at "v")) (by rfl)) (by kernel_rfl) rfl rfl (by kernel_rfl) (fun c => @pg_name _ _ 0 _ (show (["top"] : List Str).Nodup by decide +kernel) rfl (by walk_at "e") (by walk_at "i")) (go_name (by decide)) (fun c => @pts_nil _) (fun c => (@pe_cmpM _ _ _ _ _ _ _ _ om_lt (@vw _ 0 _ _ (by walk_at "v")) (@pe_int _ _ _ _) (by walk_at "n"))) (by intro _; rfl)) (by rfl)) (by decide) (by decide) (by rfl) (by rfl))))))), ?_⟩
  refine ⟨m, _, S, m6, fun l0 H1 hl0 s1 g1 => ⟨_, m, .of g1, m6, fun l H2 hl s2 g2 => ?_⟩⟩
  have et : ixL (hadF (wt m (valF bs)) m) (2 ^ m) = ixL (fun p => ((2 ^ m : Nat) : Int) * valF bs p) (2 ^ m) := ixL_congr fun k hk => by rw [had_wt hk, wt_wt m _ k hk]
  rw [et] at g2
  have s12 := s1.trans s2
  dsimp only [gName]
  refine ⟨_, .int m, .inr (sqT_same ha s12), rfl, m, rfl, by omega, ?_⟩
  dsimp only [gName]
  have hgl : SqL K H2 l (ixL (fun p => ((2 ^ m : Nat) : Int) * valF bs p) (2 ^ m)) := .of g2
  refine seq_at (fun σ H' => σ = [some (.ref a), some (.ref l), some (.int (2 ^ m : Nat))] /\ Same H H' /\ SqL K H' l (ixL (fun p => ((2 ^ m : Nat) : Int) * valF bs p) (2 ^ m))) ?_ ?_ (by walk_at "sm")
  . refine .inl ⟨⟨_, hgl⟩, ?_⟩
    refine comp_list (xs := ixL (fun p => ((2 ^ m : Nat) : Int) * valF bs p) (2 ^ m)) (fun i ys H' => H' = H2 /\ ys = (List.replicate i true).map V.bl) ⟨rfl, rfl⟩ (fun i ys H' _ ⟨e, _⟩ => by rw [e]; exact hgl) (fun i ys H' hi ⟨_, e⟩ => by
      rw [ixL_len] at hi
      rw [e, List.length_map, List.length_replicate]; exact small1000 (by omega)) ?_ ?_
    . rintro i x ys H' hx ⟨rfl, rfl⟩
      have hi : i < 2 ^ m := by
        have := (List.getElem?_eq_some_iff.mp hx).1
        rwa [ixL_len] at this
      rw [ixL_get hi] at hx
      cases hx
      refine ⟨rfl, ?_⟩
      have ea : (((((2 ^ m : Nat) : Int) * valF bs i).natAbs : Nat) : Int) = ((2 ^ m : Nat) : Int) := by
        unfold valF valB
        cases bs.getD i false <;> simp
      rw [List.replicate_succ', List.map_append, ea]
      simp
    . rintro ys H' ⟨rfl, rfl⟩ k hk
      rw [ixL_len]
      refine ⟨List.replicate (2 ^ m) true, .of upd_same, ?_⟩
      have eall : (List.replicate (2 ^ m) true).all id = true := by simp
      refine ite2 (fun e => ?_) (fun e => ?_)
      . exfalso
        simp at e
      . exact ⟨rfl, s12.trans (Same.upd hk), (Same.upd hk).sqL hgl⟩
  rintro σ H3 ⟨rfl, s3, g3⟩
  refine .inl ⟨⟨_, g3⟩, ?_⟩
  refine comp_list (xs := ixL (fun p => ((2 ^ m : Nat) : Int) * valF bs p) (2 ^ m)) (fun i ys H' => H' = H3 /\ ys = ((List.range i).map (fun i => bs.getD i false)).map V.bl) ⟨rfl, rfl⟩ (fun i ys H' _ ⟨e, _⟩ => by rw [e]; exact g3) (fun i ys H' hi ⟨_, e⟩ => by
    rw [ixL_len] at hi
    rw [e, List.length_map, List.length_map, List.length_range]; exact small1000 (by omega)) ?_ ?_
  . rintro i x ys H' hx ⟨rfl, rfl⟩
    have hi : i < 2 ^ m := by
      have := (List.getElem?_eq_some_iff.mp hx).1
      rwa [ixL_len] at this
    rw [ixL_get hi] at hx
    cases hx
    refine ⟨rfl, ?_⟩
    rw [bl_list]
    have eb : decide (((2 ^ m : Nat) : Int) * valF bs i < 0) = bs.getD i false := by
      unfold valF valB
      cases bs.getD i false
      . rw [if_neg (by decide), Int.mul_one]
        exact decide_eq_false (by omega)
      . rw [if_pos rfl]
        exact decide_eq_true (by omega)
    rw [<- eb]
  . rintro ys H' ⟨rfl, rfl⟩ k hk
    rw [ixL_len, <- hb, map_get]
    refine ⟨_, .inl ⟨.of upd_same, fun p hp => ?_⟩⟩
    have s4 := s3.trans (Same.upd (o := .lst (bs.map V.bl)) hk)
    exact q p _ (s4.free hp) (s4.trans (Same.upd hp)) upd_same
def sp_within : Sp := fun vs H Q _ => match vs with
  | [.int x, .int y] => ∃ a b : Nat, x = a /\ y = b /\ Q (.bl (decide (a &&& b = a))) H
  | _ => False
theorem ok_within : FnOk P w K mg base CX0 1 T.f_within T.d_within ["subset", "other"] sp_within := by
  refine T.F_within.ok sc_within (fun vs H Q E h => by unfold sp_within at h; split at h <;> first | rfl | exact h.elim) (fun cdv A outer s H vs Q E hr h => ?_)
  have hu := hu60 hr
  unfold sp_within at h
  split at h
  rotate_left
  . exact h.elim
  rename_i x y
  obtain ⟨a, b, e1, e2, q⟩ := h
  subst e1 e2
  refine ⟨_, (@pss_one _ _ _ (@ps_ret _ _ _ _ (@pe_cmpM _ _ _ _ _ _ _ _ (kEq (K := K) hu) (@pe_op _ _ _ _ _ _ _ _ om_and (@vw _ 0 _ _ (by walk_at "v")) (@vw _ 1 _ _ (by walk_at "v"))) (@vw _ 0 _ _ (by walk_at "v")) (by walk_at "n")))), ?_⟩
  have e : (false ^^ (Builtin.bitAnd (a : Int) (b : Int) == (a : Int))) = decide (a &&& b = a) := by
    rw [bitAnd_nat, Bool.false_xor, Bool.eq_iff_iff]
    simp only [beq_iff_eq, decide_eq_true_eq]
    omega
  show Q (.bl (false ^^ (Builtin.bitAnd (a : Int) (b : Int) == (a : Int)))) H
  rw [e]
  exact q
def sp_win (K : W.Frag) : Sp := fun vs H Q _ => match vs with
  | [v, .int z] => ∃ (m o : Nat) (g : Nat -> Int), SumAt K H v m (termG g (2 ^ m)) /\ m <= 6 /\ z = o /\ newL H Q (ixL (inF g o) (2 ^ m))
  | _ => False
theorem sp_win_mono : SpMono (sp_win K) := fun vs H Q Q' E h q => by
  unfold sp_win at *
  split at q
  . revert q; repeat' first | exact h _ _ | exact newL_mono h | exact out_mono h | exact outT_mono h | walk_at "m"
  . exact q.elim
theorem ok_weights_within : FnOk P w K mg base CX0 4 T.f_weights_within T.d_weights_within ["one", "outer"] (sp_win K) := by
  have G_within := ok_within (P := P) (w := w) (base := base) T; have G_weights_of := ok_weights_of (P := P) (w := w) (base := base) T
  refine T.F_weights_within.ok sc_weights_within (fun vs H Q E h => by unfold sp_win at h; split at h <;> first | rfl | exact h.elim) (fun cdv A outer s H vs Q E hr h => ?_)
  have hu := hu60 hr
  have hr_within := hr.mono (show 1 <= _ by decide); have hr_weights_of := hr.mono (show 3 <= _ by decide)
  unfold sp_win at h
  split at h
  rotate_left
  . exact h.elim
  rename_i v z
  obtain ⟨m, o, g, S, m6, e1, q⟩ := h
  subst e1
  have h64 : 2 ^ m <= 64 := Nat.pow_le_pow_right (n := 2) (by decide) m6
  refine ⟨_, (@pss_one _ _ _ (@ps_ret _ _ _ _ (@pe_compB _ _ _ _ _ _ _ (["subset", "weight", "outer"]) 2 [1] _ _ _ _ rfl (@kEnum _ K _ _ _ _ _ _ _ rfl T.z_enumerate (@pa1 _ _ _ (@pe_call _ _ _ _ _ _ _ _ _ _ _ _ _ _ _ _ G_weights_of hr_weights_of rfl T.m_weights_of T.F_weights_of.kp T.b_weights_of .nil pass0 (@pa1 _ _ _ (@vw _ 0 _ _ (by walk_at "v")) (by rfl)) (by decide) (by rfl) (by rfl)) (by rfl)) (by rfl) (by rfl)) (by kernel_rfl) rfl rfl (by kernel_rfl) (fun c => @kTup _ K _ _ _ _ 2 rfl (@pgs_cons _ _ _ _ _ (@pg_name _ _ 0 _ (show (["subset", "weight", "outer"] : List Str).Nodup by decide +kernel) rfl (by walk_at "e") (by walk_at "i")) (@pgs_cons _ _ _ _ _ (@pg_name _ _ 1 _ (show (["subset", "weight", "outer"] : List Str).Nodup by decide +kernel) rfl (by walk_at "e") (by walk_at "i")) (@pgs_nil _) (by rfl)) (by rfl)) (by rfl) (by rfl) (by rfl)) (go_tup (gos_cons gm_name (gms_cons gm_name gms_nil) (go_name (by decide)) (gos_cons gm_name gms_nil (go_name (by decide)) gos_nil))) (fun c => @pts_nil _) (fun c => (@pe_ifExp _ _ _ _ _ _ _ _ (@tu_val _ _ _ (@pe_call _ _ _ _ _ _ _ _ _ _ _ _ _ _ _ _ G_within hr_within rfl T.m_within T.F_within.kp T.b_within .nil pass0 (@pa_cons _ _ _ _ _ (@vw _ 0 _ _ (by walk_at "v")) (@pa1 _ _ _ (@vw _ 2 _ _ (by walk_at "v")) (by rfl)) (by rfl)) (by decide) (by rfl) (by rfl)) (by intro _; rfl)) (@vw _ 1 _ _ (by walk_at "v")) (@pe_int _ _ _ _))) (by intro _; rfl)))), ?_⟩
  refine ⟨m, g, S, m6, fun l0 H1 hl0 s1 g1 => ⟨⟨_, .of g1⟩, ?_⟩⟩
  refine comp_enum (xs := ixL g (2 ^ m)) (fun i zs H' => Same H1 H' /\ zs = ixL (inF g o) i) ⟨Same.refl _, rfl⟩ (fun i zs H' _ ⟨s, _⟩ => s.sqL (.of g1)) (fun i zs H' hi ⟨_, e⟩ => by rw [ixL_len] at hi; rw [e, ixL_len]; exact small1000 (by omega)) ?_ ?_
  . rintro i x zs H2 pp hx ⟨s2, rfl⟩ hpp
    have hi : i < 2 ^ m := by
      have := (List.getElem?_eq_some_iff.mp hx).1
      rwa [ixL_len] at this
    rw [ixL_get hi] at hx
    cases hx
    refine ⟨pp, _, rfl, .of upd_same, rfl, _, _, rfl, _, _, rfl, rfl, ?_⟩
    refine ⟨i, o, rfl, rfl, ?_⟩
    have ef : ixL (inF g o) (i + 1) = ixL (inF g o) i ++ [V.int (if i &&& o = i then g i else 0)] := ixL_succ _ _
    refine ite2 (fun e => ?_) (fun e => ?_)
    . rw [ef, if_pos (of_decide_eq_true e)]
      exact ⟨s2.trans (Same.upd hpp), rfl⟩
    . rw [ef, if_neg (fun z => e (decide_eq_true z))]
      exact ⟨s2.trans (Same.upd hpp), rfl⟩
  . rintro zs H2 ⟨s2, rfl⟩ l hl
    rw [ixL_len]
    exact q l _ ((s1.trans s2).free hl) (s1.trans (s2.trans (Same.upd hl))) upd_same
def difL (as bs : List Bool) (n : Nat) : List Nat := (List.range n).filter (fun i => gB as i != gB bs i)
theorem difL_succ (as bs : List Bool) (n : Nat) : difL as bs (n + 1) = difL as bs n ++ (if (gB as n != gB bs n) = true then [n] else []) := by
  unfold difL
  rw [List.range_succ, List.filter_append]
  congr 1
  by_cases h : (gB as n != gB bs n) = true
  . simp only [List.filter_cons, List.filter_nil]
  . simp only [List.filter_cons, List.filter_nil]
theorem difL_len (as bs : List Bool) (n : Nat) : (difL as bs n).length <= n := by
  unfold difL
  exact Nat.le_trans (List.length_filter_le _ _) (by rw [List.length_range]; exact Nat.le_refl _)
def sp_dif (K : W.Frag) : Sp := fun vs H Q _ => match vs with
  | [.ref p, .ref r] => ∃ (m : Nat) (as bs : List Bool), SqT K H p (as.map V.bl) /\ SqT K H r (bs.map V.bl) /\ as.length = 2 ^ m /\ bs.length = 2 ^ m /\ m <= 6 /\ ∀ H', Same H H' -> Q (.int ((difL as bs (2 ^ m)).length : Nat)) H'
  | _ => False
theorem sp_dif_mono : SpMono (sp_dif K) := fun vs H Q Q' E h q => by
  unfold sp_dif at *
  split at q
  . revert q; repeat' first | exact h _ _ | exact newL_mono h | exact out_mono h | exact outT_mono h | walk_at "m"
  . exact q.elim
theorem ok_differences : FnOk P w K mg base CX0 1 T.f_differences T.d_differences ["table", "other"] (sp_dif K) := by
  refine T.F_differences.ok sc_differences (fun vs H Q E h => by unfold sp_dif at h; split at h <;> first | rfl | exact h.elim) (fun cdv A outer s H vs Q E hr h => ?_)
  have hu := hu60 hr
  unfold sp_dif at h
  split at h
  rotate_left
  . exact h.elim
  rename_i p r
  obtain ⟨m, as, bs, hp, hr', la, lb, m6, q⟩ := h
  have h64 : 2 ^ m <= 64 := Nat.pow_le_pow_right (n := 2) (by decide) m6
  refine ⟨_, (@pss_one _ _ _ (@ps_ret _ _ _ _ (@pe_callB _ _ _ _ _ _ _ _ _ (kLen (K := K)) rfl T.z_len (by rfl) (@pa1 _ _ _ (@pe_compB _ _ _ _ _ _ _ (["place", "answer", "other"]) 2 [1] _ _ _ _ rfl (@kEnumT _ K _ _ _ _ _ _ _ rfl T.z_enumerate (@pa1 _ _ _ (@vw _ 0 _ _ (by walk_at "v")) (by rfl)) (by rfl) (by rfl)) (by kernel_rfl) rfl rfl (by kernel_rfl) (fun c => @kTup _ K _ _ _ _ 2 rfl (@pgs_cons _ _ _ _ _ (@pg_name _ _ 0 _ (show (["place", "answer", "other"] : List Str).Nodup by decide +kernel) rfl (by walk_at "e") (by walk_at "i")) (@pgs_cons _ _ _ _ _ (@pg_name _ _ 1 _ (show (["place", "answer", "other"] : List Str).Nodup by decide +kernel) rfl (by walk_at "e") (by walk_at "i")) (@pgs_nil _) (by rfl)) (by rfl)) (by rfl) (by rfl) (by rfl)) (go_tup (gos_cons gm_name (gms_cons gm_name gms_nil) (go_name (by decide)) (gos_cons gm_name gms_nil (go_name (by decide)) gos_nil))) (fun c => @pts_one _ _ _ (@tu_cmp _ _ _ _ _ _ _ _ (kNe (K := K) hu) (@vw _ 1 _ _ (by walk_at "v")) (@kIx _ K _ _ _ _ _ (@vw _ 2 _ _ (by walk_at "v")) (@vw _ 0 _ _ (by walk_at "v")) (by intro _ _; rfl) (by rfl)) (by walk_at "n"))) (fun c => (@vw _ 0 _ _ (by walk_at "v"))) (by intro _; rfl)) (by rfl)) (by decide) (by decide) (by rfl) (by rfl)))), ?_⟩
  refine ⟨⟨_, hp⟩, ?_⟩
  refine comp_enumT (xs := as.map V.bl) (fun i zs H' => Same H H' /\ zs = iL (difL as bs i)) ⟨Same.refl _, rfl⟩ (fun i zs H' _ ⟨s, _⟩ => s.sqT hp) (fun i zs H' hi ⟨_, e⟩ => by
    rw [List.length_map] at hi
    have := difL_len as bs i
    rw [e, iL_len]; exact small1000 (by omega)) ?_ ?_
  . rintro i x zs H' pp hx ⟨s, rfl⟩ hpp
    have hi : i < as.length := by
      have := (List.getElem?_eq_some_iff.mp hx).1
      rwa [List.length_map] at this
    have ex : x = .bl (gB as i) := by
      rw [List.getElem?_map, List.getElem?_eq_getElem hi] at hx
      rw [gB_get hi]; exact (Option.some.inj hx).symm
    subst ex
    have s' : Same H (upd H' pp (.tup [.int (i : Nat), .bl (gB as i)])) := s.trans (Same.upd hpp)
    refine ⟨pp, _, rfl, .of upd_same, rfl, _, _, rfl, _, _, rfl, rfl, _, .bl (gB bs i), .inr (s'.sqT hr'), gB_at (by omega), ?_⟩
    refine ite2 (fun e => ?_) (fun e => ?_)
    . refine ⟨s', ?_⟩
      have e' : (gB as i != gB bs i) = true := by
        revert e
        cases gB as i <;> cases gB bs i <;> simp
      rw [difL_succ, if_pos e', iL_app]
      rfl
    . refine ⟨s', ?_⟩
      have e' : ¬ (gB as i != gB bs i) = true := by
        revert e
        cases gB as i <;> cases gB bs i <;> simp
      rw [difL_succ, if_neg e', List.append_nil]
  . rintro zs H' ⟨s, rfl⟩ l hl
    rw [List.length_map, la]
    exact ⟨(difL as bs (2 ^ m)).length, .inl ⟨_, .of upd_same, by rw [iL_len]⟩, q _ (s.trans (Same.upd hl))⟩
def bestB (m : Nat) (g : Nat -> Int) (o : Nat) : List Bool := (List.range (2 ^ m)).map fun p => decide (wt m (inF g o) p < 0)
theorem bestB_len (m : Nat) (g : Nat -> Int) (o : Nat) : (bestB m g o).length = 2 ^ m := by unfold bestB; simp
def bestD (as bs : List Bool) (m : Nat) : Dv := .tup [.tup (as.map Dv.bl), .int ((difL as bs (2 ^ m)).length : Nat)]
def sp_best (K : W.Frag) : Sp := fun vs H Q _ => match vs with
  | [v, .int z] => ∃ (m o : Nat) (bs : List Bool), SumAt K H v m (termG (wt m (valF bs)) (2 ^ m)) /\ m <= 6 /\ bs.length = 2 ^ m /\ z = o /\ ∀ u H', Same H H' -> Rep K H' (bestD (bestB m (wt m (valF bs)) o) bs m) u -> Q u H'
  | _ => False
theorem reps_bl {K : W.Frag} {H : Hp} : ∀ bs : List Bool, Reps K H (bs.map Dv.bl) (bs.map V.bl)
  | [] => reps_nil
  | b :: bs => reps_cons (by unfold Rep; rfl) (reps_bl bs)
theorem ok_best_on : FnOk P w K mg base CX0 5 T.f_best_on T.d_best_on ["one", "subset"] (sp_best K) := by
  have G_differences := ok_differences (P := P) (w := w) (base := base) T; have G_told := ok_told (P := P) (w := w) (base := base) T; have G_times_signs := ok_times_signs (P := P) (w := w) (base := base) T; have G_weights_within := ok_weights_within (P := P) (w := w) (base := base) T
  refine T.F_best_on.ok sc_best_on (fun vs H Q E h => by unfold sp_best at h; split at h <;> first | rfl | exact h.elim) (fun cdv A outer s H vs Q E hr h => ?_)
  have hu := hu60 hr
  have mo1 : SpMono (sp_win K) := sp_win_mono
  have mo2 : SpMono (sp_times K) := sp_times_mono
  have mo3 : SpMono (sp_told K) := sp_told_mono
  have mo4 : SpMono (sp_dif K) := sp_dif_mono
  have hr_differences := hr.mono (show 1 <= _ by decide); have hr_told := hr.mono (show 4 <= _ by decide); have hr_times_signs := hr.mono (show 2 <= _ by decide); have hr_weights_within := hr.mono (show 4 <= _ by decide)
  unfold sp_best at h
  split at h
  rotate_left
  . exact h.elim
  rename_i v z
  obtain ⟨m, o, bs, S, m6, hb, e1, q⟩ := h
  subst e1
  have h64 : 2 ^ m <= 64 := Nat.pow_le_pow_right (n := 2) (by decide) m6
  refine ⟨_, (@pss_cons _ _ _ _ _ (@ps_set _ _ 2 _ _ _ _ sc_best_on.nd rfl (by walk_at "e") (@pe_callTy _ _ _ _ _ _ _ _ _ (kTuple (K := K)) rfl T.z_tuple (by rfl) (@pa1 _ _ _ (@pe_compB _ _ _ _ _ _ _ ["top"] 1 [] _ _ _ _ rfl (@kSeq _ K _ _ _ (@pe_call _ _ _ _ _ _ _ _ _ _ _ _ _ _ _ _ G_times_signs hr_times_signs rfl T.m_times_signs T.F_times_signs.kp T.b_times_signs .nil pass0 (@pa1 _ _ _ (@pe_call _ _ _ _ _ _ _ _ _ _ _ _ _ _ _ _ G_weights_within hr_weights_within rfl T.m_weights_within T.F_weights_within.kp T.b_weights_within .nil pass0 (@pa_cons _ _ _ _ _ (@vw _ 0 _ _ (by walk_at "v")) (@pa1 _ _ _ (@vw _ 1 _ _ (by walk_at "v")) (by rfl)) (by rfl)) (by decide) (by rfl) (by rfl)) (by rfl)) (by decide) (by rfl) (by rfl)) (by rfl)) (by kernel_rfl) rfl rfl (by kernel_rfl) (fun c => @pg_name _ _ 0 _ (show (["top"] : List Str).Nodup by decide +kernel) rfl (by walk_at "e") (by walk_at "i")) (go_name (by decide)) (fun c => @pts_nil _) (fun c => (@pe_cmpM _ _ _ _ _ _ _ _ om_lt (@vw _ 0 _ _ (by walk_at "v")) (@pe_int _ _ _ _) (by walk_at "n"))) (by intro _; rfl)) (by rfl)) (by decide) (by decide) (by rfl) (by rfl)) (by rfl) (by walk_at "i")) (@pss_one _ _ _ (@ps_ret _ _ _ _ (@pe_tup _ _ _ _ _ (@pa_cons _ _ _ _ _ (@vw _ 2 _ _ (by walk_at "v")) (@pa1 _ _ _ (@pe_call _ _ _ _ _ _ _ _ _ _ _ _ _ _ _ _ G_differences hr_differences rfl T.m_differences T.F_differences.kp T.b_differences .nil pass0 (@pa_cons _ _ _ _ _ (@vw _ 2 _ _ (by walk_at "v")) (@pa1 _ _ _ (@pe_call _ _ _ _ _ _ _ _ _ _ _ _ _ _ _ _ G_told hr_told rfl T.m_told T.F_told.kp T.b_told .nil pass0 (@pa1 _ _ _ (@vw _ 0 _ _ (by walk_at "v")) (by rfl)) (by decide) (by rfl) (by rfl)) (by rfl)) (by rfl)) (by decide) (by rfl) (by rfl)) (by rfl)) (by rfl)))))), ?_⟩
  refine ⟨m, o, _, S, m6, rfl, fun l0 H1 hl0 s1 g1 => ⟨_, m, .of g1, m6, fun l H2 hl s2 g2 => .inl ⟨⟨_, .of g2⟩, ?_⟩⟩⟩
  have et : ixL (hadF (inF (wt m (valF bs)) o) m) (2 ^ m) = ixL (wt m (inF (wt m (valF bs)) o)) (2 ^ m) := ixL_congr fun k hk => had_wt hk
  rw [et] at g2
  generalize hG : wt m (inF (wt m (valF bs)) o) = G at *
  have hbest : bestB m (wt m (valF bs)) o = (List.range (2 ^ m)).map fun p => decide (G p < 0) := by unfold bestB; rw [hG]
  refine comp_list (xs := ixL G (2 ^ m)) (fun i ys H' => H' = H2 /\ ys = ((List.range i).map (fun p => decide (G p < 0))).map V.bl) ⟨rfl, rfl⟩ (fun i ys H' _ ⟨e, _⟩ => by rw [e]; exact .of g2) (fun i ys H' hi ⟨_, e⟩ => by
    rw [ixL_len] at hi
    rw [e, List.length_map, List.length_map, List.length_range]; exact small1000 (by omega)) ?_ ?_
  . rintro i x ys H' hx ⟨rfl, rfl⟩
    have hi : i < 2 ^ m := by
      have := (List.getElem?_eq_some_iff.mp hx).1
      rwa [ixL_len] at this
    rw [ixL_get hi] at hx
    cases hx
    refine ⟨rfl, ?_⟩
    rw [bl_list]
  . rintro ys H' ⟨rfl, rfl⟩ k hk
    rw [ixL_len, <- hbest]
    refine ⟨_, .inl ⟨.of upd_same, fun p hp => ?_⟩⟩
    have s4 := (s1.trans s2).trans ((Same.upd (o := .lst ((bestB m (wt m (valF bs)) o).map V.bl)) hk).trans (Same.upd (o := .tup ((bestB m (wt m (valF bs)) o).map V.bl)) hp))
    have gp := upd_same (H := upd H' k (.lst ((bestB m (wt m (valF bs)) o).map V.bl))) (a := p) (o := .tup ((bestB m (wt m (valF bs)) o).map V.bl))
    generalize upd (upd H' k (.lst ((bestB m (wt m (valF bs)) o).map V.bl))) p (.tup ((bestB m (wt m (valF bs)) o).map V.bl)) = H4 at *
    dsimp only [gName]
    refine ⟨m, bs, S.same s4, m6, hb, fun p5 H5 hp5 s5 g5 => ⟨m, bestB m (wt m (valF bs)) o, bs, .of (s5 _ _ gp), .of g5, bestB_len _ _ _, hb, m6, fun H6 s6 => ?_⟩⟩
    refine ⟨small_le (show 2 <= 1000 by decide), fun p7 hp7 => q _ _ (s4.trans (s5.trans (s6.trans (Same.upd hp7)))) ?_⟩
    unfold bestD
    exact rep_tup1 upd_same (reps_cons (rep_tup1 (Same.upd hp7 _ _ (s6 _ _ (s5 _ _ gp))) (reps_bl _)) (reps_cons rep_int reps_nil))
def setTo (v : Nat -> Int) (o i r : Nat) : Int := sumTo (fun q => if q &&& o = r then v q else 0) i
structure CntAt (v : Nat -> Int) (o i : Nat) (kvs : List (Key × V)) : Prop where
  len : kvs.length <= i
  all : ∀ r : Nat, valV kvs (.inl (r : Int)) = none /\ setTo v o i r = 0 \/ valV kvs (.inl (r : Int)) = some (.int (setTo v o i r))
  has : ∀ q, q < i -> valV kvs (.inl ((q &&& o : Nat) : Int)) ≠ none
theorem best_set {m o : Nat} {bs : List Bool} (ho : o < 2 ^ m) : bestB m (wt m (valF bs)) o = (List.range (2 ^ m)).map fun p => decide (setTo (valF bs) o (2 ^ m) (p &&& o) < 0) := by
  unfold bestB
  refine List.map_congr_left fun p hp => ?_
  rw [wt_in m (valF bs) o p ho (List.mem_range.mp hp)]
  have e : setS m (valF bs) o (p &&& o) = setTo (valF bs) o (2 ^ m) (p &&& o) := rfl
  rw [e]
  generalize setTo (valF bs) o (2 ^ m) (p &&& o) = x
  have h0 : (0 : Int) < ((2 ^ manyF m o : Nat) : Int) := by have := Nat.two_pow_pos (manyF m o); omega
  generalize ((2 ^ manyF m o : Nat) : Int) = c at *
  by_cases hx : x < 0
  . rw [decide_eq_true hx, decide_eq_true (Int.mul_neg_of_pos_of_neg h0 hx)]
  . rw [decide_eq_false hx, decide_eq_false]
    have := Int.mul_nonneg (Int.le_of_lt h0) (show 0 <= x by omega)
    omega
theorem ok_many_in : FnOk P w K mg base CX0 1 T.f_many_in T.d_many_in ["subset"] sp_many := by
  refine T.F_many_in.ok sc_many_in (fun vs H Q E h => by unfold sp_many at h; split at h <;> first | rfl | exact h.elim) (fun cdv A outer s H vs Q E hr h => ?_)
  have hu := hu60 hr
  unfold sp_many at h
  split at h
  rotate_left
  . exact h.elim
  rename_i x
  obtain ⟨a, e1, h1, q⟩ := h
  subst e1
  refine ⟨_, (@pss_cons _ _ _ _ _ (@ps_set _ _ 1 _ _ _ _ sc_many_in.nd rfl (by walk_at "e") (@pe_int _ _ _ _) (by rfl) (by walk_at "i")) (@pss_cons _ _ _ _ _ (@ps_set _ _ 2 _ _ _ _ sc_many_in.nd rfl (by walk_at "e") (@vw _ 0 _ _ (by walk_at "v")) (by rfl) (by walk_at "i")) (@pss_cons _ _ _ _ _ (@ps_whileM _ _ _ _ _ _ PassesOwn.never (@tu_cmp _ _ _ _ _ _ _ _ om_gt (@vw _ 2 _ _ (by walk_at "v")) (@pe_int _ _ _ _) (by walk_at "n")) (@pss_cons _ _ _ _ _ (@ps_set _ _ 1 _ _ _ _ sc_many_in.nd rfl (by walk_at "e") (@pe_op _ _ _ _ _ _ _ _ (kAdd (K := K)) (@vw _ 1 _ _ (by walk_at "v")) (@pe_op _ _ _ _ _ _ _ _ om_mod (@vw _ 2 _ _ (by walk_at "v")) (@pe_int _ _ _ _))) (by rfl) (by walk_at "i")) (@pss_one _ _ _ (@ps_set _ _ 2 _ _ _ _ sc_many_in.nd rfl (by walk_at "e") (@pe_op _ _ _ _ _ _ _ _ om_div (@vw _ 2 _ _ (by walk_at "v")) (@pe_int _ _ _ _)) (by rfl) (by walk_at "i"))))) (@pss_one _ _ _ (@ps_ret _ _ _ _ (@vw _ 1 _ _ (by walk_at "v"))))))), ?_⟩
  refine ⟨fun f σ H' => H' = H /\ ∃ m r : Nat, σ = [some (.int a), some (.int m), some (.int r)] /\ r < 2 ^ f /\ m + manyF f r = many a, ⟨64, rfl, 0, a, rfl, h1, by unfold many; exact Nat.zero_add _⟩, ?_⟩
  rintro f σ H' ⟨rfl, m, r, rfl, hr1, hm⟩
  refine ite2 (fun e => ?_) (fun e => ?_)
  . have r0 : 0 < r := by have : (0 : Int) < (r : Int) := of_decide_eq_true e; omega
    cases f with
    | zero => simp at hr1; omega
    | succ f =>
      refine ⟨by decide, okDiv_of (by decide) (by decide), ?_⟩
      refine ⟨f, Nat.lt_succ_self _, rfl, m + r % 2, r / 2, ?_, ?_, ?_⟩
      . show [some (V.int (a : Int)), some (V.int ((m : Int) + (r : Int) % 2)), some (V.int ((r : Int) / 2))] = _
        rw [Int.natCast_add, Int.natCast_emod, Int.natCast_ediv]
        rfl
      . rw [Nat.pow_succ] at hr1; omega
      . rw [<- hm]
        show m + r % 2 + manyF f (r / 2) = m + (r % 2 + manyF f (r / 2))
        omega
  . have r0 : r = 0 := by
      have : ¬ (0 : Int) < (r : Int) := fun z => e (decide_eq_true z)
      omega
    subst r0
    rw [manyF_zero, Nat.add_zero] at hm
    rw [<- hm] at q
    exact q
def setL (m k n : Nat) : List Nat := (List.range n).filter fun s => decide (manyF m s = k)
theorem setL_succ (m k n : Nat) : setL m k (n + 1) = setL m k n ++ (if manyF m n = k then [n] else []) := by
  unfold setL
  rw [List.range_succ, List.filter_append]
  congr 1
  by_cases h : manyF m n = k
  . rw [if_pos h]; simp [h]
  . rw [if_neg h]; simp [h]
theorem setL_len (m k n : Nat) : (setL m k n).length <= n := by
  unfold setL
  exact Nat.le_trans (List.length_filter_le _ _) (by rw [List.length_range]; exact Nat.le_refl _)
theorem setL_mem {m k n x : Nat} (h : x ∈ setL m k n) : x < n := by
  unfold setL at h
  exact List.mem_range.mp (List.mem_filter.mp h).1
def sp_sets : Sp := fun vs H Q _ => match vs with
  | [.int x, .int y] => ∃ m k : Nat, x = m /\ y = k /\ m <= 6 /\ newL H Q (iL (setL m (min m k) (2 ^ m)))
  | _ => False
theorem sp_sets_mono : SpMono sp_sets := fun vs H Q Q' E h q => by
  unfold sp_sets at *
  split at q
  . revert q; repeat' first | exact h _ _ | exact newL_mono h | exact out_mono h | exact outT_mono h | walk_at "m"
  . exact q.elim
theorem ok_sets_of : FnOk P w K mg base CX0 3 T.f_sets_of T.d_sets_of ["n", "k"] sp_sets := by
  have G_two_to := ok_two_to (P := P) (w := w) (base := base) T; have G_many_in := ok_many_in (P := P) (w := w) (base := base) T
  refine T.F_sets_of.ok sc_sets_of (fun vs H Q E h => by unfold sp_sets at h; split at h <;> first | rfl | exact h.elim) (fun cdv A outer s H vs Q E hr h => ?_)
  have hu := hu60 hr
  have mo1 : SpMono sp_two_to := sp_two_to_mono
  have mo2 : SpMono sp_many := sp_many_mono
  have hr_two_to := hr.mono (show 2 <= _ by decide); have hr_many_in := hr.mono (show 1 <= _ by decide)
  unfold sp_sets at h
  split at h
  rotate_left
  . exact h.elim
  rename_i x y
  obtain ⟨m, k, e1, e2, m6, q⟩ := h
  subst e1 e2
  have h64 : 2 ^ m <= 64 := Nat.pow_le_pow_right (n := 2) (by decide) m6
  have i0 : (0 : Int) <= ((2 ^ m : Nat) : Int) := Int.natCast_nonneg _
  have i1 : ((2 ^ m : Nat) : Int) <= 64 := Int.ofNat_le.mpr h64
  refine ⟨_, (@pss_cons _ _ _ _ _ (@ps_set _ _ 2 _ _ _ _ sc_sets_of.nd rfl (by walk_at "e") (@pe_callB _ _ _ _ _ _ _ _ _ (cm_min rfl) rfl T.z_min (by rfl) (@pa_cons _ _ _ _ _ (@vw _ 0 _ _ (by walk_at "v")) (@pa1 _ _ _ (@vw _ 1 _ _ (by walk_at "v")) (by rfl)) (by rfl)) (by decide) (by decide) (by rfl) (by rfl)) (by rfl) (by walk_at "i")) (@pss_one _ _ _ (@ps_ret _ _ _ _ (@pe_compB _ _ _ _ _ _ _ (["subset", "many"]) 1 [2] _ _ _ _ rfl (@pi_range1 _ _ _ _ _ _ rfl T.z_range (@pa1 _ _ _ (@pe_call _ _ _ _ _ _ _ _ _ _ _ _ _ _ _ _ G_two_to hr_two_to rfl T.m_two_to T.F_two_to.kp T.b_two_to .nil pass0 (@pa1 _ _ _ (@vw _ 0 _ _ (by walk_at "v")) (by rfl)) (by decide) (by rfl) (by rfl)) (by rfl)) (by rfl)) (by kernel_rfl) rfl rfl (by kernel_rfl) (fun c => @pg_name _ _ 0 _ (show (["subset", "many"] : List Str).Nodup by decide +kernel) rfl (by walk_at "e") (by walk_at "i")) (go_name (by decide)) (fun c => @pts_one _ _ _ (@tu_cmp _ _ _ _ _ _ _ _ (kEq (K := K) hu) (@pe_call _ _ _ _ _ _ _ _ _ _ _ _ _ _ _ _ G_many_in hr_many_in rfl T.m_many_in T.F_many_in.kp T.b_many_in .nil pass0 (@pa1 _ _ _ (@vw _ 0 _ _ (by walk_at "v")) (by rfl)) (by decide) (by rfl) (by rfl)) (@vw _ 1 _ _ (by walk_at "v")) (by walk_at "n"))) (fun c => (@vw _ 0 _ _ (by walk_at "v"))) (by intro _; rfl))))), ?_⟩
  have em : min (m : Int) (k : Int) = ((min m k : Nat) : Int) := by omega
  refine seq_at (fun σ H' => σ = [some (.int m), some (.int k), some (.int ((min m k : Nat) : Int))] /\ H = H') ?_ ?_ (by walk_at "sm")
  . exact ⟨by rw [<- em]; rfl, rfl⟩
  rintro σ _ ⟨rfl, rfl⟩
  refine ⟨m, rfl, by omega, ((2 ^ m : Nat) : Int), rfl, by omega, by omega, ?_⟩
  refine comp_range (fun i ys H' => H' = H /\ ys = iL (setL m (min m k) i)) ⟨rfl, rfl⟩ (fun i ys H' hi ⟨_, e⟩ => by
    have := setL_len m (min m k) i
    rw [e, iL_len]; exact small1000 (by omega)) ?_ ?_
  . rintro i ys H' hi ⟨rfl, rfl⟩
    have hi' : i < 2 ^ m := by omega
    rw [show (0 : Int) + (i : Int) = (i : Int) from Int.zero_add _]
    refine ⟨i, rfl, by omega, ?_⟩
    rw [many_of hi' (by omega)]
    have eb : (false ^^ (((manyF m i : Nat) : Int) == ((min m k : Nat) : Int))) = decide (manyF m i = min m k) := by
      rw [Bool.false_xor, Bool.eq_iff_iff]
      simp only [beq_iff_eq, decide_eq_true_eq]
      omega
    refine ite2 (fun e => ?_) (fun e => ?_)
    . have e' : manyF m i = min m k := of_decide_eq_true (eb ▸ e)
      refine ⟨rfl, ?_⟩
      rw [setL_succ, if_pos e', iL_app]
      rfl
    . have e' : ¬ manyF m i = min m k := fun z => e (eb.symm ▸ decide_eq_true z)
      refine ⟨rfl, ?_⟩
      rw [setL_succ, if_neg e', List.append_nil]
  . rintro ys H' ⟨rfl, rfl⟩ l hl
    rw [Int.toNat_natCast]
    exact q l _ hl (Same.upd hl) upd_same
def isWholeD : Dv -> Bool
  | .int _ => true
  | _ => false
def isPairD : Dv -> Bool
  | .tup ds => ds.length == 2
  | _ => false
def sp_dB (K : W.Frag) (f : Dv -> Bool) : Sp := fun vs H Q _ => match vs with
  | [v] => ∃ d, Rep K H d v /\ Q (.bl (f d)) H
  | _ => False
theorem sp_dB_mono {f : Dv -> Bool} : SpMono (sp_dB K f) := fun vs H Q Q' E h q => by
  unfold sp_dB at *
  split at q
  . revert q; repeat' first | exact h _ _ | exact newL_mono h | exact out_mono h | exact outT_mono h | walk_at "m"
  . exact q.elim
theorem ok_is_whole : FnOk P w K mg base CX0 1 T.f_is_whole T.d_is_whole ["thing"] (sp_dB K isWholeD) := by
  refine T.F_is_whole.ok sc_is_whole (fun vs H Q E h => by unfold sp_dB at h; split at h <;> first | rfl | exact h.elim) (fun cdv A outer s H vs Q E hr h => ?_)
  have hu := hu60 hr
  unfold sp_dB at h
  split at h
  rotate_left
  . exact h.elim
  rename_i v
  obtain ⟨d, hd, q⟩ := h
  refine ⟨_, (@pss_one _ _ _ (@ps_ret _ _ _ _ (@pe_andM _ _ _ _ _ _ _ (@pe_callB _ _ _ _ _ _ _ _ _ (kIsiD (K := K)) rfl T.z_isinstance (by rfl) (@pa_cons _ _ _ _ _ (@vw _ 0 _ _ (by walk_at "v")) (@pa1 _ _ _ (@pe_bltn _ _ (.ty "int") _ _ rfl T.z_int (by rfl) rfl (by decide) (by decide)) (by rfl)) (by rfl)) (by decide) (by decide) (by rfl) (by rfl)) (@pe_one _ _ _ _ _ (@pe_notM _ _ _ _ (@pe_callB _ _ _ _ _ _ _ _ _ (kIsiD (K := K)) rfl T.z_isinstance (by rfl) (@pa_cons _ _ _ _ _ (@vw _ 0 _ _ (by walk_at "v")) (@pa1 _ _ _ (@pe_bltn _ _ (.ty "bool") _ _ rfl T.z_bool (by rfl) rfl (by decide) (by decide)) (by rfl)) (by rfl)) (by decide) (by decide) (by rfl) (by rfl))))))), ?_⟩
  refine ⟨by decide, d, hd, ?_⟩
  refine ite2 (fun e => ⟨by decide, d, hd, ?_⟩) (fun e => ?_)
  . have : isWholeD d = !isTy (tyD d) "bool" := by
      revert e
      cases d <;> intro e <;> first | rfl | (simp [isTy, tyD] at e; done)
    rw [this] at q
    exact q
  . have : isWholeD d = false := by
      revert e
      cases d <;> intro e <;> first | rfl | exact absurd (show isTy _ _ = true by simp [isTy, tyD]) e
    rw [this] at q
    exact q
theorem ok_is_pair : FnOk P w K mg base CX0 1 T.f_is_pair T.d_is_pair ["thing"] (sp_dB K isPairD) := by
  refine T.F_is_pair.ok sc_is_pair (fun vs H Q E h => by unfold sp_dB at h; split at h <;> first | rfl | exact h.elim) (fun cdv A outer s H vs Q E hr h => ?_)
  have hu := hu60 hr
  unfold sp_dB at h
  split at h
  rotate_left
  . exact h.elim
  rename_i v
  obtain ⟨d, hd, q⟩ := h
  refine ⟨_, (@pss_one _ _ _ (@ps_ret _ _ _ _ (@pe_andM _ _ _ _ _ _ _ (@pe_callB _ _ _ _ _ _ _ _ _ (kIsiD (K := K)) rfl T.z_isinstance (by rfl) (@pa_cons _ _ _ _ _ (@vw _ 0 _ _ (by walk_at "v")) (@pa1 _ _ _ (@pe_bltn _ _ (.ty "tuple") _ _ rfl T.z_tuple (by rfl) rfl (by decide) (by decide)) (by rfl)) (by rfl)) (by decide) (by decide) (by rfl) (by rfl)) (@pe_one _ _ _ _ _ (@pe_cmpM _ _ _ _ _ _ _ _ (kEq (K := K) hu) (@pe_callB _ _ _ _ _ _ _ _ _ (kLen (K := K)) rfl T.z_len (by rfl) (@pa1 _ _ _ (@vw _ 0 _ _ (by walk_at "v")) (by rfl)) (by decide) (by decide) (by rfl) (by rfl)) (@pe_int _ _ _ _) (by walk_at "n")))))), ?_⟩
  refine ⟨by decide, d, hd, ?_⟩
  refine ite2 (fun e => ?_) (fun e => ?_)
  . cases d with
    | tup ds =>
      obtain ⟨a, xs, rfl, hs, hx⟩ := rep_tup_inv hd
      refine ⟨ds.length, .inr ⟨xs, hs, hx.length⟩, ?_⟩
      have : (false ^^ (((ds.length : Nat) : Int) == 2)) = (ds.length == 2) := by
        rw [Bool.false_xor, Bool.eq_iff_iff]
        simp only [beq_iff_eq]
        omega
      show Q (.bl (false ^^ (((ds.length : Nat) : Int) == 2))) H
      rw [this]
      exact q
    | _ => simp [isTy, tyD] at e
  . have : isPairD d = false := by
      revert e
      cases d <;> intro e <;> first | rfl | exact absurd (show isTy _ _ = true by simp [isTy, tyD]) e
    rw [this] at q
    exact q
def sp_below : Sp := fun vs H Q _ => match vs with
  | [.int n, .int i] => Q (.bl (decide (0 <= i) && decide (i < n))) H
  | _ => False
theorem ok_is_below : FnOk P w K mg base CX0 2 T.f_is_below T.d_is_below ["bound", "thing"] sp_below := by
  have G_is_whole := ok_is_whole (P := P) (w := w) (base := base) T
  refine T.F_is_below.ok sc_is_below (fun vs H Q E h => by unfold sp_below at h; split at h <;> first | rfl | exact h.elim) (fun cdv A outer s H vs Q E hr h => ?_)
  have hu := hu60 hr
  have hr_is_whole := hr.mono (show 1 <= _ by decide)
  unfold sp_below at h
  split at h
  rotate_left
  . exact h.elim
  rename_i n i
  have q := h
  have q : Q (.bl (decide (0 <= i) && decide (i < n))) H := q
  refine ⟨_, (@pss_one _ _ _ (@ps_ret _ _ _ _ (@pe_andM _ _ _ _ _ _ _ (@pe_call _ _ _ _ _ _ _ _ _ _ _ _ _ _ _ _ G_is_whole hr_is_whole rfl T.m_is_whole T.F_is_whole.kp T.b_is_whole .nil pass0 (@pa1 _ _ _ (@vw _ 1 _ _ (by walk_at "v")) (by rfl)) (by decide) (by rfl) (by rfl)) (@pe_one _ _ _ _ _ (@pe_chainM _ _ _ _ _ _ _ _ _ _ _ _ om_le om_lt (@pe_int _ _ _ _) (@vw _ 1 _ _ (by walk_at "v")) (@vw _ 0 _ _ (by walk_at "v")) (by with_unfolding_all rfl)))))), ?_⟩
  refine ⟨.int i, rep_int, ?_⟩
  refine ite2 (fun e => ?_) (fun e => ?_)
  . have e' : 0 <= i := of_decide_eq_true e
    rw [decide_eq_true e', Bool.true_and] at q
    exact q
  . rw [decide_eq_false (fun z => e (decide_eq_true z)), Bool.false_and] at q
    exact q
def sp_place : Sp := fun vs H Q _ => match vs with
  | [.int x, .int i] => ∃ m : Nat, x = m /\ m <= 6 /\ Q (.bl (decide (0 <= i) && decide (i < ((2 ^ m : Nat) : Int)))) H
  | _ => False
theorem ok_is_place : FnOk P w K mg base CX0 3 T.f_is_place T.d_is_place ["n", "thing"] sp_place := by
  have G_is_below := ok_is_below (P := P) (w := w) (base := base) T; have G_two_to := ok_two_to (P := P) (w := w) (base := base) T
  refine T.F_is_place.ok sc_is_place (fun vs H Q E h => by unfold sp_place at h; split at h <;> first | rfl | exact h.elim) (fun cdv A outer s H vs Q E hr h => ?_)
  have hu := hu60 hr
  have hr_is_below := hr.mono (show 2 <= _ by decide); have hr_two_to := hr.mono (show 2 <= _ by decide)
  unfold sp_place at h
  split at h
  rotate_left
  . exact h.elim
  rename_i x i
  obtain ⟨m, e1, m6, q⟩ := h
  subst e1
  refine ⟨_, (@pss_one _ _ _ (@ps_ret _ _ _ _ (@pe_call _ _ _ _ _ _ _ _ _ _ _ _ _ _ _ _ G_is_below hr_is_below rfl T.m_is_below T.F_is_below.kp T.b_is_below .nil pass0 (@pa_cons _ _ _ _ _ (@pe_call _ _ _ _ _ _ _ _ _ _ _ _ _ _ _ _ G_two_to hr_two_to rfl T.m_two_to T.F_two_to.kp T.b_two_to .nil pass0 (@pa1 _ _ _ (@vw _ 0 _ _ (by walk_at "v")) (by rfl)) (by decide) (by rfl) (by rfl)) (@pa1 _ _ _ (@vw _ 1 _ _ (by walk_at "v")) (by rfl)) (by rfl)) (by decide) (by rfl) (by rfl)))), ?_⟩
  exact ⟨m, rfl, by omega, q⟩
def sp_istab (K : W.Frag) : Sp := fun vs H Q _ => match vs with
  | [.ref tp] => ∃ (m : Nat) (bs : List Bool), SqT K H tp (bs.map V.bl) /\ bs.length = 2 ^ m /\ 1 <= m /\ m <= 6 /\ ∀ H', Same H H' -> Q (.bl true) H'
  | _ => False
theorem sp_istab_mono : SpMono (sp_istab K) := fun vs H Q Q' E h q => by
  unfold sp_istab at *
  split at q
  . revert q; repeat' first | exact h _ _ | exact newL_mono h | exact out_mono h | exact outT_mono h | walk_at "m"
  . exact q.elim
theorem ok_is_table : FnOk P w K mg base CX0 1 T.f_is_table T.d_is_table ["thing"] (sp_istab K) := by
  refine T.F_is_table.ok sc_is_table (fun vs H Q E h => by unfold sp_istab at h; split at h <;> first | rfl | exact h.elim) (fun cdv A outer s H vs Q E hr h => ?_)
  have hu := hu60 hr
  unfold sp_istab at h
  split at h
  rotate_left
  . exact h.elim
  rename_i tp
  obtain ⟨m, bs, ht, hb, m1, m6, q⟩ := h
  have h64 : 2 ^ m <= 64 := Nat.pow_le_pow_right (n := 2) (by decide) m6
  refine ⟨_, (@pss_cons _ _ _ _ _ (@ps_if _ _ _ _ _ _ _ _ (PW.pt (@pw_or _ _ _ _ _ _ _ (@pt_not _ _ _ _ (@tu_val _ _ _ (@pe_callB _ _ _ _ _ _ _ _ _ (kIsiD (K := K)) rfl T.z_isinstance (by rfl) (@pa_cons _ _ _ _ _ (@vw _ 0 _ _ (by walk_at "v")) (@pa1 _ _ _ (@pe_bltn _ _ (.ty "tuple") _ _ rfl T.z_tuple (by rfl) rfl (by decide) (by decide)) (by rfl)) (by rfl)) (by decide) (by decide) (by rfl) (by rfl)) (by intro _; rfl))) (@pw_or1 _ _ _ _ (@tu_cmp _ _ _ _ _ _ _ _ (kNotIn (K := K)) (@pe_callB _ _ _ _ _ _ _ _ _ (kLen (K := K)) rfl T.z_len (by rfl) (@pa1 _ _ _ (@vw _ 0 _ _ (by walk_at "v")) (by rfl)) (by decide) (by decide) (by rfl) (by rfl)) (@pe_glob _ _ (.ref T.a_TABLE_LENGTHS) _ _ rfl T.c_TABLE_LENGTHS rfl (by decide)) (by walk_at "n"))))) (@pss_one _ _ _ (@ps_ret _ _ _ _ (@pe_bl _ _ _ _))) (@pss_nil _)) (@pss_one _ _ _ (@ps_ret _ _ _ _ (@pe_callB _ _ _ _ _ _ _ _ _ (kAll (K := K) rfl) rfl T.z_all (by rfl) (@pa1 _ _ _ (@pe_compB _ _ _ _ _ _ _ ["answer"] 1 [] _ _ _ _ rfl (@kSeq _ K _ _ _ (@vw _ 0 _ _ (by walk_at "v")) (by rfl)) (by kernel_rfl) rfl rfl (by kernel_rfl) (fun c => @pg_name _ _ 0 _ (show (["answer"] : List Str).Nodup by decide +kernel) rfl (by walk_at "e") (by walk_at "i")) (go_name (by decide)) (fun c => @pts_nil _) (fun c => (@pe_callB _ _ _ _ _ _ _ _ _ (kIsiD (K := K)) rfl T.z_isinstance (by rfl) (@pa_cons _ _ _ _ _ (@vw _ 0 _ _ (by walk_at "v")) (@pa1 _ _ _ (@pe_bltn _ _ (.ty "bool") _ _ rfl T.z_bool (by rfl) rfl (by decide) (by decide)) (by rfl)) (by rfl)) (by decide) (by decide) (by rfl) (by rfl))) (by intro _; rfl)) (by rfl)) (by decide) (by decide) (by rfl) (by rfl))))), ?_⟩
  refine seq_at (fun σ H' => σ = [some (.ref tp)] /\ H = H') ?_ ?_ (by walk_at "sm")
  . refine if_val false ?_ ?_
    . intro Q q
      refine ⟨by decide, .tup (bs.map Dv.bl), rep_tup2 ht (reps_bl bs), 2 ^ m, .inr ⟨_, ht, by rw [List.length_map, hb]⟩, _, .inr (T.q_TABLE_LENGTHS H), rfl, rfl, ?_⟩
      have e0 : (true ^^ inV (.int ((2 ^ m : Nat) : Int)) [.int 2, .int 4, .int 8, .int 16, .int 32, .int 64]) = false := by
        have : m = 1 \/ m = 2 \/ m = 3 \/ m = 4 \/ m = 5 \/ m = 6 := by omega
        rcases this with rfl | rfl | rfl | rfl | rfl | rfl <;> rfl
      rw [<- e0] at q
      exact q
    . exact iteF ⟨rfl, rfl⟩
  rintro σ _ ⟨rfl, rfl⟩
  refine .inr ⟨⟨_, ht⟩, ?_⟩
  refine comp_tup (xs := bs.map V.bl) (fun i ys H' => H' = H /\ ys = (List.replicate i true).map V.bl) ⟨rfl, rfl⟩ (fun i ys H' _ ⟨e, _⟩ => by rw [e]; exact ht) (fun i ys H' hi ⟨_, e⟩ => by
    rw [List.length_map] at hi
    rw [e, List.length_map, List.length_replicate]; exact small1000 (by omega)) ?_ ?_
  . rintro i w zs H' hx ⟨rfl, rfl⟩
    rw [List.getElem?_map] at hx
    cases er : bs[i]? with
    | none => rw [er] at hx; cases hx
    | some c =>
      rw [er] at hx
      cases hx
      refine ⟨by decide, .bl c, rep_bl, rfl, ?_⟩
      rw [List.replicate_succ', List.map_append]
      rfl
  . rintro zs H' ⟨rfl, rfl⟩ l hl
    refine ⟨_, .of upd_same, ?_⟩
    have e0 : (List.replicate (bs.map V.bl).length true).all id = true := by simp
    show Q (.bl ((List.replicate (bs.map V.bl).length true).all id)) _
    rw [e0]
    exact q _ (Same.upd hl)
def sp_switches (K : W.Frag) : Sp := fun vs H Q _ => match vs with
  | [.ref p] => ∃ (m : Nat) (xs : List V), SqT K H p xs /\ xs.length = 2 ^ m /\ m <= 6 /\ Q (.int m) H
  | _ => False
theorem sp_switches_mono : SpMono (sp_switches K) := fun vs H Q Q' E h q => by
  unfold sp_switches at *
  split at q
  . revert q; repeat' first | exact h _ _ | exact newL_mono h | exact out_mono h | exact outT_mono h | walk_at "m"
  . exact q.elim
theorem ok_switches_of : FnOk P w K mg base CX0 1 T.f_switches_of T.d_switches_of ["table"] (sp_switches K) := by
  refine T.F_switches_of.ok sc_switches_of (fun vs H Q E h => by unfold sp_switches at h; split at h <;> first | rfl | exact h.elim) (fun cdv A outer s H vs Q E hr h => ?_)
  have hu := hu60 hr
  unfold sp_switches at h
  split at h
  rotate_left
  . exact h.elim
  rename_i p
  obtain ⟨m, xs, hp, hl, m6, q⟩ := h
  refine ⟨_, (@pss_one _ _ _ (@ps_ret _ _ _ _ (@pe_op _ _ _ _ _ _ _ _ om_sub (@kBitlen _ K _ _ _ _ (@pe_callB _ _ _ _ _ _ _ _ _ (kLen (K := K)) rfl T.z_len (by rfl) (@pa1 _ _ _ (@vw _ 0 _ _ (by walk_at "v")) (by rfl)) (by decide) (by decide) (by rfl) (by rfl)) (by rfl) (by rfl) (by rfl)) (@pe_int _ _ _ _)))), ?_⟩
  have hb := bits_pow m (by omega)
  refine ⟨2 ^ m, .inr ⟨_, hp, hl.symm⟩, rfl, ?_⟩
  dsimp only [mBitlen, tC, mSub]
  rw [hb]
  have : ((m + 1 : Nat) : Int) - 1 = (m : Int) := by omega
  rw [this]
  exact q
def sp_sumfrom (K : W.Frag) : Sp := fun vs H Q _ => match vs with
  | [.int n, .ref p] => ∃ (m M : Nat) (g : Nat -> Int), n = m /\ M <= 64 /\ SqL K H p (ixL g M) /\ ∀ v H', Same H H' -> Rep K H' (sumD m (termG g M)) v -> Q v H'
  | _ => False
theorem ok_sum_from : FnOk P w K mg base CX0 1 T.f_sum_from T.d_sum_from ["n", "weights"] (sp_sumfrom K) := by
  refine T.F_sum_from.ok sc_sum_from (fun vs H Q E h => by unfold sp_sumfrom at h; split at h <;> first | rfl | exact h.elim) (fun cdv A outer s H vs Q E hr h => ?_)
  have hu := hu60 hr
  unfold sp_sumfrom at h
  split at h
  rotate_left
  . exact h.elim
  rename_i n p
  obtain ⟨m, M, g, e1, hM, hp, q⟩ := h
  subst e1
  refine ⟨_, (@pss_one _ _ _ (@ps_ret _ _ _ _ (@pe_tup _ _ _ _ _ (@pa_cons _ _ _ _ _ (@vw _ 0 _ _ (by walk_at "v")) (@pa1 _ _ _ (@pe_callTy _ _ _ _ _ _ _ _ _ (kTuple (K := K)) rfl T.z_tuple (by rfl) (@pa1 _ _ _ (@pe_compB _ _ _ _ _ _ _ (["subset", "weight"]) 2 [] _ _ _ _ rfl (@kEnum _ K _ _ _ _ _ _ _ rfl T.z_enumerate (@pa1 _ _ _ (@vw _ 1 _ _ (by walk_at "v")) (by rfl)) (by rfl) (by rfl)) (by kernel_rfl) rfl rfl (by kernel_rfl) (fun c => @kTup _ K _ _ _ _ 2 rfl (@pgs_cons _ _ _ _ _ (@pg_name _ _ 0 _ (show (["subset", "weight"] : List Str).Nodup by decide +kernel) rfl (by walk_at "e") (by walk_at "i")) (@pgs_cons _ _ _ _ _ (@pg_name _ _ 1 _ (show (["subset", "weight"] : List Str).Nodup by decide +kernel) rfl (by walk_at "e") (by walk_at "i")) (@pgs_nil _) (by rfl)) (by rfl)) (by rfl) (by rfl) (by rfl)) (go_tup (gos_cons gm_name (gms_cons gm_name gms_nil) (go_name (by decide)) (gos_cons gm_name gms_nil (go_name (by decide)) gos_nil))) (fun c => @pts_one _ _ _ (@tu_cmp _ _ _ _ _ _ _ _ (kNe (K := K) hu) (@vw _ 1 _ _ (by walk_at "v")) (@pe_int _ _ _ _) (by walk_at "n"))) (fun c => (@pe_tup _ _ _ _ _ (@pa_cons _ _ _ _ _ (@vw _ 0 _ _ (by walk_at "v")) (@pa1 _ _ _ (@vw _ 1 _ _ (by walk_at "v")) (by rfl)) (by rfl)))) (by intro _; rfl)) (by rfl)) (by decide) (by decide) (by rfl) (by rfl)) (by rfl)) (by rfl))))), ?_⟩
  refine ⟨⟨_, hp⟩, ?_⟩
  refine comp_enum (xs := ixL g M) (fun i zs H' => Same H H' /\ Reps K H' ((termG g i).map termD) zs /\ zs.length <= i) ⟨Same.refl _, reps_nil, Nat.le_refl _⟩
    (fun i zs H' _ ⟨s, _, _⟩ => sqL_stay hp fun o e => s _ _ e) (fun i zs H' hi ⟨_, _, e⟩ => by rw [ixL_len] at hi; exact small1000 (by omega)) ?_ ?_
  . rintro i x zs H1 pp hx ⟨s1, r1, l1⟩ hpp
    have hi : i < M := by
      have := (List.getElem?_eq_some_iff.mp hx).1
      rw [ixL_len] at this
      exact this
    have ex : x = .int (g i) := by
      unfold ixL at hx
      rw [List.getElem?_map, List.getElem?_range hi] at hx
      exact (Option.some.inj hx).symm
    subst ex
    refine ⟨pp, _, rfl, .of upd_same, rfl, _, _, rfl, _, _, rfl, rfl, ?_⟩
    have s2 : Same H1 (upd H1 pp (.tup [.int i, .int (g i)])) := Same.upd hpp
    have et : termG g (i + 1) = termG g i ++ (if g i = 0 then [] else [(i, g i)]) := rfl
    generalize upd H1 pp (.tup [.int i, .int (g i)]) = H2 at *
    rw [et]
    refine ite2 (fun e => ?_) (fun e => ?_)
    . have w0 : ¬ g i = 0 := by simpa using e
      rw [if_neg w0, List.map_append]
      refine ⟨small_le (show 2 <= 1000 by decide), fun k hk => ⟨s1.trans (s2.trans (Same.upd hk)), ?_, by rw [List.length_append]; exact Nat.succ_le_succ l1⟩⟩
      exact Reps.append (Reps.same (s2.trans (Same.upd hk)) _ _ r1) (reps_cons (rep_tup1 (xs := [.int i, .int (g i)]) upd_same (reps_cons rep_int (reps_cons rep_int reps_nil))) reps_nil)
    . have w0 : g i = 0 := by simpa using e
      rw [if_pos w0, List.append_nil]
      exact ⟨s1.trans s2, Reps.same s2 _ _ r1, Nat.le_succ_of_le l1⟩
  rintro zs H1 ⟨s1, r1, _⟩ l hl
  rw [ixL_len] at r1
  refine ⟨_, .inl ⟨.of upd_same, fun k hk => ⟨small_le (show 2 <= 1000 by decide), fun k2 hk2 => ?_⟩⟩⟩
  have S0 := Same.upd (o := .lst zs) hl
  have S := (Same.upd (o := .tup zs) hk).trans (Same.upd (o := .tup [.int m, .ref k]) hk2)
  refine q _ _ (s1.trans (S0.trans S)) ?_
  refine rep_tup1 upd_same (reps_cons rep_int (reps_cons (rep_tup1 (xs := zs) ?_ (Reps.same (S0.trans S) _ _ r1)) reps_nil))
  exact Same.upd hk2 _ _ upd_same
def sp_psum (K : W.Frag) : Sp := fun vs H Q _ => match vs with
  | [.ref p] => ∃ (m : Nat) (bs : List Bool), m <= 6 /\ bs.length = 2 ^ m /\ SqT K H p (bs.map V.bl) /\ ∀ v H', Same H H' -> SumAt K H' v m (termG (wt m (valF bs)) (2 ^ m)) -> Q v H'
  | _ => False
theorem sp_psum_mono : SpMono (sp_psum K) := fun vs H Q Q' E h q => by
  unfold sp_psum at *
  split at q
  . revert q; repeat' first | exact h _ _ | exact newL_mono h | exact out_mono h | exact outT_mono h | walk_at "m"
  . exact q.elim
theorem ok_sum_of : FnOk P w K mg base CX0 3 T.f_sum_of T.d_sum_of ["table"] (sp_psum K) := by
  have G_sum_from := ok_sum_from (P := P) (w := w) (base := base) T; have G_switches_of := ok_switches_of (P := P) (w := w) (base := base) T; have G_times_signs := ok_times_signs (P := P) (w := w) (base := base) T
  refine T.F_sum_of.ok sc_sum_of (fun vs H Q E h => by unfold sp_psum at h; split at h <;> first | rfl | exact h.elim) (fun cdv A outer s H vs Q E hr h => ?_)
  have hu := hu60 hr
  have hr_sum_from := hr.mono (show 1 <= _ by decide); have hr_switches_of := hr.mono (show 1 <= _ by decide); have hr_times_signs := hr.mono (show 2 <= _ by decide)
  unfold sp_psum at h
  split at h
  rotate_left
  . exact h.elim
  rename_i p
  obtain ⟨m, bs, m6, hb, hp, q⟩ := h
  refine ⟨_, (@pss_cons _ _ _ _ _ (@ps_compB _ _ _ _ _ _ _ ["answer"] 1 [] _ _ _ _ 1 _ _ _ rfl sc_sum_of.nd rfl rfl (@kSeq _ K _ _ _ (@vw _ 0 _ _ (by walk_at "v")) (by rfl)) (by kernel_rfl) rfl rfl (by kernel_rfl) (fun c => @pg_name _ _ 0 _ (show (["answer"] : List Str).Nodup by decide +kernel) rfl (by walk_at "e") (by walk_at "i")) (go_name (by decide)) (fun c => @pts_nil _) (fun c => (@pe_ifExp _ _ _ _ _ _ _ _ (@tu_val _ _ _ (@vw _ 0 _ _ (by walk_at "v")) (by intro _; rfl)) (@pe_un _ _ _ _ _ _ um_neg (@pe_int _ _ _ _)) (@pe_int _ _ _ _))) (by rfl) (by intro _; rfl)) (@pss_one _ _ _ (@ps_ret _ _ _ _ (@pe_call _ _ _ _ _ _ _ _ _ _ _ _ _ _ _ _ G_sum_from hr_sum_from rfl T.m_sum_from T.F_sum_from.kp T.b_sum_from .nil pass0 (@pa_cons _ _ _ _ _ (@pe_call _ _ _ _ _ _ _ _ _ _ _ _ _ _ _ _ G_switches_of hr_switches_of rfl T.m_switches_of T.F_switches_of.kp T.b_switches_of .nil pass0 (@pa1 _ _ _ (@vw _ 0 _ _ (by walk_at "v")) (by rfl)) (by decide) (by rfl) (by rfl)) (@pa1 _ _ _ (@pe_call _ _ _ _ _ _ _ _ _ _ _ _ _ _ _ _ G_times_signs hr_times_signs rfl T.m_times_signs T.F_times_signs.kp T.b_times_signs .nil pass0 (@pa1 _ _ _ (@vw _ 1 _ _ (by walk_at "v")) (by rfl)) (by decide) (by rfl) (by rfl)) (by rfl)) (by rfl)) (by decide) (by rfl) (by rfl))))), ?_⟩
  have h64 : 2 ^ m <= 64 := Nat.pow_le_pow_right (n := 2) (by decide) m6
  have et : termG (hadF (valF bs) m) (2 ^ m) = termG (wt m (valF bs)) (2 ^ m) := termG_congr fun j hj => had_wt hj
  rw [<- et] at q
  refine .inr ⟨⟨_, hp⟩, ?_⟩
  refine comp_tup (xs := bs.map V.bl) (fun i ys H' => H = H' /\ ys = ixL (valF bs) i) ⟨rfl, rfl⟩ (fun i ys H' _ ⟨e, _⟩ => by rw [<- e]; exact hp) (fun i ys H' hi ⟨_, e⟩ => by
    rw [List.length_map] at hi
    rw [e, ixL_len]; exact small1000 (by omega)) ?_ ?_
  . rintro i x ys H' hx ⟨rfl, rfl⟩
    have hi : i < bs.length := by
      have := (List.getElem?_eq_some_iff.mp hx).1
      rw [List.length_map] at this
      exact this
    have ex : x = .bl (gB bs i) := by
      rw [List.getElem?_map, List.getElem?_eq_getElem hi] at hx
      rw [gB_get hi]
      exact (Option.some.inj hx).symm
    subst ex
    have ev : valF bs i = if gB bs i = true then -1 else 1 := rfl
    refine ite2 (fun e => ?_) (fun e => ?_)
    . refine ⟨rfl, ?_⟩
      rw [ixL_succ, ev, if_pos e]
    . refine ⟨rfl, ?_⟩
      rw [ixL_succ, ev, if_neg e]
  rintro ys H' ⟨rfl, rfl⟩ l hl
  rw [List.length_map, hb]
  have s0 : Same H (upd H l (.lst (ixL (valF bs) (2 ^ m)))) := Same.upd hl
  refine ⟨m, _, sqT_same hp s0, by rw [List.length_map]; exact hb, m6, valF bs, m, .of upd_same, m6, fun p2 H2 n2 s2 g2 => ?_⟩
  exact ⟨m, 2 ^ m, hadF (valF bs) m, rfl, h64, .of g2, fun v H' s' r' => q v H' (s0.trans (s2.trans s')) (.of r')⟩
def sp_hangs (K : W.Frag) : Sp := fun vs H Q _ => match vs with
  | [v] => ∃ (m : Nat) (g : Nat -> Int), SumAt K H v m (termG g (2 ^ m)) /\ Q (.int (orL 0 (termG g (2 ^ m)) : Nat)) H
  | _ => False
theorem sp_hangs_mono : SpMono (sp_hangs K) := fun vs H Q Q' E h q => by
  unfold sp_hangs at *
  split at q
  . revert q; repeat' first | exact h _ _ | exact newL_mono h | exact out_mono h | exact outT_mono h | walk_at "m"
  . exact q.elim
theorem ok_hangs_on : FnOk P w K mg base CX0 1 T.f_hangs_on T.d_hangs_on ["one"] (sp_hangs K) := by
  refine T.F_hangs_on.ok sc_hangs_on (fun vs H Q E h => by unfold sp_hangs at h; split at h <;> first | rfl | exact h.elim) (fun cdv A outer s H vs Q E hr h => ?_)
  have hu := hu60 hr
  unfold sp_hangs at h
  split at h
  rotate_left
  . exact h.elim
  rename_i v
  obtain ⟨m, g, S, q⟩ := h
  obtain ⟨a, b, vs, rfl, ha, hb, hr'⟩ := id S.at_
  have hvl : vs.length = (termG g (2 ^ m)).length := by have := hr'.length; rw [List.length_map] at this; omega
  generalize termG g (2 ^ m) = ts at *
  refine ⟨_, (@pss_cons _ _ _ _ _ (@ps_set _ _ 1 _ _ _ _ sc_hangs_on.nd rfl (by walk_at "e") (@pe_int _ _ _ _) (by rfl) (by walk_at "i")) (@pss_cons _ _ _ _ _ (@ps_for _ _ _ _ _ _ _ _ PassesOwn.never rfl (@kSeq _ K _ _ _ (@kIx _ K _ _ _ _ _ (@vw _ 0 _ _ (by walk_at "v")) (@pe_int _ _ _ _) (by intro _ _; rfl) (by rfl)) (by rfl)) (@kTupA _ K _ _ _ _ 2 rfl (@pgs_cons _ _ _ _ _ (@pg_name _ _ 2 _ sc_hangs_on.nd rfl (by walk_at "e") (by walk_at "i")) (@pgs_cons _ _ _ _ _ (@pg_name _ _ 3 _ sc_hangs_on.nd rfl (by walk_at "e") (by walk_at "i")) (@pgs_nil _) (by rfl)) (by rfl)) (by rfl) (by rfl) (by rfl)) (@pss_one _ _ _ (@ps_set _ _ 1 _ _ _ _ sc_hangs_on.nd rfl (by walk_at "e") (@pe_op _ _ _ _ _ _ _ _ om_or (@vw _ 1 _ _ (by walk_at "v")) (@vw _ 2 _ _ (by walk_at "v"))) (by rfl) (by walk_at "i"))) (by intro _; rfl)) (@pss_one _ _ _ (@ps_ret _ _ _ _ (@vw _ 1 _ _ (by walk_at "v")))))), ?_⟩
  refine ⟨_, .ref b, .inr ha, rfl, .inr ⟨⟨_, hb⟩, ?_⟩⟩
  refine for_tup (xs := vs) (fun i σ H' => H' = H /\ ∃ z2 z3 : Option V, σ = [some (.ref a), some (.int (orL 0 (ts.take i) : Nat)), z2, z3]) ⟨rfl, none, none, rfl⟩ (fun i σ H' _ ⟨e, _⟩ => by rw [e]; exact hb) ?_ ?_
  . rintro i x σ H' hx ⟨rfl, z2, z3, rfl⟩
    obtain ⟨⟨k, wgt⟩, c, hq, rfl, hc⟩ := reps_terms_at hr' hx
    refine ⟨_, .inr hc, rfl, _, _, rfl, _, _, rfl, rfl, ?_⟩
    refine ⟨rfl, some (.int k), some (.int wgt), ?_⟩
    rw [orL_take hq, <- bitOr_nat]
    rfl
  . rintro σ H' ⟨rfl, z2, z3, rfl⟩
    rw [List.take_of_length_le (by omega)]
    exact q
theorem term_mul (f g : Nat -> Int) : ∀ n, ((termG f n).map fun t => t.2 * g t.1).sum = sumTo (fun j => f j * g j) n
  | 0 => rfl
  | n + 1 => by
    show ((termG f n ++ (if f n = 0 then [] else [(n, f n)])).map fun t => t.2 * g t.1).sum = sumTo (fun j => f j * g j) n + f n * g n
    rw [List.map_append, List.sum_append, term_mul f g n]
    by_cases e : f n = 0
    . rw [if_pos e, e]; simp
    . rw [if_neg e]; simp
def sp_met (K : W.Frag) : Sp := fun vs H Q _ => match vs with
  | [.ref p, .ref l, .int z] => ∃ (m : Nat) (f g : Nat -> Int) (us : List V), SqT K H p us /\ Reps K H ((termG f (2 ^ m)).map termD) us /\ SqL K H l (ixL g (2 ^ m)) /\ z = 0 /\ m <= 6 /\ Light g /\ ∀ H', Same H H' -> Q (.int (sumTo (fun j => f j * g j) (2 ^ m))) H'
  | _ => False
theorem ok_met : FnOk P w K mg base CX0 1 T.f_met T.d_met ["terms", "weights", "apart"] (sp_met K) := by
  refine T.F_met.ok sc_met (fun vs H Q E h => by unfold sp_met at h; split at h <;> first | rfl | exact h.elim) (fun cdv A outer s H vs Q E hr h => ?_)
  have hu := hu60 hr
  unfold sp_met at h
  split at h
  rotate_left
  . exact h.elim
  rename_i p l z
  obtain ⟨m, f, g, us, hp, hR, hl, e1, m6, hg, q⟩ := h
  subst e1
  have h64 : 2 ^ m <= 64 := Nat.pow_le_pow_right (n := 2) (by decide) m6
  have hul : us.length = (termG f (2 ^ m)).length := by have := hR.length; rw [List.length_map] at this; omega
  have htl := termG_len f (2 ^ m)
  have hmem := fun {t} (h : t ∈ termG f (2 ^ m)) => (termG_mem h).1
  rw [<- term_mul] at q
  refine ⟨_, (@pss_one _ _ _ (@ps_ret _ _ _ _ (@pe_callB _ _ _ _ _ _ _ _ _ (kSum (K := K) rfl) rfl T.z_sum (by rfl) (@pa1 _ _ _ (@pe_compB _ _ _ _ _ _ _ (["subset", "weight", "weights", "apart"]) 2 ([1, 2]) _ _ _ _ rfl (@kSeq _ K _ _ _ (@vw _ 0 _ _ (by walk_at "v")) (by rfl)) (by kernel_rfl) rfl rfl (by kernel_rfl) (fun c => @kTup _ K _ _ _ _ 2 rfl (@pgs_cons _ _ _ _ _ (@pg_name _ _ 0 _ (show (["subset", "weight", "weights", "apart"] : List Str).Nodup by decide +kernel) rfl (by walk_at "e") (by walk_at "i")) (@pgs_cons _ _ _ _ _ (@pg_name _ _ 1 _ (show (["subset", "weight", "weights", "apart"] : List Str).Nodup by decide +kernel) rfl (by walk_at "e") (by walk_at "i")) (@pgs_nil _) (by rfl)) (by rfl)) (by rfl) (by rfl) (by rfl)) (go_tup (gos_cons gm_name (gms_cons gm_name gms_nil) (go_name (by decide)) (gos_cons gm_name gms_nil (go_name (by decide)) gos_nil))) (fun c => @pts_nil _) (fun c => (@pe_op _ _ _ _ _ _ _ _ om_mul (@vw _ 1 _ _ (by walk_at "v")) (@kIx _ K _ _ _ _ _ (@vw _ 2 _ _ (by walk_at "v")) (@pe_op _ _ _ _ _ _ _ _ om_xor (@vw _ 0 _ _ (by walk_at "v")) (@vw _ 3 _ _ (by walk_at "v"))) (by intro _ _; rfl) (by rfl)))) (by intro _; rfl)) (by rfl)) (by decide) (by decide) (by rfl) (by rfl)))), ?_⟩
  generalize termG f (2 ^ m) = ts at *
  refine .inr ⟨⟨_, hp⟩, ?_⟩
  refine comp_tup (xs := us) (fun i ys H' => H' = H /\ ys = ((ts.take i).map fun t => t.2 * g t.1).map V.int) ⟨rfl, rfl⟩ (fun i ys H' _ ⟨e, _⟩ => by rw [e]; exact hp) (fun i ys H' hi ⟨_, e⟩ => by
    rw [e, List.length_map, List.length_map, List.length_take]; exact small1000 (by omega)) ?_ ?_
  . rintro i x ys H' hx ⟨rfl, rfl⟩
    obtain ⟨⟨k, wgt⟩, c, hq, rfl, hc⟩ := reps_terms_at hR hx
    have hk : k < 2 ^ m := hmem (List.mem_of_getElem? hq)
    have ek : Builtin.bitXor (k : Int) 0 = (k : Int) := by
      have := bitXor_nat k 0
      rw [Nat.xor_zero] at this
      exact this
    have hgk := hg k
    refine ⟨c, _, rfl, hc, rfl, _, _, rfl, _, _, rfl, rfl, _, .int (g k), .inl hl, by rw [ek]; exact ixL_at hk, .inr (.inr ⟨by omega, by omega⟩), rfl, ?_⟩
    rw [List.take_add_one, hq, List.map_append, List.map_append]
    rfl
  . rintro ys H' ⟨rfl, rfl⟩ lp hlp
    rw [List.take_of_length_le (by omega)]
    exact ⟨_, .of upd_same, q _ (Same.upd hlp)⟩
def sp_lead (K : W.Frag) : Sp := fun vs H Q _ => match vs with
  | [v, u] => ∃ (m : Nat) (as bs : List Bool), SumAt K H v m (termG (wt m (valF as)) (2 ^ m)) /\ SumAt K H u m (termG (wt m (valF bs)) (2 ^ m)) /\ m <= 6 /\ ∀ H', Same H H' -> Q (.int (sumTo (fun p => valF as p * valF bs p) (2 ^ m))) H'
  | _ => False
theorem sp_lead_mono : SpMono (sp_lead K) := fun vs H Q Q' E h q => by
  unfold sp_lead at *
  split at q
  . revert q; repeat' first | exact h _ _ | exact newL_mono h | exact out_mono h | exact outT_mono h | walk_at "m"
  . exact q.elim
theorem ok_lead_of : FnOk P w K mg base CX0 4 T.f_lead_of T.d_lead_of ["one", "total"] (sp_lead K) := by
  have G_met := ok_met (P := P) (w := w) (base := base) T; have G_two_to := ok_two_to (P := P) (w := w) (base := base) T; have G_weights_of := ok_weights_of (P := P) (w := w) (base := base) T
  refine T.F_lead_of.ok sc_lead_of (fun vs H Q E h => by unfold sp_lead at h; split at h <;> first | rfl | exact h.elim) (fun cdv A outer s H vs Q E hr h => ?_)
  have hu := hu60 hr
  have hr_met := hr.mono (show 1 <= _ by decide); have hr_two_to := hr.mono (show 2 <= _ by decide); have hr_weights_of := hr.mono (show 3 <= _ by decide)
  unfold sp_lead at h
  split at h
  rotate_left
  . exact h.elim
  rename_i v u
  obtain ⟨m, as, bs, S, S2, m6, q⟩ := h
  obtain ⟨a, b, us, rfl, ha, hb, hR⟩ := id S.at_
  have h64 : 2 ^ m <= 64 := Nat.pow_le_pow_right (n := 2) (by decide) m6
  have h0 := Nat.two_pow_pos m
  have i1 : ((2 ^ m : Nat) : Int) <= 64 := Int.ofNat_le.mpr h64
  have i0 : (0 : Int) < ((2 ^ m : Nat) : Int) := by omega
  refine ⟨_, (@pss_one _ _ _ (@ps_ret _ _ _ _ (@pe_op _ _ _ _ _ _ _ _ om_div (@pe_call _ _ _ _ _ _ _ _ _ _ _ _ _ _ _ _ G_met hr_met rfl T.m_met T.F_met.kp T.b_met .nil pass0 (@pa_cons _ _ _ _ _ (@kIx _ K _ _ _ _ _ (@vw _ 0 _ _ (by walk_at "v")) (@pe_int _ _ _ _) (by intro _ _; rfl) (by rfl)) (@pa_cons _ _ _ _ _ (@pe_call _ _ _ _ _ _ _ _ _ _ _ _ _ _ _ _ G_weights_of hr_weights_of rfl T.m_weights_of T.F_weights_of.kp T.b_weights_of .nil pass0 (@pa1 _ _ _ (@vw _ 1 _ _ (by walk_at "v")) (by rfl)) (by decide) (by rfl) (by rfl)) (@pa1 _ _ _ (@pe_int _ _ _ _) (by rfl)) (by rfl)) (by rfl)) (by decide) (by rfl) (by rfl)) (@pe_call _ _ _ _ _ _ _ _ _ _ _ _ _ _ _ _ G_two_to hr_two_to rfl T.m_two_to T.F_two_to.kp T.b_two_to .nil pass0 (@pa1 _ _ _ (@kIx _ K _ _ _ _ _ (@vw _ 0 _ _ (by walk_at "v")) (@pe_int _ _ _ _) (by intro _ _; rfl) (by rfl)) (by rfl)) (by decide) (by rfl) (by rfl))))), ?_⟩
  refine ⟨_, .ref b, .inr ha, rfl, m, _, S2, m6, fun l H1 hl s1 g1 => ?_⟩
  refine ⟨m, _, _, us, sqT_same hb s1, Reps.same s1 _ _ hR, .of g1, rfl, m6, wt_light m6 bs, fun H2 s2 => ?_⟩
  refine ⟨_, .int m, .inr (sqT_same ha (s1.trans s2)), rfl, m, rfl, by omega, okDiv_of (by omega) (Int.le_trans i1 (by decide)), ?_⟩
  have q' := q H2 (s1.trans s2)
  have e : sumTo (fun j => wt m (valF as) j * wt m (valF bs) j) (2 ^ m) / ((2 ^ m : Nat) : Int) = sumTo (fun p => valF as p * valF bs p) (2 ^ m) := by
    rw [wt_mul, Int.mul_ediv_cancel_left _ (by omega)]
  rw [<- e] at q'
  exact q'
def pickI (G : Nat -> Int) : Nat -> Nat
  | 0 => 0
  | n + 1 => if G (n + 1) < G (pickI G n) then n + 1 else pickI G n
theorem pickI_le (G : Nat -> Int) : ∀ n, pickI G n <= n
  | 0 => Nat.le_refl _
  | n + 1 => by
    unfold pickI
    have := pickI_le G n
    split <;> omega
theorem pickI_min (G : Nat -> Int) : ∀ n j, j <= n -> G (pickI G n) <= G j /\ (j < pickI G n -> G (pickI G n) < G j)
  | 0, j, h => by
    have : j = 0 := by omega
    subst this
    exact ⟨Int.le_refl _, fun h => absurd h (Nat.lt_irrefl _)⟩
  | n + 1, j, h => by
    have hl := pickI_le G n
    unfold pickI
    by_cases c : G (n + 1) < G (pickI G n)
    . rw [if_pos c]
      by_cases e : j = n + 1
      . subst e; exact ⟨Int.le_refl _, fun h => absurd h (Nat.lt_irrefl _)⟩
      . have := (pickI_min G n j (by omega)).1
        exact ⟨by omega, fun _ => by omega⟩
    . rw [if_neg c]
      by_cases e : j = n + 1
      . subst e; exact ⟨by omega, fun h => by omega⟩
      . exact pickI_min G n j (by omega)
theorem pick_first {ks : List Int} {i : Nat} (h : firstMin ks i) : i = pickI (fun j => ks.getD j 0) (ks.length - 1) := by
  obtain ⟨h1, h2⟩ := h
  have hl := pickI_le (fun j => ks.getD j 0) (ks.length - 1)
  have a := h2 (pickI (fun j => ks.getD j 0) (ks.length - 1)) (by omega)
  have b := pickI_min (fun j => ks.getD j 0) (ks.length - 1) i (by omega)
  rcases Nat.lt_trichotomy i (pickI (fun j => ks.getD j 0) (ks.length - 1)) with c | c | c
  . have := b.2 c; have := a.1; omega
  . exact c
  . have := a.2 c; have := b.1; omega
theorem manyF_has : ∀ m j, j <= m -> ∃ s, s < 2 ^ m /\ manyF m s = j
  | 0, j, h => ⟨0, by decide, by have : j = 0 := by omega
                                 subst this; rfl⟩
  | m + 1, 0, _ => ⟨0, Nat.two_pow_pos _, manyF_zero _⟩
  | m + 1, j + 1, h => by
    obtain ⟨s, h1, h2⟩ := manyF_has m j (by omega)
    refine ⟨2 * s + 1, by rw [Nat.pow_succ]; omega, ?_⟩
    show (2 * s + 1) % 2 + manyF m ((2 * s + 1) / 2) = j + 1
    rw [show (2 * s + 1) / 2 = s by omega, h2]
    omega
theorem setL_ne (m k : Nat) : 0 < (setL m (min m k) (2 ^ m)).length := by
  obtain ⟨s, h1, h2⟩ := manyF_has m (min m k) (by omega)
  refine List.length_pos_of_mem (a := s) ?_
  unfold setL
  exact List.mem_filter.mpr ⟨List.mem_range.mpr h1, decide_eq_true h2⟩
def distO (m : Nat) (bs : List Bool) (o : Nat) : Nat := (difL (bestB m (wt m (valF bs)) o) bs (2 ^ m)).length
def nearG (m k : Nat) (bs : List Bool) (i : Nat) : Int := (distO m bs ((setL m (min m k) (2 ^ m)).getD i 0) : Nat)
def nearO (m k : Nat) (bs : List Bool) (n : Nat) : Nat := (setL m (min m k) (2 ^ m)).getD (pickI (nearG m k bs) n) 0
def nearD (m k : Nat) (bs : List Bool) (n : Nat) : Dv := bestD (bestB m (wt m (valF bs)) (nearO m k bs n)) bs m
abbrev nearN (m k : Nat) : Nat := (setL m (min m k) (2 ^ m)).length - 1
theorem best_at {K : W.Frag} {H : Hp} {as bs : List Bool} {m : Nat} {u : V} (h : Rep K H (bestD as bs m) u) : ∃ a x, u = .ref a /\ SqT K H a [x, .int ((difL as bs (2 ^ m)).length : Nat)] := by
  unfold bestD at h
  obtain ⟨a, xs, e, h1, h2⟩ := rep_tup_inv h
  unfold Reps at h2
  obtain ⟨x, r, rfl, _, h3⟩ := h2
  unfold Reps at h3
  obtain ⟨y, r, rfl, h4, h5⟩ := h3
  unfold Reps at h5
  unfold Rep at h4
  subst h4 h5
  exact ⟨a, x, e, h1⟩
def sp_near (K : W.Frag) (Pt : Addr) : Sp := fun vs H Q _ => match vs with
  | [v, .int z] => ∃ (m k : Nat) (bs : List Bool), SumAt K H v m (termG (wt m (valF bs)) (2 ^ m)) /\ m <= 6 /\ bs.length = 2 ^ m /\ z = k /\ Lam Pt lamP_nearest lamQ_nearest H /\
      ∀ u H', Grow Pt H H' -> Lam Pt lamP_nearest lamQ_nearest H' -> Rep K H' (nearD m k bs (nearN m k)) u -> Q u H'
  | _ => False
def bestsAt (K : W.Frag) (H : Hp) (m k : Nat) (bs : List Bool) (i : Nat) (ys : List V) : Prop :=
  ys.length = i /\ ∀ j < i, ∃ u, ys[j]? = some u /\ Rep K H (bestD (bestB m (wt m (valF bs)) ((setL m (min m k) (2 ^ m)).getD j 0)) bs m) u
theorem bestsAt.same {H H' : Hp} {m k i : Nat} {bs : List Bool} {ys : List V} (h : bestsAt K H m k bs i ys) (s : Same H H') : bestsAt K H' m k bs i ys :=
  ⟨h.1, fun j hj => let ⟨u, e, r⟩ := h.2 j hj; ⟨u, e, Rep.same s _ _ r⟩⟩
theorem ok_nearest (B : BMn mg base) : FnOk P w K mg base CX0 6 T.f_nearest T.d_nearest ["one", "k"] (sp_near K T.p_nearest) := by
  have G_best_on := ok_best_on (P := P) (w := w) (base := base) T; have G_sets_of := ok_sets_of (P := P) (w := w) (base := base) T
  refine T.F_nearest.okC T.gc_nearest sc_nearest (fun vs H Q E h => by unfold sp_near at h; split at h <;> first | rfl | exact h.elim) (fun A outer s H vs Q E hr h => ?_)
  have hu := hu60 hr
  have hr_best_on := hr.mono (show 5 <= _ by decide); have hr_sets_of := hr.mono (show 3 <= _ by decide)
  unfold sp_near at h
  split at h
  rotate_left
  . exact h.elim
  rename_i v z
  obtain ⟨m, k, bs, S, m6, hb, e1, hL, q⟩ := h
  subst e1
  have h64 : 2 ^ m <= 64 := Nat.pow_le_pow_right (n := 2) (by decide) m6
  have hne := setL_ne m k
  have hsl := setL_len m (min m k) (2 ^ m)
  refine ⟨_, (@pss_one _ _ _ (@ps_ret _ _ _ _ (@pe_minkey _ T.p_nearest T.g_nearest _ _ _ _ _ _ _ _ _ _ lamQ_nearest _ _ _ _ _ 1 (@pe_compB _ _ _ _ _ _ _ (["subset", "one"]) 1 [0] _ _ _ _ rfl (@kSeq _ K _ _ _ (@pe_call _ _ _ _ _ _ _ _ _ _ _ _ _ _ _ _ G_sets_of hr_sets_of rfl T.m_sets_of T.F_sets_of.kp T.b_sets_of .nil pass0 (@pa_cons _ _ _ _ _ (@kIx _ K _ _ _ _ _ (@vw _ 0 _ _ (by walk_at "v")) (@pe_int _ _ _ _) (by intro _ _; rfl) (by rfl)) (@pa1 _ _ _ (@vw _ 1 _ _ (by walk_at "v")) (by rfl)) (by rfl)) (by decide) (by rfl) (by rfl)) (by rfl)) (by kernel_rfl) rfl rfl (by kernel_rfl) (fun c => @pg_name _ _ 0 _ (show (["subset", "one"] : List Str).Nodup by decide +kernel) rfl (by walk_at "e") (by walk_at "i")) (go_name (by decide)) (fun c => @pts_nil _) (fun c => (@pe_call _ _ _ _ _ _ _ _ _ _ _ _ _ _ _ _ G_best_on hr_best_on rfl T.m_best_on T.F_best_on.kp T.b_best_on .nil pass0 (@pa_cons _ _ _ _ _ (@vw _ 1 _ _ (by walk_at "v")) (@pa1 _ _ _ (@vw _ 0 _ _ (by walk_at "v")) (by rfl)) (by rfl)) (by decide) (by rfl) (by rfl))) (by intro _; rfl)) T.z_min (hr.mono (by decide)) rfl rfl T.gh_nearest B rfl rfl (by decide) rfl rfl (fun _ _ _ _ => rfl) rfl rfl rfl rfl (by decide) (by decide) (by rfl) (by rfl) (by rfl)))), ?_⟩
  obtain ⟨a, vs, ev, hv1, hv2⟩ := rep_tup_inv S.rep
  have ha : atI vs 0 = some (.int (m : Int)) := by
    obtain ⟨x, e1, e2⟩ := hv2.get (i := 0) (d := .int (m : Int)) rfl
    unfold Rep at e2
    subst e2
    exact atI_of rfl e1
  subst ev
  refine ⟨_, _, .inr hv1, ha, m, k, rfl, rfl, m6, fun l H1 hl s1 g1 => .inl ⟨⟨_, .of g1⟩, ?_⟩⟩
  refine comp_list (xs := iL (setL m (min m k) (2 ^ m))) (fun i ys H' => Same H1 H' /\ bestsAt K H' m k bs i ys) ⟨Same.refl _, rfl, fun j hj => absurd hj (Nat.not_lt_zero _)⟩ (fun i ys H' _ ⟨s, _⟩ => .of (s _ _ g1)) (fun i ys H' hi ⟨_, e⟩ => by
    rw [iL_len] at hi
    rw [e.1]; exact small1000 (by omega)) ?_ ?_
  . rintro i x ys H' hx ⟨s2, hY⟩
    obtain ⟨o, ho, _, rfl⟩ := iL_at hx
    have s12 := s1.trans s2
    refine ⟨m, o, bs, S.same s12, m6, hb, rfl, fun u H2 s3 r3 => ⟨s2.trans s3, ?_, ?_⟩⟩
    . rw [List.length_append, hY.1]; rfl
    . intro j hj
      by_cases e : j = i
      . subst e
        refine ⟨u, by rw [List.getElem?_append_right (by rw [hY.1]; exact Nat.le_refl _), hY.1, Nat.sub_self]; rfl, ?_⟩
        have eo : (setL m (min m k) (2 ^ m)).getD j 0 = o := by rw [List.getD_eq_getElem?_getD, ho]; rfl
        rw [eo]; exact r3
      . obtain ⟨y, e1, e2⟩ := hY.2 j (by omega)
        exact ⟨y, by rw [List.getElem?_append_left (by rw [hY.1]; omega)]; exact e1, Rep.same s3 _ _ e2⟩
  . rintro ys H2 ⟨s2, hY⟩ lp hlp
    rw [iL_len] at hY
    have s3 := Same.upd (o := .lst ys) hlp
    have hY3 := hY.same s3
    have g3 := upd_same (H := H2) (a := lp) (o := .lst ys)
    have sa := s1.trans (s2.trans s3)
    generalize upd H2 lp (.lst ys) = H3 at *
    generalize hS : setL m (min m k) (2 ^ m) = SS at *
    refine ⟨lp, ys, SS.map fun o => ((distO m bs o : Nat) : Int), rfl, g3, by rw [hY.1]; exact hne, by rw [List.length_map, hY.1], fun i hi => ?_, hL.same sa, fun i u H4 hm hu4 hG hL4 => ?_⟩
    . rw [hY.1] at hi
      obtain ⟨y, e1, e2⟩ := hY3.2 i hi
      obtain ⟨b, x, e3, e4⟩ := best_at e2
      subst e3
      refine ⟨b, _, e1, e4, ?_⟩
      rw [hS]
      show some _ = some _
      congr 2
      simp [List.getD_eq_getElem?_getD, List.getElem?_map, List.getElem?_eq_getElem hi, distO]
    . have hi : i < SS.length := by have := hm.1; rwa [List.length_map] at this
      have ei := pick_first hm
      rw [List.length_map] at ei
      have eG : ∀ j, j < SS.length -> (SS.map fun o => ((distO m bs o : Nat) : Int)).getD j 0 = nearG m k bs j := fun j hj => by
        unfold nearG
        rw [hS]
        simp [List.getD_eq_getElem?_getD, List.getElem?_map, List.getElem?_eq_getElem hj]
      have ep : ∀ n, n < SS.length -> pickI (fun j => (SS.map fun o => ((distO m bs o : Nat) : Int)).getD j 0) n = pickI (nearG m k bs) n := fun n => by
        induction n with
        | zero => intro _; rfl
        | succ n ih =>
          intro hn
          unfold pickI
          have := pickI_le (nearG m k bs) n
          rw [ih (by omega), eG _ hn, eG _ (by omega)]
      obtain ⟨y, e1, e2⟩ := hY3.2 i hi
      rw [e1] at hu4
      cases hu4
      obtain ⟨ps, hP, _⟩ := id hL
      refine q _ _ (fun b o n e => hG b o n (sa b o e)) hL4 (Rep.tab hG (sa _ _ hP) _ _ ?_)
      unfold nearD nearO nearN
      rw [hS, <- ep _ (by omega), <- ei]
      rw [hS] at e2
      exact e2
def kvL (v : Nat -> Int) (o i : Nat) (rs : List Nat) : List (Key × V) := rs.map fun r => (Sum.inl ((r : Nat) : Int), V.int (setTo v o i r))
theorem kvL_val (v : Nat -> Int) (o i r : Nat) : ∀ rs : List Nat, valV (kvL v o i rs) (.inl ((r : Nat) : Int)) = if r ∈ rs then some (.int (setTo v o i r)) else none
  | [] => rfl
  | x :: rs => by
    have ih := kvL_val v o i r rs
    by_cases e : x = r
    . subst e
      rw [if_pos List.mem_cons_self]
      exact valV_pos rfl
    . have h1 : ¬ (Sum.inl ((x : Nat) : Int) : Key) = .inl ((r : Nat) : Int) := fun z => e (by have := Sum.inl.inj z; omega)
      show valV ((Sum.inl ((x : Nat) : Int), V.int (setTo v o i x)) :: kvL v o i rs) _ = _
      rw [valV_neg h1, ih]
      by_cases hm : r ∈ rs
      . rw [if_pos hm, if_pos (List.mem_cons_of_mem _ hm)]
      . rw [if_neg hm, if_neg (fun z => (List.mem_cons.mp z).elim (fun z => e z.symm) hm)]
theorem setTo_succ (v : Nat -> Int) (o i r : Nat) : setTo v o (i + 1) r = setTo v o i r + (if i &&& o = r then v i else 0) := rfl
theorem setTo_none {v : Nat -> Int} {o r : Nat} : ∀ {i : Nat}, (∀ p, p < i -> p &&& o ≠ r) -> setTo v o i r = 0
  | 0, _ => rfl
  | i + 1, h => by
    rw [setTo_succ, setTo_none fun p hp => h p (by omega), if_neg (h i (by omega))]
    rfl
structure RsAt (o i : Nat) (rs : List Nat) : Prop where
  nd : rs.Nodup
  has : ∀ p, p < i -> (p &&& o) ∈ rs
  only : ∀ r ∈ rs, ∃ p, p < i /\ p &&& o = r
  len : rs.length <= i
theorem RsAt.put {v : Nat -> Int} {o i : Nat} {rs : List Nat} (R : RsAt o i rs) : ∃ rs', RsAt o (i + 1) rs' /\ putK (kvL v o i rs) (.inl ((i &&& o : Nat) : Int)) (.int (setTo v o i (i &&& o) + v i)) = kvL v o (i + 1) rs' := by
  have hv := kvL_val v o i (i &&& o) rs
  by_cases hm : (i &&& o) ∈ rs
  . refine ⟨rs, ⟨R.nd, fun p hp => ?_, fun r hr => ?_, Nat.le_succ_of_le R.len⟩, ?_⟩
    . by_cases e : p = i
      . subst e; exact hm
      . exact R.has p (by omega)
    . obtain ⟨p, h1, h2⟩ := R.only r hr
      exact ⟨p, by omega, h2⟩
    . unfold putK
      rw [if_pos (by rw [valV_any, hv, if_pos hm]; rfl)]
      unfold kvL
      rw [List.map_map]
      refine List.map_congr_left fun r hr => ?_
      show (if (Sum.inl ((r : Nat) : Int) : Key) = .inl ((i &&& o : Nat) : Int) then _ else _) = _
      by_cases e : r = i &&& o
      . subst e
        rw [if_pos rfl, setTo_succ, if_pos rfl]
      . rw [if_neg (fun z => e (by have := Sum.inl.inj z; omega)), setTo_succ, if_neg (Ne.symm e), Int.add_zero]
  . refine ⟨rs ++ [i &&& o], ⟨?_, fun p hp => ?_, fun r hr => ?_, by rw [List.length_append]; exact Nat.succ_le_succ R.len⟩, ?_⟩
    . rw [List.nodup_append]
      refine ⟨R.nd, by simp, fun a ha b hb => ?_⟩
      rw [List.mem_singleton.mp hb]
      exact fun z => hm (z ▸ ha)
    . by_cases e : p = i
      . subst e; exact List.mem_append_right _ List.mem_cons_self
      . exact List.mem_append_left _ (R.has p (by omega))
    . rcases List.mem_append.mp hr with hr | hr
      . obtain ⟨p, h1, h2⟩ := R.only r hr
        exact ⟨p, by omega, h2⟩
      . exact ⟨i, by omega, (List.mem_singleton.mp hr).symm⟩
    . rw [putK_new _ (by rw [hv, if_neg hm])]
      unfold kvL
      rw [List.map_append]
      congr 1
      . refine List.map_congr_left fun r hr => ?_
        have hn : ¬ i &&& o = r := fun z => hm (by rw [z]; exact hr)
        rw [setTo_succ, if_neg hn, Int.add_zero]
      . show [_] = [(Sum.inl ((i &&& o : Nat) : Int), V.int (setTo v o (i + 1) (i &&& o)))]
        rw [setTo_succ, if_pos rfl]
theorem sum_one {x : Nat} {y : Int} : ∀ {rs : List Nat}, rs.Nodup -> x ∈ rs -> (rs.map fun r => if x = r then y else 0).sum = y
  | [], _, h => nomatch h
  | r :: rs, nd, h => by
    rw [List.map_cons, List.sum_cons]
    obtain ⟨n1, n2⟩ := List.nodup_cons.mp nd
    by_cases e : x = r
    . subst e
      rw [if_pos rfl]
      have z : ∀ ts : List Nat, x ∉ ts -> (ts.map fun r => if x = r then y else 0).sum = 0 := fun ts => by
        induction ts with
        | nil => intro _; rfl
        | cons t ts ih =>
          intro hn
          have hx : ¬ x = t := fun z => hn (by rw [z]; exact List.mem_cons_self)
          rw [List.map_cons, List.sum_cons, if_neg hx, ih fun z => hn (List.mem_cons_of_mem _ z)]
          rfl
      rw [z rs n1, Int.add_zero]
    . rw [if_neg e, sum_one n2 ((List.mem_cons.mp h).resolve_left e), Int.zero_add]
theorem sum_add (f g : Nat -> Int) : ∀ rs : List Nat, (rs.map fun r => f r + g r).sum = (rs.map f).sum + (rs.map g).sum
  | [] => rfl
  | r :: rs => by
    rw [List.map_cons, List.sum_cons, List.map_cons, List.sum_cons, List.map_cons, List.sum_cons, sum_add f g rs]
    omega
theorem sum_by {v g : Nat -> Int} {o : Nat} {rs : List Nat} (nd : rs.Nodup) : ∀ {n : Nat}, (∀ p, p < n -> (p &&& o) ∈ rs) -> (rs.map fun r => g r * setTo v o n r).sum = sumTo (fun p => g (p &&& o) * v p) n
  | 0, _ => by
    have : ∀ ts : List Nat, (ts.map fun r => g r * setTo v o 0 r).sum = 0 := fun ts => by
      induction ts with
      | nil => rfl
      | cons t ts ih =>
        rw [List.map_cons, List.sum_cons, ih]
        show g t * 0 + 0 = 0
        rw [Int.mul_zero]; rfl
    exact this rs
  | n + 1, h => by
    have ih := sum_by (v := v) (g := g) (o := o) nd (n := n) fun p hp => h p (by omega)
    show _ = sumTo (fun p => g (p &&& o) * v p) n + g (n &&& o) * v n
    rw [<- ih, <- sum_one (y := g (n &&& o) * v n) nd (h n (by omega)), <- sum_add]
    congr 1
    refine List.map_congr_left fun r _ => ?_
    rw [setTo_succ, Int.mul_add]
    by_cases e : n &&& o = r
    . rw [if_pos e, if_pos e, e]
    . rw [if_neg e, if_neg e, Int.mul_zero]
theorem dif_sum (as bs : List Bool) : ∀ n, sumTo (fun p => valF as p * valF bs p) n = (n : Int) - 2 * ((difL as bs n).length : Nat)
  | 0 => rfl
  | n + 1 => by
    show sumTo (fun p => valF as p * valF bs p) n + valF as n * valF bs n = _
    rw [dif_sum as bs n, difL_succ, List.length_append]
    have e : valF as n * valF bs n = if (gB as n != gB bs n) = true then -1 else 1 := by
      have h1 : valF as n = if gB as n = true then -1 else 1 := rfl
      have h2 : valF bs n = if gB bs n = true then -1 else 1 := rfl
      rw [h1, h2]
      cases gB as n <;> cases gB bs n <;> rfl
    rw [e]
    split
    . simp; omega
    . simp; omega
theorem abs_sum {m o : Nat} {bs : List Bool} {rs : List Nat} (ho : o < 2 ^ m) (R : RsAt o (2 ^ m) rs) : (rs.map fun r => (((setTo (valF bs) o (2 ^ m) r).natAbs : Nat) : Int)).sum = ((2 ^ m : Nat) : Int) - 2 * (distO m bs o : Nat) := by
  have h1 : (rs.map fun r => (((setTo (valF bs) o (2 ^ m) r).natAbs : Nat) : Int)) = rs.map fun r => (if setTo (valF bs) o (2 ^ m) r < 0 then -1 else 1) * setTo (valF bs) o (2 ^ m) r := by
    refine List.map_congr_left fun r _ => ?_
    split <;> omega
  rw [h1, sum_by (g := fun r => if setTo (valF bs) o (2 ^ m) r < 0 then -1 else 1) R.nd R.has]
  unfold distO
  rw [<- dif_sum]
  refine sumTo_congr fun p hp => ?_
  have h2 : valF (bestB m (wt m (valF bs)) o) p = if gB (bestB m (wt m (valF bs)) o) p = true then -1 else 1 := rfl
  have h3 : gB (bestB m (wt m (valF bs)) o) p = decide (setTo (valF bs) o (2 ^ m) (p &&& o) < 0) := by
    rw [best_set ho]
    unfold gB
    simp [List.getD_eq_getElem?_getD, hp]
  rw [h2, h3]
  simp only [decide_eq_true_eq]
def coverD (s : Nat) : Dv := .tup [.int s, .str "whole"]
def paperD (m k : Nat) (bs : List Bool) : Dv := .tup [.tup ((bestB m (wt m (valF bs)) (nearO m k bs (nearN m k))).map Dv.bl), .tup ((setL m (min m k) (2 ^ m)).map coverD)]
def sp_npaper (K : W.Frag) (Pt : Addr) : Sp := fun vs H Q _ => match vs with
  | [v, .int z] => ∃ (m k : Nat) (bs : List Bool), SumAt K H v m (termG (wt m (valF bs)) (2 ^ m)) /\ m <= 6 /\ bs.length = 2 ^ m /\ z = k /\ Lam Pt lamP_nearest lamQ_nearest H /\
      ∀ u H', Grow Pt H H' -> Lam Pt lamP_nearest lamQ_nearest H' -> Rep K H' (paperD m k bs) u -> Q u H'
  | _ => False
theorem sp_npaper_mono {Pt : Addr} : SpMono (sp_npaper K Pt) := fun vs H Q Q' E h q => by
  unfold sp_npaper at *
  split at q
  . revert q; repeat' first | exact h _ _ | exact newL_mono h | exact out_mono h | exact outT_mono h | walk_at "m"
  . exact q.elim
theorem best_tab {K : W.Frag} {H : Hp} {as bs : List Bool} {m : Nat} {u : V} (h : Rep K H (bestD as bs m) u) : ∃ a x y, u = .ref a /\ SqT K H a [x, y] /\ Rep K H (.tup (as.map Dv.bl)) x := by
  unfold bestD at h
  obtain ⟨a, xs, e, h1, h2⟩ := rep_tup_inv h
  have hl := h2.length
  match xs, hl with
  | [x, y], _ =>
    obtain ⟨z, e1, e2⟩ := h2.get (i := 0) (d := .tup (as.map Dv.bl)) rfl
    cases e1
    exact ⟨a, x, y, e, h1, e2⟩
theorem sum_n {K : W.Frag} {H : Hp} {v : V} {m : Nat} {ts : List (Nat × Int)} (S : SumAt K H v m ts) : ∃ a vs, v = .ref a /\ SqT K H a vs /\ atI vs 0 = some (.int (m : Int)) := by
  obtain ⟨a, vs, ev, hv1, hv2⟩ := rep_tup_inv S.rep
  obtain ⟨x, e1, e2⟩ := hv2.get (i := 0) (d := .int (m : Int)) rfl
  unfold Rep at e2
  subst e2
  exact ⟨a, vs, ev, hv1, atI_of rfl e1⟩
theorem ok_near_paper (B : BMn mg base) : FnOk P w K mg base CX0 7 T.f_near_paper T.d_near_paper ["one", "k"] (sp_npaper K T.p_nearest) := by
  have G_sets_of := ok_sets_of (P := P) (w := w) (base := base) T; have G_nearest := ok_nearest (P := P) (w := w) (base := base) T B
  refine T.F_near_paper.ok sc_near_paper (fun vs H Q E h => by unfold sp_npaper at h; split at h <;> first | rfl | exact h.elim) (fun cdv A outer s H vs Q E hr h => ?_)
  have hu := hu60 hr
  have hr_sets_of := hr.mono (show 3 <= _ by decide); have hr_nearest := hr.mono (show 6 <= _ by decide)
  unfold sp_npaper at h
  split at h
  rotate_left
  . exact h.elim
  rename_i v z
  obtain ⟨m, k, bs, S, m6, hb, e1, hL, q⟩ := h
  subst e1
  have h64 : 2 ^ m <= 64 := Nat.pow_le_pow_right (n := 2) (by decide) m6
  have hsl := setL_len m (min m k) (2 ^ m)
  refine ⟨_, (@pss_cons _ _ _ _ _ (@ps_compB _ _ _ _ _ _ _ ["subset"] 1 [] _ _ _ _ 2 _ _ _ rfl sc_near_paper.nd rfl rfl (@kSeq _ K _ _ _ (@pe_call _ _ _ _ _ _ _ _ _ _ _ _ _ _ _ _ G_sets_of hr_sets_of rfl T.m_sets_of T.F_sets_of.kp T.b_sets_of .nil pass0 (@pa_cons _ _ _ _ _ (@kIx _ K _ _ _ _ _ (@vw _ 0 _ _ (by walk_at "v")) (@pe_int _ _ _ _) (by intro _ _; rfl) (by rfl)) (@pa1 _ _ _ (@vw _ 1 _ _ (by walk_at "v")) (by rfl)) (by rfl)) (by decide) (by rfl) (by rfl)) (by rfl)) (by kernel_rfl) rfl rfl (by kernel_rfl) (fun c => @pg_name _ _ 0 _ (show (["subset"] : List Str).Nodup by decide +kernel) rfl (by walk_at "e") (by walk_at "i")) (go_name (by decide)) (fun c => @pts_nil _) (fun c => (@pe_tup _ _ _ _ _ (@pa_cons _ _ _ _ _ (@vw _ 0 _ _ (by walk_at "v")) (@pa1 _ _ _ (@pe_str _ _ _ _) (by rfl)) (by rfl)))) (by rfl) (by intro _; rfl)) (@pss_one _ _ _ (@ps_ret _ _ _ _ (@pe_tup _ _ _ _ _ (@pa_cons _ _ _ _ _ (@kIx _ K _ _ _ _ _ (@pe_call _ _ _ _ _ _ _ _ _ _ _ _ _ _ _ _ G_nearest hr_nearest rfl T.m_nearest T.F_nearest.kp T.b_nearest .nil pass0 (@pa_cons _ _ _ _ _ (@vw _ 0 _ _ (by walk_at "v")) (@pa1 _ _ _ (@vw _ 1 _ _ (by walk_at "v")) (by rfl)) (by rfl)) (by decide) (by rfl) (by rfl)) (@pe_int _ _ _ _) (by intro _ _; rfl) (by rfl)) (@pa1 _ _ _ (@pe_callTy _ _ _ _ _ _ _ _ _ (kTuple (K := K)) rfl T.z_tuple (by rfl) (@pa1 _ _ _ (@vw _ 2 _ _ (by walk_at "v")) (by rfl)) (by decide) (by decide) (by rfl) (by rfl)) (by rfl)) (by rfl)))))), ?_⟩
  generalize T.p_nearest = Pt at *
  obtain ⟨a, vs, ev, hv1, ha⟩ := sum_n S
  subst ev
  refine ⟨_, _, .inr hv1, ha, m, k, rfl, rfl, m6, fun l H1 hl s1 g1 => .inl ⟨⟨_, .of g1⟩, ?_⟩⟩
  refine comp_list (xs := iL (setL m (min m k) (2 ^ m))) (fun i ys H' => Same H1 H' /\ Reps K H' (((setL m (min m k) (2 ^ m)).take i).map coverD) ys) ⟨Same.refl _, reps_nil⟩ (fun i ys H' _ ⟨s, _⟩ => .of (s _ _ g1)) (fun i ys H' hi ⟨_, e⟩ => by
    rw [iL_len] at hi
    have := e.length
    rw [List.length_map, List.length_take] at this
    exact small1000 (by omega)) ?_ ?_
  . rintro i x ys H' hx ⟨s2, hY⟩
    obtain ⟨o, ho, _, rfl⟩ := iL_at hx
    refine ⟨small_le (show 2 <= 1000 by decide), fun p hp => ⟨s2.trans (Same.upd hp), ?_⟩⟩
    rw [List.take_add_one, ho, List.map_append]
    exact (Reps.same (Same.upd hp) _ _ hY).append (reps_cons (rep_tup1 upd_same (reps_cons rep_int (reps_cons rep_str reps_nil))) reps_nil)
  . rintro ys H2 ⟨s2, hY⟩ lp hlp
    rw [iL_len, List.take_length] at hY
    have s3 := Same.upd (o := .lst ys) hlp
    have hY3 := Reps.same s3 _ _ hY
    have g3 := upd_same (H := H2) (a := lp) (o := .lst ys)
    have sa := s1.trans (s2.trans s3)
    generalize upd H2 lp (.lst ys) = H3 at *
    dsimp only [gName]
    have L3 := hL.same sa
    obtain ⟨ps, hP, _⟩ := id L3
    refine ⟨m, k, bs, S.same sa, m6, hb, rfl, L3, fun u H4 G4 L4 r4 => ?_⟩
    obtain ⟨b, x, y, rfl, hb1, hb2⟩ := best_tab r4
    refine ⟨_, _, .inr hb1, atI_of (n := 0) rfl rfl, _, .inl ⟨sqL_tab G4 hP (.of g3), fun p hp => ⟨small_le (show 2 <= 1000 by decide), fun p2 hp2 => ?_⟩⟩⟩
    have s5 := (Same.upd (o := .tup ys) hp).trans (Same.upd (o := .tup [x, .ref p]) hp2)
    refine q _ _ ((Grow.same sa).trans (G4.trans (.same s5))) (L4.same s5) ?_
    unfold paperD
    refine rep_tup1 upd_same (reps_cons (Rep.same s5 _ _ hb2) (reps_cons (rep_tup1 (Same.upd hp2 _ _ upd_same) ?_) reps_nil))
    exact Reps.same s5 _ _ (Reps.tab G4 hP _ _ hY3)
theorem rs_has (o : Nat) : ∀ i, ∃ rs, RsAt o i rs
  | 0 => ⟨[], List.nodup_nil, fun p hp => absurd hp (Nat.not_lt_zero _), fun r hr => (nomatch hr), Nat.le_refl _⟩
  | i + 1 => by
    obtain ⟨rs, R⟩ := rs_has o i
    obtain ⟨rs', R', _⟩ := R.put (v := fun _ => 0)
    exact ⟨rs', R'⟩
theorem dist_half {m o : Nat} {bs : List Bool} (ho : o < 2 ^ m) : (0 : Int) <= ((2 ^ m : Nat) : Int) - 2 * (distO m bs o : Nat) := by
  obtain ⟨rs, R⟩ := rs_has o (2 ^ m)
  rw [<- abs_sum (bs := bs) ho R]
  have : ∀ ts : List Nat, (0 : Int) <= (ts.map fun r => (((setTo (valF bs) o (2 ^ m) r).natAbs : Nat) : Int)).sum := fun ts => by
    induction ts with
    | nil => exact Int.le_refl _
    | cons t ts ih =>
      rw [List.map_cons, List.sum_cons]
      omega
  exact this rs
theorem near_in (m k : Nat) (bs : List Bool) : nearO m k bs (nearN m k) ∈ setL m (min m k) (2 ^ m) := by
  have hne := setL_ne m k
  have hl := pickI_le (nearG m k bs) (nearN m k)
  unfold nearO
  unfold nearN at *
  have hlt : pickI (nearG m k bs) ((setL m (min m k) (2 ^ m)).length - 1) < (setL m (min m k) (2 ^ m)).length := by omega
  rw [List.getD_eq_getElem?_getD, List.getElem?_eq_getElem hlt]
  exact List.getElem_mem hlt
theorem near_least {m k s : Nat} {bs : List Bool} (h : s ∈ setL m (min m k) (2 ^ m)) : distO m bs (nearO m k bs (nearN m k)) <= distO m bs s := by
  obtain ⟨j, hj, e⟩ := List.getElem_of_mem h
  have := (pickI_min (nearG m k bs) (nearN m k) j (by unfold nearN; omega)).1
  unfold nearG at this
  have e2 : (setL m (min m k) (2 ^ m)).getD j 0 = s := by rw [List.getD_eq_getElem?_getD, List.getElem?_eq_getElem hj, e]; rfl
  rw [e2] at this
  unfold nearO
  unfold nearG
  omega
theorem manyF_sub : ∀ (m x y : Nat), (∀ j, x.testBit j = true -> y.testBit j = true) -> manyF m x <= manyF m y
  | 0, _, _, _ => Nat.le_refl _
  | m + 1, x, y, h => by
    have ih := manyF_sub m (x / 2) (y / 2) fun j hj => by
      rw [<- Nat.testBit_succ] at hj ⊢
      exact h (j + 1) hj
    have h0 := h 0
    rw [Nat.testBit_zero, Nat.testBit_zero, decide_eq_true_eq, decide_eq_true_eq] at h0
    show x % 2 + manyF m (x / 2) <= y % 2 + manyF m (y / 2)
    omega
theorem xor_and_off {p o i : Nat} (h : o.testBit i = false) : (p ^^^ 2 ^ i) &&& o = p &&& o := by
  refine Nat.eq_of_testBit_eq fun j => ?_
  rw [Nat.testBit_and, Nat.testBit_and, Nat.testBit_xor, Nat.testBit_two_pow]
  by_cases e : i = j
  . subst e; rw [h, Bool.and_false, Bool.and_false]
  . rw [decide_eq_false e, Bool.xor_false]
theorem best_off {m o i : Nat} {bs : List Bool} (ho : o < 2 ^ m) (hi : i < m) (h : o.testBit i = false) : cntS (bestB m (wt m (valF bs)) o) m i = 0 := by
  have hg : ∀ p, p < 2 ^ m -> gB (bestB m (wt m (valF bs)) o) p = decide (setTo (valF bs) o (2 ^ m) (p &&& o) < 0) := fun p hp => by
    rw [best_set ho]
    unfold gB
    simp [List.getD_eq_getElem?_getD, hp]
  unfold cntS matL
  rw [List.length_eq_zero_iff, List.filter_eq_nil_iff]
  intro p hp
  have hp' := List.mem_range.mp hp
  have hx : p ^^^ 2 ^ i < 2 ^ m := Nat.xor_lt_two_pow hp' (Nat.pow_lt_pow_right (by decide) hi)
  unfold matF
  rw [hg p hp', hg _ hx, xor_and_off h]
  simp
theorem hung_few {m o : Nat} {bs : List Bool} (ho : o < 2 ^ m) : manyF m (hungTo (cntS (bestB m (wt m (valF bs)) o) m) m) <= manyF m o := by
  refine manyF_sub m _ _ fun j hj => ?_
  rw [hungTo_bit, Bool.and_eq_true, decide_eq_true_eq, decide_eq_true_eq] at hj
  cases e : o.testBit j with
  | true => rfl
  | false =>
    have := best_off (bs := bs) ho hj.1 e
    omega
theorem setL_many {m k n x : Nat} (h : x ∈ setL m k n) : manyF m x = k := by
  unfold setL at h
  exact of_decide_eq_true (List.mem_filter.mp h).2
theorem if_same {c : TT} {t u : TS} {D : Ends} {σ : St} {H : Hp} (b : Bool) (hc : ∀ Q : Bool -> Hp -> Prop, (∀ H', Same H H' -> Q b H') -> c σ H Q) (h : ∀ H', Same H H' -> if b = true then t D σ H' else u D σ H') : tIfS c t u D σ H := hc _ h
theorem reps_blI {K : W.Frag} {H : Hp} : ∀ (cs : List Bool) (zs : List V), Reps K H (cs.map Dv.bl) zs -> zs = cs.map V.bl
  | [], zs, h => by rw [List.map_nil] at h; unfold Reps at h; exact h
  | c :: cs, zs, h => by
    rw [List.map_cons] at h
    unfold Reps at h
    obtain ⟨z, r, e, h1, h2⟩ := h
    unfold Rep at h1
    rw [e, h1, reps_blI cs r h2]
    rfl
def covD (c : Nat × Str) : Dv := .tup [.int c.1, .str c.2]
def papD (nb : List Bool) (cs : List (Nat × Str)) : Dv := .tup [.tup (nb.map Dv.bl), .tup (cs.map covD)]
theorem cov_at {K : W.Frag} {H : Hp} {cs : List (Nat × Str)} {ys : List V} {i : Nat} {y : V} (h : Reps K H (cs.map covD) ys) (hy : ys[i]? = some y) : ∃ (b : Addr) (c : Nat × Str), cs[i]? = some c /\ y = .ref b /\ SqT K H b [.int (c.1 : Int), .str c.2] := by
  have hl := h.length
  rw [List.length_map] at hl
  have hi : i < cs.length := by rw [hl]; exact (List.getElem?_eq_some_iff.mp hy).1
  obtain ⟨y', e1, r1⟩ := h.get (i := i) (d := covD cs[i]) (by rw [List.getElem?_map, List.getElem?_eq_getElem hi]; rfl)
  rw [hy] at e1; cases e1
  unfold covD at r1
  obtain ⟨b, zs, e2, h1, h2⟩ := rep_tup_inv r1
  unfold Reps at h2
  obtain ⟨z, r, e3, h3, h4⟩ := h2
  unfold Reps at h4
  obtain ⟨z2, r2, e4, h5, h6⟩ := h4
  unfold Reps at h6
  unfold Rep at h3 h5
  subst h6 e4 e3 h3 h5
  exact ⟨b, _, List.getElem?_eq_getElem hi, e2, h1⟩
def coversB (m k : Nat) (cs : List (Nat × Str)) : Bool := (setL m (min m k) (2 ^ m)).all fun s => cs.any fun c => decide (s &&& c.1 = s)
def sp_covers (K : W.Frag) : Sp := fun vs H Q _ => match vs with
  | [.int x, .int z, .ref ay] => ∃ (m k : Nat) (cs : List (Nat × Str)) (ys : List V), x = m /\ z = k /\ m <= 6 /\ SqT K H ay ys /\ Reps K H (cs.map covD) ys /\ cs.length <= 64 /\ ∀ H', Same H H' -> Q (.bl (coversB m k cs)) H'
  | _ => False
theorem sp_covers_mono : SpMono (sp_covers K) := fun vs H Q Q' E h q => by
  unfold sp_covers at *
  split at q
  . revert q; repeat' first | exact h _ _ | exact newL_mono h | exact out_mono h | exact outT_mono h | walk_at "m"
  . exact q.elim
theorem ok_covers_all : FnOk P w K mg base CX0 4 T.f_covers_all T.d_covers_all ["n", "k", "covers"] (sp_covers K) := by
  have G_sets_of := ok_sets_of (P := P) (w := w) (base := base) T; have G_within := ok_within (P := P) (w := w) (base := base) T
  refine T.F_covers_all.ok sc_covers_all (fun vs H Q E h => by unfold sp_covers at h; split at h <;> first | rfl | exact h.elim) (fun cdv A outer s H vs Q E hr h => ?_)
  have hu := hu60 hr
  have hr_sets_of := hr.mono (show 3 <= _ by decide); have hr_within := hr.mono (show 1 <= _ by decide)
  unfold sp_covers at h
  split at h
  rotate_left
  . exact h.elim
  rename_i x z ay
  obtain ⟨m, k, cs, ys, e1, e2, m6, hay, hR, hcl, q⟩ := h
  subst e1 e2
  have h64 : 2 ^ m <= 64 := Nat.pow_le_pow_right (n := 2) (by decide) m6
  have hyl := hR.length
  rw [List.length_map] at hyl
  have hsl := setL_len m (min m k) (2 ^ m)
  unfold coversB at q
  refine ⟨_, (@pss_one _ _ _ (@ps_ret _ _ _ _ (@pe_callB _ _ _ _ _ _ _ _ _ (kAll (K := K) rfl) rfl T.z_all (by rfl) (@pa1 _ _ _ (@pe_compB _ _ _ _ _ _ _ (["subset", "covers"]) 1 [2] _ _ _ _ rfl (@kSeq _ K _ _ _ (@pe_call _ _ _ _ _ _ _ _ _ _ _ _ _ _ _ _ G_sets_of hr_sets_of rfl T.m_sets_of T.F_sets_of.kp T.b_sets_of .nil pass0 (@pa_cons _ _ _ _ _ (@vw _ 0 _ _ (by walk_at "v")) (@pa1 _ _ _ (@vw _ 1 _ _ (by walk_at "v")) (by rfl)) (by rfl)) (by decide) (by rfl) (by rfl)) (by rfl)) (by kernel_rfl) rfl rfl (by kernel_rfl) (fun c => @pg_name _ _ 0 _ (show (["subset", "covers"] : List Str).Nodup by decide +kernel) rfl (by walk_at "e") (by walk_at "i")) (go_name (by decide)) (fun c => @pts_nil _) (fun c => (@pe_callB _ _ _ _ _ _ _ _ _ (kAny (K := K) rfl) rfl T.z_any (by rfl) (@pa1 _ _ _ (@pe_compB _ _ _ _ _ _ _ (["cover", "subset"]) 1 [0] _ _ _ _ rfl (@kSeq _ K _ _ _ (@vw _ 1 _ _ (by walk_at "v")) (by rfl)) (by kernel_rfl) rfl rfl (by kernel_rfl) (fun c => @pg_name _ _ 0 _ (show (["cover", "subset"] : List Str).Nodup by decide +kernel) rfl (by walk_at "e") (by walk_at "i")) (go_name (by decide)) (fun c => @pts_nil _) (fun c => (@pe_call _ _ _ _ _ _ _ _ _ _ _ _ _ _ _ _ G_within hr_within rfl T.m_within T.F_within.kp T.b_within .nil pass0 (@pa_cons _ _ _ _ _ (@vw _ 1 _ _ (by walk_at "v")) (@pa1 _ _ _ (@kIx _ K _ _ _ _ _ (@vw _ 0 _ _ (by walk_at "v")) (@pe_int _ _ _ _) (by intro _ _; rfl) (by rfl)) (by rfl)) (by rfl)) (by decide) (by rfl) (by rfl))) (by intro _; rfl)) (by rfl)) (by decide) (by decide) (by rfl) (by rfl))) (by intro _; rfl)) (by rfl)) (by decide) (by decide) (by rfl) (by rfl)))), ?_⟩
  refine ⟨m, k, rfl, rfl, m6, fun l H1 hl s1 g1 => .inl ⟨⟨_, .of g1⟩, ?_⟩⟩
  generalize setL m (min m k) (2 ^ m) = ss at *
  refine comp_list (xs := iL ss) (fun i zs H' => Same H1 H' /\ zs = ((ss.take i).map fun s => cs.any fun c => decide (s &&& c.1 = s)).map V.bl) ⟨Same.refl _, rfl⟩ (fun i zs H' _ ⟨s, _⟩ => s.sqL (.of g1)) (fun i zs H' hi ⟨_, e⟩ => by
    rw [iL_len] at hi
    rw [e, List.length_map, List.length_map, List.length_take]; exact small1000 (by omega)) ?_ ?_
  . rintro i y zs H2 hy ⟨s2, rfl⟩
    obtain ⟨c, hc, _, rfl⟩ := iL_at hy
    have s12 := s1.trans s2
    refine .inr ⟨⟨_, s12.sqT hay⟩, ?_⟩
    refine comp_tup (xs := ys) (fun j us H' => H' = H2 /\ us = ((cs.take j).map fun d => decide (c &&& d.1 = c)).map V.bl) ⟨rfl, rfl⟩ (fun j us H' _ ⟨e, _⟩ => by rw [e]; exact s12.sqT hay) (fun j us H' hj ⟨_, e⟩ => by
      rw [e, List.length_map, List.length_map, List.length_take]; exact small1000 (by omega)) ?_ ?_
    . rintro j y us H' hy ⟨rfl, rfl⟩
      obtain ⟨b, d, hd, rfl, hb1⟩ := cov_at hR hy
      refine ⟨_, _, .inr (s12.sqT hb1), atI_of (n := 0) rfl rfl, c, d.1, rfl, rfl, rfl, ?_⟩
      rw [List.take_add_one, hd, List.map_append, List.map_append]
      rfl
    . rintro us H' ⟨rfl, rfl⟩ lp hlp
      rw [<- hyl, List.take_length]
      refine ⟨_, .of upd_same, s2.trans (Same.upd hlp), ?_⟩
      rw [List.take_add_one, hc, List.map_append, List.map_append, List.any_map]
      rfl
  . rintro zs H2 ⟨s2, rfl⟩ lp hlp
    rw [iL_len, List.take_length]
    refine ⟨_, .of upd_same, ?_⟩
    rw [List.all_map]
    exact q _ (s1.trans (s2.trans (Same.upd hlp)))
def absL (g : Nat -> Int) (o : Nat) : Nat -> List Int
  | 0 => []
  | n + 1 => absL g o n ++ (if n &&& o = n then [(((g n).natAbs : Nat) : Int)] else [])
theorem absL_len (g : Nat -> Int) (o : Nat) : ∀ n, (absL g o n).length <= n
  | 0 => Nat.le_refl _
  | n + 1 => by
    have := absL_len g o n
    show (absL g o n ++ _).length <= n + 1
    rw [List.length_append]
    split <;> simp <;> omega
def sp_sbs (K : W.Frag) : Sp := fun vs H Q _ => match vs with
  | [.ref p, .int z] => ∃ (m o : Nat) (g : Nat -> Int), SqL K H p (ixL g (2 ^ m)) /\ z = o /\ m <= 6 /\ ∀ H', Same H H' -> Q (.int (absL (wt m g) o (2 ^ m)).sum) H'
  | _ => False
theorem sp_sbs_mono : SpMono (sp_sbs K) := fun vs H Q Q' E h q => by
  unfold sp_sbs at *
  split at q
  . revert q; repeat' first | exact h _ _ | exact newL_mono h | exact out_mono h | exact outT_mono h | walk_at "m"
  . exact q.elim
theorem ok_setting_by_setting : FnOk P w K mg base CX0 3 T.f_setting_by_setting T.d_setting_by_setting ["weights", "switches"] (sp_sbs K) := by
  have G_within := ok_within (P := P) (w := w) (base := base) T; have G_times_signs := ok_times_signs (P := P) (w := w) (base := base) T
  refine T.F_setting_by_setting.ok sc_setting_by_setting (fun vs H Q E h => by unfold sp_sbs at h; split at h <;> first | rfl | exact h.elim) (fun cdv A outer s H vs Q E hr h => ?_)
  have hu := hu60 hr
  have hr_within := hr.mono (show 1 <= _ by decide); have hr_times_signs := hr.mono (show 2 <= _ by decide)
  unfold sp_sbs at h
  split at h
  rotate_left
  . exact h.elim
  rename_i p z
  obtain ⟨m, o, g, hp, e1, m6, q⟩ := h
  subst e1
  have h64 : 2 ^ m <= 64 := Nat.pow_le_pow_right (n := 2) (by decide) m6
  refine ⟨_, (@pss_one _ _ _ (@ps_ret _ _ _ _ (@pe_callB _ _ _ _ _ _ _ _ _ (kSum (K := K) rfl) rfl T.z_sum (by rfl) (@pa1 _ _ _ (@pe_compB _ _ _ _ _ _ _ (["setting", "top", "switches"]) 2 [1] _ _ _ _ rfl (@kEnum _ K _ _ _ _ _ _ _ rfl T.z_enumerate (@pa1 _ _ _ (@pe_call _ _ _ _ _ _ _ _ _ _ _ _ _ _ _ _ G_times_signs hr_times_signs rfl T.m_times_signs T.F_times_signs.kp T.b_times_signs .nil pass0 (@pa1 _ _ _ (@vw _ 0 _ _ (by walk_at "v")) (by rfl)) (by decide) (by rfl) (by rfl)) (by rfl)) (by rfl) (by rfl)) (by kernel_rfl) rfl rfl (by kernel_rfl) (fun c => @kTup _ K _ _ _ _ 2 rfl (@pgs_cons _ _ _ _ _ (@pg_name _ _ 0 _ (show (["setting", "top", "switches"] : List Str).Nodup by decide +kernel) rfl (by walk_at "e") (by walk_at "i")) (@pgs_cons _ _ _ _ _ (@pg_name _ _ 1 _ (show (["setting", "top", "switches"] : List Str).Nodup by decide +kernel) rfl (by walk_at "e") (by walk_at "i")) (@pgs_nil _) (by rfl)) (by rfl)) (by rfl) (by rfl) (by rfl)) (go_tup (gos_cons gm_name (gms_cons gm_name gms_nil) (go_name (by decide)) (gos_cons gm_name gms_nil (go_name (by decide)) gos_nil))) (fun c => @pts_one _ _ _ (@tu_val _ _ _ (@pe_call _ _ _ _ _ _ _ _ _ _ _ _ _ _ _ _ G_within hr_within rfl T.m_within T.F_within.kp T.b_within .nil pass0 (@pa_cons _ _ _ _ _ (@vw _ 0 _ _ (by walk_at "v")) (@pa1 _ _ _ (@vw _ 2 _ _ (by walk_at "v")) (by rfl)) (by rfl)) (by decide) (by rfl) (by rfl)) (by intro _; rfl))) (fun c => (@pe_callB _ _ _ _ _ _ _ _ _ cm_abs rfl T.z_abs (by rfl) (@pa1 _ _ _ (@vw _ 1 _ _ (by walk_at "v")) (by rfl)) (by decide) (by decide) (by rfl) (by rfl))) (by intro _; rfl)) (by rfl)) (by decide) (by decide) (by rfl) (by rfl)))), ?_⟩
  refine ⟨g, m, hp, m6, fun l H1 hl s1 g1 => ⟨⟨_, .of g1⟩, ?_⟩⟩
  have et : ixL (hadF g m) (2 ^ m) = ixL (wt m g) (2 ^ m) := ixL_congr fun k hk => had_wt hk
  rw [et] at g1
  generalize wt m g = G at *
  refine comp_enum (xs := ixL G (2 ^ m)) (fun i zs H' => Same H1 H' /\ zs = (absL G o i).map V.int) ⟨Same.refl _, rfl⟩ (fun i zs H' _ ⟨s, _⟩ => s.sqL (.of g1)) (fun i zs H' hi ⟨_, e⟩ => by
    rw [ixL_len] at hi
    have := absL_len G o i
    rw [e, List.length_map]; exact small1000 (by omega)) ?_ ?_
  . rintro i x zs H2 pp hx ⟨s2, rfl⟩ hpp
    have hi : i < 2 ^ m := by
      have := (List.getElem?_eq_some_iff.mp hx).1
      rwa [ixL_len] at this
    rw [ixL_get hi] at hx
    cases hx
    refine ⟨pp, _, rfl, .of upd_same, rfl, _, _, rfl, _, _, rfl, rfl, ?_⟩
    refine ⟨i, o, rfl, rfl, ?_⟩
    have ef : absL G o (i + 1) = absL G o i ++ (if i &&& o = i then [(((G i).natAbs : Nat) : Int)] else []) := rfl
    refine ite2 (fun e => ?_) (fun e => ?_)
    . rw [ef, if_pos (of_decide_eq_true e), List.map_append]
      exact ⟨s2.trans (Same.upd hpp), rfl⟩
    . rw [ef, if_neg (fun z => e (decide_eq_true z)), List.append_nil]
      exact ⟨s2.trans (Same.upd hpp), rfl⟩
  . rintro zs H2 ⟨s2, rfl⟩ lp hlp
    rw [ixL_len]
    exact ⟨_, .of upd_same, q _ (s1.trans (s2.trans (Same.upd hlp)))⟩
def soB (m : Nat) (g : Nat -> Int) (ld : Int) (o : Nat) (x : Str) : Bool :=
  if (x == ("weights" : Str)) = true then decide (((List.range (2 ^ m)).map fun s => inF g o s * inF g o s).sum <= ld * ld)
  else if (x == ("whole" : Str)) = true then decide ((absL (wt m (inF g o)) o (2 ^ m)).sum <= ld * ((2 ^ manyF m o : Nat) : Int))
  else false
def sp_so (K : W.Frag) : Sp := fun vs H Q _ => match vs with
  | [v, .int ld, .ref c] => ∃ (m o : Nat) (x : Str) (g : Nat -> Int), SumAt K H v m (termG g (2 ^ m)) /\ m <= 6 /\ o < 2 ^ m /\ Light g /\ -64 <= ld /\ ld <= 64 /\ SqT K H c [.int o, .str x] /\ ∀ H', Same H H' -> Q (.bl (soB m g ld o x)) H'
  | _ => False
theorem sp_so_mono : SpMono (sp_so K) := fun vs H Q Q' E h q => by
  unfold sp_so at *
  split at q
  . revert q; repeat' first | exact h _ _ | exact newL_mono h | exact out_mono h | exact outT_mono h | walk_at "m"
  . exact q.elim
theorem ok_is_so : FnOk P w K mg base CX0 5 T.f_is_so T.d_is_so ["one", "lead", "cover"] (sp_so K) := by
  have G_weights_within := ok_weights_within (P := P) (w := w) (base := base) T; have G_setting_by_setting := ok_setting_by_setting (P := P) (w := w) (base := base) T; have G_two_to := ok_two_to (P := P) (w := w) (base := base) T; have G_many_in := ok_many_in (P := P) (w := w) (base := base) T
  refine T.F_is_so.ok sc_is_so (fun vs H Q E h => by unfold sp_so at h; split at h <;> first | rfl | exact h.elim) (fun cdv A outer s H vs Q E hr h => ?_)
  have hu := hu60 hr
  have mo1 : SpMono (sp_win K) := sp_win_mono
  have mo2 : SpMono (sp_sbs K) := sp_sbs_mono
  have mo3 : SpMono sp_two_to := sp_two_to_mono
  have mo4 : SpMono sp_many := sp_many_mono
  have hr_weights_within := hr.mono (show 4 <= _ by decide); have hr_setting_by_setting := hr.mono (show 3 <= _ by decide); have hr_two_to := hr.mono (show 2 <= _ by decide); have hr_many_in := hr.mono (show 1 <= _ by decide)
  unfold sp_so at h
  split at h
  rotate_left
  . exact h.elim
  rename_i v ld c
  obtain ⟨m, o, x, g, S, m6, ho, hg, l1, l2, hc, q⟩ := h
  have h64 : 2 ^ m <= 64 := Nat.pow_le_pow_right (n := 2) (by decide) m6
  refine ⟨_, (@pss_cons _ _ _ _ _ (@ps_set _ _ 3 _ _ _ _ sc_is_so.nd rfl (by walk_at "e") (@pe_call _ _ _ _ _ _ _ _ _ _ _ _ _ _ _ _ G_weights_within hr_weights_within rfl T.m_weights_within T.F_weights_within.kp T.b_weights_within .nil pass0 (@pa_cons _ _ _ _ _ (@vw _ 0 _ _ (by walk_at "v")) (@pa1 _ _ _ (@kIx _ K _ _ _ _ _ (@vw _ 2 _ _ (by walk_at "v")) (@pe_int _ _ _ _) (by intro _ _; rfl) (by rfl)) (by rfl)) (by rfl)) (by decide) (by rfl) (by rfl)) (by rfl) (by walk_at "i")) (@pss_cons _ _ _ _ _ (@ps_if _ _ _ _ _ _ _ _ (@tu_cmp _ _ _ _ _ _ _ _ (kEq (K := K) hu) (@kIx _ K _ _ _ _ _ (@vw _ 2 _ _ (by walk_at "v")) (@pe_int _ _ _ _) (by intro _ _; rfl) (by rfl)) (@pe_str _ _ _ _) (by walk_at "n")) (@pss_one _ _ _ (@ps_ret _ _ _ _ (@pe_cmpM _ _ _ _ _ _ _ _ om_le (@pe_callB _ _ _ _ _ _ _ _ _ (kSum (K := K) rfl) rfl T.z_sum (by rfl) (@pa1 _ _ _ (@pe_compB _ _ _ _ _ _ _ ["weight"] 1 [] _ _ _ _ rfl (@kSeq _ K _ _ _ (@vw _ 3 _ _ (by walk_at "v")) (by rfl)) (by kernel_rfl) rfl rfl (by kernel_rfl) (fun c => @pg_name _ _ 0 _ (show (["weight"] : List Str).Nodup by decide +kernel) rfl (by walk_at "e") (by walk_at "i")) (go_name (by decide)) (fun c => @pts_nil _) (fun c => (@pe_op _ _ _ _ _ _ _ _ om_mul (@vw _ 0 _ _ (by walk_at "v")) (@vw _ 0 _ _ (by walk_at "v")))) (by intro _; rfl)) (by rfl)) (by decide) (by decide) (by rfl) (by rfl)) (@pe_op _ _ _ _ _ _ _ _ om_mul (@vw _ 1 _ _ (by walk_at "v")) (@vw _ 1 _ _ (by walk_at "v"))) (by walk_at "n")))) (@pss_nil _)) (@pss_cons _ _ _ _ _ (@ps_if _ _ _ _ _ _ _ _ (@tu_cmp _ _ _ _ _ _ _ _ (kEq (K := K) hu) (@kIx _ K _ _ _ _ _ (@vw _ 2 _ _ (by walk_at "v")) (@pe_int _ _ _ _) (by intro _ _; rfl) (by rfl)) (@pe_str _ _ _ _) (by walk_at "n")) (@pss_one _ _ _ (@ps_ret _ _ _ _ (@pe_cmpM _ _ _ _ _ _ _ _ om_le (@pe_call _ _ _ _ _ _ _ _ _ _ _ _ _ _ _ _ G_setting_by_setting hr_setting_by_setting rfl T.m_setting_by_setting T.F_setting_by_setting.kp T.b_setting_by_setting .nil pass0 (@pa_cons _ _ _ _ _ (@vw _ 3 _ _ (by walk_at "v")) (@pa1 _ _ _ (@kIx _ K _ _ _ _ _ (@vw _ 2 _ _ (by walk_at "v")) (@pe_int _ _ _ _) (by intro _ _; rfl) (by rfl)) (by rfl)) (by rfl)) (by decide) (by rfl) (by rfl)) (@pe_op _ _ _ _ _ _ _ _ om_mul (@vw _ 1 _ _ (by walk_at "v")) (@pe_call _ _ _ _ _ _ _ _ _ _ _ _ _ _ _ _ G_two_to hr_two_to rfl T.m_two_to T.F_two_to.kp T.b_two_to .nil pass0 (@pa1 _ _ _ (@pe_call _ _ _ _ _ _ _ _ _ _ _ _ _ _ _ _ G_many_in hr_many_in rfl T.m_many_in T.F_many_in.kp T.b_many_in .nil pass0 (@pa1 _ _ _ (@kIx _ K _ _ _ _ _ (@vw _ 2 _ _ (by walk_at "v")) (@pe_int _ _ _ _) (by intro _ _; rfl) (by rfl)) (by rfl)) (by decide) (by rfl) (by rfl)) (by rfl)) (by decide) (by rfl) (by rfl))) (by walk_at "n")))) (@pss_nil _)) (@pss_one _ _ _ (@ps_ret _ _ _ _ (@pe_bl _ _ _ _)))))), ?_⟩
  refine seq_at (fun σ H' => ∃ l : Addr, σ = [some v, some (.int ld), some (.ref c), some (.ref l)] /\ Same H H' /\ H' l = some (.lst (ixL (inF g o) (2 ^ m)))) ?_ ?_ (by walk_at "sm")
  . exact ⟨_, _, .inr hc, atI_of (n := 0) rfl rfl, m, o, g, S, m6, rfl, fun l H1 hl s1 g1 => ⟨l, rfl, s1, g1⟩⟩
  rintro σ H1 ⟨l, rfl, s1, g1⟩
  have hc1 := s1.sqT hc
  have hin : Light (inF g o) := fun k => by
    have := hg k
    unfold inF
    split <;> omega
  unfold soB at q
  refine seq_at (fun σ H' => σ = [some v, some (.int ld), some (.ref c), some (.ref l)] /\ H1 = H' /\ (x == ("weights" : Str)) = false) ?_ ?_ (by walk_at "sm")
  . refine ⟨_, _, .inr hc1, atI_of (n := 1) rfl rfl, ?_⟩
    refine ite2 (fun e => ?_) (fun e => ?_)
    . have e' : (x == ("weights" : Str)) = true := by simpa using e
      refine .inl ⟨⟨_, .of g1⟩, ?_⟩
      refine comp_list (xs := ixL (inF g o) (2 ^ m)) (fun i zs H' => H' = H1 /\ zs = ((List.range i).map fun s => inF g o s * inF g o s).map V.int) ⟨rfl, rfl⟩ (fun i zs H' _ ⟨e, _⟩ => by rw [e]; exact .of g1) (fun i zs H' hi ⟨_, e⟩ => by
        rw [ixL_len] at hi
        rw [e, List.length_map, List.length_map, List.length_range]; exact small1000 (by omega)) ?_ ?_
      . rintro i y zs H' hx ⟨rfl, rfl⟩
        have hi : i < 2 ^ m := by
          have := (List.getElem?_eq_some_iff.mp hx).1
          rwa [ixL_len] at this
        rw [ixL_get hi] at hx
        cases hx
        have hk := hin i
        refine ⟨.inr (.inr ⟨by omega, by omega⟩), rfl, ?_⟩
        rw [List.range_succ, List.map_append, List.map_append]
        rfl
      . rintro zs H' ⟨rfl, rfl⟩ lp hlp
        rw [ixL_len]
        refine ⟨_, .of upd_same, .inr (.inr ⟨by omega, by omega⟩), ?_⟩
        have q' := q _ (s1.trans (Same.upd (o := .lst (((List.range (2 ^ m)).map fun s => inF g o s * inF g o s).map V.int)) hlp))
        rw [if_pos e'] at q'
        exact q'
    . refine ⟨rfl, rfl, ?_⟩
      cases ew : (x == ("weights" : Str)) with
      | false => rfl
      | true => exact absurd (show _ = true by simpa using ew) e
  rintro σ _ ⟨rfl, rfl, ew⟩
  simp only [ew, Bool.false_eq_true, if_false] at q
  refine seq_at (fun σ H' => σ = [some v, some (.int ld), some (.ref c), some (.ref l)] /\ H1 = H' /\ (x == ("whole" : Str)) = false) ?_ ?_ (by walk_at "sm")
  . refine ⟨_, _, .inr hc1, atI_of (n := 1) rfl rfl, ?_⟩
    refine ite2 (fun e => ?_) (fun e => ?_)
    . have e' : (x == ("whole" : Str)) = true := by simpa using e
      refine ⟨_, _, .inr hc1, atI_of (n := 0) rfl rfl, m, o, inF g o, .of g1, rfl, m6, fun H2 s2 => ?_⟩
      have hm6 := manyF_le m o
      refine ⟨_, _, .inr (s2.sqT hc1), atI_of (n := 0) rfl rfl, o, rfl, by omega, ?_⟩
      rw [many_of ho (by omega)]
      refine ⟨manyF m o, rfl, by omega, .inr (.inl ⟨by omega, by omega⟩), ?_⟩
      have q' := q _ (s1.trans s2)
      rw [if_pos e'] at q'
      exact q'
    . refine ⟨rfl, rfl, ?_⟩
      cases ew : (x == ("whole" : Str)) with
      | false => rfl
      | true => exact absurd (show _ = true by simpa using ew) e
  rintro σ _ ⟨rfl, rfl, ew2⟩
  simp only [ew2, Bool.false_eq_true, if_false] at q
  exact q _ s1
def sp_form (K : W.Frag) : Sp := fun vs H Q _ => match vs with
  | [.int x, v] => ∃ (m : Nat) (nb : List Bool) (cs : List (Nat × Str)), x = m /\ 1 <= m /\ m <= 6 /\ nb.length = 2 ^ m /\ Rep K H (papD nb cs) v /\ cs.length <= 64 /\ (∀ c ∈ cs, c.1 < 2 ^ m) /\ ∀ H', Same H H' -> Q (.bl true) H'
  | _ => False
theorem sp_form_mono : SpMono (sp_form K) := fun vs H Q Q' E h q => by
  unfold sp_form at *
  split at q
  . revert q; repeat' first | exact h _ _ | exact newL_mono h | exact out_mono h | exact outT_mono h | walk_at "m"
  . exact q.elim
theorem pap_inv {K : W.Frag} {H : Hp} {nb : List Bool} {cs : List (Nat × Str)} {v : V} (h : Rep K H (papD nb cs) v) : ∃ (a ax ay : Addr) (ys : List V), v = .ref a /\ SqT K H a [.ref ax, .ref ay] /\ SqT K H ax (nb.map V.bl) /\ SqT K H ay ys /\ Reps K H (cs.map covD) ys := by
  unfold papD at h
  obtain ⟨a, xs, rfl, ha, hr2⟩ := rep_tup_inv h
  have hl2 := hr2.length
  obtain ⟨x, y, rfl⟩ : ∃ x y, xs = [x, y] := by
    match xs, hl2 with
    | [x, y], _ => exact ⟨x, y, rfl⟩
  obtain ⟨x', ex, rx⟩ := hr2.get (i := 0) (d := .tup (nb.map Dv.bl)) rfl
  obtain ⟨y', ey, ry⟩ := hr2.get (i := 1) (d := .tup (cs.map covD)) rfl
  cases ex; cases ey
  obtain ⟨ax, xs, rfl, hax, rxs⟩ := rep_tup_inv rx
  obtain ⟨ay, ys, rfl, hay, rys⟩ := rep_tup_inv ry
  obtain rfl := reps_blI nb xs rxs
  exact ⟨a, ax, ay, ys, rfl, ha, hax, hay, rys⟩
theorem ok_has_paper_form : FnOk P w K mg base CX0 4 T.f_has_paper_form T.d_has_paper_form ["n", "thing"] (sp_form K) := by
  have G_is_pair := ok_is_pair (P := P) (w := w) (base := base) T; have G_is_table := ok_is_table (P := P) (w := w) (base := base) T; have G_switches_of := ok_switches_of (P := P) (w := w) (base := base) T; have G_is_place := ok_is_place (P := P) (w := w) (base := base) T
  refine T.F_has_paper_form.ok sc_has_paper_form (fun vs H Q E h => by unfold sp_form at h; split at h <;> first | rfl | exact h.elim) (fun cdv A outer s H vs Q E hr h => ?_)
  have hu := hu60 hr
  have mo1 : SpMono (sp_dB K isPairD) := sp_dB_mono
  have mo2 : SpMono (sp_istab K) := sp_istab_mono
  have mo3 : SpMono (sp_switches K) := sp_switches_mono
  have hr_is_pair := hr.mono (show 1 <= _ by decide); have hr_is_table := hr.mono (show 1 <= _ by decide); have hr_switches_of := hr.mono (show 1 <= _ by decide); have hr_is_place := hr.mono (show 3 <= _ by decide)
  unfold sp_form at h
  split at h
  rotate_left
  . exact h.elim
  rename_i x v
  obtain ⟨m, nb, cs, e1, m1, m6, hb, hv, hcl, hcs, q⟩ := h
  subst e1
  have h64 : 2 ^ m <= 64 := Nat.pow_le_pow_right (n := 2) (by decide) m6
  obtain ⟨a, ax, ay, ys, rfl, ha, hax, hay, hR⟩ := pap_inv hv
  have hyl := hR.length
  rw [List.length_map] at hyl
  refine ⟨_, (@pss_cons _ _ _ _ _ (@ps_if _ _ _ _ _ _ _ _ (PW.pt (@pw_or _ _ _ _ _ _ _ (@pt_not _ _ _ _ (@tu_val _ _ _ (@pe_call _ _ _ _ _ _ _ _ _ _ _ _ _ _ _ _ G_is_pair hr_is_pair rfl T.m_is_pair T.F_is_pair.kp T.b_is_pair .nil pass0 (@pa1 _ _ _ (@vw _ 1 _ _ (by walk_at "v")) (by rfl)) (by decide) (by rfl) (by rfl)) (by intro _; rfl))) (@pw_or _ _ _ _ _ _ _ (@pt_not _ _ _ _ (@tu_val _ _ _ (@pe_call _ _ _ _ _ _ _ _ _ _ _ _ _ _ _ _ G_is_table hr_is_table rfl T.m_is_table T.F_is_table.kp T.b_is_table .nil pass0 (@pa1 _ _ _ (@kIx _ K _ _ _ _ _ (@vw _ 1 _ _ (by walk_at "v")) (@pe_int _ _ _ _) (by intro _ _; rfl) (by rfl)) (by rfl)) (by decide) (by rfl) (by rfl)) (by intro _; rfl))) (@pw_or1 _ _ _ _ (@tu_cmp _ _ _ _ _ _ _ _ (kNe (K := K) hu) (@pe_call _ _ _ _ _ _ _ _ _ _ _ _ _ _ _ _ G_switches_of hr_switches_of rfl T.m_switches_of T.F_switches_of.kp T.b_switches_of .nil pass0 (@pa1 _ _ _ (@kIx _ K _ _ _ _ _ (@vw _ 1 _ _ (by walk_at "v")) (@pe_int _ _ _ _) (by intro _ _; rfl) (by rfl)) (by rfl)) (by decide) (by rfl) (by rfl)) (@vw _ 0 _ _ (by walk_at "v")) (by walk_at "n")))))) (@pss_one _ _ _ (@ps_ret _ _ _ _ (@pe_bl _ _ _ _))) (@pss_nil _)) (@pss_cons _ _ _ _ _ (@ps_if _ _ _ _ _ _ _ _ (PW.pt (pw_or (pt_not (tu_val (pe_callB (kIsiD (K := K)) rfl T.z_isinstance (by rfl) (pa_cons (kIx (K := K) (vv 1) pe_int) (pa_cons (pe_bltn (v := .ty "tuple") rfl T.z_tuple (by rfl) rfl) pa_nil))))) (pw_or1 (tu_cmp om_gt (pe_callB (kLen (K := K)) rfl T.z_len (by rfl) (pa_cons (kIx (K := K) (vv 1) pe_int) pa_nil)) (pe_glob (v := .int 64) rfl T.c_MOST_COVERS ⟨_, rfl⟩))))) (@pss_one _ _ _ (@ps_ret _ _ _ _ (@pe_bl _ _ _ _))) (@pss_nil _)) (@pss_one _ _ _ (@ps_ret _ _ _ _ (@pe_callB _ _ _ _ _ _ _ _ _ (kAll (K := K) rfl) rfl T.z_all (by rfl) (@pa1 _ _ _ (@pe_compB _ _ _ _ _ _ _ (["cover", "n"]) 1 [0] _ _ _ _ rfl (@kSeq _ K _ _ _ (@kIx _ K _ _ _ _ _ (@vw _ 1 _ _ (by walk_at "v")) (@pe_int _ _ _ _) (by intro _ _; rfl) (by rfl)) (by rfl)) (by kernel_rfl) rfl rfl (by kernel_rfl) (fun c => @pg_name _ _ 0 _ (show (["cover", "n"] : List Str).Nodup by decide +kernel) rfl (by walk_at "e") (by walk_at "i")) (go_name (by decide)) (fun c => @pts_nil _) (fun c => (@pe_andM _ _ _ _ _ _ _ (@pe_call _ _ _ _ _ _ _ _ _ _ _ _ _ _ _ _ G_is_pair hr_is_pair rfl T.m_is_pair T.F_is_pair.kp T.b_is_pair .nil pass0 (@pa1 _ _ _ (@vw _ 0 _ _ (by walk_at "v")) (by rfl)) (by decide) (by rfl) (by rfl)) (@pe_one _ _ _ _ _ (@pe_call _ _ _ _ _ _ _ _ _ _ _ _ _ _ _ _ G_is_place hr_is_place rfl T.m_is_place T.F_is_place.kp T.b_is_place .nil pass0 (@pa_cons _ _ _ _ _ (@vw _ 1 _ _ (by walk_at "v")) (@pa1 _ _ _ (@kIx _ K _ _ _ _ _ (@vw _ 0 _ _ (by walk_at "v")) (@pe_int _ _ _ _) (by intro _ _; rfl) (by rfl)) (by rfl)) (by rfl)) (by decide) (by rfl) (by rfl))))) (by intro _; rfl)) (by rfl)) (by decide) (by decide) (by rfl) (by rfl)))))), ?_⟩
  refine seq_at (fun σ H' => σ = [some (.int m), some (.ref a)] /\ Same H H') ?_ ?_ (by walk_at "sm")
  . refine if_same false ?_ ?_
    . intro Q q
      refine ⟨papD nb cs, hv, ?_⟩
      refine ⟨_, _, .inr ha, atI_of (n := 0) rfl rfl, m, nb, hax, hb, m1, m6, fun H1 s1 => ?_⟩
      refine ⟨_, _, .inr (s1.sqT ha), atI_of (n := 0) rfl rfl, m, _, s1.sqT hax, by rw [List.length_map, hb], m6, ?_⟩
      have e0 : (true ^^ ((m : Int) == (m : Int))) = false := by simp
      have q' := q H1 s1
      rw [<- e0] at q'
      exact q'
    . exact fun H' s => iteF ⟨rfl, s⟩
  rintro σ H1 ⟨rfl, s1⟩
  refine seq_at (fun σ H' => σ = [some (.int m), some (.ref a)] /\ H1 = H') ?_ ?_ (by walk_at "sm")
  . refine if_val false ?_ ?_
    . intro Q q
      refine ⟨_, _, .inr (s1.sqT ha), atI_of (n := 1) rfl rfl, by decide, .tup (cs.map covD), rep_tup2 (s1.sqT hay) (Reps.same s1 _ _ hR), ?_⟩
      refine ⟨_, _, .inr (s1.sqT ha), atI_of (n := 1) rfl rfl, _, .inr ⟨_, s1.sqT hay, rfl⟩, ?_⟩
      have e0 : decide ((64 : Int) < ((ys.length : Nat) : Int)) = false := decide_eq_false (by omega)
      rw [<- e0] at q
      exact q
    . exact iteF ⟨rfl, rfl⟩
  rintro σ _ ⟨rfl, rfl⟩
  refine ⟨_, _, .inr (s1.sqT ha), atI_of (n := 1) rfl rfl, .inr ⟨⟨_, s1.sqT hay⟩, ?_⟩⟩
  refine comp_tup (xs := ys) (fun i zs H' => H' = H1 /\ zs = (List.replicate i true).map V.bl) ⟨rfl, rfl⟩ (fun i zs H' _ ⟨e, _⟩ => by rw [e]; exact s1.sqT hay) (fun i zs H' hi ⟨_, e⟩ => by
    rw [e, List.length_map, List.length_replicate]; exact small1000 (by omega)) ?_ ?_
  . rintro i y zs H' hy ⟨rfl, rfl⟩
    obtain ⟨b, c, hc, rfl, hb1⟩ := cov_at hR hy
    have hc2 : c.1 < 2 ^ m := hcs c (List.mem_of_getElem? hc)
    have hb2 := s1.sqT hb1
    refine ⟨covD c, rep_tup2 hb2 (reps_cons rep_int (reps_cons rep_str reps_nil)), ?_⟩
    refine ⟨_, _, .inr hb2, atI_of (n := 0) rfl rfl, m, rfl, m6, rfl, ?_⟩
    rw [List.replicate_succ', List.map_append, decide_eq_true (show (0 : Int) <= ((c.1 : Nat) : Int) by omega), decide_eq_true (show ((c.1 : Nat) : Int) < ((2 ^ m : Nat) : Int) by omega)]
    rfl
  . rintro zs H' ⟨rfl, rfl⟩ l hl
    refine ⟨_, .of upd_same, ?_⟩
    show Q (.bl ((List.replicate ys.length true).all id)) _
    have e0 : (List.replicate ys.length true).all id = true := by simp
    rw [e0]
    exact q _ (s1.trans (Same.upd hl))
def leadF (m : Nat) (bs nb : List Bool) : Int := sumTo (fun p => valF bs p * valF nb p) (2 ^ m)
theorem lead_dif (m : Nat) (bs nb : List Bool) : leadF m bs nb = ((2 ^ m : Nat) : Int) - 2 * ((difL bs nb (2 ^ m)).length : Nat) := dif_sum bs nb (2 ^ m)
theorem lead_bound {m : Nat} (m6 : m <= 6) (bs nb : List Bool) : -64 <= leadF m bs nb /\ leadF m bs nb <= 64 := by
  have h64 : 2 ^ m <= 64 := Nat.pow_le_pow_right (n := 2) (by decide) m6
  have := difL_len bs nb (2 ^ m)
  rw [lead_dif]
  generalize 2 ^ m = M at *
  omega
theorem difL_comm (as bs : List Bool) (n : Nat) : difL as bs n = difL bs as n := by
  unfold difL
  refine List.filter_congr fun p _ => ?_
  cases gB as p <;> cases gB bs p <;> rfl
def nearB (m k : Nat) (bs nb : List Bool) (cs : List (Nat × Str)) : Bool := decide (manyF m (hungTo (cntS nb m) m) <= k /\ 0 <= leadF m bs nb) && (coversB m k cs && cs.all fun c => soB m (wt m (valF bs)) (leadF m bs nb) c.1 c.2)
def sp_pnear (K : W.Frag) : Sp := fun vs H Q _ => match vs with
  | [u, .int z, v] => ∃ (m k : Nat) (bs nb : List Bool) (cs : List (Nat × Str)), SumAt K H u m (termG (wt m (valF bs)) (2 ^ m)) /\ 1 <= m /\ m <= 6 /\ z = k /\ nb.length = 2 ^ m /\ Rep K H (papD nb cs) v /\ cs.length <= 64 /\ (∀ c ∈ cs, c.1 < 2 ^ m) /\ ∀ H', Same H H' -> Q (.bl (nearB m k bs nb cs)) H'
  | _ => False
theorem sp_pnear_mono : SpMono (sp_pnear K) := fun vs H Q Q' E h q => by
  unfold sp_pnear at *
  split at q
  . revert q; repeat' first | exact h _ _ | exact newL_mono h | exact out_mono h | exact outT_mono h | walk_at "m"
  . exact q.elim
theorem ok_lets_near : FnOk P w K mg base CX0 6 T.f_lets_near T.d_lets_near ["one", "k", "thing"] (sp_pnear K) := by
  have G_sum_of := ok_sum_of (P := P) (w := w) (base := base) T; have G_lead_of := ok_lead_of (P := P) (w := w) (base := base) T; have G_has_paper_form := ok_has_paper_form (P := P) (w := w) (base := base) T; have G_covers_all := ok_covers_all (P := P) (w := w) (base := base) T; have G_many_in := ok_many_in (P := P) (w := w) (base := base) T; have G_hangs_on := ok_hangs_on (P := P) (w := w) (base := base) T; have G_is_so := ok_is_so (P := P) (w := w) (base := base) T
  refine T.F_lets_near.ok sc_lets_near (fun vs H Q E h => by unfold sp_pnear at h; split at h <;> first | rfl | exact h.elim) (fun cdv A outer s H vs Q E hr h => ?_)
  have hu := hu60 hr
  have mo1 : SpMono (sp_form K) := sp_form_mono
  have mo2 : SpMono (sp_psum K) := sp_psum_mono
  have mo3 : SpMono (sp_lead K) := sp_lead_mono
  have mo4 : SpMono (sp_hangs K) := sp_hangs_mono
  have mo5 : SpMono sp_many := sp_many_mono
  have mo6 : SpMono (sp_covers K) := sp_covers_mono
  have mo7 : SpMono (sp_so K) := sp_so_mono
  have hr_sum_of := hr.mono (show 3 <= _ by decide); have hr_lead_of := hr.mono (show 4 <= _ by decide); have hr_has_paper_form := hr.mono (show 4 <= _ by decide); have hr_covers_all := hr.mono (show 4 <= _ by decide); have hr_many_in := hr.mono (show 1 <= _ by decide); have hr_hangs_on := hr.mono (show 1 <= _ by decide); have hr_is_so := hr.mono (show 5 <= _ by decide)
  unfold sp_pnear at h
  split at h
  rotate_left
  . exact h.elim
  rename_i u z v
  obtain ⟨m, k, bs, nb, cs, S, m1, m6, e1, hb, hv, hcl, hcs, q⟩ := h
  subst e1
  have h64 : 2 ^ m <= 64 := Nat.pow_le_pow_right (n := 2) (by decide) m6
  obtain ⟨a, ax, ay, ys, rfl, ha, hax, hay, hR⟩ := pap_inv hv
  obtain ⟨au, us, rfl, hau, hat⟩ := sum_n S
  have hyl := hR.length
  rw [List.length_map] at hyl
  obtain ⟨lb1, lb2⟩ := lead_bound m6 bs nb
  refine ⟨_, (@pss_cons _ _ _ _ _ (@ps_if _ _ _ _ _ _ _ _ (@pt_not _ _ _ _ (@tu_val _ _ _ (@pe_call _ _ _ _ _ _ _ _ _ _ _ _ _ _ _ _ G_has_paper_form hr_has_paper_form rfl T.m_has_paper_form T.F_has_paper_form.kp T.b_has_paper_form .nil pass0 (@pa_cons _ _ _ _ _ (@kIx _ K _ _ _ _ _ (@vw _ 0 _ _ (by walk_at "v")) (@pe_int _ _ _ _) (by intro _ _; rfl) (by rfl)) (@pa1 _ _ _ (@vw _ 2 _ _ (by walk_at "v")) (by rfl)) (by rfl)) (by decide) (by rfl) (by rfl)) (by intro _; rfl))) (@pss_one _ _ _ (@ps_ret _ _ _ _ (@pe_bl _ _ _ _))) (@pss_nil _)) (@pss_cons _ _ _ _ _ (@ps_set _ _ 3 _ _ _ _ sc_lets_near.nd rfl (by walk_at "e") (@pe_call _ _ _ _ _ _ _ _ _ _ _ _ _ _ _ _ G_sum_of hr_sum_of rfl T.m_sum_of T.F_sum_of.kp T.b_sum_of .nil pass0 (@pa1 _ _ _ (@kIx _ K _ _ _ _ _ (@vw _ 2 _ _ (by walk_at "v")) (@pe_int _ _ _ _) (by intro _ _; rfl) (by rfl)) (by rfl)) (by decide) (by rfl) (by rfl)) (by rfl) (by walk_at "i")) (@pss_cons _ _ _ _ _ (@ps_set _ _ 4 _ _ _ _ sc_lets_near.nd rfl (by walk_at "e") (@pe_call _ _ _ _ _ _ _ _ _ _ _ _ _ _ _ _ G_lead_of hr_lead_of rfl T.m_lead_of T.F_lead_of.kp T.b_lead_of .nil pass0 (@pa_cons _ _ _ _ _ (@vw _ 0 _ _ (by walk_at "v")) (@pa1 _ _ _ (@vw _ 3 _ _ (by walk_at "v")) (by rfl)) (by rfl)) (by decide) (by rfl) (by rfl)) (by rfl) (by walk_at "i")) (@pss_cons _ _ _ _ _ (@ps_if _ _ _ _ _ _ _ _ (PW.pt (@pw_or _ _ _ _ _ _ _ (@tu_cmp _ _ _ _ _ _ _ _ om_gt (@pe_call _ _ _ _ _ _ _ _ _ _ _ _ _ _ _ _ G_many_in hr_many_in rfl T.m_many_in T.F_many_in.kp T.b_many_in .nil pass0 (@pa1 _ _ _ (@pe_call _ _ _ _ _ _ _ _ _ _ _ _ _ _ _ _ G_hangs_on hr_hangs_on rfl T.m_hangs_on T.F_hangs_on.kp T.b_hangs_on .nil pass0 (@pa1 _ _ _ (@vw _ 3 _ _ (by walk_at "v")) (by rfl)) (by decide) (by rfl) (by rfl)) (by rfl)) (by decide) (by rfl) (by rfl)) (@vw _ 1 _ _ (by walk_at "v")) (by walk_at "n")) (@pw_or1 _ _ _ _ (@tu_cmp _ _ _ _ _ _ _ _ om_lt (@vw _ 4 _ _ (by walk_at "v")) (@pe_int _ _ _ _) (by walk_at "n"))))) (@pss_one _ _ _ (@ps_ret _ _ _ _ (@pe_bl _ _ _ _))) (@pss_nil _)) (@pss_one _ _ _ (@ps_ret _ _ _ _ (@pe_andM _ _ _ _ _ _ _ (@pe_call _ _ _ _ _ _ _ _ _ _ _ _ _ _ _ _ G_covers_all hr_covers_all rfl T.m_covers_all T.F_covers_all.kp T.b_covers_all .nil pass0 (@pa_cons _ _ _ _ _ (@kIx _ K _ _ _ _ _ (@vw _ 0 _ _ (by walk_at "v")) (@pe_int _ _ _ _) (by intro _ _; rfl) (by rfl)) (@pa_cons _ _ _ _ _ (@vw _ 1 _ _ (by walk_at "v")) (@pa1 _ _ _ (@kIx _ K _ _ _ _ _ (@vw _ 2 _ _ (by walk_at "v")) (@pe_int _ _ _ _) (by intro _ _; rfl) (by rfl)) (by rfl)) (by rfl)) (by rfl)) (by decide) (by rfl) (by rfl)) (@pe_one _ _ _ _ _ (@pe_callB _ _ _ _ _ _ _ _ _ (kAll (K := K) rfl) rfl T.z_all (by rfl) (@pa1 _ _ _ (@pe_compB _ _ _ _ _ _ _ (["cover", "one", "lead"]) 1 ([0, 4]) _ _ _ _ rfl (@kSeq _ K _ _ _ (@kIx _ K _ _ _ _ _ (@vw _ 2 _ _ (by walk_at "v")) (@pe_int _ _ _ _) (by intro _ _; rfl) (by rfl)) (by rfl)) (by kernel_rfl) rfl rfl (by kernel_rfl) (fun c => @pg_name _ _ 0 _ (show (["cover", "one", "lead"] : List Str).Nodup by decide +kernel) rfl (by walk_at "e") (by walk_at "i")) (go_name (by decide)) (fun c => @pts_nil _) (fun c => (@pe_call _ _ _ _ _ _ _ _ _ _ _ _ _ _ _ _ G_is_so hr_is_so rfl T.m_is_so T.F_is_so.kp T.b_is_so .nil pass0 (@pa_cons _ _ _ _ _ (@vw _ 1 _ _ (by walk_at "v")) (@pa_cons _ _ _ _ _ (@vw _ 2 _ _ (by walk_at "v")) (@pa1 _ _ _ (@vw _ 0 _ _ (by walk_at "v")) (by rfl)) (by rfl)) (by rfl)) (by decide) (by rfl) (by rfl))) (by intro _; rfl)) (by rfl)) (by decide) (by decide) (by rfl) (by rfl)))))))))), ?_⟩
  refine seq_at (fun σ H' => σ = [some (.ref au), some (.int k), some (.ref a), none, none] /\ Same H H') ?_ ?_ (by walk_at "sm")
  . refine if_same false ?_ ?_
    . intro Q q
      exact ⟨_, _, .inr hau, hat, m, nb, cs, rfl, m1, m6, hb, hv, hcl, hcs, q⟩
    . exact fun H' s => iteF ⟨rfl, s⟩
  rintro σ H1 ⟨rfl, s1⟩
  refine seq_at (fun σ H' => ∃ t : V, σ = [some (.ref au), some (.int k), some (.ref a), some t, none] /\ Same H1 H' /\ SumAt K H' t m (termG (wt m (valF nb)) (2 ^ m))) ?_ ?_ (by walk_at "sm")
  . exact ⟨_, _, .inr (s1.sqT ha), atI_of (n := 0) rfl rfl, m, nb, m6, hb, s1.sqT hax, fun t H2 s2 St => ⟨t, rfl, s2, St⟩⟩
  rintro σ H2 ⟨t, rfl, s2, St⟩
  refine seq_at (fun σ H' => σ = [some (.ref au), some (.int k), some (.ref a), some t, some (.int (leadF m bs nb))] /\ Same H2 H') ?_ ?_ (by walk_at "sm")
  . exact ⟨m, bs, nb, S.same (s1.trans s2), St, m6, fun H3 s3 => ⟨rfl, s3⟩⟩
  rintro σ H3 ⟨rfl, s3⟩
  have s0 := s1.trans (s2.trans s3)
  have hq : ∀ H', Same H3 H' -> Q (.bl (nearB m k bs nb cs)) H' := fun H' s => q H' (s0.trans s)
  unfold nearB at hq
  clear q
  have hlt := hungTo_lt (cntS nb m) m
  have hho := hang_eq m nb
  generalize hld : leadF m bs nb = ld at *
  generalize hhu : hungTo (cntS nb m) m = hg at *
  refine seq_at (fun σ H' => σ = [some (.ref au), some (.int k), some (.ref a), some t, some (.int ld)] /\ H3 = H' /\ (manyF m hg <= k /\ 0 <= ld)) ?_ ?_ (by walk_at "sm")
  . by_cases c : manyF m hg <= k /\ 0 <= ld
    . refine if_val false ?_ ?_
      . intro Q q
        refine ⟨m, _, St.same s3, ?_⟩
        rw [hho]
        refine ⟨hg, rfl, by omega, ?_⟩
        rw [many_of hlt (by omega)]
        refine ite2 (fun e => ?_) (fun _ => ?_)
        . have : ((k : Nat) : Int) < ((manyF m hg : Nat) : Int) := of_decide_eq_true e
          omega
        . have e0 : decide (ld < 0) = false := decide_eq_false (by omega)
          rw [<- e0] at q
          exact q
      . exact iteF ⟨rfl, rfl, c⟩
    . refine if_val true ?_ ?_
      . intro Q q
        refine ⟨m, _, St.same s3, ?_⟩
        rw [hho]
        refine ⟨hg, rfl, by omega, ?_⟩
        rw [many_of hlt (by omega)]
        refine ite2 (fun _ => q) (fun e => ?_)
        have : ¬ ((k : Nat) : Int) < ((manyF m hg : Nat) : Int) := fun z => e (decide_eq_true z)
        have e0 : decide (ld < 0) = true := decide_eq_true (by omega)
        rw [<- e0] at q
        exact q
      . refine iteT ?_
        have := hq H3 (Same.refl _)
        rw [decide_eq_false c] at this
        exact this
  rintro σ _ ⟨rfl, rfl, c⟩
  rw [decide_eq_true c] at hq
  simp only [Bool.true_and] at hq
  refine ⟨_, _, .inr (s0.sqT hau), hat, _, _, .inr (s0.sqT ha), atI_of (n := 1) rfl rfl, m, k, cs, ys, rfl, rfl, m6, s0.sqT hay, Reps.same s0 _ _ hR, hcl, fun H4 s4 => ?_⟩
  refine ite2 (fun e => ?_) (fun e => ?_)
  . rw [e] at hq
    simp only [Bool.true_and] at hq
    have s04 := s0.trans s4
    refine ⟨_, _, .inr (s04.sqT ha), atI_of (n := 1) rfl rfl, .inr ⟨⟨_, s04.sqT hay⟩, ?_⟩⟩
    refine comp_tup (xs := ys) (fun i zs H' => Same H4 H' /\ zs = ((cs.take i).map fun c => soB m (wt m (valF bs)) ld c.1 c.2).map V.bl) ⟨Same.refl _, rfl⟩ (fun i zs H' _ ⟨s, _⟩ => (s04.trans s).sqT hay) (fun i zs H' hi ⟨_, e⟩ => by
      rw [e, List.length_map, List.length_map, List.length_take]; exact small1000 (by omega)) ?_ ?_
    . rintro i y zs H5 hy ⟨s5, rfl⟩
      obtain ⟨b, c, hc, rfl, hb1⟩ := cov_at hR hy
      have s05 := s04.trans s5
      refine ⟨m, c.1, c.2, _, S.same s05, m6, hcs c (List.mem_of_getElem? hc), wt_light m6 bs, lb1, lb2, s05.sqT hb1, fun H6 s6 => ⟨s5.trans s6, ?_⟩⟩
      rw [List.take_add_one, hc, List.map_append, List.map_append]
      rfl
    . rintro zs H5 ⟨s5, rfl⟩ l hl
      rw [<- hyl, List.take_length]
      refine ⟨_, .of upd_same, ?_⟩
      rw [List.all_map]
      exact hq _ (s4.trans (s5.trans (Same.upd hl)))
  . have e' : coversB m k cs = false := by
      cases h : coversB m k cs with
      | false => rfl
      | true => exact absurd h e
    rw [e'] at hq
    exact hq _ s4
theorem fil_rs {m o : Nat} : RsAt o (2 ^ m) ((List.range (2 ^ m)).filter fun s => decide (s &&& o = s)) := by
  refine ⟨List.nodup_range.filter _, fun p hp => List.mem_filter.mpr ⟨List.mem_range.mpr (Nat.lt_of_le_of_lt Nat.and_le_left hp), decide_eq_true (by rw [Nat.and_assoc, Nat.and_self])⟩, fun r hr => ⟨r, List.mem_range.mp (List.mem_filter.mp hr).1, of_decide_eq_true (List.mem_filter.mp hr).2⟩, ?_⟩
  exact Nat.le_trans (List.length_filter_le _ _) (by rw [List.length_range]; exact Nat.le_refl _)
theorem absL_eq (g : Nat -> Int) (o : Nat) : ∀ n, absL g o n = ((List.range n).filter fun s => decide (s &&& o = s)).map fun s => (((g s).natAbs : Nat) : Int)
  | 0 => rfl
  | n + 1 => by
    show absL g o n ++ _ = _
    rw [absL_eq g o n, List.range_succ, List.filter_append, List.map_append]
    congr 1
    by_cases e : n &&& o = n
    . rw [if_pos e]; simp [e]
    . rw [if_neg e]; simp [e]
theorem sum_cmul (c : Int) (f : Nat -> Int) : ∀ ts : List Nat, (ts.map fun r => c * f r).sum = c * (ts.map f).sum
  | [] => by simp
  | t :: ts => by rw [List.map_cons, List.sum_cons, List.map_cons, List.sum_cons, sum_cmul c f ts, Int.mul_add]
theorem abs_in {m o : Nat} {bs : List Bool} (ho : o < 2 ^ m) : (absL (wt m (inF (wt m (valF bs)) o)) o (2 ^ m)).sum = ((2 ^ manyF m o : Nat) : Int) * (((2 ^ m : Nat) : Int) - 2 * (distO m bs o : Nat)) := by
  rw [absL_eq, <- abs_sum (bs := bs) ho fil_rs, <- sum_cmul]
  congr 1
  refine List.map_congr_left fun s hs => ?_
  obtain ⟨h1, h2⟩ := List.mem_filter.mp hs
  have h1 := List.mem_range.mp h1
  have h2 : s &&& o = s := of_decide_eq_true h2
  rw [wt_in m (valF bs) o s ho h1, h2, Int.natAbs_mul, Int.natCast_mul]
  rfl
theorem whole_so {m o : Nat} {bs : List Bool} {ld : Int} (ho : o < 2 ^ m) : soB m (wt m (valF bs)) ld o "whole" = decide (((2 ^ m : Nat) : Int) - 2 * (distO m bs o : Nat) <= ld) := by
  have x1 : (("whole" : Str) == ("weights" : Str)) = false := by decide
  have x2 : (("whole" : Str) == ("whole" : Str)) = true := by decide
  unfold soB
  rw [x1, x2, abs_in ho]
  simp only [Bool.false_eq_true, if_false, if_true]
  have hp := Nat.two_pow_pos (manyF m o)
  generalize ((2 ^ m : Nat) : Int) - 2 * (distO m bs o : Nat) = y
  have hp' : (0 : Int) < ((2 ^ manyF m o : Nat) : Int) := by omega
  generalize ((2 ^ manyF m o : Nat) : Int) = c at *
  rw [Bool.eq_iff_iff, decide_eq_true_eq, decide_eq_true_eq, Int.mul_comm c y]
  exact Int.mul_le_mul_iff_of_pos_right hp'
theorem paper_eq (m k : Nat) (bs : List Bool) : paperD m k bs = papD (bestB m (wt m (valF bs)) (nearO m k bs (nearN m k))) ((setL m (min m k) (2 ^ m)).map fun s => (s, ("whole" : Str))) := by
  unfold paperD papD
  rw [List.map_map]
  rfl
theorem near_ok (m k : Nat) (bs : List Bool) : nearB m k bs (bestB m (wt m (valF bs)) (nearO m k bs (nearN m k))) ((setL m (min m k) (2 ^ m)).map fun s => (s, ("whole" : Str))) = true := by
  have ho := near_in m k bs
  have ho2 := setL_mem ho
  have hl : leadF m bs (bestB m (wt m (valF bs)) (nearO m k bs (nearN m k))) = ((2 ^ m : Nat) : Int) - 2 * (distO m bs (nearO m k bs (nearN m k)) : Nat) := by
    rw [lead_dif, difL_comm]
    rfl
  have hhalf := dist_half (bs := bs) ho2
  have hhung := hung_few (bs := bs) ho2
  rw [setL_many ho] at hhung
  unfold nearB
  rw [hl, decide_eq_true ⟨by omega, hhalf⟩, Bool.true_and, Bool.and_eq_true]
  constructor
  . unfold coversB
    rw [List.all_eq_true]
    intro s hs
    rw [List.any_eq_true]
    exact ⟨_, List.mem_map.mpr ⟨s, hs, rfl⟩, decide_eq_true (Nat.and_self s)⟩
  . rw [List.all_eq_true]
    intro c hc
    obtain ⟨s, hs, rfl⟩ := List.mem_map.mp hc
    show soB m _ _ s "whole" = true
    rw [whole_so (setL_mem hs)]
    have := near_least (bs := bs) hs
    exact decide_eq_true (by omega)
theorem so_whole {m o : Nat} {bs : List Bool} {ld : Int} {x : Str} (h1 : (x == ("weights" : Str)) = false) (h2 : (x == ("whole" : Str)) = true) (ho : o < 2 ^ m) : soB m (wt m (valF bs)) ld o x = decide (((2 ^ m : Nat) : Int) - 2 * (distO m bs o : Nat) <= ld) := by
  have := whole_so (bs := bs) (ld := ld) ho
  rw [<- this]
  have x1 : (("whole" : Str) == ("weights" : Str)) = false := by decide
  have x2 : (("whole" : Str) == ("whole" : Str)) = true := by decide
  unfold soB
  rw [h1, h2, x1, x2]
theorem so_none {m o : Nat} {g : Nat -> Int} {ld : Int} {x : Str} (h1 : (x == ("weights" : Str)) = false) (h2 : (x == ("whole" : Str)) = false) : soB m g ld o x = false := by
  unfold soB
  rw [h1, h2]
  rfl
theorem lead_law (m : Nat) (bs nb : List Bool) : ((2 ^ m : Nat) : Int) - 2 * ((difL nb bs (2 ^ m)).length : Nat) = leadF m bs nb := by
  rw [lead_dif, difL_comm]
theorem sq_four (n : Nat) (bs : List Bool) : sumTo (fun j => wt n (valF bs) j * wt n (valF bs) j) (2 ^ n) = ((2 ^ n : Nat) : Int) * ((2 ^ n : Nat) : Int) := by
  rw [wt_mul]
  congr 1
  rw [sumTo_congr (g := fun _ => 1) fun x _ => by unfold valF valB; cases bs.getD x false <;> rfl, sumTo_const, Int.mul_one]
theorem sum_sqs (a b : Nat -> Int) (B C : Int) : ∀ N, sumTo (fun i => (a i * B - b i * C) * (a i * B - b i * C)) N = B * B * sumTo (fun i => a i * a i) N - 2 * B * C * sumTo (fun i => a i * b i) N + C * C * sumTo (fun i => b i * b i) N
  | 0 => by show (0 : Int) = B * B * 0 - 2 * B * C * 0 + C * C * 0; simp
  | n + 1 => by
    show sumTo _ n + (a n * B - b n * C) * (a n * B - b n * C) = B * B * (sumTo (fun i => a i * a i) n + a n * a n) - 2 * B * C * (sumTo (fun i => a i * b i) n + a n * b n) + C * C * (sumTo (fun i => b i * b i) n + b n * b n)
    rw [sum_sqs a b B C n]
    grind
theorem sq_nn (x : Int) : 0 <= x * x := by
  rcases Int.le_total 0 x with h | h
  . exact Int.mul_nonneg h h
  . exact Int.mul_nonneg_of_nonpos_of_nonpos h h
theorem sums_nn {f : Nat -> Int} (h : ∀ j, 0 <= f j) : ∀ n, 0 <= sumTo f n
  | 0 => Int.le_refl _
  | n + 1 => by
    have := sums_nn h n
    have := h n
    show 0 <= sumTo f n + f n
    omega
theorem cauchy (a b : Nat -> Int) (N : Nat) (h : 0 < sumTo (fun i => b i * b i) N) : sumTo (fun i => a i * b i) N * sumTo (fun i => a i * b i) N <= sumTo (fun i => a i * a i) N * sumTo (fun i => b i * b i) N := by
  have e := sum_sqs a b (sumTo (fun i => b i * b i) N) (sumTo (fun i => a i * b i) N) N
  have p := sums_nn (f := fun i => (a i * sumTo (fun i => b i * b i) N - b i * sumTo (fun i => a i * b i) N) * (a i * sumTo (fun i => b i * b i) N - b i * sumTo (fun i => a i * b i) N)) (fun j => sq_nn _) N
  rw [e] at p
  generalize sumTo (fun i => a i * a i) N = A at *
  generalize sumTo (fun i => b i * b i) N = B at *
  generalize sumTo (fun i => a i * b i) N = C at *
  have e2 : B * B * A - 2 * B * C * C + C * C * B = B * (A * B - C * C) := by grind
  rw [e2] at p
  have := Int.nonneg_of_mul_nonneg_right p h
  omega
theorem range_sum (f : Nat -> Int) : ∀ n, ((List.range n).map f).sum = sumTo f n
  | 0 => rfl
  | n + 1 => by
    rw [List.range_succ, List.map_append, List.sum_append, range_sum f n]
    show sumTo f n + (f n + 0) = sumTo f n + f n
    rw [Int.add_zero]
theorem best_wt0 {m o S : Nat} {bs : List Bool} (ho : o < 2 ^ m) (hS : S < 2 ^ m) (h : S &&& o ≠ S) : wt m (valF (bestB m (wt m (valF bs)) o)) S = 0 := by
  by_cases e : wt m (valF (bestB m (wt m (valF bs)) o)) S = 0
  . exact e
  . refine absurd (Nat.eq_of_testBit_eq fun i => ?_) h
    rw [Nat.testBit_and]
    cases hb : S.testBit i with
    | false => rfl
    | true =>
      have hi : i < m := by
        rcases Nat.lt_or_ge i m with z | z
        . exact z
        . have : S < 2 ^ i := Nat.lt_of_lt_of_le hS (Nat.pow_le_pow_right (by decide) z)
          rw [Nat.testBit_lt_two_pow this] at hb
          cases hb
      have hc := (cnt_pos (bestB m (wt m (valF bs)) o) hi).mpr ⟨S, hS, e, hb⟩
      cases ho2 : o.testBit i with
      | true => rfl
      | false =>
        have := best_off (bs := bs) ho hi ho2
        omega
theorem weigh {m o : Nat} {bs : List Bool} (ho : o < 2 ^ m) : (((2 ^ m : Nat) : Int) - 2 * (distO m bs o : Nat)) * (((2 ^ m : Nat) : Int) - 2 * (distO m bs o : Nat)) <= ((List.range (2 ^ m)).map fun s => inF (wt m (valF bs)) o s * inF (wt m (valF bs)) o s).sum := by
  rw [range_sum]
  have h1 : sumTo (fun s => inF (wt m (valF bs)) o s * wt m (valF (bestB m (wt m (valF bs)) o)) s) (2 ^ m) = ((2 ^ m : Nat) : Int) * (((2 ^ m : Nat) : Int) - 2 * (distO m bs o : Nat)) := by
    have e : ((2 ^ m : Nat) : Int) - 2 * (distO m bs o : Nat) = sumTo (fun x => valF (bestB m (wt m (valF bs)) o) x * valF bs x) (2 ^ m) := (dif_sum _ _ _).symm
    rw [e, <- wt_mul]
    refine sumTo_congr fun s hs => ?_
    unfold inF
    by_cases c : s &&& o = s
    . rw [if_pos c, Int.mul_comm]
    . rw [if_neg c, best_wt0 ho hs c, Int.zero_mul, Int.zero_mul]
  have h2 := sq_four m (bestB m (wt m (valF bs)) o)
  have hp : (0 : Int) < ((2 ^ m : Nat) : Int) := by have := Nat.two_pow_pos m; omega
  have h3 := cauchy (fun s => inF (wt m (valF bs)) o s) (fun s => wt m (valF (bestB m (wt m (valF bs)) o)) s) (2 ^ m) (by rw [h2]; exact Int.mul_pos hp hp)
  rw [h1, h2] at h3
  generalize ((2 ^ m : Nat) : Int) - 2 * (distO m bs o : Nat) = A at *
  generalize sumTo (fun s => inF (wt m (valF bs)) o s * inF (wt m (valF bs)) o s) (2 ^ m) = W at *
  generalize ((2 ^ m : Nat) : Int) = M at *
  have e1 : M * A * (M * A) = (A * A) * (M * M) := by grind
  rw [e1] at h3
  exact Int.le_of_mul_le_mul_right h3 (Int.mul_pos hp hp)
theorem sum_le {f g : Nat -> Int} : ∀ rs : List Nat, (∀ r ∈ rs, f r <= g r) -> (rs.map f).sum <= (rs.map g).sum
  | [], _ => Int.le_refl _
  | r :: rs, h => by
    rw [List.map_cons, List.sum_cons, List.map_cons, List.sum_cons]
    have h1 := h r List.mem_cons_self
    have h2 := sum_le rs fun x hx => h x (List.mem_cons_of_mem _ hx)
    omega
theorem dist_min {m o : Nat} {bs : List Bool} (ho : o < 2 ^ m) (h : Nat -> Bool) : distO m bs o <= (difL ((List.range (2 ^ m)).map fun p => h (p &&& o)) bs (2 ^ m)).length := by
  obtain ⟨rs, R⟩ := rs_has o (2 ^ m)
  have h1 := abs_sum (bs := bs) ho R
  have h2 := dif_sum ((List.range (2 ^ m)).map fun p => h (p &&& o)) bs (2 ^ m)
  have h3 : sumTo (fun p => valF ((List.range (2 ^ m)).map fun p => h (p &&& o)) p * valF bs p) (2 ^ m) = sumTo (fun p => (if h (p &&& o) = true then -1 else 1) * valF bs p) (2 ^ m) := sumTo_congr fun p hp => by
    have e : valF ((List.range (2 ^ m)).map fun p => h (p &&& o)) p = if gB ((List.range (2 ^ m)).map fun p => h (p &&& o)) p = true then -1 else 1 := rfl
    have e2 : gB ((List.range (2 ^ m)).map fun p => h (p &&& o)) p = h (p &&& o) := by
      unfold gB
      simp [List.getD_eq_getElem?_getD, hp]
    rw [e, e2]
  rw [h3, <- sum_by (v := valF bs) (g := fun r => if h r = true then -1 else 1) R.nd R.has] at h2
  have h4 := sum_le (f := fun r => (if h r = true then -1 else 1) * setTo (valF bs) o (2 ^ m) r) (g := fun r => (((setTo (valF bs) o (2 ^ m) r).natAbs : Nat) : Int)) rs fun r _ => by
    show (if h r = true then -1 else 1) * setTo (valF bs) o (2 ^ m) r <= _
    split <;> omega
  omega
theorem dist_mono {m s c : Nat} {bs : List Bool} (hs : s < 2 ^ m) (hc : c < 2 ^ m) (h : s &&& c = s) : distO m bs c <= distO m bs s := by
  have h1 := dist_min (bs := bs) hc fun r => decide (setTo (valF bs) s (2 ^ m) (r &&& s) < 0)
  have e : ((List.range (2 ^ m)).map fun p => decide (setTo (valF bs) s (2 ^ m) ((p &&& c) &&& s) < 0)) = bestB m (wt m (valF bs)) s := by
    rw [best_set hs]
    refine List.map_congr_left fun p _ => ?_
    rw [Nat.and_assoc, Nat.and_comm c s, h]
  rw [e] at h1
  exact h1
theorem near_holds {m k : Nat} {bs nb : List Bool} {cs : List (Nat × Str)} (hcs : ∀ c ∈ cs, c.1 < 2 ^ m) (h : nearB m k bs nb cs = true) : ∀ s ∈ setL m (min m k) (2 ^ m), (difL nb bs (2 ^ m)).length <= distO m bs s := by
  unfold nearB at h
  rw [Bool.and_eq_true, Bool.and_eq_true, decide_eq_true_eq] at h
  obtain ⟨⟨_, hld⟩, hcov, hso⟩ := h
  intro s hs
  have hs2 := setL_mem hs
  unfold coversB at hcov
  obtain ⟨c, hc, hsc⟩ := List.any_eq_true.mp (List.all_eq_true.mp hcov s hs)
  have hsc : s &&& c.1 = s := of_decide_eq_true hsc
  have hc2 := hcs c hc
  have hcso := List.all_eq_true.mp hso c hc
  have hl := lead_law m bs nb
  have hmo := dist_mono (bs := bs) hs2 hc2 hsc
  have key : ((2 ^ m : Nat) : Int) - 2 * (distO m bs c.1 : Nat) <= leadF m bs nb := by
    cases x1 : (c.2 == ("weights" : Str)) with
    | true =>
      unfold soB at hcso
      rw [if_pos x1] at hcso
      have h1 := of_decide_eq_true hcso
      have h2 := weigh (bs := bs) hc2
      have h3 := dist_half (bs := bs) hc2
      generalize ((2 ^ m : Nat) : Int) - 2 * (distO m bs c.1 : Nat) = A at *
      generalize leadF m bs nb = L at *
      have h4 := Int.le_trans h2 h1
      rcases Int.lt_or_le L A with z | z
      . have a1 : L * L <= L * A := Int.mul_le_mul_of_nonneg_left (by omega) hld
        have a2 : L * A < A * A := Int.mul_lt_mul_of_pos_right z (by omega)
        omega
      . exact z
    | false =>
      cases x2 : (c.2 == ("whole" : Str)) with
      | true =>
        rw [so_whole x1 x2 hc2] at hcso
        exact of_decide_eq_true hcso
      | false =>
        rw [so_none x1 x2] at hcso
        cases hcso
  omega
theorem reps_drop {H : Hp} : ∀ (n : Nat) {ds : List Dv} {us : List V}, Reps K H ds us -> Reps K H (ds.drop n) (us.drop n)
  | 0, _, _, h => h
  | n + 1, [], us, h => by unfold Reps at h; subst h; exact reps_nil
  | n + 1, d :: ds, us, h => by
    unfold Reps at h
    obtain ⟨x, l, rfl, _, h⟩ := h
    exact reps_drop n h
theorem reps_take {H : Hp} : ∀ (n : Nat) {ds : List Dv} {us : List V}, Reps K H ds us -> Reps K H (ds.take n) (us.take n)
  | 0, _, _, _ => by rw [List.take_zero, List.take_zero]; exact reps_nil
  | n + 1, [], us, h => by unfold Reps at h; subst h; exact reps_nil
  | n + 1, d :: ds, us, h => by
    unfold Reps at h
    obtain ⟨x, l, rfl, r, h⟩ := h
    exact reps_cons r (reps_take n h)
theorem none_back {H H' : Hp} {p : Addr} (s : Same H H') (h : H' p = none) : H p = none := by
  cases e : H p with
  | none => rfl
  | some o => rw [s _ _ e] at h; cases h
theorem bit_eq (x k : Nat) : (x / 2 ^ k % 2 == 1) = x.testBit k := by
  rw [Nat.testBit_eq_decide_div_mod_eq]
  rfl
theorem bitL_inj {m a b : Nat} (ha : a < 2 ^ m) (hb : b < 2 ^ m) (h : bitL m a = bitL m b) : a = b := by
  refine Nat.eq_of_testBit_eq fun k => ?_
  by_cases hk : k < m
  . have h1 : (bitL m a)[k]? = (bitL m b)[k]? := by rw [h]
    unfold bitL at h1
    rw [List.getElem?_map, List.getElem?_map, List.getElem?_range hk] at h1
    have h2 : (a / 2 ^ k % 2 == 1) = (b / 2 ^ k % 2 == 1) := Option.some.inj h1
    rw [bit_eq, bit_eq] at h2
    exact h2
  . have hp : 2 ^ m <= 2 ^ k := Nat.pow_le_pow_right (by decide) (by omega)
    rw [Nat.testBit_lt_two_pow (by omega), Nat.testBit_lt_two_pow (by omega)]
theorem shared_and (m a b : Nat) : shared m a b = bitL m (a &&& b) := by
  unfold shared bitL
  refine List.ext_getElem? fun i => ?_
  by_cases hi : i < m
  . have e := Nat.testBit_and a b i
    rw [<- bit_eq, <- bit_eq, <- bit_eq] at e
    simp [List.getElem?_map, List.getElem?_zip_eq_some, hi]
    simpa using e.symm
  . simp [hi]
def sp_ins : Sp := fun vs H Q _ => match vs with
  | [.int n, .int x, .int y] => ∃ m a b : Nat, n = m /\ x = a /\ y = b /\ m <= 6 /\ outT H Q ((bitL m (a &&& b)).map V.bl)
  | _ => False
theorem sp_ins_mono : SpMono sp_ins := fun vs H Q Q' E h q => by
  unfold sp_ins at *
  split at q
  . revert q; repeat' first | exact h _ _ | exact newL_mono h | exact out_mono h | exact outT_mono h | walk_at "m"
  . exact q.elim
theorem ok__law_inside : FnOk P w K mg base CX0 3 T.f__law_inside T.d__law_inside ["_law_n", "_law_place", "_law_some"] sp_ins := by
  have G__law_bits := ok__law_bits (P := P) (w := w) (base := base) T
  refine T.F__law_inside.ok sc__law_inside (fun vs H Q E h => by unfold sp_ins at h; split at h <;> first | rfl | exact h.elim) (fun cdv A outer s H vs Q E hr h => ?_)
  have hu := hu60 hr
  have hr__law_bits := hr.mono (show 2 <= _ by decide)
  unfold sp_ins at h
  split at h
  rotate_left
  . exact h.elim
  rename_i n x y
  obtain ⟨m, a, b, e1, e2, e3, h1, q⟩ := h
  subst e1 e2 e3
  rw [<- shared_and] at q
  refine ⟨_, (@pss_one _ _ _ (@ps_ret _ _ _ _ (@pe_callTy _ _ _ _ _ _ _ _ _ (kTuple (K := K)) rfl T.z_tuple (by rfl) (@pa1 _ _ _ (@pe_compB _ _ _ _ _ _ _ (["_law_a", "_law_b"]) 2 [] _ _ _ _ rfl (@kZip _ K _ _ _ _ _ _ _ _ rfl T.z_zip (@pa_cons _ _ _ _ _ (@pe_call _ _ _ _ _ _ _ _ _ _ _ _ _ _ _ _ G__law_bits hr__law_bits rfl T.m__law_bits T.F__law_bits.kp T.b__law_bits .nil pass0 (@pa_cons _ _ _ _ _ (@vw _ 0 _ _ (by walk_at "v")) (@pa1 _ _ _ (@vw _ 1 _ _ (by walk_at "v")) (by rfl)) (by rfl)) (by decide) (by rfl) (by rfl)) (@pa1 _ _ _ (@pe_call _ _ _ _ _ _ _ _ _ _ _ _ _ _ _ _ G__law_bits hr__law_bits rfl T.m__law_bits T.F__law_bits.kp T.b__law_bits .nil pass0 (@pa_cons _ _ _ _ _ (@vw _ 0 _ _ (by walk_at "v")) (@pa1 _ _ _ (@vw _ 2 _ _ (by walk_at "v")) (by rfl)) (by rfl)) (by decide) (by rfl) (by rfl)) (by rfl)) (by rfl)) (by rfl) (by rfl) (by rfl)) (by kernel_rfl) rfl rfl (by kernel_rfl) (fun c => @kTup _ K _ _ _ _ 2 rfl (@pgs_cons _ _ _ _ _ (@pg_name _ _ 0 _ (show (["_law_a", "_law_b"] : List Str).Nodup by decide +kernel) rfl (by walk_at "e") (by walk_at "i")) (@pgs_cons _ _ _ _ _ (@pg_name _ _ 1 _ (show (["_law_a", "_law_b"] : List Str).Nodup by decide +kernel) rfl (by walk_at "e") (by walk_at "i")) (@pgs_nil _) (by rfl)) (by rfl)) (by rfl) (by rfl) (by rfl)) (go_tup (gos_cons gm_name (gms_cons gm_name gms_nil) (go_name (by decide)) (gos_cons gm_name gms_nil (go_name (by decide)) gos_nil))) (fun c => @pts_nil _) (fun c => (@pe_andM _ _ _ _ _ _ _ (@vw _ 0 _ _ (by walk_at "v")) (@pe_one _ _ _ _ _ (@vw _ 1 _ _ (by walk_at "v"))))) (by intro _; rfl)) (by rfl)) (by decide) (by decide) (by rfl) (by rfl)))), ?_⟩
  refine ⟨m, a, rfl, rfl, h1, fun p1 H1 n1 s1 g1 => ⟨m, b, rfl, rfl, h1, fun p2 H2 n2 s2 g2 => ?_⟩⟩
  have g1' := s2 _ _ g1
  refine ⟨⟨_, .of g1'⟩, ⟨_, .of g2⟩, ?_⟩
  refine comp_zip (xs := (bitL m a).map V.bl) (ys := (bitL m b).map V.bl) (fun i zs H' => Same H2 H' /\ zs = ((shared m a b).take i).map V.bl) ⟨Same.refl _, rfl⟩ (by rw [List.length_map, List.length_map, bitL_len, bitL_len])
    (fun i zs H' _ ⟨s, _⟩ => ⟨.of (s _ _ g1'), .of (s _ _ g2)⟩) (fun i zs H' hi ⟨_, e⟩ => by
      rw [List.length_map, bitL_len] at hi
      rw [e]; exact small1000 (by rw [List.length_map, List.length_take]; omega)) ?_ ?_
  . rintro i u v zs H' p hx hy ⟨s, rfl⟩ hp
    have hi : i < m := by
      have := (List.getElem?_eq_some_iff.mp hx).1
      rw [List.length_map, bitL_len] at this
      exact this
    have ex : u = .bl (a / 2 ^ i % 2 == 1) := by
      rw [List.getElem?_map, show bitL m a = (List.range m).map _ from rfl, List.getElem?_map, List.getElem?_range hi] at hx
      exact (Option.some.inj hx).symm
    have ey : v = .bl (b / 2 ^ i % 2 == 1) := by
      rw [List.getElem?_map, show bitL m b = (List.range m).map _ from rfl, List.getElem?_map, List.getElem?_range hi] at hy
      exact (Option.some.inj hy).symm
    subst ex ey
    refine ⟨p, _, rfl, .of upd_same, rfl, _, _, rfl, _, _, rfl, rfl, ?_⟩
    have s' : Same H2 (upd H' p (.tup [.bl (a / 2 ^ i % 2 == 1), .bl (b / 2 ^ i % 2 == 1)])) := s.trans (Same.upd hp)
    refine ite2 (fun e => ?_) (fun e => ?_)
    . refine ⟨s', ?_⟩
      rw [shared_take hi, List.map_append, e, Bool.true_and]
      rfl
    . refine ⟨s', ?_⟩
      have e : (a / 2 ^ i % 2 == 1) = false := by simpa using e
      rw [shared_take hi, List.map_append, e, Bool.false_and]
      rfl
  rintro zs H' ⟨s, rfl⟩ l hl
  have hlen : ((bitL m a).map V.bl).length = m := by rw [List.length_map, bitL_len]
  have sl : (shared m a b).length = m := by unfold shared; simp [bitL_len]
  rw [hlen, List.take_of_length_le (by omega)]
  refine ⟨_, .inl ⟨.of upd_same, fun p hp => ?_⟩⟩
  have S := ((s1.trans s2).trans s).trans (Same.upd (o := .lst ((shared m a b).map V.bl)) hl)
  exact q p _ (none_back S hp) (S.trans (Same.upd hp)) upd_same
def kvB (v : Nat -> Int) (ad : Nat -> Addr) (m o i : Nat) (rs : List Nat) : BV := rs.map fun r => (bitL m r, ad r, V.int (setTo v o i r))
theorem kvB_len (v : Nat -> Int) (ad : Nat -> Addr) (m o i : Nat) (rs : List Nat) : (kvB v ad m o i rs).length = rs.length := by unfold kvB; simp
theorem kvB_keys {H : Hp} {v : Nat -> Int} {ad : Nat -> Addr} {m o i : Nat} {rs : List Nat} (h : ∀ r ∈ rs, H (ad r) = some (.tup ((bitL m r).map V.bl))) : KeysV H (kvB v ad m o i rs) := by
  intro q hq
  unfold kvB at hq
  obtain ⟨r, hr, rfl⟩ := List.mem_map.mp hq
  exact h r hr
theorem kvB_val (v : Nat -> Int) (ad : Nat -> Addr) (m o i : Nat) {r : Nat} (hr : r < 2 ^ m) : ∀ rs : List Nat, (∀ x ∈ rs, x < 2 ^ m) -> atB (kvB v ad m o i rs) (bitL m r) = if r ∈ rs then some (.int (setTo v o i r)) else none
  | [], _ => rfl
  | x :: rs, h => by
    have ih := kvB_val v ad m o i hr rs fun y hy => h y (List.mem_cons_of_mem _ hy)
    unfold atB kvB at *
    rw [List.map_cons, List.find?_cons]
    by_cases e : x = r
    . subst e
      rw [if_pos List.mem_cons_self]
      simp
    . have h1 : ¬ bitL m x = bitL m r := fun z => e (bitL_inj (h x List.mem_cons_self) hr z)
      simp only [h1, decide_false]
      rw [ih]
      by_cases hm : r ∈ rs
      . rw [if_pos hm, if_pos (List.mem_cons_of_mem _ hm)]
      . rw [if_neg hm, if_neg (fun z => (List.mem_cons.mp z).elim (fun z => e z.symm) hm)]
theorem and_lt {m i o : Nat} (hi : i < 2 ^ m) : i &&& o < 2 ^ m := Nat.lt_of_le_of_lt Nat.and_le_left hi
theorem RsAt.lt {o i m : Nat} {rs : List Nat} (R : RsAt o i rs) (hi : i <= 2 ^ m) : ∀ x ∈ rs, x < 2 ^ m := fun x hx => by
  obtain ⟨p, h1, h2⟩ := R.only x hx
  rw [<- h2]
  exact and_lt (by omega)
theorem kvB_get {v : Nat -> Int} {ad : Nat -> Addr} {m o i : Nat} {rs : List Nat} (R : RsAt o i rs) (hi : i < 2 ^ m) : (atB (kvB v ad m o i rs) (bitL m (i &&& o))).getD (.int 0) = .int (setTo v o i (i &&& o)) := by
  rw [kvB_val v ad m o i (and_lt hi) rs (R.lt (Nat.le_of_lt hi))]
  by_cases hm : (i &&& o) ∈ rs
  . rw [if_pos hm]; rfl
  . rw [if_neg hm, setTo_none (v := v) (o := o) (r := i &&& o) (i := i) fun p hp z => hm (by rw [<- z]; exact R.has p hp)]; rfl
def adB (ad : Nat -> Addr) (rs : List Nat) (x : Nat) (b : Addr) : Nat -> Addr := fun r => if x ∈ rs then ad r else if r = x then b else ad r
def rsB (rs : List Nat) (x : Nat) : List Nat := if x ∈ rs then rs else rs ++ [x]
theorem RsAt.step {o i : Nat} {rs : List Nat} (R : RsAt o i rs) : RsAt o (i + 1) (rsB rs (i &&& o)) := by
  unfold rsB
  by_cases hm : (i &&& o) ∈ rs
  . rw [if_pos hm]
    refine ⟨R.nd, fun p hp => ?_, fun r hr => ?_, Nat.le_succ_of_le R.len⟩
    . by_cases e : p = i
      . subst e; exact hm
      . exact R.has p (by omega)
    . obtain ⟨p, h1, h2⟩ := R.only r hr
      exact ⟨p, by omega, h2⟩
  . rw [if_neg hm]
    refine ⟨?_, fun p hp => ?_, fun r hr => ?_, by rw [List.length_append]; exact Nat.succ_le_succ R.len⟩
    . rw [List.nodup_append]
      refine ⟨R.nd, by simp, fun a ha b hb => ?_⟩
      rw [List.mem_singleton.mp hb]
      exact fun z => hm (z ▸ ha)
    . by_cases e : p = i
      . subst e; exact List.mem_append_right _ List.mem_cons_self
      . exact List.mem_append_left _ (R.has p (by omega))
    . rcases List.mem_append.mp hr with hr | hr
      . obtain ⟨p, h1, h2⟩ := R.only r hr
        exact ⟨p, by omega, h2⟩
      . exact ⟨i, by omega, (List.mem_singleton.mp hr).symm⟩
theorem kvB_put {v : Nat -> Int} {ad : Nat -> Addr} {m o i : Nat} {rs : List Nat} {b : Addr} (R : RsAt o i rs) (hi : i < 2 ^ m) : setAtB (kvB v ad m o i rs) (bitL m (i &&& o)) b (.int (setTo v o i (i &&& o) + v i)) = kvB v (adB ad rs (i &&& o) b) m o (i + 1) (rsB rs (i &&& o)) := by
  have hl := R.lt (Nat.le_of_lt hi)
  have hv := kvB_val v ad m o i (and_lt (o := o) hi) rs hl
  unfold setAtB
  rw [hv]
  unfold rsB adB
  by_cases hm : (i &&& o) ∈ rs
  . rw [if_pos hm, if_pos (by rfl), if_pos hm]
    unfold kvB
    rw [List.map_map]
    refine List.map_congr_left fun r hr => ?_
    show (if bitL m r = bitL m (i &&& o) then _ else _) = _
    dsimp only
    rw [if_pos hm]
    by_cases e : r = i &&& o
    . subst e
      rw [if_pos rfl, setTo_succ, if_pos rfl]
    . rw [if_neg (fun z => e (bitL_inj (hl r hr) (and_lt hi) z)), setTo_succ, if_neg (Ne.symm e), Int.add_zero]
  . rw [if_neg hm, if_neg (by decide), if_neg hm]
    unfold kvB
    rw [List.map_append]
    congr 1
    . refine List.map_congr_left fun r hr => ?_
      have e : ¬ r = i &&& o := fun z => hm (z ▸ hr)
      dsimp only
      rw [if_neg hm, if_neg e, setTo_succ, if_neg (Ne.symm e), Int.add_zero]
    . rw [List.map_cons, List.map_nil]
      dsimp only
      rw [if_neg hm, if_pos rfl, setTo_succ, if_pos rfl]
theorem adB_keys {H : Hp} {ad : Nat -> Addr} {m : Nat} {rs : List Nat} {x : Nat} {b : Addr} (h : ∀ r ∈ rs, H (ad r) = some (.tup ((bitL m r).map V.bl))) (hb : H b = some (.tup ((bitL m x).map V.bl))) : ∀ r ∈ rsB rs x, H (adB ad rs x b r) = some (.tup ((bitL m r).map V.bl)) := by
  intro r hr
  unfold rsB at hr
  unfold adB
  by_cases hm : x ∈ rs
  . rw [if_pos hm] at hr ⊢
    exact h r hr
  . rw [if_neg hm] at hr ⊢
    by_cases e : r = x
    . rw [if_pos e, e]; exact hb
    . rw [if_neg e]
      rcases List.mem_append.mp hr with z | z
      . exact h r z
      . exact absurd (List.mem_singleton.mp z) e
def yesF (bs : List Bool) (p : Nat) : Int := if gB bs p = true then 1 else 0
theorem setTo_val (bs : List Bool) (o r : Nat) : ∀ i, setTo (valF bs) o i r = setTo (fun _ => 1) o i r - 2 * setTo (yesF bs) o i r
  | 0 => rfl
  | i + 1 => by
    rw [setTo_succ, setTo_succ, setTo_succ, setTo_val bs o r i]
    have e : valF bs i = 1 - 2 * yesF bs i := by
      show (if gB bs i = true then (-1 : Int) else 1) = 1 - 2 * (if gB bs i = true then 1 else 0)
      split <;> rfl
    by_cases c : i &&& o = r
    . rw [if_pos c, if_pos c, if_pos c, e]; omega
    . rw [if_neg c, if_neg c, if_neg c]; omega
theorem sum_two (f : Nat -> Int) : ∀ rs : List Nat, (rs.map fun r => 2 * f r).sum = 2 * (rs.map f).sum
  | [] => rfl
  | r :: rs => by
    rw [List.map_cons, List.sum_cons, List.map_cons, List.sum_cons, sum_two f rs]
    omega
theorem min_dist {m o : Nat} {bs : List Bool} {rs : List Nat} (ho : o < 2 ^ m) (R : RsAt o (2 ^ m) rs) : (rs.map fun r => min (setTo (yesF bs) o (2 ^ m) r) (setTo (fun _ => 1) o (2 ^ m) r - setTo (yesF bs) o (2 ^ m) r)).sum = ((distO m bs o : Nat) : Int) := by
  have h1 := abs_sum (bs := bs) ho R
  have h2 := sum_by (v := fun _ => 1) (g := fun _ => 1) R.nd R.has
  have h3 : sumTo (fun _ => (1 : Int) * 1) (2 ^ m) = ((2 ^ m : Nat) : Int) := by
    have : ∀ n, sumTo (fun _ => (1 : Int) * 1) n = (n : Int) := fun n => by
      induction n with
      | zero => rfl
      | succ n ih => show sumTo (fun _ => (1 : Int) * 1) n + 1 * 1 = _; rw [ih]; omega
    exact this _
  rw [h3] at h2
  have h4 := sum_two (fun r => min (setTo (yesF bs) o (2 ^ m) r) (setTo (fun _ => 1) o (2 ^ m) r - setTo (yesF bs) o (2 ^ m) r)) rs
  have h5 := sum_add (fun r => 2 * min (setTo (yesF bs) o (2 ^ m) r) (setTo (fun _ => 1) o (2 ^ m) r - setTo (yesF bs) o (2 ^ m) r)) (fun r => (((setTo (valF bs) o (2 ^ m) r).natAbs : Nat) : Int)) rs
  have h6 : (rs.map fun r => 2 * min (setTo (yesF bs) o (2 ^ m) r) (setTo (fun _ => 1) o (2 ^ m) r - setTo (yesF bs) o (2 ^ m) r) + (((setTo (valF bs) o (2 ^ m) r).natAbs : Nat) : Int)) = rs.map fun r => 1 * setTo (fun _ => 1) o (2 ^ m) r := List.map_congr_left fun r _ => by
    rw [setTo_val]
    omega
  rw [h6] at h5
  omega
def sp_dfs (K : W.Frag) : Sp := fun vs H Q _ => match vs with
  | [.int n, .ref tp, .int z] => ∃ (m o : Nat) (bs : List Bool), n = m /\ z = o /\ SqT K H tp (bs.map V.bl) /\ bs.length = 2 ^ m /\ m <= 6 /\ o < 2 ^ m /\ out H Q (.int (distO m bs o : Nat))
  | _ => False
theorem sp_dfs_mono : SpMono (sp_dfs K) := fun vs H Q Q' E h q => by
  unfold sp_dfs at *
  split at q
  . revert q; repeat' first | exact h _ _ | exact newL_mono h | exact out_mono h | exact outT_mono h | walk_at "m"
  . exact q.elim
theorem ok__law_differs : FnOk P w K mg base CX0 4 T.f__law_differs T.d__law_differs ["_law_n", "_law_table_here", "_law_some"] (sp_dfs K) := by
  have G__law_inside := ok__law_inside (P := P) (w := w) (base := base) T
  refine T.F__law_differs.ok sc__law_differs (fun vs H Q E h => by unfold sp_dfs at h; split at h <;> first | rfl | exact h.elim) (fun cdv A outer s H vs Q E hr h => ?_)
  have hu := hu60 hr
  have mo1 : SpMono sp_ins := sp_ins_mono
  have hr__law_inside := hr.mono (show 3 <= _ by decide)
  unfold sp_dfs at h
  split at h
  rotate_left
  . exact h.elim
  rename_i n tp z
  obtain ⟨m, o, bs, e1, e2, ht, hb, m6, ho, q⟩ := h
  subst e1 e2
  have h64 : 2 ^ m <= 64 := Nat.pow_le_pow_right (n := 2) (by decide) m6
  have i1 : ((2 ^ m : Nat) : Int) <= 64 := Int.ofNat_le.mpr h64
  have hmd := fun rs R => min_dist (bs := bs) (rs := rs) ho R
  refine ⟨_, (@pss_cons _ _ _ _ _ (@ps_set _ _ 3 _ _ _ _ sc__law_differs.nd rfl (by walk_at "e") (@kNewV _ P w _ (by rfl) (by rfl)) (by rfl) (by walk_at "i")) (@pss_cons _ _ _ _ _ (@ps_set _ _ 4 _ _ _ _ sc__law_differs.nd rfl (by walk_at "e") (@kNewV _ P w _ (by rfl) (by rfl)) (by rfl) (by walk_at "i")) (@pss_cons _ _ _ _ _ (@ps_for _ _ _ _ _ _ _ _ PassesOwn.never rfl (@pi_range1 _ _ _ _ _ _ rfl T.z_range (@pa1 _ _ _ (@pe_callB _ _ _ _ _ _ _ _ _ (kLen (K := K)) rfl T.z_len (by rfl) (@pa1 _ _ _ (@vw _ 1 _ _ (by walk_at "v")) (by rfl)) (by decide) (by decide) (by rfl) (by rfl)) (by rfl)) (by rfl)) (@pg_name _ _ 5 _ sc__law_differs.nd rfl (by walk_at "e") (by walk_at "i")) (@pss_cons _ _ _ _ _ (@ps_set _ _ 6 _ _ _ _ sc__law_differs.nd rfl (by walk_at "e") (@pe_call _ _ _ _ _ _ _ _ _ _ _ _ _ _ _ _ G__law_inside hr__law_inside rfl T.m__law_inside T.F__law_inside.kp T.b__law_inside .nil pass0 (@pa_cons _ _ _ _ _ (@vw _ 0 _ _ (by walk_at "v")) (@pa_cons _ _ _ _ _ (@vw _ 5 _ _ (by walk_at "v")) (@pa1 _ _ _ (@vw _ 2 _ _ (by walk_at "v")) (by rfl)) (by rfl)) (by rfl)) (by decide) (by rfl) (by rfl)) (by rfl) (by walk_at "i")) (@pss_cons _ _ _ _ _ (@ps_asg _ _ _ _ _ _ (@pe_op _ _ _ _ _ _ _ _ (kAdd (K := K)) (@kGet2V _ P w _ _ _ _ _ _ _ _ hu (@vw _ 4 _ _ (by walk_at "v")) (@vw _ 6 _ _ (by walk_at "v")) (@pe_int _ _ _ _) ⟨by rfl, by rfl, by rfl, by rfl⟩ (by rfl) (by rfl)) (@pe_int _ _ _ _)) (@pg_sub _ _ _ _ _ _ _ (@vw _ 4 _ _ (by walk_at "v")) (@vw _ 6 _ _ (by walk_at "v")) (kSetV (P := P) (w := w) hu) (by intro _; rfl)) (by rfl) (by rfl) (by rfl)) (@pss_one _ _ _ (@ps_asg _ _ _ _ _ _ (@pe_op _ _ _ _ _ _ _ _ (kAdd (K := K)) (@kGet2V _ P w _ _ _ _ _ _ _ _ hu (@vw _ 3 _ _ (by walk_at "v")) (@vw _ 6 _ _ (by walk_at "v")) (@pe_int _ _ _ _) ⟨by rfl, by rfl, by rfl, by rfl⟩ (by rfl) (by rfl)) (@pe_callTy _ _ _ _ _ _ _ _ _ cm_int rfl T.z_int (by rfl) (@pa1 _ _ _ (@kIx _ K _ _ _ _ _ (@vw _ 1 _ _ (by walk_at "v")) (@vw _ 5 _ _ (by walk_at "v")) (by intro _ _; rfl) (by rfl)) (by rfl)) (by decide) (by decide) (by rfl) (by rfl))) (@pg_sub _ _ _ _ _ _ _ (@vw _ 3 _ _ (by walk_at "v")) (@vw _ 6 _ _ (by walk_at "v")) (kSetV (P := P) (w := w) hu) (by intro _; rfl)) (by rfl) (by rfl) (by rfl))))) (by intro _; rfl)) (@pss_one _ _ _ (@ps_ret _ _ _ _ (@pe_callB _ _ _ _ _ _ _ _ _ (kSum (K := K) rfl) rfl T.z_sum (by rfl) (@pa1 _ _ _ (@pe_compB _ _ _ _ _ _ _ (["_law_key", "_law_yes", "_law_many"]) 1 ([3, 4]) _ _ _ _ rfl (@kKeysV P w _ _ _ _ (@vw _ 4 _ _ (by walk_at "v")) (by rfl) (by rfl)) (by kernel_rfl) rfl rfl (by kernel_rfl) (fun c => @pg_name _ _ 0 _ (show (["_law_key", "_law_yes", "_law_many"] : List Str).Nodup by decide +kernel) rfl (by walk_at "e") (by walk_at "i")) (go_name (by decide)) (fun c => @pts_nil _) (fun c => (@pe_callB _ _ _ _ _ _ _ _ _ (cm_min rfl) rfl T.z_min (by rfl) (@pa_cons _ _ _ _ _ (@kGetV _ P w _ _ _ _ _ hu (@vw _ 1 _ _ (by walk_at "v")) (@vw _ 0 _ _ (by walk_at "v")) (by intro _ _; rfl) (by rfl) (by rfl)) (@pa1 _ _ _ (@pe_op _ _ _ _ _ _ _ _ om_sub (@kGetV _ P w _ _ _ _ _ hu (@vw _ 2 _ _ (by walk_at "v")) (@vw _ 0 _ _ (by walk_at "v")) (by intro _ _; rfl) (by rfl) (by rfl)) (@kGetV _ P w _ _ _ _ _ hu (@vw _ 1 _ _ (by walk_at "v")) (@vw _ 0 _ _ (by walk_at "v")) (by intro _ _; rfl) (by rfl) (by rfl))) (by rfl)) (by rfl)) (by decide) (by decide) (by rfl) (by rfl))) (by intro _; rfl)) (by rfl)) (by decide) (by decide) (by rfl) (by rfl))))))), ?_⟩
  refine fun d1 n1 => ?_
  dsimp only [gName]
  refine fun d2 n2 => ?_
  dsimp only [gName]
  have s1 : Same H (upd H d1 (dV P w d1 [])) := Same.upd n1
  have s2 : Same H (upd (upd H d1 (dV P w d1 [])) d2 (dV P w d2 [])) := s1.trans (Same.upd n2)
  have d12 : d1 ≠ d2 := fun e => by rw [<- e, upd_same] at n2; cases n2
  have n2' : H d2 = none := none_back s1 n2
  have g1 : upd (upd H d1 (dV P w d1 [])) d2 (dV P w d2 []) d1 = some (dV P w d1 []) := by rw [upd_ne d12]; exact upd_same
  have g2 : upd (upd H d1 (dV P w d1 [])) d2 (dV P w d2 []) d2 = some (dV P w d2 []) := upd_same
  generalize upd (upd H d1 (dV P w d1 [])) d2 (dV P w d2 []) = Ha at *
  refine seq_at (fun σ H' => ∃ (z5 z6 : Option V) (rs : List Nat) (ad : Nat -> Addr), σ = [some (.int (m : Int)), some (.ref tp), some (.int (o : Int)), some (.ref d1), some (.ref d2), z5, z6] /\ Same H H' /\ H' d1 = some (dV P w d1 (kvB (yesF bs) ad m o (2 ^ m) rs)) /\ H' d2 = some (dV P w d2 (kvB (fun _ => 1) ad m o (2 ^ m) rs)) /\ RsAt o (2 ^ m) rs /\ ∀ r ∈ rs, H' (ad r) = some (.tup ((bitL m r).map V.bl))) ?_ ?_ (by walk_at "sm")
  . refine ⟨2 ^ m, .inr ⟨_, s2.sqT ht, by rw [List.length_map, hb]⟩, ((2 ^ m : Nat) : Int), rfl, by omega, by omega, ?_⟩
    refine for_range (fun i σ H' => ∃ (z5 z6 : Option V) (rs : List Nat) (ad : Nat -> Addr), σ = [some (.int (m : Int)), some (.ref tp), some (.int (o : Int)), some (.ref d1), some (.ref d2), z5, z6] /\ Same H H' /\ H' d1 = some (dV P w d1 (kvB (yesF bs) ad m o i rs)) /\ H' d2 = some (dV P w d2 (kvB (fun _ => 1) ad m o i rs)) /\ RsAt o i rs /\ ∀ r ∈ rs, H' (ad r) = some (.tup ((bitL m r).map V.bl))) ⟨_, _, [], fun _ => 0, rfl, s2, g1, g2, ⟨List.nodup_nil, (fun p hp => by omega), (fun r hr => by cases hr), Nat.le_refl _⟩, fun r hr => by cases hr⟩ ?_ ?_
    . rintro i σ H1 hi ⟨z5, z6, rs, ad, rfl, s1, g1, g2, R, hk⟩
      have hi' : i < 2 ^ m := by omega
      have hlen := R.len
      rw [show (0 : Int) + (i : Int) = (i : Int) from Int.zero_add _]
      dsimp only [gName]
      refine ⟨m, i, o, rfl, rfl, rfl, m6, fun kk H2 nk sk gk => ?_⟩
      dsimp only [gName]
      have g1 := sk _ _ g1
      have g2 := sk _ _ g2
      have hk : ∀ r ∈ rs, H2 (ad r) = some (.tup ((bitL m r).map V.bl)) := fun r hr => sk _ _ (hk r hr)
      have s2 := s1.trans sk
      have get1 := kvB_get (v := yesF bs) (ad := ad) R hi'
      have get2 := kvB_get (v := fun _ => 1) (ad := ad) R hi'
      have put1 := kvB_put (v := yesF bs) (ad := ad) (b := kk) R hi'
      have put2 := kvB_put (v := fun _ => 1) (ad := ad) (b := kk) R hi'
      have l1 := kvB_len (yesF bs) ad m o i rs
      have l2 := kvB_len (fun _ => 1) ad m o i rs
      have K1 := kvB_keys (v := yesF bs) (o := o) (i := i) hk
      have K2 := kvB_keys (v := fun _ => 1) (o := o) (i := i) hk
      have k12 : kk ≠ d1 := fun e => by rw [e, g1] at gk; exact nomatch gk
      have k22 : kk ≠ d2 := fun e => by rw [e, g2] at gk; exact nomatch gk
      have hk' := adB_keys hk gk
      have R' := R.step
      generalize kvB (yesF bs) ad m o i rs = y1 at *
      generalize kvB (fun _ => 1) ad m o i rs = y2 at *
      refine ⟨d2, y2, rfl, .inl g2, K2, kk, bitL m (i &&& o), y2, rfl, gk, .inl g2, K2, ?_⟩
      dsimp only [tC, mAdd]
      rw [get2]
      refine ⟨y2, bitL m (i &&& o), gk, g2, K2, small1000 (by omega), ?_⟩
      rw [put2]
      have g1' : upd H2 d2 (dV P w d2 (kvB (fun _ => 1) (adB ad rs (i &&& o) kk) m o (i + 1) (rsB rs (i &&& o)))) d1 = some (dV P w d1 y1) := by rw [upd_ne d12]; exact g1
      have gk' : upd H2 d2 (dV P w d2 (kvB (fun _ => 1) (adB ad rs (i &&& o) kk) m o (i + 1) (rsB rs (i &&& o)))) kk = some (.tup ((bitL m (i &&& o)).map V.bl)) := by rw [upd_ne k22]; exact gk
      have K1' := K1.upd (o := dV P w d2 (kvB (fun _ => 1) (adB ad rs (i &&& o) kk) m o (i + 1) (rsB rs (i &&& o)))) g2
      have s3 : Same H (upd H2 d2 (dV P w d2 (kvB (fun _ => 1) (adB ad rs (i &&& o) kk) m o (i + 1) (rsB rs (i &&& o))))) := same_put s2 n2'
      have g2' := upd_same (H := H2) (a := d2) (o := dV P w d2 (kvB (fun _ => 1) (adB ad rs (i &&& o) kk) m o (i + 1) (rsB rs (i &&& o))))
      have hk3 : ∀ r ∈ rsB rs (i &&& o), upd H2 d2 (dV P w d2 (kvB (fun _ => 1) (adB ad rs (i &&& o) kk) m o (i + 1) (rsB rs (i &&& o)))) (adB ad rs (i &&& o) kk r) = some (.tup ((bitL m r).map V.bl)) := fun r hr => by
        have := hk' r hr
        rw [upd_ne (fun e => by rw [e, g2] at this; exact nomatch this)]
        exact this
      generalize upd H2 d2 (dV P w d2 (kvB (fun _ => 1) (adB ad rs (i &&& o) kk) m o (i + 1) (rsB rs (i &&& o)))) = H3 at *
      refine ⟨d1, y1, rfl, .inl g1', K1', kk, bitL m (i &&& o), y1, rfl, gk', .inl g1', K1', ?_⟩
      rw [get1]
      refine ⟨_, .bl (gB bs i), .inr (s3.sqT ht), gB_at (by omega), ?_⟩
      have ey : (setTo (yesF bs) o i (i &&& o) + if gB bs i = true then 1 else 0) = setTo (yesF bs) o i (i &&& o) + yesF bs i := rfl
      refine ⟨y1, bitL m (i &&& o), gk', g1', K1', small1000 (by omega), ?_⟩
      refine ⟨_, _, rsB rs (i &&& o), adB ad rs (i &&& o) kk, rfl, same_put s3 n1, ?_, ?_, R', fun r hr => ?_⟩
      . rw [<- put1]; exact upd_same
      . rw [upd_ne (Ne.symm d12)]; exact g2'
      . have := hk3 r hr
        rw [upd_ne (fun e => by rw [e, g1'] at this; exact nomatch this)]
        exact this
    . rintro σ H1 h
      rw [Int.toNat_natCast] at h
      exact h
  rintro σ H1 ⟨z5, z6, rs, ad, rfl, s1, g1, g2, R, hk⟩
  have hm := hmd rs R
  have l2 := kvB_len (fun _ => 1) ad m o (2 ^ m) rs
  have hrl := R.len
  have val1 := fun {r : Nat} (hr : r ∈ rs) => kvB_val (yesF bs) ad m o (2 ^ m) (R.lt (Nat.le_refl _) r hr) rs (R.lt (Nat.le_refl _))
  have val2 := fun {r : Nat} (hr : r ∈ rs) => kvB_val (fun _ => 1) ad m o (2 ^ m) (R.lt (Nat.le_refl _) r hr) rs (R.lt (Nat.le_refl _))
  refine ⟨kvB (fun _ => 1) ad m o (2 ^ m) rs, .inl ⟨g2, fun ob => ?_⟩⟩
  have n21 : d1 ≠ d2 := d12
  have g1' : upd H1 d2 (.frz ob (dV P w d2 (kvB (fun _ => 1) ad m o (2 ^ m) rs))) d1 = some (dV P w d1 (kvB (yesF bs) ad m o (2 ^ m) rs)) := by rw [upd_ne d12]; exact g1
  have hk' : ∀ r ∈ rs, upd H1 d2 (.frz ob (dV P w d2 (kvB (fun _ => 1) ad m o (2 ^ m) rs))) (ad r) = some (.tup ((bitL m r).map V.bl)) := fun r hr => by
    have := hk r hr
    rw [upd_ne (fun e => by rw [e, g2] at this; exact nomatch this)]
    exact this
  have g2' := upd_same (H := H1) (a := d2) (o := .frz ob (dV P w d2 (kvB (fun _ => 1) ad m o (2 ^ m) rs)))
  have s2 : Same H (upd H1 d2 (.frz ob (dV P w d2 (kvB (fun _ => 1) ad m o (2 ^ m) rs)))) := same_put s1 n2'
  have K1 := kvB_keys (v := yesF bs) (o := o) (i := 2 ^ m) hk'
  have K2 := kvB_keys (v := fun _ => 1) (o := o) (i := 2 ^ m) hk'
  have hget : ∀ (i : Nat) (r : List Bool × Addr × V), (kvB (fun _ => 1) ad m o (2 ^ m) rs)[i]? = some r -> ∃ x, rs[i]? = some x /\ r.2.1 = ad x := fun i r hr => by
    unfold kvB at hr
    rw [List.getElem?_map] at hr
    obtain ⟨x, h1, h2⟩ := Option.map_eq_some_iff.mp hr
    exact ⟨x, h1, by rw [<- h2]⟩
  generalize upd H1 d2 (.frz ob (dV P w d2 (kvB (fun _ => 1) ad m o (2 ^ m) rs))) = H2 at *
  refine comp_keysV (fun i ys H' => H' = H2 /\ ys = ((rs.take i).map fun r => min (setTo (yesF bs) o (2 ^ m) r) (setTo (fun _ => 1) o (2 ^ m) r - setTo (yesF bs) o (2 ^ m) r)).map V.int) ⟨rfl, rfl⟩ (fun i ys H' _ ⟨e, _⟩ => by rw [e]; exact g2') (fun i ys H' hi ⟨_, e⟩ => by
    rw [l2] at hi
    rw [e, List.length_map, List.length_map, List.length_take]; exact small1000 (by omega)) ?_ ?_
  . rintro i r ys H' hr ⟨rfl, rfl⟩
    obtain ⟨x, hx, ex⟩ := hget i r hr
    have hxm : x ∈ rs := List.mem_of_getElem? hx
    have kx := hk' x hxm
    rw [ex]
    have v1 := val1 hxm
    have v2 := val2 hxm
    rw [if_pos hxm] at v1 v2
    refine ⟨_, _, _, kx, .inl g1', K1, v1, _, _, _, kx, .inr ⟨_, g2'⟩, K2, v2, _, _, _, kx, .inl g1', K1, v1, ?_⟩
    refine ⟨rfl, ?_⟩
    rw [List.take_add_one, hx]
    simp
  . rintro ys H' ⟨rfl, rfl⟩ l hl
    rw [l2, List.take_length]
    refine ⟨_, .of upd_same, ?_⟩
    rw [hm]
    exact q _ (s2.trans (Same.upd hl))
def anyK (bs : List Bool) (k i : Nat) : Bool := (List.range i).any fun p => !p.testBit k && (gB bs p != gB bs (p + 2 ^ k))
theorem anyK_succ (bs : List Bool) (k i : Nat) : anyK bs k (i + 1) = (anyK bs k i || (!i.testBit k && (gB bs i != gB bs (i + 2 ^ k)))) := by
  unfold anyK
  rw [List.range_succ, List.any_append, List.any_cons, List.any_nil, Bool.or_false]
theorem off_xor {p k : Nat} (h : p.testBit k = false) : p ^^^ 2 ^ k = p + 2 ^ k := by
  have e : p &&& 2 ^ k = 0 := by
    refine Nat.eq_of_testBit_eq fun i => ?_
    rw [Nat.testBit_and, Nat.testBit_two_pow, Nat.zero_testBit]
    by_cases e : k = i
    . subst e; rw [h]; rfl
    . simp [e]
  have := xor_and p (2 ^ k)
  rw [e] at this
  omega
theorem off_lt {m p k : Nat} (hk : k < m) (hp : p < 2 ^ m) (h : p.testBit k = false) : p + 2 ^ k < 2 ^ m := by
  rw [<- off_xor h]
  exact Nat.xor_lt_two_pow hp (Nat.pow_lt_pow_right (by decide) hk)
theorem anyK_all {m k : Nat} (bs : List Bool) (hk : k < m) : anyK bs k (2 ^ m) = decide (0 < cntS bs m k) := by
  rw [Bool.eq_iff_iff, decide_eq_true_eq]
  unfold anyK cntS matL
  constructor
  . intro h
    obtain ⟨p, hp, h2⟩ := List.any_eq_true.mp h
    rw [Bool.and_eq_true] at h2
    have hb : p.testBit k = false := by simpa using h2.1
    refine List.length_pos_of_mem (List.mem_filter.mpr ⟨hp, ?_⟩)
    unfold matF
    rw [off_xor hb]
    have h3 := h2.2
    revert h3
    cases gB bs p <;> cases gB bs (p + 2 ^ k) <;> simp
  . intro h
    obtain ⟨p, hp⟩ := List.exists_mem_of_length_pos h
    obtain ⟨h1, h2⟩ := List.mem_filter.mp hp
    have hp := List.mem_range.mp h1
    unfold matF at h2
    rw [List.any_eq_true]
    cases hb : p.testBit k with
    | false =>
      refine ⟨p, h1, ?_⟩
      rw [hb, <- off_xor hb]
      revert h2
      cases gB bs p <;> cases gB bs (p ^^^ 2 ^ k) <;> simp
    | true =>
      have e : (p ^^^ 2 ^ k).testBit k = false := by rw [Nat.testBit_xor, hb, Nat.testBit_two_pow_self]; rfl
      have e2 : (p ^^^ 2 ^ k) + 2 ^ k = p := by rw [<- off_xor e, Nat.xor_assoc, Nat.xor_self, Nat.xor_zero]
      refine ⟨p ^^^ 2 ^ k, List.mem_range.mpr (Nat.xor_lt_two_pow hp (Nat.pow_lt_pow_right (by decide) hk)), ?_⟩
      rw [e, e2]
      revert h2
      cases gB bs p <;> cases gB bs (p ^^^ 2 ^ k) <;> simp
theorem bitL_at {m y k : Nat} (h : k < m) : atI ((bitL m y).map V.bl) (k : Int) = some (.bl (y.testBit k)) := atI_of rfl (by
  unfold bitL
  rw [List.getElem?_map, List.getElem?_map, List.getElem?_range h, <- bit_eq]
  rfl)
def sp_lhangs (K : W.Frag) : Sp := fun vs H Q _ => match vs with
  | [.int n, .ref tp] => ∃ (m : Nat) (bs : List Bool), n = m /\ SqT K H tp (bs.map V.bl) /\ bs.length = 2 ^ m /\ m <= 6 /\ out H Q (.int (hungTo (cntS bs m) m : Nat))
  | _ => False
theorem sp_lhangs_mono : SpMono (sp_lhangs K) := fun vs H Q Q' E h q => by
  unfold sp_lhangs at *
  split at q
  . revert q; repeat' first | exact h _ _ | exact newL_mono h | exact out_mono h | exact outT_mono h | walk_at "m"
  . exact q.elim
def fndK (bs : List Bool) (m k i : Nat) : Nat := hungTo (cntS bs m) k + if anyK bs k i = true then 2 ^ k else 0
theorem fndK_bit (bs : List Bool) (m k i : Nat) : (fndK bs m k i).testBit k = anyK bs k i := by
  have hl := hungTo_lt (cntS bs m) k
  unfold fndK
  cases anyK bs k i with
  | false => rw [if_neg (by decide), Nat.add_zero, Nat.testBit_lt_two_pow hl]
  | true => rw [if_pos rfl, Nat.add_comm, Nat.testBit_two_pow_add_eq, Nat.testBit_lt_two_pow hl]; rfl
theorem ok__law_hangs : FnOk P w K mg base CX0 3 T.f__law_hangs T.d__law_hangs ["_law_n", "_law_table_here"] (sp_lhangs K) := by
  have G__law_bits := ok__law_bits (P := P) (w := w) (base := base) T; have G__law_two := ok__law_two (P := P) (w := w) (base := base) T
  refine T.F__law_hangs.ok sc__law_hangs (fun vs H Q E h => by unfold sp_lhangs at h; split at h <;> first | rfl | exact h.elim) (fun cdv A outer s H vs Q E hr h => ?_)
  have hu := hu60 hr
  have mo1 : SpMono sp_bits := sp_bits_mono
  have mo2 : SpMono sp_two := sp_two_mono
  have hr__law_bits := hr.mono (show 2 <= _ by decide); have hr__law_two := hr.mono (show 1 <= _ by decide)
  unfold sp_lhangs at h
  split at h
  rotate_left
  . exact h.elim
  rename_i n tp
  obtain ⟨m, bs, e1, ht, hb, m6, q⟩ := h
  subst e1
  have h64 : 2 ^ m <= 64 := Nat.pow_le_pow_right (n := 2) (by decide) m6
  have i1 : ((2 ^ m : Nat) : Int) <= 64 := Int.ofNat_le.mpr h64
  refine ⟨_, (@pss_cons _ _ _ _ _ (@ps_set _ _ 2 _ _ _ _ sc__law_hangs.nd rfl (by walk_at "e") (@pe_int _ _ _ _) (by rfl) (by walk_at "i")) (@pss_cons _ _ _ _ _ (@ps_for _ _ _ _ _ _ _ _ PassesOwn.never rfl (@pi_range1 _ _ _ _ _ _ rfl T.z_range (@pa1 _ _ _ (@vw _ 0 _ _ (by walk_at "v")) (by rfl)) (by rfl)) (@pg_name _ _ 3 _ sc__law_hangs.nd rfl (by walk_at "e") (by walk_at "i")) (@pss_one _ _ _ (@ps_for _ _ _ _ _ _ _ _ PassesOwn.never rfl (@pi_range1 _ _ _ _ _ _ rfl T.z_range (@pa1 _ _ _ (@pe_callB _ _ _ _ _ _ _ _ _ (kLen (K := K)) rfl T.z_len (by rfl) (@pa1 _ _ _ (@vw _ 1 _ _ (by walk_at "v")) (by rfl)) (by decide) (by decide) (by rfl) (by rfl)) (by rfl)) (by rfl)) (@pg_name _ _ 4 _ sc__law_hangs.nd rfl (by walk_at "e") (by walk_at "i")) (@pss_one _ _ _ (@ps_if _ _ _ _ _ _ _ _ (PW.pt (@pw_and _ _ _ _ _ _ _ (@pt_not _ _ _ _ (@tu_val _ _ _ (@kIx _ K _ _ _ _ _ (@pe_call _ _ _ _ _ _ _ _ _ _ _ _ _ _ _ _ G__law_bits hr__law_bits rfl T.m__law_bits T.F__law_bits.kp T.b__law_bits .nil pass0 (@pa_cons _ _ _ _ _ (@vw _ 0 _ _ (by walk_at "v")) (@pa1 _ _ _ (@vw _ 4 _ _ (by walk_at "v")) (by rfl)) (by rfl)) (by decide) (by rfl) (by rfl)) (@vw _ 3 _ _ (by walk_at "v")) (by intro _ _; rfl) (by rfl)) (by intro _; rfl))) (@pw_and1 _ _ _ _ (@tu_cmp _ _ _ _ _ _ _ _ (kNe (K := K) hu) (@kIx _ K _ _ _ _ _ (@vw _ 1 _ _ (by walk_at "v")) (@vw _ 4 _ _ (by walk_at "v")) (by intro _ _; rfl) (by rfl)) (@kIx _ K _ _ _ _ _ (@vw _ 1 _ _ (by walk_at "v")) (@pe_op _ _ _ _ _ _ _ _ (kAdd (K := K)) (@vw _ 4 _ _ (by walk_at "v")) (@pe_call _ _ _ _ _ _ _ _ _ _ _ _ _ _ _ _ G__law_two hr__law_two rfl T.m__law_two T.F__law_two.kp T.b__law_two .nil pass0 (@pa1 _ _ _ (@vw _ 3 _ _ (by walk_at "v")) (by rfl)) (by decide) (by rfl) (by rfl))) (by intro _ _; rfl) (by rfl)) (by walk_at "n"))))) (@pss_one _ _ _ (@ps_set _ _ 2 _ _ _ _ sc__law_hangs.nd rfl (by walk_at "e") (@pe_op _ _ _ _ _ _ _ _ (kAdd (K := K)) (@vw _ 2 _ _ (by walk_at "v")) (@pe_op _ _ _ _ _ _ _ _ om_mul (@pe_call _ _ _ _ _ _ _ _ _ _ _ _ _ _ _ _ G__law_two hr__law_two rfl T.m__law_two T.F__law_two.kp T.b__law_two .nil pass0 (@pa1 _ _ _ (@vw _ 3 _ _ (by walk_at "v")) (by rfl)) (by decide) (by rfl) (by rfl)) (@pe_callTy _ _ _ _ _ _ _ _ _ cm_int rfl T.z_int (by rfl) (@pa1 _ _ _ (@pe_notM _ _ _ _ (@kIx _ K _ _ _ _ _ (@pe_call _ _ _ _ _ _ _ _ _ _ _ _ _ _ _ _ G__law_bits hr__law_bits rfl T.m__law_bits T.F__law_bits.kp T.b__law_bits .nil pass0 (@pa_cons _ _ _ _ _ (@vw _ 0 _ _ (by walk_at "v")) (@pa1 _ _ _ (@vw _ 2 _ _ (by walk_at "v")) (by rfl)) (by rfl)) (by decide) (by rfl) (by rfl)) (@vw _ 3 _ _ (by walk_at "v")) (by intro _ _; rfl) (by rfl))) (by rfl)) (by decide) (by decide) (by rfl) (by rfl)))) (by rfl) (by walk_at "i"))) (@pss_nil _))) (by intro _; rfl))) (by intro _; rfl)) (@pss_one _ _ _ (@ps_ret _ _ _ _ (@vw _ 2 _ _ (by walk_at "v")))))), ?_⟩
  refine seq_at (fun σ H' => σ = [some (.int (m : Int)), some (.ref tp), some (.int 0), none, none] /\ H = H') ⟨rfl, rfl⟩ ?_ (by walk_at "sm")
  rintro σ _ ⟨rfl, rfl⟩
  refine seq_at (fun σ H' => ∃ z3 z4 : Option V, σ = [some (.int (m : Int)), some (.ref tp), some (.int (hungTo (cntS bs m) m : Nat)), z3, z4] /\ Same H H') ?_ ?_ (by walk_at "sm")
  . refine ⟨(m : Int), rfl, by omega, by omega, ?_⟩
    refine for_range (fun j σ H' => ∃ z3 z4 : Option V, σ = [some (.int (m : Int)), some (.ref tp), some (.int (hungTo (cntS bs m) j : Nat)), z3, z4] /\ Same H H') ⟨none, none, rfl, Same.refl _⟩ ?_ ?_
    . rintro j σ H1 hj ⟨z3, z4, rfl, s1⟩
      have hjm : j < m := by omega
      rw [show (0 : Int) + (j : Int) = (j : Int) from Int.zero_add _]
      dsimp only [gName]
      have hall := anyK_all bs hjm
      have eh : hungTo (cntS bs m) (j + 1) = if 0 < cntS bs m j then hungTo (cntS bs m) j + 2 ^ j else hungTo (cntS bs m) j := rfl
      refine ⟨2 ^ m, .inr ⟨_, s1.sqT ht, by rw [List.length_map, hb]⟩, ((2 ^ m : Nat) : Int), rfl, by omega, by omega, ?_⟩
      refine for_range (fun i σ H' => ∃ z4 : Option V, σ = [some (.int (m : Int)), some (.ref tp), some (.int (fndK bs m j i : Nat)), some (.int (j : Int)), z4] /\ Same H H') ⟨z4, rfl, s1⟩ ?_ ?_
      . rintro i σ H2 hi ⟨z4, rfl, s2⟩
        have hi' : i < 2 ^ m := by omega
        rw [show (0 : Int) + (i : Int) = (i : Int) from Int.zero_add _]
        dsimp only [gName]
        have hsucc := anyK_succ bs j i
        refine ⟨m, i, rfl, rfl, m6, fun p1 H3 n3 s3 g3 => ⟨_, _, .inl (.of g3), bitL_at hjm, ?_⟩⟩
        have ef : fndK bs m j (i + 1) = if (!i.testBit j && (gB bs i != gB bs (i + 2 ^ j))) = true then fndK bs m j i + 2 ^ j * (if anyK bs j i = true then 0 else 1) else fndK bs m j i := by
          unfold fndK
          rw [hsucc]
          cases anyK bs j i <;> cases (!i.testBit j && (gB bs i != gB bs (i + 2 ^ j))) <;> simp
        have ebit := fndK_bit bs m j i
        refine ite2 (fun e => ?_) (fun e => ?_)
        . have hoff : i.testBit j = false := by simpa using e
          have hlt := off_lt hjm hi' hoff
          refine ⟨_, .bl (gB bs i), .inr ((s2.trans s3).sqT ht), gB_at (by omega), ?_⟩
          refine ⟨by omega, by omega, fun H4 s4 => ?_⟩
          have ep : (2 : Int) ^ ((j : Int)).toNat = ((2 ^ j : Nat) : Int) := by rw [Int.toNat_natCast, Int.natCast_pow]; rfl
          refine ⟨_, .bl (gB bs (i + 2 ^ j)), .inr ((s2.trans (s3.trans s4)).sqT ht), (by rw [ep, <- Int.natCast_add]; exact gB_at (by omega)), ?_⟩
          refine ite2 (fun e => ?_) (fun e => ?_)
          . have hd : (gB bs i != gB bs (i + 2 ^ j)) = true := by
              revert e
              cases gB bs i <;> cases gB bs (i + 2 ^ j) <;> simp
            rw [hoff, hd, if_pos (by rfl)] at ef
            have hp6 : (2 : Nat) ^ j <= 64 := Nat.pow_le_pow_right (n := 2) (j := 6) (by decide) (by omega)
            have ej0 : (0 : Int) <= 2 ^ ((j : Int)).toNat := by rw [ep]; exact Int.natCast_nonneg _
            have ej1 : (2 : Int) ^ ((j : Int)).toNat <= 64 := by rw [ep]; exact Int.ofNat_le.mpr hp6
            refine ⟨by omega, by omega, fun H5 s5 => ⟨m, fndK bs m j i, rfl, rfl, m6, fun p6 H6 n6 s6 g6 => ⟨_, _, .inl (.of g6), bitL_at hjm, ?_⟩⟩⟩
            rw [ebit, ep]
            have s7 := s2.trans (s3.trans (s4.trans (s5.trans s6)))
            cases hany : anyK bs j i with
            | false =>
              rw [hany, if_neg (by decide), Nat.mul_one] at ef
              have ev : ((fndK bs m j i : Nat) : Int) + ((2 ^ j : Nat) : Int) * (if (!false) = true then 1 else 0) = ((fndK bs m j (i + 1) : Nat) : Int) := by rw [ef]; simp
              refine ⟨.inr (.inl ⟨by omega, by omega⟩), some (.int (i : Int)), ?_, s7⟩
              rw [<- ev]
              rfl
            | true =>
              rw [hany, if_pos rfl, Nat.mul_zero, Nat.add_zero] at ef
              have ev : ((fndK bs m j i : Nat) : Int) + ((2 ^ j : Nat) : Int) * (if (!true) = true then 1 else 0) = ((fndK bs m j (i + 1) : Nat) : Int) := by rw [ef]; simp
              refine ⟨.inr (.inl ⟨by omega, by omega⟩), some (.int (i : Int)), ?_, s7⟩
              rw [<- ev]
              rfl
          . have hd : (gB bs i != gB bs (i + 2 ^ j)) = false := by
              revert e
              cases gB bs i <;> cases gB bs (i + 2 ^ j) <;> simp
            rw [hd, Bool.and_false, if_neg (by decide)] at ef
            rw [ef]
            exact ⟨_, rfl, s2.trans (s3.trans s4)⟩
        . have hon : i.testBit j = true := by simpa using e
          rw [hon, Bool.not_true, Bool.false_and, if_neg (by decide)] at ef
          rw [ef]
          exact ⟨_, rfl, s2.trans s3⟩
      . rintro σ H2 ⟨z4, rfl, s2⟩
        rw [Int.toNat_natCast]
        have e : fndK bs m j (2 ^ m) = hungTo (cntS bs m) (j + 1) := by
          unfold fndK
          rw [hall, eh]
          by_cases c : 0 < cntS bs m j
          . rw [if_pos c, if_pos (decide_eq_true c)]
          . rw [if_neg c, if_neg (by simpa using c)]; rfl
        exact ⟨some (.int (j : Int)), z4, by rw [e], s2⟩
    . rintro σ H1 h
      rw [Int.toNat_natCast] at h
      exact h
  rintro σ H1 ⟨z3, z4, rfl, s1⟩
  exact q H1 s1
theorem count_bits : ∀ m y : Nat, (bitL m y).countP id = manyF m y
  | 0, _ => rfl
  | m + 1, y => by
    have e : bitL (m + 1) y = (y % 2 == 1) :: bitL m (y / 2) := by
      unfold bitL
      rw [List.range_succ_eq_map, List.map_cons, List.map_map]
      congr 1
      . simp
      . refine List.map_congr_left fun k _ => ?_
        show (y / 2 ^ (k + 1) % 2 == 1) = (y / 2 / 2 ^ k % 2 == 1)
        rw [Nat.pow_succ, Nat.mul_comm, Nat.div_div_eq_div_mul]
    have em : manyF (m + 1) y = y % 2 + manyF m (y / 2) := rfl
    rw [e, List.countP_cons, count_bits m (y / 2), em]
    have : y % 2 = 0 \/ y % 2 = 1 := by omega
    rcases this with z | z <;> rw [z] <;> simp <;> omega
theorem ok__law_sets : FnOk P w K mg base CX0 3 T.f__law_sets T.d__law_sets ["_law_n", "_law_k"] sp_sets := by
  have G__law_two := ok__law_two (P := P) (w := w) (base := base) T; have G__law_bits := ok__law_bits (P := P) (w := w) (base := base) T
  refine T.F__law_sets.ok sc__law_sets (fun vs H Q E h => by unfold sp_sets at h; split at h <;> first | rfl | exact h.elim) (fun cdv A outer s H vs Q E hr h => ?_)
  have hu := hu60 hr
  have mo1 : SpMono sp_bits := sp_bits_mono
  have mo2 : SpMono sp_two := sp_two_mono
  have hr__law_two := hr.mono (show 1 <= _ by decide); have hr__law_bits := hr.mono (show 2 <= _ by decide)
  unfold sp_sets at h
  split at h
  rotate_left
  . exact h.elim
  rename_i x y
  obtain ⟨m, k, e1, e2, m6, q⟩ := h
  subst e1 e2
  have h64 : 2 ^ m <= 64 := Nat.pow_le_pow_right (n := 2) (by decide) m6
  have i1 : ((2 ^ m : Nat) : Int) <= 64 := Int.ofNat_le.mpr h64
  have i0 : (0 : Int) <= ((2 ^ m : Nat) : Int) := Int.natCast_nonneg _
  have ep : (2 : Int) ^ ((m : Int)).toNat = ((2 ^ m : Nat) : Int) := by rw [Int.toNat_natCast, Int.natCast_pow]; rfl
  refine ⟨_, (@pss_one _ _ _ (@ps_ret _ _ _ _ (@pe_compB _ _ _ _ _ _ _ (["_law_one", "_law_n", "_law_k"]) 1 ([0, 1]) _ _ _ _ rfl (@pi_range1 _ _ _ _ _ _ rfl T.z_range (@pa1 _ _ _ (@pe_call _ _ _ _ _ _ _ _ _ _ _ _ _ _ _ _ G__law_two hr__law_two rfl T.m__law_two T.F__law_two.kp T.b__law_two .nil pass0 (@pa1 _ _ _ (@vw _ 0 _ _ (by walk_at "v")) (by rfl)) (by decide) (by rfl) (by rfl)) (by rfl)) (by rfl)) (by kernel_rfl) rfl rfl (by kernel_rfl) (fun c => @pg_name _ _ 0 _ (show (["_law_one", "_law_n", "_law_k"] : List Str).Nodup by decide +kernel) rfl (by walk_at "e") (by walk_at "i")) (go_name (by decide)) (fun c => @pts_one _ _ _ (@tu_cmp _ _ _ _ _ _ _ _ (kEq (K := K) hu) (@kCount _ K _ _ _ _ _ _ (@pe_call _ _ _ _ _ _ _ _ _ _ _ _ _ _ _ _ G__law_bits hr__law_bits rfl T.m__law_bits T.F__law_bits.kp T.b__law_bits .nil pass0 (@pa_cons _ _ _ _ _ (@vw _ 1 _ _ (by walk_at "v")) (@pa1 _ _ _ (@vw _ 0 _ _ (by walk_at "v")) (by rfl)) (by rfl)) (by decide) (by rfl) (by rfl)) (@pa1 _ _ _ (@pe_bl _ _ _ _) (by rfl)) (by rfl) (by rfl) (by rfl) (by rfl) (by rfl) (by rfl)) (@pe_callB _ _ _ _ _ _ _ _ _ (cm_min rfl) rfl T.z_min (by rfl) (@pa_cons _ _ _ _ _ (@vw _ 1 _ _ (by walk_at "v")) (@pa1 _ _ _ (@vw _ 2 _ _ (by walk_at "v")) (by rfl)) (by rfl)) (by decide) (by decide) (by rfl) (by rfl)) (by walk_at "n"))) (fun c => (@vw _ 0 _ _ (by walk_at "v"))) (by intro _; rfl)))), ?_⟩
  refine ⟨by omega, by omega, fun H1 s1 => ?_⟩
  rw [ep]
  refine ⟨_, rfl, by omega, by omega, ?_⟩
  refine comp_range (fun i ys H' => Same H H' /\ ys = iL (setL m (min m k) i)) ⟨s1, rfl⟩ (fun i ys H' hi ⟨_, e⟩ => by
    have := setL_len m (min m k) i
    rw [e, iL_len]; exact small1000 (by omega)) ?_ ?_
  . rintro i ys H' hi ⟨s2, rfl⟩
    rw [show (0 : Int) + (i : Int) = (i : Int) from Int.zero_add _]
    refine ⟨m, i, rfl, rfl, m6, fun p3 H3 n3 s3 g3 => ⟨.inl ⟨rfl, _, .of g3⟩, _, .of g3, rfl, all_flat_bl _, ?_⟩⟩
    rw [countP_bl, count_bits]
    have em : min (m : Int) (k : Int) = ((min m k : Nat) : Int) := by omega
    have ed : (false ^^ (((manyF m i : Nat) : Int) == min (m : Int) (k : Int))) = decide (manyF m i = min m k) := by
      rw [em, Bool.eq_iff_iff]
      simp only [Bool.false_xor, beq_iff_eq, decide_eq_true_eq]
      omega
    refine ite2 (fun e => ?_) (fun e => ?_)
    . have e' : manyF m i = min m k := by
        have : (false ^^ (((manyF m i : Nat) : Int) == min (m : Int) (k : Int))) = true := e
        rw [ed] at this
        exact of_decide_eq_true this
      refine ⟨s2.trans s3, ?_⟩
      rw [setL_succ, if_pos e', iL_app]
      rfl
    . have e' : ¬ manyF m i = min m k := fun z => e (by
        show (false ^^ (((manyF m i : Nat) : Int) == min (m : Int) (k : Int))) = true
        rw [ed]; exact decide_eq_true z)
      refine ⟨s2.trans s3, ?_⟩
      rw [setL_succ, if_neg e', List.append_nil]
  . rintro ys H' ⟨s2, rfl⟩ l hl
    rw [Int.toNat_natCast]
    exact q l _ (none_back s2 hl) (s2.trans (Same.upd hl)) upd_same
def sp_other (K : W.Frag) : Sp := fun vs H Q _ => match vs with
  | [.ref t, .int n, .int z] => ∃ (a : Addr) (ns : List Int) (m k : Nat), Tape K H t a ns /\ n = m /\ z = k /\ 1 <= m /\ m <= 6 /\ ∀ (bs : List Bool) p H', bs.length = 2 ^ m -> H p = none -> H' p = some (.tup (bs.map V.bl)) -> Tape K H' t a ns -> Frm t H H' -> Q (.ref p) H'
  | _ => False
theorem sp_other_mono : SpMono (sp_other K) := fun vs H Q Q' E h q => by
  unfold sp_other at *
  split at q
  . revert q; repeat' first | exact h _ _ | exact newL_mono h | exact out_mono h | exact outT_mono h | walk_at "m"
  . exact q.elim
theorem bl_app (bs : List Bool) (b : Bool) : bs.map V.bl ++ [V.bl b] = (bs ++ [b]).map V.bl := by rw [List.map_append]; rfl
theorem TabL.push {K : W.Frag} {H0 H : Hp} {t a : Addr} {ns : List Int} {M N : Nat} {l : Addr} {bs : List Bool} (L : TabL K H0 t a ns M l H) (T0 : Tape K H0 t a ns) (hb : bs.length = N) : TabL K H0 t a ns N l (upd H l (.lst (bs.map V.bl))) := by
  have F : Frm t H0 (upd H l (.lst (bs.map V.bl))) := frm_new L.fr L.new
  obtain ⟨i, r, c, h1, h2, h3⟩ := L.tp.at_
  exact ⟨⟨⟨i, r, c, h1, h2, by rw [upd_ne (Ne.symm (L.ne T0))]; exact h3⟩, T0.scr.stay fun o n e => F a o n e⟩, F, L.new, bs, upd_same, hb⟩
theorem ok__law_other_table : FnOk P w K mg base CX0 4 T.f__law_other_table T.d__law_other_table ["_law_tape_here", "_law_n", "_law_k"] (sp_other K) := by
  have G__law_sets := ok__law_sets (P := P) (w := w) (base := base) T; have G__law_next := ok__law_next (P := P) (w := w) (base := base) T; have G__law_two := ok__law_two (P := P) (w := w) (base := base) T; have G__law_inside := ok__law_inside (P := P) (w := w) (base := base) T
  refine T.F__law_other_table.ok sc__law_other_table (fun vs H Q E h => by unfold sp_other at h; split at h <;> first | rfl | exact h.elim) (fun cdv A outer s H vs Q E hr h => ?_)
  have hu := hu60 hr
  have mo1 : SpMono sp_ins := sp_ins_mono
  have mo2 : SpMono sp_two := sp_two_mono
  have mo3 : SpMono sp_sets := sp_sets_mono
  have mo4 : SpMono (spNext K) := spNext_mono
  have hr__law_sets := hr.mono (show 3 <= _ by decide); have hr__law_next := hr.mono (show 1 <= _ by decide); have hr__law_two := hr.mono (show 1 <= _ by decide); have hr__law_inside := hr.mono (show 3 <= _ by decide)
  unfold sp_other at h
  split at h
  rotate_left
  . exact h.elim
  rename_i t n z
  obtain ⟨a, ns, m, k, TP, e1, e2, m1, m6, q⟩ := h
  subst e1 e2
  have h64 : 2 ^ m <= 64 := Nat.pow_le_pow_right (n := 2) (by decide) m6
  have i1 : ((2 ^ m : Nat) : Int) <= 64 := Int.ofNat_le.mpr h64
  have i0 : (0 : Int) <= ((2 ^ m : Nat) : Int) := Int.natCast_nonneg _
  have ep : (2 : Int) ^ ((m : Int)).toNat = ((2 ^ m : Nat) : Int) := by rw [Int.toNat_natCast, Int.natCast_pow]; rfl
  refine ⟨_, (@pss_cons _ _ _ _ _ (@ps_set _ _ 3 _ _ _ _ sc__law_other_table.nd rfl (by walk_at "e") (@pe_call _ _ _ _ _ _ _ _ _ _ _ _ _ _ _ _ G__law_sets hr__law_sets rfl T.m__law_sets T.F__law_sets.kp T.b__law_sets .nil pass0 (@pa_cons _ _ _ _ _ (@vw _ 1 _ _ (by walk_at "v")) (@pa1 _ _ _ (@pe_op _ _ _ _ _ _ _ _ (kAdd (K := K)) (@vw _ 2 _ _ (by walk_at "v")) (@pe_op _ _ _ _ _ _ _ _ om_div (@pe_call _ _ _ _ _ _ _ _ _ _ _ _ _ _ _ _ G__law_next hr__law_next rfl T.m__law_next T.F__law_next.kp T.b__law_next .nil pass0 (@pa_cons _ _ _ _ _ (@vw _ 0 _ _ (by walk_at "v")) (@pa1 _ _ _ (@pe_int _ _ _ _) (by rfl)) (by rfl)) (by decide) (by rfl) (by rfl)) (@pe_int _ _ _ _))) (by rfl)) (by rfl)) (by decide) (by rfl) (by rfl)) (by rfl) (by walk_at "i")) (@pss_cons _ _ _ _ _ (@ps_set _ _ 4 _ _ _ _ sc__law_other_table.nd rfl (by walk_at "e") (@kIx _ K _ _ _ _ _ (@vw _ 3 _ _ (by walk_at "v")) (@pe_call _ _ _ _ _ _ _ _ _ _ _ _ _ _ _ _ G__law_next hr__law_next rfl T.m__law_next T.F__law_next.kp T.b__law_next .nil pass0 (@pa_cons _ _ _ _ _ (@vw _ 0 _ _ (by walk_at "v")) (@pa1 _ _ _ (@pe_callB _ _ _ _ _ _ _ _ _ (kLen (K := K)) rfl T.z_len (by rfl) (@pa1 _ _ _ (@vw _ 3 _ _ (by walk_at "v")) (by rfl)) (by decide) (by decide) (by rfl) (by rfl)) (by rfl)) (by rfl)) (by decide) (by rfl) (by rfl)) (by intro _ _; rfl) (by rfl)) (by rfl) (by walk_at "i")) (@pss_cons _ _ _ _ _ (@ps_set _ _ 5 _ _ _ _ sc__law_other_table.nd rfl (by walk_at "e") (@kNewB _ P w _ (by rfl) (by rfl)) (by rfl) (by walk_at "i")) (@pss_cons _ _ _ _ _ (@ps_set _ _ 6 _ _ _ _ sc__law_other_table.nd rfl (by walk_at "e") (@pe_lst _ _ _ _ (@pa_nil _)) (by rfl) (by walk_at "i")) (@pss_cons _ _ _ _ _ (@ps_for _ _ _ _ _ _ _ _ PassesOwn.never rfl (@pi_range1 _ _ _ _ _ _ rfl T.z_range (@pa1 _ _ _ (@pe_call _ _ _ _ _ _ _ _ _ _ _ _ _ _ _ _ G__law_two hr__law_two rfl T.m__law_two T.F__law_two.kp T.b__law_two .nil pass0 (@pa1 _ _ _ (@vw _ 1 _ _ (by walk_at "v")) (by rfl)) (by decide) (by rfl) (by rfl)) (by rfl)) (by rfl)) (@pg_name _ _ 7 _ sc__law_other_table.nd rfl (by walk_at "e") (by walk_at "i")) (@pss_cons _ _ _ _ _ (@ps_set _ _ 8 _ _ _ _ sc__law_other_table.nd rfl (by walk_at "e") (@pe_call _ _ _ _ _ _ _ _ _ _ _ _ _ _ _ _ G__law_inside hr__law_inside rfl T.m__law_inside T.F__law_inside.kp T.b__law_inside .nil pass0 (@pa_cons _ _ _ _ _ (@vw _ 1 _ _ (by walk_at "v")) (@pa_cons _ _ _ _ _ (@vw _ 7 _ _ (by walk_at "v")) (@pa1 _ _ _ (@vw _ 4 _ _ (by walk_at "v")) (by rfl)) (by rfl)) (by rfl)) (by decide) (by rfl) (by rfl)) (by rfl) (by walk_at "i")) (@pss_cons _ _ _ _ _ (@ps_if _ _ _ _ _ _ _ _ (@tu_cmp _ _ _ _ _ _ _ _ (kNotB (P := P) (w := w) hu) (@vw _ 8 _ _ (by walk_at "v")) (@vw _ 5 _ _ (by walk_at "v")) (by walk_at "n")) (@pss_one _ _ _ (@ps_asg _ _ _ _ _ _ (@pe_cmpM _ _ _ _ _ _ _ _ (kEq (K := K) hu) (@pe_call _ _ _ _ _ _ _ _ _ _ _ _ _ _ _ _ G__law_next hr__law_next rfl T.m__law_next T.F__law_next.kp T.b__law_next .nil pass0 (@pa_cons _ _ _ _ _ (@vw _ 0 _ _ (by walk_at "v")) (@pa1 _ _ _ (@pe_int _ _ _ _) (by rfl)) (by rfl)) (by decide) (by rfl) (by rfl)) (@pe_int _ _ _ _) (by walk_at "n")) (@pg_sub _ _ _ _ _ _ _ (@vw _ 5 _ _ (by walk_at "v")) (@vw _ 8 _ _ (by walk_at "v")) (kSetB (P := P) (w := w) hu) (by intro _; rfl)) (by rfl) (by rfl) (by rfl))) (@pss_nil _)) (@pss_one _ _ _ (@ps_expr _ _ _ _ (@kAppend _ K _ _ _ _ _ _ (@vw _ 6 _ _ (by walk_at "v")) (@pa1 _ _ _ (@kGetB _ P w _ _ _ _ _ hu (@vw _ 5 _ _ (by walk_at "v")) (@vw _ 8 _ _ (by walk_at "v")) (by intro _ _; rfl) (by rfl) (by rfl)) (by rfl)) (by rfl) (by rfl) (by rfl) (by rfl) (by rfl) (by rfl)) (by rfl))))) (by intro _; rfl)) (@pss_one _ _ _ (@ps_ret _ _ _ _ (@pe_callTy _ _ _ _ _ _ _ _ _ (kTuple (K := K)) rfl T.z_tuple (by rfl) (@pa1 _ _ _ (@vw _ 6 _ _ (by walk_at "v")) (by rfl)) (by decide) (by decide) (by rfl) (by rfl))))))))), ?_⟩
  refine ⟨a, ns, TP, okDiv_of (by decide) (by decide), fun d1 H1 d10 d11 T1 f1 => ⟨okDiv_of (by decide) (by decide), ?_⟩⟩
  obtain ⟨e, he⟩ : ∃ e : Nat, (k : Int) + d1 / 3 = (e : Int) := ⟨((k : Int) + d1 / 3).toNat, by omega⟩
  refine ⟨m, e, rfl, he, m6, fun ls H2 hls s2 g2 => ?_⟩
  dsimp only [gName]
  have hsl := setL_len m (min m e) (2 ^ m)
  have hsn := setL_ne m e
  have hmem := fun {x : Nat} (h : x ∈ setL m (min m e) (2 ^ m)) => setL_mem h
  generalize setL m (min m e) (2 ^ m) = ss at *
  have T2 := T1.same s2
  have F2 : Frm t H H2 := (frm_all f1).trans s2.frm
  refine seq_at (fun σ H' => ∃ o : Nat, o < 2 ^ m /\ σ = [some (.ref t), some (.int m), some (.int k), some (.ref ls), some (.int o), none, none, none, none] /\ Tape K H' t a ns /\ Frm t H H') ?_ ?_ (by walk_at "sm")
  . refine ⟨ss.length, .inl ⟨_, .of g2, by rw [iL_len]⟩, a, ns, T2, okDiv_of (by omega) (Int.le_trans (show ((ss.length : Nat) : Int) <= 64 by omega) (by decide)), fun d2 H3 d20 d21 T3 f3 => ?_⟩
    obtain ⟨j, rfl⟩ := Int.eq_ofNat_of_zero_le d20
    have hj : j < ss.length := by omega
    have g3 : H3 ls = some (.lst (iL ss)) := by rw [f3 ls (T1.neT hls)]; exact g2
    exact ⟨_, .int (ss[j] : Nat), .inl (.of g3), atI_of rfl (by unfold iL; rw [List.getElem?_map, List.getElem?_eq_getElem hj]; rfl), ss[j], hmem (List.getElem_mem hj), rfl, T3, F2.trans (frm_all f3)⟩
  rintro σ H3 ⟨o, ho, rfl, T3, F3⟩
  refine fun p hp => ?_
  dsimp only [gName]
  have hp0 : H p = none := T3.free F3 hp
  have pt : p ≠ t := T3.neT hp
  have sp := Same.upd (o := dB P w p []) hp
  have gp := upd_same (H := H3) (a := p) (o := dB P w p [])
  generalize upd H3 p (dB P w p []) = H4 at *
  refine ⟨Nat.zero_le _, fun r hr' => ?_⟩
  dsimp only [gName]
  have T4 := T3.same sp
  have F4 : Frm t H H4 := F3.trans sp.frm
  have pr : p ≠ r := fun e => by rw [e, hr'] at gp; cases gp
  have L4 : TabL K H t a ns 0 r (upd H4 r (.lst [])) := ⟨T4.upd hr', F4.trans (Frm.upd hr'), T4.free F4 hr', [], upd_same, rfl⟩
  have gp4 : upd H4 r (.lst []) p = some (dB P w p []) := by rw [upd_ne pr]; exact gp
  generalize upd H4 r (.lst []) = H5 at *
  refine seq_at (fun σ H' => ∃ (z7 z8 : Option V), σ = [some (.ref t), some (.int m), some (.int k), some (.ref ls), some (.int o), some (.ref p), some (.ref r), z7, z8] /\ TabL K H t a ns (2 ^ m) r H') ?_ ?_ (by walk_at "sm")
  . refine ⟨by omega, by omega, fun H6 s6 => ?_⟩
    rw [ep]
    refine ⟨_, rfl, by omega, by omega, ?_⟩
    refine for_range (fun i σ H' => ∃ (z7 z8 : Option V) (xs : BX), σ = [some (.ref t), some (.int m), some (.int k), some (.ref ls), some (.int o), some (.ref p), some (.ref r), z7, z8] /\ TabL K H t a ns i r H' /\ H' p = some (dB P w p xs) /\ KeysB H' xs /\ xs.length <= i) ⟨none, none, [], rfl, L4.same s6, s6 _ _ gp4, (fun q hq => by cases hq), Nat.le_refl _⟩ ?_ ?_
    . rintro i σ Hb hi ⟨z7, z8, xs, rfl, Lb, hd, hk, hx⟩
      have hi' : i < 2 ^ m := by omega
      rw [show (0 : Int) + (i : Int) = (i : Int) from Int.zero_add _]
      dsimp only [gName]
      refine ⟨m, i, o, rfl, rfl, rfl, m6, fun kk Hc nk S gk => ?_⟩
      dsimp only [gName]
      have Lc := Lb.same S
      have hd := S _ _ hd
      have hk := keysB_same hk S
      clear Lb
      generalize bitL m (i &&& o) = ks at *
      refine seq_at (fun σ H' => ∃ xs : BX, σ = [some (.ref t), some (.int m), some (.int k), some (.ref ls), some (.int o), some (.ref p), some (.ref r), some (.int i), some (.ref kk)] /\ TabL K H t a ns i r H' /\ H' p = some (dB P w p xs) /\ KeysB H' xs /\ xs.length <= i + 1 /\ H' kk = some (.tup (ks.map V.bl)) /\ hasB xs ks = true) ?_ ?_ (by walk_at "sm")
      . refine ⟨xs, ks, gk, hd, hk, ?_⟩
        refine ite2 (fun e => ?_) (fun e => ?_)
        . have hn : hasB xs ks = false := by simpa using e
          refine ⟨a, ns, Lc.tp, okDiv_of (by decide) (by decide), fun d H6 _ _ T6 f6 => ?_⟩
          have L6 := Lc.draw TP T6 f6
          have hd6 : H6 p = some (dB P w p xs) := by rw [f6 p pt]; exact hd
          have nt : ∀ {b : Addr} {ys : List V}, Hc b = some (.tup ys) -> b ≠ t := fun {b ys} hb e => by
            obtain ⟨i, r, c, _, _, h3⟩ := Lc.tp.at_
            rw [e, h3] at hb; cases hb
          have gk6 : H6 kk = some (.tup (ks.map V.bl)) := by rw [f6 kk (nt gk)]; exact gk
          have hk6 : KeysB H6 xs := fun q hq => by rw [f6 _ (nt (hk q hq))]; exact hk q hq
          refine ⟨xs, ks, gk6, hd6, hk6, hn, small1000 (by omega), ?_⟩
          refine ⟨xs ++ [(ks, kk, (false ^^ (d == 1)))], rfl, L6.other TP hp0 pr, upd_same, ?_, by rw [List.length_append]; exact Nat.succ_le_succ hx, ?_, ?_⟩
          . intro q hq
            rcases List.mem_append.mp hq with hq | hq
            . exact keysB_upd hk6 hd6 (fun ys z => nomatch z) q hq
            . have := List.mem_singleton.mp hq
              subst this
              rw [upd_ne (ne_of gk6 hd6 (fun z => nomatch z))]; exact gk6
          . rw [upd_ne (ne_of gk6 hd6 (fun z => nomatch z))]; exact gk6
          . unfold hasB; rw [List.any_append]; simp
        . have hn : hasB xs ks = true := by simpa using e
          exact ⟨xs, rfl, Lc, hd, hk, Nat.le_succ_of_le hx, gk, hn⟩
      rintro σ He ⟨xs, rfl, Le, hd, hk, hx, gk, hh⟩
      obtain ⟨c, v, hv⟩ := hasB_at hh
      obtain ⟨bs, hbs, hbl⟩ := Le.at_
      refine ⟨.inl ⟨rfl, _, .of hbs⟩, xs, ks, c, v, gk, hd, hk, hv, _, hbs, small1000 (by rw [List.length_map]; omega), ?_⟩
      rw [bl_app]
      refine ⟨_, _, xs, rfl, Le.push TP (by rw [List.length_append, hbl]; rfl), ?_, keysB_upd hk hbs (fun ys z => nomatch z), hx⟩
      rw [upd_ne pr]; exact hd
    . rintro σ He ⟨z7, z8, xs, rfl, Le, _⟩
      rw [Int.toNat_natCast] at Le
      exact ⟨z7, z8, rfl, Le⟩
  rintro σ Ha ⟨z7, z8, rfl, L⟩
  obtain ⟨bs, hbs, hbl⟩ := L.at_
  refine ⟨_, .inl ⟨.of hbs, fun p hp => ?_⟩⟩
  exact q bs p _ hbl (L.tp.free L.fr hp) upd_same (L.tp.upd hp) (L.fr.trans (Frm.upd hp))
def okT (x : Str) : Prop := x = ("whole" : Str) \/ x = ("weights" : Str)
theorem tups_cov : ∀ cs : List (Nat × Str), tupsOnly (cs.map covD) = true
  | [] => rfl
  | c :: cs => by rw [List.map_cons]; unfold tupsOnly; rw [tups_cov cs]; rfl
structure Cov (K : W.Frag) (H : Hp) (l : Addr) (m n : Nat) : Prop where
  at_ : ∃ (cs : List (Nat × Str)) (ys : List V), H l = some (.lst ys) /\ Reps K H (cs.map covD) ys /\ cs.length = n /\ ∀ c ∈ cs, c.1 < 2 ^ m /\ okT c.2
theorem Cov.same {H H' : Hp} {l : Addr} {m n : Nat} (C : Cov K H l m n) (s : Same H H') : Cov K H' l m n :=
  let ⟨cs, ys, h1, h2, h3, h4⟩ := C.at_; ⟨cs, ys, s _ _ h1, Reps.same s _ _ h2, h3, h4⟩
theorem reps_put {H : Hp} {l : Addr} {o : HO} {ds : List Dv} {ys : List V} (hl : ∃ zs, H l = some (.lst zs)) (hd : tupsOnly ds = true) (h : Reps K H ds ys) : Reps K (upd H l o) ds ys := Reps.frm Frm.updT hl _ _ hd h
theorem Cov.len {H : Hp} {l : Addr} {m n : Nat} (C : Cov K H l m n) : ∃ ys, H l = some (.lst ys) /\ ys.length = n :=
  let ⟨cs, ys, h1, h2, h3, _⟩ := C.at_; ⟨ys, h1, by have := h2.length; rw [List.length_map] at this; omega⟩
theorem reps_set {H : Hp} : ∀ {ds : List Dv} {ys : List V} {i : Nat} {d : Dv} {y : V}, Reps K H ds ys -> Rep K H d y -> Reps K H (ds.set i d) (ys.set i y)
  | [], ys, i, d, y, h, _ => by unfold Reps at h; subst h; exact reps_nil
  | d :: ds, ys, i, e, y, h, r => by
    unfold Reps at h
    obtain ⟨x, l, rfl, r0, h⟩ := h
    cases i with
    | zero => exact reps_cons r h
    | succ i => exact reps_cons r0 (reps_set h r)
theorem reps_erase {H : Hp} : ∀ {ds : List Dv} {ys : List V} (i : Nat), Reps K H ds ys -> Reps K H (ds.eraseIdx i) (ys.eraseIdx i)
  | [], ys, i, h => by unfold Reps at h; subst h; exact reps_nil
  | d :: ds, ys, i, h => by
    unfold Reps at h
    obtain ⟨x, l, rfl, r0, h⟩ := h
    cases i with
    | zero => exact h
    | succ i => exact reps_cons r0 (reps_erase i h)
theorem Cov.set {H : Hp} {l p : Addr} {m n i : Nat} {ys : List V} (c : Nat × Str) (C : Cov K H l m n) (hy : H l = some (.lst ys)) (hp : SqT K H p [.int (c.1 : Int), .str c.2]) (hc : c.1 < 2 ^ m /\ okT c.2) : Cov K (upd H l (.lst (ys.set i (.ref p)))) l m n := by
  obtain ⟨cs, ys', h1, h2, h3, h4⟩ := C.at_
  rw [hy] at h1
  cases h1
  refine ⟨cs.set i c, ys.set i (.ref p), upd_same, ?_, by rw [List.length_set, h3], fun x hx => ?_⟩
  . refine reps_put ⟨_, hy⟩ (tups_cov _) ?_
    rw [List.map_set]
    exact reps_set h2 (rep_tup2 hp (reps_cons rep_int (reps_cons rep_str reps_nil)))
  . rcases List.mem_or_eq_of_mem_set hx with h' | h'
    . exact h4 x h'
    . subst h'; exact hc
theorem Cov.erase {H : Hp} {l : Addr} {m n i : Nat} {ys : List V} (C : Cov K H l m n) (hy : H l = some (.lst ys)) : ∃ n', n' <= n /\ Cov K (upd H l (.lst (ys.eraseIdx i))) l m n' := by
  obtain ⟨cs, ys', h1, h2, h3, h4⟩ := C.at_
  rw [hy] at h1
  cases h1
  refine ⟨(cs.eraseIdx i).length, by rw [<- h3]; exact List.length_eraseIdx_le _ _, cs.eraseIdx i, ys.eraseIdx i, upd_same, ?_, rfl, fun x hx => h4 x (List.mem_of_mem_eraseIdx hx)⟩
  refine reps_put ⟨_, hy⟩ (tups_cov _) ?_
  rw [List.eraseIdx_eq_take_drop_succ, List.map_append, List.map_take, List.map_drop, <- List.eraseIdx_eq_take_drop_succ]
  exact reps_erase i h2
theorem Tape.lst {K : W.Frag} {H : Hp} {t a : Addr} {ns : List Int} (T : Tape K H t a ns) : ∃ zs, H t = some (.lst zs) := by
  obtain ⟨i, r, c, _, _, h⟩ := T.at_
  exact ⟨_, h⟩
theorem tape_grow {Pt t a : Addr} {ps : Array Value} {ns : List Int} {H H' : Hp} (T : Tape K H t a ns) (hP : H Pt = some (.tbl ps)) (G : Grow Pt H H') : Tape K H' t a ns := by
  obtain ⟨i, r, c, h1, h2, h3⟩ := T.at_
  refine ⟨⟨i, r, c, h1, h2, G _ _ (fun e => by rw [e, hP] at h3; cases h3) h3⟩, ?_⟩
  rcases T.scr with ⟨h | ⟨o, h⟩, n⟩ | h
  . exact .inl ⟨.inl (G _ _ (fun e => by rw [e, hP] at h; cases h) h), n⟩
  . exact .inl ⟨.inr ⟨o, G _ _ (fun e => by rw [e, hP] at h; cases h) h⟩, n⟩
  . exact .inr h
theorem lam_frmL {Pt t : Addr} {pos : Pos} {q : Str} {H H' : Hp} (l : Lam Pt pos q H) (F : ∃ zs, H t = some (.lst zs)) (f : Frm t H H') : Lam Pt pos q H' := by
  obtain ⟨ps, h1, h2, h3⟩ := l
  obtain ⟨zs, hz⟩ := F
  refine ⟨ps, f _ _ (fun e => by rw [e, hz] at h1; cases h1) h1, h2, ?_⟩
  rcases h3 with h3 | ⟨c', h4, h5⟩
  . exact .inl h3
  . exact .inr ⟨c', h4, f _ _ (fun e => by rw [e, hz] at h5; cases h5) h5⟩
theorem lam_tape {Pt t a : Addr} {ns : List Int} {pos : Pos} {q : Str} {H H' : Hp} (l : Lam Pt pos q H) (F : Tape K H t a ns) (f : Frm t H H') : Lam Pt pos q H' := lam_frmL l F.lst f
theorem sum_tape {H H' : Hp} {v : V} {m : Nat} {t a : Addr} {ns : List Int} {ts : List (Nat × Int)} (S : SumAt K H v m ts) (F : Tape K H t a ns) (f : Frm t H H') : SumAt K H' v m ts := .of (Rep.frm f F.lst _ _ (by have e := tups_T ts; simp [sumD, tupOnly, tupsOnly, e]) S.rep)
theorem Cov.drawT {H H' : Hp} {t l a : Addr} {ns : List Int} {m n : Nat} (C : Cov K H l m n) (nl : l ≠ t) (F : Tape K H t a ns) (f : ∀ b, b ≠ t -> H' b = H b) : Cov K H' l m n :=
  let ⟨cs, ys, h1, h2, h3, h4⟩ := C.at_; ⟨cs, ys, by rw [f l nl]; exact h1, Reps.frm (frm_all f) F.lst _ _ (tups_cov cs) h2, h3, h4⟩
theorem reps_ins {H : Hp} : ∀ (i : Nat) {ds : List Dv} {ys : List V} {d : Dv} {y : V}, Reps K H ds ys -> Rep K H d y -> Reps K H (ds.take i ++ d :: ds.drop i) (ys.take i ++ y :: ys.drop i) := fun i {ds ys d y} h r =>
  (reps_take i h).append (reps_cons r (reps_drop i h))
theorem Cov.ins {H : Hp} {l p : Addr} {m n : Nat} (i : Nat) {ys : List V} (c : Nat × Str) (C : Cov K H l m n) (hy : H l = some (.lst ys)) (hp : SqT K H p [.int (c.1 : Int), .str c.2]) (hc : c.1 < 2 ^ m /\ okT c.2) : Cov K (upd H l (.lst (ys.take i ++ .ref p :: ys.drop i))) l m (n + 1) := by
  obtain ⟨cs, ys', h1, h2, h3, h4⟩ := C.at_
  rw [hy] at h1
  cases h1
  refine ⟨cs.take i ++ c :: cs.drop i, ys.take i ++ .ref p :: ys.drop i, upd_same, ?_, ?_, fun x hx => ?_⟩
  . refine reps_put ⟨_, hy⟩ (tups_cov _) ?_
    rw [List.map_append, List.map_cons, List.map_take, List.map_drop]
    exact reps_ins i h2 (rep_tup2 hp (reps_cons rep_int (reps_cons rep_str reps_nil)))
  . rw [List.length_append, List.length_cons, List.length_take, List.length_drop]
    omega
  . rcases List.mem_append.mp hx with h' | h'
    . exact h4 x (List.mem_of_mem_take h')
    . rcases List.mem_cons.mp h' with h' | h'
      . subst h'; exact hc
      . exact h4 x (List.mem_of_mem_drop h')
theorem two_wordsB {H : Hp} {d : Int} (h0 : 0 <= d) (h1 : d < 2) : ∃ x : Str, atI [V.str ("weights" : Str), .str ("whole" : Str)] d = some (.str x) /\ okT x := by
  have : d = 0 \/ d = 1 := by omega
  rcases this with e | e <;> subst e
  . exact ⟨_, rfl, .inr rfl⟩
  . exact ⟨_, atI_of (n := 1) rfl rfl, .inl rfl⟩
theorem dep_cov : ∀ cs : List (Nat × Str), depDs (cs.map covD) <= 1
  | [] => by simp [depDs]
  | c :: cs => by
    rw [List.map_cons]
    unfold depDs
    have := dep_cov cs
    have h : depD (covD c) <= 1 := by
      show max 0 (max 0 0) + 1 <= 1
      decide
    omega
theorem cov_nil (cs : List (Nat × Str)) : eqD (.lst (cs.map covD)) (.lst []) = decide (cs.length = 0) := by
  rw [eqD_lst]
  cases cs with
  | nil => simp [eqDs]
  | cons c cs => simp [eqDs]
def sp_bent9 (K : W.Frag) : Sp := fun vs H Q _ => match vs with
  | [.ref t, .int n, .int z, v] => ∃ (a : Addr) (ns : List Int) (m k : Nat) (nb : List Bool) (cs : List (Nat × Str)), Tape K H t a ns /\ n = m /\ z = k /\ 1 <= m /\ m <= 6 /\ nb.length = 2 ^ m /\ Rep K H (papD nb cs) v /\ cs.length <= 60 /\ (∀ c ∈ cs, c.1 < 2 ^ m /\ okT c.2) /\ ∀ v' nb' cs' H', Tape K H' t a ns -> Frm t H H' -> nb'.length = 2 ^ m -> Rep K H' (papD nb' cs') v' -> cs'.length <= 64 -> (∀ c ∈ cs', c.1 < 2 ^ m /\ okT c.2) -> Q v' H'
  | _ => False
theorem sp_bent9_mono : SpMono (sp_bent9 K) := fun vs H Q Q' E h q => by
  unfold sp_bent9 at *
  split at q
  . revert q; repeat' first | exact h _ _ | exact newL_mono h | exact out_mono h | exact outT_mono h | walk_at "m"
  . exact q.elim
theorem ok__law_bent : FnOk P w K mg base CX0 5 T.f__law_bent T.d__law_bent ["_law_tape_here", "_law_n", "_law_k", "_law_paper"] (sp_bent9 K) := by
  have G__law_next := ok__law_next (P := P) (w := w) (base := base) T; have G__law_other_table := ok__law_other_table (P := P) (w := w) (base := base) T; have G__law_two := ok__law_two (P := P) (w := w) (base := base) T
  refine T.F__law_bent.ok sc__law_bent (fun vs H Q E h => by unfold sp_bent9 at h; split at h <;> first | rfl | exact h.elim) (fun cdv A outer s H vs Q E hr h => ?_)
  have hu := hu60 hr
  have mo2 : SpMono sp_two := sp_two_mono
  have mo3 : SpMono (sp_other K) := sp_other_mono
  have mo4 : SpMono (spNext K) := spNext_mono
  have hr__law_next := hr.mono (show 1 <= _ by decide); have hr__law_other_table := hr.mono (show 4 <= _ by decide); have hr__law_two := hr.mono (show 1 <= _ by decide)
  unfold sp_bent9 at h
  split at h
  rotate_left
  . exact h.elim
  rename_i t n z v
  obtain ⟨a, ns, m, k, nb, cs, TP, e1, e2, m1, m6, hb, hv, hcl, hcs, q⟩ := h
  subst e1 e2
  have h64 : 2 ^ m <= 64 := Nat.pow_le_pow_right (n := 2) (by decide) m6
  have i1 : ((2 ^ m : Nat) : Int) <= 64 := Int.ofNat_le.mpr h64
  have hpo := Nat.two_pow_pos m
  have okM : okDiv ((2 ^ m : Nat) : Int) := okDiv_of (by omega) (Int.le_trans i1 (by decide))
  have ep : (2 : Int) ^ ((m : Int)).toNat = ((2 ^ m : Nat) : Int) := by rw [Int.toNat_natCast, Int.natCast_pow]; rfl
  obtain ⟨pa, pax, pay, pys, rfl, hpa, hpax, hpay, hpR⟩ := pap_inv hv
  refine ⟨_, (@pss_cons _ _ _ _ _ (@ps_asg _ _ _ _ _ _ (@vw _ 3 _ _ (by walk_at "v")) (@kTupA _ K _ _ _ _ 2 rfl (@pgs_cons _ _ _ _ _ (@pg_name _ _ 4 _ sc__law_bent.nd rfl (by walk_at "e") (by walk_at "i")) (@pgs_cons _ _ _ _ _ (@pg_name _ _ 5 _ sc__law_bent.nd rfl (by walk_at "e") (by walk_at "i")) (@pgs_nil _) (by rfl)) (by rfl)) (by rfl) (by rfl) (by rfl)) (by rfl) (by rfl) (by rfl)) (@pss_cons _ _ _ _ _ (@ps_set _ _ 6 _ _ _ _ sc__law_bent.nd rfl (by walk_at "e") (@pe_callTy _ _ _ _ _ _ _ _ _ (kList (K := K)) rfl T.z_list (by rfl) (@pa1 _ _ _ (@vw _ 5 _ _ (by walk_at "v")) (by rfl)) (by decide) (by decide) (by rfl) (by rfl)) (by rfl) (by walk_at "i")) (@pss_cons _ _ _ _ _ (@ps_for _ _ _ _ _ _ _ _ PassesOwn.never rfl (@pi_range1 _ _ _ _ _ _ rfl T.z_range (@pa1 _ _ _ (@pe_call _ _ _ _ _ _ _ _ _ _ _ _ _ _ _ _ G__law_next hr__law_next rfl T.m__law_next T.F__law_next.kp T.b__law_next .nil pass0 (@pa_cons _ _ _ _ _ (@vw _ 0 _ _ (by walk_at "v")) (@pa1 _ _ _ (@pe_int _ _ _ _) (by rfl)) (by rfl)) (by decide) (by rfl) (by rfl)) (by rfl)) (by rfl)) (@pg_name _ _ 7 _ sc__law_bent.nd rfl (by walk_at "e") (by walk_at "i")) (@pss_cons _ _ _ _ _ (@ps_set _ _ 8 _ _ _ _ sc__law_bent.nd rfl (by walk_at "e") (@pe_call _ _ _ _ _ _ _ _ _ _ _ _ _ _ _ _ G__law_next hr__law_next rfl T.m__law_next T.F__law_next.kp T.b__law_next .nil pass0 (@pa_cons _ _ _ _ _ (@vw _ 0 _ _ (by walk_at "v")) (@pa1 _ _ _ (@pe_int _ _ _ _) (by rfl)) (by rfl)) (by decide) (by rfl) (by rfl)) (by rfl) (by walk_at "i")) (@pss_cons _ _ _ _ _ (@ps_set _ _ 9 _ _ _ _ sc__law_bent.nd rfl (by walk_at "e") (@pe_call _ _ _ _ _ _ _ _ _ _ _ _ _ _ _ _ G__law_next hr__law_next rfl T.m__law_next T.F__law_next.kp T.b__law_next .nil pass0 (@pa_cons _ _ _ _ _ (@vw _ 0 _ _ (by walk_at "v")) (@pa1 _ _ _ (@pe_call _ _ _ _ _ _ _ _ _ _ _ _ _ _ _ _ G__law_two hr__law_two rfl T.m__law_two T.F__law_two.kp T.b__law_two .nil pass0 (@pa1 _ _ _ (@vw _ 1 _ _ (by walk_at "v")) (by rfl)) (by decide) (by rfl) (by rfl)) (by rfl)) (by rfl)) (by decide) (by rfl) (by rfl)) (by rfl) (by walk_at "i")) (@pss_one _ _ _ (@ps_if _ _ _ _ _ _ _ _ (PW.pt (@pw_and _ _ _ _ _ _ _ (@tu_cmp _ _ _ _ _ _ _ _ (kEq (K := K) hu) (@vw _ 8 _ _ (by walk_at "v")) (@pe_int _ _ _ _) (by walk_at "n")) (@pw_and1 _ _ _ _ (@tu_cmp _ _ _ _ _ _ _ _ (kNe (K := K) hu) (@vw _ 6 _ _ (by walk_at "v")) (@pe_lst _ _ _ _ (@pa_nil _)) (by walk_at "n"))))) (@pss_one _ _ _ (@ps_expr _ _ _ _ (@kPopAt _ K _ _ _ _ _ _ (@vw _ 6 _ _ (by walk_at "v")) (@pa1 _ _ _ (@pe_call _ _ _ _ _ _ _ _ _ _ _ _ _ _ _ _ G__law_next hr__law_next rfl T.m__law_next T.F__law_next.kp T.b__law_next .nil pass0 (@pa_cons _ _ _ _ _ (@vw _ 0 _ _ (by walk_at "v")) (@pa1 _ _ _ (@pe_callB _ _ _ _ _ _ _ _ _ (kLen (K := K)) rfl T.z_len (by rfl) (@pa1 _ _ _ (@vw _ 6 _ _ (by walk_at "v")) (by rfl)) (by decide) (by decide) (by rfl) (by rfl)) (by rfl)) (by rfl)) (by decide) (by rfl) (by rfl)) (by rfl)) (by rfl) (by rfl) (by rfl) (by rfl) (by rfl) (by rfl)) (by rfl))) (@pss_one _ _ _ (@ps_if _ _ _ _ _ _ _ _ (PW.pt (@pw_and _ _ _ _ _ _ _ (@tu_cmp _ _ _ _ _ _ _ _ (kEq (K := K) hu) (@vw _ 8 _ _ (by walk_at "v")) (@pe_int _ _ _ _) (by walk_at "n")) (@pw_and1 _ _ _ _ (@tu_cmp _ _ _ _ _ _ _ _ (kNe (K := K) hu) (@vw _ 6 _ _ (by walk_at "v")) (@pe_lst _ _ _ _ (@pa_nil _)) (by walk_at "n"))))) (@pss_cons _ _ _ _ _ (@ps_set _ _ 10 _ _ _ _ sc__law_bent.nd rfl (by walk_at "e") (@pe_call _ _ _ _ _ _ _ _ _ _ _ _ _ _ _ _ G__law_next hr__law_next rfl T.m__law_next T.F__law_next.kp T.b__law_next .nil pass0 (@pa_cons _ _ _ _ _ (@vw _ 0 _ _ (by walk_at "v")) (@pa1 _ _ _ (@pe_callB _ _ _ _ _ _ _ _ _ (kLen (K := K)) rfl T.z_len (by rfl) (@pa1 _ _ _ (@vw _ 6 _ _ (by walk_at "v")) (by rfl)) (by decide) (by decide) (by rfl) (by rfl)) (by rfl)) (by rfl)) (by decide) (by rfl) (by rfl)) (by rfl) (by walk_at "i")) (@pss_one _ _ _ (@ps_asg _ _ _ _ _ _ (@pe_tup _ _ _ _ _ (@pa_cons _ _ _ _ _ (@kIx _ K _ _ _ _ _ (@kIx _ K _ _ _ _ _ (@vw _ 6 _ _ (by walk_at "v")) (@vw _ 10 _ _ (by walk_at "v")) (by intro _ _; rfl) (by rfl)) (@pe_int _ _ _ _) (by intro _ _; rfl) (by rfl)) (@pa1 _ _ _ (@kIx _ K _ _ _ _ _ (@pe_lst _ _ _ _ (@pa_cons _ _ _ _ _ (@pe_str _ _ _ _) (@pa1 _ _ _ (@pe_str _ _ _ _) (by rfl)) (by rfl))) (@pe_call _ _ _ _ _ _ _ _ _ _ _ _ _ _ _ _ G__law_next hr__law_next rfl T.m__law_next T.F__law_next.kp T.b__law_next .nil pass0 (@pa_cons _ _ _ _ _ (@vw _ 0 _ _ (by walk_at "v")) (@pa1 _ _ _ (@pe_int _ _ _ _) (by rfl)) (by rfl)) (by decide) (by rfl) (by rfl)) (by intro _ _; rfl) (by rfl)) (by rfl)) (by rfl))) (@pg_sub _ _ _ _ _ _ _ (@vw _ 6 _ _ (by walk_at "v")) (@vw _ 10 _ _ (by walk_at "v")) set_any (by intro _; rfl)) (by rfl) (by rfl) (by rfl)))) (@pss_one _ _ _ (@ps_expr _ _ _ _ (@kInsert _ K _ _ _ _ _ _ _ (@vw _ 6 _ _ (by walk_at "v")) (@pa_cons _ _ _ _ _ (@pe_call _ _ _ _ _ _ _ _ _ _ _ _ _ _ _ _ G__law_next hr__law_next rfl T.m__law_next T.F__law_next.kp T.b__law_next .nil pass0 (@pa_cons _ _ _ _ _ (@vw _ 0 _ _ (by walk_at "v")) (@pa1 _ _ _ (@pe_op _ _ _ _ _ _ _ _ (kAdd (K := K)) (@pe_callB _ _ _ _ _ _ _ _ _ (kLen (K := K)) rfl T.z_len (by rfl) (@pa1 _ _ _ (@vw _ 6 _ _ (by walk_at "v")) (by rfl)) (by decide) (by decide) (by rfl) (by rfl)) (@pe_int _ _ _ _)) (by rfl)) (by rfl)) (by decide) (by rfl) (by rfl)) (@pa1 _ _ _ (@pe_tup _ _ _ _ _ (@pa_cons _ _ _ _ _ (@vw _ 9 _ _ (by walk_at "v")) (@pa1 _ _ _ (@kIx _ K _ _ _ _ _ (@pe_lst _ _ _ _ (@pa_cons _ _ _ _ _ (@pe_str _ _ _ _) (@pa1 _ _ _ (@pe_str _ _ _ _) (by rfl)) (by rfl))) (@pe_call _ _ _ _ _ _ _ _ _ _ _ _ _ _ _ _ G__law_next hr__law_next rfl T.m__law_next T.F__law_next.kp T.b__law_next .nil pass0 (@pa_cons _ _ _ _ _ (@vw _ 0 _ _ (by walk_at "v")) (@pa1 _ _ _ (@pe_int _ _ _ _) (by rfl)) (by rfl)) (by decide) (by rfl) (by rfl)) (by intro _ _; rfl) (by rfl)) (by rfl)) (by rfl))) (by rfl)) (by rfl)) (by rfl) (by rfl) (by rfl) (by rfl) (by rfl) (by rfl)) (by rfl))))))))) (by intro _; rfl)) (@pss_cons _ _ _ _ _ (@ps_if _ _ _ _ _ _ _ _ (@tu_cmp _ _ _ _ _ _ _ _ (kEq (K := K) hu) (@pe_call _ _ _ _ _ _ _ _ _ _ _ _ _ _ _ _ G__law_next hr__law_next rfl T.m__law_next T.F__law_next.kp T.b__law_next .nil pass0 (@pa_cons _ _ _ _ _ (@vw _ 0 _ _ (by walk_at "v")) (@pa1 _ _ _ (@pe_int _ _ _ _) (by rfl)) (by rfl)) (by decide) (by rfl) (by rfl)) (@pe_int _ _ _ _) (by walk_at "n")) (@pss_one _ _ _ (@ps_set _ _ 4 _ _ _ _ sc__law_bent.nd rfl (by walk_at "e") (@pe_call _ _ _ _ _ _ _ _ _ _ _ _ _ _ _ _ G__law_other_table hr__law_other_table rfl T.m__law_other_table T.F__law_other_table.kp T.b__law_other_table .nil pass0 (@pa_cons _ _ _ _ _ (@vw _ 0 _ _ (by walk_at "v")) (@pa_cons _ _ _ _ _ (@vw _ 1 _ _ (by walk_at "v")) (@pa1 _ _ _ (@vw _ 2 _ _ (by walk_at "v")) (by rfl)) (by rfl)) (by rfl)) (by decide) (by rfl) (by rfl)) (by rfl) (by walk_at "i"))) (@pss_nil _)) (@pss_one _ _ _ (@ps_ret _ _ _ _ (@pe_tup _ _ _ _ _ (@pa_cons _ _ _ _ _ (@vw _ 4 _ _ (by walk_at "v")) (@pa1 _ _ _ (@pe_callTy _ _ _ _ _ _ _ _ _ (kTuple (K := K)) rfl T.z_tuple (by rfl) (@pa1 _ _ _ (@vw _ 6 _ _ (by walk_at "v")) (by rfl)) (by decide) (by decide) (by rfl) (by rfl)) (by rfl)) (by rfl))))))))), ?_⟩
  refine ⟨_, .inr hpa, rfl, _, _, rfl, _, _, rfl, rfl, ?_⟩
  dsimp only [gName]
  refine ⟨pys, .inr hpay, fun l hl => ?_⟩
  dsimp only [gName]
  have s1 := Same.upd (o := .lst pys) hl
  have g1 := upd_same (H := H) (a := l) (o := .lst pys)
  have nl : l ≠ t := TP.neT hl
  generalize L2.upd H l (.lst pys) = H1 at *
  have T1 := TP.same s1
  have C1 : Cov K H1 l m cs.length := ⟨cs, pys, g1, Reps.same s1 _ _ hpR, rfl, hcs⟩
  have base : ∀ {Hx : Hp} {zs : List V}, Frm t H Hx -> Frm t H (upd Hx l (.lst zs)) := fun f => frm_new f hl
  have tput : ∀ {Hx : Hp} {zs : List V}, Tape K Hx t a ns -> Frm t H Hx -> Tape K (upd Hx l (.lst zs)) t a ns := fun {Hx zs} f g => by
    obtain ⟨i, r, c, h1, h2, h3⟩ := f.at_
    exact ⟨⟨i, r, c, h1, h2, by rw [upd_ne (Ne.symm nl)]; exact h3⟩, TP.scr.stay fun o n e => base g a o n e⟩
  refine seq_at (fun σ H' => (∃ z7 z8 z9 z10 : Option V, σ = [some (.ref t), some (.int m), some (.int k), some (.ref pa), some (.ref pax), some (.ref pay), some (.ref l), z7, z8, z9, z10]) /\ Tape K H' t a ns /\ Frm t H H' /\ ∃ n', n' <= 64 /\ Cov K H' l m n') ?_ ?_ (by walk_at "sm")
  . refine ⟨a, ns, T1, okDiv_of (by decide) (by decide), fun d H2 d0 d1 T2 f2 => ?_⟩
    refine ⟨d, rfl, by omega, by omega, ?_⟩
    refine for_range (fun i σ H' => (∃ z7 z8 z9 z10 : Option V, σ = [some (.ref t), some (.int m), some (.int k), some (.ref pa), some (.ref pax), some (.ref pay), some (.ref l), z7, z8, z9, z10]) /\ Tape K H' t a ns /\ Frm t H H' /\ ∃ n', n' <= cs.length + i /\ Cov K H' l m n') ⟨⟨none, none, none, none, rfl⟩, T2, s1.frm.trans (frm_all f2), cs.length, Nat.le_refl _, C1.drawT nl T1 f2⟩ ?_ ?_
    . rintro i σ H3 hi ⟨⟨z7, z8, z9, z10, rfl⟩, T3, fr3, n', hn', C3⟩
      have hi4 : i < 4 := by omega
      dsimp only [gName]
      refine ⟨a, ns, T3, okDiv_of (by decide) (by decide), fun way H4 w0 w1 T4 f4 => ?_⟩
      dsimp only [gName]
      refine ⟨by omega, by omega, fun H5 s5 => ?_⟩
      rw [ep]
      have T5 := T4.same s5
      refine ⟨a, ns, T5, okM, fun x H6 x0 x1 T6 f6 => ?_⟩
      dsimp only [gName]
      obtain ⟨one, rfl⟩ := Int.eq_ofNat_of_zero_le x0
      have C6 := ((C3.drawT nl T3 f4).same s5).drawT nl T5 f6
      have fr6 : Frm t H H6 := fr3.trans ((frm_all f4).trans (s5.frm.trans (frm_all f6)))
      have okn : okDiv ((n' : Nat) : Int) \/ n' = 0 := by
        by_cases c : n' = 0
        . exact .inr c
        . exact .inl (okDiv_of (by omega) (Int.le_trans (Int.ofNat_le.mpr (show n' <= 64 by omega)) (by decide)))
      clear T3 T4 T5 f4 f6 s5 C3 fr3
      have test : ∀ {Hx : Hp} {wy : Int} {Q : Bool -> Hp -> Prop}, Cov K Hx l m n' -> ∀ b, (b = true ↔ way = wy /\ n' ≠ 0) -> (∀ H', Same Hx H' -> Q b H') -> (if (false ^^ (way == wy)) = true then ((0 : Nat) <= sizeLine /\ ∀ p, Hx p = none -> ∃ d e, Rep K (upd Hx p (.lst [])) d (.ref l) /\ Rep K (upd Hx p (.lst [])) e (.ref p) /\ depD d <= 60 /\ Q (true ^^ eqD d e) (upd Hx p (.lst []))) else Q false Hx) := fun {Hx wy Q} C b hb q => by
        refine ite2 (fun e => ⟨Nat.zero_le _, fun p np => ?_⟩) (fun e => ?_)
        . have ew : way = wy := by simpa using e
          have s7 := Same.upd (o := .lst []) np
          obtain ⟨cs', ys', h1, h2, h3, h4⟩ := (C.same s7).at_
          refine ⟨.lst (cs'.map covD), .lst [], by unfold Rep; exact ⟨l, ys', rfl, .of h1, h2⟩, by unfold Rep; exact ⟨p, [], rfl, .of upd_same, reps_nil⟩, by have := dep_cov cs'; show depDs (cs'.map covD) + 1 <= 60; omega, ?_⟩
          have q' := q _ s7
          have eb : (true ^^ eqD (.lst (cs'.map covD)) (.lst [])) = b := by
            rw [cov_nil, h3, Bool.eq_iff_iff, hb]
            simp [ew]
          rw [eb]
          exact q'
        . have ew : ¬ way = wy := by simpa using e
          have eb : b = false := by
            cases b with
            | false => rfl
            | true => exact absurd (hb.mp rfl).1 ew
          rw [<- eb]
          exact q _ (Same.refl _)
      refine if_same (decide (way = 0 /\ n' ≠ 0)) (fun Q q => test C6 _ decide_eq_true_iff q) fun H7 s7 => ?_
      have C7 := C6.same s7
      have T7 := T6.same s7
      have fr7 := fr6.trans s7.frm
      clear C6 T6 fr6 s7
      refine ite2 (fun e => ?_) (fun e => ?_)
      . have e := of_decide_eq_true e
        obtain ⟨ys, hys, hyl⟩ := C7.len
        refine ⟨.inl ⟨rfl, _, .of hys⟩, n', .inl ⟨ys, .of hys, hyl.symm⟩, a, ns, T7, okn.resolve_right e.2, fun j H8 j0 j1 T8 f8 => ?_⟩
        obtain ⟨jn, rfl⟩ := Int.eq_ofNat_of_zero_le j0
        have C8 := C7.drawT nl T7 f8
        have hy8 : H8 l = some (.lst ys) := by rw [f8 l nl]; exact hys
        have hjn : jn < ys.length := by omega
        obtain ⟨n2, hn2, C'⟩ := C8.erase (i := ((jn : Nat) : Int).toNat) hy8
        have fr8 := fr7.trans (frm_all f8)
        exact ⟨ys, ys[jn], hy8, by omega, by omega, by rw [Int.toNat_natCast]; exact List.getElem?_eq_getElem hjn, ⟨_, _, _, _, rfl⟩, tput T8 fr8, base fr8, n2, by omega, C'⟩
      refine if_same (decide (way = 1 /\ n' ≠ 0)) (fun Q q => test C7 _ decide_eq_true_iff q) fun H8 s8 => ?_
      have C8 := C7.same s8
      have T8 := T7.same s8
      have fr8 := fr7.trans s8.frm
      clear C7 T7 fr7 s8 test
      refine ite2 (fun e => ?_) (fun e => ?_)
      . have e := of_decide_eq_true e
        obtain ⟨ys, hys, hyl⟩ := C8.len
        refine ⟨n', .inl ⟨ys, .of hys, hyl.symm⟩, a, ns, T8, okn.resolve_right e.2, fun j H9 j0 j1 T9 f9 => ?_⟩
        dsimp only [gName]
        obtain ⟨jn, rfl⟩ := Int.eq_ofNat_of_zero_le j0
        have C9 := C8.drawT nl T8 f9
        have fr9 := fr8.trans (frm_all f9)
        have hy9 : H9 l = some (.lst ys) := by rw [f9 l nl]; exact hys
        have hjn : jn < ys.length := by omega
        obtain ⟨cs9, ys9, h1, h2, h3, h4⟩ := C9.at_
        rw [hy9] at h1
        cases h1
        obtain ⟨b, c, hc, eb, hb1⟩ := cov_at h2 (List.getElem?_eq_getElem hjn)
        have hcm := h4 c (List.mem_of_getElem? hc)
        refine ⟨_, .ref b, .inl (.of hy9), atI_of rfl (by rw [List.getElem?_eq_getElem hjn, eb]), _, _, .inr hb1, atI_of (n := 0) rfl rfl, small_le (show 2 <= 1000 by decide), fun p1 n1 => ?_⟩
        have s10 := Same.upd (o := .lst [.str (Str.ofString "weights"), .str (Str.ofString "whole")]) n1
        have g10 := upd_same (H := H9) (a := p1) (o := .lst [.str (Str.ofString "weights"), .str (Str.ofString "whole")])
        have u1 := T9.neT n1
        generalize L2.upd H9 p1 (.lst [.str (Str.ofString "weights"), .str (Str.ofString "whole")]) = H10 at *
        have T10 := T9.same s10
        refine ⟨a, ns, T10, okDiv_of (by decide) (by decide), fun d2 H11 d20 d21 T11 f11 => ?_⟩
        obtain ⟨x, hx, ox⟩ := two_wordsB (H := H11) d20 d21
        refine ⟨_, _, .inl (.of (by rw [f11 p1 u1]; exact g10)), hx, small_le (show 2 <= 1000 by decide), fun p2 n2 => ?_⟩
        have s12 := Same.upd (o := .tup [.int (c.1 : Int), .str x]) n2
        have g12 := upd_same (H := H11) (a := p2) (o := .tup [.int (c.1 : Int), .str x])
        generalize L2.upd H11 p2 (.tup [.int (c.1 : Int), .str x]) = H12 at *
        have C12 := ((C9.same s10).drawT nl T10 f11).same s12
        have hy12 : H12 l = some (.lst ys) := s12 _ _ (by rw [f11 l nl]; exact s10 _ _ hy9)
        have fr12 := fr9.trans (s10.frm.trans ((frm_all f11).trans s12.frm))
        exact ⟨_, jn, hy12, ixN_nat (by omega), ⟨_, _, _, _, rfl⟩, tput (T11.same s12) fr12, base fr12, n', by omega, C12.set (c.1, x) hy12 (.of g12) ⟨hcm.1, ox⟩⟩
      . obtain ⟨ys, hys, hyl⟩ := C8.len
        refine ⟨.inl ⟨rfl, _, .of hys⟩, n', .inl ⟨ys, .of hys, hyl.symm⟩, a, ns, T8, okDiv_of (by omega) (Int.le_trans (show ((n' : Nat) : Int) + 1 <= 65 by omega) (by decide)), fun j H9 j0 j1 T9 f9 => ?_⟩
        obtain ⟨jn, rfl⟩ := Int.eq_ofNat_of_zero_le j0
        have C9 := C8.drawT nl T8 f9
        have fr9 := fr8.trans (frm_all f9)
        have hy9 : H9 l = some (.lst ys) := by rw [f9 l nl]; exact hys
        refine ⟨small_le (show 2 <= 1000 by decide), fun p1 n1 => ?_⟩
        have s10 := Same.upd (o := .lst [.str (Str.ofString "weights"), .str (Str.ofString "whole")]) n1
        have g10 := upd_same (H := H9) (a := p1) (o := .lst [.str (Str.ofString "weights"), .str (Str.ofString "whole")])
        have u1 := T9.neT n1
        generalize L2.upd H9 p1 (.lst [.str (Str.ofString "weights"), .str (Str.ofString "whole")]) = H10 at *
        have T10 := T9.same s10
        refine ⟨a, ns, T10, okDiv_of (by decide) (by decide), fun d2 H11 d20 d21 T11 f11 => ?_⟩
        obtain ⟨x, hx, ox⟩ := two_wordsB (H := H11) d20 d21
        refine ⟨_, _, .inl (.of (by rw [f11 p1 u1]; exact g10)), hx, small_le (show 2 <= 1000 by decide), fun p2 n2 => ?_⟩
        have s12 := Same.upd (o := .tup [.int (one : Int), .str x]) n2
        have g12 := upd_same (H := H11) (a := p2) (o := .tup [.int (one : Int), .str x])
        generalize L2.upd H11 p2 (.tup [.int (one : Int), .str x]) = H12 at *
        have C12 := ((C9.same s10).drawT nl T10 f11).same s12
        have hy12 : H12 l = some (.lst ys) := s12 _ _ (by rw [f11 l nl]; exact s10 _ _ hy9)
        have fr12 := fr9.trans (s10.frm.trans ((frm_all f11).trans s12.frm))
        exact ⟨ys, hy12, by omega, by omega, by omega, ⟨_, _, _, _, rfl⟩, tput (T11.same s12) fr12, base fr12, n' + 1, by omega, C12.ins (((jn : Nat) : Int).toNat) (one, x) hy12 (.of g12) ⟨by show one < 2 ^ m; omega, ox⟩⟩
    . rintro σ H3 ⟨h1, h2, h3, n', hn', C3⟩
      exact ⟨h1, h2, h3, n', by omega, C3⟩
  rintro σ H2 ⟨⟨z7, z8, z9, z10, rfl⟩, T2, fr2, n', hn', C2⟩
  have rn : ∀ {Hx : Hp}, Frm t H Hx -> Rep K Hx (.tup (nb.map Dv.bl)) (.ref pax) := fun f => Rep.frm f TP.lst _ _ (by unfold tupOnly; exact tups_bl nb) (rep_tup2 hpax (reps_bl nb))
  refine seq_at (fun σ H' => ∃ (z7 z8 z9 z10 : Option V) (px : Addr) (nb' : List Bool), σ = [some (.ref t), some (.int m), some (.int k), some (.ref pa), some (.ref px), some (.ref pay), some (.ref l), z7, z8, z9, z10] /\ Tape K H' t a ns /\ Frm t H H' /\ nb'.length = 2 ^ m /\ Rep K H' (.tup (nb'.map Dv.bl)) (.ref px) /\ Cov K H' l m n') ?_ ?_ (by walk_at "sm")
  . refine ⟨a, ns, T2, okDiv_of (by decide) (by decide), fun d H3 _ _ T3 f3 => ?_⟩
    have C3 := C2.drawT nl T2 f3
    have fr3 := fr2.trans (frm_all f3)
    refine ite2 (fun e => ?_) (fun e => ⟨_, _, _, _, pax, nb, rfl, T3, fr3, hb, rn fr3, C3⟩)
    refine ⟨a, ns, m, k, T3, rfl, rfl, m1, m6, fun bs p H4 hbs np gp T4 fr4 => ?_⟩
    obtain ⟨cs', ys', h1, h2, h3, h4⟩ := C3.at_
    exact ⟨_, _, _, _, p, bs, rfl, T4, fr3.trans fr4, hbs, rep_tup1 gp (reps_bl bs), cs', ys', fr4 _ _ nl h1, Reps.frm fr4 T3.lst _ _ (tups_cov cs') h2, h3, h4⟩
  rintro σ H3 ⟨z7, z8, z9, z10, px, nb', rfl, T3, fr3, hb', r3, C3⟩
  obtain ⟨cs', ys', h1, h2, h3, h4⟩ := C3.at_
  refine ⟨ys', .inl ⟨.of h1, fun q1 m1' => ⟨small_le (show 2 <= 1000 by decide), fun q2 m2 => ?_⟩⟩⟩
  have s6 := (Same.upd (o := .tup ys') m1').trans (Same.upd (o := .tup [.ref px, .ref q1]) m2)
  refine q _ nb' cs' _ (T3.same s6) (fr3.trans s6.frm) hb' (rep_tup1 upd_same (reps_cons (Rep.same s6 _ _ r3) (reps_cons (rep_tup1 (Same.upd m2 _ _ upd_same) (Reps.same s6 _ _ h2)) reps_nil))) (by omega) h4
def sp_holds9 (K : W.Frag) : Sp := fun vs H Q _ => match vs with
  | [.int n, .int z, .ref tp, v] => ∃ (m k : Nat) (bs nb : List Bool) (cs : List (Nat × Str)), n = m /\ z = k /\ m <= 6 /\ SqT K H tp (bs.map V.bl) /\ bs.length = 2 ^ m /\ nb.length = 2 ^ m /\ Rep K H (papD nb cs) v /\ (∀ c ∈ cs, c.1 < 2 ^ m) /\ nearB m k bs nb cs = true /\ out H Q (.bl true)
  | _ => False
theorem sp_holds9_mono : SpMono (sp_holds9 K) := fun vs H Q Q' E h q => by
  unfold sp_holds9 at *
  split at q
  . revert q; repeat' first | exact h _ _ | exact newL_mono h | exact out_mono h | exact outT_mono h | walk_at "m"
  . exact q.elim
theorem ok__law_holds : FnOk P w K mg base CX0 5 T.f__law_holds T.d__law_holds ["_law_n", "_law_k", "_law_table_here", "_law_paper"] (sp_holds9 K) := by
  have G__law_bits := ok__law_bits (P := P) (w := w) (base := base) T; have G__law_sets := ok__law_sets (P := P) (w := w) (base := base) T; have G__law_hangs := ok__law_hangs (P := P) (w := w) (base := base) T; have G__law_differs := ok__law_differs (P := P) (w := w) (base := base) T
  refine T.F__law_holds.ok sc__law_holds (fun vs H Q E h => by unfold sp_holds9 at h; split at h <;> first | rfl | exact h.elim) (fun cdv A outer s H vs Q E hr h => ?_)
  have hu := hu60 hr
  have mo1 : SpMono sp_bits := sp_bits_mono
  have mo2 : SpMono (sp_lhangs K) := sp_lhangs_mono
  have mo3 : SpMono sp_sets := sp_sets_mono
  have mo4 : SpMono (sp_dfs K) := sp_dfs_mono
  have hr__law_bits := hr.mono (show 2 <= _ by decide); have hr__law_sets := hr.mono (show 3 <= _ by decide); have hr__law_hangs := hr.mono (show 3 <= _ by decide); have hr__law_differs := hr.mono (show 4 <= _ by decide)
  unfold sp_holds9 at h
  split at h
  rotate_left
  . exact h.elim
  rename_i n z tp v
  obtain ⟨m, k, bs, nb, cs, e1, e2, m6, ht, hb, hnb, hv, hcs, hn, q⟩ := h
  subst e1 e2
  have h64 : 2 ^ m <= 64 := Nat.pow_le_pow_right (n := 2) (by decide) m6
  have i1 : ((2 ^ m : Nat) : Int) <= 64 := Int.ofNat_le.mpr h64
  have hold := near_holds hcs hn
  have hung : manyF m (hungTo (cntS nb m) m) <= k := by
    unfold nearB at hn
    rw [Bool.and_eq_true, decide_eq_true_eq] at hn
    exact hn.1.1
  obtain ⟨pa, pax, pay, pys, rfl, hpa, hpax, hpay, hpR⟩ := pap_inv hv
  refine ⟨_, (@pss_cons _ _ _ _ _ (@ps_set _ _ 4 _ _ _ _ sc__law_holds.nd rfl (by walk_at "e") (@kIx _ K _ _ _ _ _ (@vw _ 3 _ _ (by walk_at "v")) (@pe_int _ _ _ _) (by intro _ _; rfl) (by rfl)) (by rfl) (by walk_at "i")) (@pss_cons _ _ _ _ _ (@ps_if _ _ _ _ _ _ _ _ (PW.pt (@pw_or _ _ _ _ _ _ _ (@pt_not _ _ _ _ (@tu_val _ _ _ (@pe_callB _ _ _ _ _ _ _ _ _ (kIsiD (K := K)) rfl T.z_isinstance (by rfl) (@pa_cons _ _ _ _ _ (@vw _ 4 _ _ (by walk_at "v")) (@pa1 _ _ _ (@pe_bltn _ _ (.ty "tuple") _ _ rfl T.z_tuple (by rfl) rfl (by decide) (by decide)) (by rfl)) (by rfl)) (by decide) (by decide) (by rfl) (by rfl)) (by intro _; rfl))) (@pw_or1 _ _ _ _ (@tu_cmp _ _ _ _ _ _ _ _ (kNe (K := K) hu) (@pe_callB _ _ _ _ _ _ _ _ _ (kLen (K := K)) rfl T.z_len (by rfl) (@pa1 _ _ _ (@vw _ 4 _ _ (by walk_at "v")) (by rfl)) (by decide) (by decide) (by rfl) (by rfl)) (@pe_callB _ _ _ _ _ _ _ _ _ (kLen (K := K)) rfl T.z_len (by rfl) (@pa1 _ _ _ (@vw _ 2 _ _ (by walk_at "v")) (by rfl)) (by decide) (by decide) (by rfl) (by rfl)) (by walk_at "n"))))) (@pss_one _ _ _ (@ps_ret _ _ _ _ (@pe_bl _ _ _ _))) (@pss_nil _)) (@pss_cons _ _ _ _ _ (@ps_if _ _ _ _ _ _ _ _ (@tu_cmp _ _ _ _ _ _ _ _ om_gt (@kCount _ K _ _ _ _ _ _ (@pe_call _ _ _ _ _ _ _ _ _ _ _ _ _ _ _ _ G__law_bits hr__law_bits rfl T.m__law_bits T.F__law_bits.kp T.b__law_bits .nil pass0 (@pa_cons _ _ _ _ _ (@vw _ 0 _ _ (by walk_at "v")) (@pa1 _ _ _ (@pe_call _ _ _ _ _ _ _ _ _ _ _ _ _ _ _ _ G__law_hangs hr__law_hangs rfl T.m__law_hangs T.F__law_hangs.kp T.b__law_hangs .nil pass0 (@pa_cons _ _ _ _ _ (@vw _ 0 _ _ (by walk_at "v")) (@pa1 _ _ _ (@vw _ 4 _ _ (by walk_at "v")) (by rfl)) (by rfl)) (by decide) (by rfl) (by rfl)) (by rfl)) (by rfl)) (by decide) (by rfl) (by rfl)) (@pa1 _ _ _ (@pe_bl _ _ _ _) (by rfl)) (by rfl) (by rfl) (by rfl) (by rfl) (by rfl) (by rfl)) (@vw _ 1 _ _ (by walk_at "v")) (by walk_at "n")) (@pss_one _ _ _ (@ps_ret _ _ _ _ (@pe_bl _ _ _ _))) (@pss_nil _)) (@pss_cons _ _ _ _ _ (@ps_set _ _ 5 _ _ _ _ sc__law_holds.nd rfl (by walk_at "e") (@pe_callB _ _ _ _ _ _ _ _ _ (kLen (K := K)) rfl T.z_len (by rfl) (@pa1 _ _ _ (@pe_compB _ _ _ _ _ _ _ (["_law_place", "_law_table_here", "_law_near"]) 1 ([2, 4]) _ _ _ _ rfl (@pi_range1 _ _ _ _ _ _ rfl T.z_range (@pa1 _ _ _ (@pe_callB _ _ _ _ _ _ _ _ _ (kLen (K := K)) rfl T.z_len (by rfl) (@pa1 _ _ _ (@vw _ 2 _ _ (by walk_at "v")) (by rfl)) (by decide) (by decide) (by rfl) (by rfl)) (by rfl)) (by rfl)) (by kernel_rfl) rfl rfl (by kernel_rfl) (fun c => @pg_name _ _ 0 _ (show (["_law_place", "_law_table_here", "_law_near"] : List Str).Nodup by decide +kernel) rfl (by walk_at "e") (by walk_at "i")) (go_name (by decide)) (fun c => @pts_one _ _ _ (@tu_cmp _ _ _ _ _ _ _ _ (kNe (K := K) hu) (@kIx _ K _ _ _ _ _ (@vw _ 1 _ _ (by walk_at "v")) (@vw _ 0 _ _ (by walk_at "v")) (by intro _ _; rfl) (by rfl)) (@kIx _ K _ _ _ _ _ (@vw _ 2 _ _ (by walk_at "v")) (@vw _ 0 _ _ (by walk_at "v")) (by intro _ _; rfl) (by rfl)) (by walk_at "n"))) (fun c => (@vw _ 0 _ _ (by walk_at "v"))) (by intro _; rfl)) (by rfl)) (by decide) (by decide) (by rfl) (by rfl)) (by rfl) (by walk_at "i")) (@pss_one _ _ _ (@ps_ret _ _ _ _ (@pe_cmpM _ _ _ _ _ _ _ _ (kEq (K := K) hu) (@pe_compB _ _ _ _ _ _ _ (["_law_one", "_law_n", "_law_table_here", "_law_apart"]) 1 ([0, 2, 5]) _ _ _ _ rfl (@kSeq _ K _ _ _ (@pe_call _ _ _ _ _ _ _ _ _ _ _ _ _ _ _ _ G__law_sets hr__law_sets rfl T.m__law_sets T.F__law_sets.kp T.b__law_sets .nil pass0 (@pa_cons _ _ _ _ _ (@vw _ 0 _ _ (by walk_at "v")) (@pa1 _ _ _ (@vw _ 1 _ _ (by walk_at "v")) (by rfl)) (by rfl)) (by decide) (by rfl) (by rfl)) (by rfl)) (by kernel_rfl) rfl rfl (by kernel_rfl) (fun c => @pg_name _ _ 0 _ (show (["_law_one", "_law_n", "_law_table_here", "_law_apart"] : List Str).Nodup by decide +kernel) rfl (by walk_at "e") (by walk_at "i")) (go_name (by decide)) (fun c => @pts_one _ _ _ (@tu_cmp _ _ _ _ _ _ _ _ om_lt (@pe_call _ _ _ _ _ _ _ _ _ _ _ _ _ _ _ _ G__law_differs hr__law_differs rfl T.m__law_differs T.F__law_differs.kp T.b__law_differs .nil pass0 (@pa_cons _ _ _ _ _ (@vw _ 1 _ _ (by walk_at "v")) (@pa_cons _ _ _ _ _ (@vw _ 2 _ _ (by walk_at "v")) (@pa1 _ _ _ (@vw _ 0 _ _ (by walk_at "v")) (by rfl)) (by rfl)) (by rfl)) (by decide) (by rfl) (by rfl)) (@vw _ 3 _ _ (by walk_at "v")) (by walk_at "n"))) (fun c => (@vw _ 0 _ _ (by walk_at "v"))) (by intro _; rfl)) (@pe_lst _ _ _ _ (@pa_nil _)) (by walk_at "n")))))))), ?_⟩
  refine ⟨_, _, .inr hpa, atI_of (n := 0) rfl rfl, ?_⟩
  dsimp only [gName]
  refine seq_at (fun σ H' => σ = [some (.int m), some (.int k), some (.ref tp), some (.ref pa), some (.ref pax), none] /\ H = H') ?_ ?_ (by walk_at "sm")
  . refine if_val false ?_ ?_
    . intro Q q
      refine ⟨by decide, .tup (nb.map Dv.bl), rep_tup2 hpax (reps_bl nb), ?_⟩
      refine ⟨2 ^ m, .inr ⟨_, hpax, by rw [List.length_map, hnb]⟩, 2 ^ m, .inr ⟨_, ht, by rw [List.length_map, hb]⟩, ?_⟩
      have e0 : (true ^^ (((2 ^ m : Nat) : Int) == ((2 ^ m : Nat) : Int))) = false := by simp
      rw [<- e0] at q
      exact q
    . exact iteF ⟨rfl, rfl⟩
  rintro σ _ ⟨rfl, rfl⟩
  refine seq_at (fun σ H' => σ = [some (.int m), some (.int k), some (.ref tp), some (.ref pa), some (.ref pax), none] /\ Same H H') ?_ ?_ (by walk_at "sm")
  . refine ⟨m, nb, rfl, hpax, hnb, m6, fun H1 s1 => ⟨m, _, rfl, rfl, m6, fun p3 H3 n3 s3 g3 => ⟨.inl ⟨rfl, _, .of g3⟩, _, .of g3, rfl, all_flat_bl _, ?_⟩⟩⟩
    rw [countP_bl, count_bits]
    refine ite2 (fun e => ?_) (fun e => ⟨rfl, s1.trans s3⟩)
    have := of_decide_eq_true e
    omega
  rintro σ H1 ⟨rfl, s1⟩
  refine seq_at (fun σ H' => σ = [some (.int m), some (.int k), some (.ref tp), some (.ref pa), some (.ref pax), some (.int ((difL nb bs (2 ^ m)).length : Nat))] /\ Same H H') ?_ ?_ (by walk_at "sm")
  . refine ⟨2 ^ m, .inr ⟨_, s1.sqT ht, by rw [List.length_map, hb]⟩, ((2 ^ m : Nat) : Int), rfl, by omega, by omega, ?_⟩
    refine comp_range (fun i ys H' => H' = H1 /\ ys = iL (difL nb bs i)) ⟨rfl, rfl⟩ (fun i ys H' hi ⟨_, e⟩ => by
      have := difL_len nb bs i
      rw [e, iL_len]; exact small1000 (by omega)) ?_ ?_
    . rintro j ys H' hj ⟨rfl, rfl⟩
      have hj' : j < 2 ^ m := by omega
      rw [show (0 : Int) + (j : Int) = (j : Int) from Int.zero_add _]
      refine ⟨_, .bl (gB bs j), .inr (s1.sqT ht), gB_at (by omega), _, .bl (gB nb j), .inr (s1.sqT hpax), gB_at (by omega), ?_⟩
      refine ite2 (fun e => ?_) (fun e => ?_)
      . have e' : (gB nb j != gB bs j) = true := by
          revert e
          cases gB nb j <;> cases gB bs j <;> simp
        refine ⟨rfl, ?_⟩
        rw [difL_succ, if_pos e', iL_app]
        rfl
      . have e' : ¬ (gB nb j != gB bs j) = true := by
          revert e
          cases gB nb j <;> cases gB bs j <;> simp
        refine ⟨rfl, ?_⟩
        rw [difL_succ, if_neg e', List.append_nil]
    . rintro ys H' ⟨rfl, rfl⟩ l hl
      rw [Int.toNat_natCast]
      exact ⟨(difL nb bs (2 ^ m)).length, .inl ⟨_, .of upd_same, by rw [iL_len]⟩, rfl, s1.trans (Same.upd hl)⟩
  rintro σ H2 ⟨rfl, s2⟩
  refine ⟨m, k, rfl, rfl, m6, fun ls H3 hls s3 g3 => .inl ⟨⟨_, .of g3⟩, ?_⟩⟩
  have hmem := fun {x : Nat} (h : x ∈ setL m (min m k) (2 ^ m)) => setL_mem h
  generalize setL m (min m k) (2 ^ m) = ss at *
  have s03 := s2.trans s3
  refine comp_list (xs := iL ss) (fun i ys H' => Same H3 H' /\ ys = []) ⟨Same.refl _, rfl⟩ (fun i ys H' _ ⟨s, _⟩ => .of (s _ _ g3)) (fun i ys H' hi ⟨_, e⟩ => by
    rw [e]; exact small1000 (by decide)) ?_ ?_
  . rintro j y ys H4 hy ⟨s4, rfl⟩
    obtain ⟨c, hc, hcm, rfl⟩ := iL_at hy
    have hh := hold c hcm
    refine ⟨m, c, bs, rfl, rfl, (s03.trans s4).sqT ht, hb, m6, hmem hcm, fun H5 s5 => ?_⟩
    refine ite2 (fun e => ?_) (fun e => ⟨s4.trans s5, rfl⟩)
    have := of_decide_eq_true e
    omega
  . rintro ys H4 ⟨s4, rfl⟩ l hl
    refine ⟨Nat.zero_le _, fun p np => ?_⟩
    have s5 := Same.upd (o := .lst []) np
    refine ⟨.lst [], .lst [], by unfold Rep; exact ⟨l, [], rfl, .of (s5 _ _ upd_same), reps_nil⟩, by unfold Rep; exact ⟨p, [], rfl, .of upd_same, reps_nil⟩, by show depDs [] + 1 <= 60; simp [depDs], ?_⟩
    have e0 : (false ^^ eqD (.lst []) (.lst [])) = true := by rw [eqD_lst]; simp [eqDs]
    rw [e0]
    exact q _ (s03.trans (s4.trans ((Same.upd hl).trans s5)))
def Pap (K : W.Frag) (H : Hp) (m : Nat) (v : V) : Prop := ∃ nb cs, nb.length = 2 ^ m /\ Rep K H (papD nb cs) v /\ cs.length <= 64 /\ ∀ c ∈ cs, c.1 < 2 ^ m
theorem pap_only (nb : List Bool) (cs : List (Nat × Str)) : tupOnly (papD nb cs) = true := by
  show (tupsOnly (nb.map Dv.bl) && (tupsOnly (cs.map covD) && true)) = true
  rw [tups_bl, tups_cov]
  rfl
theorem Pap.same {H H' : Hp} {m : Nat} {v : V} (h : Pap K H m v) (s : Same H H') : Pap K H' m v := let ⟨nb, cs, h1, h2, h3⟩ := h; ⟨nb, cs, h1, Rep.same s _ _ h2, h3⟩
theorem Pap.frmT {H H' : Hp} {m : Nat} {v : V} {t a : Addr} {ns : List Int} (h : Pap K H m v) (F : Tape K H t a ns) (f : Frm t H H') : Pap K H' m v := let ⟨nb, cs, h1, h2, h3⟩ := h; ⟨nb, cs, h1, Rep.frm f F.lst _ _ (pap_only nb cs) h2, h3⟩
theorem ok_law (B : BMn mg base) : FnOk P w K mg base CX0 8 T.f_law T.d_law ["_law_script"] (spLawT K [T.p_nearest]) := by
  have G__law_tape := ok__law_tape (P := P) (w := w) (base := base) T; have G__law_next := ok__law_next (P := P) (w := w) (base := base) T; have G__law_table := ok__law_table (P := P) (w := w) (base := base) T; have G_sum_of := ok_sum_of (P := P) (w := w) (base := base) T; have G_near_paper := ok_near_paper (P := P) (w := w) (base := base) T B; have G_lets_near := ok_lets_near (P := P) (w := w) (base := base) T; have G__law_bent := ok__law_bent (P := P) (w := w) (base := base) T; have G__law_holds := ok__law_holds (P := P) (w := w) (base := base) T; have G__law_sets := ok__law_sets (P := P) (w := w) (base := base) T; have G__law_two := ok__law_two (P := P) (w := w) (base := base) T
  refine T.F_law.ok sc_law (fun vs H Q E h => by obtain ⟨a, ns, rfl, _⟩ := h; rfl) (fun cdv A outer s H vs Q E hr h => ?_)
  have hu := hu60 hr
  have mo1 : SpMono (sp_npaper K T.p_nearest) := sp_npaper_mono
  have mo3 : SpMono (sp_table K) := sp_table_mono
  have mo4 : SpMono (sp_psum K) := sp_psum_mono
  have mo5 : SpMono sp_two := sp_two_mono
  have mo6 : SpMono sp_sets := sp_sets_mono
  have mo7 : SpMono (sp_pnear K) := sp_pnear_mono
  have mo8 : SpMono (sp_bent9 K) := sp_bent9_mono
  have mo9 : SpMono (sp_holds9 K) := sp_holds9_mono
  have hr__law_tape := hr.mono (show 1 <= _ by decide); have hr__law_next := hr.mono (show 1 <= _ by decide); have hr__law_table := hr.mono (show 4 <= _ by decide); have hr_sum_of := hr.mono (show 3 <= _ by decide); have hr_near_paper := hr.mono (show 7 <= _ by decide); have hr_lets_near := hr.mono (show 6 <= _ by decide); have hr__law_bent := hr.mono (show 5 <= _ by decide); have hr__law_holds := hr.mono (show 5 <= _ by decide); have hr__law_sets := hr.mono (show 3 <= _ by decide); have hr__law_two := hr.mono (show 1 <= _ by decide)
  obtain ⟨a, ns, rfl, hsq, hlen, hT, q⟩ := h
  have hP := hT T.p_nearest List.mem_cons_self
  refine ⟨_, (@pss_cons _ _ _ _ _ (@ps_set _ _ 1 _ _ _ _ sc_law.nd rfl (by walk_at "e") (@pe_call _ _ _ _ _ _ _ _ _ _ _ _ _ _ _ _ G__law_tape hr__law_tape rfl T.m__law_tape T.F__law_tape.kp T.b__law_tape .nil pass0 (@pa1 _ _ _ (@vw _ 0 _ _ (by walk_at "v")) (by rfl)) (by decide) (by rfl) (by rfl)) (by rfl) (by walk_at "i")) (@pss_cons _ _ _ _ _ (@ps_for _ _ _ _ _ _ _ _ PassesOwn.never rfl (@pi_range1 _ _ _ _ _ _ rfl T.z_range (@pa1 _ _ _ (@pe_int _ _ _ _) (by rfl)) (by rfl)) (@pg_name _ _ 2 _ sc_law.nd rfl (by walk_at "e") (by walk_at "i")) (@pss_cons _ _ _ _ _ (@ps_set _ _ 3 _ _ _ _ sc_law.nd rfl (by walk_at "e") (@pe_op _ _ _ _ _ _ _ _ (kAdd (K := K)) (@pe_int _ _ _ _) (@pe_call _ _ _ _ _ _ _ _ _ _ _ _ _ _ _ _ G__law_next hr__law_next rfl T.m__law_next T.F__law_next.kp T.b__law_next .nil pass0 (@pa_cons _ _ _ _ _ (@vw _ 1 _ _ (by walk_at "v")) (@pa1 _ _ _ (@pe_int _ _ _ _) (by rfl)) (by rfl)) (by decide) (by rfl) (by rfl))) (by rfl) (by walk_at "i")) (@pss_cons _ _ _ _ _ (@ps_set _ _ 4 _ _ _ _ sc_law.nd rfl (by walk_at "e") (@pe_call _ _ _ _ _ _ _ _ _ _ _ _ _ _ _ _ G__law_next hr__law_next rfl T.m__law_next T.F__law_next.kp T.b__law_next .nil pass0 (@pa_cons _ _ _ _ _ (@vw _ 1 _ _ (by walk_at "v")) (@pa1 _ _ _ (@pe_int _ _ _ _) (by rfl)) (by rfl)) (by decide) (by rfl) (by rfl)) (by rfl) (by walk_at "i")) (@pss_cons _ _ _ _ _ (@ps_set _ _ 5 _ _ _ _ sc_law.nd rfl (by walk_at "e") (@pe_call _ _ _ _ _ _ _ _ _ _ _ _ _ _ _ _ G__law_table hr__law_table rfl T.m__law_table T.F__law_table.kp T.b__law_table .nil pass0 (@pa_cons _ _ _ _ _ (@vw _ 1 _ _ (by walk_at "v")) (@pa1 _ _ _ (@vw _ 3 _ _ (by walk_at "v")) (by rfl)) (by rfl)) (by decide) (by rfl) (by rfl)) (by rfl) (by walk_at "i")) (@pss_cons _ _ _ _ _ (@ps_set _ _ 6 _ _ _ _ sc_law.nd rfl (by walk_at "e") (@pe_call _ _ _ _ _ _ _ _ _ _ _ _ _ _ _ _ G_sum_of hr_sum_of rfl T.m_sum_of T.F_sum_of.kp T.b_sum_of .nil pass0 (@pa1 _ _ _ (@vw _ 5 _ _ (by walk_at "v")) (by rfl)) (by decide) (by rfl) (by rfl)) (by rfl) (by walk_at "i")) (@pss_cons _ _ _ _ _ (@ps_set _ _ 7 _ _ _ _ sc_law.nd rfl (by walk_at "e") (@pe_call _ _ _ _ _ _ _ _ _ _ _ _ _ _ _ _ G_near_paper hr_near_paper rfl T.m_near_paper T.F_near_paper.kp T.b_near_paper .nil pass0 (@pa_cons _ _ _ _ _ (@vw _ 6 _ _ (by walk_at "v")) (@pa1 _ _ _ (@vw _ 4 _ _ (by walk_at "v")) (by rfl)) (by rfl)) (by decide) (by rfl) (by rfl)) (by rfl) (by walk_at "i")) (@pss_cons _ _ _ _ _ (@ps_if _ _ _ _ _ _ _ _ (@tu_cmp _ _ _ _ _ _ _ _ om_isn (@pe_call _ _ _ _ _ _ _ _ _ _ _ _ _ _ _ _ G_lets_near hr_lets_near rfl T.m_lets_near T.F_lets_near.kp T.b_lets_near .nil pass0 (@pa_cons _ _ _ _ _ (@vw _ 6 _ _ (by walk_at "v")) (@pa_cons _ _ _ _ _ (@vw _ 4 _ _ (by walk_at "v")) (@pa1 _ _ _ (@vw _ 7 _ _ (by walk_at "v")) (by rfl)) (by rfl)) (by rfl)) (by decide) (by rfl) (by rfl)) (@pe_bl _ _ _ _) (by walk_at "n")) (@pss_one _ _ _ (@ps_ret _ _ _ _ (@pe_bl _ _ _ _))) (@pss_nil _)) (@pss_cons _ _ _ _ _ (@ps_set _ _ 8 _ _ _ _ sc_law.nd rfl (by walk_at "e") (@pe_tup _ _ _ _ _ (@pa_cons _ _ _ _ _ (@kIx _ K _ _ _ _ _ (@vw _ 7 _ _ (by walk_at "v")) (@pe_int _ _ _ _) (by intro _ _; rfl) (by rfl)) (@pa1 _ _ _ (@pe_callTy _ _ _ _ _ _ _ _ _ (kTuple (K := K)) rfl T.z_tuple (by rfl) (@pa1 _ _ _ (@pe_lst _ _ _ _ (@pa_cons _ _ _ _ _ (@pe_tup _ _ _ _ _ (@pa_cons _ _ _ _ _ (@pe_op _ _ _ _ _ _ _ _ om_sub (@pe_call _ _ _ _ _ _ _ _ _ _ _ _ _ _ _ _ G__law_two hr__law_two rfl T.m__law_two T.F__law_two.kp T.b__law_two .nil pass0 (@pa1 _ _ _ (@vw _ 3 _ _ (by walk_at "v")) (by rfl)) (by decide) (by rfl) (by rfl)) (@pe_int _ _ _ _)) (@pa1 _ _ _ (@pe_str _ _ _ _) (by rfl)) (by rfl))) (@pa1 _ _ _ (@pe_tup _ _ _ _ _ (@pa_cons _ _ _ _ _ (@pe_op _ _ _ _ _ _ _ _ om_sub (@pe_call _ _ _ _ _ _ _ _ _ _ _ _ _ _ _ _ G__law_two hr__law_two rfl T.m__law_two T.F__law_two.kp T.b__law_two .nil pass0 (@pa1 _ _ _ (@vw _ 3 _ _ (by walk_at "v")) (by rfl)) (by decide) (by rfl) (by rfl)) (@pe_int _ _ _ _)) (@pa1 _ _ _ (@pe_str _ _ _ _) (by rfl)) (by rfl))) (by rfl)) (by rfl))) (by rfl)) (by decide) (by decide) (by rfl) (by rfl)) (by rfl)) (by rfl))) (by rfl) (by walk_at "i")) (@pss_cons _ _ _ _ _ (@ps_set _ _ 9 _ _ _ _ sc_law.nd rfl (by walk_at "e") (@pe_tup _ _ _ _ _ (@pa_cons _ _ _ _ _ (@kIx _ K _ _ _ _ _ (@vw _ 7 _ _ (by walk_at "v")) (@pe_int _ _ _ _) (by intro _ _; rfl) (by rfl)) (@pa1 _ _ _ (@pe_callTy _ _ _ _ _ _ _ _ _ (kTuple (K := K)) rfl T.z_tuple (by rfl) (@pa1 _ _ _ (@pe_compB _ _ _ _ _ _ _ ["_law_one"] 1 [] _ _ _ _ rfl (@kSeq _ K _ _ _ (@pe_call _ _ _ _ _ _ _ _ _ _ _ _ _ _ _ _ G__law_sets hr__law_sets rfl T.m__law_sets T.F__law_sets.kp T.b__law_sets .nil pass0 (@pa_cons _ _ _ _ _ (@vw _ 3 _ _ (by walk_at "v")) (@pa1 _ _ _ (@vw _ 4 _ _ (by walk_at "v")) (by rfl)) (by rfl)) (by decide) (by rfl) (by rfl)) (by rfl)) (by kernel_rfl) rfl rfl (by kernel_rfl) (fun c => @pg_name _ _ 0 _ (show (["_law_one"] : List Str).Nodup by decide +kernel) rfl (by walk_at "e") (by walk_at "i")) (go_name (by decide)) (fun c => @pts_nil _) (fun c => (@pe_tup _ _ _ _ _ (@pa_cons _ _ _ _ _ (@vw _ 0 _ _ (by walk_at "v")) (@pa1 _ _ _ (@pe_str _ _ _ _) (by rfl)) (by rfl)))) (by intro _; rfl)) (by rfl)) (by decide) (by decide) (by rfl) (by rfl)) (by rfl)) (by rfl))) (by rfl) (by walk_at "i")) (@pss_one _ _ _ (@ps_for _ _ _ _ _ _ _ _ PassesOwn.never rfl (@kSeq _ K _ _ _ (@pe_op _ _ _ _ _ _ _ _ (kAdd (K := K)) (@pe_lst _ _ _ _ (@pa_cons _ _ _ _ _ (@vw _ 7 _ _ (by walk_at "v")) (@pa_cons _ _ _ _ _ (@vw _ 8 _ _ (by walk_at "v")) (@pa1 _ _ _ (@vw _ 9 _ _ (by walk_at "v")) (by rfl)) (by rfl)) (by rfl))) (@pe_compB _ _ _ _ _ _ _ (["_law_j", "_law_tape_here", "_law_n", "_law_k", "_law_own"]) 1 ([1, 3, 4, 7]) _ _ _ _ rfl (@pi_range1 _ _ _ _ _ _ rfl T.z_range (@pa1 _ _ _ (@pe_int _ _ _ _) (by rfl)) (by rfl)) (by kernel_rfl) rfl rfl (by kernel_rfl) (fun c => @pg_name _ _ 0 _ (show (["_law_j", "_law_tape_here", "_law_n", "_law_k", "_law_own"] : List Str).Nodup by decide +kernel) rfl (by walk_at "e") (by walk_at "i")) (go_name (by decide)) (fun c => @pts_nil _) (fun c => (@pe_call _ _ _ _ _ _ _ _ _ _ _ _ _ _ _ _ G__law_bent hr__law_bent rfl T.m__law_bent T.F__law_bent.kp T.b__law_bent .nil pass0 (@pa_cons _ _ _ _ _ (@vw _ 1 _ _ (by walk_at "v")) (@pa_cons _ _ _ _ _ (@vw _ 2 _ _ (by walk_at "v")) (@pa_cons _ _ _ _ _ (@vw _ 3 _ _ (by walk_at "v")) (@pa1 _ _ _ (@vw _ 4 _ _ (by walk_at "v")) (by rfl)) (by rfl)) (by rfl)) (by rfl)) (by decide) (by rfl) (by rfl))) (by intro _; rfl))) (by rfl)) (@pg_name _ _ 10 _ sc_law.nd rfl (by walk_at "e") (by walk_at "i")) (@pss_one _ _ _ (@ps_if _ _ _ _ _ _ _ _ (PW.pt (@pw_and _ _ _ _ _ _ _ (@tu_val _ _ _ (@pe_call _ _ _ _ _ _ _ _ _ _ _ _ _ _ _ _ G_lets_near hr_lets_near rfl T.m_lets_near T.F_lets_near.kp T.b_lets_near .nil pass0 (@pa_cons _ _ _ _ _ (@vw _ 6 _ _ (by walk_at "v")) (@pa_cons _ _ _ _ _ (@vw _ 4 _ _ (by walk_at "v")) (@pa1 _ _ _ (@vw _ 10 _ _ (by walk_at "v")) (by rfl)) (by rfl)) (by rfl)) (by decide) (by rfl) (by rfl)) (by intro _; rfl)) (@pw_and1 _ _ _ _ (@pt_not _ _ _ _ (@tu_val _ _ _ (@pe_call _ _ _ _ _ _ _ _ _ _ _ _ _ _ _ _ G__law_holds hr__law_holds rfl T.m__law_holds T.F__law_holds.kp T.b__law_holds .nil pass0 (@pa_cons _ _ _ _ _ (@vw _ 3 _ _ (by walk_at "v")) (@pa_cons _ _ _ _ _ (@vw _ 4 _ _ (by walk_at "v")) (@pa_cons _ _ _ _ _ (@vw _ 5 _ _ (by walk_at "v")) (@pa1 _ _ _ (@vw _ 10 _ _ (by walk_at "v")) (by rfl)) (by rfl)) (by rfl)) (by rfl)) (by decide) (by rfl) (by rfl)) (by intro _; rfl)))))) (@pss_one _ _ _ (@ps_ret _ _ _ _ (@pe_bl _ _ _ _))) (@pss_nil _))) (by intro _; rfl))))))))))) (by intro _; rfl)) (@pss_one _ _ _ (@ps_ret _ _ _ _ (@pe_bl _ _ _ _))))), ?_⟩
  generalize T.p_nearest = Pt at *
  refine fun t ht => ?_
  dsimp only [gName]
  have T1 := newTape ht hsq
  have L1 := (lam_new (pos := lamP_nearest) (q := lamQ_nearest) hP).same (Same.upd (o := .lst [.ref a, .int 0, .int 0, .int 0]) ht)
  generalize upd H t (.lst [.ref a, .int 0, .int 0, .int 0]) = H1 at *
  refine ⟨3, rfl, by decide, by decide, ?_⟩
  refine for_range (fun i σ H' => (∃ z2 z3 z4 z5 z6 z7 z8 z9 z10 : Option V, σ = [some (.ref a), some (.ref t), z2, z3, z4, z5, z6, z7, z8, z9, z10]) /\ Tape K H' t a ns /\ Lam Pt lamP_nearest lamQ_nearest H') ⟨⟨none, none, none, none, none, none, none, none, none, rfl⟩, T1, L1⟩ ?_ (fun σ H' _ => q H')
  rintro i σ H0 hi ⟨⟨z2, z3, z4, z5, z6, z7, z8, z9, z10, rfl⟩, T0, L0⟩
  dsimp only [gName]
  refine ⟨a, ns, T0, okDiv_of (by decide) (by decide), fun d1 H2 d10 d11 T2 f2 => ?_⟩
  obtain ⟨dn, rfl⟩ := Int.eq_ofNat_of_zero_le d10
  obtain ⟨m, em, m1, m6⟩ : ∃ m : Nat, (1 : Int) + (dn : Int) = (m : Int) /\ 1 <= m /\ m <= 5 := ⟨1 + dn, by omega, by omega, by omega⟩
  dsimp only [tC, mAdd, gName]
  rw [em]
  refine ⟨a, ns, T2, okDiv_of (by decide) (by decide), fun d2 H3 d20 d21 T3 f3 => ?_⟩
  obtain ⟨k, rfl⟩ := Int.eq_ofNat_of_zero_le d20
  dsimp only [gName]
  have h64 : 2 ^ m <= 32 := Nat.pow_le_pow_right (n := 2) (by decide) m6
  have i1 : ((2 ^ m : Nat) : Int) <= 64 := Int.ofNat_le.mpr (Nat.le_trans h64 (by decide))
  have ep : (2 : Int) ^ ((m : Int)).toNat = ((2 ^ m : Nat) : Int) := by rw [Int.toNat_natCast, Int.natCast_pow]; rfl
  have hpo := Nat.two_pow_pos m
  have m6' : m <= 6 := by omega
  refine ⟨a, ns, m, T3, rfl, m1, m6', fun bs tb H4 hb n4 g4 T4 fr4 => ?_⟩
  dsimp only [gName]
  have nt : tb ≠ t := T3.neT n4
  have L4 := lam_tape L0 T0 ((frm_all f2).trans ((frm_all f3).trans fr4))
  clear f2 f3 fr4 T0 T2 T3 L0 n4
  refine ⟨m, bs, m6', hb, .of g4, fun v H5 s5 SV => ?_⟩
  dsimp only [gName]
  have L5 := L4.same s5
  obtain ⟨ps, hPs, _⟩ := id L5
  refine ⟨m, k, bs, SV, m6', hb, rfl, L5, fun u H6 G6 L6 r6 => ?_⟩
  dsimp only [gName]
  have T6 := tape_grow (T4.same s5) hPs G6
  have g6 : H6 tb = some (.tup (bs.map V.bl)) := G6 _ _ (fun e => by have := s5 _ _ g4; rw [e, hPs] at this; cases this) (s5 _ _ g4)
  have SV6 : SumAt K H6 v m (termG (wt m (valF bs)) (2 ^ m)) := .of (Rep.tab G6 hPs _ _ SV.rep)
  clear SV T4 L4 L5 g4 s5 G6 hPs
  have r6' := r6
  rw [paper_eq] at r6'
  have hol := bestB_len m (wt m (valF bs)) (nearO m k bs (nearN m k))
  have hok := near_ok m k bs
  generalize bestB m (wt m (valF bs)) (nearO m k bs (nearN m k)) = nb at *
  have hsl := setL_len m (min m k) (2 ^ m)
  have hcs0 : ∀ c ∈ (setL m (min m k) (2 ^ m)).map fun s => (s, ("whole" : Str)), c.1 < 2 ^ m /\ okT c.2 := fun c hc => by
    obtain ⟨s, hs, rfl⟩ := List.mem_map.mp hc
    exact ⟨setL_mem hs, .inl rfl⟩
  have hcl0 : ((setL m (min m k) (2 ^ m)).map fun s => (s, ("whole" : Str))).length <= 60 := by rw [List.length_map]; omega
  have hcs1 := fun c hc => (hcs0 c hc).1
  obtain ⟨pa, pax, pay, pys, rfl, hpa, hpax, hpay, hpR⟩ := pap_inv r6'
  have hax : H6 pax = some (.tup (nb.map V.bl)) \/ True := .inr trivial
  generalize ((setL m (min m k) (2 ^ m)).map fun s => (s, ("whole" : Str))) = cs0 at *
  refine seq_at (fun σ H' => σ = [some (.ref a), some (.ref t), some (.int (0 + (i : Int))), some (.int m), some (.int k), some (.ref tb), some v, some (.ref pa), z8, z9, z10] /\ Same H6 H') ?_ ?_ (by walk_at "sm")
  . refine if_same false ?_ ?_
    . intro Q q
      refine ⟨m, k, bs, nb, cs0, SV6, m1, m6', rfl, hol, r6', by omega, hcs1, fun H7 s7 => ?_⟩
      rw [hok]
      exact q H7 s7
    . exact fun H' s => iteF ⟨rfl, s⟩
  rintro σ H7 ⟨rfl, s7⟩
  have T7 := T6.same s7
  have hsz : ((2 ^ m : Nat) : Int) - 1 = ((2 ^ m - 1 : Nat) : Int) := by omega
  refine seq_at (fun σ H' => ∃ p8 : Addr, σ = [some (.ref a), some (.ref t), some (.int (0 + (i : Int))), some (.int m), some (.int k), some (.ref tb), some v, some (.ref pa), some (.ref p8), z9, z10] /\ Same H6 H' /\ Pap K H' m (.ref p8)) ?_ ?_ (by walk_at "sm")
  . refine ⟨_, _, .inr (s7.sqT hpa), atI_of (n := 0) rfl rfl, by omega, by omega, fun H8 s8 => ?_⟩
    rw [ep]
    dsimp only [tC, mSub]
    rw [hsz]
    refine ⟨small_le (show 2 <= 1000 by decide), fun p1 n1 => ?_⟩
    have s1 := Same.upd (o := .tup [.int ((2 ^ m - 1 : Nat) : Int), .str (Str.ofString "whole")]) n1
    have k1 := upd_same (H := H8) (a := p1) (o := .tup [.int ((2 ^ m - 1 : Nat) : Int), .str (Str.ofString "whole")])
    generalize L2.upd H8 p1 (.tup [.int ((2 ^ m - 1 : Nat) : Int), .str (Str.ofString "whole")]) = Ha at *
    refine ⟨by omega, by omega, fun H9 s9 => ?_⟩
    rw [ep]
    dsimp only [tC, mSub]
    rw [hsz]
    refine ⟨small_le (show 2 <= 1000 by decide), fun p2 n2 => ?_⟩
    have s2 := Same.upd (o := .tup [.int ((2 ^ m - 1 : Nat) : Int), .str (Str.ofString "weights")]) n2
    have k2 := upd_same (H := H9) (a := p2) (o := .tup [.int ((2 ^ m - 1 : Nat) : Int), .str (Str.ofString "weights")])
    generalize L2.upd H9 p2 (.tup [.int ((2 ^ m - 1 : Nat) : Int), .str (Str.ofString "weights")]) = Hb at *
    refine ⟨small_le (show 2 <= 1000 by decide), fun p3 n3 => ?_⟩
    have s3 := Same.upd (o := .lst [.ref p1, .ref p2]) n3
    have k3 := upd_same (H := Hb) (a := p3) (o := .lst [.ref p1, .ref p2])
    generalize L2.upd Hb p3 (.lst [.ref p1, .ref p2]) = Hc at *
    refine ⟨_, .inl ⟨.of k3, fun p4 n4 => ⟨small_le (show 2 <= 1000 by decide), fun p5 n5 => ?_⟩⟩⟩
    dsimp only [gName]
    have s4 := Same.upd (o := .tup [.ref p1, .ref p2]) n4
    have s5 := Same.upd (o := .tup [.ref pax, .ref p4]) n5
    have s48 := (s9.trans (s2.trans (s3.trans (s4.trans s5))))
    refine ⟨p5, rfl, s7.trans (s8.trans (s1.trans s48)), nb, [(2 ^ m - 1, Str.ofString "whole"), (2 ^ m - 1, Str.ofString "weights")], hol, ?_, by show (2 : Nat) <= 64; decide, fun c hc => ?_⟩
    . have ra : Rep K (L2.upd (L2.upd Hc p4 (.tup [.ref p1, .ref p2])) p5 (.tup [.ref pax, .ref p4])) (covD (2 ^ m - 1, Str.ofString "whole")) (.ref p1) := rep_tup1 (s48 _ _ k1) (reps_cons rep_int (reps_cons rep_str reps_nil))
      have rb : Rep K (L2.upd (L2.upd Hc p4 (.tup [.ref p1, .ref p2])) p5 (.tup [.ref pax, .ref p4])) (covD (2 ^ m - 1, Str.ofString "weights")) (.ref p2) := rep_tup1 ((s3.trans (s4.trans s5)) _ _ k2) (reps_cons rep_int (reps_cons rep_str reps_nil))
      exact rep_tup1 upd_same (reps_cons (rep_tup2 ((s7.trans (s8.trans (s1.trans s48))).sqT hpax) (reps_bl nb)) (reps_cons (rep_tup1 (s5 _ _ upd_same) (reps_cons ra (reps_cons rb reps_nil))) reps_nil))
    . simp only [List.mem_cons, List.not_mem_nil, or_false] at hc
      rcases hc with rfl | rfl <;> (show 2 ^ m - 1 < 2 ^ m; omega)
  rintro σ H8 ⟨p8, rfl, s8, P8⟩
  refine seq_at (fun σ H' => ∃ p9 : Addr, σ = [some (.ref a), some (.ref t), some (.int (0 + (i : Int))), some (.int m), some (.int k), some (.ref tb), some v, some (.ref pa), some (.ref p8), some (.ref p9), z10] /\ Same H8 H' /\ Pap K H' m (.ref p9)) ?_ ?_ (by walk_at "sm")
  . refine ⟨_, _, .inr (s8.sqT hpa), atI_of (n := 0) rfl rfl, m, k, rfl, rfl, m6', fun ls H9 hls s9 g9 => .inl ⟨⟨_, .of g9⟩, ?_⟩⟩
    have hmem := fun {x : Nat} (h : x ∈ setL m (min m k) (2 ^ m)) => setL_mem h
    generalize setL m (min m k) (2 ^ m) = ss at *
    refine comp_list (xs := iL ss) (fun i ys H' => Same H9 H' /\ Reps K H' (((ss.take i).map fun s => (s, ("weights" : Str))).map covD) ys) ⟨Same.refl _, reps_nil⟩ (fun i ys H' _ ⟨s, _⟩ => .of (s _ _ g9)) (fun i ys H' hi ⟨_, e⟩ => by
      rw [iL_len] at hi
      have := e.length
      rw [List.length_map, List.length_map, List.length_take] at this
      exact small1000 (by omega)) ?_ ?_
    . rintro i x ys H' hx ⟨s2, hY⟩
      obtain ⟨o, ho, _, rfl⟩ := iL_at hx
      refine ⟨small_le (show 2 <= 1000 by decide), fun p hp => ⟨s2.trans (Same.upd hp), ?_⟩⟩
      rw [List.take_add_one, ho, List.map_append, List.map_append]
      exact (Reps.same (Same.upd hp) _ _ hY).append (reps_cons (rep_tup1 upd_same (reps_cons rep_int (reps_cons rep_str reps_nil))) reps_nil)
    . rintro ys H10 ⟨s10, hY⟩ l hl
      rw [iL_len, List.take_length] at hY
      refine ⟨ys, .inl ⟨.of upd_same, fun p4 n4 => ⟨small_le (show 2 <= 1000 by decide), fun p5 n5 => ?_⟩⟩⟩
      dsimp only [gName]
      have s5 := Same.upd (o := .tup [.ref pax, .ref p4]) n5
      have s45 := (Same.upd (o := .lst ys) hl).trans ((Same.upd (o := .tup ys) n4).trans s5)
      have s95 := s9.trans (s10.trans s45)
      refine ⟨p5, rfl, s95, nb, ss.map fun s => (s, ("weights" : Str)), hol, ?_, by rw [List.length_map]; omega, fun c hc => ?_⟩
      . exact rep_tup1 upd_same (reps_cons (rep_tup2 ((s8.trans s95).sqT hpax) (reps_bl nb)) (reps_cons (rep_tup1 (s5 _ _ upd_same) (Reps.same s45 _ _ hY)) reps_nil))
      . obtain ⟨s, hs, rfl⟩ := List.mem_map.mp hc
        exact hmem hs
  rintro σ H9 ⟨p9, rfl, s9, P9⟩
  have s69 := s8.trans s9
  have T9 := T6.same s69
  have r9 := Rep.same s69 _ _ r6'
  have P7 : Pap K H9 m (.ref pa) := ⟨nb, cs0, hol, r9, by omega, hcs1⟩
  have P8' := P8.same s9
  have g9 := s69 _ _ g6
  have SV9 := SV6.same s69
  have L9 := L6.same s69
  refine ⟨small_le (show 3 <= 1000 by decide), fun pl npl => ?_⟩
  have sp := Same.upd (o := .lst [.ref pa, .ref p8, .ref p9]) npl
  have gp := upd_same (H := H9) (a := pl) (o := .lst [.ref pa, .ref p8, .ref p9])
  have ntp : pl ≠ t := T9.neT npl
  generalize L2.upd H9 pl (.lst [.ref pa, .ref p8, .ref p9]) = H10 at *
  have T10 := T9.same sp
  have hws : ∀ x ∈ [V.ref pa, .ref p8, .ref p9], Pap K H10 m x := fun x hx => by
    simp only [List.mem_cons, List.not_mem_nil, or_false] at hx
    rcases hx with rfl | rfl | rfl
    . exact P7.same sp
    . exact P8'.same sp
    . exact P9.same sp
  have hwl : [V.ref pa, .ref p8, .ref p9].length = 3 := rfl
  have r10 := Rep.same sp _ _ r9
  generalize [V.ref pa, .ref p8, .ref p9] = ws at *
  have g10 := sp _ _ g9
  have SV10 := SV9.same sp
  have L10 := L9.same sp
  clear P7 P8 P8' P9 r9 g9 SV9 L9 T9 sp npl T6 T7 r6 r6' SV6 g6 L6 hpa hpax hpay hpR
  refine ⟨8, rfl, by decide, by decide, ?_⟩
  refine comp_range (n := (8 : Int).toNat) (fun i ys H' => Tape K H' t a ns /\ Frm t H10 H' /\ (∀ y ∈ ys, Pap K H' m y) /\ ys.length = i) ⟨T10, Frm.refl, (fun y hy => by cases hy), rfl⟩ (fun i ys H' hi ⟨_, _, _, e⟩ => by
    have : i < 8 := hi
    rw [e]; exact small1000 (by omega)) ?_ ?_
  . rintro j ys H' hj ⟨Tj, frj, hyj, hlj⟩
    refine ⟨a, ns, m, k, nb, cs0, Tj, rfl, rfl, m1, m6', hol, Rep.frm frj T10.lst _ _ (pap_only nb cs0) r10, hcl0, hcs0, fun v' nb' cs' H'' T'' fr'' hnb r'' hcl hcs => ⟨T'', frj.trans fr'', fun y hy => ?_, by rw [List.length_append, hlj]; rfl⟩⟩
    rcases List.mem_append.mp hy with h' | h'
    . exact (hyj y h').frmT Tj fr''
    . rw [List.mem_singleton] at h'; subst h'; exact ⟨nb', cs', hnb, r'', hcl, fun c hc => (hcs c hc).1⟩
  rintro ys H11 ⟨Tj, frj, hyj, hlj⟩ l hl
  have hlj : ys.length = 8 := hlj
  refine .inl ⟨pl, l, ws, ys, rfl, rfl, Same.upd hl _ _ (frj _ _ ntp gp), upd_same, small_le (by omega), fun r nr => ?_⟩
  have sr := (Same.upd (o := .lst ys) hl).trans (Same.upd (o := .lst (ws ++ ys)) nr)
  have gr := upd_same (H := L2.upd H11 l (.lst ys)) (a := r) (o := .lst (ws ++ ys))
  generalize L2.upd (L2.upd H11 l (.lst ys)) r (.lst (ws ++ ys)) = H12 at *
  have fr12 := frj.trans sr.frm
  have hall : ∀ x ∈ ws ++ ys, Pap K H12 m x := fun x hx => by
    rcases List.mem_append.mp hx with h' | h'
    . exact (hws x h').frmT T10 fr12
    . exact (hyj x h').same sr
  generalize ws ++ ys = xs at *
  have T12 := Tj.same sr
  have g12 := fr12 _ _ nt g10
  have SV12 := sum_tape SV10 T10 fr12
  have L12 := lam_tape L10 T10 fr12
  refine .inl ⟨⟨_, .of gr⟩, ?_⟩
  refine for_list (xs := xs) (fun j σ H' => (∃ y10 : Option V, σ = [some (.ref a), some (.ref t), some (.int (0 + (i : Int))), some (.int m), some (.int k), some (.ref tb), some v, some (.ref pa), some (.ref p8), some (.ref p9), y10]) /\ Same H12 H') ⟨⟨z10, rfl⟩, Same.refl _⟩ (fun j σ H' _ ⟨_, s⟩ => .of (s _ _ gr)) ?_ ?_
  . rintro j x σ H13 hx ⟨⟨y10, rfl⟩, s13⟩
    obtain ⟨nb, cs, hnb, rx, hcl, hcs⟩ := (hall x (List.mem_of_getElem? hx)).same s13
    dsimp only [gName]
    refine if_same false ?_ ?_
    . intro Q q
      refine ⟨m, k, bs, nb, cs, SV12.same s13, m1, m6', rfl, hnb, rx, hcl, hcs, fun H15 s15 => ?_⟩
      refine ite2 (fun e => ?_) (fun e => ?_)
      . refine ⟨m, k, bs, nb, cs, rfl, rfl, m6', .of ((s13.trans s15) _ _ g12), hb, hnb, Rep.same s15 _ _ rx, hcs, e, fun H16 s16 => ?_⟩
        exact q H16 (s15.trans s16)
      . have e0 : nearB m k bs nb cs = false := by simpa using e
        have q' := q H15 s15
        first | exact q' | (rw [<- e0] at q'; exact q')
    . exact fun H15 s15 => iteF ⟨⟨_, rfl⟩, s13.trans s15⟩
  . rintro σ H13 ⟨⟨y10, rfl⟩, s13⟩
    exact ⟨⟨_, _, _, _, _, _, _, _, _, rfl⟩, T12.same s13, L12.same s13⟩
end
theorem all_mk {l : W.OpenLaw} {w : World} {K : W.Frag} {h : Heap} {mg : Str -> Option Value} {fa : Addr} (X : K.In h) (G : h.Ns mainGlobals mg) (hfa : mg "law" = some (.ref fa))
    {f0 f1 f2 f3 f4 f5 f6 f7 f8 f9 f10 f11 f12 f13 f14 f15 f16 f17 f18 f19 f20 f21 f22 f23 f24 f25 f26 f27 f29 f30 f31 f32 f33 f34 f35 f36 f37 f38 f39 f40 f41 f42 f43 : Addr} {oc0 kV0 dc0 pm0 cd0 ct0 oc1 kV1 dc1 pm1 cd1 ct1 oc2 kV2 dc2 pm2 cd2 ct2 oc3 kV3 dc3 pm3 cd3 ct3 oc4 kV4 dc4 pm4 cd4 ct4 oc5 kV5 dc5 pm5 cd5 ct5 oc6 kV6 dc6 pm6 cd6 ct6 oc7 kV7 dc7 pm7 cd7 ct7 oc8 kV8 dc8 pm8 cd8 ct8 oc9 kV9 dc9 pm9 cd9 ct9 oc10 kV10 dc10 pm10 cd10 ct10 oc11 kV11 dc11 pm11 cd11 ct11 oc12 kV12 dc12 pm12 cd12 ct12 oc13 kV13 dc13 pm13 cd13 ct13 oc14 kV14 dc14 pm14 cd14 ct14 oc15 kV15 dc15 pm15 cd15 ct15 oc16 kV16 dc16 pm16 cd16 ct16 oc17 kV17 dc17 pm17 cd17 ct17 oc18 kV18 dc18 pm18 cd18 ct18 oc19 kV19 dc19 pm19 cd19 ct19 oc20 kV20 dc20 pm20 cd20 ct20 oc21 kV21 dc21 pm21 cd21 ct21 oc22 kV22 dc22 pm22 cd22 ct22 oc23 kV23 dc23 pm23 cd23 ct23 oc24 kV24 dc24 pm24 cd24 ct24 oc25 kV25 dc25 pm25 cd25 ct25 oc26 kV26 dc26 pm26 cd26 ct26 oc27 kV27 dc27 pm27 cd27 ct27 oc29 kV29 dc29 pm29 cd29 ct29 oc30 kV30 dc30 pm30 cd30 ct30 oc31 kV31 dc31 pm31 cd31 ct31 oc32 kV32 dc32 pm32 cd32 ct32 oc33 kV33 dc33 pm33 cd33 ct33 oc34 kV34 dc34 pm34 cd34 ct34 oc35 kV35 dc35 pm35 cd35 ct35 oc36 kV36 dc36 pm36 cd36 ct36 oc37 kV37 dc37 pm37 cd37 ct37 oc38 kV38 dc38 pm38 cd38 ct38 oc39 kV39 dc39 pm39 cd39 ct39 oc40 kV40 dc40 pm40 cd40 ct40 oc41 kV41 dc41 pm41 cd41 ct41 oc42 kV42 dc42 pm42 cd42 ct42 oc43 kV43 dc43 pm43 cd43 ct43 : Value} {od0 an0 od1 an1 od2 an2 od3 an3 od4 an4 od5 an5 od6 an6 od7 an7 od8 an8 od9 an9 od10 an10 od11 an11 od12 an12 od13 an13 od14 an14 od15 an15 od16 an16 od17 an17 od18 an18 od19 an19 od20 an20 od21 an21 od22 an22 od23 an23 od24 an24 od25 an25 od26 an26 od27 an27 od29 an29 od30 an30 od31 an31 od32 an32 od33 an33 od34 an34 od35 an35 od36 an36 od37 an37 od38 an38 od39 an39 od40 an40 od41 an41 od42 an42 od43 an43 : Option Addr} {sl0 sl1 sl2 sl3 sl4 sl5 sl6 sl7 sl8 sl9 sl10 sl11 sl12 sl13 sl14 sl15 sl16 sl17 sl18 sl19 sl20 sl21 sl22 sl23 sl24 sl25 sl26 sl27 sl29 sl30 sl31 sl32 sl33 sl34 sl35 sl36 sl37 sl38 sl39 sl40 sl41 sl42 sl43 : Array (Option Value)}
    {f28 : Addr} {oc28 kV28 dc28 pm28 ct28 : Value} {od28 an28 : Option Addr} {sl28 : Array (Option Value)} {g28 p28 : Addr} {cvs28 : Array Value} {cod28 : Option Addr} {csl28 : Array (Option Value)}
    {ac_TABLE_LENGTHS : Addr} {sl_TABLE_LENGTHS : Array (Option Value)} {nc_TABLE_LENGTHS : Nat} {t_TABLE_LENGTHS_0 t_TABLE_LENGTHS_1 t_TABLE_LENGTHS_2 t_TABLE_LENGTHS_3 t_TABLE_LENGTHS_4 t_TABLE_LENGTHS_5 : Tok}
    {t_MOST_COVERS : Tok}
    (a0 : W.nsIn K mainGlobals "is_whole" = some (some (.ref f0)))
    (l0 : K.lookup f0 = some ⟨oc0, od0, .func (W.fnOf "is_whole" "is_whole" (defArgs s_is_whole) (defBody s_is_whole) (defScope s_is_whole) .none kV0 dc0 pm0 an0 cd0 ct0), sl0⟩)
    (c0 : W.codeIn K cd0 "is_whole" = true)
    (k0 : W.keepIn K (.ref f0) = true)
    (a1 : W.nsIn K mainGlobals "is_below" = some (some (.ref f1)))
    (l1 : K.lookup f1 = some ⟨oc1, od1, .func (W.fnOf "is_below" "is_below" (defArgs s_is_below) (defBody s_is_below) (defScope s_is_below) .none kV1 dc1 pm1 an1 cd1 ct1), sl1⟩)
    (c1 : W.codeIn K cd1 "is_below" = true)
    (k1 : W.keepIn K (.ref f1) = true)
    (a2 : W.nsIn K mainGlobals "two_to" = some (some (.ref f2)))
    (l2 : K.lookup f2 = some ⟨oc2, od2, .func (W.fnOf "two_to" "two_to" (defArgs s_two_to) (defBody s_two_to) (defScope s_two_to) .none kV2 dc2 pm2 an2 cd2 ct2), sl2⟩)
    (c2 : W.codeIn K cd2 "two_to" = true)
    (k2 : W.keepIn K (.ref f2) = true)
    (a3 : W.nsIn K mainGlobals "power_of" = some (some (.ref f3)))
    (l3 : K.lookup f3 = some ⟨oc3, od3, .func (W.fnOf "power_of" "power_of" (defArgs s_power_of) (defBody s_power_of) (defScope s_power_of) .none kV3 dc3 pm3 an3 cd3 ct3), sl3⟩)
    (c3 : W.codeIn K cd3 "power_of" = true)
    (k3 : W.keepIn K (.ref f3) = true)
    (a4 : W.nsIn K mainGlobals "is_place" = some (some (.ref f4)))
    (l4 : K.lookup f4 = some ⟨oc4, od4, .func (W.fnOf "is_place" "is_place" (defArgs s_is_place) (defBody s_is_place) (defScope s_is_place) .none kV4 dc4 pm4 an4 cd4 ct4), sl4⟩)
    (c4 : W.codeIn K cd4 "is_place" = true)
    (k4 : W.keepIn K (.ref f4) = true)
    (a5 : W.nsIn K mainGlobals "is_table" = some (some (.ref f5)))
    (l5 : K.lookup f5 = some ⟨oc5, od5, .func (W.fnOf "is_table" "is_table" (defArgs s_is_table) (defBody s_is_table) (defScope s_is_table) .none kV5 dc5 pm5 an5 cd5 ct5), sl5⟩)
    (c5 : W.codeIn K cd5 "is_table" = true)
    (k5 : W.keepIn K (.ref f5) = true)
    (a6 : W.nsIn K mainGlobals "switches_of" = some (some (.ref f6)))
    (l6 : K.lookup f6 = some ⟨oc6, od6, .func (W.fnOf "switches_of" "switches_of" (defArgs s_switches_of) (defBody s_switches_of) (defScope s_switches_of) .none kV6 dc6 pm6 an6 cd6 ct6), sl6⟩)
    (c6 : W.codeIn K cd6 "switches_of" = true)
    (k6 : W.keepIn K (.ref f6) = true)
    (a7 : W.nsIn K mainGlobals "within" = some (some (.ref f7)))
    (l7 : K.lookup f7 = some ⟨oc7, od7, .func (W.fnOf "within" "within" (defArgs s_within) (defBody s_within) (defScope s_within) .none kV7 dc7 pm7 an7 cd7 ct7), sl7⟩)
    (c7 : W.codeIn K cd7 "within" = true)
    (k7 : W.keepIn K (.ref f7) = true)
    (a8 : W.nsIn K mainGlobals "many_in" = some (some (.ref f8)))
    (l8 : K.lookup f8 = some ⟨oc8, od8, .func (W.fnOf "many_in" "many_in" (defArgs s_many_in) (defBody s_many_in) (defScope s_many_in) .none kV8 dc8 pm8 an8 cd8 ct8), sl8⟩)
    (c8 : W.codeIn K cd8 "many_in" = true)
    (k8 : W.keepIn K (.ref f8) = true)
    (a9 : W.nsIn K mainGlobals "sets_of" = some (some (.ref f9)))
    (l9 : K.lookup f9 = some ⟨oc9, od9, .func (W.fnOf "sets_of" "sets_of" (defArgs s_sets_of) (defBody s_sets_of) (defScope s_sets_of) .none kV9 dc9 pm9 an9 cd9 ct9), sl9⟩)
    (c9 : W.codeIn K cd9 "sets_of" = true)
    (k9 : W.keepIn K (.ref f9) = true)
    (a10 : W.nsIn K mainGlobals "hangs_on" = some (some (.ref f10)))
    (l10 : K.lookup f10 = some ⟨oc10, od10, .func (W.fnOf "hangs_on" "hangs_on" (defArgs s_hangs_on) (defBody s_hangs_on) (defScope s_hangs_on) .none kV10 dc10 pm10 an10 cd10 ct10), sl10⟩)
    (c10 : W.codeIn K cd10 "hangs_on" = true)
    (k10 : W.keepIn K (.ref f10) = true)
    (a11 : W.nsIn K mainGlobals "is_pair" = some (some (.ref f11)))
    (l11 : K.lookup f11 = some ⟨oc11, od11, .func (W.fnOf "is_pair" "is_pair" (defArgs s_is_pair) (defBody s_is_pair) (defScope s_is_pair) .none kV11 dc11 pm11 an11 cd11 ct11), sl11⟩)
    (c11 : W.codeIn K cd11 "is_pair" = true)
    (k11 : W.keepIn K (.ref f11) = true)
    (a12 : W.nsIn K mainGlobals "sum_of" = some (some (.ref f12)))
    (l12 : K.lookup f12 = some ⟨oc12, od12, .func (W.fnOf "sum_of" "sum_of" (defArgs s_sum_of) (defBody s_sum_of) (defScope s_sum_of) .none kV12 dc12 pm12 an12 cd12 ct12), sl12⟩)
    (c12 : W.codeIn K cd12 "sum_of" = true)
    (k12 : W.keepIn K (.ref f12) = true)
    (a13 : W.nsIn K mainGlobals "told" = some (some (.ref f13)))
    (l13 : K.lookup f13 = some ⟨oc13, od13, .func (W.fnOf "told" "told" (defArgs s_told) (defBody s_told) (defScope s_told) .none kV13 dc13 pm13 an13 cd13 ct13), sl13⟩)
    (c13 : W.codeIn K cd13 "told" = true)
    (k13 : W.keepIn K (.ref f13) = true)
    (a14 : W.nsIn K mainGlobals "weights_of" = some (some (.ref f14)))
    (l14 : K.lookup f14 = some ⟨oc14, od14, .func (W.fnOf "weights_of" "weights_of" (defArgs s_weights_of) (defBody s_weights_of) (defScope s_weights_of) .none kV14 dc14 pm14 an14 cd14 ct14), sl14⟩)
    (c14 : W.codeIn K cd14 "weights_of" = true)
    (k14 : W.keepIn K (.ref f14) = true)
    (a15 : W.nsIn K mainGlobals "weights_within" = some (some (.ref f15)))
    (l15 : K.lookup f15 = some ⟨oc15, od15, .func (W.fnOf "weights_within" "weights_within" (defArgs s_weights_within) (defBody s_weights_within) (defScope s_weights_within) .none kV15 dc15 pm15 an15 cd15 ct15), sl15⟩)
    (c15 : W.codeIn K cd15 "weights_within" = true)
    (k15 : W.keepIn K (.ref f15) = true)
    (a16 : W.nsIn K mainGlobals "sum_from" = some (some (.ref f16)))
    (l16 : K.lookup f16 = some ⟨oc16, od16, .func (W.fnOf "sum_from" "sum_from" (defArgs s_sum_from) (defBody s_sum_from) (defScope s_sum_from) .none kV16 dc16 pm16 an16 cd16 ct16), sl16⟩)
    (c16 : W.codeIn K cd16 "sum_from" = true)
    (k16 : W.keepIn K (.ref f16) = true)
    (a17 : W.nsIn K mainGlobals "times_signs" = some (some (.ref f17)))
    (l17 : K.lookup f17 = some ⟨oc17, od17, .func (W.fnOf "times_signs" "times_signs" (defArgs s_times_signs) (defBody s_times_signs) (defScope s_times_signs) .none kV17 dc17 pm17 an17 cd17 ct17), sl17⟩)
    (c17 : W.codeIn K cd17 "times_signs" = true)
    (k17 : W.keepIn K (.ref f17) = true)
    (a18 : W.nsIn K mainGlobals "crossed" = some (some (.ref f18)))
    (l18 : K.lookup f18 = some ⟨oc18, od18, .func (W.fnOf "crossed" "crossed" (defArgs s_crossed) (defBody s_crossed) (defScope s_crossed) .none kV18 dc18 pm18 an18 cd18 ct18), sl18⟩)
    (c18 : W.codeIn K cd18 "crossed" = true)
    (k18 : W.keepIn K (.ref f18) = true)
    (a19 : W.nsIn K mainGlobals "met" = some (some (.ref f19)))
    (l19 : K.lookup f19 = some ⟨oc19, od19, .func (W.fnOf "met" "met" (defArgs s_met) (defBody s_met) (defScope s_met) .none kV19 dc19 pm19 an19 cd19 ct19), sl19⟩)
    (c19 : W.codeIn K cd19 "met" = true)
    (k19 : W.keepIn K (.ref f19) = true)
    (a20 : W.nsIn K mainGlobals "lets_near" = some (some (.ref f20)))
    (l20 : K.lookup f20 = some ⟨oc20, od20, .func (W.fnOf "lets_near" "lets_near" (defArgs s_lets_near) (defBody s_lets_near) (defScope s_lets_near) .none kV20 dc20 pm20 an20 cd20 ct20), sl20⟩)
    (c20 : W.codeIn K cd20 "lets_near" = true)
    (k20 : W.keepIn K (.ref f20) = true)
    (a21 : W.nsIn K mainGlobals "has_paper_form" = some (some (.ref f21)))
    (l21 : K.lookup f21 = some ⟨oc21, od21, .func (W.fnOf "has_paper_form" "has_paper_form" (defArgs s_has_paper_form) (defBody s_has_paper_form) (defScope s_has_paper_form) .none kV21 dc21 pm21 an21 cd21 ct21), sl21⟩)
    (c21 : W.codeIn K cd21 "has_paper_form" = true)
    (k21 : W.keepIn K (.ref f21) = true)
    (a22 : W.nsIn K mainGlobals "lead_of" = some (some (.ref f22)))
    (l22 : K.lookup f22 = some ⟨oc22, od22, .func (W.fnOf "lead_of" "lead_of" (defArgs s_lead_of) (defBody s_lead_of) (defScope s_lead_of) .none kV22 dc22 pm22 an22 cd22 ct22), sl22⟩)
    (c22 : W.codeIn K cd22 "lead_of" = true)
    (k22 : W.keepIn K (.ref f22) = true)
    (a23 : W.nsIn K mainGlobals "covers_all" = some (some (.ref f23)))
    (l23 : K.lookup f23 = some ⟨oc23, od23, .func (W.fnOf "covers_all" "covers_all" (defArgs s_covers_all) (defBody s_covers_all) (defScope s_covers_all) .none kV23 dc23 pm23 an23 cd23 ct23), sl23⟩)
    (c23 : W.codeIn K cd23 "covers_all" = true)
    (k23 : W.keepIn K (.ref f23) = true)
    (a24 : W.nsIn K mainGlobals "is_so" = some (some (.ref f24)))
    (l24 : K.lookup f24 = some ⟨oc24, od24, .func (W.fnOf "is_so" "is_so" (defArgs s_is_so) (defBody s_is_so) (defScope s_is_so) .none kV24 dc24 pm24 an24 cd24 ct24), sl24⟩)
    (c24 : W.codeIn K cd24 "is_so" = true)
    (k24 : W.keepIn K (.ref f24) = true)
    (a25 : W.nsIn K mainGlobals "setting_by_setting" = some (some (.ref f25)))
    (l25 : K.lookup f25 = some ⟨oc25, od25, .func (W.fnOf "setting_by_setting" "setting_by_setting" (defArgs s_setting_by_setting) (defBody s_setting_by_setting) (defScope s_setting_by_setting) .none kV25 dc25 pm25 an25 cd25 ct25), sl25⟩)
    (c25 : W.codeIn K cd25 "setting_by_setting" = true)
    (k25 : W.keepIn K (.ref f25) = true)
    (a26 : W.nsIn K mainGlobals "best_on" = some (some (.ref f26)))
    (l26 : K.lookup f26 = some ⟨oc26, od26, .func (W.fnOf "best_on" "best_on" (defArgs s_best_on) (defBody s_best_on) (defScope s_best_on) .none kV26 dc26 pm26 an26 cd26 ct26), sl26⟩)
    (c26 : W.codeIn K cd26 "best_on" = true)
    (k26 : W.keepIn K (.ref f26) = true)
    (a27 : W.nsIn K mainGlobals "differences" = some (some (.ref f27)))
    (l27 : K.lookup f27 = some ⟨oc27, od27, .func (W.fnOf "differences" "differences" (defArgs s_differences) (defBody s_differences) (defScope s_differences) .none kV27 dc27 pm27 an27 cd27 ct27), sl27⟩)
    (c27 : W.codeIn K cd27 "differences" = true)
    (k27 : W.keepIn K (.ref f27) = true)
    (a28 : W.nsIn K mainGlobals "nearest" = some (some (.ref f28)))
    (l28 : K.lookup f28 = some ⟨oc28, od28, .func (W.fnOf "nearest" "nearest" (defArgs s_nearest) (defBody s_nearest) (defScope s_nearest) .none kV28 dc28 pm28 an28 (.ref g28) ct28), sl28⟩)
    (c28 : W.codeIn K (.ref g28) "nearest" = true)
    (k28 : W.keepIn K (.ref f28) = true)
    (lc28 : K.lookup g28 = some ⟨.type "code", cod28, .fields cvs28, csl28⟩)
    (pv28 : cvs28[11]? = some (.ref p28))
    (gh28 : W.codeHdIn K g28 p28 = true)
    (gt28 : h.get? p28 = some (W.tabObj #[]))
    (a29 : W.nsIn K mainGlobals "near_paper" = some (some (.ref f29)))
    (l29 : K.lookup f29 = some ⟨oc29, od29, .func (W.fnOf "near_paper" "near_paper" (defArgs s_near_paper) (defBody s_near_paper) (defScope s_near_paper) .none kV29 dc29 pm29 an29 cd29 ct29), sl29⟩)
    (c29 : W.codeIn K cd29 "near_paper" = true)
    (k29 : W.keepIn K (.ref f29) = true)
    (a30 : W.nsIn K mainGlobals "_law_tape" = some (some (.ref f30)))
    (l30 : K.lookup f30 = some ⟨oc30, od30, .func (W.fnOf "_law_tape" "_law_tape" (defArgs s__law_tape) (defBody s__law_tape) (defScope s__law_tape) .none kV30 dc30 pm30 an30 cd30 ct30), sl30⟩)
    (c30 : W.codeIn K cd30 "_law_tape" = true)
    (k30 : W.keepIn K (.ref f30) = true)
    (a31 : W.nsIn K mainGlobals "_law_next" = some (some (.ref f31)))
    (l31 : K.lookup f31 = some ⟨oc31, od31, .func (W.fnOf "_law_next" "_law_next" (defArgs s__law_next) (defBody s__law_next) (defScope s__law_next) .none kV31 dc31 pm31 an31 cd31 ct31), sl31⟩)
    (c31 : W.codeIn K cd31 "_law_next" = true)
    (k31 : W.keepIn K (.ref f31) = true)
    (a32 : W.nsIn K mainGlobals "_law_two" = some (some (.ref f32)))
    (l32 : K.lookup f32 = some ⟨oc32, od32, .func (W.fnOf "_law_two" "_law_two" (defArgs s__law_two) (defBody s__law_two) (defScope s__law_two) .none kV32 dc32 pm32 an32 cd32 ct32), sl32⟩)
    (c32 : W.codeIn K cd32 "_law_two" = true)
    (k32 : W.keepIn K (.ref f32) = true)
    (a33 : W.nsIn K mainGlobals "_law_bits" = some (some (.ref f33)))
    (l33 : K.lookup f33 = some ⟨oc33, od33, .func (W.fnOf "_law_bits" "_law_bits" (defArgs s__law_bits) (defBody s__law_bits) (defScope s__law_bits) .none kV33 dc33 pm33 an33 cd33 ct33), sl33⟩)
    (c33 : W.codeIn K cd33 "_law_bits" = true)
    (k33 : W.keepIn K (.ref f33) = true)
    (a34 : W.nsIn K mainGlobals "_law_sign" = some (some (.ref f34)))
    (l34 : K.lookup f34 = some ⟨oc34, od34, .func (W.fnOf "_law_sign" "_law_sign" (defArgs s__law_sign) (defBody s__law_sign) (defScope s__law_sign) .none kV34 dc34 pm34 an34 cd34 ct34), sl34⟩)
    (c34 : W.codeIn K cd34 "_law_sign" = true)
    (k34 : W.keepIn K (.ref f34) = true)
    (a35 : W.nsIn K mainGlobals "_law_table" = some (some (.ref f35)))
    (l35 : K.lookup f35 = some ⟨oc35, od35, .func (W.fnOf "_law_table" "_law_table" (defArgs s__law_table) (defBody s__law_table) (defScope s__law_table) .none kV35 dc35 pm35 an35 cd35 ct35), sl35⟩)
    (c35 : W.codeIn K cd35 "_law_table" = true)
    (k35 : W.keepIn K (.ref f35) = true)
    (a36 : W.nsIn K mainGlobals "_law_inside" = some (some (.ref f36)))
    (l36 : K.lookup f36 = some ⟨oc36, od36, .func (W.fnOf "_law_inside" "_law_inside" (defArgs s__law_inside) (defBody s__law_inside) (defScope s__law_inside) .none kV36 dc36 pm36 an36 cd36 ct36), sl36⟩)
    (c36 : W.codeIn K cd36 "_law_inside" = true)
    (k36 : W.keepIn K (.ref f36) = true)
    (a37 : W.nsIn K mainGlobals "_law_differs" = some (some (.ref f37)))
    (l37 : K.lookup f37 = some ⟨oc37, od37, .func (W.fnOf "_law_differs" "_law_differs" (defArgs s__law_differs) (defBody s__law_differs) (defScope s__law_differs) .none kV37 dc37 pm37 an37 cd37 ct37), sl37⟩)
    (c37 : W.codeIn K cd37 "_law_differs" = true)
    (k37 : W.keepIn K (.ref f37) = true)
    (a38 : W.nsIn K mainGlobals "_law_hangs" = some (some (.ref f38)))
    (l38 : K.lookup f38 = some ⟨oc38, od38, .func (W.fnOf "_law_hangs" "_law_hangs" (defArgs s__law_hangs) (defBody s__law_hangs) (defScope s__law_hangs) .none kV38 dc38 pm38 an38 cd38 ct38), sl38⟩)
    (c38 : W.codeIn K cd38 "_law_hangs" = true)
    (k38 : W.keepIn K (.ref f38) = true)
    (a39 : W.nsIn K mainGlobals "_law_sets" = some (some (.ref f39)))
    (l39 : K.lookup f39 = some ⟨oc39, od39, .func (W.fnOf "_law_sets" "_law_sets" (defArgs s__law_sets) (defBody s__law_sets) (defScope s__law_sets) .none kV39 dc39 pm39 an39 cd39 ct39), sl39⟩)
    (c39 : W.codeIn K cd39 "_law_sets" = true)
    (k39 : W.keepIn K (.ref f39) = true)
    (a40 : W.nsIn K mainGlobals "_law_other_table" = some (some (.ref f40)))
    (l40 : K.lookup f40 = some ⟨oc40, od40, .func (W.fnOf "_law_other_table" "_law_other_table" (defArgs s__law_other_table) (defBody s__law_other_table) (defScope s__law_other_table) .none kV40 dc40 pm40 an40 cd40 ct40), sl40⟩)
    (c40 : W.codeIn K cd40 "_law_other_table" = true)
    (k40 : W.keepIn K (.ref f40) = true)
    (a41 : W.nsIn K mainGlobals "_law_bent" = some (some (.ref f41)))
    (l41 : K.lookup f41 = some ⟨oc41, od41, .func (W.fnOf "_law_bent" "_law_bent" (defArgs s__law_bent) (defBody s__law_bent) (defScope s__law_bent) .none kV41 dc41 pm41 an41 cd41 ct41), sl41⟩)
    (c41 : W.codeIn K cd41 "_law_bent" = true)
    (k41 : W.keepIn K (.ref f41) = true)
    (a42 : W.nsIn K mainGlobals "_law_holds" = some (some (.ref f42)))
    (l42 : K.lookup f42 = some ⟨oc42, od42, .func (W.fnOf "_law_holds" "_law_holds" (defArgs s__law_holds) (defBody s__law_holds) (defScope s__law_holds) .none kV42 dc42 pm42 an42 cd42 ct42), sl42⟩)
    (c42 : W.codeIn K cd42 "_law_holds" = true)
    (k42 : W.keepIn K (.ref f42) = true)
    (a43 : W.nsIn K mainGlobals "law" = some (some (.ref f43)))
    (l43 : K.lookup f43 = some ⟨oc43, od43, .func (W.fnOf "law" "law" (defArgs s_law) (defBody s_law) (defScope s_law) .none kV43 dc43 pm43 an43 cd43 ct43), sl43⟩)
    (c43 : W.codeIn K cd43 "law" = true)
    (k43 : W.keepIn K (.ref f43) = true)
    (z_abs : W.nsIn K mainGlobals "abs" = some none)
    (z_all : W.nsIn K mainGlobals "all" = some none)
    (z_any : W.nsIn K mainGlobals "any" = some none)
    (z_bool : W.nsIn K mainGlobals "bool" = some none)
    (z_enumerate : W.nsIn K mainGlobals "enumerate" = some none)
    (z_int : W.nsIn K mainGlobals "int" = some none)
    (z_isinstance : W.nsIn K mainGlobals "isinstance" = some none)
    (z_len : W.nsIn K mainGlobals "len" = some none)
    (z_list : W.nsIn K mainGlobals "list" = some none)
    (z_max : W.nsIn K mainGlobals "max" = some none)
    (z_min : W.nsIn K mainGlobals "min" = some none)
    (z_range : W.nsIn K mainGlobals "range" = some none)
    (z_sum : W.nsIn K mainGlobals "sum" = some none)
    (z_tuple : W.nsIn K mainGlobals "tuple" = some none)
    (z_zip : W.nsIn K mainGlobals "zip" = some none)
    (c_TABLE_LENGTHS : W.nsIn K mainGlobals "TABLE_LENGTHS" = some (some (.ref ac_TABLE_LENGTHS)))
    (q_TABLE_LENGTHS : K.lookup ac_TABLE_LENGTHS = some ⟨.type "tuple", none, .seq #[.int 2 t_TABLE_LENGTHS_0, .int 4 t_TABLE_LENGTHS_1, .int 8 t_TABLE_LENGTHS_2, .int 16 t_TABLE_LENGTHS_3, .int 32 t_TABLE_LENGTHS_4, .int 64 t_TABLE_LENGTHS_5] nc_TABLE_LENGTHS, sl_TABLE_LENGTHS⟩)
    (c_MOST_COVERS : W.nsIn K mainGlobals "MOST_COVERS" = some (some (.int 64 t_MOST_COVERS)))
    (hnt : W.noTabs K = true) :
    ∃ (fd : FuncData) (ts : List (Addr × Addr)), W.TabsAt ts h /\ W.noTabs K = true /\ (∀ (s : Shared) (v : Value), BindsTo s fd ⟨[v], []⟩ [("_law_script", v)]) /\ ∀ base : Heap, K.In base -> base.Ns mainGlobals mg -> BMn mg base -> FnOk l.prog w K mg base CX0 8 fa fd ["_law_script"] (spLawT K (ts.map (·.2))) := by
  have e := hfa.symm.trans (W.mg_of X G a43)
  cases e
  have F0 := fun_mk (st := s_is_whole) l0 c0 k0
  have b0 := F0.binds (ps := ["thing"]) fun _ _ _ _ _ _ => L2.on1 (fun _ => rfl)
  have F1 := fun_mk (st := s_is_below) l1 c1 k1
  have b1 := F1.binds (ps := ["bound", "thing"]) fun _ _ _ _ _ _ => L2.on2 (fun _ _ => rfl)
  have F2 := fun_mk (st := s_two_to) l2 c2 k2
  have b2 := F2.binds (ps := ["n"]) fun _ _ _ _ _ _ => L2.on1 (fun _ => rfl)
  have F3 := fun_mk (st := s_power_of) l3 c3 k3
  have b3 := F3.binds (ps := ["base", "times"]) fun _ _ _ _ _ _ => L2.on2 (fun _ _ => rfl)
  have F4 := fun_mk (st := s_is_place) l4 c4 k4
  have b4 := F4.binds (ps := ["n", "thing"]) fun _ _ _ _ _ _ => L2.on2 (fun _ _ => rfl)
  have F5 := fun_mk (st := s_is_table) l5 c5 k5
  have b5 := F5.binds (ps := ["thing"]) fun _ _ _ _ _ _ => L2.on1 (fun _ => rfl)
  have F6 := fun_mk (st := s_switches_of) l6 c6 k6
  have b6 := F6.binds (ps := ["table"]) fun _ _ _ _ _ _ => L2.on1 (fun _ => rfl)
  have F7 := fun_mk (st := s_within) l7 c7 k7
  have b7 := F7.binds (ps := ["subset", "other"]) fun _ _ _ _ _ _ => L2.on2 (fun _ _ => rfl)
  have F8 := fun_mk (st := s_many_in) l8 c8 k8
  have b8 := F8.binds (ps := ["subset"]) fun _ _ _ _ _ _ => L2.on1 (fun _ => rfl)
  have F9 := fun_mk (st := s_sets_of) l9 c9 k9
  have b9 := F9.binds (ps := ["n", "k"]) fun _ _ _ _ _ _ => L2.on2 (fun _ _ => rfl)
  have F10 := fun_mk (st := s_hangs_on) l10 c10 k10
  have b10 := F10.binds (ps := ["one"]) fun _ _ _ _ _ _ => L2.on1 (fun _ => rfl)
  have F11 := fun_mk (st := s_is_pair) l11 c11 k11
  have b11 := F11.binds (ps := ["thing"]) fun _ _ _ _ _ _ => L2.on1 (fun _ => rfl)
  have F12 := fun_mk (st := s_sum_of) l12 c12 k12
  have b12 := F12.binds (ps := ["table"]) fun _ _ _ _ _ _ => L2.on1 (fun _ => rfl)
  have F13 := fun_mk (st := s_told) l13 c13 k13
  have b13 := F13.binds (ps := ["one"]) fun _ _ _ _ _ _ => L2.on1 (fun _ => rfl)
  have F14 := fun_mk (st := s_weights_of) l14 c14 k14
  have b14 := F14.binds (ps := ["one"]) fun _ _ _ _ _ _ => L2.on1 (fun _ => rfl)
  have F15 := fun_mk (st := s_weights_within) l15 c15 k15
  have b15 := F15.binds (ps := ["one", "outer"]) fun _ _ _ _ _ _ => L2.on2 (fun _ _ => rfl)
  have F16 := fun_mk (st := s_sum_from) l16 c16 k16
  have b16 := F16.binds (ps := ["n", "weights"]) fun _ _ _ _ _ _ => L2.on2 (fun _ _ => rfl)
  have F17 := fun_mk (st := s_times_signs) l17 c17 k17
  have b17 := F17.binds (ps := ["numbers"]) fun _ _ _ _ _ _ => L2.on1 (fun _ => rfl)
  have F18 := fun_mk (st := s_crossed) l18 c18 k18
  have b18 := F18.binds (ps := ["numbers", "step", "place"]) fun _ _ _ _ _ _ => L2.on3 (fun _ _ _ => rfl)
  have F19 := fun_mk (st := s_met) l19 c19 k19
  have b19 := F19.binds (ps := ["terms", "weights", "apart"]) fun _ _ _ _ _ _ => L2.on3 (fun _ _ _ => rfl)
  have F20 := fun_mk (st := s_lets_near) l20 c20 k20
  have b20 := F20.binds (ps := ["one", "k", "thing"]) fun _ _ _ _ _ _ => L2.on3 (fun _ _ _ => rfl)
  have F21 := fun_mk (st := s_has_paper_form) l21 c21 k21
  have b21 := F21.binds (ps := ["n", "thing"]) fun _ _ _ _ _ _ => L2.on2 (fun _ _ => rfl)
  have F22 := fun_mk (st := s_lead_of) l22 c22 k22
  have b22 := F22.binds (ps := ["one", "total"]) fun _ _ _ _ _ _ => L2.on2 (fun _ _ => rfl)
  have F23 := fun_mk (st := s_covers_all) l23 c23 k23
  have b23 := F23.binds (ps := ["n", "k", "covers"]) fun _ _ _ _ _ _ => L2.on3 (fun _ _ _ => rfl)
  have F24 := fun_mk (st := s_is_so) l24 c24 k24
  have b24 := F24.binds (ps := ["one", "lead", "cover"]) fun _ _ _ _ _ _ => L2.on3 (fun _ _ _ => rfl)
  have F25 := fun_mk (st := s_setting_by_setting) l25 c25 k25
  have b25 := F25.binds (ps := ["weights", "switches"]) fun _ _ _ _ _ _ => L2.on2 (fun _ _ => rfl)
  have F26 := fun_mk (st := s_best_on) l26 c26 k26
  have b26 := F26.binds (ps := ["one", "subset"]) fun _ _ _ _ _ _ => L2.on2 (fun _ _ => rfl)
  have F27 := fun_mk (st := s_differences) l27 c27 k27
  have b27 := F27.binds (ps := ["table", "other"]) fun _ _ _ _ _ _ => L2.on2 (fun _ _ => rfl)
  have F28 := fun_mk (st := s_nearest) l28 c28 k28
  have b28 := F28.binds (ps := ["one", "k"]) fun _ _ _ _ _ _ => L2.on2 (fun _ _ => rfl)
  have F29 := fun_mk (st := s_near_paper) l29 c29 k29
  have b29 := F29.binds (ps := ["one", "k"]) fun _ _ _ _ _ _ => L2.on2 (fun _ _ => rfl)
  have F30 := fun_mk (st := s__law_tape) l30 c30 k30
  have b30 := F30.binds (ps := ["_law_script"]) fun _ _ _ _ _ _ => L2.on1 (fun _ => rfl)
  have F31 := fun_mk (st := s__law_next) l31 c31 k31
  have b31 := F31.binds (ps := ["_law_tape_here", "_law_many"]) fun _ _ _ _ _ _ => L2.on2 (fun _ _ => rfl)
  have F32 := fun_mk (st := s__law_two) l32 c32 k32
  have b32 := F32.binds (ps := ["_law_k"]) fun _ _ _ _ _ _ => L2.on1 (fun _ => rfl)
  have F33 := fun_mk (st := s__law_bits) l33 c33 k33
  have b33 := F33.binds (ps := ["_law_n", "_law_number"]) fun _ _ _ _ _ _ => L2.on2 (fun _ _ => rfl)
  have F34 := fun_mk (st := s__law_sign) l34 c34 k34
  have b34 := F34.binds (ps := ["_law_n", "_law_one", "_law_place"]) fun _ _ _ _ _ _ => L2.on3 (fun _ _ _ => rfl)
  have F35 := fun_mk (st := s__law_table) l35 c35 k35
  have b35 := F35.binds (ps := ["_law_tape_here", "_law_n"]) fun _ _ _ _ _ _ => L2.on2 (fun _ _ => rfl)
  have F36 := fun_mk (st := s__law_inside) l36 c36 k36
  have b36 := F36.binds (ps := ["_law_n", "_law_place", "_law_some"]) fun _ _ _ _ _ _ => L2.on3 (fun _ _ _ => rfl)
  have F37 := fun_mk (st := s__law_differs) l37 c37 k37
  have b37 := F37.binds (ps := ["_law_n", "_law_table_here", "_law_some"]) fun _ _ _ _ _ _ => L2.on3 (fun _ _ _ => rfl)
  have F38 := fun_mk (st := s__law_hangs) l38 c38 k38
  have b38 := F38.binds (ps := ["_law_n", "_law_table_here"]) fun _ _ _ _ _ _ => L2.on2 (fun _ _ => rfl)
  have F39 := fun_mk (st := s__law_sets) l39 c39 k39
  have b39 := F39.binds (ps := ["_law_n", "_law_k"]) fun _ _ _ _ _ _ => L2.on2 (fun _ _ => rfl)
  have F40 := fun_mk (st := s__law_other_table) l40 c40 k40
  have b40 := F40.binds (ps := ["_law_tape_here", "_law_n", "_law_k"]) fun _ _ _ _ _ _ => L2.on3 (fun _ _ _ => rfl)
  have F41 := fun_mk (st := s__law_bent) l41 c41 k41
  have b41 := F41.binds (ps := ["_law_tape_here", "_law_n", "_law_k", "_law_paper"]) fun _ _ _ _ _ _ => L2.on4 (fun _ _ _ _ => rfl)
  have F42 := fun_mk (st := s__law_holds) l42 c42 k42
  have b42 := F42.binds (ps := ["_law_n", "_law_k", "_law_table_here", "_law_paper"]) fun _ _ _ _ _ _ => L2.on4 (fun _ _ _ _ => rfl)
  have F43 := fun_mk (st := s_law) l43 c43 k43
  have b43 := F43.binds (ps := ["_law_script"]) fun _ _ _ _ _ _ => L2.on1 (fun _ => rfl)
  let T : Txt K mg := { f_is_whole := f0, d_is_whole := _, F_is_whole := F0, b_is_whole := b0, m_is_whole := W.mg_of X G a0, f_is_below := f1, d_is_below := _, F_is_below := F1, b_is_below := b1, m_is_below := W.mg_of X G a1, f_two_to := f2, d_two_to := _, F_two_to := F2, b_two_to := b2, m_two_to := W.mg_of X G a2, f_power_of := f3, d_power_of := _, F_power_of := F3, b_power_of := b3, m_power_of := W.mg_of X G a3, f_is_place := f4, d_is_place := _, F_is_place := F4, b_is_place := b4, m_is_place := W.mg_of X G a4, f_is_table := f5, d_is_table := _, F_is_table := F5, b_is_table := b5, m_is_table := W.mg_of X G a5, f_switches_of := f6, d_switches_of := _, F_switches_of := F6, b_switches_of := b6, m_switches_of := W.mg_of X G a6, f_within := f7, d_within := _, F_within := F7, b_within := b7, m_within := W.mg_of X G a7, f_many_in := f8, d_many_in := _, F_many_in := F8, b_many_in := b8, m_many_in := W.mg_of X G a8, f_sets_of := f9, d_sets_of := _, F_sets_of := F9, b_sets_of := b9, m_sets_of := W.mg_of X G a9, f_hangs_on := f10, d_hangs_on := _, F_hangs_on := F10, b_hangs_on := b10, m_hangs_on := W.mg_of X G a10, f_is_pair := f11, d_is_pair := _, F_is_pair := F11, b_is_pair := b11, m_is_pair := W.mg_of X G a11, f_sum_of := f12, d_sum_of := _, F_sum_of := F12, b_sum_of := b12, m_sum_of := W.mg_of X G a12, f_told := f13, d_told := _, F_told := F13, b_told := b13, m_told := W.mg_of X G a13, f_weights_of := f14, d_weights_of := _, F_weights_of := F14, b_weights_of := b14, m_weights_of := W.mg_of X G a14, f_weights_within := f15, d_weights_within := _, F_weights_within := F15, b_weights_within := b15, m_weights_within := W.mg_of X G a15, f_sum_from := f16, d_sum_from := _, F_sum_from := F16, b_sum_from := b16, m_sum_from := W.mg_of X G a16, f_times_signs := f17, d_times_signs := _, F_times_signs := F17, b_times_signs := b17, m_times_signs := W.mg_of X G a17, f_crossed := f18, d_crossed := _, F_crossed := F18, b_crossed := b18, m_crossed := W.mg_of X G a18, f_met := f19, d_met := _, F_met := F19, b_met := b19, m_met := W.mg_of X G a19, f_lets_near := f20, d_lets_near := _, F_lets_near := F20, b_lets_near := b20, m_lets_near := W.mg_of X G a20, f_has_paper_form := f21, d_has_paper_form := _, F_has_paper_form := F21, b_has_paper_form := b21, m_has_paper_form := W.mg_of X G a21, f_lead_of := f22, d_lead_of := _, F_lead_of := F22, b_lead_of := b22, m_lead_of := W.mg_of X G a22, f_covers_all := f23, d_covers_all := _, F_covers_all := F23, b_covers_all := b23, m_covers_all := W.mg_of X G a23, f_is_so := f24, d_is_so := _, F_is_so := F24, b_is_so := b24, m_is_so := W.mg_of X G a24, f_setting_by_setting := f25, d_setting_by_setting := _, F_setting_by_setting := F25, b_setting_by_setting := b25, m_setting_by_setting := W.mg_of X G a25, f_best_on := f26, d_best_on := _, F_best_on := F26, b_best_on := b26, m_best_on := W.mg_of X G a26, f_differences := f27, d_differences := _, F_differences := F27, b_differences := b27, m_differences := W.mg_of X G a27, g_nearest := g28, p_nearest := p28, gc_nearest := rfl, gh_nearest := gh28, f_nearest := f28, d_nearest := _, F_nearest := F28, b_nearest := b28, m_nearest := W.mg_of X G a28, f_near_paper := f29, d_near_paper := _, F_near_paper := F29, b_near_paper := b29, m_near_paper := W.mg_of X G a29, f__law_tape := f30, d__law_tape := _, F__law_tape := F30, b__law_tape := b30, m__law_tape := W.mg_of X G a30, f__law_next := f31, d__law_next := _, F__law_next := F31, b__law_next := b31, m__law_next := W.mg_of X G a31, f__law_two := f32, d__law_two := _, F__law_two := F32, b__law_two := b32, m__law_two := W.mg_of X G a32, f__law_bits := f33, d__law_bits := _, F__law_bits := F33, b__law_bits := b33, m__law_bits := W.mg_of X G a33, f__law_sign := f34, d__law_sign := _, F__law_sign := F34, b__law_sign := b34, m__law_sign := W.mg_of X G a34, f__law_table := f35, d__law_table := _, F__law_table := F35, b__law_table := b35, m__law_table := W.mg_of X G a35, f__law_inside := f36, d__law_inside := _, F__law_inside := F36, b__law_inside := b36, m__law_inside := W.mg_of X G a36, f__law_differs := f37, d__law_differs := _, F__law_differs := F37, b__law_differs := b37, m__law_differs := W.mg_of X G a37, f__law_hangs := f38, d__law_hangs := _, F__law_hangs := F38, b__law_hangs := b38, m__law_hangs := W.mg_of X G a38, f__law_sets := f39, d__law_sets := _, F__law_sets := F39, b__law_sets := b39, m__law_sets := W.mg_of X G a39, f__law_other_table := f40, d__law_other_table := _, F__law_other_table := F40, b__law_other_table := b40, m__law_other_table := W.mg_of X G a40, f__law_bent := f41, d__law_bent := _, F__law_bent := F41, b__law_bent := b41, m__law_bent := W.mg_of X G a41, f__law_holds := f42, d__law_holds := _, F__law_holds := F42, b__law_holds := b42, m__law_holds := W.mg_of X G a42, f_law := fa, d_law := _, F_law := F43, b_law := b43, m_law := W.mg_of X G a43, z_abs := W.mg_none_of X G z_abs, z_all := W.mg_none_of X G z_all, z_any := W.mg_none_of X G z_any, z_bool := W.mg_none_of X G z_bool, z_enumerate := W.mg_none_of X G z_enumerate, z_int := W.mg_none_of X G z_int, z_isinstance := W.mg_none_of X G z_isinstance, z_len := W.mg_none_of X G z_len, z_list := W.mg_none_of X G z_list, z_max := W.mg_none_of X G z_max, z_min := W.mg_none_of X G z_min, z_range := W.mg_none_of X G z_range, z_sum := W.mg_none_of X G z_sum, z_tuple := W.mg_none_of X G z_tuple, z_zip := W.mg_none_of X G z_zip, a_TABLE_LENGTHS := ac_TABLE_LENGTHS, c_TABLE_LENGTHS := W.mg_of X G c_TABLE_LENGTHS, q_TABLE_LENGTHS := fun H => .inr ⟨_, _, _, q_TABLE_LENGTHS, rfl, rfl, rfl, (show 6 <= sizeLine by decide), (.cons ⟨_, rfl⟩ (.cons ⟨_, rfl⟩ (.cons ⟨_, rfl⟩ (.cons ⟨_, rfl⟩ (.cons ⟨_, rfl⟩ (.cons ⟨_, rfl⟩ .nil))))))⟩, t_MOST_COVERS := t_MOST_COVERS, c_MOST_COVERS := W.mg_of X G c_MOST_COVERS }
  exact ⟨W.fnOf "law" "law" (defArgs s_law) (defBody s_law) (defScope s_law) .none kV43 dc43 pm43 an43 cd43 ct43, [(g28, p28)], List.forall_mem_cons.mpr ⟨⟨W.codeHd_of_K X gh28, gt28⟩, fun _ z => nomatch z⟩, hnt, fun s v => .of_eq rfl, fun base _ _ B => ok_law T B⟩
theorem walk {l : W.OpenLaw} {q : Program} {loose : List Str} {XP : (Str -> Option Value) -> Heap -> Prop} {YP : World -> Heap -> Prop} {d : DefRec} {K : Params -> W.Frag} (hn : l.most = some 63) (hdf : d.params.defaults = [])
    (hY : ∀ (w : World) (h : Heap), YP w h -> (K w.params).In h)
    (F : ∀ (w : World) (mg : Str -> Option Value) (fa : Addr) (h : Heap), YP w h -> (K w.params).In h -> h.Ns mainGlobals mg -> mg d.name = some (.ref fa) ->
      ∃ (fd : FuncData) (ts : List (Addr × Addr)), W.TabsAt ts h /\ W.noTabs (K w.params) = true /\ (∀ (s : Shared) (u : Value), BindsTo s fd ⟨[u], []⟩ [("_law_script", u)]) /\ ∀ base : Heap, (K w.params).In base -> base.Ns mainGlobals mg -> BMn mg base -> FnOk l.prog w (K w.params) mg base CX0 8 fa fd ["_law_script"] (spLawT (K w.params) (ts.map (·.2)))) :
    W.WalkO q loose XP YP l.row.toRowW d [] (fun f vs => PySem.call f vs) :=
  L2.walk_ofT (n := 63) (k := 8) (x := "_law_script") (sp := fun w ts => spLawT (K w.params) ts) hn (by decide) hdf ⟨rfl, by decide, by decide, rfl⟩ hY F (fun _ _ a ns ts hl hO hS => ⟨a, ns, rfl, hS, hl, hO, fun _ => rfl⟩)
end Mine
theorem PySem.W.Fast.te2748933867794589275 : True := trivial
def PySem.W.Fast.tw14585930229472943557 : PySem.Program := PySem.Challenge.pw_flips_k90_whole_what_is_let_by_is_neares
theorem PySem.W.Fast.te14585930229472943557 : PySem.Challenge.pw_flips_k90_whole_what_is_let_by_is_neares = PySem.W.Fast.tw14585930229472943557 := rfl
def PySem.W.Fast.pickB : List Bool -> List PySem.Stmt -> List PySem.Stmt
  | [], _ => []
  | b :: k, l => match b, l with
    | true, s :: r => s :: PySem.W.Fast.pickB k r
    | false, _ :: r => PySem.W.Fast.pickB k r
    | _, [] => []
def PySem.W.Fast.tw5727561489041501814 : PySem.Program := { PySem.Challenge.pw_flips_k90_whole_what_is_let_by_is_neares with main := { (PySem.Challenge.pw_flips_k90_whole_what_is_let_by_is_neares).main with body := PySem.W.Fast.pickB [false, true, true, true, true, false, true, true, true, true, true, true, true, false, true, false, true, true, false, true, true, true, true, true, true, true, true, false, true, false, true, true, true, true, true, true, true, false, true, true, true, false, true, false, true, true, true, true, true, true, true, true, true, true, true, true, true, true] (PySem.Challenge.pw_flips_k90_whole_what_is_let_by_is_neares).main.body } }
theorem PySem.W.Fast.te5727561489041501814 : PySem.W.Fast.tw5727561489041501814 = PySem.W.Fast.tw5727561489041501814 := rfl
def PySem.W.Fast.tw4201289719337914395 : List PySem.Stmt := ((PySem.Challenge.pw_flips_k90_whole_what_is_let_by_is_neares).main.body.drop 16).take 2
theorem PySem.W.Fast.te4201289719337914395 : PySem.W.Fast.tw4201289719337914395 = PySem.W.Fast.tw4201289719337914395 := rfl
def PySem.W.Fast.tw8804286195325948485 : List PySem.Stmt := ((PySem.Challenge.pw_flips_k90_whole_what_is_let_by_is_neares).main.body.drop 51).take 7
theorem PySem.W.Fast.te8804286195325948485 : PySem.W.Fast.tw8804286195325948485 = PySem.W.Fast.tw8804286195325948485 := rfl
def PySem.W.Fast.tw7449454347429859541 : List PySem.Stmt := ((PySem.Challenge.pw_flips_k90_whole_what_is_let_by_is_neares).main.body.drop 35).take 16
theorem PySem.W.Fast.te7449454347429859541 : PySem.W.Fast.tw7449454347429859541 = PySem.W.Fast.tw7449454347429859541 := rfl
def PySem.W.Fast.tw11235420252573429779 : List PySem.Stmt := ((PySem.Challenge.pw_flips_k90_whole_what_is_let_by_is_neares).main.body.drop 18).take 17
theorem PySem.W.Fast.te11235420252573429779 : PySem.W.Fast.tw11235420252573429779 = PySem.W.Fast.tw11235420252573429779 := rfl
def PySem.W.Fast.tw15568079183792504690 : List PySem.Stmt := ((PySem.Challenge.pw_flips_k90_whole_what_is_let_by_is_neares).main.body.drop 0).take 16
theorem PySem.W.Fast.te15568079183792504690 : PySem.W.Fast.tw15568079183792504690 = PySem.W.Fast.tw15568079183792504690 := rfl
open PySem PySem.W PyProof.Rows
set_option maxRecDepth 100000 in
set_option maxHeartbeats 0 in
theorem PySem.Challenge.cw_flips_k90_whole_what_is_let_by_is_neares_holds : PySem.Challenge.rw_flips_k90_whole_what_is_let_by_is_neares.Holds := by
  w_on; o_law; k_head; (case hw => w_witness2)
  k_fill
  refine Mine.walk (l := PySem.Challenge.rw_flips_k90_whole_what_is_let_by_is_neares) rfl rfl (fun w h Y => PySem.W.km_in_of Y) ?F
  case F =>
    intro w mg fa h Y KX G hmg
    refine' Mine.all_mk KX G hmg ?a0 ?l0 ?c0 ?k0 ?a1 ?l1 ?c1 ?k1 ?a2 ?l2 ?c2 ?k2 ?a3 ?l3 ?c3 ?k3 ?a4 ?l4 ?c4 ?k4 ?a5 ?l5 ?c5 ?k5 ?a6 ?l6 ?c6 ?k6 ?a7 ?l7 ?c7 ?k7 ?a8 ?l8 ?c8 ?k8 ?a9 ?l9 ?c9 ?k9 ?a10 ?l10 ?c10 ?k10 ?a11 ?l11 ?c11 ?k11 ?a12 ?l12 ?c12 ?k12 ?a13 ?l13 ?c13 ?k13 ?a14 ?l14 ?c14 ?k14 ?a15 ?l15 ?c15 ?k15 ?a16 ?l16 ?c16 ?k16 ?a17 ?l17 ?c17 ?k17 ?a18 ?l18 ?c18 ?k18 ?a19 ?l19 ?c19 ?k19 ?a20 ?l20 ?c20 ?k20 ?a21 ?l21 ?c21 ?k21 ?a22 ?l22 ?c22 ?k22 ?a23 ?l23 ?c23 ?k23 ?a24 ?l24 ?c24 ?k24 ?a25 ?l25 ?c25 ?k25 ?a26 ?l26 ?c26 ?k26 ?a27 ?l27 ?c27 ?k27 ?a28 ?l28 ?c28 ?k28 ?lc28 ?pv28 ?gh28 ?gt28 ?a29 ?l29 ?c29 ?k29 ?a30 ?l30 ?c30 ?k30 ?a31 ?l31 ?c31 ?k31 ?a32 ?l32 ?c32 ?k32 ?a33 ?l33 ?c33 ?k33 ?a34 ?l34 ?c34 ?k34 ?a35 ?l35 ?c35 ?k35 ?a36 ?l36 ?c36 ?k36 ?a37 ?l37 ?c37 ?k37 ?a38 ?l38 ?c38 ?k38 ?a39 ?l39 ?c39 ?k39 ?a40 ?l40 ?c40 ?k40 ?a41 ?l41 ?c41 ?k41 ?a42 ?l42 ?c42 ?k42 ?a43 ?l43 ?c43 ?k43 ?z_abs ?z_all ?z_any ?z_bool ?z_enumerate ?z_int ?z_isinstance ?z_len ?z_list ?z_max ?z_min ?z_range ?z_sum ?z_tuple ?z_zip ?c_TABLE_LENGTHS ?q_TABLE_LENGTHS ?c_MOST_COVERS ?hnt
    (case a0 | l0 | c0 | k0 | a1 | l1 | c1 | k1 | a2 | l2 | c2 | k2 | a3 | l3 | c3 | k3 | a4 | l4 | c4 | k4 | a5 | l5 | c5 | k5 | a6 | l6 | c6 | k6 | a7 | l7 | c7 | k7 | a8 | l8 | c8 | k8 | a9 | l9 | c9 | k9 | a10 | l10 | c10 | k10 | a11 | l11 | c11 | k11 | a12 | l12 | c12 | k12 | a13 | l13 | c13 | k13 | a14 | l14 | c14 | k14 | a15 | l15 | c15 | k15 | a16 | l16 | c16 | k16 | a17 | l17 | c17 | k17 | a18 | l18 | c18 | k18 | a19 | l19 | c19 | k19 | a20 | l20 | c20 | k20 | a21 | l21 | c21 | k21 | a22 | l22 | c22 | k22 | a23 | l23 | c23 | k23 | a24 | l24 | c24 | k24 | a25 | l25 | c25 | k25 | a26 | l26 | c26 | k26 | a27 | l27 | c27 | k27 | a28 | l28 | c28 | k28 | lc28 | a29 | l29 | c29 | k29 | a30 | l30 | c30 | k30 | a31 | l31 | c31 | k31 | a32 | l32 | c32 | k32 | a33 | l33 | c33 | k33 | a34 | l34 | c34 | k34 | a35 | l35 | c35 | k35 | a36 | l36 | c36 | k36 | a37 | l37 | c37 | k37 | a38 | l38 | c38 | k38 | a39 | l39 | c39 | k39 | a40 | l40 | c40 | k40 | a41 | l41 | c41 | k41 | a42 | l42 | c42 | k42 | a43 | l43 | c43 | k43 | z_abs | z_all | z_any | z_bool | z_enumerate | z_int | z_isinstance | z_len | z_list | z_max | z_min | z_range | z_sum | z_tuple | z_zip | c_TABLE_LENGTHS | q_TABLE_LENGTHS | c_MOST_COVERS => k_is)
    (case pv28 => rfl)
    (case gh28 => kernel_rfl)
    (case gt28 => exact PySem.W.km_tabs_of Y _ (by k_mem))
    (case hnt => kernel_rfl)
