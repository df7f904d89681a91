import PyProof.Rows.All
import Wide.All
import OpenK.AllK
import Wide.FinOn
import Lean
import PyProof.EqAt
import PyProof.EqKinds
import PyProof.TupleCall
import PyProof.NeKinds
import PyProof.ReprRoads
import PyProof.ReprBulk
import PyProof.Draws
import PyProof.EnumMake
import KE.BitLaws
import PyProof.ListIndex
import PyProof.AttrMissHeap
import PyProof.DictUpdate
import KE.KDictOf
import PyProof.FactsAll.enumerate_1
import PyProof.FactsAll.tuple_2
import PyProof.ListMulRoad
import PyProof.ListRange
import PyProof.FactsAll.list_3
import PyProof.Rows.SortWalk
import PySem.Challenge.RW_flips_k34_what_is_a_glance
-- CHANGE: your row's module here, as the last of these rows
set_option Elab.async false
set_option linter.all false
set_option maxRecDepth 100000
namespace L2
open PySem PySem.Spec PyProof.Rows
abbrev Key := Sum Int Str
def keyIs : Key → Value → Bool
  | .inl k, v => Value.isInt k v
  | .inr x, v => Value.isStrOf x v
def keyH (w : World) : Key → Int
  | .inl k => hashInt k
  | .inr x => hashStr w x
theorem keyIs_shape : ∀ {k : Key} {v : Value}, keyIs k v = true → (∃ i t, k = Sum.inl i ∧ v = Value.int i t) ∨ (∃ x t, k = Sum.inr x ∧ v = Value.str x t)
  | .inl i, v, h => by
    obtain ⟨t, e⟩ := Value.isInt_shape (k := i) (v := v) h
    exact .inl ⟨i, t, rfl, e⟩
  | .inr x, v, h => by
    obtain ⟨t, e⟩ := Value.isStrOf_shape (x := x) (v := v) h
    exact .inr ⟨x, t, rfl, e⟩
theorem keyIs_int (i : Int) (t : Tok) : keyIs (.inl i) (.int i t) = true := by simp [keyIs, Value.isInt]
theorem keyIs_str (x : Str) (t : Tok) : keyIs (.inr x) (.str x t) = true := by simp [keyIs, Value.isStrOf]
theorem key_ll (a b : Int) : decide ((Sum.inl a : Key) = Sum.inl b) = (a == b) := by
  by_cases e : a = b
  · subst e; simp
  · have h : ¬ (Sum.inl a : Key) = Sum.inl b := fun q => e (Sum.inl.inj q)
    rw [decide_eq_false h]
    exact (beq_eq_false_iff_ne.mpr e).symm
theorem key_rr (a b : Str) : decide ((Sum.inr a : Key) = Sum.inr b) = decide (a = b) := by
  by_cases e : a = b
  · subst e; simp
  · have h : ¬ (Sum.inr a : Key) = Sum.inr b := fun q => e (Sum.inr.inj q)
    rw [decide_eq_false h, decide_eq_false e]
theorem key_lr (a : Int) (b : Str) : decide ((Sum.inl a : Key) = Sum.inr b) = false := decide_eq_false (fun q => nomatch q)
theorem key_rl (a : Str) (b : Int) : decide ((Sum.inr a : Key) = Sum.inl b) = false := decide_eq_false (fun q => nomatch q)
def mixKind (prog : Program) (w : World) : PySem.KeyKind prog w Key where
  is := keyIs
  hash := keyH w
  inj := fun v a b ha hb => by
    rcases keyIs_shape ha with ⟨i, t, rfl, rfl⟩ | ⟨x, t, rfl, rfl⟩
    · rcases keyIs_shape hb with ⟨j, u, rfl, e⟩ | ⟨y, u, rfl, e⟩
      · injection e with e1 _; rw [e1]
      · exact nomatch e
    · rcases keyIs_shape hb with ⟨j, u, rfl, e⟩ | ⟨y, u, rfl, e⟩
      · exact nomatch e
      · injection e with e1 _; rw [e1]
  byValue := fun k v h => by
    rcases keyIs_shape h with ⟨i, t, rfl, rfl⟩ | ⟨x, t, rfl, rfl⟩ <;> rfl
  pyHash := fun hv h => by
    rcases keyIs_shape hv with ⟨i, t, rfl, rfl⟩ | ⟨x, t, rfl, rfl⟩
    · exact wpAny_pyHash_int h
    · exact wpAny_pyHash_str h
  eqBool := fun hu hv h => by
    rcases keyIs_shape hu with ⟨i, t, rfl, rfl⟩ | ⟨x, t, rfl, rfl⟩
    · rcases keyIs_shape hv with ⟨j, u, rfl, rfl⟩ | ⟨y, u, rfl, rfl⟩
      · rw [key_ll] at h; exact wpAny_eqBool_int h
      · rw [key_lr] at h; exact SeqAt.EqAt.int_str i t y u _ _ _ _ h
    · rcases keyIs_shape hv with ⟨j, u, rfl, rfl⟩ | ⟨y, u, rfl, rfl⟩
      · rw [key_rl] at h; exact SeqAt.EqAt.str_int x t j u _ _ _ _ h
      · rw [key_rr] at h; exact wpAny_eqBool_str h
  «strs» := fun k x t v h => by
    rcases keyIs_shape h with ⟨i, u, rfl, e⟩ | ⟨y, u, rfl, e⟩
    · exact nomatch e
    · injection e with e1 _
      subst e1
      cases v <;> rfl
theorem mixKind_int (prog : Program) (w : World) (i : Int) (t : Tok) : (mixKind prog w).is (.inl i) (.int i t) = true := keyIs_int i t
theorem mixKind_str (prog : Program) (w : World) (x : Str) (t : Tok) : (mixKind prog w).is (.inr x) (.str x t) = true := keyIs_str x t
end L2
namespace L2
open PySem PySem.Spec PyProof.Rows
inductive V where
  | non | bl (b : Bool) | int (i : Int) | str (x : Str) | byt (b : Array UInt8) | flt (b : UInt64) | ref (a : Addr) | ty (n : String)
  deriving DecidableEq
def RelV : V → Value → Prop
  | .non, u => u = Value.none
  | .bl b, u => u = Value.bool b
  | .int i, u => ∃ t, u = Value.int i t
  | .str x, u => ∃ t, u = Value.str x t
  | .byt b, u => ∃ t, u = Value.bytes b t
  | .flt b, u => ∃ t, u = Value.float b t
  | .ref a, u => u = Value.ref a
  | .ty n, u => u = Value.type n
abbrev Vals : List V → List Value → Prop := Paired RelV
theorem Vals.length {xs : List V} {us : List Value} (r : Vals xs us) : xs.length = us.length := Paired.length r
theorem Vals.get : ∀ {xs : List V} {us : List Value} {i : Nat} {x : V}, Vals xs us → xs[i]? = some x → ∃ u, us[i]? = some u ∧ RelV x u
  | _, _, _, _, .nil, e => by simp at e
  | _, _, 0, _, .cons r _, e => by simp at e; subst e; exact ⟨_, rfl, r⟩
  | _, _, i + 1, x, .cons _ t, e => by
    obtain ⟨u, h1, h2⟩ := Vals.get (i := i) (x := x) t (by simpa using e)
    exact ⟨u, by simpa using h1, h2⟩
theorem Vals.set {x : V} {u : Value} (r : RelV x u) : ∀ {xs : List V} {us : List Value} (i : Nat), Vals xs us → Vals (xs.set i x) (us.set i u)
  | _, _, _, .nil => .nil
  | _, _, 0, .cons _ t => .cons r t
  | _, _, i + 1, .cons q t => .cons q (Vals.set r i t)
theorem Vals.append : ∀ {xs ys : List V} {us ws : List Value}, Vals xs us → Vals ys ws → Vals (xs ++ ys) (us ++ ws)
  | _, _, _, _, .nil, s => s
  | _, _, _, _, .cons r t, s => .cons r (Vals.append t s)
theorem Vals.take : ∀ {xs : List V} {us : List Value} (n : Nat), Vals xs us → Vals (xs.take n) (us.take n)
  | _, _, 0, _ => .nil
  | _, _, _ + 1, .nil => .nil
  | _, _, n + 1, .cons r t => .cons r (Vals.take n t)
theorem Vals.drop : ∀ {xs : List V} {us : List Value} (n : Nat), Vals xs us → Vals (xs.drop n) (us.drop n)
  | _, _, 0, r => r
  | _, _, _ + 1, .nil => .nil
  | _, _, n + 1, .cons _ t => Vals.drop n t
def RelO : Option V → Option Value → Prop
  | some v, some u => RelV v u
  | none, none => True
  | _, _ => False
def KV {κ : Type} : List (κ × V) → List (κ × Value) → Prop := Paired fun (p : κ × V) (q : κ × Value) => p.1 = q.1 ∧ RelV p.2 q.2
def kV : Key → V
  | .inl i => .int i
  | .inr x => .str x
inductive HO where
    | lst (xs : List V)
    | tup (xs : List V)
    | dK (kvs : List (Key × V)) | dT (kvs : List (List Key × V))
    | set (S : Int → Bool) (n : Nat)
    | ins (C dx : Addr) (fs : List (Str × V))
    | own (x : Addr)
    | xd (fs : List (Str × V))
    | met (f x : Addr)
    | rng (lo hi : Int)
    | frz (o : Obj) (u : HO)
    | tbl (ps : Array Value)
    | ext (φ : Heap → Prop)
abbrev Hp := Addr → Option HO
def upd (H : Hp) (a : Addr) (o : HO) : Hp := fun b => if b = a then some o else H b
theorem upd_same {H : Hp} {a : Addr} {o : HO} : upd H a o a = some o := by unfold upd; rw [if_pos rfl]
theorem upd_ne {H : Hp} {a b : Addr} {o : HO} (h : b ≠ a) : upd H a o b = H b := by unfold upd; rw [if_neg h]
theorem ne_of_none {H : Hp} {a b : Addr} {o : HO} (h : H a = some o) (h' : H b = none) : a ≠ b := by
  intro e; subst e; rw [h] at h'; cases h'
def IsTupN (h : Heap) (a : Addr) (items : Array Value) : Prop := ∃ o, h.get? a = some o ∧ o.cls = .type "tuple" ∧ (∃ n, o.data = .seq items n) ∧ o.dict = none
theorem IsTupN.tup {h : Heap} {a : Addr} {items : Array Value} (x : IsTupN h a items) : PyProof.Rows.IsTup h a items := by
  obtain ⟨o, e, c, d, _⟩ := x
  exact ⟨o, e, c, d⟩
theorem IsTupN.new (h : Heap) (items : Array Value) : IsTupN (h.push { cls := .type "tuple", data := .seq items }) h.objs.size items := ⟨_, Heap.get?_push_size _ rfl, rfl, ⟨_, rfl⟩, rfl⟩
section
variable (P : Program) (w : World)
def ObjOk (H : Hp) (h : Heap) (a : Addr) : HO → Prop
  | .lst xs => xs.length ≤ sizeLine ∧ ∃ (its : List Value) (n : Nat), Vals xs its ∧ h.get? a = some { cls := .type "list", data := .seq its.toArray n }
  | .tup xs => xs.length ≤ sizeLine ∧ ∃ its : List Value, Vals xs its ∧ IsTupN h a its.toArray
  | .dK kvs => kvs.length ≤ sizeLine ∧ (a == sysModules) = false ∧ ∃ vs, KV kvs vs ∧ h.DictOf (mixKind P w) a vs
  | .dT kvs => kvs.length ≤ sizeLine ∧ (a == sysModules) = false ∧ ∃ xs : List (List Key × Addr × Value),
      Paired (fun (p : List Key × V) (q : List Key × Addr × Value) => p.1 = q.1 ∧ H q.2.1 = some (.tup (p.1.map kV)) ∧ RelV p.2 q.2.2) kvs xs ∧
      ∃ o es ep, h.get? a = some o ∧ o.ExactDict ∧ o.data = .dict es ep ∧ es.toList = xs.map (entryOfKey (tupleKind (mixKind P w))) ∧ (xs.map (·.1)).Nodup
  | .set S n => h.SetOf (intKind P w) a S n
  | .ins C dx fs => H dx = some (.own a) ∧ fs.length ≤ 1000 ∧ dx ≠ a ∧ h.get? a = some (PySem.W.instObj C dx) ∧
      ∃ mA, h.Ns1 dx mA ∧ (∀ f, RelO (fs.lookup f) (mA f)) ∧ PySem.Within mA (fs.map (·.1))
  | .own _ => ∃ o, h.get? a = some o
  | .xd fs => ∃ mA, h.Ns1 a mA ∧ ∀ f, RelO (fs.lookup f) (mA f)
  | .rng lo hi => ∃ t u v, h.get? a = some { cls := .type "range", data := .fields #[.int lo t, .int hi u, .int 1 v] }
  | .frz o u => h.get? a = some o ∧ ObjOk H h a u
  | .tbl ps => h.get? a = some { cls := .none, data := .fields ps }
  | .met f x => h.get? a = some (PySem.W.methodObj (.ref f) (.ref x))
  | .ext φ => φ h ∧ (∃ o, h.get? a = some o) ∧ ∀ h1 h2 : Heap, φ h1 → (∀ o, h1.get? a = some o → h2.get? a = some o) → φ h2
def HOk (H : Hp) (h : Heap) : Prop := ∀ a o, H a = some o → ObjOk P w H h a o
end
section
variable {P : Program} {w : World} {H H' : Hp} {h h' : Heap} {a : Addr} {o : HO}
theorem ObjOk.lt (x : ObjOk P w H h a o) : a < h.objs.size := by
  cases o with
  | lst xs => obtain ⟨_, _, _, _, e⟩ := x; exact Heap.lt_size e
  | tup xs => obtain ⟨_, _, _, p⟩ := x; exact p.tup.lt
  | dK kvs => obtain ⟨_, _, _, _, o, _, _, e, _⟩ := x; exact Heap.lt_size e
  | dT kvs => obtain ⟨_, _, _, _, o, _, _, e, _⟩ := x; exact Heap.lt_size e
  | set S n => obtain ⟨o, _, _, _, e, _⟩ := x; exact Heap.lt_size e
  | ins C dx fs => obtain ⟨_, _, _, e, _⟩ := x; exact Heap.lt_size e
  | own y => obtain ⟨_, e⟩ := x; exact Heap.lt_size e
  | xd fs => obtain ⟨_, ⟨_, _, _, e, _⟩, _⟩ := x; exact Heap.lt_size e
  | rng lo hi => obtain ⟨_, _, _, e⟩ := x; exact Heap.lt_size e
  | frz ob u => obtain ⟨e, _⟩ := x; exact Heap.lt_size e
  | tbl ps => exact Heap.lt_size (show h.get? a = some _ from x)
  | met f y => exact Heap.lt_size (show h.get? a = some _ from x)
  | ext φ => obtain ⟨_, ⟨_, e⟩, _⟩ := x; exact Heap.lt_size e
theorem Paired.mapP {α β : Type} {F G : α → β → Prop} : ∀ {l₁ : List α} {l₂ : List β}, Paired F l₁ l₂ → (∀ a b, F a b → G a b) → Paired G l₁ l₂
  | _, _, .nil, _ => .nil
  | _, _, .cons r t, f => .cons (f _ _ r) (Paired.mapP t f)
theorem ObjOk.stay (x : ObjOk P w H h a o) (k : ∀ b u, (b = a ∨ H b = some (.own a)) → h.get? b = some u → h'.get? b = some u)
    (ho : ∀ b, H b = some (.own a) → H' b = some (.own a)) (ht : ∀ b xs, H b = some (.tup xs) → H' b = some (.tup xs)) : ObjOk P w H' h' a o := by
  induction o with
  | lst xs => obtain ⟨z, its, n, r, e⟩ := x; exact ⟨z, its, n, r, k _ _ (.inl rfl) e⟩
  | tup xs => obtain ⟨z, its, r, ob, e, c⟩ := x; exact ⟨z, its, r, ob, k _ _ (.inl rfl) e, c⟩
  | dK kvs => obtain ⟨z, y, vs, r, ob, es, ep, e, c⟩ := x; exact ⟨z, y, vs, r, ob, es, ep, k _ _ (.inl rfl) e, c⟩
  | dT kvs =>
    obtain ⟨z, y, xs, r, ob, es, ep, e, c⟩ := x
    exact ⟨z, y, xs, Paired.mapP r fun p q z => ⟨z.1, ht _ _ z.2.1, z.2.2⟩, ob, es, ep, k _ _ (.inl rfl) e, c⟩
  | set S n => obtain ⟨ob, es, ep, t, e, c⟩ := x; exact ⟨ob, es, ep, t, k _ _ (.inl rfl) e, c⟩
  | ins C dx fs =>
    obtain ⟨d, z, ne, e, mA, ⟨od, es, ep, e2, c⟩, r⟩ := x
    exact ⟨ho _ d, z, ne, k _ _ (.inl rfl) e, mA, ⟨od, es, ep, k _ _ (.inr d) e2, c⟩, r⟩
  | own y => obtain ⟨ob, e⟩ := x; exact ⟨ob, k _ _ (.inl rfl) e⟩
  | xd fs => obtain ⟨mA, ⟨od, es, ep, e, c⟩, r⟩ := x; exact ⟨mA, ⟨od, es, ep, k _ _ (.inl rfl) e, c⟩, r⟩
  | rng lo hi => obtain ⟨t, u, v, e⟩ := x; exact ⟨t, u, v, k _ _ (.inl rfl) e⟩
  | frz ob u ih => obtain ⟨e, q⟩ := x; exact ⟨k _ _ (.inl rfl) e, ih q⟩
  | tbl ps =>
    have e : h.get? a = some { cls := .none, data := .fields ps } := x
    show h'.get? a = some { cls := .none, data := .fields ps }
    exact k a _ (.inl rfl) e
  | met f y =>
    have e : h.get? a = some (PySem.W.methodObj (.ref f) (.ref y)) := x
    show h'.get? a = some (PySem.W.methodObj (.ref f) (.ref y))
    exact k a _ (.inl rfl) e
  | ext φ => obtain ⟨p, ⟨o, e⟩, st⟩ := x; exact ⟨st _ _ p fun o q => k _ _ (.inl rfl) q, ⟨o, k _ _ (.inl rfl) e⟩, st⟩
theorem HOk.lt (x : HOk P w H h) (e : H a = some o) : a < h.objs.size := (x a o e).lt
theorem HOk.fresh (x : HOk P w H h) (e : h.objs.size ≤ a) : H a = none := by
  cases q : H a with
  | none => rfl
  | some u => exact absurd (Nat.lt_of_lt_of_le (x.lt q) e) (Nat.lt_irrefl _)
theorem HOk.kept (x : HOk P w H h) (k : ∀ b u, h.get? b = some u → h'.get? b = some u) : HOk P w H h' := fun a o e =>
  (x a o e).stay (fun b u _ q => k b u q) (fun _ q => q) fun _ _ q => q
theorem HOk.laid (x : HOk P w H h) (k : ∀ b u, h.get? b = some u → h'.get? b = some u) (hp : h.objs.size ≤ a) (new : ObjOk P w (upd H a o) h' a o) : HOk P w (upd H a o) h' := fun b u e => by
  have hn := x.fresh hp
  by_cases hb : b = a
  · subst hb; rw [upd_same] at e; cases e; exact new
  · rw [upd_ne hb] at e
    exact (x b u e).stay (fun c v _ q => k c v q) (fun c q => by rw [upd_ne (ne_of_none q hn)]; exact q) fun c xs q => by rw [upd_ne (ne_of_none q hn)]; exact q
end
def Rd (H : Hp) (a : Addr) (u : HO) : Prop := H a = some u ∨ ∃ o, H a = some (.frz o u)
theorem Rd.of {H : Hp} {a : Addr} {u : HO} (h : H a = some u) : Rd H a u := .inl h
theorem Rd.ok {P : Program} {w : World} {H : Hp} {h : Heap} {a : Addr} {u : HO} (r : Rd H a u) (x : HOk P w H h) : ObjOk P w H h a u := by
  rcases r with r | ⟨o, r⟩
  · exact x a u r
  · obtain ⟨_, q⟩ := x a _ r
    exact q
def Mut : Option HO → Prop
  | some (.lst _) => True
  | some (.dK _) => True
  | some (.dT _) => True
  | some (.set _ _) => True
  | some (.ins _ _ _) => True
  | some (.ext _) => True
  | _ => False
section
variable {P : Program} {w : World} {H : Hp} {h h' : Heap} {x e : Addr} {o' : HO}
theorem HOk.write (ok : HOk P w H h) (mu : Mut (H x)) (he : e = x ∨ H e = some (.own x)) (k : ∀ b u, b ≠ e → h.get? b = some u → h'.get? b = some u) (heo : ∃ u, h'.get? e = some u)
    (new : ObjOk P w (upd H x o') h' x o') : HOk P w (upd H x o') h' := fun b u q => by
  have nown : ∀ c y, H c = some (.own y) → c ≠ x := fun c y r z => by subst z; rw [r] at mu; exact mu
  have ntup : ∀ c xs, H c = some (.tup xs) → c ≠ x := fun c xs r z => by subst z; rw [r] at mu; exact mu
  by_cases hb : b = x
  · subst hb; rw [upd_same] at q; cases q; exact new
  · rw [upd_ne hb] at q
    by_cases hbe : b = e
    · have q' : H b = some (.own x) := by
        rcases he with z | z
        · exact absurd (hbe.trans z) hb
        · rw [hbe]; exact z
      rw [q] at q'; cases q'
      obtain ⟨v, hv⟩ := heo
      exact ⟨v, by rw [hbe]; exact hv⟩
    · refine (ok b u q).stay (fun c v hc r => k c v ?_ r) (fun c r => by rw [upd_ne (nown c b r)]; exact r) fun c xs r => by rw [upd_ne (ntup c xs r)]; exact r
      rcases hc with rfl | hc
      · exact hbe
      · rintro rfl
        rcases he with z | z
        · exact nown c b hc z
        · rw [hc] at z; cases z; exact hb rfl
end
structure Un (fs ex : List Addr) (H H' : Hp) (h h' : Heap) : Prop where
  keep : ∀ b o, h.get? b = some o → H b = none → b ∉ fs → b ∉ ex → h'.get? b = some o
  slot : ∀ b o, h.get? b = some o → H b = none → b ∈ fs → b ∉ ex → ∃ sl, h'.get? b = some { o with slots := sl }
  free : ∀ b o, h.get? b = some o → H b = none → b ∉ ex → H' b = none
  there : ∀ b o, h.get? b = some o → b ∉ ex → ∃ o', h'.get? b = some o'
  tups : ∀ b xs, H b = some (.tup xs) → H' b = some (.tup xs)
  frzs : ∀ b o u, H b = some (.frz o u) → H' b = some (.frz o u)
  tbls : ∀ b ps, H b = some (.tbl ps) → ∃ more, H' b = some (.tbl (ps ++ more))
section
variable {fs fs' ex ex' : List Addr} {H H1 H2 : Hp} {h h1 h2 h' : Heap} {a x e : Addr} {o : HO}
theorem Un.any (u : Un fs ex H H1 h h1) {b : Addr} {ob : Obj} (q : h.get? b = some ob) (n : H b = none) (hx : b ∉ ex) : ∃ sl, h1.get? b = some { ob with slots := sl } := by
  by_cases hb : b ∈ fs
  · exact u.slot b ob q n hb hx
  · exact ⟨ob.slots, u.keep b ob q n hb hx⟩
theorem Un.trans (a : Un fs ex H H1 h h1) (b : Un fs ex H1 H2 h1 h2) : Un fs ex H H2 h h2 where
  keep := fun c ob q n hc hx => b.keep c ob (a.keep c ob q n hc hx) (a.free c ob q n hx) hc hx
  slot := fun c ob q n hc hx => by
    obtain ⟨sl, e1⟩ := a.slot c ob q n hc hx
    obtain ⟨sl', e2⟩ := b.slot c _ e1 (a.free c ob q n hx) hc hx
    exact ⟨sl', e2⟩
  free := fun c ob q n hx => by
    obtain ⟨o', e1⟩ := a.there c ob q hx
    exact b.free c o' e1 (a.free c ob q n hx) hx
  there := fun c ob q hx => by
    obtain ⟨o', e1⟩ := a.there c ob q hx
    exact b.there c o' e1 hx
  tups := fun c xs q => b.tups c xs (a.tups c xs q)
  frzs := fun c ob xs q => b.frzs c ob xs (a.frzs c ob xs q)
  tbls := fun c ps q => by
    obtain ⟨m1, e1⟩ := a.tbls c ps q
    obtain ⟨m2, e2⟩ := b.tbls c _ e1
    exact ⟨m1 ++ m2, by rw [e2, Array.append_assoc]⟩
theorem Un.kept (k : ∀ b u, h.get? b = some u → h'.get? b = some u) : Un fs ex H H h h' :=
  ⟨fun b ob q _ _ _ => k b ob q, fun b ob q _ _ _ => ⟨ob.slots, k b ob q⟩, fun _ _ _ n _ => n, fun b ob q _ => ⟨ob, k b ob q⟩, fun _ _ q => q, fun _ _ _ q => q, fun _ ps q => ⟨#[], by rw [q]; simp⟩⟩
theorem Un.refl : Un fs ex H H h h := Un.kept fun _ _ q => q
theorem Un.laid (k : ∀ b u, h.get? b = some u → h'.get? b = some u) (hp : h.objs.size ≤ a) (hn : H a = none) : Un fs ex H (upd H a o) h h' where
  keep := fun b u q _ _ _ => k b u q
  slot := fun b u q _ _ _ => ⟨u.slots, k b u q⟩
  free := fun b u q n _ => by rw [upd_ne (Nat.ne_of_lt (Nat.lt_of_lt_of_le (Heap.lt_size q) hp))]; exact n
  there := fun b u q _ => ⟨u, k b u q⟩
  tups := fun b xs q => by rw [upd_ne (ne_of_none q hn)]; exact q
  frzs := fun b u xs q => by rw [upd_ne (ne_of_none q hn)]; exact q
  tbls := fun b ps q => ⟨#[], by rw [upd_ne (ne_of_none q hn), q]; simp⟩
theorem Un.write (mu : Mut (H x)) (he : e = x ∨ H e = some (.own x)) (k : ∀ b u, b ≠ e → h.get? b = some u → h'.get? b = some u) (heo : ∃ u, h'.get? e = some u) : Un fs ex H (upd H x o) h h' := by
  have hx : ∀ b, H b = none → b ≠ x := fun b n z => by subst z; rw [n] at mu; exact mu
  have hb : ∀ b, H b = none → b ≠ e := fun b n z => by
    subst z
    rcases he with r | r
    · exact hx b n r
    · rw [n] at r; cases r
  have hm : ∀ b u, H b = some u → ¬ Mut (some u) → b ≠ x := fun b u q nm z => by subst z; rw [q] at mu; exact nm mu
  refine ⟨fun b u q n _ _ => k b u (hb b n) q, fun b u q n _ _ => ⟨u.slots, k b u (hb b n) q⟩, fun b u q n _ => by rw [upd_ne (hx b n)]; exact n, fun b u q _ => ?_,
    fun b xs q => by rw [upd_ne (hm b _ q fun z => z)]; exact q, fun b u xs q => by rw [upd_ne (hm b _ q fun z => z)]; exact q, fun b ps q => ⟨#[], by rw [upd_ne (hm b _ q fun z => z), q]; simp⟩⟩
  by_cases hbe : b = e
  · subst hbe; exact heo
  · exact ⟨u, k b u hbe q⟩
end
def trk (h : Heap) (H : Hp) : List Addr := (List.range h.objs.size).filter fun a => (H a).isSome
def hidT (h : Heap) (H : Hp) : Heap := PySem.W.hideAll h (trk h H)
theorem hidT_size (h : Heap) (H : Hp) : (hidT h H).objs.size = h.objs.size := PySem.W.hideAll_size _ _
theorem hidT_get {h : Heap} {H : Hp} {b : Addr} {o : Obj} (e : h.get? b = some o) (n : H b = none) : (hidT h H).get? b = some o :=
  PySem.W.hideAll_get _ e fun hm => by
    have q : (H b).isSome = true := (List.mem_filter.mp hm).2
    rw [n] at q; simp at q
theorem of_hidT {h : Heap} {H : Hp} {b : Addr} {o : Obj} (e : (hidT h H).get? b = some o) : h.get? b = some o ∧ H b = none := by
  have e' : h.get? b = some o := PySem.W.of_hideAll (trk h H) e
  refine ⟨e', ?_⟩
  cases q : H b with
  | none => rfl
  | some x =>
    have hm : b ∈ trk h H := List.mem_filter.mpr ⟨List.mem_range.mpr (Heap.lt_size e'), by simp [q]⟩
    have z : (hidT h H).get? b = none := PySem.W.hideAll_none (trk h H) hm
    rw [z] at e; cases e
def allNews (g h : Heap) (L : Addr) : List (Addr × Obj) := (List.range h.objs.size).filterMap fun a => if a = L ∨ (g.get? a).isSome = true then none else (h.get? a).map fun o => (a, o)
def rest (g h : Heap) (L d : Addr) : List (Addr × Obj) := (allNews g h L).filter fun p => decide (p.1 ≠ d)
end L2
namespace L2
open PySem PySem.Spec PyProof.Rows
structure Mod (K : PySem.W.Frag) (mg : Str → Option Value) (base : Heap) : Prop where
  kin : K.In base
  glob : base.Ns mainGlobals mg
  blt : ∃ mb, base.Ns builtinsNs mb ∧ ∀ x : Str, x ≠ "__name__" → mb x = bootBuiltins x
  nolimit : base.NoLimit
structure Cx where
  prog : Program
  w : World
  K : PySem.W.Frag
  mg : Str → Option Value
  base : Heap
  A : Around
  N : List Str
  s₀ : Shared
  H₀ : Hp
  env : Env
  outer : List Env
  stack : List Env
  ex : List Addr
  fn : Str → Bool
  calm : Bool
  pn : List (Addr × Obj)
  xe : Value → Shared → Prop
def frs (l : List Env) : List Addr := l.filterMap (·.frame)
abbrev Cx.fs (X : Cx) : List Addr := frs X.outer
def Vis (sc : Scope) (x : Str) : Prop := sc.names.lookup x = some .local ∨ sc.names.lookup x = some .cell ∨ sc.names.lookup x = some .free
def Loc (sc : Scope) (x : Str) : Prop := sc.names.lookup x = some .local ∨ sc.names.lookup x = some .cell
def Look (env : Env) (h : Heap) (m : Str → Option Value) (x : Str) (u : Value) : Prop :=
  (env.kindOf x = some .local ∧ m x = some u) ∨ ((env.kindOf x = some .cell ∨ env.kindOf x = some .free) ∧ ∃ c, env.cells.lookup x = some c ∧ h.IsCell c (some u))
structure Cx.Ok (X : Cx) : Prop where
  mod : Mod X.K X.mg X.base
  kind : X.env.scope.kind = .function
  glob : X.env.globals = mainGlobals
  blt : X.env.builtins = builtinsNs
  above : X.s₀.heap.objs.size ≤ X.env.locals
  inj : ∀ x y c, X.env.cells.lookup x = some c → X.env.cells.lookup y = some c → x = y
  has : ∀ x, (X.env.kindOf x = some .cell ∨ X.env.kindOf x = some .free) → ∃ c, X.env.cells.lookup x = some c
  cab : ∀ x c, X.fn x = true → X.env.cells.lookup x = some c → X.s₀.heap.objs.size ≤ c
  hd : X.calm = true → X.A.handled = none
  frames : X.A.frames = some X.stack
  stk : X.stack = X.outer ∨ (X.stack = X.env :: X.outer ∧ X.env.frame = some X.env.locals)
  exf : ∀ b ∈ X.ex, b ≠ X.env.locals ∧ ∀ x c, X.env.cells.lookup x = some c → c ≠ b
  bs : ∀ b o, X.base.get? b = some o → X.s₀.heap.get? b = some o ∧ X.H₀ b = none
  bsz : X.base.objs.size ≤ X.s₀.heap.objs.size
  noex : ∀ b o, X.base.get? b = some o → b ∉ X.ex
  exfs : ∀ b ∈ X.ex, b ∉ X.fs
  funs : X.s₀.heap.FunFrames X.base X.outer
  frf : ∀ b ∈ X.fs, X.H₀ b = none
structure Inv (X : Cx) (pins : List (Addr × Obj)) (σ : List (Option V)) (H : Hp) (s : Shared) : Prop where
  ok : X.Ok
  os : s.os = X.s₀.os
  bare : AllBare s.gens
  base : Un X.fs X.ex X.H₀ H X.s₀.heap s.heap
  loc : ∃ m, s.heap.Ns X.env.locals m ∧ ∀ (i : Nat) (x : Str) (v : V), X.N[i]? = some x → σ[i]? = some (some v) → Vis X.env.scope x → ∃ u, RelV v u ∧ Look X.env s.heap m x u
  cell : ∀ x c, X.env.cells.lookup x = some c → ∃ v, s.heap.IsCell c v
  free : H X.env.locals = none
  freeC : ∀ x c, X.env.cells.lookup x = some c → H c = none
  pin : ∀ p ∈ X.pn ++ pins, s.heap.get? p.1 = some p.2 ∧ H p.1 = none ∧ p.1 ≠ X.env.locals ∧ p.1 ∉ X.fs ∧ ∀ v, p.2.data ≠ .cell v
  hok : HOk X.prog X.w H s.heap
  len : σ.length = X.N.length
section
variable {X : Cx} {pins : List (Addr × Obj)} {σ : List (Option V)} {H H' : Hp} {s : Shared} {h' : Heap}
theorem Cx.Ok.nofr (ok : X.Ok) {b : Addr} {o : Obj} (e : X.base.get? b = some o) : b ∉ X.fs := fun hb => by
  have := (ok.funs.mem hb).1
  rw [e] at this; cases this
theorem Inv.bs (I : Inv X pins σ H s) : ∀ b o, X.base.get? b = some o → s.heap.get? b = some o ∧ H b = none := fun b o e =>
  ⟨I.base.keep b o (I.ok.bs b o e).1 (I.ok.bs b o e).2 (I.ok.nofr e) (I.ok.noex b o e), I.base.free b o (I.ok.bs b o e).1 (I.ok.bs b o e).2 (I.ok.noex b o e)⟩
theorem Inv.bk (I : Inv X pins σ H s) : ∀ b o, X.base.get? b = some o → s.heap.get? b = some o := fun b o e => (I.bs b o e).1
theorem Inv.mod (I : Inv X pins σ H s) : Mod X.K X.mg X.base := I.ok.mod
theorem Inv.kIn (I : Inv X pins σ H s) : X.K.In s.heap := I.ok.mod.kin.keeps I.bk
theorem Inv.fr (I : Inv X pins σ H s) : ∃ m, Fr X.base X.env.locals s.heap m :=
  let ⟨m, hn, _⟩ := I.loc
  ⟨m, hn, I.bk, Nat.le_trans I.ok.bsz I.ok.above⟩
theorem Inv.lt (I : Inv X pins σ H s) : X.env.locals < s.heap.objs.size := let ⟨_, hn, _⟩ := I.loc; hn.lt
theorem Inv.sz (I : Inv X pins σ H s) : X.s₀.heap.objs.size ≤ s.heap.objs.size := Nat.le_trans I.ok.above (Nat.le_of_lt I.lt)
theorem Inv.nofs (I : Inv X pins σ H s) {a : Addr} (h : s.heap.objs.size ≤ a) : a ∉ X.fs := fun hb => by
  obtain ⟨_, o, ho, _⟩ := I.ok.funs.mem hb
  exact absurd (Nat.lt_of_lt_of_le (Heap.lt_size ho) (Nat.le_trans I.sz h)) (Nat.lt_irrefl _)
theorem Inv.cne (I : Inv X pins σ H s) : ∀ x c, X.env.cells.lookup x = some c → c ≠ X.env.locals := fun x c e z => by
  obtain ⟨v, o, ho, hd⟩ := I.cell x c e
  obtain ⟨m, ⟨o', es, ep, ho', hd', _⟩, _⟩ := I.loc
  rw [z, ho'] at ho; cases ho; rw [hd'] at hd; cases hd
theorem Inv.funs (I : Inv X pins σ H s) : s.heap.FunFrames X.base X.outer := by
  have all : ∀ (l : List Env), (∀ b ∈ frs l, b ∈ X.fs) → X.s₀.heap.FunFrames X.base l → s.heap.FunFrames X.base l := by
    intro l
    induction l with
    | nil => intro _ _; trivial
    | cons env r ih =>
      intro hs hl
      obtain ⟨hk, ⟨L, o, hf, hn, ho, hd⟩, hr⟩ := hl
      have hL : L ∈ X.fs := hs L (by unfold frs; rw [List.filterMap_cons, hf]; exact List.mem_cons_self)
      obtain ⟨sl, e⟩ := I.base.slot L o ho (I.ok.frf L hL) hL fun z => I.ok.exfs L z hL
      exact ⟨hk, ⟨L, _, hf, hn, e, hd⟩, ih (fun b hb => hs b (by unfold frs; rw [List.filterMap_cons, hf]; exact List.mem_cons_of_mem _ hb)) hr⟩
  exact all X.outer (fun _ hb => hb) I.ok.funs
theorem Inv.stack (I : Inv X pins σ H s) : s.heap.FunFrames X.base X.stack := by
  rcases I.ok.stk with e | ⟨e, hf⟩
  · rw [e]; exact I.funs
  · rw [e]
    obtain ⟨m, hn, _⟩ := I.loc
    refine .cons (by rw [I.ok.kind]; decide) hf hn ?_ I.funs
    exact Heap.get?_none_of_le (Nat.le_trans I.ok.bsz I.ok.above)
theorem Inv.stkSub (I : Inv X pins σ H s) : ∀ b ∈ frs X.stack, b ∈ X.env.locals :: X.fs := fun b hb => by
  rcases I.ok.stk with e | ⟨e, hf⟩
  · rw [e] at hb; exact List.mem_cons_of_mem _ hb
  · rw [e] at hb
    unfold frs at hb
    rw [List.filterMap_cons, hf] at hb
    exact hb
theorem Inv.stkFree (I : Inv X pins σ H s) : ∀ b ∈ frs X.stack, H b = none := fun b hb => by
  rcases List.mem_cons.mp (I.stkSub b hb) with e | hb
  · rw [e]; exact I.free
  · obtain ⟨_, o, ho, _⟩ := I.ok.funs.mem hb
    exact I.base.free b o ho (I.ok.frf b hb) fun z => I.ok.exfs b z hb
theorem Inv.step {g' : Array GenState} {t' : Nat} {d' : Drawn} {ch : List Addr} (I : Inv X pins σ H s)
    (hch : ∀ b ∈ ch, (b ∈ X.ex ∨ X.s₀.heap.objs.size ≤ b) ∧ b ≠ X.env.locals ∧ (∀ x c, X.env.cells.lookup x = some c → c ≠ b) ∧ ∀ p ∈ X.pn ++ pins, p.1 ≠ b)
    (keep : ∀ b o, b ≠ X.env.locals → b ∉ X.fs → b ∉ ch → s.heap.get? b = some o → H b = none → h'.get? b = some o)
    (slot : ∀ b o, b ≠ X.env.locals → b ∈ X.fs → b ∉ ch → s.heap.get? b = some o → H b = none → ∃ sl, h'.get? b = some { o with slots := sl }) (free : ∀ b o, b ∉ ch → s.heap.get? b = some o → H b = none → H' b = none)
    (there : ∀ b o, b ∉ ch → s.heap.get? b = some o → ∃ o', h'.get? b = some o')
    (tups : ∀ b xs, H b = some (.tup xs) → H' b = some (.tup xs)) (frzs : ∀ b o u, H b = some (.frz o u) → H' b = some (.frz o u)) (tbls : ∀ b ps, H b = some (.tbl ps) → ∃ more, H' b = some (.tbl (ps ++ more)))
    (ns : ∀ m, s.heap.Ns X.env.locals m → h'.Ns X.env.locals m) (hok : HOk X.prog X.w H' h') (hg : AllBare g') :
    Inv X pins σ H' { s with heap := h', gens := g', drawn := d', toks := t' } := by
  have neL : ∀ b o, X.s₀.heap.get? b = some o → b ≠ X.env.locals := fun b o e => Nat.ne_of_lt (Nat.lt_of_lt_of_le (Heap.lt_size e) I.ok.above)
  have neC : ∀ b o, X.s₀.heap.get? b = some o → b ∉ X.ex → b ∉ ch := fun b o e hx hb => by
    rcases (hch b hb).1 with z | z
    · exact hx z
    · exact absurd (Nat.lt_of_lt_of_le (Heap.lt_size e) z) (Nat.lt_irrefl _)
  have cellK : ∀ x c, X.env.cells.lookup x = some c → ∀ v, s.heap.IsCell c v → h'.IsCell c v := fun x c e v ⟨o, ho, hd⟩ => by
    have nch : c ∉ ch := fun z => (hch c z).2.2.1 x c e rfl
    by_cases hc : c ∈ X.fs
    · obtain ⟨sl, q⟩ := slot c o (I.cne x c e) hc nch ho (I.freeC x c e)
      exact ⟨_, q, hd⟩
    · exact ⟨o, keep c o (I.cne x c e) hc nch ho (I.freeC x c e), hd⟩
  refine ⟨I.ok, I.os, hg, ⟨fun b o e n hb hx => ?_, fun b o e n hb hx => ?_, fun b o e n hx => ?_, fun b o e hx => ?_, fun b xs e => tups b xs (I.base.tups b xs e), fun b o xs e => frzs b o xs (I.base.frzs b o xs e), fun b ps e => ?_⟩, ?_, fun x c e => ?_, ?_, fun x c e => ?_, fun p hp => ?_, hok, I.len⟩
  · exact keep b o (neL b o e) hb (neC b o e hx) (I.base.keep b o e n hb hx) (I.base.free b o e n hx)
  · obtain ⟨sl, e1⟩ := I.base.slot b o e n hb hx
    obtain ⟨sl', e2⟩ := slot b _ (neL b o e) hb (neC b o e hx) e1 (I.base.free b o e n hx)
    exact ⟨sl', e2⟩
  · obtain ⟨o', e1⟩ := I.base.there b o e hx
    exact free b o' (neC b o e hx) e1 (I.base.free b o e n hx)
  · obtain ⟨o', e1⟩ := I.base.there b o e hx
    exact there b o' (neC b o e hx) e1
  · obtain ⟨m1, e1⟩ := I.base.tbls b ps e
    obtain ⟨m2, e2⟩ := tbls b _ e1
    exact ⟨m1 ++ m2, by rw [e2, Array.append_assoc]⟩
  · obtain ⟨m, hn, hl⟩ := I.loc
    refine ⟨m, ns m hn, fun i x v e1 e2 e3 => ?_⟩
    obtain ⟨u, r, l⟩ := hl i x v e1 e2 e3
    refine ⟨u, r, ?_⟩
    rcases l with l | ⟨k, c, e, z⟩
    · exact .inl l
    · exact .inr ⟨k, c, e, cellK x c e _ z⟩
  · obtain ⟨v, z⟩ := I.cell x c e
    exact ⟨v, cellK x c e v z⟩
  · obtain ⟨m, ⟨o, _, _, ho, _⟩, _⟩ := I.loc
    exact free _ o (fun z => (hch _ z).2.1 rfl) ho I.free
  · obtain ⟨v, o, ho, hd⟩ := I.cell x c e
    exact free c o (fun z => (hch c z).2.2.1 x c e rfl) ho (I.freeC x c e)
  · obtain ⟨e, n, ne, nf, d⟩ := I.pin p hp
    have nch : p.1 ∉ ch := fun z => (hch p.1 z).2.2.2 p hp rfl
    exact ⟨keep p.1 p.2 ne nf nch e n, free p.1 p.2 nch e n, ne, nf, d⟩
theorem Inv.un {t' : Nat} (I : Inv X pins σ H s) (u : Un X.fs [] H H' s.heap h') (hok : HOk X.prog X.w H' h') : Inv X pins σ H' { s with heap := h', toks := t' } := by
  obtain ⟨m, ⟨o, es, ep, ho, r⟩, _⟩ := id I.loc
  obtain ⟨sl, hL⟩ := u.any ho I.free (by simp)
  exact I.step (g' := s.gens) (d' := s.drawn) (ch := []) (fun _ z => nomatch z) (fun b o _ hb _ e n => u.keep b o e n hb (by simp)) (fun b o _ hb _ e n => u.slot b o e n hb (by simp)) (fun b o _ e n => u.free b o e n (by simp)) (fun b o _ e => u.there b o e (by simp)) u.tups u.frzs u.tbls (fun m' hm => by
    obtain ⟨o', es', ep', ho', r'⟩ := hm
    rw [ho] at ho'; cases ho'
    exact ⟨_, es', ep', hL, r'⟩) hok I.bare
theorem Inv.call {g' : Array GenState} {t' : Nat} {d' : Drawn} {ch : List Addr} (I : Inv X pins σ H s) (u : Un (frs X.stack) ch H H' s.heap h') (hok : HOk X.prog X.w H' h') (hg : AllBare g')
    (hch : ∀ b ∈ ch, (b ∈ X.ex ∨ X.s₀.heap.objs.size ≤ b) ∧ b ≠ X.env.locals ∧ (∀ x c, X.env.cells.lookup x = some c → c ≠ b) ∧ ∀ p ∈ X.pn ++ pins, p.1 ≠ b) :
    Inv X pins σ H' { s with heap := h', gens := g', drawn := d', toks := t' } := by
  obtain ⟨m, ⟨o, es, ep, ho, r⟩, _⟩ := id I.loc
  obtain ⟨sl, hL⟩ := u.any ho I.free fun z => (hch _ z).2.1 rfl
  exact I.step (ch := ch) hch (fun b o hL hb hc e n => u.keep b o e n (fun z => (List.mem_cons.mp (I.stkSub b z)).elim hL hb) hc) (fun b o _ _ hc e n => u.any e n hc) (fun b o hc e n => u.free b o e n hc) (fun b o hc e => u.there b o e hc) u.tups u.frzs u.tbls (fun m' hm => by
    obtain ⟨o', es', ep', ho', r'⟩ := hm
    rw [ho] at ho'; cases ho'
    exact ⟨_, es', ep', hL, r'⟩) hok hg
theorem Inv.turned {t' : Nat} {it : Addr} (I : Inv X pins σ H s) (k : ∀ b o, b ≠ it → s.heap.get? b = some o → h'.get? b = some o) (hn : H it = none) (hL : it ≠ X.env.locals)
    (h1 : it ∈ X.ex ∨ X.s₀.heap.objs.size ≤ it) (h2 : ∀ x c, X.env.cells.lookup x = some c → c ≠ it) (h3 : ∀ p ∈ X.pn ++ pins, p.1 ≠ it) : Inv X pins σ H { s with heap := h', toks := t' } := by
  have nit : ∀ b u, H b = some u → b ≠ it := fun b u e z => by rw [z, hn] at e; cases e
  refine I.step (g' := s.gens) (d' := s.drawn) (ch := [it]) (fun b hb => ?_) (fun b o _ _ hc e _ => k b o (fun z => hc (by simp [z])) e) (fun b o _ _ hc e _ => ⟨o.slots, k b o (fun z => hc (by simp [z])) e⟩) (fun _ _ _ _ n => n)
    (fun b o hc e => ⟨o, k b o (fun z => hc (by simp [z])) e⟩) (fun _ _ e => e) (fun _ _ _ e => e) (fun b ps e => ⟨#[], by rw [e]; simp⟩) (fun m hm => ?_) (fun b u e => ?_) I.bare
  · have e : b = it := by simpa using hb
    subst e
    exact ⟨h1, hL, h2, h3⟩
  · obtain ⟨o, es, ep, ho, r⟩ := hm
    exact ⟨o, es, ep, k _ o (Ne.symm hL) ho, r⟩
  · refine (I.hok b u e).stay (fun c v hc q => k c v ?_ q) (fun _ q => q) fun _ _ q => q
    rcases hc with z | z
    · rw [z]; exact nit b u e
    · exact nit c _ z
theorem Inv.tok (I : Inv X pins σ H s) (t : Nat) : Inv X pins σ H { s with toks := t } := I.un (h' := s.heap) (t' := t) Un.refl I.hok
theorem Inv.kept {t' : Nat} (I : Inv X pins σ H s) (k : ∀ b u, s.heap.get? b = some u → h'.get? b = some u) : Inv X pins σ H { s with heap := h', toks := t' } := I.un (Un.kept k) (I.hok.kept k)
theorem Inv.laid {a : Addr} {o : HO} {t' : Nat} (I : Inv X pins σ H s) (k : ∀ b u, s.heap.get? b = some u → h'.get? b = some u) (hp : s.heap.objs.size ≤ a) (new : ObjOk X.prog X.w (upd H a o) h' a o) :
    Inv X pins σ (upd H a o) { s with heap := h', toks := t' } := I.un (Un.laid k hp (I.hok.fresh hp)) (I.hok.laid k hp new)
theorem Inv.write {x e : Addr} {o : HO} {t' : Nat} (I : Inv X pins σ H s) (mu : Mut (H x)) (he : e = x ∨ H e = some (.own x)) (k : ∀ b u, b ≠ e → s.heap.get? b = some u → h'.get? b = some u) (heo : ∃ u, h'.get? e = some u)
    (new : ObjOk X.prog X.w (upd H x o) h' x o) : Inv X pins σ (upd H x o) { s with heap := h', toks := t' } := I.un (Un.write mu he k heo) (I.hok.write mu he k heo new)
theorem Inv.weak {σ' : List (Option V)} (I : Inv X pins σ H s) (hl : σ'.length = σ.length) (w : ∀ (i : Nat) v, σ'[i]? = some (some v) → σ[i]? = some (some v)) : Inv X pins σ' H s :=
  ⟨I.ok, I.os, I.bare, I.base, let ⟨m, hn, hl'⟩ := I.loc; ⟨m, hn, fun i x v e1 e2 e3 => hl' i x v e1 (w i v e2) e3⟩, I.cell, I.free, I.freeC, I.pin, I.hok, hl.trans I.len⟩
theorem Inv.pins_of {pins' : List (Addr × Obj)} (I : Inv X pins σ H s) (h : ∀ p ∈ pins', s.heap.get? p.1 = some p.2 ∧ H p.1 = none ∧ p.1 ≠ X.env.locals ∧ p.1 ∉ X.fs ∧ ∀ v, p.2.data ≠ .cell v) : Inv X pins' σ H s :=
  ⟨I.ok, I.os, I.bare, I.base, I.loc, I.cell, I.free, I.freeC, fun p hp => (List.mem_append.mp hp).elim (fun z => I.pin p (List.mem_append_left _ z)) (h p), I.hok, I.len⟩
theorem nodup_ix {N : List Str} (hN : N.Nodup) {i j : Nat} {x : Str} (a : N[i]? = some x) (b : N[j]? = some x) : i = j := by
  obtain ⟨h1, e1⟩ := List.getElem?_eq_some_iff.mp a
  obtain ⟨h2, e2⟩ := List.getElem?_eq_some_iff.mp b
  exact (List.getElem_inj hN).mp (e1.trans e2.symm)
theorem store_ok2 {M : Model} {A : Around} {E : Value → Shared → Prop} {i : Nat} {x : Str} {v : V} {u : Value} {Q : Unit → Shared → Prop} (I : Inv X pins σ H s) (hN : X.N.Nodup) (hi : X.N[i]? = some x) (hx : Loc X.env.scope x) (r : RelV v u)
    (h : ∀ s', Inv X pins (σ.set i (some v)) H s' → (∃ a, Heap.SameBut a s.heap s'.heap ∧ (a = X.env.locals ∨ X.env.cells.lookup x = some a)) → Q () s') (hf : X.fn x = true ∨ X.env.scope.names.lookup x = some .local := by first | exact .inl rfl | exact .inr rfl | assumption) : wpAny M A (storeName X.env x u) Q E s := by
  obtain ⟨m, hn, hl⟩ := id I.loc
  have hcls : (X.env.scope.kind == .class || (X.env.scope.kind == .module && X.env.locals != X.env.globals)) = false := by rw [I.ok.kind]; rfl
  have hiσ : i < σ.length := by rw [I.len]; exact (List.getElem?_eq_some_iff.mp hi).1
  have cne := I.cne
  have tracked : ∀ {a : Addr} {h' : Heap}, (∃ o, s.heap.get? a = some o ∧ H a = none) → Heap.SameBut a s.heap h' → HOk X.prog X.w H h' := fun {a h'} ha hs b ob e => by
    obtain ⟨_, _, hfree⟩ := ha
    refine (I.hok b ob e).stay (fun c w' hc q => (hs.2 c ?_).trans q) (fun _ q => q) fun _ _ q => q
    rintro rfl
    rcases hc with rfl | hc
    · rw [hfree] at e; cases e
    · rw [hfree] at hc; cases hc
  rcases hx with hk | hk
  · refine wpAny_storeName_local hk hn (fun h' hn' hs => ?_) hcls
    obtain ⟨oL, _, _, hoL, _⟩ := id hn
    refine h _ ⟨I.ok, I.os, I.bare, ⟨fun b o e n hb hx => ?_, fun b o e n hb hx => ?_, I.base.free, fun b o e hx => ?_, I.base.tups, I.base.frzs, I.base.tbls⟩, ⟨_, hn', fun j y v' e1 e2 e3 => ?_⟩, fun y c e => ?_, I.free, I.freeC, fun p hp => ?_, tracked ⟨oL, hoL, I.free⟩ hs, by simpa using I.len⟩ ⟨_, hs, .inl rfl⟩
    · exact (hs.2 b (Nat.ne_of_lt (Nat.lt_of_lt_of_le (Heap.lt_size e) I.ok.above))).trans (I.base.keep b o e n hb hx)
    · obtain ⟨sl, e1⟩ := I.base.slot b o e n hb hx
      exact ⟨sl, (hs.2 b (Nat.ne_of_lt (Nat.lt_of_lt_of_le (Heap.lt_size e) I.ok.above))).trans e1⟩
    · obtain ⟨o', e1⟩ := I.base.there b o e hx
      exact ⟨o', (hs.2 b (Nat.ne_of_lt (Nat.lt_of_lt_of_le (Heap.lt_size e) I.ok.above))).trans e1⟩
    · by_cases hj : j = i
      · subst hj
        rw [hi] at e1; cases e1
        rw [List.getElem?_set_self hiσ] at e2
        cases e2
        exact ⟨u, r, .inl ⟨hk, by simp⟩⟩
      · rw [List.getElem?_set_ne (Ne.symm hj)] at e2
        obtain ⟨u', r', q⟩ := hl j y v' e1 e2 e3
        refine ⟨u', r', ?_⟩
        rcases q with ⟨k, e⟩ | ⟨k, c, e, z⟩
        · refine .inl ⟨k, ?_⟩
          have : y ≠ x := fun e => hj (nodup_ix hN e1 (e ▸ hi))
          simp [this, e]
        · exact .inr ⟨k, c, e, z.sameBut hs (cne y c e)⟩
    · obtain ⟨w', z⟩ := I.cell y c e
      exact ⟨w', z.sameBut hs (cne y c e)⟩
    · obtain ⟨e, n, ne, nf, d⟩ := I.pin p hp
      exact ⟨(hs.2 p.1 ne).trans e, n, ne, nf, d⟩
  · have hfn : X.fn x = true := by
      rcases hf with z | z
      · exact z
      · rw [z] at hk; cases hk
    obtain ⟨c, hc⟩ := I.ok.has x (.inl hk)
    obtain ⟨w', z⟩ := I.cell x c hc
    refine wpAny_storeName_cell I.ok.kind hk hc z (fun h' hc' hs => ?_)
    obtain ⟨oc, hoc, hocd⟩ := id z
    refine h { s with heap := h' } ⟨I.ok, I.os, I.bare, ⟨fun b o e n hb hx => ?_, fun b o e n hb hx => ?_, I.base.free, fun b o e hx => ?_, I.base.tups, I.base.frzs, I.base.tbls⟩, ⟨m, hn.sameBut hs (Ne.symm (cne x c hc)), fun j y v' e1 e2 e3 => ?_⟩, fun y c' e => ?_, I.free, I.freeC, fun p hp => ?_, tracked ⟨oc, hoc, I.freeC x c hc⟩ hs, by simpa using I.len⟩ ⟨c, hs, .inr hc⟩
    · exact (hs.2 b (Nat.ne_of_lt (Nat.lt_of_lt_of_le (Heap.lt_size e) (I.ok.cab x c hfn hc)))).trans (I.base.keep b o e n hb hx)
    · obtain ⟨sl, e1⟩ := I.base.slot b o e n hb hx
      exact ⟨sl, (hs.2 b (Nat.ne_of_lt (Nat.lt_of_lt_of_le (Heap.lt_size e) (I.ok.cab x c hfn hc)))).trans e1⟩
    · obtain ⟨o', e1⟩ := I.base.there b o e hx
      exact ⟨o', (hs.2 b (Nat.ne_of_lt (Nat.lt_of_lt_of_le (Heap.lt_size e) (I.ok.cab x c hfn hc)))).trans e1⟩
    · by_cases hj : j = i
      · subst hj
        rw [hi] at e1; cases e1
        rw [List.getElem?_set_self hiσ] at e2
        cases e2
        exact ⟨u, r, .inr ⟨.inl hk, c, hc, hc'⟩⟩
      · rw [List.getElem?_set_ne (Ne.symm hj)] at e2
        obtain ⟨u', r', q⟩ := hl j y v' e1 e2 e3
        refine ⟨u', r', ?_⟩
        rcases q with q | ⟨k, c', e, z'⟩
        · exact .inl q
        · refine .inr ⟨k, c', e, z'.sameBut hs ?_⟩
          rintro rfl
          exact hj (nodup_ix hN e1 (I.ok.inj _ _ _ e hc ▸ hi))
    · by_cases hcc : c' = c
      · subst hcc; exact ⟨_, hc'⟩
      · obtain ⟨w2, z2⟩ := I.cell y c' e
        exact ⟨w2, z2.sameBut hs hcc⟩
    · obtain ⟨e, n, ne, nf, d⟩ := I.pin p hp
      refine ⟨(hs.2 p.1 ?_).trans e, n, ne, nf, d⟩
      intro q
      rw [q, hoc] at e
      have q' : oc = p.2 := Option.some.inj e
      exact d w' (by rw [← q']; exact hocd)
theorem store_ok {M : Model} {A : Around} {E : Value → Shared → Prop} {i : Nat} {x : Str} {v : V} {u : Value} {Q : Unit → Shared → Prop} (I : Inv X pins σ H s) (hN : X.N.Nodup) (hi : X.N[i]? = some x) (hx : Loc X.env.scope x) (r : RelV v u)
    (h : ∀ s', Inv X pins (σ.set i (some v)) H s' → Q () s') (hf : X.fn x = true ∨ X.env.scope.names.lookup x = some .local := by first | exact .inl rfl | exact .inr rfl | assumption) : wpAny M A (storeName X.env x u) Q E s :=
  store_ok2 I hN hi hx r (fun s' I' _ => h s' I') hf
theorem Inv.call' {s' : Shared} {ch : List Addr} (I : Inv X pins σ H s) (ho : s'.os = s.os) (u : Un (frs X.stack) ch H H' s.heap s'.heap) (hok : HOk X.prog X.w H' s'.heap) (hg : AllBare s'.gens)
    (hch : ∀ b ∈ ch, (b ∈ X.ex ∨ X.s₀.heap.objs.size ≤ b) ∧ b ≠ X.env.locals ∧ (∀ x c, X.env.cells.lookup x = some c → c ≠ b) ∧ ∀ p ∈ X.pn ++ pins, p.1 ≠ b) : Inv X pins σ H' s' := by
  obtain ⟨h', g', d', t', o'⟩ := s'
  have e : o' = s.os := ho
  subst e
  exact I.call (g' := g') (t' := t') (d' := d') u hok hg hch
end
abbrev XK := Value → Option Addr → Hp → Prop
abbrev St := List (Option V)
abbrev VK := V → Hp → Prop
abbrev TE := St → Hp → VK → Prop
abbrev TT := St → Hp → (Bool → Hp → Prop) → Prop
abbrev TA := St → Hp → (List V → Hp → Prop) → Prop
structure Ends where
  nx : St → Hp → Prop
  rt : VK
  bk : St → Hp → Prop := fun _ _ => False
  ct : St → Hp → Prop := fun _ _ => False
abbrev TS := Ends → St → Hp → Prop
def EP (X : Cx) (pins : List (Addr × Obj)) (σ : St) (Q : VK) (u : Value) (s' : Shared) : Prop := ∃ v H', Inv X pins σ H' s' ∧ RelV v u ∧ Q v H'
def TP (X : Cx) (pins : List (Addr × Obj)) (σ : St) (Q : Bool → Hp → Prop) (b : Bool) (s' : Shared) : Prop := ∃ H', Inv X pins σ H' s' ∧ Q b H'
def AP (X : Cx) (pins : List (Addr × Obj)) (σ : St) (Q : List V → Hp → Prop) (us : List Value) (s' : Shared) : Prop := ∃ vs H', Inv X pins σ H' s' ∧ Vals vs us ∧ Q vs H'
def SP (X : Cx) (pins : List (Addr × Obj)) (D : Ends) (f : Flow) (s' : Shared) : Prop :=
  match f with
  | .next => ∃ σ' H', Inv X pins σ' H' s' ∧ D.nx σ' H'
  | .brk => ∃ σ' H', Inv X pins σ' H' s' ∧ D.bk σ' H'
  | .cont => ∃ σ' H', Inv X pins σ' H' s' ∧ D.ct σ' H'
  | .ret u => ∃ v σ' H', Inv X pins σ' H' s' ∧ RelV v u ∧ D.rt v H'
def PE (X : Cx) (e : Expr) (t : TE) : Prop :=
  ∀ (pins : List (Addr × Obj)) (s : Shared) (σ : St) (H : Hp) (Q : VK), Inv X pins σ H s → t σ H Q → wpAny (model X.prog X.w) X.A (eval e X.env) (EP X pins σ Q) X.xe s
def PT (X : Cx) (e : Expr) (t : TT) : Prop :=
  ∀ (pins : List (Addr × Obj)) (s : Shared) (σ : St) (H : Hp) (Q : Bool → Hp → Prop), Inv X pins σ H s → t σ H Q → wpAny (model X.prog X.w) X.A (isTrue e X.env (eval e X.env)) (TP X pins σ Q) X.xe s
def PW (X : Cx) (e : Expr) (t : TT) : Prop :=
  ∀ (whole : Sem Value) (pins : List (Addr × Obj)) (s : Shared) (σ : St) (H : Hp) (Q : Bool → Hp → Prop), Inv X pins σ H s → t σ H Q → wpAny (model X.prog X.w) X.A (isTrue e X.env whole) (TP X pins σ Q) X.xe s
theorem PW.pt {X : Cx} {e : Expr} {t : TT} (h : PW X e t) : PT X e t := h _
def PA (X : Cx) (es : List Expr) (t : TA) : Prop :=
  ∀ (pos : Pos) (pins : List (Addr × Obj)) (s : Shared) (σ : St) (H : Hp) (Q : List V → Hp → Prop), Inv X pins σ H s → t σ H Q → wpAny (model X.prog X.w) X.A (spliced (backTo pos (starEach es X.env))) (AP X pins σ Q) X.xe s
def PS (X : Cx) (st : Stmt) (t : TS) : Prop :=
  ∀ (pins : List (Addr × Obj)) (s : Shared) (σ : St) (H : Hp) (D : Ends), Inv X pins σ H s → t D σ H → wpAny (model X.prog X.w) X.A (exec st X.env) (SP X pins D) X.xe s
def PSs (X : Cx) (st : List Stmt) (t : TS) : Prop :=
  ∀ (pins : List (Addr × Obj)) (s : Shared) (σ : St) (H : Hp) (D : Ends), Inv X pins σ H s → t D σ H → wpAny (model X.prog X.w) X.A (execs st X.env) (SP X pins D) X.xe s
theorem thn {α : Type} {t : Sem α} {Q Q' : α → Shared → Prop} {M : Model} {A : Around} {E : Value → Shared → Prop} {s : Shared} (h : wpAny M A t Q E s) (hQ : ∀ a s, Q a s → Q' a s) : wpAny M A t Q' E s := wpAny_mono h hQ fun _ _ x => x
end L2
namespace L2
open PySem PySem.Spec PyProof.Rows
section
variable {X : Cx}
def tVar (i : Nat) : TE := fun σ H Q => ∃ v, σ[i]? = some (some v) ∧ Q v H
def tC (v : V) : TE := fun _ H Q => Q v H
theorem pe_var {i : Nat} {x : Str} {pos : Pos} (hN : X.N[i]? = some x) (hv : Vis X.env.scope x) (hd : (x == ("__debug__" : Str)) = false := by decide) (hcd : (x == ("__classdict__" : Str)) = false := by decide) : PE X (.Name x pos) (tVar i) := by
  intro pins s σ H Q I h
  obtain ⟨v, e, h⟩ := h
  obtain ⟨m, hn, hl⟩ := I.loc
  obtain ⟨u, r, l⟩ := hl i x v hN e hv
  have fin : EP X pins σ Q u s := ⟨v, H, I, r, h⟩
  rcases l with ⟨hk, hm⟩ | ⟨hk, c, hc, hcell⟩
  · exact wpAny_Name (wpAny_loadName_local I.ok.kind hk hn hm fin) hd
  · rcases hk with hk | hk
    · exact wpAny_Name (wpAny_loadName_cell I.ok.kind hk hc hcell fin) hd
    · exact wpAny_Name (wpAny_loadName_free I.ok.kind hk hc hcell fin hcd) hd
theorem pe_int {i j pos} : PE X (.Constant (.int i) j pos) (tC (.int i)) := fun _ _ _ H _ I h => wpAny_Constant_int ⟨.int i, H, I.tok _, ⟨_, rfl⟩, h⟩
theorem pe_bl {b j pos} : PE X (.Constant (.bool b) j pos) (tC (.bl b)) := fun _ _ _ H _ I h => Constant_bool ⟨.bl b, H, I, rfl, h⟩
theorem pe_non {j pos} : PE X (.Constant .none j pos) (tC .non) := fun _ _ _ H _ I h => Constant_none ⟨.non, H, I, rfl, h⟩
theorem pe_str {x j pos} : PE X (.Constant (.str x) j pos) (tC (.str x)) := fun _ _ _ H _ I h => Calls.Constant_str ⟨.str x, H, I.tok _, ⟨_, rfl⟩, h⟩
def Gl (X : Cx) (x : Str) : Prop := X.env.kindOf x = some .globalImplicit
theorem ld_glob {E : Value → Shared → Prop} {pins : List (Addr × Obj)} {s : Shared} {σ : St} {H : Hp} {x : Str} {u : Value} {pos : Pos} {Q : Value → Shared → Prop} (I : Inv X pins σ H s) (hg : Gl X x) (hm : X.mg x = some u) (h : Q u s)
    (hd : (x == ("__debug__" : Str)) = false := by decide) : wpAny (model X.prog X.w) X.A (eval (.Name x pos) X.env) Q E s :=
  Calls.Name_function_global I.ok.kind hg (Calls.loadGlobal_global (by rw [I.ok.glob]; exact I.mod.glob.keeps I.bk) hm h) hd
theorem ld_blt {E : Value → Shared → Prop} {pins : List (Addr × Obj)} {s : Shared} {σ : St} {H : Hp} {x : Str} {u : Value} {pos : Pos} {Q : Value → Shared → Prop} (I : Inv X pins σ H s) (hg : Gl X x) (hm : X.mg x = none) (hv : bootBuiltins x = some u) (h : Q u s)
    (hn : x ≠ "__name__" := by decide) (hd : (x == ("__debug__" : Str)) = false := by decide) : wpAny (model X.prog X.w) X.A (eval (.Name x pos) X.env) Q E s := by
  obtain ⟨mb, h1, h2⟩ := I.mod.blt
  exact Calls.Name_function_global I.ok.kind hg (Calls.loadGlobal_builtin (by rw [I.ok.glob]; exact I.mod.glob.keeps I.bk) hm (by rw [I.ok.blt]; exact h1.keeps I.bk) ((h2 x hn).trans hv) h) hd
theorem pe_glob {x : Str} {v : V} {u : Value} {pos : Pos} (hg : Gl X x) (hm : X.mg x = some u) (r : RelV v u) (hd : (x == ("__debug__" : Str)) = false := by decide) : PE X (.Name x pos) (tC v) :=
  fun _ _ _ H _ I h => ld_glob I hg hm ⟨v, H, I, r, h⟩ hd
theorem pe_bltn {x : Str} {v : V} {u : Value} {pos : Pos} (hg : Gl X x) (hm : X.mg x = none) (hv : bootBuiltins x = some u) (r : RelV v u) (hn : x ≠ "__name__" := by decide) (hd : (x == ("__debug__" : Str)) = false := by decide) : PE X (.Name x pos) (tC v) :=
  fun _ _ _ H _ I h => ld_blt I hg hm hv ⟨v, H, I, r, h⟩ hn hd
variable {a b : Expr} {ta tb : TE} {pos : Pos}
theorem nobehind (b : Expr) {op : CmpOp} (h : op ≠ .In) (h2 : op ≠ .NotIn) : behindInMarks op b = false := by
  have e1 : (op == CmpOp.In) = false := by cases op <;> first | rfl | exact absurd rfl h
  have e2 : (op == CmpOp.NotIn) = false := by cases op <;> first | rfl | exact absurd rfl h2
  cases b <;> simp [behindInMarks, e1, e2]
variable {tA tB' : TT} {rest : List Expr}
def tAnd (t u : TT) : TT := fun σ H Q => t σ H fun c H1 => if c = true then u σ H1 Q else Q false H1
def tOr (t u : TT) : TT := fun σ H Q => t σ H fun c H1 => if c = true then Q true H1 else u σ H1 Q
def tNot (t : TT) : TT := fun σ H Q => t σ H fun c H1 => Q (!c) H1
theorem pw_and1 (ha : PT X a tA) : PW X (.BoolOp .And [a] pos) tA := by
  intro wh pins s σ H Q I h
  refine isTrue_and (thn (ha pins s σ H Q I h) fun c s1 e => ?_)
  cases c with
  | true => exact isTrue_and_nil e
  | false => exact e
theorem pw_or1 (ha : PT X a tA) : PW X (.BoolOp .Or [a] pos) tA := by
  intro wh pins s σ H Q I h
  refine isTrue_or (thn (ha pins s σ H Q I h) fun c s1 e => ?_)
  cases c with
  | false => exact isTrue_or_nil e
  | true => exact e
theorem pw_and (ha : PT X a tA) (hb : PW X (.BoolOp .And (b :: rest) pos) tB') : PW X (.BoolOp .And (a :: b :: rest) pos) (tAnd tA tB') := by
  intro wh pins s σ H Q I h
  refine isTrue_and (thn (ha pins s σ H _ I h) fun c s1 ⟨H1, I1, q1⟩ => ?_)
  cases c with
  | true => exact hb wh pins s1 σ H1 Q I1 q1
  | false => exact ⟨H1, I1, q1⟩
theorem pw_or (ha : PT X a tA) (hb : PW X (.BoolOp .Or (b :: rest) pos) tB') : PW X (.BoolOp .Or (a :: b :: rest) pos) (tOr tA tB') := by
  intro wh pins s σ H Q I h
  refine isTrue_or (thn (ha pins s σ H _ I h) fun c s1 ⟨H1, I1, q1⟩ => ?_)
  cases c with
  | true => exact ⟨H1, I1, q1⟩
  | false => exact hb wh pins s1 σ H1 Q I1 q1
theorem pt_not (ha : PT X a tA) : PT X (.UnaryOp .Not a pos) (tNot tA) := by
  intro pins s σ H Q I h
  exact isTrue_not (ha pins s σ H (fun c H1 => Q (!c) H1) I h)
def tAndV (ta tb : TE) : TE := fun σ H Q => ta σ H fun x H1 => ∃ c, x = .bl c ∧ if c = true then tb σ H1 Q else Q (.bl false) H1
def tNotV (ta : TE) : TE := fun σ H Q => ta σ H fun x H1 => ∃ c, x = .bl c ∧ Q (.bl (!c)) H1
theorem pe_one {op} {t : TE} (h : PE X a t) : PE X (.BoolOp op [a] pos) t := fun pins s σ H Q I hw => BoolOp_one (h pins s σ H Q I hw)
theorem pe_and (ha : PE X a ta) (hb : PE X (.BoolOp .And (b :: rest) pos) tb) : PE X (.BoolOp .And (a :: b :: rest) pos) (tAndV ta tb) := by
  intro pins s σ H Q I h
  refine BoolOp_and (thn (ha pins s σ H _ I h) fun v s1 ⟨x, H1, I1, r1, q1⟩ => ?_)
  obtain ⟨c, rfl, q1⟩ := q1
  cases r1
  refine wpAny_truthy_bool ?_
  cases c with
  | true => exact hb pins s1 σ H1 Q I1 q1
  | false => exact ⟨.bl false, H1, I1, rfl, q1⟩
theorem pe_not (ha : PE X a ta) : PE X (.UnaryOp .Not a pos) (tNotV ta) := by
  intro pins s σ H Q I h
  refine UnaryOp_ (thn (ha pins s σ H _ I h) fun v s1 ⟨x, H1, I1, r1, q1⟩ => ?_)
  obtain ⟨c, rfl, q1⟩ := q1
  cases r1
  exact not_of (wpAny_truthy_bool ⟨.bl (!c), H1, I1, rfl, q1⟩)
end
end L2
namespace L2
open PySem PySem.Spec PyProof.Rows
def SqL (K : PySem.W.Frag) (H : Hp) (a : Addr) (xs : List V) : Prop :=
  Rd H a (.lst xs) ∨
    ∃ (o : Obj) (its : Array Value) (n : Nat), K.lookup a = some o ∧ o.cls = .type "list" ∧ o.dict = none ∧ o.data = .seq its n ∧ its.size ≤ sizeLine ∧ Vals xs its.toList
def SqT (K : PySem.W.Frag) (H : Hp) (a : Addr) (xs : List V) : Prop :=
  Rd H a (.tup xs) ∨
    ∃ (o : Obj) (its : Array Value) (n : Nat), K.lookup a = some o ∧ o.cls = .type "tuple" ∧ o.dict = none ∧ o.data = .seq its n ∧ its.size ≤ sizeLine ∧ Vals xs its.toList
def absV : Value → Option V
  | .none => some .non
  | .bool b => some (.bl b)
  | .int i _ => some (.int i)
  | .str x _ => some (.str x)
  | .bytes b _ => some (.byt b)
  | .float b _ => some (.flt b)
  | .ref a => some (.ref a)
  | .type n => some (.ty n)
  | _ => none
theorem RelV.abs {x : V} {u : Value} (r : RelV x u) : absV u = some x := by
  cases x with
  | non => cases r; rfl
  | bl _ => cases r; rfl
  | int _ => obtain ⟨t, rfl⟩ := r; rfl
  | str _ => obtain ⟨t, rfl⟩ := r; rfl
  | byt _ => obtain ⟨t, rfl⟩ := r; rfl
  | flt _ => obtain ⟨t, rfl⟩ := r; rfl
  | ref _ => cases r; rfl
  | ty _ => cases r; rfl
theorem RelV.inj {x y : V} {u : Value} (r : RelV x u) (q : RelV y u) : x = y := Option.some.inj (r.abs.symm.trans q.abs)
theorem Vals.inj : ∀ {xs ys : List V} {us : List Value}, Vals xs us → Vals ys us → xs = ys
  | _, _, _, .nil, .nil => rfl
  | _, _, _, .cons r t, .cons r' t' => by rw [r.inj r', Vals.inj t t']
section
variable {X : Cx} {pins : List (Addr × Obj)} {σ : St} {H : Hp} {s : Shared} {a : Addr} {xs ys : List V}
theorem SqL.of {K : PySem.W.Frag} (h : H a = some (.lst xs)) : SqL K H a xs := .inl (.inl h)
theorem SqT.of {K : PySem.W.Frag} (h : H a = some (.tup xs)) : SqT K H a xs := .inl (.inl h)
theorem Inv.list (I : Inv X pins σ H s) (h : SqL X.K H a xs) : ∃ its : List Value, Vals xs its ∧ PlainL s.heap a its.toArray ∧ xs.length ≤ sizeLine := by
  rcases h with h | ⟨o, its, n, hk, hc, hd, hs, hz, r⟩
  · obtain ⟨z, its, n, r, e⟩ := h.ok I.hok
    exact ⟨its, r, ⟨_, n, e, rfl, rfl, rfl⟩, z⟩
  · refine ⟨its.toList, r, ⟨o, n, I.kIn a o hk, hc, hd, by simpa using hs⟩, ?_⟩
    have e := r.length
    simp only [Array.length_toList] at e
    omega
theorem Inv.tuple (I : Inv X pins σ H s) (h : SqT X.K H a xs) : ∃ its : List Value, Vals xs its ∧ IsTup s.heap a its.toArray ∧ xs.length ≤ sizeLine := by
  rcases h with h | ⟨o, its, n, hk, hc, hdd, hs, hz, r⟩
  · obtain ⟨z, its, r, p⟩ := h.ok I.hok
    exact ⟨its, r, p.tup, z⟩
  · refine ⟨its.toList, r, ⟨o, I.kIn a o hk, hc, n, by simpa using hs⟩, ?_⟩
    have e := r.length
    simp only [Array.length_toList] at e
    omega
theorem Inv.tupleN (I : Inv X pins σ H s) (h : SqT X.K H a xs) : ∃ its : List Value, Vals xs its ∧ IsTupN s.heap a its.toArray ∧ xs.length ≤ sizeLine := by
  rcases h with h | ⟨o, its, n, hk, hc, hdd, hs, hz, r⟩
  · obtain ⟨z, its, r, p⟩ := h.ok I.hok
    exact ⟨its, r, p, z⟩
  · refine ⟨its.toList, r, ⟨o, I.kIn a o hk, hc, ⟨n, by simpa using hs⟩, hdd⟩, ?_⟩
    have e := r.length
    simp only [Array.length_toList] at e
    omega
theorem Inv.list_inj (I : Inv X pins σ H s) (h : SqL X.K H a xs) (h' : SqL X.K H a ys) : xs = ys := by
  obtain ⟨its, r, ⟨o, n, e, _, _, d⟩, _⟩ := I.list h
  obtain ⟨its', r', ⟨o', n', e', _, _, d'⟩, _⟩ := I.list h'
  rw [e] at e'; cases e'
  rw [d] at d'
  injection d' with d1 _
  have : its = its' := by simpa using congrArg Array.toList d1
  subst this
  exact r.inj r'
theorem Inv.tuple_inj (I : Inv X pins σ H s) (h : SqT X.K H a xs) (h' : SqT X.K H a ys) : xs = ys := by
  obtain ⟨its, r, ⟨o, e, _, n, d⟩, _⟩ := I.tuple h
  obtain ⟨its', r', ⟨o', e', _, n', d'⟩, _⟩ := I.tuple h'
  rw [e] at e'; cases e'
  rw [d] at d'
  injection d' with d1 _
  have : its = its' := by simpa using congrArg Array.toList d1
  subst this
  exact r.inj r'
end
abbrev Cx.wish (X : Cx) (E : Value → Shared → Prop) : Cx := { X with xe := E }
abbrev Cx.nox (X : Cx) : Cx := X.wish fun _ _ => False
theorem Cx.Ok.wish {X : Cx} (ok : X.Ok) (E : Value → Shared → Prop) : (X.wish E).Ok :=
  ⟨ok.mod, ok.kind, ok.glob, ok.blt, ok.above, ok.inj, ok.has, ok.cab, ok.hd, ok.frames, ok.stk, ok.exf, ok.bs, ok.bsz, ok.noex, ok.exfs, ok.funs, ok.frf⟩
theorem Cx.Ok.unwish {X : Cx} {E : Value → Shared → Prop} (ok : (X.wish E).Ok) : X.Ok :=
  ⟨ok.mod, ok.kind, ok.glob, ok.blt, ok.above, ok.inj, ok.has, ok.cab, ok.hd, ok.frames, ok.stk, ok.exf, ok.bs, ok.bsz, ok.noex, ok.exfs, ok.funs, ok.frf⟩
section
variable {X : Cx} {pins : List (Addr × Obj)} {σ : St} {H : Hp} {s : Shared} {E : Value → Shared → Prop}
theorem Inv.wish (I : Inv X pins σ H s) (E : Value → Shared → Prop) : Inv (X.wish E) pins σ H s := ⟨I.ok.wish E, I.os, I.bare, I.base, I.loc, I.cell, I.free, I.freeC, I.pin, I.hok, I.len⟩
theorem Inv.unwish (I : Inv (X.wish E) pins σ H s) : Inv X pins σ H s := ⟨I.ok.unwish, I.os, I.bare, I.base, I.loc, I.cell, I.free, I.freeC, I.pin, I.hok, I.len⟩
theorem SP.unwish {D : Ends} {f : Flow} {s' : Shared} (h : SP (X.wish E) pins D f s') : SP X pins D f s' := by
  cases f with
  | next => obtain ⟨σ', H', I, q⟩ := h; exact ⟨σ', H', I.unwish, q⟩
  | brk => obtain ⟨σ', H', I, q⟩ := h; exact ⟨σ', H', I.unwish, q⟩
  | cont => obtain ⟨σ', H', I, q⟩ := h; exact ⟨σ', H', I.unwish, q⟩
  | ret u => obtain ⟨v, σ', H', I, r, q⟩ := h; exact ⟨v, σ', H', I.unwish, r, q⟩
theorem PSs.nox {st : List Stmt} {t : TS} (h : PSs X.nox st t) : PSs X st t := fun pins s σ H D I hw =>
  wpAny_mono (h pins s σ H D (I.wish _) hw) (fun _ _ q => q.unwish) fun _ _ z => False.elim z
end
section
variable {X : Cx} {st : Stmt} {rest : List Stmt} {t u : TS} {e : Expr} {te : TE} {pos : Pos}
def tNext : TS := fun D σ H => D.nx σ H
def tSeq (t u : TS) : TS := fun D σ H => t { D with nx := u D } σ H
theorem pss_nil : PSs X [] tNext := fun _ _ σ H _ I h => wpAny_execs_nil ⟨σ, H, I, h⟩
theorem pss_cons (h1 : PS X st t) (h2 : PSs X rest u) : PSs X (st :: rest) (tSeq t u) := by
  intro pins s σ H D I h
  refine wpAny_execs_cons (thn (h1 pins s σ H { D with nx := u D } I h) fun f s1 q => ?_)
  cases f with
  | next =>
    obtain ⟨σ', H', I', q⟩ := q
    exact h2 pins s1 σ' H' D I' q
  | ret v => exact q
  | brk => exact q
  | cont => exact q
theorem pss_one (h1 : PS X st t) : PSs X [st] t := by
  intro pins s σ H D I h
  refine wpAny_execs_cons (thn (h1 pins s σ H D I h) fun f s1 q => ?_)
  cases f with
  | next => exact wpAny_execs_nil q
  | ret v => exact q
  | brk => exact q
  | cont => exact q
theorem Inv.quiet {pins : List (Addr × Obj)} {σ : St} {H : Hp} {s : Shared} (I : Inv X pins σ H s) : interactive X.env = false := by simp [interactive, I.ok.kind]
def tDrop (te : TE) : TS := fun D σ H => te σ H fun _ H1 => D.nx σ H1
theorem ps_expr (he : PE X e te) (hs : swapsWith e none pos.line X.env = pure false := by rfl) : PS X (.Expr e pos) (tDrop te) := by
  intro pins s σ H D I h
  exact wpAny_Expr_any (thn (he pins s σ H _ I h) fun v s1 ⟨x, H1, I1, r1, q1⟩ => ⟨σ, H1, I1, q1⟩) I.quiet hs
def tRet (te : TE) : TS := fun D σ H => te σ H D.rt
theorem ps_ret (he : PE X e te) : PS X (.Return (some e) pos) (tRet te) := by
  intro pins s σ H D I h
  exact wpAny_Return_some (thn (he pins s σ H _ I h) fun v s1 ⟨x, H1, I1, r1, q1⟩ => ⟨x, σ, H1, I1, r1, q1⟩)
def tIfS (c : TT) (t u : TS) : TS := fun D σ H => c σ H fun b H1 => if b = true then t D σ H1 else u D σ H1
theorem ps_if {c : Expr} {a b : List Stmt} {tc : TT} (hc : PT X c tc) (ha : PSs X a t) (hb : PSs X b u) : PS X (.If c a b pos) (tIfS tc t u) := by
  intro pins s σ H D I h
  refine wpAny_If (thn (hc pins s σ H _ I h) fun d s1 ⟨H1, I1, q1⟩ => ?_)
  cases d with
  | true => exact ha pins s1 σ H1 D I1 q1
  | false => exact hb pins s1 σ H1 D I1 q1
end
abbrev TG := V → St → Hp → (St → Hp → Prop) → Prop
abbrev TGs := List V → St → Hp → (St → Hp → Prop) → Prop
def PG (X : Cx) (target : Expr) (t : TG) : Prop :=
  ∀ (pins : List (Addr × Obj)) (s : Shared) (σ : St) (H : Hp) (v : V) (u : Value) (Q : St → Hp → Prop), Inv X pins σ H s → RelV v u → t v σ H Q →
    wpAny (model X.prog X.w) X.A (assign target X.env u) (fun _ s' => ∃ σ' H', Inv X pins σ' H' s' ∧ Q σ' H') X.xe s
def PGs (X : Cx) (ts : List Expr) (t : TGs) : Prop :=
  ∀ (pins : List (Addr × Obj)) (s : Shared) (σ : St) (H : Hp) (vs : List V) (us : List Value) (Q : St → Hp → Prop), Inv X pins σ H s → Vals vs us → t vs σ H Q →
    wpAny (model X.prog X.w) X.A (assignInOrder ((assignEach ts X.env).map (·.2)) us) (fun _ s' => ∃ σ' H', Inv X pins σ' H' s' ∧ Q σ' H') X.xe s
abbrev TSet := V → V → V → Hp → (Hp → Prop) → Prop
def PSet (X : Cx) (t : TSet) : Prop :=
  ∀ (pins : List (Addr × Obj)) (s : Shared) (σ : St) (H : Hp) (o i v : V) (ov iv u : Value) (Q : Hp → Prop), Inv X pins σ H s → RelV o ov → RelV i iv → RelV v u → t o i v H Q →
    wpAny (model X.prog X.w) X.A (setItem ov iv u) (fun _ s' => ∃ H', Inv X pins σ H' s' ∧ Q H') X.xe s
section
variable {X : Cx} {pos : Pos}
def gName (i : Nat) : TG := fun v σ H Q => Q (σ.set i (some v)) H
theorem pg_name {i : Nat} {x : Str} (hN : X.N.Nodup) (hi : X.N[i]? = some x) (hx : Loc X.env.scope x) (hf : X.fn x = true ∨ X.env.scope.names.lookup x = some .local := by first | exact .inl rfl | exact .inr rfl | assumption) : PG X (.Name x pos) (gName i) := by
  intro pins s σ H v u Q I r h
  exact wpAny_assign_Name (store_ok I hN hi hx r (fun s' I' => ⟨_, H, I', h⟩) hf)
def gNil : TGs := fun vs σ H Q => vs = [] ∧ Q σ H
def gCons (t : TG) (u : TGs) : TGs := fun vs σ H Q => ∃ v r, vs = v :: r ∧ t v σ H fun σ' H' => u r σ' H' Q
theorem pgs_nil : PGs X [] gNil := by
  intro pins s σ H vs us Q I r h
  obtain ⟨e, h⟩ := h
  subst e
  cases r
  exact assignInOrder_nil ⟨σ, H, I, h⟩
theorem pgs_cons {e : Expr} {es : List Expr} {t : TG} {u : TGs} (h1 : PG X e t) (h2 : PGs X es u)
    (hs : (assignEach (e :: es) X.env).map (·.2) = assign e X.env :: (assignEach es X.env).map (·.2) := by rfl) : PGs X (e :: es) (gCons t u) := by
  intro pins s σ H vs us Q I r h
  obtain ⟨v, vr, e1, h⟩ := h
  subst e1
  cases r with
  | cons r rr =>
    rw [hs]
    refine assignInOrder_cons (thn (h1 pins s σ H _ _ _ I r h) fun _ s1 ⟨σ1, H1, I1, q1⟩ => ?_)
    exact h2 pins s1 σ1 H1 _ _ Q I1 rr q1
def gTup (K : PySem.W.Frag) (n : Nat) (t : TGs) : TG := fun v σ H Q => ∃ a xs, v = .ref a ∧ SqT K H a xs ∧ xs.length = n ∧ t xs σ H Q
theorem pg_tup {es : List Expr} {k : Nat} {t : TGs} {n : Nat} (hc : X.calm = true) (h : PGs X es t)
    (hn : (assignEach es X.env).length = n := by rfl) (hst : (assignEach es X.env).findIdx? (·.1) = none := by rfl) : PG X (.Tuple es k pos) (gTup X.K n t) := by
  intro pins s σ H v u Q I r hw
  obtain ⟨a, xs, e1, hq, hl, hw⟩ := hw
  subst e1
  cases r
  obtain ⟨its, rv, ht, hz⟩ := I.tuple hq
  refine assign_Tuple_tuple (I.ok.hd hc) ht (by simp [hn, ← hl, rv.length]) hst fun h' hx => ?_
  have I1 : Inv X pins σ H { s with heap := h' } := I.kept (t' := s.toks) fun b o e => hx b o (Nat.ne_of_lt (Heap.lt_size e)) e
  exact h pins _ σ H xs _ Q I1 (by simpa using rv) hw
def gSub (to ti : TE) (t : TSet) : TG := fun v σ H Q => to σ H fun o H1 => ti σ H1 fun i H2 => t o i v H2 fun H3 => Q σ H3
theorem pg_sub {o i : Expr} {to ti : TE} {t : TSet} (ho : PE X o to) (hi : PE X i ti) (hs : PSet X t)
    (ha : ∀ v, assign (.Subscript o i pos) X.env v = (do
      let ov ← holding [v] (eval o X.env)
      let iv ← holding [v, ov] (eval i X.env)
      standAt pos
      holding [v, ov, iv] (setItem ov iv v)
      release [v, ov, iv] []) := by intro _; rfl) : PG X (.Subscript o i pos) (gSub to ti t) := by
  intro pins s σ H v u Q I r h
  rw [ha]
  refine wpAny_bind (wpAny_holding (thn (ho pins s σ H _ I h) fun ov s1 ⟨x, H1, I1, r1, q1⟩ => ?_))
  refine wpAny_bind (wpAny_holding (thn (hi pins s1 σ H1 _ I1 q1) fun iv s2 ⟨y, H2, I2, r2, q2⟩ => ?_))
  refine wpAny_bind (wpAny_standAt (wpAny_bind (wpAny_holding (thn (hs pins s2 σ H2 x y v ov iv u _ I2 r1 r2 r q2) fun _ s3 ⟨H3, I3, q3⟩ => ?_))))
  exact wpAny_release ⟨σ, H3, I3, q3⟩
def tAsg (te : TE) (g : TG) : TS := fun D σ H => te σ H fun x H1 => g x σ H1 D.nx
theorem ps_asg {tg e : Expr} {te : TE} {g : TG} (he : PE X e te) (hg : PG X tg g) (hs : swapsWithSole [tg] e pos.line X.env = pure false := by rfl) (hw : swappedStores [tg] e X.env = pure none := by rfl)
    (h1 : (assignEach [tg] X.env).map (·.2) = [assign tg X.env] := by rfl) : PS X (.Assign [tg] e pos) (tAsg te g) := by
  intro pins s σ H D I h
  refine wpAny_Assign_stores (thn (he pins s σ H _ I h) fun v s1 ⟨x, H1, I1, r1, q1⟩ => ?_) hs hw
  rw [h1]
  exact thn (hg pins s1 σ H1 x v _ I1 r1 q1) fun _ s2 q => q
theorem ps_set {i : Nat} {x : Str} {e : Expr} {te : TE} {pos' : Pos} (hN : X.N.Nodup) (hi : X.N[i]? = some x) (hx : Loc X.env.scope x) (he : PE X e te) (hs : swapsWith e (some (.Name x pos')) pos.line X.env = pure false := by rfl) (hf : X.fn x = true ∨ X.env.scope.names.lookup x = some .local := by first | exact .inl rfl | exact .inr rfl | assumption) :
    PS X (.Assign [.Name x pos'] e pos) (tAsg te (gName i)) := by
  intro pins s σ H D I h
  refine wpAny_Assign_Name (thn (he pins s σ H _ I h) fun v s1 ⟨y, H1, I1, r1, q1⟩ => ?_) hs
  exact store_ok I1 hN hi hx r1 (fun s2 I2 => ⟨_, H1, I2, q1⟩) hf
end
section
variable {X : Cx} {pos : Pos}
end
structure It where
  go : Nat → Hp → Prop
  yld : Nat → Hp → V → Hp → Prop
  stop : Nat → Hp → Prop
def FpOk (X : Cx) (pins : List (Addr × Obj)) (H : Hp) (b : Addr) : Prop :=
  H b = none ∧ b ≠ X.env.locals ∧ b ∉ X.fs ∧ (b ∈ X.ex ∨ X.s₀.heap.objs.size ≤ b) ∧ (∀ x c, X.env.cells.lookup x = some c → c ≠ b) ∧ ∀ p ∈ X.pn ++ pins, p.1 ≠ b
theorem Inv.fpOk {X : Cx} {pins : List (Addr × Obj)} {σ : St} {H H' : Hp} {s : Shared} {b : Addr} (I : Inv X pins σ H s) (hb : s.heap.objs.size ≤ b) (hn : H' b = none) : FpOk X pins H' b := by
  refine ⟨hn, Nat.ne_of_gt (Nat.lt_of_lt_of_le I.lt hb), I.nofs hb, .inr (Nat.le_trans I.sz hb), fun x c e z => ?_, fun p hp z => ?_⟩
  · obtain ⟨v, q⟩ := I.cell x c e
    exact absurd (Nat.lt_of_lt_of_le q.lt (by rw [z]; exact hb)) (Nat.lt_irrefl _)
  · exact absurd (Nat.lt_of_lt_of_le (Heap.lt_size (I.pin p hp).1) (by rw [z]; exact hb)) (Nat.lt_irrefl _)
structure Turn (P : Program) (w : World) (K : PySem.W.Frag) (tg : Expr) (J : It) (fp : List Addr) (it : Addr) (tn : Nat → Heap → Prop) : Prop where
  mem : it ∈ fp
  obj : ∀ i h, tn i h → ∀ b ∈ fp, ∃ o, h.get? b = some o ∧ ∀ v, o.data ≠ .cell v
  keep : ∀ i h h', tn i h → (∀ b ∈ fp, ∀ o, h.get? b = some o → h'.get? b = some o) → tn i h'
  item : ∀ (X : Cx), X.prog = P → X.w = w → X.K = K → X.calm = true → ∀ (i : Nat) (pins : List (Addr × Obj)) (s : Shared) (σ : St) (H : Hp) (E : Value → Shared → Prop), Inv X pins σ H s → (∀ b ∈ fp, FpOk X pins H b) → tn i s.heap → J.go i H →
    wpAny (model P w) X.A (pyNext (.ref it)) (fun r s1 => ∃ u, r = some u ∧
      wpAny (model P w) X.A (letOwnedTupleGo tg (.ref it) u) (fun _ s2 => ∃ x H', Inv X pins σ H' s2 ∧ RelV x u ∧ J.yld i H x H' ∧ tn (i + 1) s2.heap ∧ ∀ b ∈ fp, H' b = none) E s1) E s
  done : ∀ (X : Cx), X.prog = P → X.w = w → X.K = K → X.calm = true → ∀ (i : Nat) (pins : List (Addr × Obj)) (s : Shared) (σ : St) (H : Hp) (E : Value → Shared → Prop), Inv X pins σ H s → (∀ b ∈ fp, FpOk X pins H b) → tn i s.heap → J.stop i H →
    wpAny (model P w) X.A (pyNext (.ref it)) (fun r s1 => r = none ∧ Inv X pins σ H s1) E s
  self : ∀ (A : Around) (i : Nat) (s : Shared) (Q : Value → Shared → Prop) (E : Value → Shared → Prop), tn i s.heap → Q (.ref it) s → wpAny (model P w) A (pyIter (.ref it)) Q E s
abbrev TI := St → Hp → (It → Hp → Prop) → Prop
def PIE (X : Cx) (pins : List (Addr × Obj)) (σ : St) (tg : Expr) (R : It → Hp → Prop) (itv : Value) (s2 : Shared) : Prop :=
  ∃ (it : Addr) (fp : List Addr) (tn : Nat → Heap → Prop) (J : It) (H' : Hp), itv = .ref it ∧ Inv X pins σ H' s2 ∧ Turn X.prog X.w X.K tg J fp it tn ∧ tn 0 s2.heap ∧ (∀ b ∈ fp, FpOk X pins H' b) ∧ R J H'
def PI (X : Cx) (tg iter : Expr) (wi : TI) : Prop :=
  ∀ (pins : List (Addr × Obj)) (s : Shared) (σ : St) (H : Hp) (R : It → Hp → Prop), Inv X pins σ H s → wi σ H R →
    wpAny (model X.prog X.w) X.A (eval iter X.env) (fun v s1 => wpAny (model X.prog X.w) X.A (pyIter v) (PIE X pins σ tg R) X.xe s1) X.xe s
theorem go_of {M : Model} {A : Around} {E : Value → Shared → Prop} {s : Shared} {tg : Expr} {it : Addr} {u : Value} {o : Obj} {n : String} {vs : Array Value} {Q : Unit → Shared → Prop} (ho : s.heap.get? it = some o) (hc : o.cls = .type n) (hd : o.data = .fields vs)
    (hn : ["enumerate", "zip", "dict_itemiterator", "dict_reverseitemiterator", "odict_iterator", "itertools.zip_longest", "itertools.pairwise"].contains n = false) (hQ : Q () s) : wpAny M A (letOwnedTupleGo tg (.ref it) u) Q E s := by
  unfold letOwnedTupleGo
  cases tg <;> first
    | exact wpAny_pure hQ
    | (cases u <;> first
        | exact wpAny_pure hQ
        | (refine wpAny_bind (wpAny_load ho ?_)
           rw [hc, hd]
           show wpAny M A (if (["enumerate", "zip", "dict_itemiterator", "dict_reverseitemiterator", "odict_iterator", "itertools.zip_longest", "itertools.pairwise"].contains n && vs[0]? == some (rawInt _)) = true then _ else _) Q E s
           rw [if_neg (by intro h; rw [hn, Bool.false_and] at h; cases h)]
           exact wpAny_pure hQ))
def Itl (K : PySem.W.Frag) (a : Addr) : It :=
  ⟨fun i H => ∃ xs x, SqL K H a xs ∧ xs[i]? = some x, fun i H x H' => H' = H ∧ ∀ xs, SqL K H a xs → xs[i]? = some x, fun i H => ∃ xs, SqL K H a xs ∧ xs.length ≤ i⟩
def Itt (K : PySem.W.Frag) (a : Addr) : It :=
  ⟨fun i H => ∃ xs x, SqT K H a xs ∧ xs[i]? = some x, fun i H x H' => H' = H ∧ ∀ xs, SqT K H a xs → xs[i]? = some x, fun i H => ∃ xs, SqT K H a xs ∧ xs.length ≤ i⟩
def Itr (lo : Int) (n : Nat) : It := ⟨fun i _ => i < n, fun i H x H' => H' = H ∧ x = .int (lo + i), fun i _ => n ≤ i⟩
theorem turn_list {P : Program} {w : World} {K : PySem.W.Frag} {tg : Expr} (a it : Addr) : Turn P w K tg (Itl K a) [it] it (fun i h => h.IsListIter it a i) where
  mem := by simp
  obj := fun i h st b hb => by
    have e : b = it := by simpa using hb
    subst e
    obtain ⟨o, e, c, d⟩ := st
    exact ⟨o, e, fun v z => by rw [d] at z; cases z⟩
  keep := fun i h h' st k => st.at fun o e => k it (by simp) o e
  item := by
    intro X hP hw hK hc i pins s σ H E I hf st hg
    subst hP hw hK
    obtain ⟨xs, x, hq, hx⟩ := hg
    obtain ⟨its, rv, p, hz⟩ := I.list hq
    obtain ⟨u, hu, ru⟩ := rv.get hx
    obtain ⟨f0, f1, f2, f3, f4, f5⟩ := hf it (by simp)
    refine wpAny_pyNext_list_item st p.isList (x := u) (by simpa using hu) fun h' st' sb => ?_
    have I1 : Inv X pins σ H { s with heap := h' } := I.turned (t' := s.toks) (fun b o hb e => (sb.2 b hb).trans e) f0 f1 f3 f4 f5
    obtain ⟨o, e, c, d⟩ := id st'
    exact ⟨u, rfl, go_of (s := { s with heap := h' }) e c d (by decide) ⟨x, H, I1, ru, ⟨rfl, fun ys hy => by rw [I.list_inj hy hq]; exact hx⟩, st', fun b hb => (hf b hb).1⟩⟩
  done := by
    intro X hP hw hK hc i pins s σ H E I hf st hg
    subst hP hw hK
    obtain ⟨xs, hq, hx⟩ := hg
    obtain ⟨its, rv, p, hz⟩ := I.list hq
    obtain ⟨f0, f1, f2, f3, f4, f5⟩ := hf it (by simp)
    have hl := rv.length
    exact wpAny_pyNext_list_end (I.ok.hd hc) st p.isList (by simp; omega) fun h' eb => ⟨rfl, I.turned (t' := s.toks) (fun b o hb e => eb b o hb e) f0 f1 f3 f4 f5⟩
  self := fun _ _ _ _ _ st h => wpAny_pyIter_listiter st h
theorem turn_tuple {P : Program} {w : World} {K : PySem.W.Frag} {tg : Expr} (a it : Addr) : Turn P w K tg (Itt K a) [it] it (fun i h => h.IsTupleIter it a i) where
  mem := by simp
  obj := fun i h st b hb => by
    have e : b = it := by simpa using hb
    subst e
    obtain ⟨o, e, c, d⟩ := st
    exact ⟨o, e, fun v z => by rw [d] at z; cases z⟩
  keep := fun i h h' st k => st.at fun o e => k it (by simp) o e
  item := by
    intro X hP hw hK hc i pins s σ H E I hf st hg
    subst hP hw hK
    obtain ⟨xs, x, hq, hx⟩ := hg
    obtain ⟨its, rv, p, hz⟩ := I.tuple hq
    obtain ⟨u, hu, ru⟩ := rv.get hx
    obtain ⟨f0, f1, f2, f3, f4, f5⟩ := hf it (by simp)
    refine wpAny_pyNext_tuple_item st (show s.heap.IsTuple a its.toArray from p) (x := u) (by simpa using hu) fun h' st' sb => ?_
    have I1 : Inv X pins σ H { s with heap := h' } := I.turned (t' := s.toks) (fun b o hb e => (sb.2 b hb).trans e) f0 f1 f3 f4 f5
    obtain ⟨o, e, c, d⟩ := id st'
    exact ⟨u, rfl, go_of (s := { s with heap := h' }) e c d (by decide) ⟨x, H, I1, ru, ⟨rfl, fun ys hy => by rw [I.tuple_inj hy hq]; exact hx⟩, st', fun b hb => (hf b hb).1⟩⟩
  done := by
    intro X hP hw hK hc i pins s σ H E I hf st hg
    subst hP hw hK
    obtain ⟨xs, hq, hx⟩ := hg
    obtain ⟨its, rv, p, hz⟩ := I.tuple hq
    obtain ⟨f0, f1, f2, f3, f4, f5⟩ := hf it (by simp)
    have hl := rv.length
    exact wpAny_pyNext_tuple_end (I.ok.hd hc) st (show s.heap.IsTuple a its.toArray from p) (by simp; omega) fun h' eb => ⟨rfl, I.turned (t' := s.toks) (fun b o hb e => eb b o hb e) f0 f1 f3 f4 f5⟩
  self := fun _ _ _ _ _ st h => wpAny_pyIter_tupleiter st h
theorem turn_range {P : Program} {w : World} {K : PySem.W.Frag} {tg : Expr} (it : Addr) (lo : Int) (n : Nat) : Turn P w K tg (Itr lo n) [it] it (fun i h => IsRangeIter h it (lo + (i : Nat) * 1) ((n : Int) - (i : Nat)) 1) where
  mem := by simp
  obj := fun i h st b hb => by
    have e : b = it := by simpa using hb
    subst e
    exact ⟨_, st, fun v z => by
      have z' : Data.fields _ = Data.cell v := z
      cases z'⟩
  keep := fun i h h' st k => k it (by simp) _ st
  item := by
    intro X hP hw hK hc i pins s σ H E I hf st hg
    subst hP hw hK
    obtain ⟨f0, f1, f2, f3, f4, f5⟩ := hf it (by simp)
    have W := Walks.range (prog := X.prog) (w := X.w) (I.ok.hd hc) it lo 1 n
    refine W.item i s _ _ hg st fun v h' tk hv st' kk => ?_
    obtain ⟨t, rfl⟩ := hv
    have I1 : Inv X pins σ H { s with heap := h', toks := tk } := I.turned (fun b o hb e => kk b o (by simpa using hb) e) f0 f1 f3 f4 f5
    refine ⟨_, rfl, go_of (s := { s with heap := h', toks := tk }) (n := "range_iterator") st' rfl rfl (by decide) ⟨.int (lo + i), H, I1, ⟨t, ?_⟩, ⟨rfl, rfl⟩, st', fun b hb => (hf b hb).1⟩⟩
    rw [Int.mul_one]
  done := by
    intro X hP hw hK hc i pins s σ H E I hf st hg
    subst hP hw hK
    obtain ⟨f0, f1, f2, f3, f4, f5⟩ := hf it (by simp)
    exact wpAny_pyNext_range_end (I.ok.hd hc) st (by have : n ≤ i := hg; omega) fun h' eb => ⟨rfl, I.turned (t' := s.toks) (fun b o hb e => eb b o hb e) f0 f1 f3 f4 f5⟩
  self := fun _ _ _ _ _ st h => wpAny_pyIter_rangeiter st h
end L2
namespace L2
open PySem PySem.Spec PyProof.Rows
section
variable {X : Cx} {tg : Expr}
theorem range_it {pins : List (Addr × Obj)} {σ : St} {H : Hp} {s : Shared} {R : It → Hp → Prop} {E : Value → Shared → Prop} {lo hi : Int} {t u v : Tok} {tk : Nat} (I : Inv X pins σ H s) (h1 : -(2 ^ 62) ≤ lo) (h2 : lo < 2 ^ 62) (h3 : -(2 ^ 62) ≤ hi) (h4 : hi < 2 ^ 62)
    (q : R (Itr lo (hi - lo).toNat) H) : wpAny (model X.prog X.w) X.A (pyIter (.ref s.heap.objs.size)) (PIE X pins σ tg R) E { s with heap := s.heap.push { cls := .type "range", data := .fields #[.int lo t, .int hi u, .int 1 v] }, toks := tk } := by
  refine wpAny_pyIter_range (IsRange.new ..) (small_one h1 h2 h3 h4) ?_
  have I1 : Inv X pins σ H { s with heap := s.heap.push { cls := .type "range", data := .fields #[.int lo t, .int hi u, .int 1 v] }, toks := tk } := I.kept fun b o e => Heap.get?_push_of_some _ e
  refine ⟨(s.heap.push { cls := .type "range", data := .fields #[.int lo t, .int hi u, .int 1 v] }).objs.size, [(s.heap.push { cls := .type "range", data := .fields #[.int lo t, .int hi u, .int 1 v] }).objs.size], _, _, H, rfl,
    I1.kept (t' := tk) fun b o e => Heap.get?_push_of_some _ e, turn_range _ lo (hi - lo).toNat, ?_, fun b hb => ?_, q⟩
  · have e1 : lo + ((0 : Nat) : Int) * 1 = lo := by simp
    have e2 : (((hi - lo).toNat : Nat) : Int) - ((0 : Nat) : Int) = Builtin.Range.rangeSize lo hi 1 := by rw [rangeSize_one]; split <;> omega
    show IsRangeIter _ _ (lo + ((0 : Nat) : Int) * 1) ((((hi - lo).toNat : Nat) : Int) - ((0 : Nat) : Int)) 1
    rw [e1, e2]
    exact Heap.get?_push_size _ rfl
  · have e : b = (s.heap.push { cls := .type "range", data := .fields #[.int lo t, .int hi u, .int 1 v] }).objs.size := by simpa using hb
    subst e
    exact I1.fpOk (Nat.le_refl _) (I1.hok.fresh (Nat.le_refl _))
def iRng1 (ta : TA) : TI := fun σ H R => ta σ H fun vs H1 => ∃ j : Int, vs = [.int j] ∧ -(2 ^ 62) ≤ j ∧ j < 2 ^ 62 ∧ R (Itr 0 j.toNat) H1
theorem pi_range1 {a : Expr} {ta : TA} {p pos : Pos} (hg : Gl X "range") (hm : X.mg "range" = none) (ha : PA X [a] ta) (hs : starEach [a] X.env = [(false, eval a X.env)] := by rfl) : PI X tg (.Call (.Name "range" p) [a] [] pos) (iRng1 ta) := by
  intro pins s σ H R I h
  refine Call_ (ld_blt I hg hm boot_range (PyProof.Rows.callWith_type1 (thn (ha pos pins s σ H _ I h) fun us s1 ⟨vs, H1, I1, r1, q1⟩ => ?_) hs rfl))
  obtain ⟨j, e, q1, q2, q⟩ := q1
  subst e
  cases r1 with
  | cons r rr =>
    cases rr
    obtain ⟨t, rfl⟩ := r
    exact call_range_1 (range_it I1 (by omega) (by omega) q1 q2 (by simpa using q))
def tFor (wi : TI) (g : TG) (tb : TS) : TS := fun D σ H => wi σ H fun J H1 => ∃ W : Nat → Nat → St → Hp → Prop, (∃ m, W 0 m σ H1) ∧ ∀ i m σ H, W i m σ H →
  (J.stop i H ∧ D.nx σ H) ∨ (J.go i H ∧ ∃ N : St → Hp → Prop, (∀ σ' H', N σ' H' → ∃ m', m' < m ∧ W (i + 1) m' σ' H') ∧ ∀ x H', J.yld i H x H' → g x σ H' fun σ2 H2 => tb { D with nx := N, ct := N, bk := D.nx } σ2 H2)
def pinsAt (fp : List Addr) (h : Heap) : List (Addr × Obj) := fp.filterMap fun b => (h.get? b).map fun o => (b, o)
theorem mem_pinsAt {fp : List Addr} {h : Heap} {b : Addr} {o : Obj} (hb : b ∈ fp) (e : h.get? b = some o) : (b, o) ∈ pinsAt fp h := List.mem_filterMap.mpr ⟨b, hb, by rw [e]; rfl⟩
theorem of_pinsAt {fp : List Addr} {h : Heap} {p : Addr × Obj} (hp : p ∈ pinsAt fp h) : p.1 ∈ fp ∧ h.get? p.1 = some p.2 := by
  obtain ⟨b, hb, e⟩ := List.mem_filterMap.mp hp
  cases q : h.get? b with
  | none => rw [q] at e; cases e
  | some o =>
    rw [q] at e
    have e' : (b, o) = p := Option.some.inj e
    subst e'
    exact ⟨hb, q⟩
theorem Inv.pinned {pins : List (Addr × Obj)} {σ : St} {H : Hp} {s : Shared} {fp : List Addr} (I : Inv X pins σ H s) (hf : ∀ b ∈ fp, FpOk X pins H b) (ho : ∀ b ∈ fp, ∃ o, s.heap.get? b = some o ∧ ∀ v, o.data ≠ .cell v) : Inv X (pins ++ pinsAt fp s.heap) σ H s :=
  I.pins_of fun p hp => (List.mem_append.mp hp).elim (fun z => I.pin p (List.mem_append_right _ z)) fun z => by
    obtain ⟨hb, e⟩ := of_pinsAt z
    obtain ⟨f0, f1, f2, _⟩ := hf p.1 hb
    obtain ⟨o, e', d⟩ := ho p.1 hb
    rw [e] at e'; cases e'
    exact ⟨e, f0, f1, f2, d⟩
theorem Inv.unpinned {pins pl : List (Addr × Obj)} {σ : St} {H : Hp} {s : Shared} (I : Inv X (pins ++ pl) σ H s) : Inv X pins σ H s := I.pins_of fun p hp => I.pin p (List.mem_append_right _ (List.mem_append_left _ hp))
theorem ps_for {iter : Expr} {body : List Stmt} {wi : TI} {g : TG} {tb : TS} {pos : Pos} (hp : PassesOwn (model X.prog X.w) X.A X.env X.xe) (hc : X.calm = true) (hi : PI X tg iter wi) (hg : PG X tg g) (hb : PSs X body tb)
    (hs : ∀ x, foldedSetIterable iter X.env x = pure x := by intro _; rfl) : PS X (.For tg iter body [] pos) (tFor wi g tb) := by
  intro pins s σ H D I h
  refine wpAny_For (thn (hi pins s σ H _ I h) fun v s1 h1 => thn h1 fun itv s2 h2 => ?_) hs
  obtain ⟨it, fp, tn, J, H2, e, I2, T, st2, f2, W, ⟨m0, w0⟩, turn⟩ := h2
  subst e
  -- what stays true of the iterator's objects through the loop
  have stat : ∀ {H' : Hp}, (∀ b ∈ fp, H' b = none) → ∀ b ∈ fp, FpOk X pins H' b := fun hn b hb => ⟨hn b hb, (f2 b hb).2⟩
  refine codeAny_forLoop_any (fun n s' => ∃ i σ' H', Inv X pins σ' H' s' ∧ tn i s'.heap ∧ (∀ b ∈ fp, H' b = none) ∧ W i n σ' H') ?_ m0 ⟨0, σ, H2, I2, st2, fun b hb => (f2 b hb).1, w0⟩
  rintro n s3 ⟨i, σ3, H3, I3, st3, fr3, w3⟩
  rcases turn i n σ3 H3 w3 with ⟨stop, qn⟩ | ⟨go, N, hN, step⟩
  · refine wpAny_passesOwn hp (thn (T.done X rfl rfl rfl hc i pins s3 σ3 H3 X.xe I3 (stat fr3) st3 stop) fun r s4 ⟨hr, I4⟩ => ?_)
    subst hr
    exact wpAny_execs_nil ⟨σ3, H3, I4, qn⟩
  · refine wpAny_passesOwn hp (thn (T.item X rfl rfl rfl hc i pins s3 σ3 H3 X.xe I3 (stat fr3) st3 go) fun r s4 ⟨u, hr, h4⟩ => ?_)
    subst hr
    refine wpAny_passesOwn hp (thn h4 fun _ s5 ⟨x, H5, I5, r5, y5, st5, fr5⟩ => ?_)
    have I5' := I5.pinned (stat fr5) (T.obj _ _ st5)
    refine wpAny_passesOwn hp (thn (hg _ s5 σ3 H5 x u _ I5' r5 (step x H5 y5)) fun _ s6 ⟨σ6, H6, I6, q6⟩ => ?_)
    refine wpAny_passesOwn hp (thn (hb _ s6 σ6 H6 _ I6 q6) fun f s7 q7 => ?_)
    have again : ∀ {σ7 : St} {H7 : Hp}, Inv X (pins ++ pinsAt fp s5.heap) σ7 H7 s7 → N σ7 H7 → ∃ m, m < n ∧ ∃ i σ' H', Inv X pins σ' H' s7 ∧ tn i s7.heap ∧ (∀ b ∈ fp, H' b = none) ∧ W i m σ' H' := fun {σ7 H7} I7 n7 => by
      obtain ⟨m', hm, w7⟩ := hN σ7 H7 n7
      refine ⟨m', hm, i + 1, σ7, H7, I7.unpinned, T.keep _ _ _ st5 fun b hb o e => (I7.pin (b, o) (List.mem_append_right _ (List.mem_append_right _ (mem_pinsAt hb e)))).1, fun b hb => ?_, w7⟩
      obtain ⟨o, e, d⟩ := T.obj _ _ st5 b hb
      exact (I7.pin (b, o) (List.mem_append_right _ (List.mem_append_right _ (mem_pinsAt hb e)))).2.1
    cases f with
    | next => obtain ⟨σ7, H7, I7, n7⟩ := q7; exact again I7 n7
    | cont => obtain ⟨σ7, H7, I7, n7⟩ := q7; exact again I7 n7
    | brk => obtain ⟨σ7, H7, I7, q7⟩ := q7; exact ⟨σ7, H7, I7.unpinned, q7⟩
    | ret v => obtain ⟨x7, σ7, H7, I7, r7, q7⟩ := q7; exact ⟨x7, σ7, H7, I7.unpinned, r7, q7⟩
end
theorem for_list {K : PySem.W.Frag} {a : Addr} {xs : List V} {g : TG} {tb : TS} {D : Ends} {σ : St} {H : Hp} (Pv : Nat → St → Hp → Prop) (h0 : Pv 0 σ H) (hl : ∀ i σ H, i ≤ xs.length → Pv i σ H → SqL K H a xs)
    (hs : ∀ i x σ H, xs[i]? = some x → Pv i σ H → g x σ H fun σ2 H2 => tb { D with nx := Pv (i + 1), ct := Pv (i + 1), bk := D.nx } σ2 H2) (hd : ∀ σ H, Pv xs.length σ H → D.nx σ H) :
    ∃ W : Nat → Nat → St → Hp → Prop, (∃ m, W 0 m σ H) ∧ ∀ i m σ H, W i m σ H →
      ((Itl K a).stop i H ∧ D.nx σ H) ∨ ((Itl K a).go i H ∧ ∃ N : St → Hp → Prop, (∀ σ' H', N σ' H' → ∃ m', m' < m ∧ W (i + 1) m' σ' H') ∧ ∀ x H', (Itl K a).yld i H x H' → g x σ H' fun σ2 H2 => tb { D with nx := N, ct := N, bk := D.nx } σ2 H2) := by
  refine ⟨fun i m σ H => m = xs.length - i ∧ i ≤ xs.length ∧ Pv i σ H, ⟨xs.length, by simp, Nat.zero_le _, h0⟩, ?_⟩
  rintro i m σ H ⟨rfl, hi, p⟩
  have q := hl i σ H hi p
  by_cases hlt : i < xs.length
  · refine .inr ⟨⟨xs, xs[i], q, by simp [hlt]⟩, Pv (i + 1), fun σ' H' p' => ⟨xs.length - (i + 1), by omega, rfl, hlt, p'⟩, fun x H' y => ?_⟩
    obtain ⟨e, y⟩ := y
    subst e
    exact hs i x σ _ (y xs q) p
  · have e : i = xs.length := by omega
    subst e
    exact .inl ⟨⟨xs, q, Nat.le_refl _⟩, hd σ H p⟩
theorem for_tup {K : PySem.W.Frag} {a : Addr} {xs : List V} {g : TG} {tb : TS} {D : Ends} {σ : St} {H : Hp} (Pv : Nat → St → Hp → Prop) (h0 : Pv 0 σ H) (hl : ∀ i σ H, i ≤ xs.length → Pv i σ H → SqT K H a xs)
    (hs : ∀ i x σ H, xs[i]? = some x → Pv i σ H → g x σ H fun σ2 H2 => tb { D with nx := Pv (i + 1), ct := Pv (i + 1), bk := D.nx } σ2 H2) (hd : ∀ σ H, Pv xs.length σ H → D.nx σ H) :
    ∃ W : Nat → Nat → St → Hp → Prop, (∃ m, W 0 m σ H) ∧ ∀ i m σ H, W i m σ H →
      ((Itt K a).stop i H ∧ D.nx σ H) ∨ ((Itt K a).go i H ∧ ∃ N : St → Hp → Prop, (∀ σ' H', N σ' H' → ∃ m', m' < m ∧ W (i + 1) m' σ' H') ∧ ∀ x H', (Itt K a).yld i H x H' → g x σ H' fun σ2 H2 => tb { D with nx := N, ct := N, bk := D.nx } σ2 H2) := by
  refine ⟨fun i m σ H => m = xs.length - i ∧ i ≤ xs.length ∧ Pv i σ H, ⟨xs.length, by simp, Nat.zero_le _, h0⟩, ?_⟩
  rintro i m σ H ⟨rfl, hi, p⟩
  have q := hl i σ H hi p
  by_cases hlt : i < xs.length
  · refine .inr ⟨⟨xs, xs[i], q, by simp [hlt]⟩, Pv (i + 1), fun σ' H' p' => ⟨xs.length - (i + 1), by omega, rfl, hlt, p'⟩, fun x H' y => ?_⟩
    obtain ⟨e, y⟩ := y
    subst e
    exact hs i x σ _ (y xs q) p
  · have e : i = xs.length := by omega
    subst e
    exact .inl ⟨⟨xs, q, Nat.le_refl _⟩, hd σ H p⟩
theorem for_range {lo : Int} {n : Nat} {g : TG} {tb : TS} {D : Ends} {σ : St} {H : Hp} (Pv : Nat → St → Hp → Prop) (h0 : Pv 0 σ H)
    (hs : ∀ i σ H, i < n → Pv i σ H → g (.int (lo + i)) σ H fun σ2 H2 => tb { D with nx := Pv (i + 1), ct := Pv (i + 1), bk := D.nx } σ2 H2) (hd : ∀ σ H, Pv n σ H → D.nx σ H) :
    ∃ W : Nat → Nat → St → Hp → Prop, (∃ m, W 0 m σ H) ∧ ∀ i m σ H, W i m σ H →
      ((Itr lo n).stop i H ∧ D.nx σ H) ∨ ((Itr lo n).go i H ∧ ∃ N : St → Hp → Prop, (∀ σ' H', N σ' H' → ∃ m', m' < m ∧ W (i + 1) m' σ' H') ∧ ∀ x H', (Itr lo n).yld i H x H' → g x σ H' fun σ2 H2 => tb { D with nx := N, ct := N, bk := D.nx } σ2 H2) := by
  refine ⟨fun i m σ H => m = n - i ∧ i ≤ n ∧ Pv i σ H, ⟨n, by simp, Nat.zero_le _, h0⟩, ?_⟩
  rintro i m σ H ⟨rfl, hi, p⟩
  by_cases hlt : i < n
  · refine .inr ⟨hlt, Pv (i + 1), fun σ' H' p' => ⟨n - (i + 1), by omega, rfl, hlt, p'⟩, fun x H' y => ?_⟩
    obtain ⟨e, y⟩ := y
    subst e y
    exact hs i σ _ hlt p
  · have e : i = n := by omega
    subst e
    exact .inl ⟨Nat.le_refl _, hd σ H p⟩
end L2
namespace L2
open PySem PySem.Spec PyProof.Rows
abbrev R2 := V → V → Hp → VK → Prop
def OpR (X : Cx) (f : Value → Value → Sem Value) (r : R2) : Prop :=
  ∀ (pins : List (Addr × Obj)) (s : Shared) (σ : St) (H : Hp) (x y : V) (v u : Value) (Q : VK), Inv X pins σ H s → RelV x v → RelV y u → r x y H Q →
    wpAny (model X.prog X.w) X.A (f v u) (EP X pins σ Q) X.xe s
def UnR (X : Cx) (f : Value → Sem Value) (r : V → Hp → VK → Prop) : Prop :=
  ∀ (pins : List (Addr × Obj)) (s : Shared) (σ : St) (H : Hp) (x : V) (v : Value) (Q : VK), Inv X pins σ H s → RelV x v → r x H Q →
    wpAny (model X.prog X.w) X.A (f v) (EP X pins σ Q) X.xe s
def CallR (X : Cx) (f : Value) (r : List V → Hp → VK → Prop) : Prop :=
  ∀ (pins : List (Addr × Obj)) (s : Shared) (σ : St) (H : Hp) (xs : List V) (us : List Value) (Q : VK), Inv X pins σ H s → Vals xs us → r xs H Q →
    wpAny (model X.prog X.w) X.A (call f us) (EP X pins σ Q) X.xe s
def tOp (r : R2) (ta tb : TE) : TE := fun σ H Q => ta σ H fun x H1 => tb σ H1 fun y H2 => r x y H2 Q
def tUn (r : V → Hp → VK → Prop) (ta : TE) : TE := fun σ H Q => ta σ H fun x H1 => r x H1 Q
def rI (C : Int → Int → Prop) (g : Int → Int → V) : R2 := fun x y H Q => ∃ i j, x = .int i ∧ y = .int j ∧ C i j ∧ Q (g i j) H
def rI0 (g : Int → Int → V) : R2 := fun x y H Q => ∃ i j, x = .int i ∧ y = .int j ∧ Q (g i j) H
def rU (g : Int → V) : V → Hp → VK → Prop := fun x H Q => ∃ i, x = .int i ∧ Q (g i) H
section
variable {X : Cx} {a b c : Expr} {ta tb tc : TE} {pos : Pos}
theorem binT (ha : PE X a ta) (hb : PE X b tb) {pins : List (Addr × Obj)} {s : Shared} {σ : St} {H : Hp} {R : V → V → Hp → Prop} (I : Inv X pins σ H s)
    (h : ta σ H fun x H1 => tb σ H1 fun y H2 => R x y H2) {Q : Value → Shared → Prop} {f : Value → Value → Sem Value}
    (hf : ∀ v u s2 x y H2, Inv X pins σ H2 s2 → RelV x v → RelV y u → R x y H2 → wpAny (model X.prog X.w) X.A (f v u) Q X.xe s2) :
    wpAny (model X.prog X.w) X.A (eval a X.env) (fun v s₁ => wpAny (model X.prog X.w) X.A (eval b X.env) (fun u s₂ => wpAny (model X.prog X.w) X.A (f v u) Q X.xe s₂) X.xe s₁) X.xe s := by
  refine thn (ha pins s σ H _ I h) fun v s1 ⟨x, H1, I1, r1, q1⟩ => ?_
  refine thn (hb pins s1 σ H1 _ I1 q1) fun u s2 ⟨y, H2, I2, r2, q2⟩ => ?_
  exact hf v u s2 x y H2 I2 r1 r2 q2
theorem pe_op {op : Operator} {r : R2} (ho : OpR X (binaryOp op) r) (ha : PE X a ta) (hb : PE X b tb) : PE X (.BinOp a op b pos) (tOp r ta tb) := by
  intro pins s σ H Q I h
  exact wpAny_BinOp (binT ha hb I h fun v u s2 x y H2 I2 rx ry q => ho pins s2 σ H2 x y v u Q I2 rx ry q)
theorem pe_un {op : UnaryOp} {r : V → Hp → VK → Prop} (ho : UnR X (unaryOp op) r) (ha : PE X a ta) : PE X (.UnaryOp op a pos) (tUn r ta) := by
  intro pins s σ H Q I h
  exact UnaryOp_ (thn (ha pins s σ H _ I h) fun v s1 ⟨x, H1, I1, r1, q1⟩ => ho pins s1 σ H1 x v Q I1 r1 q1)
theorem opI {f : Value → Value → Sem Value} {C : Int → Int → Prop} {g : Int → Int → Int}
    (rule : ∀ (i j : Int) (t u : Tok) (s : Shared) (Q : Value → Shared → Prop) (E : Value → Shared → Prop), C i j → Q (.int (g i j) s.toks) { s with toks := s.toks + 1 } → wpAny (model X.prog X.w) X.A (f (.int i t) (.int j u)) Q E s) :
    OpR X f (rI C fun i j => .int (g i j)) := by
  intro pins s σ H x y v u Q I rx ry h
  obtain ⟨i, j, rfl, rfl, hc, q⟩ := h
  obtain ⟨t, rfl⟩ := rx
  obtain ⟨t', rfl⟩ := ry
  exact rule i j t t' s _ _ hc ⟨.int (g i j), H, I.tok _, ⟨_, rfl⟩, q⟩
theorem opI0 {f : Value → Value → Sem Value} {g : Int → Int → Int}
    (rule : ∀ (i j : Int) (t u : Tok) (s : Shared) (Q : Value → Shared → Prop) (E : Value → Shared → Prop), Q (.int (g i j) s.toks) { s with toks := s.toks + 1 } → wpAny (model X.prog X.w) X.A (f (.int i t) (.int j u)) Q E s) :
    OpR X f (rI0 fun i j => .int (g i j)) := by
  intro pins s σ H x y v u Q I rx ry h
  obtain ⟨i, j, rfl, rfl, q⟩ := h
  obtain ⟨t, rfl⟩ := rx
  obtain ⟨t', rfl⟩ := ry
  exact rule i j t t' s _ _ ⟨.int (g i j), H, I.tok _, ⟨_, rfl⟩, q⟩
theorem opB0 {f : Value → Value → Sem Value} {g : Int → Int → Bool}
    (rule : ∀ (i j : Int) (t u : Tok) (s : Shared) (Q : Value → Shared → Prop) (E : Value → Shared → Prop), Q (.bool (g i j)) s → wpAny (model X.prog X.w) X.A (f (.int i t) (.int j u)) Q E s) :
    OpR X f (rI0 fun i j => .bl (g i j)) := by
  intro pins s σ H x y v u Q I rx ry h
  obtain ⟨i, j, rfl, rfl, q⟩ := h
  obtain ⟨t, rfl⟩ := rx
  obtain ⟨t', rfl⟩ := ry
  exact rule i j t t' s _ _ ⟨.bl (g i j), H, I, rfl, q⟩
def CPow (i j : Int) : Prop := 0 ≤ j ∧ j ≤ 1000000 ∧ i.natAbs < 2 ^ 64
def CMul (i j : Int) : Prop := (-(2 ^ 64) < i ∧ i < 2 ^ 64) ∨ (-(2 ^ 64) < j ∧ j < 2 ^ 64)
theorem CMul.ok {i j : Int} (h : CMul i j) : IntMulOk i j := by
  rcases h with ⟨h1, h2⟩ | ⟨h1, h2⟩
  · exact .of_left (intBits_le_64 h1 h2)
  · exact .of_right (intBits_le_64 h1 h2)
theorem op_add : OpR X (binaryOp .Add) (rI0 fun i j => .int (i + j)) := opI0 fun _ _ _ _ _ _ _ q => add_int q
theorem op_sub : OpR X (binaryOp .Sub) (rI0 fun i j => .int (i - j)) := opI0 fun _ _ _ _ _ _ _ q => sub_int q
theorem op_mod : OpR X (binaryOp .Mod) (rI (fun _ j => 0 < j) fun i j => .int (i % j)) := opI fun i j _ _ _ _ _ hc q => by
  have h1 : (0 : Int) < j := hc
  exact mod_int' (by omega) (by rw [Int.fmod_eq_emod_of_nonneg i (by omega)]; exact q)
theorem op_pow : OpR X (binaryOp .Pow) (rI CPow fun i j => .int (i ^ j.toNat)) := opI fun _ _ _ _ _ _ _ hc q => pow_int_small hc.1 hc.2.1 hc.2.2 q
theorem op_shl : OpR X (binaryOp .LShift) (rI CPow fun i j => .int (i * 2 ^ j.toNat)) := opI fun _ _ _ _ _ _ _ hc q => lshift_int_small hc.1 hc.2.1 hc.2.2 q
theorem op_and : OpR X (binaryOp .BitAnd) (rI0 fun i j => .int (Builtin.bitAnd i j)) := opI0 fun _ _ _ _ _ _ _ q => and_int q
theorem unI {f : Value → Sem Value} {g : Int → Int}
    (rule : ∀ (i : Int) (t : Tok) (s : Shared) (Q : Value → Shared → Prop) (E : Value → Shared → Prop), Q (.int (g i) s.toks) { s with toks := s.toks + 1 } → wpAny (model X.prog X.w) X.A (f (.int i t)) Q E s) :
    UnR X f (rU fun i => .int (g i)) := by
  intro pins s σ H x v Q I rx h
  obtain ⟨i, rfl, q⟩ := h
  obtain ⟨t, rfl⟩ := rx
  exact rule i t s _ _ ⟨.int (g i), H, I.tok _, ⟨_, rfl⟩, q⟩
theorem un_neg : UnR X (unaryOp .USub) (rU fun i => .int (-i)) := unI fun _ _ _ _ _ q => neg_int q
end
section
variable {X : Cx} {a b c : Expr} {ta tb tc : TE} {pos : Pos}
theorem op_lt : OpR X (compareOp .Lt) (rI0 fun i j => .bl (decide (i < j))) := opB0 fun _ _ _ _ _ _ _ q => lt_int q
theorem op_le : OpR X (compareOp .LtE) (rI0 fun i j => .bl (decide (i ≤ j))) := opB0 fun _ _ _ _ _ _ _ q => le_int q
theorem op_gt : OpR X (compareOp .Gt) (rI0 fun i j => .bl (decide (j < i))) := opB0 fun _ _ _ _ _ _ _ q => gt_int q
theorem op_ge : OpR X (compareOp .GtE) (rI0 fun i j => .bl (decide (j ≤ i))) := opB0 fun _ _ _ _ _ _ _ q => ge_int q
theorem pe_cmpR {op : CmpOp} {r : R2} (ho : OpR X (compareOp op) r) (ha : PE X a ta) (hb : PE X b tb) (hm : behindInMarks op b = false) : PE X (.Compare a [op] [b] pos) (tOp r ta tb) := by
  intro pins s σ H Q I h
  exact wpAny_Compare1 (binT ha hb I h fun v u s2 x y H2 I2 rx ry q => ho pins s2 σ H2 x y v u Q I2 rx ry q) hm
theorem line63 : (sizeLine : Nat) < 2 ^ 63 := by rw [sizeLine_eq]; decide
theorem op_add_str : OpR X (binaryOp .Add) (fun x y H Q => ∃ i j, x = .str i ∧ y = .str j ∧ i.length + j.length ≤ sizeLine ∧ Q (.str (i ++ j)) H) := by
  intro pins s σ H x y v u Q I rx ry h
  obtain ⟨i, j, rfl, rfl, hz, q⟩ := h
  obtain ⟨t, rfl⟩ := rx
  obtain ⟨t', rfl⟩ := ry
  exact add_str (fun t' tk => ⟨.str (i ++ j), H, I.tok _, ⟨_, rfl⟩, q⟩) hz
theorem vals1 {x : V} {us : List Value} (r : Vals [x] us) : ∃ u, us = [u] ∧ RelV x u := by
  cases r with
  | cons r1 r2 => cases r2; exact ⟨_, rfl, r1⟩
theorem vals2 {x y : V} {us : List Value} (r : Vals [x, y] us) : ∃ u w', us = [u, w'] ∧ RelV x u ∧ RelV y w' := by
  cases r with
  | cons r1 r2 =>
    cases r2 with
    | cons r3 r4 => cases r4; exact ⟨_, _, rfl, r1, r3⟩
theorem call_max2 (hc : X.calm = true) : CallR X (.builtin "max") (fun xs H Q => ∃ i j, xs = [.int i, .int j] ∧ Q (.int (if j > i then j else i)) H) := by
  intro pins s σ H xs us Q I r h
  obtain ⟨i, j, rfl, q⟩ := h
  obtain ⟨u, w', rfl, ⟨t, rfl⟩, ⟨t', rfl⟩⟩ := vals2 r
  refine max_two_ints (I.ok.hd hc) fun h' tk k => ⟨_, H, I.kept k, ?_, q⟩
  by_cases hj : j > i
  · rw [if_pos hj, if_pos hj]; exact ⟨_, rfl⟩
  · rw [if_neg hj, if_neg hj]; exact ⟨_, rfl⟩
theorem call_int1 : CallR X (.type "int") (fun xs H Q => (∃ i, xs = [.int i] ∧ Q (.int i) H) ∨ ∃ k, xs = [.bl k] ∧ Q (.int (if k then 1 else 0)) H) := by
  intro pins s σ H xs us Q I r h
  rcases h with ⟨i, rfl, q⟩ | ⟨k, rfl, q⟩
  · obtain ⟨u, rfl, t, rfl⟩ := vals1 r
    exact call_int_int ⟨.int i, H, I, ⟨_, rfl⟩, q⟩
  · obtain ⟨u, rfl, r1⟩ := vals1 r
    cases r1
    exact call_int_bool ⟨.int (if k then 1 else 0), H, I.tok _, ⟨_, rfl⟩, q⟩
def LenV (K : PySem.W.Frag) (x : V) (H : Hp) (n : Nat) : Prop :=
  match x with
  | .str y => y.length ≤ sizeLine ∧ n = y.length
  | .byt y => y.size ≤ sizeLine ∧ n = y.size
  | .ref p => (∃ xs, SqL K H p xs ∧ n = xs.length) ∨ ∃ xs, SqT K H p xs ∧ n = xs.length
  | _ => False
theorem call_len : CallR X (.builtin "len") (fun xs H Q => ∃ x n, xs = [x] ∧ LenV X.K x H n ∧ Q (.int n) H) := by
  intro pins s σ H xs us Q I r h
  obtain ⟨x, n, rfl, e, q⟩ := h
  obtain ⟨u, rfl, rx⟩ := vals1 r
  have hl := line63
  have hs : sizeLine = 16777216 := sizeLine_eq
  cases x with
  | str y =>
    obtain ⟨t, rfl⟩ := rx
    obtain ⟨hy, e'⟩ : y.length ≤ sizeLine ∧ n = y.length := e
    subst e'
    exact len_str (by omega) ⟨.int _, H, I.tok _, ⟨_, rfl⟩, q⟩
  | byt y =>
    obtain ⟨t, rfl⟩ := rx
    obtain ⟨hy, e'⟩ : y.size ≤ sizeLine ∧ n = y.size := e
    subst e'
    exact PySem.W.len_bytes (by omega) ⟨.int _, H, I.tok _, ⟨_, rfl⟩, q⟩
  | ref p =>
    cases rx
    have e' : (∃ xs, SqL X.K H p xs ∧ n = xs.length) ∨ ∃ xs, SqT X.K H p xs ∧ n = xs.length := e
    rcases e' with ⟨xs, hx, e'⟩ | ⟨xs, hx, e'⟩
    · subst e'
      obtain ⟨its, r', pl, hz⟩ := I.list hx
      have hlen := r'.length
      exact Calls.call_len_list pl.isList (by simp only [List.size_toArray]; omega) ⟨.int xs.length, H, I.tok _, ⟨_, by simp only [List.size_toArray]; rw [hlen]⟩, q⟩
    · subst e'
      obtain ⟨its, r', pl, hz⟩ := I.tuple hx
      have hlen := r'.length
      exact len_tuple pl (by simp only [List.size_toArray]; omega) ⟨.int xs.length, H, I.tok _, ⟨_, by simp only [List.size_toArray]; rw [hlen]⟩, q⟩
  | _ => exact (show False from e).elim
end
end L2
namespace L2
open PySem PySem.Spec PyProof.Rows
structure ObjM (h : Heap) (x dx C : Addr) (mA : Str → Option Value) : Prop where
  obj : h.get? x = some (PySem.W.instObj C dx)
  ns : h.Ns1 dx mA
  ne : dx ≠ x
theorem lookIn_ns {h : Heap} {dx : Addr} {mA : Str → Option Value} (n : h.Ns1 dx mA) : ∃ od, h.get? dx = some od ∧ ∀ name, PySem.W.lookIn name od = some (mA name) := by
  obtain ⟨o, es, ep, ho, hd, hk, _, hm⟩ := n
  refine ⟨o, ho, fun name => ?_⟩
  have e := hm name
  unfold nsFind findBy at e
  rw [← Array.find?_toList] at e
  unfold PySem.W.lookIn
  rw [hd]
  dsimp only
  split
  · rename_i y q
    rw [q] at e
    exact congrArg some e
  · rename_i q
    rw [q] at e
    have a : es.toList.any (·.refKey) = false := by
      rw [List.any_eq_false]
      intro y hy
      obtain ⟨z, t, hkey⟩ := hk y (Array.mem_toList_iff.mp hy)
      simp [DictEntry.refKey, hkey]
    have a' : ¬ es.toList.any (·.refKey) = true := by rw [a]; exact Bool.false_ne_true
    rw [if_neg a']
    exact congrArg some e
theorem ObjM.look {h : Heap} {x dx C : Addr} {mA : Str → Option Value} (I : ObjM h x dx C mA) : ∃ od, PySem.W.InstAt h x (PySem.W.instObj C dx) C (some od) ∧ ∀ name, PySem.W.lookIn name od = some (mA name) :=
  let ⟨od, ho, hl⟩ := lookIn_ns I.ns
  ⟨od, ⟨I.obj, rfl, rfl, ho⟩, hl⟩
section
variable {prog : Program} {w : World} {A : Around} {E : Value → Shared → Prop} {s : Shared} {K : PySem.W.Frag} {x dx C f : Addr} {mA : Str → Option Value} {name : Str} {v : Value}
end
section
variable {P : Program} {w : World} {H H' : Hp} {h h' : Heap} {a C dx : Addr} {fs fs' : List (Str × V)}
theorem ins_get (hok : HOk P w H h) (e : H a = some (.ins C dx fs)) : ∃ mA, ObjM h a dx C mA ∧ (∀ f, RelO (fs.lookup f) (mA f)) ∧ PySem.Within mA (fs.map (·.1)) ∧ fs.length ≤ 1000 ∧ H dx = some (.own a) := by
  obtain ⟨d, z, ne, ob, mA, n, r, q⟩ := (show ObjOk P w H h a (.ins C dx fs) from hok a _ e)
  exact ⟨mA, ⟨ob, n, ne⟩, r, q, z, d⟩
end
structure Cls (K : PySem.W.Frag) (C : Addr) : Prop where
  pg : PySem.W.plainGet K C Str.empty = true
  hd : PySem.W.hasDictIn K C = true
  po : PySem.W.plainOver K C = true
  sa : PySem.W.findIn K (.ref C) "__setattr__" = some (some (.builtin "object.__setattr__"))
theorem Cls.get {K : PySem.W.Frag} {C : Addr} (c : Cls K C) (f : Str) : PySem.W.plainGet K C f = true := c.pg
structure Con (K : PySem.W.Frag) (C : Addr) (f : Str) (v : V) (u : Value) : Prop where
  at_ : PySem.W.findIn K (.ref C) f = some (some u)
  rel : RelV v u
  get : PySem.W.specialIn K u "__get__" = some none
  cp : PySem.W.copiedNames.contains f = false
structure Meth (K : PySem.W.Frag) (C : Addr) (m : Str) (f : Addr) : Prop where
  at_ : PySem.W.findIn K (.ref C) m = some (some (.ref f))
  fn : PySem.W.isFn K (.ref f) = true
  kp : PySem.W.keepIn K (.ref f) = true
section
variable {X : Cx} {pins : List (Addr × Obj)} {σ : St} {H : Hp} {s : Shared} {a C dx : Addr} {fs : List (Str × V)} {f : Str} {v : V} {A : Around} {E : Value → Shared → Prop}
end
section
variable {X : Cx} {o e value : Expr} {f : Str} {pos pos' tpos : Pos} {ta tv : TE}
end
section
variable {X : Cx} {pins : List (Addr × Obj)} {σ : St} {H : Hp} {s : Shared} {A : Around} {E : Value → Shared → Prop} {Q : Value → Shared → Prop} {c : Value} {b : Bool}
inductive TyOf (K : PySem.W.Frag) (H : Hp) : V → Value → Prop where
  | non : TyOf K H .non (.type "NoneType")
  | bl (x : Bool) : TyOf K H (.bl x) (.type "bool")
  | int (i : Int) : TyOf K H (.int i) (.type "int")
  | str (x : Str) : TyOf K H (.str x) (.type "str")
  | flt (x : UInt64) : TyOf K H (.flt x) (.type "float")
  | lst {a : Addr} {xs : List V} (e : H a = some (.lst xs)) : TyOf K H (.ref a) (.type "list")
  | frz {a : Addr} {o : Obj} {xs : List V} (e : H a = some (.frz o (.lst xs))) : TyOf K H (.ref a) (.type "list")
  | tup {a : Addr} {xs : List V} (e : H a = some (.tup xs)) : TyOf K H (.ref a) (.type "tuple")
  | dK {a : Addr} {kvs : List (Key × V)} (e : H a = some (.dK kvs)) : TyOf K H (.ref a) (.type "dict")
  | dT {a : Addr} {kvs : List (List Key × V)} (e : H a = some (.dT kvs)) : TyOf K H (.ref a) (.type "dict")
  | ins {a C dx : Addr} {fs : List (Str × V)} (e : H a = some (.ins C dx fs)) (cl : Cls K C) (ha : PySem.W.findIn K (.ref C) "__class__" = some (some (.builtin "object.__class__")))
      (hn : PySem.W.specialIn K (.builtin "object.__class__") "__get__" = some (some (.builtin "getset_descriptor.__get__"))) (htk : PySem.W.takesIn K (.builtin "object.__class__") = some true)
      (hm : PySem.W.mroIn K C (.type "object") = some true) : TyOf K H (.ref a) (.ref C)
theorem isinst_ok {x : V} {u t : Value} (I : Inv X pins σ H s) (rx : RelV x u) (ty : TyOf X.K H x t) (e : PySem.W.kitOne X.K t c = some b) (h : ∀ tk, Q (.bool b) { s with toks := tk }) :
    wpAny (model X.prog X.w) A (call (.builtin "isinstance") [u, c]) Q E s := by
  cases ty with
  | non => cases (show u = Value.none from rx); exact PySem.W.kia_one PySem.W.kitx_none I.kIn True.intro e (fun z => nomatch z) h
  | bl y => cases (show u = Value.bool y from rx); exact PySem.W.kia_one PySem.W.kitx_bool I.kIn True.intro e (fun z => nomatch z) h
  | int i => obtain ⟨t, q⟩ := (show ∃ t, u = Value.int i t from rx); cases q; exact PySem.W.kia_one PySem.W.kitx_int I.kIn True.intro e (fun z => nomatch z) h
  | str y => obtain ⟨t, q⟩ := (show ∃ t, u = Value.str y t from rx); cases q; exact PySem.W.kia_one PySem.W.kitx_str I.kIn True.intro e (fun z => nomatch z) h
  | flt y => obtain ⟨t, q⟩ := (show ∃ t, u = Value.float y t from rx); cases q; exact PySem.W.kia_one PySem.W.kitx_float I.kIn True.intro e (fun z => nomatch z) h
  | @lst a xs ea =>
    cases (show u = Value.ref a from rx)
    obtain ⟨_, _, n, _, h1⟩ := (show ObjOk X.prog X.w H s.heap a (.lst xs) from I.hok a _ ea)
    exact PySem.W.kia_one PySem.W.kitx_list I.kIn ⟨_, h1, rfl⟩ e (fun z => nomatch z) h
  | @frz a ob xs ea =>
    cases (show u = Value.ref a from rx)
    obtain ⟨_, _, _, n, _, h1⟩ := (show ObjOk X.prog X.w H s.heap a (.frz ob (.lst xs)) from I.hok a _ ea)
    exact PySem.W.kia_one PySem.W.kitx_list I.kIn ⟨_, h1, rfl⟩ e (fun z => nomatch z) h
  | @tup a xs ea =>
    cases (show u = Value.ref a from rx)
    obtain ⟨_, _, _, p⟩ := (show ObjOk X.prog X.w H s.heap a (.tup xs) from I.hok a _ ea)
    obtain ⟨o, h1, h2, _⟩ := p
    exact PySem.W.kia_one PySem.W.kitx_tuple I.kIn ⟨o, h1, h2⟩ e (fun z => nomatch z) h
  | @dK a kvs ea =>
    cases (show u = Value.ref a from rx)
    obtain ⟨_, _, vs, _, p⟩ := (show ObjOk X.prog X.w H s.heap a (.dK kvs) from I.hok a _ ea)
    obtain ⟨o, es, ep, h1, h2, _⟩ := p
    exact PySem.W.kia_one PySem.W.kitx_dict I.kIn ⟨o, h1, h2.1⟩ e (fun z => nomatch z) h
  | @dT a kvs ea =>
    cases (show u = Value.ref a from rx)
    obtain ⟨_, _, xs, _, o, es, ep, h1, h2, _⟩ := (show ObjOk X.prog X.w H s.heap a (.dT kvs) from I.hok a _ ea)
    exact PySem.W.kia_one PySem.W.kitx_dict I.kIn ⟨o, h1, h2.1⟩ e (fun z => nomatch z) h
  | @ins a C dx fs ea cl ha hn htk hm =>
    cases (show u = Value.ref a from rx)
    obtain ⟨mA, O, _⟩ := ins_get I.hok ea
    obtain ⟨od, J, _⟩ := O.look
    exact PySem.W.kia_one (PySem.W.kitx_own (cl.get _) cl.hd ha hn htk hm) I.kIn J e (fun z => nomatch z) h
end
end L2
namespace L2
open PySem PySem.Spec PyProof.Rows
structure Room (k : Nat) (A : Around) : Prop where
  hd : A.handled = none
  dp : A.depth + 3 * k + 5 < recursionLimit
  un : A.units + 16 * k + 200 < cLine
  gd : A.guards = some []
theorem Room.mono {j k : Nat} {A : Around} (r : Room k A) (h : j ≤ k) : Room j A := ⟨r.hd, by have := r.dp; omega, by have := r.un; omega, r.gd⟩
theorem Room.deeper {k : Nat} {A : Around} (r : Room (k + 1) A) (env : Env) : Room k (A.deeper env) :=
  ⟨r.hd, by have := r.dp; show A.depth + 1 + 3 * k + 5 < _; omega, by have := r.un; show A.units + 3 + 16 * k + 200 < _; omega, r.gd⟩
theorem Room.depth {k : Nat} {A : Around} (r : Room k A) : A.depth < recursionLimit := by have := r.dp; omega
def tNil : TA := fun _ H Q => Q [] H
def tCons (ta : TE) (tr : TA) : TA := fun σ H Q => ta σ H fun x H1 => tr σ H1 fun xs H2 => Q (x :: xs) H2
section
variable {X : Cx} {e : Expr} {es : List Expr} {te : TE} {t : TA} {pos : Pos}
theorem pa_nil : PA X [] tNil := fun _ _ _ _ H Q I h => Calls.spliced_nil ⟨[], H, I, .nil, h⟩
theorem pa_cons (ha : PE X e te) (hr : PA X es t) (hs : starEach (e :: es) X.env = (false, eval e X.env) :: starEach es X.env := by rfl) : PA X (e :: es) (tCons te t) := by
  intro pos pins s σ H Q I h
  rw [hs]
  show wpAny _ _ (spliced ((false, eval e X.env) :: backTo pos (starEach es X.env))) _ _ s
  refine Calls.spliced_cons (thn (ha pins s σ H _ I h) fun u s1 ⟨x, H1, I1, r1, q1⟩ => ?_)
  exact thn (hr pos pins s1 σ H1 _ I1 q1) fun us s2 ⟨xs, H2, I2, r2, q2⟩ => ⟨x :: xs, H2, I2, .cons r1 r2, q2⟩
def tTup (t : TA) : TE := fun σ H Q => t σ H fun xs H1 => xs.length ≤ sizeLine ∧ ∀ p, H1 p = none → Q (.ref p) (upd H1 p (.tup xs))
def tLst (t : TA) : TE := fun σ H Q => t σ H fun xs H1 => xs.length ≤ sizeLine ∧ ∀ p, H1 p = none → Q (.ref p) (upd H1 p (.lst xs))
theorem pe_tup {x1} (h : PA X es t) : PE X (.Tuple es x1 pos) (tTup t) := by
  intro pins s σ H Q I hq
  refine wpAny_Tuple_spliced (thn (h pos pins s σ H _ I hq) fun us s1 ⟨xs, H1, I1, r, z, q⟩ => ⟨by rw [← r.length]; exact z, ?_⟩)
  have hf : H1 s1.heap.objs.size = none := I1.hok.fresh (Nat.le_refl _)
  refine ⟨.ref s1.heap.objs.size, upd H1 s1.heap.objs.size (.tup xs), I1.laid (t' := s1.toks) (fun b u e => Heap.get?_push_of_some _ e) (Nat.le_refl _) ?_, rfl, q _ hf⟩
  exact ⟨z, us, r, ⟨_, Heap.get?_push_size _ rfl, rfl, ⟨_, rfl⟩, rfl⟩⟩
theorem pe_lst (h : PA X es t) : PE X (.List es pos) (tLst t) := by
  intro pins s σ H Q I hq
  refine wpAny_List_spliced (thn (h pos pins s σ H _ I hq) fun us s1 ⟨xs, H1, I1, r, z, q⟩ => ⟨by rw [← r.length]; exact z, ?_⟩)
  have hf : H1 s1.heap.objs.size = none := I1.hok.fresh (Nat.le_refl _)
  refine ⟨.ref s1.heap.objs.size, upd H1 s1.heap.objs.size (.lst xs), I1.laid (t' := s1.toks) (fun b u e => Heap.get?_push_of_some _ e) (Nat.le_refl _) ?_, rfl, q _ hf⟩
  exact ⟨z, us, 0, r, Heap.get?_push_size _ rfl⟩
end
abbrev Sp := List V → Hp → VK → XK → Prop
abbrev CXT := List Env → Hp → Shared → XK → Value → Shared → Prop
structure Env0 (P : Program) (w : World) (K : PySem.W.Frag) (mg : Str → Option Value) (base : Heap) (A : Around) (outer : List Env) (s : Shared) (H : Hp) : Prop where
  frames : A.frames = some outer
  mod : Mod K mg base
  bs : ∀ b o, base.get? b = some o → s.heap.get? b = some o ∧ H b = none
  bsz : base.objs.size ≤ s.heap.objs.size
  funs : s.heap.FunFrames base outer
  frf : ∀ b ∈ frs outer, H b = none
  hok : HOk P w H s.heap
  bare : AllBare s.gens
def CE (outer : List Env) (P : Program) (w : World) (H : Hp) (s : Shared) (Q : VK) (u : Value) (s' : Shared) : Prop :=
  ∃ v H', s'.os = s.os ∧ AllBare s'.gens ∧ Un (frs outer) [] H H' s.heap s'.heap ∧ HOk P w H' s'.heap ∧ RelV v u ∧ Q v H'
def CR (CX : CXT) (outer : List Env) (P : Program) (w : World) (H : Hp) (s : Shared) (Q : VK) (E : XK) (r : Result) (s' : Shared) : Prop :=
  match r with
  | .ok (.ret u) => CE outer P w H s Q u s'
  | .ok _ => False
  | .error e => CX outer H s E e s'
structure FnOk (P : Program) (w : World) (K : PySem.W.Frag) (mg : Str → Option Value) (base : Heap) (CX : CXT) (k : Nat) (f : Addr) (fd : FuncData) (ps : List Str) (sp : Sp) : Prop where
  len : ∀ vs H Q E, sp vs H Q E → vs.length = ps.length
  run : ∀ (A : Around) (outer : List Env) (s : Shared) (H : Hp) (args : Args) (us : List Value) (vs : List V) (Q : VK) (E : XK), Room k A → Env0 P w K mg base A outer s H → BindsTo s fd args (ps.zip us) → Vals vs us → sp vs H Q E →
    codeAny (model P w) A (.call (.ref f) args) (CR CX outer P w H s Q E) s
section
variable {X : Cx} {pins : List (Addr × Obj)} {σ : St} {H : Hp} {s s' : Shared}
theorem Inv.env0 (I : Inv X pins σ H s) : Env0 X.prog X.w X.K X.mg X.base X.A X.stack s H :=
  ⟨I.ok.frames, I.ok.mod, I.bs, Nat.le_trans I.ok.bsz I.sz, I.stack, I.stkFree, I.hok, I.bare⟩
theorem Inv.after {Q : VK} {u : Value} (I : Inv X pins σ H s) (h : CE X.stack X.prog X.w H s Q u s') : EP X pins σ Q u s' := by
  obtain ⟨v, H', os, bare, un, hok, r, q⟩ := h
  obtain ⟨hh, g, d, t, os'⟩ := s'
  obtain rfl : os' = s.os := os
  exact ⟨v, H', I.call (h' := hh) (g' := g) (d' := d) (t' := t) (ch := []) un hok bare (fun b z => absurd z (by simp)), r, q⟩
end
def tCall (sp : Sp) (dvs : List V) (E : XK) (t : TA) : TE := fun σ H Q => t σ H fun vs H1 => sp (vs ++ dvs) H1 Q E
def Binds (K : PySem.W.Frag) (fd : FuncData) (ps : List Str) (ds : List Value) : Prop :=
  ∀ (s : Shared) (us : List Value), K.In s.heap → (us ++ ds).length = ps.length → BindsTo s fd ⟨us, []⟩ (ps.zip (us ++ ds))
theorem Binds.all {K : PySem.W.Frag} {fd : FuncData} {ps : List Str} (h : ∀ us : List Value, us.length = ps.length → bindArgs fd ⟨us, []⟩ = pure (ps.zip us)) : Binds K fd ps [] := fun s us _ hl => by
  rw [List.append_nil] at hl ⊢
  exact .of_eq (h us hl)
def Passes (CX : CXT) (X : Cx) (E : XK) : Prop := ∀ (pins : List (Addr × Obj)) (σ : St) (H : Hp) (s : Shared) (e : Value) (s' : Shared), Inv X pins σ H s → CX X.stack H s E e s' → X.xe e s'
section
variable {X : Cx} {CX : CXT} {k : Nat} {f C : Addr} {fd : FuncData} {ps : List Str} {sp : Sp} {dvs : List V} {ds : List Value} {E : XK} {x m : Str} {p pos apos : Pos} {e o : Expr} {es : List Expr} {ta : TE} {t : TA}
theorem run_fn {pins : List (Addr × Obj)} {σ : St} {H : Hp} {s : Shared} {Q : VK} {us : List Value} {vs : List V} (F : FnOk X.prog X.w X.K X.mg X.base CX k f fd ps sp) (hr : Room k X.A) (hb : Binds X.K fd ps ds) (hd : Vals dvs ds) (hx : Passes CX X E)
    (I : Inv X pins σ H s) (r : Vals vs us) (h : sp (vs ++ dvs) H Q E) : wpAny (model X.prog X.w) X.A (call (.ref f) us) (EP X pins σ Q) X.xe s := by
  have r2 : Vals (vs ++ dvs) (us ++ ds) := r.append hd
  have hl : (us ++ ds).length = ps.length := by rw [← r2.length]; exact F.len _ _ _ _ h
  refine wpAny_call (codeAny_mono (F.run X.A X.stack s H ⟨us, []⟩ (us ++ ds) (vs ++ dvs) Q E hr I.env0 (hb s us I.kIn hl) r2 h) fun r s' hq => ?_)
  cases r with
  | error e => exact hx pins σ H s e s' I hq
  | ok fl =>
    cases fl with
    | ret u => exact I.after hq
    | next => exact False.elim hq
    | brk => exact False.elim hq
    | cont => exact False.elim hq
theorem pe_call (F : FnOk X.prog X.w X.K X.mg X.base CX k f fd ps sp) (hr : Room k X.A) (hg : Gl X x) (hm : X.mg x = some (.ref f)) (hk : PySem.W.keepIn X.K (.ref f) = true) (hb : Binds X.K fd ps ds) (hd : Vals dvs ds) (hx : Passes CX X E)
    (ha : PA X (e :: es) t) (hdb : (x == ("__debug__" : Str)) = false := by decide) (he : starEach (e :: es) X.env = (false, eval e X.env) :: starEach es X.env := by rfl) (hpl : (backTo pos (starEach es X.env)).any (·.1) = false := by rfl) :
    PE X (.Call (.Name x p) (e :: es) [] pos) (tCall sp dvs E t) := by
  intro pins s σ H Q I h
  refine wpAny_Call_Name_kw (ld_glob I hg hm ?_ hdb)
  refine PySem.W.callWith_K (h₀ := X.base) I.ok.mod.kin hk (thn (ha pos pins s σ H _ I h) fun us s1 ⟨vs, H1, I1, r, q⟩ => ⟨I1.kIn, ?_⟩) he hpl
  exact run_fn F hr hb hd hx I1 r q
structure Mk (K : PySem.W.Frag) (C f : Addr) : Prop where
  makes : PySem.W.makesIn K C = true
  init : PySem.W.findIn K (.ref C) "__init__" = some (some (.ref f))
  fn : PySem.W.isFn K (.ref f) = true
  kp : PySem.W.keepIn K (.ref C) = true
end
section
variable {X : Cx} {CX : CXT} {k : Nat} {f C : Addr} {fd : FuncData} {ps ks : List Str} {sp : Sp} {E : XK} {x m : Str} {p pos apos kpos : Pos} {e o : Expr} {es : List Expr} {kws : List Keyword} {te ta : TE} {t tk : TA} {nm : Option Str}
structure KBinds (K : PySem.W.Frag) (fd : FuncData) (ps ks : List Str) (g : List Value → List Value → List Value) (gV : List V → List V → List V) : Prop where
  to : ∀ (s : Shared) (us ws : List Value), K.In s.heap → (g us ws).length = ps.length → BindsTo s fd ⟨us, ks.zip ws⟩ (ps.zip (g us ws))
  rel : ∀ {vs : List V} {us : List Value} {zs : List V} {ws : List Value}, Vals vs us → Vals zs ws → Vals (gV vs zs) (g us ws)
variable {g : List Value → List Value → List Value} {gV : List V → List V → List V}
end
structure FnScope (N P : List Str) (sc : Scope) : Prop where
  kind : sc.kind = .function
  co : sc.isCoroutine = false
  gen : sc.isGenerator = false
  nd : N.Nodup
  pre : N.take P.length = P
  par : ∀ x ∈ P, sc.names.lookup x = some .local ∨ sc.names.lookup x = some .cell
  nofree : ∀ y ∈ sc.names, y.2 ≠ .free
theorem bindL_out {kindOf : Str → Option NameKind} {x : Str} : ∀ {binds : List (Str × Value)} {m : Str → Option Value}, (∀ v, (x, v) ∉ binds) → bindL kindOf binds m x = m x
  | [], _, _ => rfl
  | (n, v) :: r, m, h => by
    unfold bindL
    rw [bindL_out fun w hw => h w (List.mem_cons_of_mem _ hw)]
    split
    · have : x ≠ n := by rintro rfl; exact h v List.mem_cons_self
      simp [this]
    · rfl
theorem bindC_out {kindOf : Str → Option NameKind} {x : Str} : ∀ {binds : List (Str × Value)} {m : Str → Option Value}, (∀ v, (x, v) ∉ binds) → bindC kindOf binds m x = m x
  | [], _, _ => rfl
  | (n, v) :: r, m, h => by
    unfold bindC
    rw [bindC_out fun w hw => h w (List.mem_cons_of_mem _ hw)]
    split
    · rfl
    · have : x ≠ n := by rintro rfl; exact h v List.mem_cons_self
      simp [this]
theorem bindL_get {kindOf : Str → Option NameKind} {x : Str} {v : Value} : ∀ {P : List Str} {vs : List Value} {i : Nat} {m : Str → Option Value}, P.Nodup → P[i]? = some x → vs[i]? = some v → kindOf x = some .local →
    bindL kindOf (P.zip vs) m x = some v
  | [], _, _, _, _, h, _, _ => by simp at h
  | _ :: _, [], _, _, _, _, h, _ => by simp at h
  | p :: P, w :: vs, 0, m, nd, h1, h2, hk => by
    simp at h1 h2; subst h1; subst h2
    show bindL kindOf ((p, w) :: P.zip vs) m p = _
    unfold bindL
    rw [bindL_out fun v hv => (List.nodup_cons.mp nd).1 (List.of_mem_zip hv).1, if_pos hk]
    simp
  | p :: P, w :: vs, i + 1, m, nd, h1, h2, hk => by
    show bindL kindOf ((p, w) :: P.zip vs) m x = _
    unfold bindL
    exact bindL_get (i := i) (List.nodup_cons.mp nd).2 (by simpa using h1) (by simpa using h2) hk
theorem bindC_get {kindOf : Str → Option NameKind} {x : Str} {v : Value} : ∀ {P : List Str} {vs : List Value} {i : Nat} {m : Str → Option Value}, P.Nodup → P[i]? = some x → vs[i]? = some v → kindOf x ≠ some .local →
    bindC kindOf (P.zip vs) m x = some v
  | [], _, _, _, _, h, _, _ => by simp at h
  | _ :: _, [], _, _, _, _, h, _ => by simp at h
  | p :: P, w :: vs, 0, m, nd, h1, h2, hk => by
    simp at h1 h2; subst h1; subst h2
    show bindC kindOf ((p, w) :: P.zip vs) m p = _
    unfold bindC
    rw [bindC_out fun v hv => (List.nodup_cons.mp nd).1 (List.of_mem_zip hv).1, if_neg hk]
    simp
  | p :: P, w :: vs, i + 1, m, nd, h1, h2, hk => by
    show bindC kindOf ((p, w) :: P.zip vs) m x = _
    unfold bindC
    exact bindC_get (i := i) (List.nodup_cons.mp nd).2 (by simpa using h1) (by simpa using h2) hk
def start (N : List Str) (vs : List V) : St := vs.map some ++ List.replicate (N.length - vs.length) none
def cxOf (CX : CXT) (P : Program) (w : World) (K : PySem.W.Frag) (mg : Str → Option Value) (base : Heap) (N : List Str) (qual : Str) (scope : Scope) (f : Addr) (cd : Value) (A : Around) (outer : List Env) (s : Shared) (H : Hp) (E : XK) : Cx where
  prog := P
  w := w
  K := K
  mg := mg
  base := base
  A := A.deeper (envOfC qual scope s.heap.objs.size f cd)
  N := N
  s₀ := s
  H₀ := H
  env := envOfC qual scope s.heap.objs.size f cd
  outer := outer
  stack := envOfC qual scope s.heap.objs.size f cd :: outer
  ex := []
  calm := true
  fn := fun _ => true
  pn := []
  xe := fun e s' => wpAny (model P w) (A.deeper (envOfC qual scope s.heap.objs.size f cd)) (leaving (envOfC qual scope s.heap.objs.size f cd) e) (fun _ s'' => CX outer H s E e s'') (fun e' s'' => CX outer H s E e' s'') s'
theorem cell_has {sc : Scope} {n : Nat} {x : Str} (h : sc.names.lookup x = some .cell) : ∃ c, (cellsFrom n sc.names []).lookup x = some c := by
  have q := PySem.W.cellsFrom_some sc.names n [] (.inl h)
  exact Option.isSome_iff_exists.mp q
theorem inv_start {CX : CXT} {P : Program} {w : World} {K : PySem.W.Frag} {mg : Str → Option Value} {base : Heap} {N ps : List Str} {qual : Str} {scope : Scope} {f : Addr} {cd : Value} {A : Around} {outer : List Env} {s s1 : Shared} {H : Hp} {E : XK} {us : List Value} {vs : List V}
    (S : FnScope N ps scope) (hd : A.handled = none) (e0 : Env0 P w K mg base A outer s H) (hl : vs.length = ps.length) (r : Vals vs us)
    (x : InCallC s s.heap.objs.size (bindL (envOfC qual scope s.heap.objs.size f cd).kindOf (ps.zip us) fun _ => none) (cellsFrom (s.heap.objs.size + 1) scope.names []) (bindC (envOfC qual scope s.heap.objs.size f cd).kindOf (ps.zip us) fun _ => none) s1) :
    Inv (cxOf CX P w K mg base N qual scope f cd A outer s H E) [] (start N vs) H s1 := by
  have hpl : ps.length ≤ N.length := by have := congrArg List.length S.pre; rw [List.length_take] at this; omega
  obtain ⟨h1, tk, rfl, hk⟩ := x.done
  have noA : ∀ b : Addr, b ∉ (cxOf CX P w K mg base N qual scope f cd A outer s H E).ex := fun b z => absurd (show b ∈ ([] : List Addr) from z) (by simp)
  refine ⟨⟨e0.mod, S.kind, rfl, rfl, Nat.le_refl _, fun y z c h1 h2 => ?_, fun y hy => ?_, fun y c _ h => ?_, fun _ => hd, Around.frames_deeper e0.frames, .inr ⟨rfl, rfl⟩, fun b z => absurd z (noA b), e0.bs, e0.bsz, fun b _ _ => noA b, fun b z => absurd z (noA b), e0.funs, e0.frf⟩,
    rfl, e0.bare, Un.kept hk, ⟨_, x.toInCall.ns, fun i y v h1 h2 h3 => ?_⟩, fun y c h => ⟨_, x.cell y c h⟩, e0.hok.fresh (Nat.le_refl _), fun y c h => ?_, fun p hp => absurd (show p ∈ ([] : List (Addr × Obj)) from hp) (by simp), e0.hok.kept hk, ?_⟩
  · exact name_of_addr x.apart (PySem.mem_of_lookup h1) (PySem.mem_of_lookup h2)
  · have hy : scope.names.lookup y = some .cell ∨ scope.names.lookup y = some .free := hy
    rcases hy with hy | hy
    · exact cell_has hy
    · exact absurd rfl (S.nofree _ (PySem.mem_of_lookup hy))
  · exact Nat.le_of_lt (x.above y c (PySem.mem_of_lookup h))
  · have hi : i < vs.length := by
      unfold start at h2
      by_cases hi : i < vs.length
      · exact hi
      · rw [List.getElem?_append_right (by simpa using hi)] at h2
        rw [List.getElem?_replicate] at h2
        split at h2 <;> cases h2
    have ha : vs[i]? = some v := by
      unfold start at h2
      rw [List.getElem?_append_left (by simpa using hi), List.getElem?_map] at h2
      cases e : vs[i]? with
      | none => rw [e] at h2; cases h2
      | some a => rw [e] at h2; cases h2; rfl
    obtain ⟨u, hu, rv⟩ := r.get ha
    have hp : ps[i]? = some y := by
      rw [← S.pre, List.getElem?_take_of_lt (by omega)]; exact h1
    have ndP : ps.Nodup := by rw [← S.pre]; exact S.nd.sublist (List.take_sublist _ _)
    refine ⟨u, rv, ?_⟩
    rcases S.par y (List.mem_of_getElem? hp) with k | k
    · exact .inl ⟨k, bindL_get ndP hp hu k⟩
    · obtain ⟨c, e⟩ := cell_has (n := s.heap.objs.size + 1) k
      refine .inr ⟨.inl k, c, e, ?_⟩
      have q := x.cell y c e
      rw [bindC_get ndP hp hu (by show scope.names.lookup y ≠ _; rw [k]; decide)] at q
      exact q
  · exact e0.hok.fresh (Nat.le_of_lt (x.above y c (PySem.mem_of_lookup h)))
  · unfold start
    show _ = N.length
    rw [List.length_append, List.length_map, List.length_replicate]
    omega
theorem fn_of {CX : CXT} {P : Program} {w : World} {K : PySem.W.Frag} {mg : Str → Option Value} {base : Heap} {k : Nat} {f : Addr} {name qual : Str} {params : Arguments} {body : List Stmt} {scope : Scope} {dV kV doc pm cdv ct oc : Value} {an od : Option Addr}
    {osl : Array (Option Value)} {N ps : List Str} {sp : Sp} (lk : K.lookup f = some ⟨oc, od, .func (PySem.W.fnOf name qual params body scope dV kV doc pm an cdv ct), osl⟩) (hcd : PySem.W.codeIn K cdv qual = true) (S : FnScope N ps scope)
    (len : ∀ vs H Q E, sp vs H Q E → vs.length = ps.length)
    (hbody : ∀ (A : Around) (outer : List Env) (s : Shared) (H : Hp) (vs : List V) (Q : VK) (E : XK), Room k (A.deeper (envOfC qual scope s.heap.objs.size f cdv)) → sp vs H Q E →
      ∃ t, PSs (cxOf CX P w K mg base N qual scope f cdv A outer s H E) body t ∧ t { nx := fun _ H' => Q .non H', rt := Q } (start N vs) H) :
    FnOk P w K mg base CX (k + 1) f (PySem.W.fnOf name qual params body scope dV kV doc pm an cdv ct) ps sp := by
  refine ⟨len, fun A outer s H args us vs Q E hr e0 hb r hsp => ?_⟩
  have hl := len _ _ _ _ hsp
  have KX : K.In s.heap := e0.mod.kin.keeps fun b o e => (e0.bs b o e).1
  have lim : s.heap.NoLimit := e0.mod.nolimit.keeps fun b o e => (e0.bs b o e).1
  have hkind : ∀ y ∈ ps.zip us, scope.names.lookup y.1 = some .local ∨ (scope.names.lookup y.1 = some .cell ∧ ((cellsFrom (s.heap.objs.size + 1) scope.names []).lookup y.1).isSome = true) := fun ⟨n, v⟩ hy => by
    rcases S.par n (List.of_mem_zip hy).1 with q | q
    · exact .inl q
    · exact .inr ⟨q, PySem.W.cellsFrom_some _ _ _ (.inl q)⟩
  refine codeAny_call_function hr.depth (KX _ _ lk) rfl S.co S.gen rfl (PySem.W.codeRec_of KX hcd) (hb _ _ _ _ ?_)
  refine wpAny_newFunctionEnv_cells S.kind hkind fun env he s1 x => ?_
  subst he
  refine ⟨lim.keeps x.toInCall.keep, codeAny_func ?_⟩
  obtain ⟨t, ht, hq⟩ := hbody A outer s H vs Q E (hr.deeper _) hsp
  have I : Inv (cxOf CX P w K mg base N qual scope f cdv A outer s H E) [] (start N vs) H s1 := inv_start S hr.hd e0 hl r x
  refine wpAny_mono (ht [] s1 (start N vs) H _ I hq) (fun fl s' hs => ?_) fun e s' hs => hs
  have fin : ∀ {σ' : St} {H' : Hp} {v : V} {u : Value}, Inv (cxOf CX P w K mg base N qual scope f cdv A outer s H E) [] σ' H' s' → RelV v u → Q v H' → CE outer P w H s Q u s' :=
    fun {σ' H' v u} J rv q => ⟨v, H', J.os, J.bare, J.base, J.hok, rv, q⟩
  cases fl with
  | ret u =>
    obtain ⟨v, σ', H', J, rv, q⟩ := hs
    exact fin J rv q
  | next =>
    obtain ⟨σ', H', J, q⟩ := hs
    exact fin (v := V.non) (u := Value.none) J rfl q
  | brk =>
    obtain ⟨_, _, _, q⟩ := hs
    exact False.elim q
  | cont =>
    obtain ⟨_, _, _, q⟩ := hs
    exact False.elim q
end L2
namespace L2
open PySem PySem.Spec PyProof.Rows
section
variable {X : Cx} {x : Str} {p pos : Pos} {e : Expr} {es : List Expr} {t : TA} {id T : String} {r : List V → Hp → VK → Prop}
def tCB (r : List V → Hp → VK → Prop) (t : TA) : TE := fun σ H Q => t σ H fun vs H1 => r vs H1 Q
theorem pe_callB (hc : CallR X (.builtin id) r) (hg : Gl X x) (hm : X.mg x = none) (hv : bootBuiltins x = some (.builtin id)) (ha : PA X (e :: es) t) (hn : x ≠ "__name__" := by decide) (hdb : (x == ("__debug__" : Str)) = false := by decide)
    (he : starEach (e :: es) X.env = (false, eval e X.env) :: starEach es X.env := by rfl) (hpl : (backTo pos (starEach es X.env)).any (·.1) = false := by rfl) : PE X (.Call (.Name x p) (e :: es) [] pos) (tCB r t) := by
  intro pins s σ H Q I h
  refine wpAny_Call_Name_kw (ld_blt I hg hm hv ?_ hn hdb)
  exact PyProof.Rows.callWith_builtin1 (thn (ha pos pins s σ H _ I h) fun us s1 ⟨vs, H1, I1, r1, q1⟩ => hc pins s1 σ H1 vs us Q I1 r1 q1) he hpl
theorem pe_callTy (hc : CallR X (.type T) r) (hg : Gl X x) (hm : X.mg x = none) (hv : bootBuiltins x = some (.type T)) (ha : PA X (e :: es) t) (hn : x ≠ "__name__" := by decide) (hdb : (x == ("__debug__" : Str)) = false := by decide)
    (he : starEach (e :: es) X.env = (false, eval e X.env) :: starEach es X.env := by rfl) (hpl : (backTo pos (starEach es X.env)).any (·.1) = false := by rfl) : PE X (.Call (.Name x p) (e :: es) [] pos) (tCB r t) := by
  intro pins s σ H Q I h
  refine wpAny_Call_Name_kw (ld_blt I hg hm hv ?_ hn hdb)
  exact PyProof.Rows.callWith_type1 (thn (ha pos pins s σ H _ I h) fun us s1 ⟨vs, H1, I1, r1, q1⟩ => hc pins s1 σ H1 vs us Q I1 r1 q1) he hpl
end
end L2
namespace HT
open PySem PyProof.Rows
section
open PySem.SeqAt
open PySem.AutoSeq1 (wpAny_loadPart')
open PySem.MeetsSeq PySem.MeetsSeq2 PySem.MeetsSeq3
end
section
variable {prog : Program} {w : World} {A : Around} {E : Value → Shared → Prop} {s : Shared}
theorem cat_tup {t b : Addr} {vs ws : List Value} {Q : Value → Shared → Prop} (ht : IsTup s.heap t vs.toArray) (hb : IsTup s.heap b ws.toArray) (hv : vs ≠ [])
    (h1 : ws = [] → Q (.ref t) s) (h2 : ws ≠ [] → Q (.ref s.heap.objs.size) { s with heap := s.heap.push { cls := .type "tuple", data := .seq (vs ++ ws).toArray } })
    (hsz : vs.length + ws.length ≤ sizeLine) : wpAny (model prog w) A (binaryOp .Add (.ref t) (.ref b)) Q E s := by
  obtain ⟨⟨cls, dd, data, sl⟩, ho, hc, n, hd⟩ := id ht
  obtain ⟨⟨cls2, dd2, data2, sl2⟩, ho2, hc2, n2, hd2⟩ := id hb
  simp only at hc hd hc2 hd2
  subst hc hd hc2 hd2
  have e : vs.toArray ++ ws.toArray = (vs ++ ws).toArray := by simp
  by_cases hw : ws = []
  · exact concat_meets ⟨_, ho, rfl⟩ ⟨_, ho2, rfl⟩ noFill_tuple_add seq_tuple_add PySem.F.slot_tuple_add PySem.F.entry_tuple_add (PySem.F.args_tuple_add_2 _ _)
      (tuple_addW1 t b vs.toArray ws.toArray n n2 dd dd2 sl sl2 (by simpa using hv) (by simp [hw])) ⟨ho, ho2, h1 hw⟩
  · refine concat_meets ⟨_, ho, rfl⟩ ⟨_, ho2, rfl⟩ noFill_tuple_add seq_tuple_add PySem.F.slot_tuple_add PySem.F.entry_tuple_add (PySem.F.args_tuple_add_2 _ _)
      (tuple_addW2 t b vs.toArray ws.toArray n n2 dd dd2 sl sl2 (by simpa using hv) (by simpa using hw) (by rw [List.size_toArray, List.size_toArray]; exact hsz)) ⟨ho, ho2, ?_⟩
    rw [e]
    exact h2 hw
def sIx (n d : Nat) : Option Int → Nat
  | none => d
  | some v => if v < 0 then (v + (n : Int)).toNat else min v.toNat n
theorem sIx_le (n d : Nat) (hd : d ≤ n) (o : Option Int) : sIx n d o ≤ n := by
  cases o with
  | none => exact hd
  | some v =>
    show (if v < 0 then (v + (n : Int)).toNat else min v.toNat n) ≤ n
    by_cases hv : v < 0
    · rw [if_pos hv]; omega
    · rw [if_neg hv]; exact Nat.min_le_right _ _
theorem clip_eq (v : Int) (n d : Nat) : (if v < 0 then max (v + (n : Int)) 0 else min v (n : Int)) = ((sIx n d (some v) : Nat) : Int) := by
  show (if v < 0 then max (v + (n : Int)) 0 else min v (n : Int)) = (((if v < 0 then (v + (n : Int)).toNat else min v.toNat n) : Nat) : Int)
  by_cases hv : v < 0
  · simp only [if_pos hv]; omega
  · simp only [if_neg hv]; omega
theorem adjust_gen (lo hi : Option Int) (n : Nat) : Builtin.Slice.sliceAdjust lo hi 1 (n : Int) = (((sIx n 0 lo : Nat) : Int), ((sIx n n hi : Nat) : Int)) := by
  have h1 : ¬ ((1 : Int) < 0) := by omega
  unfold Builtin.Slice.sliceAdjust
  simp only [h1, if_false]
  refine Prod.ext ?_ ?_
  · cases lo with
    | none => rfl
    | some v => exact clip_eq v n 0
  · cases hi with
    | none => rfl
    | some v => exact clip_eq v n n
theorem places_gen (i j : Nat) : Builtin.Slice.slicePlaces (i : Int) (j : Int) 1 = j - i := by
  unfold Builtin.Slice.slicePlaces
  have h1 : (1 : Int) > 0 := by omega
  simp only [h1, if_true, Int.ediv_one]
  split <;> omega
theorem slicePart_ {v : Value} {o : Option Int} {Q : Option Int → Shared → Prop} (p : IsPart v o) (h : Q o s) : wpAny (model prog w) A (Builtin.Slice.slicePartIndex v) Q E s := by
  cases p with
  | none => exact slicePart_none h
  | int i t => exact slicePart_int h
theorem sliceApplied_gen {sl : Addr} {vl vu : Value} {lo hi : Option Int} {n : Nat} {Q : Int × Int × Nat → Shared → Prop} (hs : s.heap.IsSliceOf sl vl vu .none) (pl : IsPart vl lo) (pu : IsPart vu hi)
    (h : Q (((sIx n 0 lo : Nat) : Int), 1, sIx n n hi - sIx n 0 lo) s) : wpAny (model prog w) A (Builtin.Slice.sliceApplied (.ref sl) (pure (n : Int))) Q E s := by
  obtain ⟨os, hos, hcs, hds⟩ := id hs
  unfold Builtin.Slice.sliceApplied Builtin.Slice.sliceFields
  refine wpAny_bind (wpAny_bind (wpAny_field hos hds (x := vl) rfl (wpAny_bind (wpAny_field hos hds (x := vu) rfl (wpAny_bind (wpAny_field hos hds (x := .none) rfl (wpAny_pure ?_)))))))
  refine wpAny_bind (slicePart_none ?_)
  show wpAny _ _ (if ((1 : Int) == 0) = true then _ else _) _ _ s
  rw [if_neg (by decide)]
  refine wpAny_bind (slicePart_ pl (wpAny_bind (slicePart_ pu (wpAny_bind (wpAny_pure ?_)))))
  show wpAny _ _ (match Builtin.Slice.sliceAdjust lo hi 1 (n : Int) with | (lo, hi) => pure (lo, (1 : Int), Builtin.Slice.slicePlaces lo hi 1)) _ _ s
  rw [adjust_gen lo hi n]
  show wpAny _ _ (pure (((sIx n 0 lo : Nat) : Int), (1 : Int), Builtin.Slice.slicePlaces ((sIx n 0 lo : Nat) : Int) ((sIx n n hi : Nat) : Int) 1)) _ _ s
  rw [places_gen]
  exact wpAny_pure h
theorem pick_gen (xs : Array Value) (i k : Nat) : ((List.range k).filterMap fun (m : Nat) => xs[((i : Int) + (m : Int) * 1).toNat]?).toArray = ((xs.toList.drop i).take k).toArray := by
  have e : (fun (m : Nat) => xs[((i : Int) + (m : Int) * 1).toNat]?) = fun m => xs[i + m]? := by
    funext m
    have : ((i : Int) + (m : Int) * 1).toNat = i + m := by omega
    rw [this]
  rw [e]
  have := pick_run xs i k
  rw [List.filterMap_map] at this
  have e2 : ((fun x => xs[x]?) ∘ fun x => i + x) = fun m => xs[i + m]? := rfl
  rw [e2] at this
  rw [this]
theorem getItem_tuple_cut {t sl : Addr} {items : Array Value} {vl vu : Value} {lo hi : Option Int} {Q : Value → Shared → Prop} (ht : IsTup s.heap t items) (hs : s.heap.IsSliceOf sl vl vu .none) (pl : IsPart vl lo) (pu : IsPart vu hi)
    (hw : ¬ (sIx items.size 0 lo = 0 ∧ sIx items.size items.size hi = items.size))
    (h : Q (.ref s.heap.objs.size) { s with heap := s.heap.push { cls := .type "tuple", data := .seq ((items.toList.drop (sIx items.size 0 lo)).take (sIx items.size items.size hi - sIx items.size 0 lo)).toArray } })
    (hsz : items.size ≤ sizeLine) : wpAny (model prog w) A (getItem (.ref t) (.ref sl)) Q E s := by
  have htake : sizeOk (.seq ((items.toList.drop (sIx items.size 0 lo)).take (sIx items.size items.size hi - sIx items.size 0 lo)).toArray) := by
    show ((items.toList.drop (sIx items.size 0 lo)).take (sIx items.size items.size hi - sIx items.size 0 lo)).toArray.size ≤ sizeLine
    rw [List.size_toArray, List.length_take, List.length_drop, Array.length_toList]
    omega
  have hj : sIx items.size items.size hi ≤ items.size := sIx_le _ _ (Nat.le_refl _) hi
  obtain ⟨os, hos, hcs, hds⟩ := id hs
  have hTs : s.TypeIs (.ref sl) "slice" := ⟨os, hos, hcs⟩
  unfold getItem
  try with_reducible refine wpAny_holding ?_
  first | refine wpAny_bind (wpAny_pure ?_) | skip
  refine wpAny_bind (wpAny_sequenceKey ht.typeIs (by decide) ?_)
  refine wpAny_bind (wpAny_callSpecial?_slot (name := Str.ofString "__getitem__") ht.typeIs PyProof.Rows.slot_tuple_getitem
    (wpAny_call_entry PyProof.Rows.slot_tuple_getitem ht.typeIs entry_tuple_getitem ?_ (args_tuple_getitem _ _)))
  show wpAny _ _ (Builtin.Tuple.tupleItemsOf (.ref t) >>= _) _ _ s
  refine wpAny_bind (tupleItemsOf_ ht ?_)
  refine wpAny_bind (wpAny_typeOf hTs ?_)
  rw [if_pos (by decide)]
  refine wpAny_bind (sliceApplied_gen hs pl pu ?_)
  have hno : ¬ ((((sIx items.size 0 lo : Nat) : Int) == 0 && (1 : Int) == 1 && (sIx items.size items.size hi - sIx items.size 0 lo) == items.size) = true) := by
    intro q
    rw [Bool.and_eq_true, Bool.and_eq_true] at q
    have q1 : ((sIx items.size 0 lo : Nat) : Int) = 0 := eq_of_beq q.1.1
    have q2 : sIx items.size items.size hi - sIx items.size 0 lo = items.size := eq_of_beq q.2
    exact hw ⟨by omega, by omega⟩
  show wpAny _ _ (if (((sIx items.size 0 lo : Nat) : Int) == 0 && (1 : Int) == 1 && (sIx items.size items.size hi - sIx items.size 0 lo) == items.size) = true then _ else _) _ _ s
  rw [if_neg hno, pick_gen]
  first
    | exact wpAny_bind (m := Builtin.Tuple.tupleExact _) (wpAny_newObj_type (wpAny_pure ⟨_, rfl, wpAny_pure h⟩) htake)
    | exact wpAny_bind (m := Builtin.Tuple.tupleExact _) (wpAny_newObj_type (wpAny_bind (wpAny_pure (wpAny_pure ⟨_, rfl, wpAny_pure h⟩))) htake)
    | exact wpAny_bind (wpAny_bind (m := Builtin.Tuple.tupleExact _) (wpAny_newObj_type (wpAny_pure (wpAny_pure ⟨_, rfl, wpAny_pure h⟩)) htake))
    | exact wpAny_bind (wpAny_bind (m := Builtin.Tuple.tupleExact _) (wpAny_newObj_type (wpAny_pure ⟨_, rfl, wpAny_pure h⟩) htake))
end
end HT
namespace L2
open PySem PySem.Spec PyProof.Rows
abbrev TO := St → Hp → (Option Int → Hp → Prop) → Prop
def PO (X : Cx) (e : Option Expr) (t : TO) : Prop :=
  ∀ (pins : List (Addr × Obj)) (s : Shared) (σ : St) (H : Hp) (Q : Option Int → Hp → Prop), Inv X pins σ H s → t σ H Q →
    wpAny (model X.prog X.w) X.A (evalPart e X.env) (fun u s' => ∃ o H', Inv X pins σ H' s' ∧ IsPart u o ∧ Q o H') X.xe s
def tNoPart : TO := fun _ H Q => Q none H
def tPart (t : TE) : TO := fun σ H Q => t σ H fun x H1 => ∃ i, x = .int i ∧ Q (some i) H1
theorem intsAre_of {ns : List Int} : ∀ {us : List Value}, Vals (ns.map V.int) us → IntsAre us ns := by
  induction ns with
  | nil => intro us r; rw [List.map_nil] at r; cases r; exact .nil
  | cons n ns ih =>
    intro us r
    rw [List.map_cons] at r
    cases r with
    | cons r1 r2 =>
      obtain ⟨t, e⟩ := r1
      subst e
      exact .cons n t (ih r2)
section
variable {X : Cx} {e : Expr} {te : TE} {lo hi : Option Expr} {tl th : TO} {pos p2 : Pos}
theorem po_none : PO X none tNoPart := by
  intro pins s σ H Q I h
  rw [evalPart_none]
  exact wpAny_pure ⟨none, H, I, .none, h⟩
theorem po_some (h : PE X e te) : PO X (some e) (tPart te) := by
  intro pins s σ H Q I hw
  rw [evalPart_some]
  refine thn (h pins s σ H _ I hw) fun u s1 ⟨x, H1, I1, r1, q1⟩ => ?_
  obtain ⟨i, rfl, q⟩ := q1
  obtain ⟨t, rfl⟩ := r1
  exact ⟨some i, H1, I1, .int i t, q⟩
def SlR (X : Cx) (r : V → Option Int → Option Int → Hp → VK → Prop) : Prop :=
  ∀ (pins : List (Addr × Obj)) (s : Shared) (σ : St) (H : Hp) (x : V) (v vl vu : Value) (lo hi : Option Int) (sl : Addr) (Q : VK), Inv X pins σ H s → RelV x v → s.heap.IsSliceOf sl vl vu .none → IsPart vl lo → IsPart vu hi → r x lo hi H Q →
    ∃ T id, typeLookup (.type T) "__getitem__" = pure (some (.builtin id)) ∧ s.TypeIs v T ∧ wpAny (model X.prog X.w) X.A (getItem v (.ref sl)) (EP X pins σ Q) X.xe s
def tSl (r : V → Option Int → Option Int → Hp → VK → Prop) (te : TE) (tl th : TO) : TE := fun σ H Q => te σ H fun x H1 => tl σ H1 fun l H2 => th σ H2 fun u H3 => r x l u H3 Q
theorem pe_slice {r : V → Option Int → Option Int → Hp → VK → Prop} (hr : SlR X r) (he : PE X e te) (hl : PO X lo tl) (hu : PO X hi th) : PE X (.Subscript e (.Slice lo hi none p2) pos) (tSl r te tl th) := by
  intro pins s σ H Q I h
  refine Subscript_ (thn (he pins s σ H _ I h) fun v s1 ⟨x, H1, I1, r1, q1⟩ => ?_)
  refine wpAny_Slice (thn (hl pins s1 σ H1 _ I1 q1) fun vl s2 ⟨l, H2, I2, pl, q2⟩ => thn (hu pins s2 σ H2 _ I2 q2) fun vu s3 ⟨u, H3, I3, pu, q3⟩ => ?_)
  rw [evalPart_none]
  refine wpAny_pure ?_
  have I4 : Inv X pins σ H3 { s3 with heap := s3.heap.push { cls := .type "slice", data := .fields #[vl, vu, .none] } } := I3.kept (t' := s3.toks) fun b ob q => Heap.get?_push_of_some _ q
  obtain ⟨T, id, hT, ht, hg⟩ := hr pins { s3 with heap := s3.heap.push { cls := .type "slice", data := .fields #[vl, vu, .none] } } σ H3 x v vl vu l u s3.heap.objs.size Q I4 r1 (Heap.IsSliceOf.new ..) pl pu q3
  show wpAny (model X.prog X.w) X.A (subscriptTail e (.Slice lo hi none p2) v (.ref s3.heap.objs.size)) (EP X pins σ Q) X.xe { s3 with heap := s3.heap.push { cls := .type "slice", data := .fields #[vl, vu, .none] } }
  exact tail_any (ops := [.ref s3.heap.objs.size, v]) ht hT hg (by with_unfolding_all rfl)
def cutV (xs : List V) (lo hi : Option Int) : List V := (xs.drop (HT.sIx xs.length 0 lo)).take (HT.sIx xs.length xs.length hi - HT.sIx xs.length 0 lo)
theorem cutV_length (xs : List V) (lo hi : Option Int) : (cutV xs lo hi).length ≤ xs.length := by
  unfold cutV
  rw [List.length_take, List.length_drop]
  omega
def rSlT (K : PySem.W.Frag) : V → Option Int → Option Int → Hp → VK → Prop := fun x lo hi H Q => ∃ a xs, x = .ref a ∧ SqT K H a xs ∧
  ¬ (HT.sIx xs.length 0 lo = 0 ∧ HT.sIx xs.length xs.length hi = xs.length) ∧ ∀ p, H p = none → Q (.ref p) (upd H p (.tup (cutV xs lo hi)))
theorem sl_tup : SlR X (rSlT X.K) := by
  intro pins s σ H x v vl vu lo hi sl Q I rx hs pl pu h
  obtain ⟨a, xs, rfl, hx, hw, q⟩ := h
  cases rx
  obtain ⟨its, r, ht, hz⟩ := I.tuple hx
  have hlen : its.toArray.size = xs.length := by rw [List.size_toArray]; exact r.length.symm
  refine ⟨"tuple", _, PyProof.Rows.slot_tuple_getitem.lookup, ht.typeIs, ?_⟩
  refine HT.getItem_tuple_cut ht hs pl pu (by rw [hlen]; exact hw) ?_ (by rw [hlen]; exact hz)
  rw [hlen]
  refine ⟨.ref s.heap.objs.size, _, I.laid (t' := s.toks) (o := .tup (cutV xs lo hi)) (fun b ob q => Heap.get?_push_of_some _ q) (Nat.le_refl _) ?_, rfl, q _ (I.hok.fresh (Nat.le_refl _))⟩
  exact ⟨Nat.le_trans (cutV_length xs lo hi) hz, _, (r.drop (HT.sIx xs.length 0 lo)).take (HT.sIx xs.length xs.length hi - HT.sIx xs.length 0 lo), IsTupN.new _ _⟩
def rCatT (K : PySem.W.Frag) : R2 := fun x y H Q => ∃ a b xs ys, x = .ref a ∧ y = .ref b ∧ SqT K H a xs ∧ SqT K H b ys ∧ xs ≠ [] ∧ xs.length + ys.length ≤ sizeLine ∧
  (ys = [] → Q (.ref a) H) ∧ (ys ≠ [] → ∀ p, H p = none → Q (.ref p) (upd H p (.tup (xs ++ ys))))
theorem Vals.nil_iff {xs : List V} {us : List Value} (r : Vals xs us) : us = [] ↔ xs = [] := by
  cases r with
  | nil => simp
  | cons _ _ => simp
theorem op_catT : OpR X (binaryOp .Add) (rCatT X.K) := by
  intro pins s σ H x y v u Q I rx ry h
  obtain ⟨a, b, xs, ys, rfl, rfl, ha, hb, hx, hz, q1, q2⟩ := h
  cases rx
  cases ry
  obtain ⟨its, r1, p1, _⟩ := I.tuple ha
  obtain ⟨its2, r2, p2, _⟩ := I.tuple hb
  refine HT.cat_tup p1 p2 (fun z => hx (r1.nil_iff.mp z)) (fun z => ⟨.ref a, H, I, rfl, q1 (r2.nil_iff.mp z)⟩) (fun z => ?_) (by rw [← r1.length, ← r2.length]; exact hz)
  refine ⟨.ref s.heap.objs.size, _, I.laid (t' := s.toks) (o := .tup (xs ++ ys)) (fun b ob q => Heap.get?_push_of_some _ q) (Nat.le_refl _) ?_, rfl, q2 (fun w => z (r2.nil_iff.mpr w)) _ (I.hok.fresh (Nat.le_refl _))⟩
  exact ⟨by rw [List.length_append]; exact hz, _, r1.append r2, IsTupN.new _ _⟩
end
end L2
namespace L2
open PySem PySem.Spec PyProof.Rows
def ixN (n : Nat) (i : Int) : Option Nat := if 0 ≤ i then (if i < n then some i.toNat else none) else if -(n : Int) ≤ i then some (i + n).toNat else none
def atI {α : Type} (xs : List α) (i : Int) : Option α := (ixN xs.length i).bind fun j => xs[j]?
theorem ixN_seq {n : Nat} {i : Int} {j : Nat} (h : ixN n i = some j) : seqIndex? i n = some j ∧ j < n ∧ -(n : Int) ≤ i ∧ i < n := by
  unfold ixN at h
  by_cases h0 : 0 ≤ i
  · rw [if_pos h0] at h
    by_cases h1 : i < n
    · rw [if_pos h1] at h
      have e : i.toNat = j := Option.some.inj h
      exact ⟨by rw [seqIndex_of h0 h1, e], by omega, by omega, h1⟩
    · rw [if_neg h1] at h; cases h
  · rw [if_neg h0] at h
    by_cases h1 : -(n : Int) ≤ i
    · rw [if_pos h1] at h
      have e : (i + n).toNat = j := Option.some.inj h
      exact ⟨by rw [seqIndex_neg (by omega) h1, e], by omega, h1, by omega⟩
    · rw [if_neg h1] at h; cases h
theorem atI_get {α : Type} {xs : List α} {i : Int} {v : α} (h : atI xs i = some v) : ∃ j, seqIndex? i xs.length = some j ∧ xs[j]? = some v ∧ j < xs.length ∧ -(xs.length : Int) ≤ i ∧ i < xs.length := by
  unfold atI at h
  cases e : ixN xs.length i with
  | none => rw [e] at h; cases h
  | some j =>
    rw [e] at h
    obtain ⟨h1, h2, h3, h4⟩ := ixN_seq e
    exact ⟨j, h1, h, h2, h3, h4⟩
def PlainIx (b : Expr) : Prop := ∀ o i, subscripted b false o i = operate [o, i] (getItem o i)
def IxR (X : Cx) (r : R2) : Prop :=
  ∀ (value slice : Expr) (pins : List (Addr × Obj)) (s : Shared) (σ : St) (H : Hp) (x y : V) (v u : Value) (Q : VK), Inv X pins σ H s → RelV x v → RelV y u → r x y H Q →
    subscripted slice false v u = operate [v, u] (getItem v u) → wpAny (model X.prog X.w) X.A (subscriptTail value slice v u) (EP X pins σ Q) X.xe s
def MtR (X : Cx) (id : String) (r : V → List V → Hp → VK → Prop) : Prop :=
  ∀ (pins : List (Addr × Obj)) (s : Shared) (σ : St) (H : Hp) (x : V) (xs : List V) (v : Value) (us : List Value) (Q : VK), Inv X pins σ H s → RelV x v → Vals xs us → r x xs H Q →
    wpAny (model X.prog X.w) X.A (call (.builtin id) (v :: us)) (EP X pins σ Q) X.xe s
section
variable {X : Cx} {a b : Expr} {ta tb : TE} {pos : Pos}
theorem IxR.or {r r' : R2} (h : IxR X r) (h' : IxR X r') : IxR X (fun x y H Q => r x y H Q ∨ r' x y H Q) := by
  intro value slice pins s σ H x y v u Q I rx ry q hs
  rcases q with q | q
  · exact h value slice pins s σ H x y v u Q I rx ry q hs
  · exact h' value slice pins s σ H x y v u Q I rx ry q hs
theorem pe_ix {r : R2} (hr : IxR X r) (ha : PE X a ta) (hb : PE X b tb) (hs : PlainIx b) : PE X (.Subscript a b pos) (tOp r ta tb) := by
  intro pins s σ H Q I h
  exact Subscript_ (binT ha hb I h fun v u s2 x y H2 I2 rx ry q => hr a b pins s2 σ H2 x y v u Q I2 rx ry q (hs _ _))
def rIxL (K : PySem.W.Frag) : R2 := fun x y H Q => ∃ p xs i v, x = .ref p ∧ y = .int i ∧ SqL K H p xs ∧ atI xs i = some v ∧ Q v H
def rIxT (K : PySem.W.Frag) : R2 := fun x y H Q => ∃ p xs i v, x = .ref p ∧ y = .int i ∧ SqT K H p xs ∧ atI xs i = some v ∧ Q v H
def rIxS : R2 := fun x y H Q => ∃ z i c, x = .str z ∧ y = .int i ∧ z.length ≤ sizeLine ∧ atI z.cps.toList i = some c ∧ Q (.str ⟨#[c]⟩) H
theorem ix_list : IxR X (rIxL X.K) := by
  intro value slice pins s σ H x y v u Q I rx ry h hs
  obtain ⟨p, xs, i, z, rfl, rfl, hq, he, q⟩ := h
  cases rx
  obtain ⟨t, rfl⟩ := ry
  obtain ⟨its, r, pl, hz⟩ := I.list hq
  obtain ⟨j, h1, h2, h3, h4, h5⟩ := atI_get he
  obtain ⟨w, ew, rw'⟩ := r.get h2
  have hl := r.length
  have hn := line63
  have fin : EP X pins σ Q w s := ⟨z, H, I, rw', q⟩
  by_cases h0 : 0 ≤ i
  · have hj : i.toNat = j := by
      rw [seqIndex_of h0 h5] at h1
      exact Option.some.inj h1
    exact item_listR pl.isList h0 (by omega) (by rw [hj]; simpa using ew) fin hs
  · have hj : (i + (its.toArray.size : Int)).toNat = j := by
      rw [seqIndex_neg (by omega) h4] at h1
      rw [List.size_toArray, ← hl]
      exact Option.some.inj h1
    exact subscriptTail_builtinR (x := w) pl.isList.typeIs slot_list_getitem.lookup
      (wpAny_getItem_list_neg (Q := fun r s' => r = w ∧ EP X pins σ Q r s') pl.isList (by omega) (by rw [List.size_toArray] <;> omega) (by omega) (by rw [hj]; simpa using ew) ⟨rfl, fin⟩) hs
theorem ix_tup : IxR X (rIxT X.K) := by
  intro value slice pins s σ H x y v u Q I rx ry h hs
  obtain ⟨p, xs, i, z, rfl, rfl, hq, he, q⟩ := h
  cases rx
  obtain ⟨t, rfl⟩ := ry
  obtain ⟨its, r, pl, hz⟩ := I.tuple hq
  obtain ⟨j, h1, h2, h3, h4, h5⟩ := atI_get he
  obtain ⟨w, ew, rw'⟩ := r.get h2
  have hl := r.length
  have hn := line63
  have fin : EP X pins σ Q w s := ⟨z, H, I, rw', q⟩
  exact subscriptTail_builtinR (x := w) pl.typeIs slot_tuple_getitem.lookup
    (getItem_tuple (j := j) (Q := fun r s' => r = w ∧ EP X pins σ Q r s') pl (by omega) (by omega) (by rw [List.size_toArray, ← hl]; exact h1) (by simpa using ew) ⟨rfl, fin⟩) hs
theorem ix_str : IxR X rIxS := by
  intro value slice pins s σ H x y v u Q I rx ry h hs
  obtain ⟨z, i, c, rfl, rfl, hz, he, q⟩ := h
  obtain ⟨t, rfl⟩ := rx
  obtain ⟨t', rfl⟩ := ry
  obtain ⟨j, h1, h2, h3, h4, h5⟩ := atI_get he
  have hl : z.cps.toList.length = z.length := by simp [Str.length]
  rw [hl] at h1 h4 h5
  have hn := line63
  exact tail_any (typeIs_str s z t) slot_str_getitem.lookup (getItem_str (c := c) (by
    have e1 : decide (i < -(2 ^ 63 : Int)) = false := decide_eq_false (by omega)
    have e2 : decide (i ≥ 2 ^ 63) = false := decide_eq_false (by omega)
    rw [e1, e2, Bool.or_false]) (by rw [h1]; simpa using h2) ⟨.str ⟨#[c]⟩, H, I.tok _, ⟨_, rfl⟩, q⟩) hs
def rIx (K : PySem.W.Frag) : R2 := fun x y H Q => rIxL K x y H Q ∨ rIxT K x y H Q ∨ rIxS x y H Q
theorem ix_seq : IxR X (rIx X.K) := ix_list.or (ix_tup.or ix_str)
theorem mapSeq_set (its : List Value) (n j : Nat) (u : Value) : Obj.mapSeq (·.setIfInBounds j u) { cls := .type "list", data := .seq its.toArray n } = { cls := .type "list", data := .seq (its.set j u).toArray n } := by
  simp [Obj.mapSeq]
theorem Inv.lst {pins : List (Addr × Obj)} {σ : St} {H : Hp} {s : Shared} {p : Addr} {xs : List V} (I : Inv X pins σ H s) (h : H p = some (.lst xs)) :
    ∃ (its : List Value) (n : Nat), Vals xs its ∧ s.heap.get? p = some { cls := .type "list", data := .seq its.toArray n } ∧ xs.length ≤ sizeLine := by
  obtain ⟨z, its, n, r, e⟩ := I.hok p _ h
  exact ⟨its, n, r, e, z⟩
theorem Inv.lstUpd {pins : List (Addr × Obj)} {σ : St} {H : Hp} {s : Shared} {p : Addr} {xs ys : List V} {its its' : List Value} {n n' : Nat} {f : Obj → Obj} (I : Inv X pins σ H s) (h : H p = some (.lst xs))
    (ho : s.heap.get? p = some { cls := .type "list", data := .seq its.toArray n }) (hf : f { cls := .type "list", data := .seq its.toArray n } = { cls := .type "list", data := .seq its'.toArray n' }) (r : Vals ys its') (hz : ys.length ≤ sizeLine) (t : Nat) :
    Inv X pins σ (upd H p (.lst ys)) { s with heap := s.heap.update p f, toks := t } := by
  have e : (s.heap.update p f).get? p = some { cls := .type "list", data := .seq its'.toArray n' } := by
    rw [Heap.get?_update_self f ho (by rw [hf] <;> rfl), hf]
  refine I.write (x := p) (e := p) (by rw [h]; trivial) (.inl rfl) (fun b u hb q => (Heap.get?_update_other _ _ (Ne.symm hb)).trans q) ⟨_, e⟩ ?_
  exact ⟨hz, its', n', r, e⟩
def rSetL : V → V → V → Hp → (Hp → Prop) → Prop := fun o i v H Q => ∃ p xs k j, o = .ref p ∧ i = .int k ∧ H p = some (.lst xs) ∧ ixN xs.length k = some j ∧ Q (upd H p (.lst (xs.set j v)))
theorem set_list : PSet X rSetL := by
  intro pins s σ H o i v ov iv u Q I ro ri rv h
  obtain ⟨p, xs, k, j, rfl, rfl, hp, hj, q⟩ := h
  cases ro
  obtain ⟨t, rfl⟩ := ri
  obtain ⟨its, n, r, ho, hz⟩ := I.lst hp
  obtain ⟨h1, h2, h3, h4⟩ := ixN_seq hj
  have hl := r.length
  have hn := line63
  have I' : Inv X pins σ (upd H p (.lst (xs.set j v))) { s with heap := s.heap.update p (Obj.mapSeq (·.setIfInBounds j u)) } :=
    I.lstUpd hp ho (mapSeq_set its n j u) (r.set rv j) (by rw [List.length_set]; exact hz) s.toks
  by_cases h0 : 0 ≤ k
  · have hk : k.toNat = j := by
      rw [seqIndex_of h0 h4] at h1
      exact Option.some.inj h1
    exact PySem.W.ki_setAt ho h0 (by omega) (by rw [List.size_toArray, ← hl]; exact h4) (by rw [hk]; exact ⟨_, I', q⟩)
  · have hk : (k + (its.toArray.size : Int)).toNat = j := by
      rw [seqIndex_neg (by omega) h3] at h1
      rw [List.size_toArray, ← hl]
      exact Option.some.inj h1
    exact PySem.W.ki_setBack ho (by omega) (by rw [List.size_toArray, ← hl]; exact h3) (by omega) (by rw [hk]; exact ⟨_, I', q⟩)
def flatV : V → Bool
  | .non => true
  | .bl _ => true
  | .int _ => true
  | .str _ => true
  | _ => false
def eqV : V → V → Bool
  | .non, .non => true
  | .bl a, .bl b => a == b
  | .bl a, .int b => (if a then 1 else 0) == b
  | .int a, .bl b => a == (if b then 1 else 0)
  | .int a, .int b => a == b
  | .str a, .str b => a == b
  | _, _ => false
theorem eqAt_V {A : Around} {s : Shared} {y x : V} {u v : Value} (ry : RelV y u) (rx : RelV x v) (fy : flatV y = true) (fx : flatV x = true) : SeqAt.EqAt A s u v (eqV y x) := by
  cases y with
  | non =>
    cases ry
    cases x with
    | non => cases rx; exact SeqAt.EqAt.same _
    | bl b => cases rx; exact SeqAt.EqAt.none_bool b
    | int b => obtain ⟨t, rfl⟩ := rx; exact SeqAt.EqAt.none_int b t
    | str b => obtain ⟨t, rfl⟩ := rx; exact SeqAt.EqAt.none_str b t
    | _ => exact absurd (show false = true from fx) Bool.false_ne_true
  | bl a =>
    cases ry
    cases x with
    | non => cases rx; exact SeqAt.EqAt.bool_none a
    | bl b => cases rx; exact SeqAt.EqAt.bool_bool a b
    | int b => obtain ⟨t, rfl⟩ := rx; exact SeqAt.EqAt.bool_int a b t
    | str b => obtain ⟨t, rfl⟩ := rx; exact SeqAt.EqAt.bool_str a b t
    | _ => exact absurd (show false = true from fx) Bool.false_ne_true
  | int a =>
    obtain ⟨t', rfl⟩ := ry
    cases x with
    | non => cases rx; exact SeqAt.EqAt.int_none a t'
    | bl b => cases rx; exact SeqAt.EqAt.int_bool a t' b
    | int b => obtain ⟨t, rfl⟩ := rx; exact SeqAt.EqAt.int_int a t' b t
    | str b => obtain ⟨t, rfl⟩ := rx; exact SeqAt.EqAt.int_str a t' b t
    | _ => exact absurd (show false = true from fx) Bool.false_ne_true
  | str a =>
    obtain ⟨t', rfl⟩ := ry
    cases x with
    | non => cases rx; exact SeqAt.EqAt.str_none a t'
    | bl b => cases rx; exact SeqAt.EqAt.str_bool a t' b
    | int b => obtain ⟨t, rfl⟩ := rx; exact SeqAt.EqAt.str_int a t' b t
    | str b => obtain ⟨t, rfl⟩ := rx; exact SeqAt.EqAt.str_str a t' b t
    | _ => exact absurd (show false = true from fx) Bool.false_ne_true
  | _ => exact absurd (show false = true from fy) Bool.false_ne_true
def eqU (x : V) (u : Value) : Bool := match u with
  | .none => eqV .non x
  | .bool b => eqV (.bl b) x
  | .int i _ => eqV (.int i) x
  | .str z _ => eqV (.str z) x
  | _ => false
theorem eqU_of {x y : V} {u : Value} (r : RelV y u) (f : flatV y = true) : eqU x u = eqV y x := by
  cases y with
  | non => cases r; rfl
  | bl b => cases r; rfl
  | int i => obtain ⟨t, rfl⟩ := r; rfl
  | str z => obtain ⟨t, rfl⟩ := r; rfl
  | _ => exact absurd (show false = true from f) Bool.false_ne_true
theorem any_eqU {x : V} : ∀ {xs : List V} {us : List Value}, Vals xs us → xs.all flatV = true → us.any (eqU x) = xs.any fun y => eqV y x
  | _, _, .nil, _ => rfl
  | y :: xs, u :: us, .cons r t, f => by
    rw [List.all_cons, Bool.and_eq_true] at f
    rw [List.any_cons, List.any_cons, eqU_of r f.1, any_eqU t f.2]
theorem mem_eqAt {A : Around} {s : Shared} {x : V} {v : Value} (rx : RelV x v) (fx : flatV x = true) : ∀ {xs : List V} {us : List Value}, Vals xs us → xs.all flatV = true → ∀ u ∈ us, SeqAt.EqAt A s u v (eqU x u)
  | _, _, .nil, _ => fun u hu => by cases hu
  | y :: xs, u :: us, .cons r t, f => fun u' hu => by
    rw [List.all_cons, Bool.and_eq_true] at f
    rcases List.mem_cons.mp hu with rfl | hu
    · rw [eqU_of r f.1]; exact eqAt_V r rx f.1 fx
    · exact mem_eqAt rx fx t f.2 u' hu
def inV (x : V) (xs : List V) : Bool := xs.any fun y => eqV y x
def rIn (K : PySem.W.Frag) (neg : Bool) : R2 := fun x y H Q => ∃ p xs, y = .ref p ∧ (SqL K H p xs ∨ SqT K H p xs) ∧ flatV x = true ∧ xs.all flatV = true ∧ Q (.bl (if neg then !inV x xs else inV x xs)) H
theorem op_in_seq : OpR X (compareOp .In) (rIn X.K false) := by
  intro pins s σ H x y v u Q I rx ry h
  obtain ⟨p, xs, rfl, hq, fx, fs, q⟩ := h
  cases ry
  rcases hq with hq | hq
  · obtain ⟨its, r, pl, hz⟩ := I.list hq
    refine SeqAt.in_listAt (eqU x) pl.isList (fun w hw => mem_eqAt rx fx r fs w (by simpa using hw)) ⟨.bl _, H, I, rfl, ?_⟩
    rw [show its.toArray.any (eqU x) = its.any (eqU x) by simp, any_eqU r fs]
    exact q
  · obtain ⟨its, r, pl, hz⟩ := I.tuple hq
    refine SeqAt.in_tupleAt (eqU x) pl (fun w hw => mem_eqAt rx fx r fs w (by simpa using hw)) ⟨.bl _, H, I, rfl, ?_⟩
    rw [show its.toArray.any (eqU x) = its.any (eqU x) by simp, any_eqU r fs]
    exact q
theorem call_list_of : CallR X (.type "list") (fun xs H Q => ∃ p ys, xs = [.ref p] ∧ (SqL X.K H p ys ∨ SqT X.K H p ys) ∧ ∀ l, H l = none → Q (.ref l) (upd H l (.lst ys))) := by
  intro pins s σ H xs us Q I r h
  obtain ⟨p, ys, rfl, hq, q⟩ := h
  obtain ⟨u, rfl, rx⟩ := vals1 r
  cases rx
  have fin : ∀ (its : List Value), Vals ys its → ys.length ≤ sizeLine → ∀ (h' : Heap) (c' : Nat), (∀ b o', s.heap.get? b = some o' → h'.get? b = some o') →
      h'.get? s.heap.objs.size = some { cls := .type "list", dict := none, data := .seq its.toArray c', slots := #[] } → EP X pins σ Q (.ref s.heap.objs.size) { s with heap := h' } := fun its r' hz h' c' kp e =>
    ⟨.ref s.heap.objs.size, _, I.laid (t' := s.toks) kp (Nat.le_refl _) (show ObjOk X.prog X.w _ h' _ (.lst ys) from ⟨hz, its, c', r', e⟩), rfl, q _ (I.hok.fresh (Nat.le_refl _))⟩
  rcases hq with hq | hq
  · obtain ⟨its, r', pl, hz⟩ := I.list hq
    have hlen := r'.length
    obtain ⟨o, ho, hc, n, hd⟩ := pl.isList
    exact call_list_seq p (.inl rfl) ho hc hd (fun h' c' kp e => fin its r' hz h' c' kp e) (by simp only [List.size_toArray] <;> omega)
  · obtain ⟨its, r', pl, hz⟩ := I.tuple hq
    have hlen := r'.length
    obtain ⟨o, ho, hc, n, hd⟩ := pl
    exact call_list_seq p (.inr rfl) ho hc hd (fun h' c' kp e => fin its r' hz h' c' kp e) (by simp only [List.size_toArray] <;> omega)
theorem call_tuple_of : CallR X (.type "tuple") (fun xs H Q => ∃ p ys, xs = [.ref p] ∧ ((SqL X.K H p ys ∧ ∀ l, H l = none → Q (.ref l) (upd H l (.tup ys))) ∨ (SqT X.K H p ys ∧ Q (.ref p) H))) := by
  intro pins s σ H xs us Q I r h
  obtain ⟨p, ys, rfl, h⟩ := h
  obtain ⟨u, rfl, rx⟩ := vals1 r
  cases rx
  rcases h with ⟨hq, q⟩ | ⟨hq, q⟩
  · obtain ⟨its, r', pl, hz⟩ := I.list hq
    have hlen := r'.length
    refine call_tuple_list pl.isList (fun h' kp => ?_) (by simp only [List.size_toArray] <;> omega)
    have I1 : Inv X pins σ H { s with heap := h' } := I.kept (t' := s.toks) kp
    have I2 : Inv X pins σ (upd H h'.objs.size (.tup ys)) { s with heap := h'.push { cls := .type "tuple", data := .seq its.toArray } } :=
      I1.laid (t' := s.toks) (fun b o e => Heap.get?_push_of_some _ e) (Nat.le_refl _) (show ObjOk X.prog X.w _ _ _ (.tup ys) from ⟨hz, its, r', IsTupN.new _ _⟩)
    exact ⟨.ref h'.objs.size, _, I2, rfl, q _ (I1.hok.fresh (Nat.le_refl _))⟩
  · obtain ⟨its, r', pl, hz⟩ := I.tuple hq
    exact call_tuple_same pl ⟨.ref p, H, I, rfl, q⟩
def tyV (K : PySem.W.Frag) (T : String) (x : V) (H : Hp) : Prop := match x with
  | .str _ => T = "str"
  | .int _ => T = "int"
  | .ref p => (T = "list" ∧ ∃ xs, SqL K H p xs) ∨ (T = "tuple" ∧ ∃ o, K.lookup p = some o ∧ o.cls = .type "tuple" ∧ o.dict = none) ∨
      (T = "dict" ∧ ((∃ kvs, H p = some (.dK kvs)) ∨ ∃ kvs, H p = some (.dT kvs))) ∨ (T = "set" ∧ ∃ S n, H p = some (.set S n))
  | _ => False
theorem tyV_is {pins : List (Addr × Obj)} {σ : St} {H : Hp} {s : Shared} {T : String} {x : V} {v : Value} (I : Inv X pins σ H s) (r : RelV x v) (ty : tyV X.K T x H) :
    s.TypeIs v T ∧ ∀ a, v = .ref a → ∃ ob, s.heap.get? a = some ob ∧ ob.dict = none := by
  cases x with
  | str z =>
    obtain ⟨t, rfl⟩ := r
    cases (show T = "str" from ty)
    exact ⟨typeIs_str s z t, fun _ e => nomatch e⟩
  | int i =>
    obtain ⟨t, rfl⟩ := r
    cases (show T = "int" from ty)
    exact ⟨typeIs_int s i t, fun _ e => nomatch e⟩
  | ref p =>
    cases r
    rcases ty with ⟨rfl, xs, hq⟩ | ⟨rfl, o, hk, hc, hd⟩ | ⟨rfl, hk⟩ | ⟨rfl, S, n, hk⟩
    · obtain ⟨its, _, pl, _⟩ := I.list hq
      refine ⟨pl.isList.typeIs, fun a e => ?_⟩
      cases e
      obtain ⟨o, n, e, c, hd, _⟩ := pl
      exact ⟨o, e, hd⟩
    · refine ⟨⟨o, I.kIn p o hk, hc⟩, fun a e => ?_⟩
      cases e
      exact ⟨o, I.kIn _ o hk, hd⟩
    · have z : ∃ o, s.heap.get? p = some o ∧ o.ExactDict := by
        rcases hk with ⟨kvs, hk⟩ | ⟨kvs, hk⟩
        · obtain ⟨_, _, _, _, o, _, _, e, ex, _⟩ := I.hok p _ hk
          exact ⟨o, e, ex⟩
        · obtain ⟨_, _, _, _, o, _, _, e, ex, _⟩ := I.hok p _ hk
          exact ⟨o, e, ex⟩
      obtain ⟨o, e, ex⟩ := z
      refine ⟨⟨o, e, ex.1⟩, fun a e2 => ?_⟩
      cases e2
      exact ⟨o, e, ex.2.1⟩
    · obtain ⟨o, _, _, _, e, ex, _⟩ := I.hok p _ hk
      refine ⟨⟨o, e, ex.1⟩, fun a e2 => ?_⟩
      cases e2
      exact ⟨o, e, ex.2.1⟩
  | _ => exact False.elim ty
def tBM0 (K : PySem.W.Frag) (T : String) (r : V → List V → Hp → VK → Prop) (to : TE) : TE := fun σ H Q => to σ H fun x H1 => tyV K T x H1 ∧ r x [] H1 Q
def tBM (K : PySem.W.Frag) (T : String) (r : V → List V → Hp → VK → Prop) (to : TE) (t : TA) : TE := fun σ H Q => to σ H fun x H1 => tyV K T x H1 ∧ t σ H1 fun xs H2 => r x xs H2 Q
variable {o e : Expr} {es : List Expr} {to : TE} {t : TA} {name : Str} {apos cpos : Pos} {T id : String} {r : V → List V → Hp → VK → Prop}
theorem pe_bm0 (pa : PlainAttrs T) (slot : Slot T name id) (hty : typeOf (.builtin id) = pure (.type "method_descriptor")) (hm : MtR X id r) (ho : PE X o to)
    (hbase : attributeBase o name X.env (eval o X.env) = eval o X.env := by rfl) (hline : (apos.endLine == cpos.line) = true := by rfl) : PE X (.Call (.Attribute o name apos) [] [] cpos) (tBM0 X.K T r to) := by
  intro pins s σ H Q I h
  refine wpAny_Call_method0_late hbase hline (thn (ho pins s σ H _ I h) fun v s1 ⟨x, H1, I1, r1, ty, q1⟩ => ?_)
  obtain ⟨h1, h2⟩ := tyV_is I1 r1 ty
  exact ⟨T, id, pa, slot, hty, h1, h2, Calls.callWith_builtin rfl (PySem.evalArgs_none (hm pins s1 σ H1 x [] v [] Q I1 r1 .nil q1))⟩
theorem pe_bm (pa : PlainAttrs T) (slot : Slot T name id) (hty : typeOf (.builtin id) = pure (.type "method_descriptor")) (hm : MtR X id r) (ho : PE X o to) (ha : PA X (e :: es) t)
    (hbase : attributeBase o name X.env (eval o X.env) = eval o X.env := by rfl)
    (hfew : ((backTo cpos (starEach (e :: es) X.env)).all (fun x => !x.1) && (backToKw cpos (keywordEach [] X.env)).all (fun x => x.1.isSome)
      && decide ((e :: es).length + ([] : List Keyword).length + (if ([] : List Keyword).isEmpty then 0 else 1) < 30)) = true := by rfl)
    (hline : (apos.endLine == cpos.line) = true := by rfl) (hs : starEach (e :: es) X.env = (false, eval e X.env) :: starEach es X.env := by rfl) (hplain : (backTo cpos (starEach es X.env)).any (·.1) = false := by rfl) :
    PE X (.Call (.Attribute o name apos) (e :: es) [] cpos) (tBM X.K T r to t) := by
  intro pins s σ H Q I h
  refine wpAny_Call_method_late hbase hfew hline rfl (thn (ho pins s σ H _ I h) fun v s1 ⟨x, H1, I1, r1, ty, q1⟩ => ?_)
  obtain ⟨h1, h2⟩ := tyV_is I1 r1 ty
  refine ⟨T, id, pa, slot, hty, h1, h2, ?_⟩
  have hA := ha cpos pins s1 σ H1 _ I1 q1
  rw [hs] at hA ⊢
  refine Calls.callWith_builtin (by show (false || (backTo cpos (starEach es X.env)).any (·.1)) = false; rw [hplain] <;> rfl) (Calls.evalArgs_plain ?_)
  exact thn hA fun us s2 ⟨vs, H2, I2, r2, q2⟩ => hm pins s2 σ H2 x vs v us Q I2 r1 r2 q2
end
end L2
namespace L2
open PySem PySem.Spec PyProof.Rows
def MtM (X : Cx) (id : String) (r : V → List V → Hp → VK → Prop) : Prop :=
  ∀ (pins : List (Addr × Obj)) (s : Shared) (σ : St) (H : Hp) (x : V) (xs : List V) (v : Value) (us : List Value) (Q : VK), Inv X pins σ H s → RelV x v → Vals xs us → r x xs H Q →
    wpAny (model X.prog X.w) X.A (call (.builtin id) (v :: us)) (EP X pins σ Q) X.xe s
theorem Vals.one : ∀ {x : V} {us : List Value}, Vals [x] us → ∃ u, us = [u] ∧ RelV x u
  | _, _, .cons r .nil => ⟨_, rfl, r⟩
theorem Vals.zero : ∀ {us : List Value}, Vals [] us → us = []
  | _, .nil => rfl
theorem Vals.eraseIdx : ∀ {xs : List V} {us : List Value} (i : Nat), Vals xs us → Vals (xs.eraseIdx i) (us.eraseIdx i)
  | _, _, _, .nil => .nil
  | _, _, 0, .cons _ t => t
  | _, _, i + 1, .cons r t => .cons r (Vals.eraseIdx i t)
theorem Vals.rep {xs : List V} {us : List Value} (h : Vals xs us) : ∀ k : Nat, Vals (List.replicate k xs).flatten (List.replicate k us).flatten
  | 0 => .nil
  | k + 1 => by
    rw [List.replicate_succ, List.replicate_succ, List.flatten_cons, List.flatten_cons]
    exact Vals.append h (Vals.rep h k)
theorem len_erase {α : Type} : ∀ (l : List α) (i : Nat), (l.eraseIdx i).length ≤ l.length
  | [], _ => Nat.le_refl _
  | _ :: _, 0 => Nat.le_succ _
  | _ :: r, i + 1 => Nat.succ_le_succ (len_erase r i)
theorem foldl_rep (its : List Value) : ∀ (k : Nat) (acc : List Value),
    List.foldl (fun x1 x2 => x1 ++ x2) acc.toArray (List.replicate k its.toArray) = (acc ++ (List.replicate k its).flatten).toArray
  | 0, acc => by simp
  | k + 1, acc => by
    have e : acc.toArray ++ its.toArray = (acc ++ its).toArray := by simp
    have e2 : (acc ++ its) ++ (List.replicate k its).flatten = acc ++ (List.replicate (k + 1) its).flatten := by
      rw [List.replicate_succ, List.flatten_cons, List.append_assoc]
    rw [← e2, ← foldl_rep its k (acc ++ its), ← e, List.replicate_succ, List.foldl_cons]
section
variable {X : Cx} {pins : List (Addr × Obj)} {σ : St} {H : Hp} {s : Shared} {l b : Addr} {xs ys zs : List V}
theorem Inv.lset {its its' : List Value} {n : Nat} {f : Array Value → Array Value} {t' : Nat} (I : Inv X pins σ H s) (hH : H l = some (.lst xs))
    (e : s.heap.get? l = some { cls := .type "list", data := .seq its.toArray n }) (hf : f its.toArray = its'.toArray) (hv : Vals ys its') (hz : ys.length ≤ sizeLine) :
    Inv X pins σ (upd H l (.lst ys)) { s with heap := s.heap.update l (Obj.mapSeq f), toks := t' } := by
  have q := PySem.IsL.update e f
  rw [hf] at q
  refine I.write (x := l) (e := l) (by rw [hH]; exact trivial) (.inl rfl) (fun b' u hb hu => (Heap.get?_update_other s.heap (Obj.mapSeq f) (Ne.symm hb)).trans hu) ⟨_, q⟩ ?_
  exact ⟨hz, its', _, hv, q⟩
theorem Inv.lnew {its : List Value} {t' : Nat} (I : Inv X pins σ H s) (hv : Vals ys its) (hz : ys.length ≤ sizeLine) :
    Inv X pins σ (upd H s.heap.objs.size (.lst ys)) { s with heap := s.heap.push { cls := .type "list", data := .seq its.toArray }, toks := t' } :=
  I.laid (fun _ _ q => Heap.get?_push_of_some _ q) (Nat.le_refl _) ⟨hz, its, 0, hv, Heap.get?_push_size _ rfl⟩
theorem Inv.fresh (I : Inv X pins σ H s) : H s.heap.objs.size = none := I.hok.fresh (Nat.le_refl _)
theorem Inv.lstM (I : Inv X pins σ H s) (hH : H l = some (.lst xs)) : xs.length ≤ sizeLine ∧ ∃ (its : List Value) (n : Nat), Vals xs its ∧ xs.length = its.length ∧ s.heap.get? l = some { cls := .type "list", data := .seq its.toArray n } := by
  obtain ⟨z, its, n, r, e⟩ := I.hok l _ hH
  exact ⟨z, its, n, r, r.length, e⟩
theorem notLongL {n : Nat} (h : n ≤ sizeLine) : Builtin.List.listTooLong n = false := by
  unfold Builtin.List.listTooLong
  exact decide_eq_false (by omega)
end
section
variable {X : Cx}
def rAppend : V → List V → Hp → VK → Prop := fun x vs H Q => ∃ l xs y, x = .ref l ∧ vs = [y] ∧ H l = some (.lst xs) ∧ xs.length < sizeLine ∧ Q .non (upd H l (.lst (xs ++ [y])))
theorem mt_append : MtM X "list.append" rAppend := by
  intro pins s σ H x vs v us Q I rx rv h
  obtain ⟨l, xs, y, rfl, rfl, hH, hz, q⟩ := h
  cases rx
  obtain ⟨u, rfl, ru⟩ := rv.one
  obtain ⟨z, its, n, r, hl, e⟩ := I.lstM hH
  refine call_meets F.slot_list_append ⟨_, e, rfl⟩ F.entry_list_append (F.args_list_append_2 _ _) (PySem.list_append l its.toArray n u (by rw [List.size_toArray]; omega)) ⟨e, ?_⟩
  refine ⟨.non, _, I.lset (its' := its ++ [u]) hH e (by simp) (r.append (.cons ru .nil)) ?_, rfl, q⟩
  rw [List.length_append, List.length_singleton]
  omega
def rPopAt : V → List V → Hp → VK → Prop := fun x vs H Q => ∃ l xs i k y, x = .ref l ∧ vs = [.int i] ∧ H l = some (.lst xs) ∧ -(2 ^ 63) ≤ i ∧ i < 2 ^ 63 ∧ seqIndex? i xs.length = some k ∧ xs[k]? = some y ∧ Q y (upd H l (.lst (xs.eraseIdx k)))
theorem mt_popAt : MtM X "list.pop" rPopAt := by
  intro pins s σ H x vs v us Q I rx rv h
  obtain ⟨l, xs, i, k, y, rfl, rfl, hH, h1, h2, hk, hy, q⟩ := h
  cases rx
  obtain ⟨u, rfl, ru⟩ := rv.one
  obtain ⟨t, rfl⟩ := ru
  obtain ⟨z, its, n, r, hl, e⟩ := I.lstM hH
  obtain ⟨w, hw, rw'⟩ := r.get hy
  refine call_meets F.slot_list_pop ⟨_, e, rfl⟩ F.entry_list_pop (F.args_list_pop_2 _ _)
    (MeetsSeq.list_pop_at l its.toArray n i t k w (fitsIndex_both h1 h2) (by rw [List.size_toArray, ← hl]; exact hk) (by rw [← Array.getElem?_toList]; exact hw) (by rw [List.size_toArray]; omega)) ⟨e, ?_⟩
  refine ⟨y, _, I.lset (its' := its.eraseIdx k) hH e ?_ (r.eraseIdx k) ?_, rw', q⟩
  · show its.toArray.eraseIdxIfInBounds k = (its.eraseIdx k).toArray
    rw [List.eraseIdxIfInBounds_toArray]
  · have := len_erase xs k
    omega
def rCat : R2 := fun x y H Q => ∃ l b xs zs, x = .ref l ∧ y = .ref b ∧ H l = some (.lst xs) ∧ H b = some (.lst zs) ∧ xs.length + zs.length ≤ sizeLine ∧ ∀ p, H p = none → Q (.ref p) (upd H p (.lst (xs ++ zs)))
theorem op_cat : OpR X (binaryOp .Add) rCat := by
  intro pins s σ H x y v u Q I rx ry h
  obtain ⟨l, b, xs, zs, rfl, rfl, hH, hB, hz, q⟩ := h
  cases rx
  cases ry
  obtain ⟨z, its, n, r, hl, e⟩ := I.lstM hH
  obtain ⟨z2, its2, n2, r2, hl2, e2⟩ := I.lstM hB
  refine PySem.P.add_list e e2 ?_ (by rw [List.size_toArray, List.size_toArray]; omega)
  have ea : its.toArray ++ its2.toArray = (its ++ its2).toArray := by simp
  rw [ea]
  exact ⟨.ref _, _, I.lnew (t' := s.toks) (r.append r2) (by rw [List.length_append]; omega), rfl, q _ I.fresh⟩
def rRep : R2 := fun x y H Q => ∃ l k xs, x = .ref l ∧ y = .int k ∧ H l = some (.lst xs) ∧ -(2 ^ 63) ≤ k ∧ k < 2 ^ 63 ∧ xs.length * k.toNat ≤ sizeLine ∧
  ∀ p, H p = none → Q (.ref p) (upd H p (.lst (List.replicate k.toNat xs).flatten))
theorem len_rep {α : Type} (xs : List α) (k : Nat) : (List.replicate k xs).flatten.length = k * xs.length := by
  induction k with
  | zero => simp
  | succ k ih => rw [List.replicate_succ, List.flatten_cons, List.length_append, ih, Nat.succ_mul, Nat.add_comm]
theorem op_rep : OpR X (binaryOp .Mult) rRep := by
  intro pins s σ H x y v u Q I rx ry h
  obtain ⟨l, k, xs, rfl, rfl, hH, h1, h2, hz, q⟩ := h
  cases rx
  obtain ⟨t, rfl⟩ := ry
  obtain ⟨z, its, n, r, hl, e⟩ := I.lstM hH
  have hlen : its.toArray.size * k.toNat ≤ sizeLine := by rw [List.size_toArray, ← hl]; exact hz
  have hcap : ¬ its.toArray.size * k.toNat > (2 ^ 63 - 1) / 8 := by
    have : (sizeLine : Nat) ≤ (2 ^ 63 - 1) / 8 := by decide
    omega
  have hfit : ¬ (!Builtin.List.listFitsIndex k) = true := by
    rw [fitsIndex_both h1 h2]
    exact Bool.false_ne_true
  have hlong : ¬ Builtin.List.listTooLong (its.toArray.size * k.toNat) = true := by
    rw [notLongL hlen]
    exact Bool.false_ne_true
  have hnew : List.foldl (fun x1 x2 => x1 ++ x2) #[] (List.replicate (if its.toArray.isEmpty = true then 0 else k.toNat) its.toArray) = (List.replicate k.toNat its).flatten.toArray := by
    have f0 : ∀ m : Nat, List.foldl (fun x1 x2 => x1 ++ x2) #[] (List.replicate m its.toArray) = (List.replicate m its).flatten.toArray := fun m => by
      have := foldl_rep its m []
      rw [List.nil_append] at this
      exact this
    rw [f0]
    cases its with
    | nil => simp
    | cons a r' => rw [if_neg (by simp)]
  refine wpAny_binaryOp_repeat_ref (T := "list") (U := "int") (by decide) ⟨_, e, rfl⟩ (fun s' => typeIs_int s' k t) noFill_list_mul F.fills_int_mul F.slot_int_rmul repeat_list F.slot_int_index.lookup
    (call_meets F.slot_int_rmul (typeIs_int s k t) F.entry_int_rmul (F.args_int_rmul_2 _ _) (int___rmul___int_list k t l its.toArray n)
      ⟨e, rfl, ⟨_, e, rfl⟩, call_meets F.slot_list_mul ⟨_, e, rfl⟩ F.entry_list_mul (F.args_list_mul_2 _ _) (AutoListH.list___mul___list_int_3 l its.toArray n k t hfit hcap hlong) ⟨e, ?_⟩⟩)
  rw [hnew]
  exact ⟨.ref _, _, I.lnew (t' := s.toks) (r.rep k.toNat) (by rw [len_rep, Nat.mul_comm]; exact hz), rfl, q _ I.fresh⟩
end
section
variable {prog : Program} {w : World} {A : Around} {E : Value → Shared → Prop} {s : Shared}
end
section
variable {X : Cx}
end
end L2
namespace Att
open PySem PySem.W PySem.Calls PyProof.Rows
theorem ints_of_wellAll {P : Params} {h : Heap} : ∀ (ns : List Int) (vs : List Value), WellAll P h vs (ns.map WData.int) → IntsAre vs ns := by
  intro ns
  induction ns with
  | nil =>
    intro vs w
    rw [List.map_nil] at w
    cases w
    exact .nil
  | cons n ns ih =>
    intro vs w
    rw [List.map_cons] at w
    cases w with
    | cons a b =>
      cases a
      exact .cons _ _ (ih _ b)
theorem script_of {l : OpenLaw} {n : Nat} (hn : l.most = some n) {P : Params} {h : Heap} {args : List WData} {vals : List Value}
    (hpre : l.row.toRowW.claim.pre args = true) (hwl : WellAll P h vals args) :
    ∃ a vs ns, vals = [Value.ref a] ∧ args = [WData.list (ns.map WData.int)] ∧ h.get? a = some { cls := .type "list", data := .seq vs.toArray } ∧ IntsAre vs ns ∧ ns.length ≤ n := by
  have hsh : WShape.hasAll [] args [.list .int] = true := (pre_splitW hpre).1
  have hc : l.pre.holds [] { args := args } = true := (pre_splitW hpre).2
  obtain ⟨d, r, rfl, h1, h2⟩ := hasAllW_cons hsh
  obtain rfl := hasAllW_nil h2
  obtain ⟨xs, rfl, h3⟩ := hasW_list h1
  obtain ⟨ns, rfl⟩ := items_int h3
  have hlen : ns.length ≤ n := by
    unfold OpenLaw.pre at hc
    have h4 : (WTm.not (.lt (.lit (.int (n : Int))) (.len (.arg 0)))).holds [] { args := [.list (ns.map .int)] } = true := by
      have h4 := (holds_andW hc).1
      rw [hn] at h4
      exact h4
    have h5 := condW_of h4 (w_not (w_lt w_lit (w_len_list (w_arg rfl))))
    rw [List.length_map] at h5
    refine Nat.le_of_not_lt fun q => ?_
    have q' : (n : Int) < ((ns.length : Nat) : Int) := by omega
    first
      | (rw [decide_eq_true q'] at h5; exact absurd h5 (by decide))
      | (simp at h5; omega)
  cases hwl with
  | cons w1 w2 =>
    cases w2
    cases w1 with
    | list ho hall => exact ⟨_, _, ns, rfl, rfl, ho, ints_of_wellAll ns _ hall, hlen⟩
theorem post_true (l : OpenLaw) (args : List WData) : l.row.toRowW.claim.post args (.bool true) args = true :=
  postW_of (r := l.row.toRowW) (X := (true == true))
    (show WShape.has [] (.bool true) .bool = true by first | rfl | decide | simp [WShape.has, WShape.arms, WShape.armsAll])
    (show (WTm.eq .res (.lit (.bool true))).value [] { args := args, res := some (.bool true), after := args } = some (.bool (true == true)) from w_eq_bool (w_res rfl) w_lit) rfl
theorem attach_call {l : OpenLaw} {n : Nat} {q : Program} {loose : List Str} {XP : (Str → Option Value) → Heap → Prop} {YP : World → Heap → Prop} {d : DefRec}
    (hn : l.most = some n) (hdf : d.params.defaults = [])
    (call : ∀ (w : World) (s₀ s₁ : Shared) (mg mb : Str → Option Value) (fa : Addr) (o : Obj) (pm cd doc : Value) (a : Addr) (vs : List Value) (ns : List Int),
      Ground q loose [] XP w s₀ mg mb s₁.heap → YP w s₁.heap →
      s₁.heap.get? fa = some o → o.data = .func (docDef d.name d.params d.body d.scope pm cd doc) → s₁.heap.CodeRec cd d.name → mg d.name = some (.ref fa) →
      s₁.heap.get? a = some { cls := .type "list", data := .seq vs.toArray } → IntsAre vs ns → ns.length ≤ n → s₁.gens = #[] →
      codeAny (model l.prog w) callerA (.call (.ref fa) ⟨[.ref a], []⟩) (fun r s' => r = .ok (.ret (.bool true)) ∧ OldK s₁.heap s'.heap ∧ s'.os = s₁.os ∧ AllBare s'.gens) s₁) :
    WalkO q loose XP YP l.row.toRowW d [] (fun f vs => PySem.call f vs) := by
  intro w s₀ s₁ mg mb G Y fa o pm cd doc dV kV ho hd hcd hD hmg hg args vals as hpre hlay hrd hwl hlo
  obtain rfl : dV = .none := Dflts.none hD hdf
  obtain rfl : kV = .none := Dflts.noKw hD
  obtain ⟨a, vs, ns, rfl, rfl, hobj, hints, hlen⟩ := script_of hn hpre hwl
  refine enter_call (codeAny_mono (call w s₀ s₁ mg mb fa o pm cd doc a vs ns G Y ho (fd_plain hd) hcd hmg hobj hints hlen hg) fun r s' hq => ?_)
  obtain ⟨rfl, h2, h3, h4⟩ := hq
  exact ⟨.inl ⟨.bool true, .bool true, [], rfl, fun _ => rfl, .bool true, post_true l _, fun _ => ⟨List.Pairwise.nil, fun _ hm => (nomatch hm)⟩⟩, h2, h3, h4⟩
section
variable {prog : Program} {w : World} {A : Around} {E : Value → Shared → Prop} {s : Shared} {K : Frag}
def noObjs (h : Heap) : Heap := { h with objs := #[] }
theorem noObjs_get (h : Heap) (b : Addr) : (noObjs h).get? b = none := by
  cases e : (noObjs h).get? b with
  | none => rfl
  | some o => exact absurd (Heap.lt_size e) (Nat.not_lt_zero _)
theorem fr_all {h : Heap} {L : Addr} {m : Str → Option Value} (n : h.Ns L m) : Fr (noObjs h) L h m :=
  ⟨n, fun b o e => (by rw [noObjs_get] at e; cases e), Nat.zero_le _⟩
end
end Att
namespace L2
open PySem PySem.Spec PyProof.Rows
theorem vals_ints : ∀ {vs : List Value} {ns : List Int}, IntsAre vs ns → Vals (ns.map V.int) vs
  | _, _, .nil => .nil
  | _, _, .cons n t h => .cons ⟨t, rfl⟩ (vals_ints h)
def Only (H : Hp) : Prop := ∀ b, H b = none ∨ ∃ o xs, H b = some (.frz o (.lst xs))
theorem law_call {P : Program} {w : World} {K : PySem.W.Frag} {mg mb : Str → Option Value} {CX : CXT} {k : Nat} {fa a : Addr} {fd : FuncData} {x : Str} {sp : Sp} {s₁ : Shared} {vs : List Value} {ns : List Int}
    (KX : K.In s₁.heap) (hns : s₁.heap.Ns mainGlobals mg) (hb : s₁.heap.Ns builtinsNs mb) (hbb : ∀ x : Str, x ≠ "__name__" → mb x = bootBuiltins x) (hlim : s₁.heap.NoLimit) (hg : s₁.gens = #[])
    (ha : s₁.heap.get? a = some { cls := .type "list", data := .seq vs.toArray }) (hi : IntsAre vs ns) (hl : ns.length ≤ sizeLine) (hr : Room k callerA)
    (F : ∀ base : Heap, K.In base → base.Ns mainGlobals mg → FnOk P w K mg base CX k fa fd [x] sp) (hbind : ∀ (s : Shared) (u : Value), BindsTo s fd ⟨[u], []⟩ [(x, u)])
    (hsp : ∀ H : Hp, Only H → SqL K H a (ns.map V.int) → sp [.ref a] H (fun v _ => v = .bl true) fun _ _ _ => False)
    (hCX : ∀ H e s', CX [] H s₁ (fun _ _ _ => False) e s' → False) :
    codeAny (model P w) callerA (.call (.ref fa) ⟨[.ref a], []⟩) (fun r s' => r = .ok (.ret (.bool true)) ∧ OldK s₁.heap s'.heap ∧ s'.os = s₁.os ∧ AllBare s'.gens) s₁ := by
  have rv := vals_ints hi
  have lenV := hi.length
  -- from an abstract heap in which nothing but the script may be tracked
  have core : ∀ H : Hp, Only H → SqL K H a (ns.map V.int) → HOk P w H s₁.heap → (∀ b, H b ≠ none → b = a) → (H a ≠ none → K.lookup a = none) →
      codeAny (model P w) callerA (.call (.ref fa) ⟨[.ref a], []⟩) (fun r s' => r = .ok (.ret (.bool true)) ∧ OldK s₁.heap s'.heap ∧ s'.os = s₁.os ∧ AllBare s'.gens) s₁ := by
    intro H hO hS hok hA hK
    have base_of : ∀ {b : Addr} {o : Obj}, s₁.heap.get? b = some o → H b = none → (hidT s₁.heap H).get? b = some o := fun e n => hidT_get e n
    have noA : ∀ {b : Addr} {o : Obj} {es : Array DictEntry} {ep : Nat}, s₁.heap.get? b = some o → o.data = .dict es ep → H b = none := fun {b o es ep} e d => by
      cases q : H b with
      | none => rfl
      | some u =>
        have e' : b = a := hA b (by rw [q]; simp)
        subst e'
        rw [ha] at e; cases e
        have d' : Data.seq vs.toArray _ = Data.dict es ep := d
        cases d'
    have nsK : ∀ {b : Addr} {m : Str → Option Value}, s₁.heap.Ns b m → (hidT s₁.heap H).Ns b m := fun {b m} ⟨o, es, ep, e, d, r⟩ => ⟨o, es, ep, base_of e (noA e d), d, r⟩
    have hKb : K.In (hidT s₁.heap H) := fun b o e => base_of (KX b o e) (by
      cases q : H b with
      | none => rfl
      | some u =>
        have e' : b = a := hA b (by rw [q]; simp)
        subst e'
        rw [hK (by rw [q]; simp)] at e; cases e)
    have hM : Mod K mg (hidT s₁.heap H) := ⟨hKb, nsK hns, ⟨mb, nsK hb, hbb⟩, let ⟨mc, h1, h2⟩ := hlim; ⟨mc, nsK h1, h2⟩⟩
    have e0 : Env0 P w K mg (hidT s₁.heap H) callerA [] s₁ H := ⟨rfl, hM, fun b o e => of_hidT e, Nat.le_of_eq (hidT_size _ _), trivial, fun b hb => absurd (show b ∈ ([] : List Addr) from hb) (by simp), hok, .of_eq hg⟩
    refine codeAny_mono ((F _ hKb (nsK hns)).run callerA [] s₁ H ⟨[.ref a], []⟩ [.ref a] [.ref a] _ _ hr e0 (hbind s₁ (.ref a)) (.cons rfl .nil) (hsp H hO hS)) fun r s' h => ?_
    cases r with
    | error e => exact (hCX H e s' h).elim
    | ok fl =>
      cases fl with
      | next => exact False.elim h
      | brk => exact False.elim h
      | cont => exact False.elim h
      | ret u =>
        obtain ⟨v, H', os, bare, un, hok', r', q⟩ := h
        have q' : v = .bl true := q
        subst q'
        obtain rfl : u = Value.bool true := r'
        refine ⟨rfl, OldK.of_keep fun b o e => ?_, os, bare⟩
        cases q : H b with
        | none => exact un.keep b o e q (by intro z; exact absurd (show b ∈ ([] : List Addr) from z) (by simp)) (by simp)
        | some u =>
          rcases hO b with z | ⟨ob, xs, z⟩
          · rw [q] at z; cases z
          · have z2 := un.frzs b ob _ z
            obtain ⟨e1, _⟩ := hok b _ z
            obtain ⟨e2, _⟩ := hok' b _ z2
            rw [e] at e1; cases e1
            exact e2
  cases hk : K.lookup a with
  | some o =>
    -- the script is one of the module's own objects
    have e := KX a o hk
    rw [ha] at e
    cases e
    refine core (fun _ => none) (fun _ => .inl rfl) (.inr ⟨_, vs.toArray, _, hk, rfl, rfl, rfl, by rw [List.size_toArray, lenV]; exact hl, by simpa using rv⟩) (fun b u z => by have z' : (none : Option HO) = some u := z; cases z') (fun b z => absurd rfl z) fun z => absurd rfl z
  | none =>
    refine core (fun b => if b = a then some (.frz { cls := .type "list", data := .seq vs.toArray } (.lst (ns.map V.int))) else none) (fun b => ?_) (.inl (.inr ⟨{ cls := .type "list", data := .seq vs.toArray }, if_pos rfl⟩)) (fun b u z => ?_) (fun b z => ?_) fun _ => hk
    · by_cases hb : b = a
      · exact .inr ⟨_, _, if_pos hb⟩
      · exact .inl (if_neg hb)
    · by_cases hb : b = a
      · have z' := (if_pos hb).symm.trans z
        cases z'
        subst hb
        exact ⟨ha, by rw [List.length_map]; exact hl, vs, _, rv, ha⟩
      · have z' := (if_neg hb).symm.trans z
        cases z'
    · by_cases hb : b = a
      · exact hb
      · exact absurd (if_neg hb) z
end L2
namespace L2
open PySem PySem.Spec PyProof.Rows
theorem walk_of {l : PySem.W.OpenLaw} {n k : Nat} {q : Program} {loose : List Str} {XP : (Str → Option Value) → Heap → Prop} {YP : World → Heap → Prop} {d : DefRec} {K : Params → PySem.W.Frag} {CX : World → CXT} {sp : World → Sp} {x : Str}
    (hn : l.most = some n) (hn2 : n ≤ sizeLine) (hdf : d.params.defaults = []) (hr : Room k callerA)
    (hY : ∀ (w : World) (h : Heap), YP w h → (K w.params).In h)
    (F : ∀ (w : World) (mg : Str → Option Value) (fa : Addr) (h : Heap), (K w.params).In h → h.Ns mainGlobals mg → mg d.name = some (.ref fa) →
      ∃ fd : FuncData, (∀ (s : Shared) (u : Value), BindsTo s fd ⟨[u], []⟩ [(x, u)]) ∧
        ∀ base : Heap, (K w.params).In base → base.Ns mainGlobals mg → FnOk l.prog w (K w.params) mg base (CX w) k fa fd [x] (sp w))
    (hsp : ∀ (w : World) (H : Hp) (a : Addr) (ns : List Int), ns.length ≤ n → Only H → SqL (K w.params) H a (ns.map V.int) → sp w [.ref a] H (fun v _ => v = .bl true) fun _ _ _ => False)
    (hCX : ∀ (w : World) (H : Hp) (s : Shared) (e : Value) (s' : Shared), CX w [] H s (fun _ _ _ => False) e s' → False) :
    PySem.W.WalkO q loose XP YP l.row.toRowW d [] (fun f vs => PySem.call f vs) := by
  refine Att.attach_call hn hdf fun w s₀ s₁ mg mb fa o pm cd doc a vs ns G Y ho hd hcd hmg hobj hints hlen hg => ?_
  have KX := hY w _ Y
  obtain ⟨fd, hb, hF⟩ := F w mg fa _ KX G.T.g hmg
  exact law_call KX G.T.g G.T.b G.T.builtins G.T.nolimit hg hobj hints (Nat.le_trans hlen hn2) hr hF hb (fun H hO hS => hsp w H a ns hlen hO hS) fun H e s' => hCX w H s₁ e s'
end L2
namespace L2
open PySem PySem.Spec PyProof.Rows
def defArgs (s : Stmt) : Arguments := match s with
  | .FunctionDef _ a _ _ _ _ _ _ _ _ => a
  | _ => { posonlyargs := [], args := [], vararg := none, kwonlyargs := [], kw_defaults := [], kwarg := none, defaults := [] }
def defBody (s : Stmt) : List Stmt := match s with
  | .FunctionDef _ _ b _ _ _ _ _ _ _ => b
  | _ => []
def defScope (s : Stmt) : Scope := match s with
  | .FunctionDef _ _ _ _ _ _ sc _ _ _ => sc
  | _ => { kind := .function, names := [], isGenerator := false, isCoroutine := false }
abbrev CX0 : CXT := fun _ _ _ _ _ _ => False
abbrev E0 : XK := fun _ _ _ => False
theorem pass0 {X : Cx} : Passes CX0 X E0 := fun _ _ _ _ _ _ _ h => h.elim
structure Fun (K : PySem.W.Frag) (x qual : Str) (st : Stmt) (f : Addr) (fd : FuncData) : Prop where
  ex : ∃ (oc : Value) (od : Option Addr) (kV doc pm : Value) (an : Option Addr) (cdv ct : Value) (osl : Array (Option Value)),
    fd = PySem.W.fnOf x qual (defArgs st) (defBody st) (defScope st) .none kV doc pm an cdv ct ∧ K.lookup f = some ⟨oc, od, .func fd, osl⟩ ∧ PySem.W.codeIn K cdv qual = true
  kp : PySem.W.keepIn K (.ref f) = true
section
variable {P : Program} {w : World} {K : PySem.W.Frag} {mg : Str → Option Value} {base : Heap}
theorem Fun.ok {x qual : Str} {st : Stmt} {f : Addr} {fd : FuncData} {N ps : List Str} {k : Nat} {sp : Sp} (F : Fun K x qual st f fd) (S : FnScope N ps (defScope st)) (len : ∀ vs H Q E, sp vs H Q E → vs.length = ps.length)
    (hbody : ∀ (cdv : Value) (A : Around) (outer : List Env) (s : Shared) (H : Hp) (vs : List V) (Q : VK) (E : XK), Room k (A.deeper (envOfC qual (defScope st) s.heap.objs.size f cdv)) → sp vs H Q E →
      ∃ t, PSs (cxOf CX0 P w K mg base N qual (defScope st) f cdv A outer s H E).nox (defBody st) t ∧ t { nx := fun _ H' => Q .non H', rt := Q } (start N vs) H) : FnOk P w K mg base CX0 (k + 1) f fd ps sp := by
  obtain ⟨oc, od, kV, doc, pm, an, cdv, ct, osl, rfl, lk, hcd⟩ := F.ex
  refine fn_of lk hcd S len fun A outer s H vs Q E hr hsp => ?_
  obtain ⟨t, h, q⟩ := hbody cdv A outer s H vs Q E hr hsp
  exact ⟨t, h.nox, q⟩
theorem Fun.binds {x qual : Str} {st : Stmt} {f : Addr} {fd : FuncData} {ps : List Str} (F : Fun K x qual st f fd)
    (h : ∀ (kV doc pm : Value) (an : Option Addr) (cdv ct : Value) (us : List Value), us.length = ps.length → bindArgs (PySem.W.fnOf x qual (defArgs st) (defBody st) (defScope st) .none kV doc pm an cdv ct) ⟨us, []⟩ = pure (ps.zip us)) : Binds K fd ps [] := by
  obtain ⟨oc, od, kV, doc, pm, an, cdv, ct, osl, rfl, lk, hcd⟩ := F.ex
  exact .all (h kV doc pm an cdv ct)
theorem fun_mk {x qual : Str} {st : Stmt} {f : Addr} {oc : Value} {od an : Option Addr} {osl : Array (Option Value)} {kV doc pm cdv ct : Value} (l : K.lookup f = some ⟨oc, od, .func (PySem.W.fnOf x qual (defArgs st) (defBody st) (defScope st) .none kV doc pm an cdv ct), osl⟩)
    (c : PySem.W.codeIn K cdv qual = true) (k : PySem.W.keepIn K (.ref f) = true) : Fun K x qual st f (PySem.W.fnOf x qual (defArgs st) (defBody st) (defScope st) .none kV doc pm an cdv ct) := ⟨⟨oc, od, kV, doc, pm, an, cdv, ct, osl, rfl, l, c⟩, k⟩
end
theorem small1000 {n : Nat} (h : n ≤ 1000) : n < sizeLine := Nat.lt_of_le_of_lt h (by decide)
section
variable {X : Cx}
end
theorem ite2 {c A B : Prop} [Decidable c] (h1 : c → A) (h2 : ¬ c → B) : if c then A else B := by
  by_cases h : c
  · rw [if_pos h]
    exact h1 h
  · rw [if_neg h]
    exact h2 h
def Same (H H' : Hp) : Prop := ∀ b o, H b = some o → H' b = some o
theorem Same.refl (H : Hp) : Same H H := fun _ _ h => h
theorem Same.trans {H H1 H2 : Hp} (a : Same H H1) (b : Same H1 H2) : Same H H2 := fun c o h => b c o (a c o h)
theorem Same.free {H H' : Hp} (e : Same H H') {l : Addr} (h : H' l = Option.none) : H l = Option.none := by
  cases q : H l with
  | none => rfl
  | some o =>
    rw [e l o q] at h
    cases h
theorem Same.seq {K : PySem.W.Frag} {H H' : Hp} {a : Addr} {xs : List V} (e : Same H H') (h : SqL K H a xs) : SqL K H' a xs := by
  rcases h with (h | ⟨o, h⟩) | h
  · exact .inl (.inl (e _ _ h))
  · exact .inl (.inr ⟨o, e _ _ h⟩)
  · exact .inr h
end L2
set_option Elab.async false
set_option linter.all false
set_option maxRecDepth 100000
namespace L2
open PySem PySem.Spec PyProof.Rows
theorem cellsFrom_app : ∀ (names : List (Str × NameKind)) (n : Nat) (acc : List (Str × Addr)), cellsFrom n names acc = cellsFrom n names [] ++ acc
  | [], _, _ => rfl
  | (name, kind) :: r, n, acc => by
    unfold cellsFrom
    split
    · rw [cellsFrom_app r (n + 1) ((name, n) :: acc), cellsFrom_app r (n + 1) [(name, n)], List.append_assoc]; rfl
    · exact cellsFrom_app r n acc
theorem cellsFrom_kind : ∀ (names : List (Str × NameKind)) (n : Nat) (acc : List (Str × Addr)) (x : Str) (c : Addr), (x, c) ∈ cellsFrom n names acc → (x, c) ∈ acc ∨ (x, NameKind.cell) ∈ names
  | [], _, _, _, _, h => .inl h
  | (name, kind) :: r, n, acc, x, c, h => by
    unfold cellsFrom at h
    split at h
    · rename_i hk
      rcases cellsFrom_kind r _ _ x c h with h | h
      · rcases List.mem_cons.mp h with e | h
        · cases e
          have : kind = .cell := by simpa using hk
          subst this
          exact .inr List.mem_cons_self
        · exact .inl h
      · exact .inr (List.mem_cons_of_mem _ h)
    · rcases cellsFrom_kind r _ _ x c h with h | h
      · exact .inl h
      · exact .inr (List.mem_cons_of_mem _ h)
theorem lookup_app {α : Type} {x : Str} : ∀ (l r : List (Str × α)), (l ++ r).lookup x = (match l.lookup x with | some c => some c | none => r.lookup x)
  | [], r => rfl
  | (k, v) :: l, r => by
    show List.lookup x ((k, v) :: (l ++ r)) = _
    rw [List.lookup_cons, List.lookup_cons]
    cases x == k with
    | true => rfl
    | false => exact lookup_app l r
theorem lookup_none_of {α : Type} {x : Str} : ∀ {l : List (Str × α)}, (∀ c, (x, c) ∉ l) → l.lookup x = none
  | [], _ => rfl
  | (k, v) :: l, h => by
    rw [List.lookup_cons]
    cases hb : x == k with
    | true =>
      have : x = k := by simpa using hb
      subst this
      exact absurd List.mem_cons_self (h v)
    | false => exact lookup_none_of fun c hc => h c (List.mem_cons_of_mem _ hc)
def clOf (cells : List (Str × Addr)) : List (Str × NameKind) → List (Str × Addr) → List (Str × Addr)
  | [], acc => acc
  | (n, k) :: r, acc => if k == .free then clOf cells r ((n, (cells.lookup n).getD 0) :: acc) else clOf cells r acc
theorem closureFor_eq {scope : Scope} {env : Env} (h : ∀ y ∈ scope.names, y.2 = .free → ∃ c, env.cells.lookup y.1 = some c) : closureFor scope env = pure (clOf env.cells scope.names []) := by
  have all : ∀ (names : List (Str × NameKind)) (acc : List (Str × Addr)), (∀ y ∈ names, y.2 = .free → ∃ c, env.cells.lookup y.1 = some c) →
      (forIn names acc fun (x : Str × NameKind) cs => (if (x.2 == NameKind.free) = true then (do let a ← cellOf env x.1; pure (ForInStep.yield ((x.1, a) :: cs))) else pure (ForInStep.yield cs) : Sem (ForInStep (List (Str × Addr))))) = (pure (clOf env.cells names acc) : Sem _) := by
    intro names
    induction names with
    | nil => intro acc _; rfl
    | cons y r ih =>
      intro acc hy
      obtain ⟨n, k⟩ := y
      rw [List.forIn_cons]
      have hr : ∀ y ∈ r, y.2 = .free → ∃ c, env.cells.lookup y.1 = some c := fun y hm => hy y (List.mem_cons_of_mem _ hm)
      unfold clOf
      by_cases hk : (k == NameKind.free) = true
      · obtain ⟨c, e⟩ := hy (n, k) List.mem_cons_self (by simpa using hk)
        rw [if_pos hk, if_pos hk]
        have e2 : cellOf env n = pure c := by unfold cellOf; rw [show env.cells.lookup n = some c from e]
        rw [e2]
        rw [show env.cells.lookup n = some c from e]
        exact ih _ hr
      · rw [if_neg hk, if_neg hk]
        exact ih _ hr
  have q := all scope.names [] h
  unfold closureFor
  refine Eq.trans ?_ (congrArg (fun t => t >>= pure) q |>.trans (by rfl))
  congr 1
theorem clOf_mem {cells : List (Str × Addr)} : ∀ (names : List (Str × NameKind)) (acc : List (Str × Addr)) (x : Str) (c : Addr), (∀ y ∈ names, y.2 = .free → ∃ c, cells.lookup y.1 = some c) → (x, c) ∈ clOf cells names acc → (x, c) ∈ acc ∨ ((x, NameKind.free) ∈ names ∧ cells.lookup x = some c)
  | [], _, _, _, _, h => .inl h
  | (n, k) :: r, acc, x, c, hy, h => by
    have hr : ∀ y ∈ r, y.2 = .free → ∃ c, cells.lookup y.1 = some c := fun y hm => hy y (List.mem_cons_of_mem _ hm)
    unfold clOf at h
    split at h
    · rename_i hk
      have hk' : k = .free := by simpa using hk
      subst hk'
      obtain ⟨d, e⟩ := hy (n, .free) List.mem_cons_self rfl
      rcases clOf_mem r _ x c hr h with h | ⟨h, h'⟩
      · rcases List.mem_cons.mp h with e' | h
        · obtain ⟨e1, e2⟩ := Prod.mk.inj e'
          rw [show cells.lookup n = some d from e] at e2
          subst e1
          exact .inr ⟨List.mem_cons_self, by rw [e2]; exact e⟩
        · exact .inl h
      · exact .inr ⟨List.mem_cons_of_mem _ h, h'⟩
    · rcases clOf_mem r _ x c hr h with h | ⟨h, h'⟩
      · exact .inl h
      · exact .inr ⟨List.mem_cons_of_mem _ h, h'⟩
theorem clOf_keep {cells : List (Str × Addr)} {x : Str} : ∀ (names : List (Str × NameKind)) (acc : List (Str × Addr)), (∃ c, (x, c) ∈ acc) → ∃ c, (x, c) ∈ clOf cells names acc
  | [], _, h => h
  | (n, k) :: r, acc, ⟨c, h⟩ => by
    unfold clOf
    split
    · exact clOf_keep r _ ⟨c, List.mem_cons_of_mem _ h⟩
    · exact clOf_keep r _ ⟨c, h⟩
theorem clOf_has {cells : List (Str × Addr)} {x : Str} : ∀ (names : List (Str × NameKind)) (acc : List (Str × Addr)), (x, NameKind.free) ∈ names → ∃ c, (x, c) ∈ clOf cells names acc
  | (n, k) :: r, acc, h => by
    unfold clOf
    rcases List.mem_cons.mp h with e | h
    · cases e
      rw [if_pos (by decide)]
      exact clOf_keep r _ ⟨_, List.mem_cons_self⟩
    · split
      · exact clOf_has r _ h
      · exact clOf_has r _ h
theorem lookup_of_mem {α : Type} {x : Str} : ∀ {l : List (Str × α)}, (∃ c, (x, c) ∈ l) → ∃ c, l.lookup x = some c
  | (k, v) :: l, ⟨c, h⟩ => by
    rw [List.lookup_cons]
    cases hb : x == k with
    | true => exact ⟨v, rfl⟩
    | false =>
      rcases List.mem_cons.mp h with e | h
      · cases e; simp at hb
      · exact lookup_of_mem ⟨c, h⟩
def relS (scope sc : Scope) : Scope :=
  { scope with names := scope.names.map fun (n, k) => if (k == .free && sc.kind == .function && sc.names.lookup n == some .cell) then (n, .cell) else (n, k) }
structure CompScope (scope sc : Scope) : Prop where
  kind : scope.kind = .function
  nd : (scope.names.map (·.1)).Nodup
  fr : ∀ y ∈ scope.names, y.2 = .free → sc.names.lookup y.1 = some .cell ∨ sc.names.lookup y.1 = some .free
theorem lookup_nd {α : Type} : ∀ {l : List (Str × α)} {x : Str} {c : α}, (l.map (·.1)).Nodup → (x, c) ∈ l → l.lookup x = some c
  | (k, v) :: l, x, c, nd, h => by
    obtain ⟨n1, n2⟩ := List.nodup_cons.mp (show (k :: l.map (·.1)).Nodup from nd)
    rw [List.lookup_cons]
    rcases List.mem_cons.mp h with e | h
    · cases e; simp
    · have hne : ¬ x = k := fun e => n1 (by rw [← e]; exact List.mem_map.mpr ⟨(x, c), h, rfl⟩)
      have : (x == k) = false := by simpa using hne
      rw [this]
      exact lookup_nd n2 h
theorem relS_lookup {scope sc : Scope} {x : Str} : (relS scope sc).names.lookup x = (scope.names.lookup x).map fun k => if (k == .free && sc.kind == .function && sc.names.lookup x == some .cell) then NameKind.cell else k := by
  show (scope.names.map _).lookup x = _
  generalize scope.names = names
  induction names with
  | nil => rfl
  | cons y r ih =>
    obtain ⟨n, k⟩ := y
    rw [List.map_cons]
    by_cases hc : (k == .free && sc.kind == .function && sc.names.lookup n == some .cell) = true
    · show List.lookup x ((if (k == .free && sc.kind == .function && sc.names.lookup n == some .cell) = true then (n, NameKind.cell) else (n, k)) :: _) = _
      rw [if_pos hc, List.lookup_cons, List.lookup_cons]
      cases hb : x == n with
      | true =>
        have hx : x = n := by simpa using hb
        subst hx
        show some NameKind.cell = some (if _ then _ else _)
        rw [if_pos hc]
      | false => exact ih
    · show List.lookup x ((if (k == .free && sc.kind == .function && sc.names.lookup n == some .cell) = true then (n, NameKind.cell) else (n, k)) :: _) = _
      rw [if_neg hc, List.lookup_cons, List.lookup_cons]
      cases hb : x == n with
      | true =>
        have hx : x = n := by simpa using hb
        subst hx
        show some k = some (if _ then _ else _)
        rw [if_neg hc]
      | false => exact ih
end L2
set_option Elab.async false
set_option linter.all false
set_option maxRecDepth 100000
namespace L2
open PySem PySem.Spec PyProof.Rows
structure CArgs where
  pins : List (Addr × Obj)
  cells : List (Str × Addr)
  s : Shared
  H : Hp
  fp : List Addr
  C : Addr
def Cx.comp (X : Cx) (scope : Scope) (N' : List Str) (c : CArgs) : Cx where
  prog := X.prog
  w := X.w
  K := X.K
  mg := X.mg
  base := X.base
  A := X.A
  N := N'
  s₀ := c.s
  H₀ := c.H
  env := compEnvC scope c.cells c.C X.env
  outer := X.stack
  stack := X.stack
  ex := c.fp
  fn := fun x => scope.names.lookup x == some .cell
  calm := X.calm
  pn := X.pn ++ c.pins
  xe := fun _ _ => False
def cSt (own : Nat) (ix : List Nat) (σ : St) : St := List.replicate own none ++ ix.map fun i => (σ[i]?).join
section
variable {X : Cx} {pins : List (Addr × Obj)} {σ : St} {H : Hp} {s s4 : Shared} {fp : List Addr} {scope : Scope} {N' : List Str} {own : Nat} {ix : List Nat}
theorem comp_inv (I : Inv X pins σ H s) (f2 : ∀ b ∈ fp, FpOk X pins H b) (hob : ∀ b ∈ fp, ∃ o, s.heap.get? b = some o) (S : CompScope scope X.env.scope)
    (hlen : N'.length = own + ix.length) (hN : (N'.drop own).map some = ix.map (X.N[·]?)) (hfr : ∀ x ∈ N'.drop own, scope.names.lookup x = some .free)
    {C : Addr} (hC : s.heap.objs.size < C) (k4 : ∀ b o, s.heap.get? b = some o → s4.heap.get? b = some o) (os4 : s4.os = s.os) (g4 : s4.gens = s.gens)
    (n4 : ∃ m, s4.heap.Ns C m) (own4 : ∀ x c, (x, c) ∈ cellsFrom (C + 1) scope.names [] → s4.heap.IsCell c none ∧ C + 1 ≤ c)
    (apart : (cellsFrom (C + 1) scope.names []).Pairwise fun x y => x.2 ≠ y.2) :
    Inv (X.comp scope N' ⟨pins, cellsFrom (C + 1) scope.names (clOf X.env.cells scope.names []), s, H, fp, C⟩) [] (cSt own ix σ) H s4 := by
  have hfree : ∀ y ∈ scope.names, y.2 = .free → ∃ c, X.env.cells.lookup y.1 = some c := fun y hy h => I.ok.has y.1 (S.fr y hy h)
  -- a cell of the block
  have cases : ∀ x c, (cellsFrom (C + 1) scope.names (clOf X.env.cells scope.names [])).lookup x = some c →
      ((x, c) ∈ cellsFrom (C + 1) scope.names [] ∧ scope.names.lookup x = some .cell) ∨ ((x, NameKind.free) ∈ scope.names ∧ X.env.cells.lookup x = some c) := fun x c h => by
    rw [cellsFrom_app, lookup_app] at h
    cases e : (cellsFrom (C + 1) scope.names []).lookup x with
    | some d =>
      rw [e] at h
      cases h
      have m := mem_of_lookup e
      rcases cellsFrom_kind _ _ _ _ _ m with z | z
      · exact absurd z (by simp)
      · exact .inl ⟨m, lookup_nd S.nd z⟩
    | none =>
      rw [e] at h
      rcases clOf_mem _ _ _ _ hfree (mem_of_lookup h) with z | z
      · exact absurd z (by simp)
      · exact .inr z
  have oldlt : ∀ x c, X.env.cells.lookup x = some c → c < s.heap.objs.size := fun x c e => let ⟨v, q⟩ := I.cell x c e; q.lt
  have kin : ∀ x, (relS scope X.env.scope).names.lookup x = some .cell ∨ (relS scope X.env.scope).names.lookup x = some .free → (scope.names.lookup x = some .cell ∨ scope.names.lookup x = some .free) := fun x h => by
    rw [relS_lookup] at h
    cases e : scope.names.lookup x with
    | none => rw [e] at h; simp at h
    | some k =>
      rw [e] at h
      cases k with
      | cell => exact .inl rfl
      | free => exact .inr rfl
      | _ => exact absurd h (by simp)
  have hCn : ∀ b o, s.heap.get? b = some o → b ≠ C := fun b o e z => by have := Heap.lt_size e; rw [z] at this; exact Nat.lt_irrefl _ (Nat.lt_trans this hC)
  have lk : ∀ x, (x, NameKind.free) ∈ scope.names → ∀ c, X.env.cells.lookup x = some c → (cellsFrom (C + 1) scope.names (clOf X.env.cells scope.names [])).lookup x = some c := fun x hx c hc => by
    have hl : scope.names.lookup x = some .free := lookup_nd S.nd hx
    rw [cellsFrom_app, lookup_app, lookup_none_of (l := cellsFrom (C + 1) scope.names []) fun d hd => ?_]
    · obtain ⟨d, hd⟩ := lookup_of_mem (clOf_has (cells := X.env.cells) scope.names [] hx)
      rcases clOf_mem _ _ _ _ hfree (mem_of_lookup hd) with z | ⟨_, z⟩
      · exact absurd z (by simp)
      · rw [hc] at z; cases z; exact hd
    · rcases cellsFrom_kind _ _ _ _ _ hd with z | z
      · exact absurd z (by simp)
      · rw [lookup_nd S.nd z] at hl; cases hl
  refine ⟨⟨I.ok.mod, S.kind, I.ok.glob, I.ok.blt, Nat.le_of_lt hC, fun x y c hx hy => ?_, fun x hx => ?_, fun x c hf hx => ?_, I.ok.hd, I.ok.frames, .inl rfl, fun b hb => ⟨?_, fun x c hx => ?_⟩, fun b o e => I.bs b o e, Nat.le_trans I.ok.bsz I.sz, fun b o e hb => ?_, fun b hb z => ?_, I.stack, I.stkFree⟩,
    os4, by rw [g4]; exact I.bare, Un.kept k4, ?_, fun x c hx => ?_, ?_, fun x c hx => ?_, fun p hp => ?_, I.hok.kept k4, ?_⟩
  · -- inj
    rcases cases x c hx with ⟨m1, _⟩ | ⟨_, m1⟩ <;> rcases cases y c hy with ⟨m2, _⟩ | ⟨_, m2⟩
    · exact name_of_addr apart m1 m2
    · exact absurd (Nat.lt_of_lt_of_le (Nat.lt_trans (oldlt y c m2) hC) (Nat.le_of_succ_le (own4 x c m1).2)) (Nat.lt_irrefl _)
    · exact absurd (Nat.lt_of_lt_of_le (Nat.lt_trans (oldlt x c m1) hC) (Nat.le_of_succ_le (own4 y c m2).2)) (Nat.lt_irrefl _)
    · exact I.ok.inj x y c m1 m2
  · -- has
    rcases kin x hx with h | h
    · have q := PySem.W.cellsFrom_some scope.names (C + 1) (clOf X.env.cells scope.names []) (.inl h)
      exact Option.isSome_iff_exists.mp q
    · obtain ⟨c, e⟩ := hfree (x, .free) (mem_of_lookup h) rfl
      exact ⟨c, lk x (mem_of_lookup h) c e⟩
  · -- cab
    rcases cases x c hx with ⟨m1, _⟩ | ⟨m1, _⟩
    · exact Nat.le_of_lt (Nat.lt_of_lt_of_le hC (Nat.le_of_succ_le (own4 x c m1).2))
    · have hl := lookup_nd S.nd m1
      have hf' : (scope.names.lookup x == some NameKind.cell) = true := hf
      rw [hl] at hf'; cases hf'
  · obtain ⟨o, e⟩ := hob b hb
    exact hCn b o e
  · intro z
    obtain ⟨o, e⟩ := hob b hb
    have hlt := Heap.lt_size e
    rcases cases x c hx with ⟨m1, _⟩ | ⟨_, m1⟩
    · subst z; exact absurd (Nat.lt_of_lt_of_le (Nat.lt_trans hlt hC) (Nat.le_of_succ_le (own4 x c m1).2)) (Nat.lt_irrefl _)
    · exact (f2 b hb).2.2.2.2.1 x c m1 z
  · -- noex
    have e1 := (I.ok.bs b o e).1
    rcases (f2 b hb).2.2.2.1 with z | z
    · exact I.ok.noex b o e z
    · exact absurd (Nat.lt_of_lt_of_le (Heap.lt_size e1) z) (Nat.lt_irrefl _)
  · -- exfs
    rcases List.mem_cons.mp (I.stkSub b z) with e | z
    · exact (f2 b hb).2.1 e
    · exact (f2 b hb).2.2.1 z
  · -- loc
    obtain ⟨m, hm⟩ := n4
    obtain ⟨m0, hn0, hl0⟩ := I.loc
    refine ⟨m, hm, fun i x v h1 h2 h3 => ?_⟩
    have h1 : N'[i]? = some x := h1
    unfold cSt at h2
    by_cases hi : i < own
    · rw [List.getElem?_append_left (by simpa using hi), List.getElem?_replicate] at h2
      split at h2 <;> cases h2
    · rw [List.getElem?_append_right (by simpa using hi), List.length_replicate, List.getElem?_map] at h2
      obtain ⟨j, hj⟩ : ∃ j, i = own + j := ⟨i - own, by omega⟩
      subst hj
      rw [Nat.add_sub_cancel_left] at h2
      cases e : ix[j]? with
      | none => rw [e] at h2; cases h2
      | some q =>
        rw [e] at h2
        have h2 : some (σ[q]?).join = some (some v) := h2
        have h2 : (σ[q]?).join = some v := Option.some.inj h2
        have hσ : σ[q]? = some (some v) := by
          cases eq : σ[q]? with
          | none => rw [eq] at h2; cases h2
          | some z => rw [eq] at h2; simp at h2; rw [h2]
        have hx : (N'.drop own)[j]? = some x := by rw [List.getElem?_drop]; exact h1
        have hNq : X.N[q]? = some x := by
          have := congrArg (·[j]?) hN
          simp only [List.getElem?_map, hx, e, Option.map_some] at this
          exact (Option.some.inj this).symm
        have hfx := hfr x (List.mem_of_getElem? hx)
        have hmem := mem_of_lookup hfx
        have kx := S.fr (x, .free) hmem rfl
        have vis : Vis X.env.scope x := .inr kx
        obtain ⟨u, r, l⟩ := hl0 q x v hNq hσ vis
        refine ⟨u, r, ?_⟩
        rcases l with ⟨k, _⟩ | ⟨k, c, hc, z⟩
        · exfalso
          have k' : X.env.scope.names.lookup x = some .local := k
          rcases kx with kx | kx
          · rw [show X.env.scope.names.lookup x = some .cell from kx] at k'; cases k'
          · rw [show X.env.scope.names.lookup x = some .free from kx] at k'; cases k'
        · refine .inr ⟨?_, c, lk x hmem c hc, z.keeps k4⟩
          show (relS scope X.env.scope).names.lookup x = some .cell ∨ (relS scope X.env.scope).names.lookup x = some .free
          rw [relS_lookup, hfx]
          by_cases hc : (NameKind.free == .free && X.env.scope.kind == .function && X.env.scope.names.lookup x == some .cell) = true
          · exact .inl (by rw [Option.map_some, if_pos hc])
          · exact .inr (by rw [Option.map_some, if_neg hc])
  · rcases cases x c hx with ⟨m1, _⟩ | ⟨_, m1⟩
    · exact ⟨_, (own4 x c m1).1⟩
    · obtain ⟨v, q⟩ := I.cell x c m1
      exact ⟨v, q.keeps k4⟩
  · exact I.hok.fresh (Nat.le_of_lt hC)
  · rcases cases x c hx with ⟨m1, _⟩ | ⟨_, m1⟩
    · exact I.hok.fresh (Nat.le_of_lt (Nat.lt_of_lt_of_le hC (Nat.le_of_succ_le (own4 x c m1).2)))
    · exact I.freeC x c m1
  · have hp : p ∈ X.pn ++ pins := by
      have : p ∈ (X.pn ++ pins) ++ [] := hp
      rwa [List.append_nil] at this
    obtain ⟨e, n, ne, nf, d⟩ := I.pin p hp
    refine ⟨k4 _ _ e, n, hCn _ _ e, fun z => ?_, d⟩
    rcases List.mem_cons.mp (I.stkSub _ z) with q | q
    · exact ne q
    · exact nf q
  · unfold cSt
    rw [List.length_append, List.length_replicate, List.length_map]
    exact hlen.symm
end
end L2
set_option Elab.async false
set_option linter.all false
set_option maxRecDepth 100000
set_option maxHeartbeats 4000000
namespace L2
open PySem PySem.Spec PyProof.Rows
section
variable {prog : Program} {w : World} {A : Around} {R : Result → Shared → Prop} {s : Shared}
theorem codeAny_compLoop_any {elt target iter : Expr} {ifs : List Expr} {scope : Scope} {pos : Pos} {it acc : Value} {env : Env} (I : Nat → Shared → Prop)
    (turn : ∀ n s, I n s → wpAny (model prog w) A (pyNext it) (fun r s₁ => match r with
      | none => R (.ok .next) s₁
      | some v => wpAny (model prog w) A (letOwnedTupleGo target it v) (fun _ s₁' => wpAny (model prog w) A (assign target env v) (fun _ s₂ =>
          wpAny (model prog w) A (forIn ifs true fun c r => if r = true then do let ok ← isTrue c env (eval c env); pure (ForInStep.yield ok) else pure (ForInStep.yield r)) (fun ok s₃ =>
            if ok = true then wpAny (model prog w) A (eval elt env) (fun x s₄ =>
              wpAny (model prog w) A (call (.builtin "list.append") [acc, x]) (fun _ s₅ => ∃ m, m < n ∧ I m s₅) (fun _ _ => False) s₄) (fun _ _ => False) s₃
            else ∃ m, m < n ∧ I m s₃) (fun _ _ => False) s₂) (fun _ _ => False) s₁') (fun _ _ => False) s₁) (fun _ _ => False) s)
    (n : Nat) (h : I n s) :
    codeAny (model prog w) A (.compLoop (.ListComp elt [⟨target, iter, ifs, 0⟩] scope pos) 0 it acc env) R s := by
  refine codeAny_loop rfl I (fun n s hI => ?_) n h
  show wpAny _ A ((compTurn (.ListComp elt [⟨target, iter, ifs, 0⟩] scope pos) 0 it acc env).onRaise (fun x => do noteFrame x env; theTreesLotGoes x)) _ _ s
  refine wpAny_noted ?_
  rw [compTurn_list]
  refine wpAny_bind (wpAny_standAt (wpAny_bind (wpAny_mono (turn n s hI) (fun r s₁ h₁ => ?_) fun _ _ h' => h'.elim)))
  cases r with
  | none => exact wpAny_pure h₁
  | some v =>
    refine wpAny_bind (wpAny_mono h₁ (fun _ s₁' h₁' => ?_) fun _ _ h' => h'.elim)
    refine wpAny_bind (wpAny_mono h₁' (fun _ s₂ h₂ => wpAny_bind (wpAny_mono h₂ (fun ok s₃ h₃ => ?_) fun _ _ h' => h'.elim)) fun _ _ h' => h'.elim)
    cases ok with
    | false => exact wpAny_pure ⟨rfl, h₃⟩
    | true =>
      exact wpAny_bind (wpAny_bind (wpAny_mono h₃ (fun x s₄ h₄ => wpAny_bind (wpAny_mono h₄ (fun _ s₅ h₅ => wpAny_pure (wpAny_pure ⟨rfl, h₅⟩)) fun _ _ h' => h'.elim)) fun _ _ h' => h'.elim))
end
def PTs (X : Cx) (ifs : List Expr) (t : TT) : Prop :=
  ∀ (pins : List (Addr × Obj)) (s : Shared) (σ : St) (H : Hp) (Q : Bool → Hp → Prop), Inv X pins σ H s → t σ H Q →
    wpAny (model X.prog X.w) X.A (forIn ifs true fun c r => if r = true then do let ok ← isTrue c X.env (eval c X.env); pure (ForInStep.yield ok) else pure (ForInStep.yield r)) (TP X pins σ Q) X.xe s
def tTrue : TT := fun _ H Q => Q true H
theorem pts_nil {X : Cx} : PTs X [] tTrue := fun _ _ _ H _ I h => wpAny_tests_nil ⟨H, I, h⟩
theorem pts_one {X : Cx} {c : Expr} {t : TT} (h : PT X c t) : PTs X [c] t := fun pins s σ H Q I hq => wpAny_tests_one (h pins s σ H Q I hq)
def GOwn (own : Nat) (g : TG) : Prop := ∀ x σ H Q, g x σ H Q → g x σ H fun σ' H' => (σ'.length = σ.length ∧ ∀ i, own ≤ i → σ'[i]? = σ[i]?) ∧ Q σ' H'
def GsOwn (own : Nat) (g : TGs) : Prop := ∀ x σ H Q, g x σ H Q → g x σ H fun σ' H' => (σ'.length = σ.length ∧ ∀ i, own ≤ i → σ'[i]? = σ[i]?) ∧ Q σ' H'
theorem go_name {own i : Nat} (h : i < own) : GOwn own (gName i) := fun x σ H Q q =>
  ⟨⟨by simp, fun j hj => by rw [List.getElem?_set_ne (by omega)]⟩, q⟩
theorem gos_nil {own : Nat} : GsOwn own gNil := fun x σ H Q ⟨e, q⟩ => ⟨e, ⟨rfl, fun _ _ => rfl⟩, q⟩
def GMono (g : TG) : Prop := ∀ x σ H (Q Q' : St → Hp → Prop), (∀ σ H, Q σ H → Q' σ H) → g x σ H Q → g x σ H Q'
def GsMono (g : TGs) : Prop := ∀ x σ H (Q Q' : St → Hp → Prop), (∀ σ H, Q σ H → Q' σ H) → g x σ H Q → g x σ H Q'
theorem gm_name {i : Nat} : GMono (gName i) := fun _ _ _ _ _ h q => h _ _ q
theorem gms_nil : GsMono gNil := fun _ _ _ _ _ h ⟨e, q⟩ => ⟨e, h _ _ q⟩
theorem gms_cons {t : TG} {u : TGs} (h1 : GMono t) (h2 : GsMono u) : GsMono (gCons t u) := fun _ _ _ _ _ h ⟨v, r, e, q⟩ => ⟨v, r, e, h1 _ _ _ _ _ (fun _ _ q => h2 _ _ _ _ _ h q) q⟩
theorem gos_cons {own : Nat} {t : TG} {u : TGs} (m : GMono t) (mu : GsMono u) (h1 : GOwn own t) (h2 : GsOwn own u) : GsOwn own (gCons t u) := fun x σ H Q ⟨v, r, e, q⟩ =>
  ⟨v, r, e, m _ _ _ _ _ (fun σ' H' ⟨⟨e1, e2⟩, q⟩ => mu _ _ _ _ _ (fun σ'' H'' ⟨⟨e3, e4⟩, q⟩ => ⟨⟨e3.trans e1, fun i hi => (e4 i hi).trans (e2 i hi)⟩, q⟩) (h2 r σ' H' Q q)) (h1 v σ H _ q)⟩
theorem go_tup {own : Nat} {K : PySem.W.Frag} {n : Nat} {t : TGs} (h : GsOwn own t) : GOwn own (gTup K n t) := fun x σ H Q ⟨a, xs, e, s, l, q⟩ => ⟨a, xs, e, s, l, h _ _ _ _ q⟩
theorem cSt_own {own : Nat} {ix : List Nat} {σ : St} {i : Nat} {v : V} (h : (cSt own ix σ)[i]? = some (some v)) : own ≤ i := by
  unfold cSt at h
  by_cases hi : i < own
  · rw [List.getElem?_append_left (by simpa using hi), List.getElem?_replicate] at h
    split at h <;> cases h
  · omega
def CompTurns (J : It) (g : TG) (tc : TT) (te : TE) (σc : St) (Q : VK) (H1 : Hp) : Prop :=
  ∃ W : Nat → Nat → List V → Hp → Prop, (∃ m, W 0 m [] H1) ∧ ∀ i m ys H, W i m ys H →
    (J.stop i H ∧ ∀ p, H p = none → Q (.ref p) (upd H p (.lst ys))) ∨
    (J.go i H ∧ ys.length < sizeLine ∧ ∃ N : List V → Hp → Prop, (∀ ys' H', N ys' H' → ∃ m', m' < m ∧ W (i + 1) m' ys' H') ∧ ∀ x H', J.yld i H x H' → g x σc H' fun σ4 H4 => tc σ4 H4 fun b H5 =>
      if b = true then te σ4 H5 fun y H6 => N (ys ++ [y]) H6 else N ys H5)
def tComp (wi : TI) (own : Nat) (ix : List Nat) (g : TG) (tc : TT) (te : TE) : TE := fun σ H Q => wi σ H fun J H1 => CompTurns J g tc te (cSt own ix σ) Q H1
section
variable {X : Cx} {pins : List (Addr × Obj)} {σ : St} {H : Hp} {s : Shared} {fp : List Addr} {it : Addr} {tn : Nat → Heap → Prop} {J : It} {tg iter elt : Expr} {ifs : List Expr} {scope : Scope} {pos : Pos} {N' : List Str} {own : Nat} {ix : List Nat} {g : TG} {tc : TT} {te : TE} {Q : VK} {E : Value → Shared → Prop}
theorem comp_block (I : Inv X pins σ H s) (T : Turn X.prog X.w X.K tg J fp it tn) (st : tn 0 s.heap) (f2 : ∀ b ∈ fp, FpOk X pins H b) (hc : X.calm = true) (S : CompScope scope X.env.scope)
    (hlen : N'.length = own + ix.length) (hN : (N'.drop own).map some = ix.map (X.N[·]?)) (hfr : ∀ x ∈ N'.drop own, scope.names.lookup x = some .free)
    (hg : ∀ c, PG (X.comp scope N' c) tg g) (hgo : GOwn own g) (ht : ∀ c, PTs (X.comp scope N' c) ifs tc) (he : ∀ c, PE (X.comp scope N' c) elt te)
    (hq : CompTurns J g tc te (cSt own ix σ) Q H) {RR : Value → Addr → Result → Shared → Prop}
    (fin : ∀ (D C : Addr) (s' : Shared) (H' : Hp) (ys : List V) (its : List Value) (n : Nat), s'.os = s.os → AllBare s'.gens → Un (frs X.stack) fp H H' s.heap s'.heap → HOk X.prog X.w H' s'.heap → (∃ m, s'.heap.Ns C m) → H' C = none → s.heap.objs.size ≤ C →
      H' D = none → s.heap.objs.size ≤ D → D ≠ C → s'.heap.get? D = some { cls := .type "list", data := .seq its.toArray n } → Vals ys its → ys.length ≤ sizeLine → (∀ p, H' p = none → Q (.ref p) (upd H' p (.lst ys))) → RR (.ref D) C (.ok .next) s') :
    wpAny (model X.prog X.w) X.A (newList []) (fun acc s₃ => wpAny (model X.prog X.w) X.A (newFunctionEnv scope X.env.globals (clOf X.env.cells scope.names []) [] X.env.qual none .none (some X.env)) (fun cenv s₄ =>
      codeAny (model X.prog X.w) X.A (.compStart (.ListComp elt [⟨tg, iter, ifs, 0⟩] scope pos) 0 (.ref it) acc { cenv with scope := relabel scope X.env }) (RR acc cenv.locals) s₄) E s₃) E s := by
  obtain ⟨W, ⟨m0, w0⟩, turn⟩ := hq
  have hob : ∀ b ∈ fp, ∃ o, s.heap.get? b = some o := fun b hb => let ⟨o, e, _⟩ := T.obj 0 _ st b hb; ⟨o, e⟩
  refine wpAny_newObj_type ?_
  generalize hH1 : s.heap.push { cls := .type "list", dict := none, data := .seq ([] : List Value).toArray } = h1
  have hs1 : h1.objs.size = s.heap.objs.size + 1 := by rw [← hH1, Heap.size_push]
  have k1 : ∀ b o, s.heap.get? b = some o → h1.get? b = some o := fun b o e => by rw [← hH1]; exact Heap.get?_push_of_some _ e
  have d1 : h1.get? s.heap.objs.size = some { cls := .type "list", data := .seq ([] : List Value).toArray } := by rw [← hH1]; exact Heap.get?_push_size _ rfl
  simp only [newFunctionEnv, Option.isSome_some, if_true]
  refine wpAny_bind (wpAny_alloc ?_)
  generalize hH2 : (({ s with heap := h1 } : Shared).heap.push { cls := .type "dict", data := .dict #[] }) = h2
  have hH2' : h1.push { cls := .type "dict", data := .dict #[] } = h2 := hH2
  have hs2 : h2.objs.size = h1.objs.size + 1 := by rw [← hH2', Heap.size_push]
  have k2 : ∀ b o, h1.get? b = some o → h2.get? b = some o := fun b o e => by rw [← hH2']; exact Heap.get?_push_of_some _ e
  have n2 : h2.Ns h1.objs.size (fun _ => none) := by rw [← hH2']; exact Heap.Ns.new h1 (.type "dict")
  refine wpAny_bind (wpAny_layCells _ (fun name kind cells => by cases hkc : kind == NameKind.cell <;> simp [hkc]) _ _ _ _ ?_)
  have ok := cellsFrom_ok scope.names h2 (h1.objs.size + 1) [] ⟨fun _ _ hm => (nomatch hm), List.Pairwise.nil⟩ (by rw [hs2]; exact Nat.le_refl _)
  rw [hs2] at ok
  show wpAny _ _ (forIn ([] : List (Str × Value)) PUnit.unit _ >>= _) _ _ _
  rw [List.forIn_nil]
  refine wpAny_bind (wpAny_pure (wpAny_pure ?_))
  show codeAny _ _ (.compStart _ 0 (.ref it) (.ref s.heap.objs.size) (compEnvC scope (cellsFrom h2.objs.size scope.names (clOf X.env.cells scope.names [])) h1.objs.size X.env)) (RR (.ref s.heap.objs.size) h1.objs.size) { s with heap := pushCells h2 scope.names }
  rw [hs2]
  generalize hH3 : pushCells h2 scope.names = h3 at ok ⊢
  have k3 : ∀ b o, h2.get? b = some o → h3.get? b = some o := fun b o e => by rw [← hH3]; exact pushCells_keeps _ _ b o e
  have kk : ∀ b o, s.heap.get? b = some o → h3.get? b = some o := fun b o e => k3 b o (k2 b o (k1 b o e))
  have d3 : h3.get? s.heap.objs.size = some { cls := .type "list", data := .seq ([] : List Value).toArray } := k3 _ _ (k2 _ _ d1)
  have hC : s.heap.objs.size < h1.objs.size := by rw [hs1]; exact Nat.lt_succ_self _
  have I3 : Inv (X.comp scope N' ⟨pins, cellsFrom (h1.objs.size + 1) scope.names (clOf X.env.cells scope.names []), s, H, fp, h1.objs.size⟩) [] (cSt own ix σ) H { s with heap := h3 } :=
    comp_inv (s4 := { s with heap := h3 }) I f2 hob S hlen hN hfr hC kk rfl rfl ⟨_, n2.keeps k3⟩ (fun x c hm => ok.empty x c hm) ok.apart
  generalize hcs : cellsFrom (h1.objs.size + 1) scope.names (clOf X.env.cells scope.names []) = cs at I3 ⊢
  generalize hCC : h1.objs.size = C at *
  generalize hDD : s.heap.objs.size = D at *
  have hY := I3.ok
  -- what is fixed of the records
  have sD : D ≠ C ∧ (∀ x c, cs.lookup x = some c → c ≠ D) ∧ D ∉ frs X.stack ∧ ∀ p ∈ X.pn ++ pins, p.1 ≠ D := by
    refine ⟨Nat.ne_of_lt hC, fun x c e z => ?_, fun z => ?_, fun p hp z => ?_⟩
    · subst z
      have e' := e
      rw [← hcs, cellsFrom_app, lookup_app] at e'
      cases q : (cellsFrom (C + 1) scope.names []).lookup x with
      | some d =>
        rw [q] at e'; cases e'
        have := (ok.empty x c (mem_of_lookup q)).2
        exact absurd (Nat.lt_of_lt_of_le hC (Nat.le_of_succ_le this)) (Nat.lt_irrefl _)
      | none =>
        rw [q] at e'
        have hfree : ∀ y ∈ scope.names, y.2 = .free → ∃ c, X.env.cells.lookup y.1 = some c := fun y hy h => I.ok.has y.1 (S.fr y hy h)
        rcases clOf_mem _ _ _ _ hfree (mem_of_lookup e') with z | ⟨_, z⟩
        · exact absurd z (by simp)
        · obtain ⟨v, q⟩ := I.cell x c z
          have := q.lt
          rw [hDD] at this
          exact Nat.lt_irrefl _ this
    · exact (I3.nofs (a := D) (by exact absurd z (by
        intro z'
        obtain ⟨_, o, ho, _⟩ := (show s.heap.FunFrames X.base X.stack from I.stack).mem z'
        have := Heap.lt_size ho
        rw [hDD] at this
        exact Nat.lt_irrefl _ this))) z
    · have := Heap.lt_size (I.pin p hp).1
      rw [z, hDD] at this
      exact Nat.lt_irrefl _ this
  have stat : ∀ {H' : Hp}, (∀ b ∈ fp, H' b = none) → ∀ b ∈ fp, FpOk (X.comp scope N' ⟨pins, cs, s, H, fp, C⟩) [] H' b := fun {H'} hn b hb => by
    refine ⟨hn b hb, (hY.exf b hb).1, hY.exfs b hb, .inl hb, (hY.exf b hb).2, fun p hp => ?_⟩
    have hp : p ∈ (X.pn ++ pins) ++ [] := hp
    rw [List.append_nil] at hp
    exact (f2 b hb).2.2.2.2.2 p hp
  have statD : ∀ {H' : Hp}, H' D = none → FpOk (X.comp scope N' ⟨pins, cs, s, H, fp, C⟩) [] H' D := fun {H'} hn => by
    refine ⟨hn, sD.1, sD.2.2.1, .inr (Nat.le_of_eq hDD), sD.2.1, fun p hp => ?_⟩
    have hp : p ∈ (X.pn ++ pins) ++ [] := hp
    rw [List.append_nil] at hp
    exact sD.2.2.2 p hp
  have loop : codeAny (model X.prog X.w) X.A (.compLoop (.ListComp elt [⟨tg, iter, ifs, 0⟩] scope pos) 0 (.ref it) (.ref D) (compEnvC scope cs C X.env)) (RR (.ref D) C) { s with heap := h3 } := by
    refine codeAny_compLoop_any (fun n s' => ∃ (i : Nat) (H' : Hp) (ys : List V) (its : List Value) (k : Nat), Inv (X.comp scope N' ⟨pins, cs, s, H, fp, C⟩) [] (cSt own ix σ) H' s' ∧ tn i s'.heap ∧ (∀ b ∈ fp, H' b = none) ∧ H' D = none ∧
      s'.heap.get? D = some { cls := .type "list", data := .seq its.toArray k } ∧ Vals ys its ∧ ys.length ≤ sizeLine ∧ W i n ys H') ?_ m0
      ⟨0, H, [], [], 0, I3, T.keep _ _ _ st fun b _ o e => kk b o e, fun b hb => (f2 b hb).1, I.hok.fresh (Nat.le_of_eq hDD), d3, .nil, Nat.zero_le _, w0⟩
    rintro n s4 ⟨i, H4, ys, its, k, I4, st4, fr4, dn4, d4, rv4, z4, w4⟩
    rcases turn i n ys H4 w4 with ⟨stop, qn⟩ | ⟨go, zl, N, hN2, step⟩
    · have ID := I4.pinned (fp := [D]) (fun b hb => by rw [List.mem_singleton.mp hb]; exact statD dn4) (fun b hb => by rw [List.mem_singleton.mp hb]; exact ⟨_, d4, fun v z => nomatch z⟩)
      have nD : ∀ b ∈ fp, b ≠ D := fun b hb z => by
        obtain ⟨o, e⟩ := hob b hb
        have := Heap.lt_size e
        rw [z, hDD] at this
        exact Nat.lt_irrefl _ this
      have stat' : ∀ b ∈ fp, FpOk (X.comp scope N' ⟨pins, cs, s, H, fp, C⟩) ([] ++ pinsAt [D] s4.heap) H4 b := fun b hb => by
        obtain ⟨q1, q2, q3, q4, q5, q6⟩ := stat fr4 b hb
        refine ⟨q1, q2, q3, q4, q5, fun p hp => ?_⟩
        rcases List.mem_append.mp hp with z | z
        · exact q6 p (List.mem_append_left _ z)
        · have := (of_pinsAt (by simpa using z : p ∈ pinsAt [D] s4.heap)).1
          rw [List.mem_singleton.mp this]
          exact fun z => nD b hb z.symm
      refine thn (T.done (X.comp scope N' ⟨pins, cs, s, H, fp, C⟩) rfl rfl rfl hc i _ s4 _ H4 (fun _ _ => False) ID stat' st4 stop) fun r s5 ⟨hr, I5⟩ => ?_
      subst hr
      obtain ⟨m, hm, _⟩ := I5.loc
      refine fin D C s5 H4 ys its k I5.os I5.bare I5.base I5.hok ⟨m, hm⟩ I5.free (Nat.le_of_lt hC) dn4 (Nat.le_refl _) sD.1 ?_ rv4 z4 qn
      · exact (I5.pin (D, _) (List.mem_append_right _ (List.mem_append_right _ (mem_pinsAt (List.mem_singleton.mpr rfl) d4)))).1
    · have nD : ∀ b ∈ fp, b ≠ D := fun b hb z => by
        obtain ⟨o, e⟩ := hob b hb
        have := Heap.lt_size e
        rw [z, hDD] at this
        exact Nat.lt_irrefl _ this
      have ID := I4.pinned (fp := [D]) (fun b hb => by rw [List.mem_singleton.mp hb]; exact statD dn4) (fun b hb => by rw [List.mem_singleton.mp hb]; exact ⟨_, d4, fun v z => nomatch z⟩)
      have statP : ∀ {H' : Hp}, (∀ b ∈ fp, H' b = none) → ∀ b ∈ fp, FpOk (X.comp scope N' ⟨pins, cs, s, H, fp, C⟩) ([] ++ pinsAt [D] s4.heap) H' b := fun {H'} hn b hb => by
        obtain ⟨q1, q2, q3, q4, q5, q6⟩ := stat hn b hb
        refine ⟨q1, q2, q3, q4, q5, fun p hp => ?_⟩
        rcases List.mem_append.mp hp with z | z
        · exact q6 p (List.mem_append_left _ z)
        · have := (of_pinsAt (by simpa using z : p ∈ pinsAt [D] s4.heap)).1
          rw [List.mem_singleton.mp this]
          exact fun z => nD b hb z.symm
      refine thn (T.item (X.comp scope N' ⟨pins, cs, s, H, fp, C⟩) rfl rfl rfl hc i _ s4 _ H4 (fun _ _ => False) ID (statP fr4) st4 go) fun r s5 ⟨u, hr, h5⟩ => ?_
      subst hr
      refine thn h5 fun _ s6 ⟨x, H6, I6, r6, y6, st6, fr6⟩ => ?_
      have I6' := I6.pinned (statP fr6) (T.obj _ _ st6)
      refine thn (hg _ _ s6 _ H6 x u _ I6' r6 (hgo _ _ _ _ (step x H6 y6))) fun _ s7 ⟨σ7, H7, I7, ⟨e7, k7⟩, q7⟩ => ?_
      have I7' : Inv (X.comp scope N' ⟨pins, cs, s, H, fp, C⟩) ([] ++ pinsAt [D] s4.heap ++ pinsAt fp s6.heap) σ7 H7 s7 := I7
      refine thn (ht _ _ s7 σ7 H7 _ I7' q7) fun b s8 ⟨H8, I8, q8⟩ => ?_
      -- what is kept through the turn
      have back : ∀ {s9 : Shared} {H9 : Hp}, Inv (X.comp scope N' ⟨pins, cs, s, H, fp, C⟩) ([] ++ pinsAt [D] s4.heap ++ pinsAt fp s6.heap) σ7 H9 s9 →
          Inv (X.comp scope N' ⟨pins, cs, s, H, fp, C⟩) [] (cSt own ix σ) H9 s9 ∧ tn (i + 1) s9.heap ∧ (∀ b ∈ fp, H9 b = none) ∧ H9 D = none ∧ s9.heap.get? D = some { cls := .type "list", data := .seq its.toArray k } := fun {s9 H9} I9 => by
        have pD := I9.pin (D, _) (List.mem_append_right _ (List.mem_append_left _ (List.mem_append_right _ (mem_pinsAt (List.mem_singleton.mpr rfl) d4))))
        refine ⟨I9.unpinned.unpinned.weak (by rw [e7]) fun j v hj => ?_, T.keep _ _ _ st6 fun b hb o e => (I9.pin (b, o) (List.mem_append_right _ (List.mem_append_right _ (mem_pinsAt hb e)))).1, fun b hb => ?_, pD.2.1, pD.1⟩
        · rw [k7 j (cSt_own hj)]; exact hj
        · obtain ⟨o, e, _⟩ := T.obj _ _ st6 b hb
          exact (I9.pin (b, o) (List.mem_append_right _ (List.mem_append_right _ (mem_pinsAt hb e)))).2.1
      cases b with
      | false =>
        rw [if_neg Bool.false_ne_true] at q8
        obtain ⟨m', hm, w8⟩ := hN2 _ _ q8
        obtain ⟨b1, b2, b3, b4, b5⟩ := back I8
        exact ⟨m', hm, i + 1, H8, ys, its, k, b1, b2, b3, b4, b5, rv4, z4, w8⟩
      | true =>
        rw [if_pos rfl] at q8
        rw [if_pos rfl]
        refine thn (he _ _ s8 σ7 H8 _ I8 q8) fun yv s9 ⟨y, H9, I9, r9, q9⟩ => ?_
        obtain ⟨m', hm, w9⟩ := hN2 _ _ q9
        obtain ⟨b1, b2, b3, b4, b5⟩ := back I9
        have hl := rv4.length
        refine call_meets F.slot_list_append ⟨_, b5, rfl⟩ F.entry_list_append (F.args_list_append_2 _ _) (PySem.list_append D its.toArray k yv (by rw [List.size_toArray]; omega)) ⟨b5, ?_⟩
        have up := PySem.IsL.update b5 (fun a => a.push yv)
        have keep : ∀ b o, b ≠ D → s9.heap.get? b = some o → (s9.heap.update D (Obj.mapSeq fun a => a.push yv)).get? b = some o := fun b o hb q => (Heap.get?_update_other _ _ (Ne.symm hb)).trans q
        obtain ⟨f0, f1, f2', f3, f4, f5⟩ := statD b4
        refine ⟨m', hm, i + 1, H9, ys ++ [y], its ++ [yv], (if ((its.toArray.push yv).size == its.toArray.size) = true then k else k + 1), b1.turned (t' := s9.toks) keep b4 f1 f3 f4 f5, ?_, b3, b4, ?_, rv4.append (.cons r9 .nil), ?_, w9⟩
        · exact T.keep _ _ _ b2 fun b hb o e => keep b o (nD b hb) e
        · have e2 : (its.toArray.push yv) = (its ++ [yv]).toArray := by simp
          rw [← e2]
          exact up
        · rw [List.length_append, List.length_singleton]
          omega
  exact codeAny_compStart_list loop (T.self X.A 0 _ _ _ (T.keep _ _ _ st fun b _ o e => kk b o e) loop)
end
end L2
set_option Elab.async false
set_option linter.all false
set_option maxRecDepth 100000
set_option maxHeartbeats 4000000
namespace L2
open PySem PySem.Spec PyProof.Rows
section
variable {X : Cx} {pins : List (Addr × Obj)} {σ : St} {H : Hp} {s : Shared} {fp : List Addr} {it : Addr} {tn : Nat → Heap → Prop} {J : It} {tg iter elt : Expr} {ifs : List Expr} {scope : Scope} {pos : Pos} {N' : List Str} {own : Nat} {ix : List Nat} {g : TG} {tc : TT} {te : TE} {wi : TI} {E : Value → Shared → Prop}
theorem comp_adopt {H' : Hp} {s' : Shared} {D : Addr} {ys : List V} {its : List Value} {n : Nat} (I : Inv X pins σ H s) (f2 : ∀ b ∈ fp, FpOk X pins H b) (ho : s'.os = s.os) (hg : AllBare s'.gens) (u : Un (frs X.stack) fp H H' s.heap s'.heap) (hok : HOk X.prog X.w H' s'.heap)
    (dn : H' D = none) (ds : s.heap.objs.size ≤ D) (d : s'.heap.get? D = some { cls := .type "list", data := .seq its.toArray n }) (rv : Vals ys its) (z : ys.length ≤ sizeLine) : Inv X pins σ (upd H' D (.lst ys)) s' := by
  have nD : ∀ b o, s.heap.get? b = some o → b ≠ D := fun b o e q => by rw [q, Heap.get?_none_of_le ds] at e; cases e
  have nH : ∀ b o, H' b = some o → b ≠ D := fun b o e q => by rw [q, dn] at e; cases e
  refine I.call' (ch := fp) ho ⟨u.keep, u.slot, fun b o e q hx => ?_, u.there, fun b xs e => ?_, fun b o v e => ?_, fun b ps e => ?_⟩ (fun b o e => ?_) hg fun b hb => ?_
  · rw [upd_ne (nD b o e)]; exact u.free b o e q hx
  · have := u.tups b xs e
    rw [upd_ne (nH _ _ this)]; exact this
  · have := u.frzs b o v e
    rw [upd_ne (nH _ _ this)]; exact this
  · obtain ⟨more, q⟩ := u.tbls b ps e
    exact ⟨more, by rw [upd_ne (nH _ _ q)]; exact q⟩
  · by_cases hb : b = D
    · subst hb
      rw [upd_same] at e
      cases e
      exact ⟨z, its, n, rv, d⟩
    · rw [upd_ne hb] at e
      exact (hok b o e).stay (fun _ _ _ q => q) (fun c q => by rw [upd_ne (nH _ _ q)]; exact q) fun c xs q => by rw [upd_ne (nH _ _ q)]; exact q
  · obtain ⟨q1, q2, q3, q4, q5, q6⟩ := f2 b hb
    exact ⟨q4, q2, q5, q6⟩
theorem Inv.dictGone {s' : Shared} {h' : Heap} {C : Addr} {H' : Hp} {σ' : St} (I : Inv X pins σ H s) (J : Inv X pins σ' H' s') (hC : s.heap.objs.size ≤ C) (hn : H' C = none) (k : Heap.SameBut C s'.heap h') : Inv X pins σ' H' { s' with heap := h' } := by
  have hC0 := Heap.get?_none_of_le hC
  refine J.turned (t' := s'.toks) (fun b o hb e => (k.2 b hb).trans e) hn (fun z => ?_) (.inr (Nat.le_trans I.sz hC)) (fun x c e z => ?_) fun p hp z => ?_
  · obtain ⟨m, ⟨o, _, _, ho, _⟩, _⟩ := I.loc
    rw [← z, hC0] at ho; cases ho
  · obtain ⟨v, o, ho, _⟩ := I.cell x c e
    rw [z, hC0] at ho; cases ho
  · have := (I.pin p hp).1
    rw [z, hC0] at this; cases this
theorem pe_comp (hc : X.calm = true) (hi : PI X tg iter wi) (S : CompScope scope X.env.scope)
    (hlen : N'.length = own + ix.length) (hN : (N'.drop own).map some = ix.map (X.N[·]?)) (hfr : ∀ x ∈ N'.drop own, scope.names.lookup x = some .free)
    (hg : ∀ c, PG (X.comp scope N' c) tg g) (hgo : GOwn own g) (ht : ∀ c, PTs (X.comp scope N' c) ifs tc) (he : ∀ c, PE (X.comp scope N' c) elt te)
    (hs : ∀ x, foldedSetIterable iter X.env x = pure x := by intro _; rfl) : PE X (.ListComp elt [⟨tg, iter, ifs, 0⟩] scope pos) (tComp wi own ix g tc te) := by
  intro pins s σ H Q I h
  rw [eval_ListComp]
  have hfree : ∀ y ∈ scope.names, y.2 = .free → ∃ c, X.env.cells.lookup y.1 = some c := fun y hy h => I.ok.has y.1 (S.fr y hy h)
  refine wpAny_comprehension_free (use := none) rfl hs (closureFor_eq hfree) S.kind (fun y hy hl => lookup_nd S.nd (by rw [← hl]; exact hy)) ?_
  refine thn (hi pins s σ H _ I h) fun v s1 h1 => thn h1 fun itv s2 h2 => ?_
  obtain ⟨it, fp, tn, J, H2, e, I2, T, st2, f2, q2⟩ := h2
  subst e
  refine comp_block (RR := fun acc C => compPost (model X.prog X.w) X.A X.xe none (EP X pins σ Q) acc C) I2 T st2 f2 hc S hlen hN hfr hg hgo ht he q2 ?_
  intro D C s' H' ys its n ho hgn u hok hm hC hCs hD hDs hDC d rv z q
  obtain ⟨m, hm⟩ := hm
  have I3 := comp_adopt I2 f2 ho hgn u hok hD hDs d rv z
  refine ⟨m, hm, fun h' hs' => ?_⟩
  exact ⟨.ref D, _, I2.dictGone I3 hCs (by rw [upd_ne (Ne.symm hDC)]; exact hC) hs', rfl, q D hD⟩
theorem ps_comp {i : Nat} {y : Str} {py spos : Pos} (hc : X.calm = true) (hnd : X.N.Nodup) (hiy : X.N[i]? = some y) (hy : X.env.scope.names.lookup y = some .local) (hi : PI X tg iter wi) (S : CompScope scope X.env.scope)
    (hlen : N'.length = own + ix.length) (hN : (N'.drop own).map some = ix.map (X.N[·]?)) (hfr : ∀ x ∈ N'.drop own, scope.names.lookup x = some .free)
    (hg : ∀ c, PG (X.comp scope N' c) tg g) (hgo : GOwn own g) (ht : ∀ c, PTs (X.comp scope N' c) ifs tc) (he : ∀ c, PE (X.comp scope N' c) elt te)
    (hsw : swapsWith (.ListComp elt [⟨tg, iter, ifs, 0⟩] scope pos) (some (.Name y py)) spos.line X.env = pure true)
    (hs : ∀ x, foldedSetIterable iter X.env x = pure x := by intro _; rfl) : PS X (.Assign [.Name y py] (.ListComp elt [⟨tg, iter, ifs, 0⟩] scope pos) spos) (tAsg (tComp wi own ix g tc te) (gName i)) := by
  intro pins s σ H D I h
  rw [exec_Assign_Name_used _ _ _ _ hsw]
  refine wpAny_bind (wpAny_standAt (wpAny_bind ?_))
  show wpAny _ _ (do let _ ← comprehension (.ListComp elt [⟨tg, iter, ifs, 0⟩] scope pos) scope X.env _ (newList []) false (eval iter X.env) (some (assign (.Name y py) X.env))) _ _ s
  have hfree : ∀ y ∈ scope.names, y.2 = .free → ∃ c, X.env.cells.lookup y.1 = some c := fun y hy h => I.ok.has y.1 (S.fr y hy h)
  refine wpAny_bind (wpAny_mono (wpAny_comprehension_free (use := some (assign (.Name y py) X.env)) (Q := fun _ s' => SP X pins D .next s') rfl hs (closureFor_eq hfree) S.kind (fun y hy hl => lookup_nd S.nd (by rw [← hl]; exact hy)) ?_) (fun _ s' hq => wpAny_pure (wpAny_pure hq)) fun _ _ e => e)
  refine thn (hi pins s σ H _ I h) fun v s1 h1 => thn h1 fun itv s2 h2 => ?_
  obtain ⟨it, fp, tn, J, H2, e, I2, T, st2, f2, q2⟩ := h2
  subst e
  refine comp_block (RR := fun acc C => compPost (model X.prog X.w) X.A X.xe (some (assign (.Name y py) X.env)) (fun _ s' => SP X pins D .next s') acc C) I2 T st2 f2 hc S hlen hN hfr hg hgo ht he q2 ?_
  intro d C s' H' ys its n ho hgn u hok hm hC hCs hD hDs hDC hd rv z q
  obtain ⟨m, hm⟩ := hm
  have I3 := comp_adopt I2 f2 ho hgn u hok hD hDs hd rv z
  show wpAny _ _ (assign (.Name y py) X.env (.ref d)) _ _ s'
  have hCn : (upd H' d (.lst ys)) C = none := by rw [upd_ne (Ne.symm hDC)]; exact hC
  refine wpAny_assign_Name (store_ok2 I3 hnd hiy (.inl hy) (v := .ref d) rfl (fun s3 I4 ⟨a, sb, ha⟩ => ?_) (.inr hy))
  have ha' : a ≠ C := fun e => by
    have hC0 := Heap.get?_none_of_le hCs
    rcases ha with z | z
    · obtain ⟨m, ⟨o, _, _, ho, _⟩, _⟩ := I2.loc
      rw [← z, e, hC0] at ho; cases ho
    · obtain ⟨v, o, ho, _⟩ := I2.cell y a z
      rw [e, hC0] at ho; cases ho
  refine ⟨m, hm.sameBut sb (Ne.symm ha'), fun h' hs' => ?_⟩
  exact ⟨_, _, I2.dictGone I4 hCs hCn hs', q d hD⟩
end
end L2
set_option Elab.async false
set_option linter.all false
set_option maxRecDepth 100000
set_option maxHeartbeats 4000000
namespace L2
open PySem PySem.Spec PyProof.Rows
section
variable {X : Cx}
theorem PE.imp {e : Expr} {t t' : TE} (h : PE X e t) (f : ∀ σ H Q, t' σ H Q → t σ H Q) : PE X e t' := fun pins s σ H Q I q => h pins s σ H Q I (f σ H Q q)
theorem OpR.imp {f : Value → Value → Sem Value} {r r' : R2} (h : OpR X f r) (g : ∀ x y H Q, r' x y H Q → r x y H Q) : OpR X f r' := fun pins s σ H x y v u Q I rx ry q => h pins s σ H x y v u Q I rx ry (g _ _ _ _ q)
theorem CallR.imp {f : Value} {r r' : List V → Hp → VK → Prop} (h : CallR X f r) (g : ∀ x H Q, r' x H Q → r x H Q) : CallR X f r' := fun pins s σ H xs us Q I r q => h pins s σ H xs us Q I r (g _ _ _ q)
def vVar (i : Nat) : TE := fun σ H Q => match σ[i]? with
  | some (some v) => Q v H
  | _ => False
theorem vv (i : Nat) {x : Str} {pos : Pos} (hN : X.N[i]? = some x := by rfl) (hv : Vis X.env.scope x := by first | exact Or.inl rfl | exact Or.inr (Or.inl rfl) | exact Or.inr (Or.inr rfl)) (hd : (x == ("__debug__" : Str)) = false := by decide)
    (hcd : (x == ("__classdict__" : Str)) = false := by decide) : PE X (.Name x pos) (vVar i) := (pe_var hN hv hd hcd).imp fun σ H Q q => by
  unfold vVar at q
  split at q
  · rename_i v e; exact ⟨v, e, q⟩
  · exact q.elim
def okMul (i j : Int) : Prop := (i.natAbs < 2 ^ 4096 ∧ j.natAbs < 2 ^ 4096) ∨ (-(2 ^ 64) < i ∧ i < 2 ^ 64) ∨ (-(2 ^ 64) < j ∧ j < 2 ^ 64)
theorem bits_of {i : Int} (h : i.natAbs < 2 ^ 4096) : Builtin.Int.intBits i ≤ 2 ^ 20 := by
  unfold Builtin.Int.intBits
  split
  · exact Nat.zero_le _
  · rename_i hz
    have hne : i.natAbs ≠ 0 := by
      have : ¬ i = 0 := by simpa using hz
      omega
    have := (Nat.log2_lt hne).mpr h
    have e : (2 : Nat) ^ 20 = 1048576 := by decide
    omega
theorem okMul.ok {i j : Int} (h : okMul i j) : IntMulOk i j := by
  rcases h with ⟨h1, h2⟩ | h | h
  · exact .of_bits (bits_of h1) (bits_of h2)
  · exact CMul.ok (.inl h)
  · exact CMul.ok (.inr h)
def okDiv (j : Int) : Prop := 0 < j ∧ j < 2 ^ 4096
theorem okDiv.ok {i j : Int} (h : okDiv j) : Builtin.divisionGoesByPylong i j = false := by
  refine PyProof.noPylong_of_log2 ?_
  obtain ⟨h1, h2⟩ := h
  have hne : j.natAbs ≠ 0 := by omega
  have h3 : j.natAbs < 2 ^ 4096 := by
    have e : ((j.natAbs : Int)) = j := by omega
    have h2' : ((j.natAbs : Nat) : Int) < ((2 ^ 4096 : Nat) : Int) := by rw [e, Int.natCast_pow]; exact h2
    exact Int.ofNat_lt.mp h2'
  have := (Nat.log2_lt hne).mpr h3
  omega
def mAdd (K : PySem.W.Frag) : R2 := fun x y H Q => match x, y with
  | .int i, .int j => Q (.int (i + j)) H
  | .str a, .str b => a.length + b.length ≤ sizeLine ∧ Q (.str (a ++ b)) H
  | .ref a, .ref b => rCat (.ref a) (.ref b) H Q ∨ rCatT K (.ref a) (.ref b) H Q
  | _, _ => False
theorem om_add : OpR X (binaryOp .Add) (mAdd X.K) := by
  intro pins s σ H x y v u Q I rx ry q
  cases x <;> cases y <;> first
    | exact False.elim q
    | exact op_add pins s σ H _ _ v u Q I rx ry ⟨_, _, rfl, rfl, q⟩
    | exact op_add_str pins s σ H _ _ v u Q I rx ry ⟨_, _, rfl, rfl, q.1, q.2⟩
    | (rcases q with q | q
       · exact op_cat pins s σ H _ _ v u Q I rx ry q
       · exact op_catT pins s σ H _ _ v u Q I rx ry q)
def mSub : R2 := fun x y H Q => match x, y with
  | .int i, .int j => Q (.int (i - j)) H
  | _, _ => False
theorem om_sub : OpR X (binaryOp .Sub) mSub := by
  intro pins s σ H x y v u Q I rx ry q
  cases x <;> cases y <;> first
    | exact False.elim q
    | exact op_sub pins s σ H _ _ v u Q I rx ry ⟨_, _, rfl, rfl, q⟩
def mMul : R2 := fun x y H Q => match x, y with
  | .int i, .int j => okMul i j ∧ Q (.int (i * j)) H
  | .ref a, .int k => rRep (.ref a) (.int k) H Q
  | _, _ => False
theorem om_mul : OpR X (binaryOp .Mult) mMul := by
  have hI : OpR X (binaryOp .Mult) (rI okMul fun i j => .int (i * j)) := opI fun _ _ _ _ _ _ _ hc q => mul_int q hc.ok
  intro pins s σ H x y v u Q I rx ry q
  cases x <;> cases y <;> first
    | exact False.elim q
    | exact hI pins s σ H _ _ v u Q I rx ry ⟨_, _, rfl, rfl, q.1, q.2⟩
    | exact op_rep pins s σ H _ _ v u Q I rx ry q
def mDiv : R2 := fun x y H Q => match x, y with
  | .int i, .int j => okDiv j ∧ Q (.int (i / j)) H
  | _, _ => False
theorem om_div : OpR X (binaryOp .FloorDiv) mDiv := by
  have hI : OpR X (binaryOp .FloorDiv) (rI (fun _ j => okDiv j) fun i j => .int (i / j)) := opI fun i j _ _ _ _ _ hc q => by
    refine floordiv_int (by have := hc.1; omega) ?_ (.inl hc.ok)
    rw [Int.fdiv_eq_ediv_of_nonneg i (by have := hc.1; omega)]
    exact q
  intro pins s σ H x y v u Q I rx ry q
  cases x <;> cases y <;> first
    | exact False.elim q
    | exact hI pins s σ H _ _ v u Q I rx ry ⟨_, _, rfl, rfl, q.1, q.2⟩
def mMod : R2 := fun x y H Q => match x, y with
  | .int i, .int j => 0 < j ∧ Q (.int (i % j)) H
  | _, _ => False
theorem om_mod : OpR X (binaryOp .Mod) mMod := by
  intro pins s σ H x y v u Q I rx ry q
  cases x <;> cases y <;> first
    | exact False.elim q
    | exact op_mod pins s σ H _ _ v u Q I rx ry ⟨_, _, rfl, rfl, q.1, q.2⟩
def mPow : R2 := fun x y H Q => match x, y with
  | .int i, .int j => CPow i j ∧ Q (.int (i ^ j.toNat)) H
  | _, _ => False
theorem om_pow : OpR X (binaryOp .Pow) mPow := by
  intro pins s σ H x y v u Q I rx ry q
  cases x <;> cases y <;> first
    | exact False.elim q
    | exact op_pow pins s σ H _ _ v u Q I rx ry ⟨_, _, rfl, rfl, q.1, q.2⟩
def mBit (f : Int → Int → Int) : R2 := fun x y H Q => match x, y with
  | .int i, .int j => Q (.int (f i j)) H
  | _, _ => False
theorem om_and : OpR X (binaryOp .BitAnd) (mBit Builtin.bitAnd) := by
  intro pins s σ H x y v u Q I rx ry q
  cases x <;> cases y <;> first
    | exact False.elim q
    | exact op_and pins s σ H _ _ v u Q I rx ry ⟨_, _, rfl, rfl, q⟩
def mShl : R2 := fun x y H Q => match x, y with
  | .int i, .int j => CPow i j ∧ Q (.int (i * 2 ^ j.toNat)) H
  | _, _ => False
theorem om_shl : OpR X (binaryOp .LShift) mShl := by
  intro pins s σ H x y v u Q I rx ry q
  cases x <;> cases y <;> first
    | exact False.elim q
    | exact op_shl pins s σ H _ _ v u Q I rx ry ⟨_, _, rfl, rfl, q.1, q.2⟩
def mNeg : V → Hp → VK → Prop := fun x H Q => match x with
  | .int i => Q (.int (-i)) H
  | _ => False
theorem um_neg : UnR X (unaryOp .USub) mNeg := by
  intro pins s σ H x v Q I rx q
  cases x <;> first
    | exact False.elim q
    | exact un_neg pins s σ H _ v Q I rx ⟨_, rfl, q⟩
def mCmp (p : Int → Int → Bool) : R2 := fun x y H Q => match x, y with
  | .int i, .int j => Q (.bl (p i j)) H
  | _, _ => False
theorem om_lt : OpR X (compareOp .Lt) (mCmp fun i j => decide (i < j)) := by
  intro pins s σ H x y v u Q I rx ry q
  cases x <;> cases y <;> first
    | exact False.elim q
    | exact op_lt pins s σ H _ _ v u Q I rx ry ⟨_, _, rfl, rfl, q⟩
theorem om_le : OpR X (compareOp .LtE) (mCmp fun i j => decide (i ≤ j)) := by
  intro pins s σ H x y v u Q I rx ry q
  cases x <;> cases y <;> first
    | exact False.elim q
    | exact op_le pins s σ H _ _ v u Q I rx ry ⟨_, _, rfl, rfl, q⟩
theorem om_gt : OpR X (compareOp .Gt) (mCmp fun i j => decide (j < i)) := by
  intro pins s σ H x y v u Q I rx ry q
  cases x <;> cases y <;> first
    | exact False.elim q
    | exact op_gt pins s σ H _ _ v u Q I rx ry ⟨_, _, rfl, rfl, q⟩
theorem om_ge : OpR X (compareOp .GtE) (mCmp fun i j => decide (j ≤ i)) := by
  intro pins s σ H x y v u Q I rx ry q
  cases x <;> cases y <;> first
    | exact False.elim q
    | exact op_ge pins s σ H _ _ v u Q I rx ry ⟨_, _, rfl, rfl, q⟩
end
end L2
set_option Elab.async false
set_option linter.all false
set_option maxRecDepth 100000
set_option maxHeartbeats 4000000
namespace L2
open PySem PySem.Spec PyProof.Rows
inductive Dv where
  | non | bl (b : Bool) | int (i : Int) | str (x : Str) | tup (ds : List Dv) | lst (ds : List Dv)
mutual
def Rep (K : PySem.W.Frag) (H : Hp) : Dv → V → Prop
  | .non, v => v = .non
  | .bl b, v => v = .bl b
  | .int i, v => v = .int i
  | .str x, v => v = .str x
  | .tup ds, v => ∃ a xs, v = .ref a ∧ SqT K H a xs ∧ Reps K H ds xs
  | .lst ds, v => ∃ a xs, v = .ref a ∧ SqL K H a xs ∧ Reps K H ds xs
def Reps (K : PySem.W.Frag) (H : Hp) : List Dv → List V → Prop
  | [], xs => xs = []
  | d :: ds, xs => ∃ x r, xs = x :: r ∧ Rep K H d x ∧ Reps K H ds r
end
mutual
def eqD : Dv → Dv → Bool
  | .non, .non => true
  | .bl a, .bl b => a == b
  | .bl a, .int b => (if a then 1 else 0) == b
  | .int a, .bl b => a == (if b then 1 else 0)
  | .int a, .int b => a == b
  | .str a, .str b => a == b
  | .tup ds, .tup es => eqDs ds es
  | .lst ds, .lst es => eqDs ds es
  | _, _ => false
def eqDs : List Dv → List Dv → Bool
  | [], [] => true
  | d :: ds, e :: es => eqD d e && eqDs ds es
  | _, _ => false
end
mutual
def depD : Dv → Nat
  | .tup ds => depDs ds + 1
  | .lst ds => depDs ds + 1
  | _ => 0
def depDs : List Dv → Nat
  | [] => 0
  | d :: ds => max (depD d) (depDs ds)
end
theorem eqD_tup (ds es : List Dv) : eqD (.tup ds) (.tup es) = eqDs ds es := by rw [eqD]
theorem eqD_lst (ds es : List Dv) : eqD (.lst ds) (.lst es) = eqDs ds es := by rw [eqD]
theorem Reps.length {K : PySem.W.Frag} {H : Hp} : ∀ {ds : List Dv} {xs : List V}, Reps K H ds xs → ds.length = xs.length
  | [], xs, h => by unfold Reps at h; subst h; rfl
  | d :: ds, xs, h => by
    unfold Reps at h
    obtain ⟨x, r, rfl, _, h⟩ := h
    rw [List.length_cons, List.length_cons, Reps.length h]
theorem Reps.get {K : PySem.W.Frag} {H : Hp} : ∀ {ds : List Dv} {xs : List V} {i : Nat} {d : Dv}, Reps K H ds xs → ds[i]? = some d → ∃ x, xs[i]? = some x ∧ Rep K H d x
  | [], _, _, _, _, e => by simp at e
  | d :: ds, xs, 0, _, h, e => by
    unfold Reps at h
    obtain ⟨x, r, rfl, h1, _⟩ := h
    simp at e; subst e
    exact ⟨x, rfl, h1⟩
  | d :: ds, xs, i + 1, _, h, e => by
    unfold Reps at h
    obtain ⟨x, r, rfl, _, h⟩ := h
    obtain ⟨y, h1, h2⟩ := Reps.get (i := i) h (by simpa using e)
    exact ⟨y, by simpa using h1, h2⟩
theorem depD_le {ds : List Dv} {i : Nat} {d : Dv} (h : ds[i]? = some d) : depD d ≤ depDs ds := by
  induction ds generalizing i with
  | nil => simp at h
  | cons e es ih =>
    unfold depDs
    cases i with
    | zero => simp at h; subst h; omega
    | succ i => have := ih (i := i) (by simpa using h); omega
theorem eqDs_all : ∀ (ds es : List Dv), ds.length = es.length → eqDs ds es = (List.range ds.length).all fun i => match ds[i]?, es[i]? with | some d, some e => eqD d e | _, _ => false
  | [], [], _ => by unfold eqDs; rfl
  | d :: ds, e :: es, h => by
    unfold eqDs
    rw [List.length_cons, List.range_succ_eq_map, List.all_cons, List.all_map, eqDs_all ds es (by simpa using h)]
    congr 1
  | [], e :: es, h => by simp at h
  | d :: ds, [], h => by simp at h
theorem eqDs_len : ∀ (ds es : List Dv), ds.length ≠ es.length → eqDs ds es = false
  | [], [], h => absurd rfl h
  | [], _ :: _, _ => by unfold eqDs; rfl
  | _ :: _, [], _ => by unfold eqDs; rfl
  | d :: ds, e :: es, h => by unfold eqDs; rw [eqDs_len ds es (fun z => h (by simp [z])), Bool.and_false]
mutual
theorem eqD_refl : ∀ d : Dv, eqD d d = true
  | .non => by unfold eqD; rfl
  | .bl b => by unfold eqD; simp
  | .int i => by unfold eqD; simp
  | .str x => by unfold eqD; simp
  | .tup ds => by unfold eqD; exact eqDs_refl ds
  | .lst ds => by unfold eqD; exact eqDs_refl ds
theorem eqDs_refl : ∀ ds : List Dv, eqDs ds ds = true
  | [] => by unfold eqDs; rfl
  | d :: ds => by unfold eqDs; rw [eqD_refl d, eqDs_refl ds]; rfl
end
section
variable {X : Cx} {pins : List (Addr × Obj)} {σ : St} {H : Hp} {s : Shared}
theorem no_both {a : Addr} {xs ys : List V} (I : Inv X pins σ H s) (h : SqL X.K H a xs) (h' : SqT X.K H a ys) : False := by
  obtain ⟨its, _, ⟨o, n, e, c, _⟩, _⟩ := I.list h
  obtain ⟨its', _, ⟨o', e', c', _⟩, _⟩ := I.tuple h'
  rw [e] at e'; cases e'
  rw [c] at c'
  exact absurd c' (by decide)
mutual
theorem rep_inj (I : Inv X pins σ H s) : ∀ (d e : Dv) (x : V), Rep X.K H d x → Rep X.K H e x → d = e
  | .non, e, x, h, h' => by
    unfold Rep at h; subst h
    cases e <;> unfold Rep at h' <;> first | rfl | (obtain ⟨a, xs, q, _⟩ := h'; cases q; done) | (cases h'; done)
  | .bl b, e, x, h, h' => by
    unfold Rep at h; subst h
    cases e <;> unfold Rep at h' <;> first | (obtain ⟨a, xs, q, _⟩ := h'; cases q; done) | (cases h'; rfl) | (cases h'; done)
  | .int b, e, x, h, h' => by
    unfold Rep at h; subst h
    cases e <;> unfold Rep at h' <;> first | (obtain ⟨a, xs, q, _⟩ := h'; cases q; done) | (cases h'; rfl) | (cases h'; done)
  | .str b, e, x, h, h' => by
    unfold Rep at h; subst h
    cases e <;> unfold Rep at h' <;> first | (obtain ⟨a, xs, q, _⟩ := h'; cases q; done) | (cases h'; rfl) | (cases h'; done)
  | .tup ds, e, x, h, h' => by
    unfold Rep at h
    obtain ⟨a, xs, rfl, hs, hr⟩ := h
    cases e with
    | tup es =>
      unfold Rep at h'
      obtain ⟨b, ys, q, hs', hr'⟩ := h'
      cases q
      rw [I.tuple_inj hs' hs] at hr'
      rw [reps_inj I ds es xs hr hr']
    | lst es =>
      unfold Rep at h'
      obtain ⟨b, ys, q, hs', hr'⟩ := h'
      cases q
      exact (no_both I hs' hs).elim
    | _ => unfold Rep at h'; cases h'
  | .lst ds, e, x, h, h' => by
    unfold Rep at h
    obtain ⟨a, xs, rfl, hs, hr⟩ := h
    cases e with
    | lst es =>
      unfold Rep at h'
      obtain ⟨b, ys, q, hs', hr'⟩ := h'
      cases q
      rw [I.list_inj hs' hs] at hr'
      rw [reps_inj I ds es xs hr hr']
    | tup es =>
      unfold Rep at h'
      obtain ⟨b, ys, q, hs', hr'⟩ := h'
      cases q
      exact (no_both I hs hs').elim
    | _ => unfold Rep at h'; cases h'
theorem reps_inj (I : Inv X pins σ H s) : ∀ (ds es : List Dv) (xs : List V), Reps X.K H ds xs → Reps X.K H es xs → ds = es
  | [], es, xs, h, h' => by
    unfold Reps at h; subst h
    cases es with
    | nil => rfl
    | cons e es => unfold Reps at h'; obtain ⟨x, r, q, _⟩ := h'; cases q
  | d :: ds, es, xs, h, h' => by
    unfold Reps at h
    obtain ⟨x, r, rfl, h1, h2⟩ := h
    cases es with
    | nil => unfold Reps at h'; cases h'
    | cons e es =>
      unfold Reps at h'
      obtain ⟨y, r', q, h3, h4⟩ := h'
      cases q
      rw [rep_inj I d e _ h1 h3, reps_inj I ds es _ h2 h4]
end
abbrev Eq3 (A : Around) (s : Shared) (u v : Value) (b : Bool) : Prop := SeqAt.EqAt A s u v b ∧ SeqAt.RcAt A s u v b ∧ SeqAt.RcNeAt A s u v (!b)
theorem eq3_tup {A : Around} {a b : Addr} {xs ys : List V} {ds es : List Dv} (I : Inv X pins σ H s) (hu : A.units < cLine) (ha : SqT X.K H a xs) (hb : SqT X.K H b ys) (hd : Reps X.K H ds xs) (he : Reps X.K H es ys)
    (ih : ∀ (i : Nat) (d e : Dv) (x y : V) (u v : Value), ds[i]? = some d → es[i]? = some e → xs[i]? = some x → ys[i]? = some y → RelV x u → RelV y v → SeqAt.EqAt A.in1 s u v (eqD d e)) : Eq3 A s (.ref a) (.ref b) (eqD (.tup ds) (.tup es)) := by
  obtain ⟨its, r1, p1, _⟩ := I.tuple ha
  obtain ⟨its2, r2, p2, _⟩ := I.tuple hb
  have l1 := hd.length; have l2 := he.length; have l3 := r1.length; have l4 := r2.length
  have hitem : ∀ j (h1 : j < its.toArray.size) (h2 : j < its2.toArray.size), SeqAt.EqAt A.in1 s its.toArray[j] its2.toArray[j] (match ds[j]?, es[j]? with | some d, some e => eqD d e | _, _ => false) := fun j h1 h2 => by
    rw [List.size_toArray] at h1 h2
    have e1 : ds[j]? = some ds[j] := List.getElem?_eq_getElem (by omega)
    have e2 : es[j]? = some es[j] := List.getElem?_eq_getElem (by omega)
    have e3 : xs[j]? = some xs[j] := List.getElem?_eq_getElem (by omega)
    have e4 : ys[j]? = some ys[j] := List.getElem?_eq_getElem (by omega)
    obtain ⟨u, q1, q2⟩ := r1.get e3
    obtain ⟨v, q3, q4⟩ := r2.get e4
    rw [e1, e2]
    have z1 : its.toArray[j] = u := by rw [List.getElem_toArray]; rw [List.getElem?_eq_getElem h1] at q1; exact Option.some.inj q1
    have z2 : its2.toArray[j] = v := by rw [List.getElem_toArray]; rw [List.getElem?_eq_getElem h2] at q3; exact Option.some.inj q3
    rw [z1, z2]
    exact ih j _ _ _ _ _ _ e1 e2 e3 e4 q2 q4
  have val : ((List.range (min its.toArray.size its2.toArray.size)).all (fun j => match ds[j]?, es[j]? with | some d, some e => eqD d e | _, _ => false) && its.toArray.size == its2.toArray.size) = eqD (.tup ds) (.tup es) := by
    rw [List.size_toArray, List.size_toArray, ← l3, ← l4, ← l1, ← l2, eqD_tup]
    by_cases h : ds.length = es.length
    · rw [h, Nat.min_self, ← h, eqDs_all ds es h]
      simp
    · rw [eqDs_len ds es h]
      have : (ds.length == es.length) = false := by simpa using h
      rw [this, Bool.and_false]
  have R := SeqAt.RcAt.tuples (A := A) p1 p2 hu hitem
  have N := SeqAt.RcNeAt.tuples (A := A) p1 p2 hu hitem
  rw [val] at R N
  refine ⟨?_, R, N⟩
  by_cases hab : a = b
  · subst hab
    have e : ds = es := by
      have := rep_inj I (.tup ds) (.tup es) (.ref a) (by unfold Rep; exact ⟨a, xs, rfl, ha, hd⟩) (by unfold Rep; exact ⟨a, ys, rfl, hb, he⟩)
      cases this; rfl
    subst e
    rw [eqD_refl]
    exact SeqAt.EqAt.same _
  · exact .of_refs hab R
theorem eq3_lst {A : Around} {a b : Addr} {xs ys : List V} {ds es : List Dv} (I : Inv X pins σ H s) (hu : A.units < cLine) (ha : SqL X.K H a xs) (hb : SqL X.K H b ys) (hd : Reps X.K H ds xs) (he : Reps X.K H es ys)
    (ih : ∀ (i : Nat) (d e : Dv) (x y : V) (u v : Value), ds[i]? = some d → es[i]? = some e → xs[i]? = some x → ys[i]? = some y → RelV x u → RelV y v → SeqAt.EqAt A.in1 s u v (eqD d e)) : Eq3 A s (.ref a) (.ref b) (eqD (.lst ds) (.lst es)) := by
  obtain ⟨its, r1, p1, _⟩ := I.list ha
  obtain ⟨its2, r2, p2, _⟩ := I.list hb
  have l1 := hd.length; have l2 := he.length; have l3 := r1.length; have l4 := r2.length
  have hitem : ∀ j (h1 : j < its.toArray.size) (h2 : j < its2.toArray.size), SeqAt.EqAt A.in1 s its.toArray[j] its2.toArray[j] (match ds[j]?, es[j]? with | some d, some e => eqD d e | _, _ => false) := fun j h1 h2 => by
    rw [List.size_toArray] at h1 h2
    have e1 : ds[j]? = some ds[j] := List.getElem?_eq_getElem (by omega)
    have e2 : es[j]? = some es[j] := List.getElem?_eq_getElem (by omega)
    have e3 : xs[j]? = some xs[j] := List.getElem?_eq_getElem (by omega)
    have e4 : ys[j]? = some ys[j] := List.getElem?_eq_getElem (by omega)
    obtain ⟨u, q1, q2⟩ := r1.get e3
    obtain ⟨v, q3, q4⟩ := r2.get e4
    rw [e1, e2]
    have z1 : its.toArray[j] = u := by rw [List.getElem_toArray]; rw [List.getElem?_eq_getElem h1] at q1; exact Option.some.inj q1
    have z2 : its2.toArray[j] = v := by rw [List.getElem_toArray]; rw [List.getElem?_eq_getElem h2] at q3; exact Option.some.inj q3
    rw [z1, z2]
    exact ih j _ _ _ _ _ _ e1 e2 e3 e4 q2 q4
  have RN : SeqAt.RcAt A s (.ref a) (.ref b) (eqD (.lst ds) (.lst es)) ∧ SeqAt.RcNeAt A s (.ref a) (.ref b) (!eqD (.lst ds) (.lst es)) := by
    by_cases h : ds.length = es.length
    · have hsz : its.toArray.size = its2.toArray.size := by rw [List.size_toArray, List.size_toArray]; omega
      have val : (List.range its.toArray.size).all (fun j => match ds[j]?, es[j]? with | some d, some e => eqD d e | _, _ => false) = eqD (.lst ds) (.lst es) := by
        rw [eqD_lst, List.size_toArray, ← l3, ← l1, eqDs_all ds es h]
      have R := SeqAt.RcAt.lists (A := A) p1.isList p2.isList hsz hu hitem
      have N := SeqAt.RcNeAt.lists (A := A) p1.isList p2.isList hsz hu hitem
      rw [val] at R N
      exact ⟨R, N⟩
    · have hsz : (its.toArray.size != its2.toArray.size) = true := by rw [List.size_toArray, List.size_toArray]; simp; omega
      have val : eqD (.lst ds) (.lst es) = false := by rw [eqD_lst]; exact eqDs_len ds es h
      rw [val]
      exact ⟨SeqAt.RcAt.lists_lengths p1.isList p2.isList hsz hu, SeqAt.RcNeAt.lists_lengths p1.isList p2.isList hsz hu⟩
  refine ⟨?_, RN.1, RN.2⟩
  by_cases hab : a = b
  · subst hab
    have e : ds = es := by
      have := rep_inj I (.lst ds) (.lst es) (.ref a) (by unfold Rep; exact ⟨a, xs, rfl, ha, hd⟩) (by unfold Rep; exact ⟨a, ys, rfl, hb, he⟩)
      cases this; rfl
    subst e
    rw [eqD_refl]
    exact SeqAt.EqAt.same _
  · exact .of_refs hab RN.1
theorem eq_all (I : Inv X pins σ H s) : ∀ (n : Nat) (A : Around) (d e : Dv) (x y : V) (u v : Value), depD d ≤ n → A.units + n < cLine → Rep X.K H d x → Rep X.K H e y → RelV x u → RelV y v → Eq3 A s u v (eqD d e) := by
  intro n
  induction n with
  | zero =>
    intro A d e x y u v hd hu hx hy ru rv
    have hu' : A.units < cLine := by omega
    cases d with
    | tup ds => unfold depD at hd; omega
    | lst ds => unfold depD at hd; omega
    | non =>
      unfold Rep at hx; subst hx; cases ru
      cases e <;> unfold Rep at hy
      case non => subst hy; cases rv; exact ⟨SeqAt.EqAt.same _, SeqAt.RcAt.none_none, SeqAt.RcNeAt.none_none⟩
      case bl => subst hy; cases rv; exact ⟨.none_bool _, .none_bool _, .none_bool _⟩
      case int => subst hy; obtain ⟨t, rfl⟩ := rv; exact ⟨.none_int _ _, .none_int _ _, .none_int _ _⟩
      case str => subst hy; obtain ⟨t, rfl⟩ := rv; exact ⟨.none_str _ _, .none_str _ _, .none_str _ _⟩
      case tup => obtain ⟨a, xs, rfl, ha, _⟩ := hy; cases rv; obtain ⟨its, _, p, _⟩ := I.tuple ha; exact ⟨.none_tuple p hu', .none_tuple p hu', .none_tuple p hu'⟩
      case lst => obtain ⟨a, xs, rfl, ha, _⟩ := hy; cases rv; obtain ⟨its, _, p, _⟩ := I.list ha; exact ⟨.none_list p.isList hu', .none_list p.isList hu', .none_list p.isList hu'⟩
    | bl c =>
      unfold Rep at hx; subst hx; cases ru
      cases e <;> unfold Rep at hy
      case non => subst hy; cases rv; exact ⟨.bool_none _, .bool_none _, .bool_none _⟩
      case bl => subst hy; cases rv; unfold eqD; exact ⟨.bool_bool _ _, .bool_bool _ _, .bool_bool _ _⟩
      case int => subst hy; obtain ⟨t, rfl⟩ := rv; unfold eqD; exact ⟨.bool_int _ _ _, .bool_int _ _ _, .bool_int _ _ _⟩
      case str => subst hy; obtain ⟨t, rfl⟩ := rv; exact ⟨.bool_str _ _ _, .bool_str _ _ _, .bool_str _ _ _⟩
      case tup => obtain ⟨a, xs, rfl, ha, _⟩ := hy; cases rv; obtain ⟨its, _, p, _⟩ := I.tuple ha; exact ⟨.bool_tuple _ p hu', .bool_tuple _ p hu', .bool_tuple _ p hu'⟩
      case lst => obtain ⟨a, xs, rfl, ha, _⟩ := hy; cases rv; obtain ⟨its, _, p, _⟩ := I.list ha; exact ⟨.bool_list _ p.isList hu', .bool_list _ p.isList hu', .bool_list _ p.isList hu'⟩
    | int c =>
      unfold Rep at hx; subst hx; obtain ⟨t0, rfl⟩ := ru
      cases e <;> unfold Rep at hy
      case non => subst hy; cases rv; exact ⟨.int_none _ _, .int_none _ _, .int_none _ _⟩
      case bl => subst hy; cases rv; unfold eqD; exact ⟨.int_bool _ _ _, .int_bool _ _ _, .int_bool _ _ _⟩
      case int => subst hy; obtain ⟨t, rfl⟩ := rv; unfold eqD; exact ⟨.int_int _ _ _ _, .int_int _ _ _ _, .int_int _ _ _ _⟩
      case str => subst hy; obtain ⟨t, rfl⟩ := rv; exact ⟨.int_str _ _ _ _, .int_str _ _ _ _, .int_str _ _ _ _⟩
      case tup => obtain ⟨a, xs, rfl, ha, _⟩ := hy; cases rv; obtain ⟨its, _, p, _⟩ := I.tuple ha; exact ⟨.int_tuple _ _ p hu', .int_tuple _ _ p hu', .int_tuple _ _ p hu'⟩
      case lst => obtain ⟨a, xs, rfl, ha, _⟩ := hy; cases rv; obtain ⟨its, _, p, _⟩ := I.list ha; exact ⟨.int_list _ _ p.isList hu', .int_list _ _ p.isList hu', .int_list _ _ p.isList hu'⟩
    | str c =>
      unfold Rep at hx; subst hx; obtain ⟨t0, rfl⟩ := ru
      cases e <;> unfold Rep at hy
      case non => subst hy; cases rv; exact ⟨.str_none _ _, .str_none _ _, .str_none _ _⟩
      case bl => subst hy; cases rv; exact ⟨.str_bool _ _ _, .str_bool _ _ _, .str_bool _ _ _⟩
      case int => subst hy; obtain ⟨t, rfl⟩ := rv; exact ⟨.str_int _ _ _ _, .str_int _ _ _ _, .str_int _ _ _ _⟩
      case str => subst hy; obtain ⟨t, rfl⟩ := rv; unfold eqD; exact ⟨.str_str _ _ _ _, .str_str _ _ _ _, .str_str _ _ _ _⟩
      case tup => obtain ⟨a, xs, rfl, ha, _⟩ := hy; cases rv; obtain ⟨its, _, p, _⟩ := I.tuple ha; exact ⟨.str_tuple _ _ p hu', .str_tuple _ _ p hu', .str_tuple _ _ p hu'⟩
      case lst => obtain ⟨a, xs, rfl, ha, _⟩ := hy; cases rv; obtain ⟨its, _, p, _⟩ := I.list ha; exact ⟨.str_list _ _ p.isList hu', .str_list _ _ p.isList hu', .str_list _ _ p.isList hu'⟩
  | succ n ih =>
    intro A d e x y u v hd hu hx hy ru rv
    have hu' : A.units < cLine := by omega
    have hin : A.in1.units + n < cLine := by show A.units + 1 + n < cLine; omega
    cases d with
    | tup ds =>
      unfold depD at hd
      unfold Rep at hx
      obtain ⟨a, xs, rfl, ha, hr⟩ := hx
      cases ru
      cases e <;> unfold Rep at hy
      case tup es =>
        obtain ⟨b, ys, rfl, hb, hr'⟩ := hy
        cases rv
        refine eq3_tup I hu' ha hb hr hr' fun i d e x y u v e1 e2 e3 e4 ru rv => ?_
        obtain ⟨x', q1, q2⟩ := hr.get e1
        obtain ⟨y', q3, q4⟩ := hr'.get e2
        rw [e3] at q1; cases q1
        rw [e4] at q3; cases q3
        exact (ih A.in1 d e x y u v (by have := depD_le e1; omega) hin q2 q4 ru rv).1
      case non => subst hy; cases rv; obtain ⟨its, _, p, _⟩ := I.tuple ha; exact ⟨.tuple_none p hu', .tuple_none p hu', .tuple_none p hu'⟩
      case bl => subst hy; cases rv; obtain ⟨its, _, p, _⟩ := I.tuple ha; exact ⟨.tuple_bool _ p hu', .tuple_bool _ p hu', .tuple_bool _ p hu'⟩
      case int => subst hy; obtain ⟨t, rfl⟩ := rv; obtain ⟨its, _, p, _⟩ := I.tuple ha; exact ⟨.tuple_int _ _ p hu', .tuple_int _ _ p hu', .tuple_int _ _ p hu'⟩
      case str => subst hy; obtain ⟨t, rfl⟩ := rv; obtain ⟨its, _, p, _⟩ := I.tuple ha; exact ⟨.tuple_str _ _ p hu', .tuple_str _ _ p hu', .tuple_str _ _ p hu'⟩
      case lst => obtain ⟨b, ys, rfl, hb, _⟩ := hy; cases rv; obtain ⟨its, _, p, _⟩ := I.tuple ha; obtain ⟨its2, _, p2, _⟩ := I.list hb; exact ⟨.tuple_list p p2.isList hu', .tuple_list p p2.isList hu', .tuple_list p p2.isList hu'⟩
    | lst ds =>
      unfold depD at hd
      unfold Rep at hx
      obtain ⟨a, xs, rfl, ha, hr⟩ := hx
      cases ru
      cases e <;> unfold Rep at hy
      case lst es =>
        obtain ⟨b, ys, rfl, hb, hr'⟩ := hy
        cases rv
        refine eq3_lst I hu' ha hb hr hr' fun i d e x y u v e1 e2 e3 e4 ru rv => ?_
        obtain ⟨x', q1, q2⟩ := hr.get e1
        obtain ⟨y', q3, q4⟩ := hr'.get e2
        rw [e3] at q1; cases q1
        rw [e4] at q3; cases q3
        exact (ih A.in1 d e x y u v (by have := depD_le e1; omega) hin q2 q4 ru rv).1
      case non => subst hy; cases rv; obtain ⟨its, _, p, _⟩ := I.list ha; exact ⟨.list_none p.isList hu', .list_none p.isList hu', .list_none p.isList hu'⟩
      case bl => subst hy; cases rv; obtain ⟨its, _, p, _⟩ := I.list ha; exact ⟨.list_bool _ p.isList hu', .list_bool _ p.isList hu', .list_bool _ p.isList hu'⟩
      case int => subst hy; obtain ⟨t, rfl⟩ := rv; obtain ⟨its, _, p, _⟩ := I.list ha; exact ⟨.list_int _ _ p.isList hu', .list_int _ _ p.isList hu', .list_int _ _ p.isList hu'⟩
      case str => subst hy; obtain ⟨t, rfl⟩ := rv; obtain ⟨its, _, p, _⟩ := I.list ha; exact ⟨.list_str _ _ p.isList hu', .list_str _ _ p.isList hu', .list_str _ _ p.isList hu'⟩
      case tup => obtain ⟨b, ys, rfl, hb, _⟩ := hy; cases rv; obtain ⟨its, _, p, _⟩ := I.list ha; obtain ⟨its2, _, p2, _⟩ := I.tuple hb; exact ⟨.list_tuple p.isList p2 hu', .list_tuple p.isList p2 hu', .list_tuple p.isList p2 hu'⟩
    | non => exact ih A .non e x y u v (by unfold depD; omega) (by omega) hx hy ru rv
    | bl c => exact ih A (.bl c) e x y u v (by unfold depD; omega) (by omega) hx hy ru rv
    | int c => exact ih A (.int c) e x y u v (by unfold depD; omega) (by omega) hx hy ru rv
    | str c => exact ih A (.str c) e x y u v (by unfold depD; omega) (by omega) hx hy ru rv
end
section
variable {X : Cx}
def mEq (neg : Bool) (K : PySem.W.Frag) : R2 := fun x y H Q => match x, y with
  | .non, .non => Q (.bl (neg ^^ true)) H
  | .bl a, .bl b => Q (.bl (neg ^^ (a == b))) H
  | .int a, .int b => Q (.bl (neg ^^ (a == b))) H
  | .str a, .str b => Q (.bl (neg ^^ (a == b))) H
  | x, y => ∃ d e, Rep K H d x ∧ Rep K H e y ∧ depD d ≤ 60 ∧ Q (.bl (neg ^^ eqD d e)) H
theorem om_eqAll (hu : X.A.units + 60 < cLine) : OpR X (compareOp .Eq) (fun x y H Q => ∃ d e, Rep X.K H d x ∧ Rep X.K H e y ∧ depD d ≤ 60 ∧ Q (.bl (eqD d e)) H) := by
  intro pins s σ H x y v u Q I rx ry h
  obtain ⟨d, e, h1, h2, h3, q⟩ := h
  exact (eq_all I 60 X.A d e x y v u h3 hu h1 h2 rx ry).2.1 X.prog X.w _ _ ⟨.bl _, H, I, rfl, q⟩
theorem om_neAll (hu : X.A.units + 60 < cLine) : OpR X (compareOp .NotEq) (fun x y H Q => ∃ d e, Rep X.K H d x ∧ Rep X.K H e y ∧ depD d ≤ 60 ∧ Q (.bl (!eqD d e)) H) := by
  intro pins s σ H x y v u Q I rx ry h
  obtain ⟨d, e, h1, h2, h3, q⟩ := h
  exact (eq_all I 60 X.A d e x y v u h3 hu h1 h2 rx ry).2.2 X.prog X.w _ _ ⟨.bl _, H, I, rfl, q⟩
theorem mEq_imp {neg : Bool} {K : PySem.W.Frag} {x y : V} {H : Hp} {Q : VK} (h : mEq neg K x y H Q) : ∃ d e, Rep K H d x ∧ Rep K H e y ∧ depD d ≤ 60 ∧ Q (.bl (neg ^^ eqD d e)) H := by
  unfold mEq at h
  split at h
  · exact ⟨.non, .non, by unfold Rep; rfl, by unfold Rep; rfl, by unfold depD; omega, by unfold eqD; exact h⟩
  · rename_i a b; exact ⟨.bl a, .bl b, by unfold Rep; rfl, by unfold Rep; rfl, by unfold depD; omega, by unfold eqD; exact h⟩
  · rename_i a b; exact ⟨.int a, .int b, by unfold Rep; rfl, by unfold Rep; rfl, by unfold depD; omega, by unfold eqD; exact h⟩
  · rename_i a b; exact ⟨.str a, .str b, by unfold Rep; rfl, by unfold Rep; rfl, by unfold depD; omega, by unfold eqD; exact h⟩
  · exact h
theorem om_eq (hu : X.A.units + 60 < cLine) : OpR X (compareOp .Eq) (mEq false X.K) := (om_eqAll hu).imp fun x y H Q h => by
  obtain ⟨d, e, h1, h2, h3, q⟩ := mEq_imp h
  exact ⟨d, e, h1, h2, h3, by rw [Bool.false_xor] at q; exact q⟩
theorem om_ne (hu : X.A.units + 60 < cLine) : OpR X (compareOp .NotEq) (mEq true X.K) := (om_neAll hu).imp fun x y H Q h => by
  obtain ⟨d, e, h1, h2, h3, q⟩ := mEq_imp h
  exact ⟨d, e, h1, h2, h3, by rw [Bool.true_xor] at q; exact q⟩
end
end L2
set_option Elab.async false
set_option linter.all false
set_option maxRecDepth 100000
set_option maxHeartbeats 4000000
namespace L2
open PySem PySem.Spec PyProof.Rows
section
variable {X : Cx} {a b c e : Expr} {es : List Expr} {ta tb tc te : TE} {tA tB' : TT} {t : TA} {pos p : Pos} {x : Str}
def isB (v : V) (Q : Bool → Prop) : Prop := match v with
  | .bl c => Q c
  | _ => False
theorem isB_of {v : V} {Q : Bool → Prop} (h : isB v Q) : ∃ c, v = .bl c ∧ Q c := by
  cases v <;> first | exact False.elim h | exact ⟨_, rfl, h⟩
def EMono (t : TE) : Prop := ∀ σ H (Q Q' : VK), (∀ v H, Q v H → Q' v H) → t σ H Q → t σ H Q'
def uB (t : TE) : TT := fun σ H Q => t σ H fun x H1 => isB x fun c => Q c H1
theorem tu_cmp {op : CmpOp} {r : R2} (ho : OpR X (compareOp op) r) (ha : PE X a ta) (hb : PE X b tb) (hm : behindInMarks op b = false := by first | exact nobehind _ (by decide) (by decide) | rfl) : PT X (.Compare a [op] [b] pos) (uB (tOp r ta tb)) := by
  intro pins s σ H Q I h
  refine wpAny_isTrue_Compare1 (thn (ha pins s σ H _ I h) fun v s1 ⟨x, H1, I1, r1, q1⟩ => thn (hb pins s1 σ H1 _ I1 q1) fun u s2 ⟨y, H2, I2, r2, q2⟩ =>
    thn (ho pins s2 σ H2 x y v u _ I2 r1 r2 q2) fun c s3 ⟨z, H3, I3, r3, q⟩ => ?_) hm
  obtain ⟨k, e, q3⟩ := isB_of q
  subst e
  cases r3
  exact wpAny_truthy_bool ⟨H3, I3, q3⟩
theorem pe_cmpM {op : CmpOp} {r : R2} (ho : OpR X (compareOp op) r) (ha : PE X a ta) (hb : PE X b tb) (hm : behindInMarks op b = false := by first | exact nobehind _ (by decide) (by decide) | rfl) : PE X (.Compare a [op] [b] pos) (tOp r ta tb) := pe_cmpR ho ha hb hm
theorem tu_val (h : PE X e te) (he : ∀ whole, isTrue e X.env whole = (do let v ← whole; standAt e.pos; holding [v] (truthy v)) := by intro _; rfl) : PT X e (uB te) := by
  intro pins s σ H Q I hq
  refine isTrue_plain (thn (h pins s σ H _ I hq) fun v s1 ⟨x, H1, I1, r1, q1⟩ => ?_) (he _)
  obtain ⟨k, e, q⟩ := isB_of q1
  subst e
  cases r1
  exact wpAny_truthy_bool ⟨H1, I1, q⟩
def vChain (r r' : R2) (ta tb tc : TE) : TE := fun σ H Q => ta σ H fun x H1 => tb σ H1 fun y H2 => r x y H2 fun z H3 => isB z fun k =>
  (if k = true then tc σ H3 fun w' H4 => r' y w' H4 Q else Q (.bl false) H3)
theorem pe_chainM {op op' : CmpOp} {r r' : R2} (ho : OpR X (compareOp op) r) (ho' : OpR X (compareOp op') r') (ha : PE X a ta) (hb : PE X b tb) (hc : PE X c tc)
    (hm : lastMarks [op, op'] [b, c] = false := by with_unfolding_all rfl) : PE X (.Compare a [op, op'] [b, c] pos) (vChain r r' ta tb tc) := by
  intro pins s σ H Q I h
  refine Compare_chain (thn (ha pins s σ H _ I h) fun v s1 ⟨x, H1, I1, r1, q1⟩ => chain_link (thn (hb pins s1 σ H1 _ I1 q1) fun u s2 ⟨y, H2, I2, r2, q2⟩ =>
    thn (ho pins s2 σ H2 x y v u _ I2 r1 r2 q2) fun d s3 ⟨z, H3, I3, r3, q⟩ => ?_)) hm
  obtain ⟨k, e, q3⟩ := isB_of q
  subst e
  cases r3
  refine wpAny_truthy_bool ?_
  cases k with
  | false => exact ite_ff ⟨.bl false, H3, I3, rfl, q3⟩
  | true => exact ite_tt (chain_last (thn (hc pins s3 σ H3 _ I3 q3) fun w' s4 ⟨z', H4, I4, r4, q4⟩ => ho' pins s4 σ H4 y z' u w' Q I4 r2 r4 q4))
def vAnd (ta tb : TE) : TE := fun σ H Q => ta σ H fun x H1 => isB x fun c => if c = true then tb σ H1 Q else Q (.bl false) H1
def vNot (ta : TE) : TE := fun σ H Q => ta σ H fun x H1 => isB x fun c => Q (.bl (!c)) H1
theorem pe_andM (ha : PE X a ta) (hb : PE X (.BoolOp .And (b :: es) pos) tb) : PE X (.BoolOp .And (a :: b :: es) pos) (vAnd ta tb) := by
  have ha' : PE X a (fun σ H Q => ta σ H fun x H1 => isB x fun c => Q (.bl c) H1) := fun pins s σ H Q I h => thn (ha pins s σ H _ I h) fun v s1 ⟨x, H1, I1, r1, q1⟩ => by
    obtain ⟨c, e, q⟩ := isB_of q1
    subst e
    exact ⟨.bl c, H1, I1, r1, q⟩
  have h := pe_and (pos := pos) ha' hb
  exact h.imp fun σ H Q q => by
    show ta σ H fun x H1 => isB x fun c => ∃ c', V.bl c = .bl c' ∧ if c' = true then tb σ H1 Q else Q (.bl false) H1
    have e : (fun (x : V) (H1 : Hp) => isB x fun c => ∃ c', V.bl c = .bl c' ∧ if c' = true then tb σ H1 Q else Q (.bl false) H1) = fun x H1 => isB x fun c => if c = true then tb σ H1 Q else Q (.bl false) H1 := by
      funext x H1
      cases x <;> first | rfl | (apply propext; constructor; (rintro ⟨c', e, h⟩; cases e; exact h); (intro h; exact ⟨_, rfl, h⟩))
    rw [e]
    exact q
theorem pe_notM (ha : PE X a ta) : PE X (.UnaryOp .Not a pos) (vNot ta) := by
  have ha' : PE X a (fun σ H Q => ta σ H fun x H1 => isB x fun c => Q (.bl c) H1) := fun pins s σ H Q I h => thn (ha pins s σ H _ I h) fun v s1 ⟨x, H1, I1, r1, q1⟩ => by
    obtain ⟨c, e, q⟩ := isB_of q1
    subst e
    exact ⟨.bl c, H1, I1, r1, q⟩
  have h := pe_not (pos := pos) ha'
  exact h.imp fun σ H Q q => by
    show ta σ H fun x H1 => isB x fun c => ∃ c', V.bl c = .bl c' ∧ Q (.bl (!c')) H1
    have e : (fun (x : V) (H1 : Hp) => isB x fun c => ∃ c', V.bl c = .bl c' ∧ Q (.bl (!c')) H1) = fun x H1 => isB x fun c => Q (.bl (!c)) H1 := by
      funext x H1
      cases x <;> first | rfl | (apply propext; constructor; (rintro ⟨c', e, h⟩; cases e; exact h); (intro h; exact ⟨_, rfl, h⟩))
    rw [e]
    exact q
def SqA (K : PySem.W.Frag) (H : Hp) (p : Addr) (xs : List V) : Prop := SqL K H p xs ∨ SqT K H p xs
def mIx (K : PySem.W.Frag) : R2 := fun x y H Q => match x, y with
  | .ref p, .int i => ∃ xs v, SqA K H p xs ∧ atI xs i = some v ∧ Q v H
  | .str z, .int i => ∃ c, z.length ≤ sizeLine ∧ atI z.cps.toList i = some c ∧ Q (.str ⟨#[c]⟩) H
  | _, _ => False
theorem IxR.imp {r r' : R2} (h : IxR X r) (g : ∀ x y H Q, r' x y H Q → r x y H Q) : IxR X r' := fun a b pins s σ H x y v u Q I rx ry q z => h a b pins s σ H x y v u Q I rx ry (g _ _ _ _ q) z
theorem xm_ix : IxR X (mIx X.K) := ix_seq.imp fun x y H Q q => by
  cases x <;> cases y <;> first
    | exact False.elim q
    | (obtain ⟨xs, v, h | h, e, q⟩ := q
       · exact .inl ⟨_, xs, _, v, rfl, rfl, h, e, q⟩
       · exact .inr (.inl ⟨_, xs, _, v, rfl, rfl, h, e, q⟩))
    | (obtain ⟨c, hz, e, q⟩ := q
       exact .inr (.inr ⟨_, _, c, rfl, rfl, hz, e, q⟩))
theorem pe_ixM (ha : PE X a ta) (hb : PE X b tb) (hs : PlainIx b := by intro _ _; rfl) : PE X (.Subscript a b pos) (tOp (mIx X.K) ta tb) := pe_ix xm_ix ha hb hs
def mLen (K : PySem.W.Frag) : List V → Hp → VK → Prop := fun xs H Q => match xs with
  | [x] => ∃ n, LenV K x H n ∧ Q (.int n) H
  | _ => False
theorem cm_len : CallR X (.builtin "len") (mLen X.K) := call_len.imp fun xs H Q q => by
  match xs, q with
  | [x], ⟨n, h, q⟩ => exact ⟨x, n, rfl, h, q⟩
def mMax : List V → Hp → VK → Prop := fun xs H Q => match xs with
  | [.int i, .int j] => Q (.int (max i j)) H
  | _ => False
theorem cm_max (hc : X.calm = true) : CallR X (.builtin "max") mMax := (call_max2 hc).imp fun xs H Q q => by
  match xs, q with
  | [.int i, .int j], q =>
    refine ⟨i, j, rfl, ?_⟩
    have e : (if j > i then j else i) = max i j := by split <;> omega
    rw [e]
    exact q
def mInt : List V → Hp → VK → Prop := fun xs H Q => match xs with
  | [.int i] => Q (.int i) H
  | [.bl k] => Q (.int (if k then 1 else 0)) H
  | _ => False
theorem cm_int : CallR X (.type "int") mInt := call_int1.imp fun xs H Q q => by
  match xs, q with
  | [.int i], q => exact .inl ⟨i, rfl, q⟩
  | [.bl k], q => exact .inr ⟨k, rfl, q⟩
def mTuple (K : PySem.W.Frag) : List V → Hp → VK → Prop := fun xs H Q => match xs with
  | [.ref p] => ∃ ys, (SqL K H p ys ∧ ∀ l, H l = none → Q (.ref l) (upd H l (.tup ys))) ∨ (SqT K H p ys ∧ Q (.ref p) H)
  | _ => False
theorem cm_tuple : CallR X (.type "tuple") (mTuple X.K) := call_tuple_of.imp fun xs H Q q => by
  match xs, q with
  | [.ref p], ⟨ys, q⟩ => exact ⟨p, ys, rfl, q⟩
def mList (K : PySem.W.Frag) : List V → Hp → VK → Prop := fun xs H Q => match xs with
  | [.ref p] => ∃ ys, SqA K H p ys ∧ ∀ l, H l = none → Q (.ref l) (upd H l (.lst ys))
  | _ => False
theorem cm_list : CallR X (.type "list") (mList X.K) := call_list_of.imp fun xs H Q q => by
  match xs, q with
  | [.ref p], ⟨ys, h, q⟩ => exact ⟨p, ys, rfl, h, q⟩
def isiT (K : PySem.W.Frag) (T : String) (x : V) (H : Hp) (b : Bool) : Prop := match x with
  | .non => b = (T == "NoneType")
  | .bl _ => b = (T == "bool" || T == "int")
  | .int _ => b = (T == "int")
  | .str _ => b = (T == "str")
  | .ref a => (∃ xs, (H a = some (.lst xs) ∨ ∃ o, H a = some (.frz o (.lst xs))) ∧ b = (T == "list")) ∨ (∃ xs, H a = some (.tup xs) ∧ b = (T == "tuple")) ∨ ((∃ kvs, H a = some (.dK kvs)) ∧ b = (T == "dict")) ∨ ((∃ kvs, H a = some (.dT kvs)) ∧ b = (T == "dict"))
  | _ => False
def kinds : List String := ["int", "bool", "str", "tuple", "list", "dict"]
theorem kit_all (K : PySem.W.Frag) : ∀ T ∈ kinds, PySem.W.kitOne K (.type "NoneType") (.type T) = some (T == "NoneType") ∧ PySem.W.kitOne K (.type "bool") (.type T) = some (T == "bool" || T == "int") ∧
    PySem.W.kitOne K (.type "int") (.type T) = some (T == "int") ∧ PySem.W.kitOne K (.type "str") (.type T) = some (T == "str") ∧ PySem.W.kitOne K (.type "list") (.type T) = some (T == "list") ∧
    PySem.W.kitOne K (.type "tuple") (.type T) = some (T == "tuple") ∧ PySem.W.kitOne K (.type "dict") (.type T) = some (T == "dict") := by
  intro T h
  unfold kinds at h
  rcases List.mem_cons.mp h with rfl | h
  · exact ⟨rfl, rfl, rfl, rfl, rfl, rfl, rfl⟩
  rcases List.mem_cons.mp h with rfl | h
  · exact ⟨rfl, rfl, rfl, rfl, rfl, rfl, rfl⟩
  rcases List.mem_cons.mp h with rfl | h
  · exact ⟨rfl, rfl, rfl, rfl, rfl, rfl, rfl⟩
  rcases List.mem_cons.mp h with rfl | h
  · exact ⟨rfl, rfl, rfl, rfl, rfl, rfl, rfl⟩
  rcases List.mem_cons.mp h with rfl | h
  · exact ⟨rfl, rfl, rfl, rfl, rfl, rfl, rfl⟩
  rcases List.mem_cons.mp h with rfl | h
  · exact ⟨rfl, rfl, rfl, rfl, rfl, rfl, rfl⟩
  · exact absurd h (by simp)
theorem isiT_ty {K : PySem.W.Frag} {T : String} {v : V} {H : Hp} {k : Bool} (hT : T ∈ kinds) (h : isiT K T v H k) : ∃ ty, TyOf K H v ty ∧ PySem.W.kitOne K ty (.type T) = some k := by
  obtain ⟨k1, k2, k3, k4, k5, k6, k7⟩ := kit_all K T hT
  cases v with
  | non => cases (show k = _ from h); exact ⟨_, .non, k1⟩
  | bl _ => cases (show k = _ from h); exact ⟨_, .bl _, k2⟩
  | int _ => cases (show k = _ from h); exact ⟨_, .int _, k3⟩
  | str _ => cases (show k = _ from h); exact ⟨_, .str _, k4⟩
  | ref q =>
    rcases h with ⟨xs, h | ⟨o, h⟩, e⟩ | ⟨xs, h, e⟩ | ⟨⟨kvs, h⟩, e⟩ | ⟨⟨kvs, h⟩, e⟩
    · subst e; exact ⟨_, .lst h, k5⟩
    · subst e; exact ⟨_, .frz h, k5⟩
    · subst e; exact ⟨_, .tup h, k6⟩
    · subst e; exact ⟨_, .dK h, k7⟩
    · subst e; exact ⟨_, .dT h, k7⟩
  | _ => exact False.elim h
def mIsi (K : PySem.W.Frag) : List V → Hp → VK → Prop := fun xs H Q => match xs with
  | [x, .ty T] => T ∈ kinds ∧ ∃ k, isiT K T x H k ∧ Q (.bl k) H
  | _ => False
theorem cm_isi : CallR X (.builtin "isinstance") (mIsi X.K) := by
  intro pins s σ H xs us Q I r q
  match xs, q with
  | [x, .ty T], ⟨hT, k, h, q⟩ =>
    obtain ⟨u, w', rfl, ru, rw'⟩ := vals2 r
    cases rw'
    obtain ⟨ty, h1, h2⟩ := isiT_ty hT h
    exact isinst_ok I ru h1 h2 fun tk => ⟨.bl k, H, I.tok _, rfl, q⟩
end
end L2
set_option Elab.async false
set_option linter.all false
set_option maxRecDepth 100000
set_option maxHeartbeats 4000000
namespace L2
open PySem PySem.Spec PyProof.Rows
def compOkB (scope sc : Scope) : Bool :=
  decide (scope.kind = .function) && decide (scope.names.map (·.1)).Nodup && scope.names.all fun y => !(y.2 == .free) || (sc.names.lookup y.1 == some .cell || sc.names.lookup y.1 == some .free)
theorem CompScope.of {scope sc : Scope} (h : compOkB scope sc = true) : CompScope scope sc := by
  unfold compOkB at h
  rw [Bool.and_eq_true, Bool.and_eq_true] at h
  obtain ⟨⟨h1, h2⟩, h3⟩ := h
  refine ⟨of_decide_eq_true h1, of_decide_eq_true h2, fun y hy hf => ?_⟩
  have := List.all_eq_true.mp h3 y hy
  rw [hf] at this
  rcases (Bool.or_eq_true _ _).mp this with z | z
  · exact absurd z (by decide)
  · rcases (Bool.or_eq_true _ _).mp z with z | z
    · exact .inl (by simpa using z)
    · exact .inr (by simpa using z)
section
variable {X : Cx} {tg iter elt : Expr} {ifs : List Expr} {scope : Scope} {pos : Pos} {N' : List Str} {own : Nat} {ix : List Nat} {g : TG} {tc : TT} {te : TE} {wi : TI}
theorem frB {l : List Str} (h : (l.all fun x => scope.names.lookup x == some .free) = true) : ∀ x ∈ l, scope.names.lookup x = some .free := fun x hx => by
  have := List.all_eq_true.mp h x hx
  simpa using this
theorem pe_compB (hc : X.calm = true) (hi : PI X tg iter wi) (S : compOkB scope X.env.scope = true)
    (hlen : N'.length = own + ix.length) (hN : (N'.drop own).map some = ix.map (X.N[·]?)) (hfr : ((N'.drop own).all fun x => scope.names.lookup x == some .free) = true)
    (hg : ∀ c, PG (X.comp scope N' c) tg g) (hgo : GOwn own g) (ht : ∀ c, PTs (X.comp scope N' c) ifs tc) (he : ∀ c, PE (X.comp scope N' c) elt te)
    (hs : ∀ x, foldedSetIterable iter X.env x = pure x := by intro _; rfl) : PE X (.ListComp elt [⟨tg, iter, ifs, 0⟩] scope pos) (tComp wi own ix g tc te) :=
  pe_comp hc hi (.of S) hlen hN (frB hfr) hg hgo ht he hs
theorem ps_compB {i : Nat} {y : Str} {py spos : Pos} (hc : X.calm = true) (hnd : X.N.Nodup) (hiy : X.N[i]? = some y) (hy : X.env.scope.names.lookup y = some .local) (hi : PI X tg iter wi) (S : compOkB scope X.env.scope = true)
    (hlen : N'.length = own + ix.length) (hN : (N'.drop own).map some = ix.map (X.N[·]?)) (hfr : ((N'.drop own).all fun x => scope.names.lookup x == some .free) = true)
    (hg : ∀ c, PG (X.comp scope N' c) tg g) (hgo : GOwn own g) (ht : ∀ c, PTs (X.comp scope N' c) ifs tc) (he : ∀ c, PE (X.comp scope N' c) elt te)
    (hsw : swapsWith (.ListComp elt [⟨tg, iter, ifs, 0⟩] scope pos) (some (.Name y py)) spos.line X.env = pure true)
    (hs : ∀ x, foldedSetIterable iter X.env x = pure x := by intro _; rfl) : PS X (.Assign [.Name y py] (.ListComp elt [⟨tg, iter, ifs, 0⟩] scope pos) spos) (tAsg (tComp wi own ix g tc te) (gName i)) :=
  ps_comp hc hnd hiy hy hi (.of S) hlen hN (frB hfr) hg hgo ht he hsw hs
def iSeq (K : PySem.W.Frag) (tl : TE) : TI := fun σ H R => tl σ H fun x H1 => match x with
  | .ref a => ((∃ xs, SqL K H1 a xs) ∧ R (Itl K a) H1) ∨ ((∃ xs, SqT K H1 a xs) ∧ R (Itt K a) H1)
  | _ => False
theorem pi_seq {l : Expr} {tl : TE} (hl : PE X l tl) : PI X tg l (iSeq X.K tl) := by
  intro pins s σ H R I h
  refine thn (hl pins s σ H _ I h) fun v s1 ⟨x, H1, I1, r1, q1⟩ => ?_
  cases x with
  | ref a =>
    cases r1
    rcases q1 with ⟨⟨xs, hq⟩, q⟩ | ⟨⟨xs, hq⟩, q⟩
    · obtain ⟨its, rv, p, hz⟩ := I1.list hq
      refine wpAny_pyIter_list p.isList ?_
      refine ⟨s1.heap.objs.size, [s1.heap.objs.size], _, _, H1, rfl, I1.kept (t' := s1.toks) fun b o e => Heap.get?_push_of_some _ e, turn_list a _, ⟨_, Heap.get?_push_size _ rfl, rfl, rfl⟩, fun b hb => ?_, q⟩
      have e : b = s1.heap.objs.size := by simpa using hb
      subst e
      exact I1.fpOk (Nat.le_refl _) (I1.hok.fresh (Nat.le_refl _))
    · obtain ⟨its, rv, p, hz⟩ := I1.tuple hq
      refine wpAny_pyIter_tuple (show s1.heap.IsTuple a its.toArray from p) ?_
      refine ⟨s1.heap.objs.size, [s1.heap.objs.size], _, _, H1, rfl, I1.kept (t' := s1.toks) fun b o e => Heap.get?_push_of_some _ e, turn_tuple a _, ⟨_, Heap.get?_push_size _ rfl, rfl, rfl⟩, fun b hb => ?_, q⟩
      have e : b = s1.heap.objs.size := by simpa using hb
      subst e
      exact I1.fpOk (Nat.le_refl _) (I1.hok.fresh (Nat.le_refl _))
  | _ => exact False.elim q1
def mSet : TSet := fun o i v H Q => match o, i with
  | .ref p, .int k => ∃ xs j, H p = some (.lst xs) ∧ ixN xs.length k = some j ∧ Q (upd H p (.lst (xs.set j v)))
  | _, _ => False
theorem set_any : PSet X mSet := by
  intro pins s σ H o i v ov iv u Q I ro ri rv h
  cases o <;> cases i <;> first
    | exact False.elim h
    | (obtain ⟨xs, j, h1, h2, q⟩ := h
       exact set_list pins s σ H _ _ v ov iv u Q I ro ri rv ⟨_, xs, _, j, rfl, rfl, h1, h2, q⟩)
theorem comp_list {K : PySem.W.Frag} {a : Addr} {xs : List V} {σc : St} {Q : VK} {H : Hp} (Pv : Nat → List V → Hp → Prop) (h0 : Pv 0 [] H) (hl : ∀ i ys H, i ≤ xs.length → Pv i ys H → SqL K H a xs) (hz : ∀ i ys H, i < xs.length → Pv i ys H → ys.length < sizeLine)
    (hs : ∀ i x ys H, xs[i]? = some x → Pv i ys H → g x σc H fun σ2 H2 => tc σ2 H2 fun b H3 => if b = true then te σ2 H3 fun y H4 => Pv (i + 1) (ys ++ [y]) H4 else Pv (i + 1) ys H3)
    (hd : ∀ ys H, Pv xs.length ys H → ∀ p, H p = none → Q (.ref p) (upd H p (.lst ys))) : CompTurns (Itl K a) g tc te σc Q H := by
  refine ⟨fun i m ys H => m = xs.length - i ∧ i ≤ xs.length ∧ Pv i ys H, ⟨xs.length, by simp, Nat.zero_le _, h0⟩, ?_⟩
  rintro i m ys H ⟨rfl, hi, p⟩
  have q := hl i ys H hi p
  by_cases hlt : i < xs.length
  · refine .inr ⟨⟨xs, xs[i], q, by simp [hlt]⟩, hz i ys H hlt p, Pv (i + 1), fun ys' H' p' => ⟨xs.length - (i + 1), by omega, rfl, hlt, p'⟩, fun x H' y => ?_⟩
    obtain ⟨e, y⟩ := y
    subst e
    exact hs i x ys _ (y xs q) p
  · have e : i = xs.length := by omega
    subst e
    exact .inl ⟨⟨xs, q, Nat.le_refl _⟩, hd ys H p⟩
theorem comp_tup {K : PySem.W.Frag} {a : Addr} {xs : List V} {σc : St} {Q : VK} {H : Hp} (Pv : Nat → List V → Hp → Prop) (h0 : Pv 0 [] H) (hl : ∀ i ys H, i ≤ xs.length → Pv i ys H → SqT K H a xs) (hz : ∀ i ys H, i < xs.length → Pv i ys H → ys.length < sizeLine)
    (hs : ∀ i x ys H, xs[i]? = some x → Pv i ys H → g x σc H fun σ2 H2 => tc σ2 H2 fun b H3 => if b = true then te σ2 H3 fun y H4 => Pv (i + 1) (ys ++ [y]) H4 else Pv (i + 1) ys H3)
    (hd : ∀ ys H, Pv xs.length ys H → ∀ p, H p = none → Q (.ref p) (upd H p (.lst ys))) : CompTurns (Itt K a) g tc te σc Q H := by
  refine ⟨fun i m ys H => m = xs.length - i ∧ i ≤ xs.length ∧ Pv i ys H, ⟨xs.length, by simp, Nat.zero_le _, h0⟩, ?_⟩
  rintro i m ys H ⟨rfl, hi, p⟩
  have q := hl i ys H hi p
  by_cases hlt : i < xs.length
  · refine .inr ⟨⟨xs, xs[i], q, by simp [hlt]⟩, hz i ys H hlt p, Pv (i + 1), fun ys' H' p' => ⟨xs.length - (i + 1), by omega, rfl, hlt, p'⟩, fun x H' y => ?_⟩
    obtain ⟨e, y⟩ := y
    subst e
    exact hs i x ys _ (y xs q) p
  · have e : i = xs.length := by omega
    subst e
    exact .inl ⟨⟨xs, q, Nat.le_refl _⟩, hd ys H p⟩
theorem comp_range {lo : Int} {n : Nat} {σc : St} {Q : VK} {H : Hp} (Pv : Nat → List V → Hp → Prop) (h0 : Pv 0 [] H) (hz : ∀ i ys H, i < n → Pv i ys H → ys.length < sizeLine)
    (hs : ∀ i ys H, i < n → Pv i ys H → g (.int (lo + i)) σc H fun σ2 H2 => tc σ2 H2 fun b H3 => if b = true then te σ2 H3 fun y H4 => Pv (i + 1) (ys ++ [y]) H4 else Pv (i + 1) ys H3)
    (hd : ∀ ys H, Pv n ys H → ∀ p, H p = none → Q (.ref p) (upd H p (.lst ys))) : CompTurns (Itr lo n) g tc te σc Q H := by
  refine ⟨fun i m ys H => m = n - i ∧ i ≤ n ∧ Pv i ys H, ⟨n, by simp, Nat.zero_le _, h0⟩, ?_⟩
  rintro i m ys H ⟨rfl, hi, p⟩
  by_cases hlt : i < n
  · refine .inr ⟨hlt, hz i ys H hlt p, Pv (i + 1), fun ys' H' p' => ⟨n - (i + 1), by omega, rfl, hlt, p'⟩, fun x H' y => ?_⟩
    obtain ⟨e, y⟩ := y
    subst e y
    exact hs i ys _ hlt p
  · have e : i = n := by omega
    subst e
    exact .inl ⟨Nat.le_refl _, hd ys H p⟩
def vWhile (c : TT) (tb : TS) : TS := fun D σ H => ∃ W : Nat → St → Hp → Prop, (∃ m, W m σ H) ∧ ∀ m σ H, W m σ H →
  c σ H fun b H1 => if b = true then tb { D with nx := fun σ' H' => ∃ m', m' < m ∧ W m' σ' H', ct := fun σ' H' => ∃ m', m' < m ∧ W m' σ' H', bk := D.nx } σ H1 else D.nx σ H1
theorem ps_whileM {c : Expr} {body : List Stmt} {tc : TT} {tb : TS} (hp : PassesOwn (model X.prog X.w) X.A X.env X.xe) (hc : PT X c tc) (hb : PSs X body tb) : PS X (.While c body [] pos) (vWhile tc tb) := by
  intro pins s σ H D I h
  obtain ⟨W, ⟨m0, w0⟩, turn⟩ := h
  refine wpAny_While (codeAny_whileLoop (fun n s' => ∃ σ' H', Inv X pins σ' H' s' ∧ W n σ' H') ?_ m0 ⟨σ, H, I, w0⟩)
  rintro n s1 ⟨σ1, H1, I1, w1⟩
  refine wpAny_passesOwn hp (thn (hc pins s1 σ1 H1 _ I1 (turn n σ1 H1 w1)) fun b s2 ⟨H2, I2, q2⟩ => ?_)
  cases b with
  | true =>
    rw [if_pos rfl] at q2
    rw [if_pos rfl]
    refine wpAny_passesOwn hp (thn (hb pins s2 σ1 H2 _ I2 q2) fun f s3 q3 => ?_)
    cases f with
    | next =>
      obtain ⟨σ3, H3, I3, m', hm, w3⟩ := q3
      exact ⟨m', hm, σ3, H3, I3, w3⟩
    | cont =>
      obtain ⟨σ3, H3, I3, m', hm, w3⟩ := q3
      exact ⟨m', hm, σ3, H3, I3, w3⟩
    | brk => exact q3
    | ret v => exact q3
  | false =>
    rw [if_neg Bool.false_ne_true] at q2
    rw [if_neg Bool.false_ne_true]
    exact wpAny_execs_nil ⟨σ1, H2, I2, q2⟩
end
theorem hu60 {A : Around} {k : Nat} (hr : Room k A) : A.units + 60 < cLine := by have := hr.un; omega
end L2
set_option Elab.async false
set_option linter.all false
set_option maxRecDepth 100000
set_option maxHeartbeats 4000000
namespace L2
open PySem PySem.Spec PyProof.Rows
def Frm (t : Addr) (H H' : Hp) : Prop := ∀ b o, b ≠ t → H b = some o → H' b = some o
theorem Frm.trans {t : Addr} {H H1 H2 : Hp} (a : Frm t H H1) (b : Frm t H1 H2) : Frm t H H2 := fun c o n h => b c o n (a c o n h)
theorem Frm.upd {t p : Addr} {H : Hp} {o : HO} (h : H p = none) : Frm t H (upd H p o) := fun b u _ e => by rw [upd_ne (ne_of_none e h)]; exact e
theorem Same.upd {p : Addr} {H : Hp} {o : HO} (h : H p = none) : Same H (L2.upd H p o) := fun b u e => by rw [upd_ne (ne_of_none e h)]; exact e
theorem Same.frm {t : Addr} {H H' : Hp} (h : Same H H') : Frm t H H' := fun b o _ e => h b o e
theorem sqL_stay {K : PySem.W.Frag} {H H' : Hp} {a : Addr} {xs : List V} (h : SqL K H a xs) (k : ∀ o, H a = some o → H' a = some o) : SqL K H' a xs := by
  rcases h with (h | ⟨o, h⟩) | h
  · exact .inl (.inl (k _ h))
  · exact .inl (.inr ⟨o, k _ h⟩)
  · exact .inr h
theorem sqT_stay {K : PySem.W.Frag} {H H' : Hp} {a : Addr} {xs : List V} (h : SqT K H a xs) (k : ∀ o, H a = some o → H' a = some o) : SqT K H' a xs := by
  rcases h with (h | ⟨o, h⟩) | h
  · exact .inl (.inl (k _ h))
  · exact .inl (.inr ⟨o, k _ h⟩)
  · exact .inr h
def ScrAt (K : PySem.W.Frag) (H : Hp) (t a : Addr) (ns : List Int) : Prop :=
  (Rd H a (.lst (ns.map V.int)) ∧ a ≠ t) ∨ ∃ (o : Obj) (its : Array Value) (n : Nat), K.lookup a = some o ∧ o.cls = .type "list" ∧ o.dict = none ∧ o.data = .seq its n ∧ its.size ≤ sizeLine ∧ Vals (ns.map V.int) its.toList
theorem ScrAt.stay {K : PySem.W.Frag} {H H' : Hp} {t a : Addr} {ns : List Int} (h : ScrAt K H t a ns) (k : ∀ o, a ≠ t → H a = some o → H' a = some o) : ScrAt K H' t a ns := by
  rcases h with ⟨h | ⟨o, h⟩, n⟩ | h
  · exact .inl ⟨.inl (k _ n h), n⟩
  · exact .inl ⟨.inr ⟨o, k _ n h⟩, n⟩
  · exact .inr h
theorem ScrAt.of {K : PySem.W.Frag} {H : Hp} {t a : Addr} {ns : List Int} (h : SqL K H a (ns.map V.int)) (ht : H t = none) : ScrAt K H t a ns := by
  rcases h with h | h
  · refine .inl ⟨h, fun e => ?_⟩
    subst e
    rcases h with h | ⟨o, h⟩ <;> rw [ht] at h <;> cases h
  · exact .inr h
structure Tape (K : PySem.W.Frag) (H : Hp) (t a : Addr) (ns : List Int) : Prop where
  at_ : ∃ i r c : Int, 0 ≤ i ∧ 0 ≤ r ∧ H t = some (.lst [.ref a, .int i, .int r, .int c])
  scr : ScrAt K H t a ns
theorem Tape.frm {K : PySem.W.Frag} {H H' : Hp} {t a : Addr} {ns : List Int} (T : Tape K H t a ns) (h : Frm t H H') (ht : H' t = H t) : Tape K H' t a ns :=
  ⟨by rw [ht]; exact T.at_, T.scr.stay fun o n e => h a o n e⟩
theorem Tape.same {K : PySem.W.Frag} {H H' : Hp} {t a : Addr} {ns : List Int} (T : Tape K H t a ns) (h : Same H H') : Tape K H' t a ns := by
  obtain ⟨i, r, c, h1, h2, h3⟩ := T.at_
  exact ⟨⟨i, r, c, h1, h2, h _ _ h3⟩, T.scr.stay fun o _ e => h a o e⟩
theorem Tape.upd {K : PySem.W.Frag} {H : Hp} {t a p : Addr} {o : HO} {ns : List Int} (T : Tape K H t a ns) (h : H p = none) : Tape K (L2.upd H p o) t a ns := T.same (Same.upd h)
theorem Tape.free {K : PySem.W.Frag} {H H' : Hp} {t a p : Addr} {ns : List Int} (T : Tape K H' t a ns) (h : Frm t H H') (hp : H' p = none) : H p = none := by
  cases e : H p with
  | none => rfl
  | some o =>
    by_cases hpt : p = t
    · subst hpt
      obtain ⟨i, r, c, _, _, h3⟩ := T.at_
      rw [h3] at hp; cases hp
    · rw [h p o hpt e] at hp; cases hp
def spLaw (K : PySem.W.Frag) : Sp := fun vs H Q _ => ∃ (a : Addr) (ns : List Int), vs = [.ref a] ∧ SqL K H a (ns.map V.int) ∧ ns.length ≤ 63 ∧ ∀ H', Q (.bl true) H'
theorem atI_of {xs : List V} {i : Int} {n : Nat} {v : V} (h : i = (n : Int)) (hx : xs[n]? = some v) : atI xs i = some v := by
  subst h
  have hn : n < xs.length := (List.getElem?_eq_some_iff.mp hx).1
  unfold atI ixN
  rw [if_pos (Int.natCast_nonneg n), if_pos (by omega)]
  simpa using hx
theorem atI_int {ns : List Int} {i : Int} (h0 : 0 ≤ i) (h1 : i < ns.length) : ∃ z, atI (ns.map V.int) i = some (.int z) := by
  obtain ⟨n, rfl⟩ := Int.eq_ofNat_of_zero_le h0
  have hn : n < ns.length := by omega
  exact ⟨ns[n], atI_of rfl (by rw [List.getElem?_map, List.getElem?_eq_getElem hn]; rfl)⟩
theorem okDiv_of {j : Int} (h1 : 0 < j) (h2 : j ≤ 2 ^ 1000) : okDiv j := ⟨h1, Int.lt_of_le_of_lt h2 (by decide)⟩
theorem small_le {n : Nat} (h : n ≤ 1000) : n ≤ sizeLine := Nat.le_of_lt (small1000 h)
end L2
set_option Elab.async false
set_option linter.all false
set_option maxRecDepth 100000
set_option maxHeartbeats 4000000
namespace L2
open PySem PySem.Spec PyProof.Rows
def TMono (t : TT) : Prop := ∀ σ H (Q Q' : Bool → Hp → Prop), (∀ b H, Q b H → Q' b H) → t σ H Q → t σ H Q'
def AMono (t : TA) : Prop := ∀ σ H (Q Q' : List V → Hp → Prop), (∀ b H, Q b H → Q' b H) → t σ H Q → t σ H Q'
def RMono (r : R2) : Prop := ∀ x y H (Q Q' : VK), (∀ v H, Q v H → Q' v H) → r x y H Q → r x y H Q'
def UMono (r : V → Hp → VK → Prop) : Prop := ∀ x H (Q Q' : VK), (∀ v H, Q v H → Q' v H) → r x H Q → r x H Q'
def CMono (r : List V → Hp → VK → Prop) : Prop := ∀ xs H (Q Q' : VK), (∀ v H, Q v H → Q' v H) → r xs H Q → r xs H Q'
def BMono (r : V → List V → Hp → VK → Prop) : Prop := ∀ x xs H (Q Q' : VK), (∀ v H, Q v H → Q' v H) → r x xs H Q → r x xs H Q'
def SpMono (sp : Sp) : Prop := ∀ vs H (Q Q' : VK) E, (∀ v H, Q v H → Q' v H) → sp vs H Q E → sp vs H Q' E
def IMono (t : TI) : Prop := ∀ σ H (Q Q' : It → Hp → Prop), (∀ J H, Q J H → Q' J H) → t σ H Q → t σ H Q'
def SetMono (t : TSet) : Prop := ∀ o i v H (Q Q' : Hp → Prop), (∀ H, Q H → Q' H) → t o i v H Q → t o i v H Q'
structure Ends.le (D D' : Ends) : Prop where
  nx : ∀ σ H, D.nx σ H → D'.nx σ H
  rt : ∀ v H, D.rt v H → D'.rt v H
  bk : ∀ σ H, D.bk σ H → D'.bk σ H
  ct : ∀ σ H, D.ct σ H → D'.ct σ H
def SMono (t : TS) : Prop := ∀ D D' σ H, Ends.le D D' → t D σ H → t D' σ H
theorem em_var {i : Nat} : EMono (vVar i) := fun σ H Q Q' h q => by
  unfold vVar at *
  split at q
  · exact h _ _ q
  · exact q.elim
theorem em_c {v : V} : EMono (tC v) := fun _ _ _ _ h q => h _ _ q
theorem em_op {r : R2} {ta tb : TE} (hr : RMono r) (ha : EMono ta) (hb : EMono tb) : EMono (tOp r ta tb) := fun σ H Q Q' h q => ha _ _ _ _ (fun _ _ q => hb _ _ _ _ (fun _ _ q => hr _ _ _ _ _ h q) q) q
theorem em_un {r : V → Hp → VK → Prop} {ta : TE} (hr : UMono r) (ha : EMono ta) : EMono (tUn r ta) := fun σ H Q Q' h q => ha _ _ _ _ (fun _ _ q => hr _ _ _ _ h q) q
theorem rm_add {K} : RMono (mAdd K) := fun x y H Q Q' h q => by
  unfold mAdd at *
  split at q
  · exact h _ _ q
  · exact ⟨q.1, h _ _ q.2⟩
  · rcases q with ⟨l, b, xs, zs, e1, e2, h1, h2, h3, q⟩ | ⟨a, b, xs, ys, e1, e2, h1, h2, h3, h4, q1, q2⟩
    · exact .inl ⟨l, b, xs, zs, e1, e2, h1, h2, h3, fun p hp => h _ _ (q p hp)⟩
    · exact .inr ⟨a, b, xs, ys, e1, e2, h1, h2, h3, h4, fun e => h _ _ (q1 e), fun e p hp => h _ _ (q2 e p hp)⟩
  · exact q.elim
theorem rm_sub : RMono mSub := fun x y H Q Q' h q => by unfold mSub at *; split at q <;> first | exact h _ _ q | exact q.elim
theorem rm_mul : RMono mMul := fun x y H Q Q' h q => by
  unfold mMul at *
  split at q
  · exact ⟨q.1, h _ _ q.2⟩
  · obtain ⟨l, k, xs, e1, e2, h1, h2, h3, h4, q⟩ := q
    exact ⟨l, k, xs, e1, e2, h1, h2, h3, h4, fun p hp => h _ _ (q p hp)⟩
  · exact q.elim
theorem rm_div : RMono mDiv := fun x y H Q Q' h q => by unfold mDiv at *; split at q <;> first | exact ⟨q.1, h _ _ q.2⟩ | exact q.elim
theorem rm_mod : RMono mMod := fun x y H Q Q' h q => by unfold mMod at *; split at q <;> first | exact ⟨q.1, h _ _ q.2⟩ | exact q.elim
theorem rm_shl : RMono mShl := fun x y H Q Q' h q => by unfold mShl at *; split at q <;> first | exact ⟨q.1, h _ _ q.2⟩ | exact q.elim
theorem um_neg_ : UMono mNeg := fun x H Q Q' h q => by unfold mNeg at *; split at q <;> first | exact h _ _ q | exact q.elim
theorem rm_cmp {p} : RMono (mCmp p) := fun x y H Q Q' h q => by unfold mCmp at *; split at q <;> first | exact h _ _ q | exact q.elim
theorem rm_eq {n K} : RMono (mEq n K) := fun x y H Q Q' h q => by
  unfold mEq at *
  split at q <;> first | exact h _ _ q | (obtain ⟨d, e, h1, h2, h3, q⟩ := q; exact ⟨d, e, h1, h2, h3, h _ _ q⟩)
theorem rm_ix {K} : RMono (mIx K) := fun x y H Q Q' h q => by
  unfold mIx at *
  split at q
  · obtain ⟨xs, v, h1, h2, q⟩ := q; exact ⟨xs, v, h1, h2, h _ _ q⟩
  · obtain ⟨c, h1, h2, q⟩ := q; exact ⟨c, h1, h2, h _ _ q⟩
  · exact q.elim
theorem isB_mono {v : V} {Q Q' : Bool → Prop} (h : ∀ b, Q b → Q' b) (q : isB v Q) : isB v Q' := by
  cases v <;> first | exact h _ q | exact q
theorem tm_b {t : TE} (h : EMono t) : TMono (uB t) := fun σ H Q Q' k q => h _ _ _ _ (fun _ _ q => isB_mono (fun b q => k b _ q) q) q
theorem em_not {ta : TE} (ha : EMono ta) : EMono (vNot ta) := fun σ H Q Q' h q => ha _ _ _ _ (fun _ _ q => isB_mono (fun b q => h _ _ q) q) q
theorem tm_and {t u : TT} (ht : TMono t) (hu : TMono u) : TMono (tAnd t u) := fun σ H Q Q' h q => ht _ _ _ _ (fun b _ q => by
    cases b with
    | true => exact hu _ _ _ _ h q
    | false => exact h _ _ q) q
theorem am_nil : AMono tNil := fun _ _ _ _ h q => h _ _ q
theorem am_cons {ta : TE} {t : TA} (ha : EMono ta) (ht : AMono t) : AMono (tCons ta t) := fun σ H Q Q' h q => ha _ _ _ _ (fun _ _ q => ht _ _ _ _ (fun _ _ q => h _ _ q) q) q
theorem em_cb {r} {t : TA} (hr : CMono r) (ht : AMono t) : EMono (tCB r t) := fun σ H Q Q' h q => ht _ _ _ _ (fun _ _ q => hr _ _ _ _ h q) q
theorem em_call {sp dvs E} {t : TA} (hs : SpMono sp) (ht : AMono t) : EMono (tCall sp dvs E t) := fun σ H Q Q' h q => ht _ _ _ _ (fun _ _ q => hs _ _ _ _ _ h q) q
theorem em_tup {t : TA} (ht : AMono t) : EMono (tTup t) := fun σ H Q Q' h q => ht _ _ _ _ (fun _ _ q => ⟨q.1, fun p hp => h _ _ (q.2 p hp)⟩) q
theorem em_lst {t : TA} (ht : AMono t) : EMono (tLst t) := fun σ H Q Q' h q => ht _ _ _ _ (fun _ _ q => ⟨q.1, fun p hp => h _ _ (q.2 p hp)⟩) q
theorem em_comp {wi own ix g tc te} (hi : IMono wi) : EMono (tComp wi own ix g tc te) := fun σ H Q Q' h q => hi _ _ _ _ (fun J H1 q => by
    obtain ⟨W, w0, turn⟩ := q
    refine ⟨W, w0, fun i m ys H w => ?_⟩
    rcases turn i m ys H w with ⟨a, b⟩ | r
    · exact .inl ⟨a, fun p hp => h _ _ (b p hp)⟩
    · exact .inr r) q
theorem cm_len_ {K} : CMono (mLen K) := fun xs H Q Q' h q => by unfold mLen at *; split at q <;> first | (obtain ⟨n, a, q⟩ := q; exact ⟨n, a, h _ _ q⟩) | exact q.elim
theorem cm_list_ {K} : CMono (mList K) := fun xs H Q Q' h q => by
  unfold mList at *
  split at q
  · obtain ⟨ys, a, q⟩ := q; exact ⟨ys, a, fun l hl => h _ _ (q l hl)⟩
  · exact q.elim
theorem im_seq {K} {tl : TE} (h : EMono tl) : IMono (iSeq K tl) := fun σ H Q Q' k q => h _ _ _ _ (fun v H1 q => by
    cases v <;> first | exact q.elim | (rcases q with ⟨a, q⟩ | ⟨a, q⟩
                                        · exact .inl ⟨a, k _ _ q⟩
                                        · exact .inr ⟨a, k _ _ q⟩)) q
theorem im_rng1 {ta : TA} (h : AMono ta) : IMono (iRng1 ta) := fun σ H Q Q' k q => h _ _ _ _ (fun _ _ ⟨j, e, a, b, q⟩ => ⟨j, e, a, b, k _ _ q⟩) q
theorem sm_set : SetMono mSet := fun o i v H Q Q' h q => by
  unfold mSet at *
  split at q
  · obtain ⟨xs, j, a, b, q⟩ := q; exact ⟨xs, j, a, b, h _ q⟩
  · exact q.elim
theorem gm_sub {to ti : TE} {t : TSet} (h1 : EMono to) (h2 : EMono ti) (h3 : SetMono t) : GMono (gSub to ti t) := fun v σ H Q Q' h q => h1 _ _ _ _ (fun _ _ q => h2 _ _ _ _ (fun _ _ q => h3 _ _ _ _ _ _ (fun H q => h _ _ q) q) q) q
theorem sm_next : SMono tNext := fun D D' σ H h q => h.nx _ _ q
theorem sm_seq {t u : TS} (h1 : SMono t) (h2 : SMono u) : SMono (tSeq t u) := fun D D' σ H h q => h1 { D with nx := u D } { D' with nx := u D' } σ H ⟨fun σ H q => h2 D D' σ H h q, h.rt, h.bk, h.ct⟩ q
theorem sm_asg {te : TE} {g : TG} (h1 : EMono te) (h2 : GMono g) : SMono (tAsg te g) := fun D D' σ H h q => h1 _ _ _ _ (fun _ _ q => h2 _ _ _ _ _ h.nx q) q
theorem sm_drop {te : TE} (h1 : EMono te) : SMono (tDrop te) := fun D D' σ H h q => h1 _ _ _ _ (fun _ _ q => h.nx _ _ q) q
theorem sm_if {c : TT} {t u : TS} (hc : TMono c) (h1 : SMono t) (h2 : SMono u) : SMono (tIfS c t u) := fun D D' σ H h q => hc _ _ _ _ (fun b _ q => by
    cases b with
    | true => exact h1 _ _ _ _ h q
    | false => exact h2 _ _ _ _ h q) q
theorem sm_while {c : TT} {tb : TS} (hc : TMono c) (h1 : SMono tb) : SMono (vWhile c tb) := fun D D' σ H h q => by
  obtain ⟨W, w0, turn⟩ := q
  refine ⟨W, w0, fun m σ H w => hc _ _ _ _ (fun b H1 q => ?_) (turn m σ H w)⟩
  cases b with
  | true => exact h1 { D with nx := fun σ' H' => ∃ m', m' < m ∧ W m' σ' H', ct := fun σ' H' => ∃ m', m' < m ∧ W m' σ' H', bk := D.nx } _ _ _ ⟨fun _ _ q => q, h.rt, h.nx, fun _ _ q => q⟩ q
  | false => exact h.nx _ _ q
theorem sm_for {wi : TI} {g : TG} {tb : TS} (hi : IMono wi) (hg : GMono g) (h1 : SMono tb) : SMono (tFor wi g tb) := fun D D' σ H h q => hi _ _ _ _ (fun J H1 q => by
  obtain ⟨W, w0, turn⟩ := q
  refine ⟨W, w0, fun i m σ H w => ?_⟩
  rcases turn i m σ H w with ⟨a, b⟩ | ⟨a, N, hN, step⟩
  · exact .inl ⟨a, h.nx _ _ b⟩
  · exact .inr ⟨a, N, hN, fun x H' y => hg _ _ _ _ _ (fun σ2 H2 q => h1 { D with nx := N, ct := N, bk := D.nx } _ _ _ ⟨fun _ _ q => q, h.rt, h.nx, fun _ _ q => q⟩ q) (step x H' y)⟩) q
theorem seq_at {t u : TS} {D : Ends} {σ : St} {H : Hp} (J : St → Hp → Prop) (h1 : t { D with nx := J } σ H) (h2 : ∀ σ' H', J σ' H' → u D σ' H') (hm : SMono t) : tSeq t u D σ H :=
  hm { D with nx := J } { D with nx := u D } σ H ⟨h2, fun _ _ q => q, fun _ _ q => q, fun _ _ q => q⟩ h1
end L2
set_option Elab.async false
set_option linter.all false
set_option maxRecDepth 100000
set_option maxHeartbeats 4000000
namespace L2
open PySem PySem.Spec PyProof.Rows
section
variable {X : Cx} {K : PySem.W.Frag} {a b c e l tg : Expr} {es : List Expr} {ta tb tc te tl : TE} {pos p : Pos}
theorem kAdd (hK : X.K = K := by rfl) : OpR X (binaryOp .Add) (mAdd K) := hK ▸ om_add
theorem kEq (hu : X.A.units + 60 < cLine) (hK : X.K = K := by rfl) : OpR X (compareOp .Eq) (mEq false K) := hK ▸ om_eq hu
theorem kNe (hu : X.A.units + 60 < cLine) (hK : X.K = K := by rfl) : OpR X (compareOp .NotEq) (mEq true K) := hK ▸ om_ne hu
theorem kIx (ha : PE X a ta) (hb : PE X b tb) (hs : PlainIx b := by intro _ _; rfl) (hK : X.K = K := by rfl) : PE X (.Subscript a b pos) (tOp (mIx K) ta tb) := hK ▸ pe_ixM ha hb hs
theorem kLen (hK : X.K = K := by rfl) : CallR X (.builtin "len") (mLen K) := hK ▸ cm_len
theorem kTuple (hK : X.K = K := by rfl) : CallR X (.type "tuple") (mTuple K) := hK ▸ cm_tuple
theorem kList (hK : X.K = K := by rfl) : CallR X (.type "list") (mList K) := hK ▸ cm_list
theorem kIsi (hK : X.K = K := by rfl) : CallR X (.builtin "isinstance") (mIsi K) := hK ▸ cm_isi
theorem kSeq (hl : PE X l tl) (hK : X.K = K := by rfl) : PI X tg l (iSeq K tl) := hK ▸ pi_seq hl
theorem kTup {es : List Expr} {k : Nat} {t : TGs} {n : Nat} (hc : X.calm = true) (h : PGs X es t)
    (hn : (assignEach es X.env).length = n := by rfl) (hst : (assignEach es X.env).findIdx? (·.1) = none := by rfl) (hK : X.K = K := by rfl) : PG X (.Tuple es k pos) (gTup K n t) := hK ▸ pg_tup hc h hn hst
end
end L2
set_option Elab.async false
set_option linter.all false
set_option maxRecDepth 100000
set_option maxHeartbeats 4000000
namespace L2
open PySem PySem.Spec PyProof.Rows
section
variable {X : Cx}
end
end L2
set_option Elab.async false
set_option linter.all false
set_option maxRecDepth 100000
set_option maxHeartbeats 4000000
namespace L2
open PySem PySem.Spec PyProof.Rows
section
variable {X : Cx} {K : PySem.W.Frag} {o e : Expr} {es : List Expr} {to : TE} {t : TA} {apos cpos : Pos}
def mAppend : V → List V → Hp → VK → Prop := fun x vs H Q => match x, vs with
  | .ref l, [y] => ∃ xs, H l = some (.lst xs) ∧ xs.length < sizeLine ∧ Q .non (upd H l (.lst (xs ++ [y])))
  | _, _ => False
theorem mm_append : MtR X "list.append" mAppend := by
  intro pins s σ H x vs v us Q I rx rv q
  match x, vs, q with
  | .ref l, [y], ⟨xs, h1, h2, q⟩ => exact mt_append pins s σ H _ _ v us Q I rx rv ⟨l, xs, y, rfl, rfl, h1, h2, q⟩
theorem kAppend (ho : PE X o to) (ha : PA X [e] t) (hbase : attributeBase o "append" X.env (eval o X.env) = eval o X.env := by rfl)
    (hfew : ((backTo cpos (starEach [e] X.env)).all (fun x => !x.1) && (backToKw cpos (keywordEach [] X.env)).all (fun x => x.1.isSome)
      && decide ([e].length + ([] : List Keyword).length + (if ([] : List Keyword).isEmpty then 0 else 1) < 30)) = true := by rfl)
    (hline : (apos.endLine == cpos.line) = true := by rfl) (hs : starEach [e] X.env = (false, eval e X.env) :: starEach [] X.env := by rfl) (hplain : (backTo cpos (starEach [] X.env)).any (·.1) = false := by rfl) (hK : X.K = K := by rfl) :
    PE X (.Call (.Attribute o "append" apos) [e] [] cpos) (tBM K "list" mAppend to t) := hK ▸ pe_bm PySem.F.plainAttrs_list PySem.F.slot_list_append PySem.F.type_list_append mm_append ho ha hbase hfew hline hs hplain
theorem em_bm {T : String} {r : V → List V → Hp → VK → Prop} (h1 : EMono to) (h2 : AMono t) (h3 : BMono r) : EMono (tBM K T r to t) := fun σ H Q Q' h q => h1 _ _ _ _ (fun _ _ q => ⟨q.1, h2 _ _ _ _ (fun _ _ q => h3 _ _ _ _ _ h q) q.2⟩) q
theorem bm_append : BMono mAppend := fun x xs H Q Q' h q => by
  unfold mAppend at *
  split at q
  · obtain ⟨ys, a, b, q⟩ := q; exact ⟨ys, a, b, h _ _ q⟩
  · exact q.elim
def mSum (K : PySem.W.Frag) : List V → Hp → VK → Prop := fun xs H Q => match xs with
  | [.ref l] => ∃ ns : List Int, SqL K H l (ns.map V.int) ∧ Q (.int ns.sum) H
  | _ => False
theorem cm_sum (hc : X.calm = true) : CallR X (.builtin "sum") (mSum X.K) := by
  intro pins s σ H xs us Q I r q
  match xs, q with
  | [.ref l], ⟨ns, hl, q⟩ =>
  obtain ⟨u, rfl, ru⟩ := vals1 r
  cases ru
  obtain ⟨its, rv, pl, hz⟩ := I.list hl
  have hi : IntsAre its ns := by simpa using intsAre_of rv
  obtain ⟨zs, hzs⟩ := (hi.allInts).items
  have e : (numsOf its).sum = ns.sum := by rw [hi.numsOf]
  have pl' := pl.isList
  rw [hzs] at pl'
  refine sum_intListG (I.ok.hd hc) pl' fun h' tk t' hk => ?_
  refine ⟨.int _, H, I.kept hk, ⟨t', rfl⟩, ?_⟩
  have e2 : preSum (numAt zs) zs.size = ns.sum := by
    rw [preSum_eq, List.take_of_length_le (by simp), ← e]
    rw [show its = its.toArray.toList by simp, hzs, nums_intItems]
  rw [e2]
  exact q
theorem kSum (hc : X.calm = true) (hK : X.K = K := by rfl) : CallR X (.builtin "sum") (mSum K) := hK ▸ cm_sum hc
end
end L2
set_option Elab.async false
set_option linter.all false
set_option maxRecDepth 100000
set_option maxHeartbeats 4000000
namespace L2
open PySem PySem.Spec PyProof.Rows
section
variable {prog : Program} {w : World} {A : Around} {E : Value → Shared → Prop} {s : Shared}
theorem draw_list {it t : Addr} {items : Array Value} (hne : t ≠ it) : ∀ (n i : Nat) (s : Shared) (Q : List Value → Shared → Prop), s.heap.IsListIter it t i → s.heap.IsList t items → i + n ≤ items.size →
    (∀ h', h'.IsListIter it t (i + n) → Heap.SameBut it s.heap h' → Q ((items.toList.drop i).take n) { s with heap := h' }) → wpAny (model prog w) A (draw (.ref it) n) Q E s
  | 0, i, s, Q, hit, _, _, hQ => by
    show wpAny _ _ (pure []) Q E s
    exact wpAny_pure (by simpa using hQ s.heap hit (Heap.SameBut.refl ..))
  | n + 1, i, s, Q, hit, ht, hle, hQ => by
    have hlt : i < items.size := by omega
    show wpAny _ _ (pyNext (.ref it) >>= _) Q E s
    refine wpAny_bind (wpAny_pyNext_list_item hit ht (x := items[i]) (by simp [hlt]) fun h₁ hit₁ hs₁ => ?_)
    refine wpAny_bind (wpAny_holding (draw_list hne n (i + 1) _ _ hit₁ (ht.extBut hs₁.extBut hne) (by omega) fun h₂ hit₂ hs₂ => wpAny_pure ?_))
    have hd : items.toList.drop i = items[i] :: items.toList.drop (i + 1) := by simp [List.drop_eq_getElem_cons, hlt]
    have := hQ h₂ (by rw [show i + (n + 1) = i + 1 + n by omega]; exact hit₂) (hs₁.trans hs₂)
    rw [hd, List.take_succ_cons] at this
    exact this
theorem unpackItems_list {t : Addr} {items : Array Value} {Q : List Value → Shared → Prop} (hh : A.handled = none) (ht : s.heap.IsList t items)
    (hQ : ∀ h', Heap.ExtBut s.heap.objs.size s.heap h' → Q items.toList { s with heap := h' }) : wpAny (model prog w) A (unpackItems (.ref t) items.size none) Q E s := by
  have hlt : t ≠ s.heap.objs.size := by obtain ⟨o, ho, _⟩ := ht; exact Nat.ne_of_lt (Heap.lt_size ho)
  unfold unpackItems
  refine wpAny_bind ?_
  · unfold notIterableAtAll
    refine wpAny_bind (wpAny_specialOf ht.typeIs slot_list_iter.lookup ?_)
    refine wpAny_pure ?_
    simp only [Bool.false_eq_true, if_false]
    refine wpAny_bind (wpAny_holding (wpAny_pyIter_list ht ?_))
    refine wpAny_bind (wpAny_holding (draw_list hlt items.size 0 _ _ ⟨_, Heap.get?_push_size _ rfl, rfl, rfl⟩ (ht.at fun o e => Heap.get?_push_of_some _ e) (by omega) fun h₁ hit₁ hs₁ => ?_))
    have hall : List.take items.size (List.drop 0 items.toList) = items.toList := by
      rw [List.drop_zero]; exact List.take_of_length_le (by simp)
    rw [hall]
    rw [if_neg (by simp)]
    have ht₁ : h₁.IsList t items := (Heap.IsList.at ht fun o e => Heap.get?_push_of_some _ e).extBut hs₁.extBut hlt
    refine wpAny_bind (wpAny_holding (wpAny_pyNext_list_end hh hit₁ ht₁ (by simp) fun h₂ he₂ => ?_))
    simp only [Option.isSome_none, Bool.false_eq_true, if_false]
    refine wpAny_pure (hQ h₂ fun b o hb e => he₂ b o hb (hs₁.extBut b o hb (Heap.get?_push_of_some _ e)))
theorem assign_Tuple_list {env : Env} {elts : List Expr} {x1} {pos : Pos} {t : Addr} {items : Array Value} {Q : Unit → Shared → Prop} (hh : A.handled = none) (ht : s.heap.IsList t items)
    (hn : (assignEach elts env).length = items.size) (hstar : (assignEach elts env).findIdx? (·.1) = none)
    (h : ∀ h', Heap.ExtBut s.heap.objs.size s.heap h' → wpAny (model prog w) A (assignInOrder ((assignEach elts env).map (·.2)) items.toList) Q E { s with heap := h' }) :
    wpAny (model prog w) A (assign (.Tuple elts x1 pos) env (.ref t)) Q E s := by
  rw [assign_Tuple]
  refine wpAny_bind (wpAny_standAt ?_)
  unfold unpack
  rw [hn, hstar]
  exact wpAny_bind (wpAny_holding (unpackItems_list hh ht h))
end
section
variable {X : Cx} {K : PySem.W.Frag} {pos p2 : Pos} {e : Expr} {lo hi : Option Expr} {te : TE} {tl th : TO}
def gSeqs (K : PySem.W.Frag) (n : Nat) (t : TGs) : TG := fun v σ H Q => match v with
  | .ref a => ∃ xs, SqA K H a xs ∧ xs.length = n ∧ t xs σ H Q
  | _ => False
theorem kTupA {es : List Expr} {k : Nat} {t : TGs} {n : Nat} (hc : X.calm = true) (h : PGs X es t)
    (hn : (assignEach es X.env).length = n := by rfl) (hst : (assignEach es X.env).findIdx? (·.1) = none := by rfl) (hK : X.K = K := by rfl) : PG X (.Tuple es k pos) (gSeqs K n t) := by
  subst hK
  intro pins s σ H v u Q I r hw
  cases v with
  | ref a =>
    obtain ⟨xs, hq | hq, hl, hw⟩ := hw
    · cases r
      obtain ⟨its, rv, ht, hz⟩ := I.list hq
      refine assign_Tuple_list (I.ok.hd hc) ht.isList (by simp [hn, ← hl, rv.length]) hst fun h' hx => ?_
      have I1 : Inv X pins σ H { s with heap := h' } := I.kept (t' := s.toks) fun b o e => hx b o (Nat.ne_of_lt (Heap.lt_size e)) e
      exact h pins _ σ H xs _ Q I1 (by simpa using rv) hw
    · exact pg_tup hc h hn hst pins s σ H _ u Q I r ⟨a, xs, rfl, hq, hl, hw⟩
  | _ => exact False.elim hw
theorem gm_seqs {n : Nat} {t : TGs} (h : GsMono t) : GMono (gSeqs K n t) := fun v _ _ _ _ k q => by
  cases v <;> first | exact False.elim q | (obtain ⟨xs, s, l, q⟩ := q; exact ⟨xs, s, l, h _ _ _ _ _ k q⟩)
def OMono (t : TO) : Prop := ∀ σ H (Q Q' : Option Int → Hp → Prop), (∀ b H, Q b H → Q' b H) → t σ H Q → t σ H Q'
theorem om_none : OMono tNoPart := fun _ _ _ _ h q => h _ _ q
theorem om_some (h : EMono te) : OMono (tPart te) := fun σ H Q Q' k q => h _ _ _ _ (fun _ _ ⟨i, e, q⟩ => ⟨i, e, k _ _ q⟩) q
end
theorem sqT_same {K : PySem.W.Frag} {H H' : Hp} {a : Addr} {xs : List V} (h : SqT K H a xs) (s : Same H H') : SqT K H' a xs := sqT_stay h fun o e => s a o e
mutual
theorem Rep.same {K : PySem.W.Frag} {H H' : Hp} (s : Same H H') : ∀ (d : Dv) (v : V), Rep K H d v → Rep K H' d v
  | .non, v, h => by unfold Rep at *; exact h
  | .bl b, v, h => by unfold Rep at *; exact h
  | .int i, v, h => by unfold Rep at *; exact h
  | .str x, v, h => by unfold Rep at *; exact h
  | .tup ds, v, h => by
    unfold Rep at *
    obtain ⟨a, xs, e, h1, h2⟩ := h
    exact ⟨a, xs, e, sqT_same h1 s, Reps.same s ds xs h2⟩
  | .lst ds, v, h => by
    unfold Rep at *
    obtain ⟨a, xs, e, h1, h2⟩ := h
    exact ⟨a, xs, e, sqL_stay h1 fun o e => s a o e, Reps.same s ds xs h2⟩
theorem Reps.same {K : PySem.W.Frag} {H H' : Hp} (s : Same H H') : ∀ (ds : List Dv) (xs : List V), Reps K H ds xs → Reps K H' ds xs
  | [], xs, h => by unfold Reps at *; exact h
  | d :: ds, xs, h => by
    unfold Reps at *
    obtain ⟨x, r, e, h1, h2⟩ := h
    exact ⟨x, r, e, Rep.same s d x h1, Reps.same s ds r h2⟩
end
mutual
def tupOnly : Dv → Bool
  | .tup ds => tupsOnly ds
  | .lst _ => false
  | _ => true
def tupsOnly : List Dv → Bool
  | [] => true
  | d :: ds => tupOnly d && tupsOnly ds
end
mutual
theorem Rep.frm {K : PySem.W.Frag} {H H' : Hp} {t : Addr} (s : Frm t H H') (ht : ∃ zs, H t = some (.lst zs)) : ∀ (d : Dv) (v : V), tupOnly d = true → Rep K H d v → Rep K H' d v
  | .non, v, _, h => by unfold Rep at *; exact h
  | .bl b, v, _, h => by unfold Rep at *; exact h
  | .int i, v, _, h => by unfold Rep at *; exact h
  | .str x, v, _, h => by unfold Rep at *; exact h
  | .tup ds, v, hd, h => by
    unfold tupOnly at hd
    unfold Rep at *
    obtain ⟨a, xs, e, h1, h2⟩ := h
    refine ⟨a, xs, e, ?_, Reps.frm s ht ds xs hd h2⟩
    obtain ⟨zs, hz⟩ := ht
    rcases h1 with (h1 | ⟨o, h1⟩) | h1
    · exact .inl (.inl (s a _ (fun q => by rw [q, hz] at h1; cases h1) h1))
    · exact .inl (.inr ⟨o, s a _ (fun q => by rw [q, hz] at h1; cases h1) h1⟩)
    · exact .inr h1
  | .lst ds, v, hd, h => by unfold tupOnly at hd; cases hd
theorem Reps.frm {K : PySem.W.Frag} {H H' : Hp} {t : Addr} (s : Frm t H H') (ht : ∃ zs, H t = some (.lst zs)) : ∀ (ds : List Dv) (xs : List V), tupsOnly ds = true → Reps K H ds xs → Reps K H' ds xs
  | [], xs, _, h => by unfold Reps at *; exact h
  | d :: ds, xs, hd, h => by
    unfold tupsOnly at hd
    rw [Bool.and_eq_true] at hd
    unfold Reps at *
    obtain ⟨x, r, e, h1, h2⟩ := h
    exact ⟨x, r, e, Rep.frm s ht d x hd.1 h1, Reps.frm s ht ds r hd.2 h2⟩
end
theorem Tape.lst {K : PySem.W.Frag} {H : Hp} {t a : Addr} {ns : List Int} (T : Tape K H t a ns) : ∃ zs, H t = some (.lst zs) := by
  obtain ⟨i, r, c, _, _, h⟩ := T.at_
  exact ⟨_, h⟩
theorem rep_tup1 {K : PySem.W.Frag} {H : Hp} {p : Addr} {xs : List V} {ds : List Dv} (h : H p = some (.tup xs)) (r : Reps K H ds xs) : Rep K H (.tup ds) (.ref p) := by unfold Rep; exact ⟨p, xs, rfl, .of h, r⟩
theorem reps_nil {K : PySem.W.Frag} {H : Hp} : Reps K H [] [] := by unfold Reps; rfl
theorem reps_cons {K : PySem.W.Frag} {H : Hp} {d : Dv} {ds : List Dv} {x : V} {xs : List V} (h : Rep K H d x) (r : Reps K H ds xs) : Reps K H (d :: ds) (x :: xs) := by unfold Reps; exact ⟨x, xs, rfl, h, r⟩
theorem rep_str {K : PySem.W.Frag} {H : Hp} {x : Str} : Rep K H (.str x) (.str x) := by unfold Rep; rfl
theorem rep_int {K : PySem.W.Frag} {H : Hp} {x : Int} : Rep K H (.int x) (.int x) := by unfold Rep; rfl
theorem rep_bl {K : PySem.W.Frag} {H : Hp} {x : Bool} : Rep K H (.bl x) (.bl x) := by unfold Rep; rfl
theorem Reps.append {K : PySem.W.Frag} {H : Hp} : ∀ {ds es : List Dv} {xs ys : List V}, Reps K H ds xs → Reps K H es ys → Reps K H (ds ++ es) (xs ++ ys)
  | [], es, xs, ys, h, h' => by unfold Reps at h; subst h; exact h'
  | d :: ds, es, xs, ys, h, h' => by
    unfold Reps at h
    obtain ⟨x, r, rfl, h1, h2⟩ := h
    exact reps_cons h1 (Reps.append h2 h')
end L2
namespace L2
open PySem PySem.Spec PyProof.Rows
section
variable {κ : Type} [DecidableEq κ]
def valV (kvs : List (κ × V)) (k : κ) : Option V := (kvs.find? fun kv => decide (kv.1 = k)).map (·.2)
def putK (kvs : List (κ × V)) (k : κ) (v : V) : List (κ × V) :=
  if (kvs.any fun kv => decide (kv.1 = k)) = true then kvs.map (fun kv => if kv.1 = k then (kv.1, v) else kv) else kvs ++ [(k, v)]
theorem valV_pos {p : κ × V} {r : List (κ × V)} {k : κ} (e : p.1 = k) : valV (p :: r) k = some p.2 := by simp [valV, List.find?_cons, e]
theorem valV_neg {p : κ × V} {r : List (κ × V)} {k : κ} (e : ¬ p.1 = k) : valV (p :: r) k = valV r k := by simp [valV, List.find?_cons, e]
theorem RelO.getD {o : Option V} {u : Option Value} {d : V} {d' : Value} (r : RelO o u) (rd : RelV d d') : RelV (o.getD d) (u.getD d') := by
  cases o with
  | none => cases u with
    | none => exact rd
    | some _ => exact (show False from r).elim
  | some _ => cases u with
    | none => exact (show False from r).elim
    | some _ => exact r
theorem KV.val {kvs : List (κ × V)} {vs : List (κ × Value)} (r : KV kvs vs) (k : κ) : RelO (valV kvs k) (valueAt vs k) := by
  unfold KV at r
  induction r with
  | nil => exact True.intro
  | @cons p q ps qs h t ih =>
    obtain ⟨h1, h2⟩ := h
    by_cases e : p.1 = k
    · have e' : q.1 = k := h1.symm.trans e
      have b : valueAt (q :: qs) k = some q.2 := by simp [valueAt, List.find?_cons, e']
      rw [valV_pos e, b]; exact h2
    · have e' : ¬ q.1 = k := fun z => e (h1.trans z)
      have b : valueAt (q :: qs) k = valueAt qs k := by simp [valueAt, List.find?_cons, e']
      rw [valV_neg e, b]; exact ih
theorem KV.any {kvs : List (κ × V)} {vs : List (κ × Value)} (r : KV kvs vs) (k : κ) : (kvs.any fun kv => decide (kv.1 = k)) = vs.any fun kv => decide (kv.1 = k) := by
  unfold KV at r
  induction r with
  | nil => rfl
  | cons h t ih => rw [List.any_cons, List.any_cons, ih, h.1]
theorem KV.length {kvs : List (κ × V)} {vs : List (κ × Value)} (r : KV kvs vs) : kvs.length = vs.length := Paired.length r
end
theorem kV_is {P : Program} {w : World} {k : Key} {u : Value} (r : RelV (kV k) u) : (mixKind P w).is k u = true := by
  cases k with
  | inl i => obtain ⟨t, e⟩ := (show ∃ t, u = Value.int i t from r); subst e; exact mixKind_int P w i t
  | inr x => obtain ⟨t, e⟩ := (show ∃ t, u = Value.str x t from r); subst e; exact mixKind_str P w x t
theorem items_are {P : Program} {w : World} : ∀ {ks : List Key} {us : List Value}, Vals (ks.map kV) us → ItemsAre (mixKind P w) ks us
  | [], _, r => by rw [List.map_nil] at r; cases r; exact .nil
  | k :: ks, _, r => by
    rw [List.map_cons] at r
    cases r with
    | cons h t => exact .cons (kV_is h) (items_are t)
abbrev KT (H : Hp) : List (List Key × V) → List (List Key × Addr × Value) → Prop := Paired fun p q => p.1 = q.1 ∧ H q.2.1 = some (.tup (p.1.map kV)) ∧ RelV p.2 q.2.2
theorem KT.val {H : Hp} {kvs : List (List Key × V)} {xs : List (List Key × Addr × Value)} (r : KT H kvs xs) (k : List Key) : RelO (valV kvs k) ((atKey xs k).map (·.2)) := by
  induction r with
  | nil => exact True.intro
  | @cons p q ps qs h t ih =>
    obtain ⟨h1, _, h2⟩ := h
    by_cases e : p.1 = k
    · have e' : q.1 = k := h1.symm.trans e
      have b : atKey (q :: qs) k = some q.2 := by simp [atKey, List.find?_cons, e']
      rw [valV_pos e, b]; exact h2
    · have e' : ¬ q.1 = k := fun z => e (h1.trans z)
      have b : atKey (q :: qs) k = atKey qs k := by simp [atKey, List.find?_cons, e']
      rw [valV_neg e, b]; exact ih
section
variable {P : Program} {w : World} {H : Hp} {h : Heap} {a : Addr}
theorem rd_of {u : HO} (ok : HOk P w H h) (e : Rd H a u) : ObjOk P w H h a u := e.ok ok
theorem dk_rd {kvs : List (Key × V)} (ok : HOk P w H h) (e : Rd H a (.dK kvs)) : kvs.length ≤ sizeLine ∧ (a == sysModules) = false ∧ ∃ vs, KV kvs vs ∧ h.DictOf (mixKind P w) a vs :=
  show ObjOk P w H h a (.dK kvs) from rd_of ok e
theorem key_of {ks : List Key} (ok : HOk P w H h) (e : H a = some (.tup (ks.map kV))) : (tupleKind (mixKind P w)).is h ks a := by
  obtain ⟨_, its, r, o, h1, h2, ⟨n, h3⟩, _⟩ := (show ObjOk P w H h a (.tup (ks.map kV)) from ok a _ e)
  exact ⟨o, its.toArray, n, h1, h2, h3, by simpa using items_are r⟩
theorem dt_rd {kvs : List (List Key × V)} (ok : HOk P w H h) (e : Rd H a (.dT kvs)) : kvs.length ≤ sizeLine ∧ (a == sysModules) = false ∧
    ∃ xs, KT H kvs xs ∧ h.DictOfH (tupleKind (mixKind P w)) a xs := by
  obtain ⟨z, y, xs, r, o, es, ep, h1, h2, h3, h4, h5⟩ := (show ObjOk P w H h a (.dT kvs) from rd_of ok e)
  refine ⟨z, y, xs, r, o, es, ep, h1, h2, h3, h4, fun x hx => ?_, h5⟩
  have all : ∀ {l : List (List Key × V)} {m : List (List Key × Addr × Value)}, KT H l m → ∀ x ∈ m, (tupleKind (mixKind P w)).is h x.1 x.2.1 := by
    intro l m q
    induction q with
    | nil => intro x hx; exact nomatch hx
    | @cons p q ps qs hq t ih =>
      intro x hx
      rcases List.mem_cons.mp hx with e | hx
      · subst e
        exact key_of ok (by rw [← hq.1]; exact hq.2.1)
      · exact ih x hx
  exact all r x hx
end
def DGet (H : Hp) (a : Addr) (y : V) (r : Option V) : Prop :=
  (∃ kvs k, Rd H a (.dK kvs) ∧ y = kV k ∧ r = valV kvs k) ∨ ∃ kvs k b, Rd H a (.dT kvs) ∧ y = .ref b ∧ H b = some (.tup (k.map kV)) ∧ r = valV kvs k
def DPut (H : Hp) (a : Addr) (y v : V) (H' : Hp) : Prop :=
  (∃ kvs k, H a = some (.dK kvs) ∧ y = kV k ∧ kvs.length < sizeLine ∧ H' = upd H a (.dK (putK kvs k v))) ∨
  ∃ kvs k b, H a = some (.dT kvs) ∧ y = .ref b ∧ H b = some (.tup (k.map kV)) ∧ kvs.length < sizeLine ∧ H' = upd H a (.dT (putK kvs k v))
theorem DGet.k {H : Hp} {a : Addr} {kvs : List (Key × V)} {k : Key} (e : H a = some (.dK kvs)) : DGet H a (kV k) (valV kvs k) := .inl ⟨kvs, k, .inl e, rfl, rfl⟩
theorem DGet.t {H : Hp} {a b : Addr} {kvs : List (List Key × V)} {k : List Key} (e : H a = some (.dT kvs)) (eb : H b = some (.tup (k.map kV))) : DGet H a (.ref b) (valV kvs k) := .inr ⟨kvs, k, b, .inl e, rfl, eb, rfl⟩
theorem DPut.k {H : Hp} {a : Addr} {kvs : List (Key × V)} {k : Key} {v : V} (e : H a = some (.dK kvs)) (hl : kvs.length < sizeLine) : DPut H a (kV k) v (upd H a (.dK (putK kvs k v))) := .inl ⟨kvs, k, e, rfl, hl, rfl⟩
theorem DPut.t {H : Hp} {a b : Addr} {kvs : List (List Key × V)} {k : List Key} {v : V} (e : H a = some (.dT kvs)) (eb : H b = some (.tup (k.map kV))) (hl : kvs.length < sizeLine) :
    DPut H a (.ref b) v (upd H a (.dT (putK kvs k v))) := .inr ⟨kvs, k, b, e, rfl, eb, hl, rfl⟩
section
variable {X : Cx} {pins : List (Addr × Obj)} {σ : St} {H : Hp} {s : Shared} {a : Addr} {y v : V} {u r : Value} {o : Option V} {A : Around} {E : Value → Shared → Prop}
theorem Inv.big (I : Inv X pins σ H s) : sysModules < s.heap.objs.size := by
  have h : mainGlobals < s.heap.objs.size := (I.mod.glob.keeps I.bk).lt
  exact Nat.lt_trans (by decide) h
end
section
variable {X : Cx} {pins : List (Addr × Obj)} {σ : St} {H : Hp} {s : Shared} {a : Addr} {kvs : List (Key × V)} {k : Key} {u : Value} {A : Around} {E : Value → Shared → Prop}
end
section
variable {X : Cx} {o i e value : Expr} {pos pos' tpos : Pos} {td ty tv : TE}
end
theorem dk_empty {P : Program} {w : World} {H : Hp} (h : Heap) (hb : sysModules < h.objs.size) : ObjOk P w H (h.push { cls := .type "dict", data := .dict #[] }) h.objs.size (.dK []) :=
  ⟨Nat.zero_le _, beq_eq_false_iff_ne.mpr (Ne.symm (Nat.ne_of_lt hb)), [], .nil, Heap.DictOf.new h⟩
def tDNewK : TE := fun _ H Q => ∀ p, H p = none → Q (.ref p) (upd H p (.dK []))
section
variable {X : Cx} {pos : Pos}
theorem pe_dnewK : PE X (.Dict [] [] pos) tDNewK := fun pins s σ H Q I h =>
  wpAny_Dict_empty ⟨.ref s.heap.objs.size, _, I.laid (a := s.heap.objs.size) (o := .dK []) (t' := s.toks) (fun _ _ q => Heap.get?_push_of_some _ q) (Nat.le_refl _) (dk_empty s.heap I.big), rfl, h _ (I.hok.fresh (Nat.le_refl _))⟩
end
structure M1 (X : Cx) (o : Expr) (m : Str) (apos : Pos) (e : Expr) (cpos : Pos) : Prop where
  base : attributeBase o m X.env (eval o X.env) = eval o X.env
  few : ((backTo cpos (starEach [e] X.env)).all (fun x => !x.1) && (backToKw cpos (keywordEach [] X.env)).all (fun x => x.1.isSome)
    && decide (([e] : List Expr).length + ([] : List Keyword).length + (if ([] : List Keyword).isEmpty then 0 else 1) < 30)) = true
  line : (apos.endLine == cpos.line) = true
  trees : backTo cpos (starEach [e] X.env) = [(false, eval e X.env)]
structure M2 (X : Cx) (o : Expr) (m : Str) (apos : Pos) (e f : Expr) (cpos : Pos) : Prop where
  base : attributeBase o m X.env (eval o X.env) = eval o X.env
  few : ((backTo cpos (starEach [e, f] X.env)).all (fun x => !x.1) && (backToKw cpos (keywordEach [] X.env)).all (fun x => x.1.isSome)
    && decide (([e, f] : List Expr).length + ([] : List Keyword).length + (if ([] : List Keyword).isEmpty then 0 else 1) < 30)) = true
  line : (apos.endLine == cpos.line) = true
  trees : backTo cpos (starEach [e, f] X.env) = [(false, eval e X.env), (false, eval f X.env)]
def IsD (H : Hp) (a : Addr) : Prop := (∃ kvs, Rd H a (.dK kvs)) ∨ ∃ kvs, Rd H a (.dT kvs)
theorem isD_at {X : Cx} {pins : List (Addr × Obj)} {σ : St} {H : Hp} {s : Shared} {a : Addr} (I : Inv X pins σ H s) (d : IsD H a) :
    s.TypeIs (.ref a) "dict" ∧ (∀ b, Value.ref a = .ref b → ∃ ob, s.heap.get? b = some ob ∧ ob.dict = none) ∧ (a == sysModules) = false := by
  rcases d with ⟨kvs, e⟩ | ⟨kvs, e⟩
  · obtain ⟨_, hd, vs, _, dd⟩ := dk_rd I.hok e
    refine ⟨dd.typeIs, fun b q => ?_, hd⟩
    cases q
    obtain ⟨ob, _, _, h1, h2, _⟩ := dd
    exact ⟨ob, h1, h2.2.1⟩
  · obtain ⟨_, hd, xs, _, dd⟩ := dt_rd I.hok e
    refine ⟨dd.typeIs, fun b q => ?_, hd⟩
    cases q
    obtain ⟨ob, _, _, h1, h2, _⟩ := dd
    exact ⟨ob, h1, h2.2.1⟩
section
variable {X : Cx} {pins : List (Addr × Obj)} {σ : St} {H : Hp} {s : Shared} {a : Addr} {y d : V} {u r : Value} {o : Option V} {A : Around} {E : Value → Shared → Prop}
theorem d_get2 {Q : Value → Shared → Prop} (hu : A.units + 1 < cLine) (I : Inv X pins σ H s) (g : DGet H a y o) (ry : RelV y u) (rd : RelV d r) (h : ∀ w' s', Inv X pins σ H s' → RelV (o.getD d) w' → Q w' s') :
    wpAny (model X.prog X.w) A (call (.builtin "dict.get") [.ref a, u, r]) Q E s := by
  rcases g with ⟨kvs, k, e, ey, l⟩ | ⟨kvs, k, b, e, ey, eb, l⟩
  · subst ey
    obtain ⟨z, hd, vs, rel, dd⟩ := dk_rd I.hok e
    refine call_meetsIn PySem.F.slot_dict_get dd.typeIs PySem.F.entry_dict_get (PySem.F.args_dict_get_3 _ _ _) (meets_dict_get_default (mixKind X.prog X.w) a (kV_is ry) hd r) ⟨_, dd.mapOf, h _ _ (I.tok _) ?_⟩
    rw [l]
    exact (rel.val k).getD rd
  · subst ey
    cases (show u = Value.ref b from ry)
    obtain ⟨z, hd, xs, rel, dd⟩ := dt_rd I.hok e
    refine call_meetsIn PySem.F.slot_dict_get dd.typeIs PySem.F.entry_dict_get (PySem.F.args_dict_get_3 _ _ _) (meetsH_dict_get_default (tupleKind (mixKind X.prog X.w)) a b hd r) ⟨tupleKind_room_in1 hu, k, xs, key_of I.hok eb, dd, h _ _ (I.tok _) ?_⟩
    rw [l]
    exact (rel.val k).getD rd
end
def tDGet2 (td ty tx : TE) : TE := fun σ H Q => td σ H fun x H1 => ∃ a, x = .ref a ∧ IsD H1 a ∧ ty σ H1 fun y H2 => tx σ H2 fun z H3 => ∃ o, DGet H3 a y o ∧ Q (o.getD z) H3
section
variable {X : Cx} {o e f : Expr} {apos cpos : Pos} {td ty tx : TE}
theorem pe_dget2 (hu : X.A.units + 1 < cLine) (ho : PE X o td) (he : PE X e ty) (hf : PE X f tx) (m : M2 X o "get" apos e f cpos) : PE X (.Call (.Attribute o "get" apos) [e, f] [] cpos) (tDGet2 td ty tx) := by
  intro pins s σ H Q I h
  refine wpAny_Call_method m.base m.few m.line PySem.F.plainAttrs_dict PySem.F.slot_dict_get PySem.F.type_dict_get (thn (ho pins s σ H _ I h) fun u s1 ⟨x, H1, I1, rx, a, ex, d, q1⟩ => ?_)
  subst ex
  obtain rfl : u = Value.ref a := rx
  obtain ⟨t1, t2, _⟩ := isD_at I1 d
  refine ⟨t1, t2, ?_⟩
  rw [m.trees]
  refine Calls.callWith_builtin rfl (Calls.evalArgs_plain (Calls.spliced_cons (thn (he pins s1 σ H1 _ I1 q1) fun iv s2 ⟨y, H2, I2, ry, q2⟩ =>
    Calls.spliced_cons (thn (hf pins s2 σ H2 _ I2 q2) fun fv s3 ⟨z, H3, I3, rz, ov, g, q3⟩ => Calls.spliced_nil ?_))))
  exact d_get2 hu I3 g ry rz fun w' s4 I4 rw' => ⟨_, H3, I4, rw', q3⟩
end
section
variable {X : Cx} {pins : List (Addr × Obj)} {σ : St} {H : Hp} {s : Shared} {a : Addr} {kvs : List (Key × V)} {A : Around} {E : Value → Shared → Prop}
end
section
variable {X : Cx} {pins : List (Addr × Obj)} {σ : St} {H : Hp} {s : Shared} {a : Addr} {y : V} {u : Value} {A : Around} {E : Value → Shared → Prop}
end
end L2
set_option Elab.async false
set_option linter.all false
set_option maxRecDepth 100000
set_option maxHeartbeats 4000000
namespace L2
open PySem PySem.Spec PyProof.Rows
section
variable {P : Program} {w : World} {H : Hp} {h : Heap} {a : Addr}
end
section
variable {X : Cx} {o i e value : Expr} {pos pos' tpos : Pos} {td ty tv : TE}
end
section
variable {X : Cx} {P : Program} {w : World} {o i : Expr} {pos : Pos} {td ty : TE}
end
end L2
set_option Elab.async false
set_option linter.all false
set_option maxRecDepth 100000
set_option maxHeartbeats 4000000
namespace L2
open PySem PySem.Spec PyProof.Rows
section
variable {X : Cx} {K : PySem.W.Frag} {o : Expr} {to : TE} {apos cpos : Pos}
def mBitlen : V → List V → Hp → VK → Prop := fun x vs H Q => match x, vs with
  | .int i, [] => Q (.int (Builtin.Int.intBits i : Nat)) H
  | _, _ => False
theorem mm_bitlen : MtR X "int.bit_length" mBitlen := by
  intro pins s σ H x vs v us Q I rx rv q
  match x, vs, q with
  | .int i, [], q =>
    cases rv
    obtain ⟨t, rfl⟩ := (show ∃ t, v = Value.int i t from rx)
    exact PyProof.Rows.call_int_bit_length ⟨.int (Builtin.Int.intBits i : Nat), H, I.tok _, ⟨_, rfl⟩, q⟩
theorem kBitlen (ho : PE X o to) (hbase : attributeBase o "bit_length" X.env (eval o X.env) = eval o X.env := by rfl) (hline : (apos.endLine == cpos.line) = true := by rfl) (hK : X.K = K := by rfl) :
    PE X (.Call (.Attribute o "bit_length" apos) [] [] cpos) (tBM0 K "int" mBitlen to) := hK ▸ pe_bm0 PySem.F.plainAttrs_int PySem.F.slot_int_bit_length PySem.F.type_int_bit_length mm_bitlen ho hbase hline
end
theorem bm_bitlen : BMono mBitlen := fun x xs H Q Q' h q => by
  unfold mBitlen at *
  split at q
  · exact h _ _ q
  · exact q.elim
theorem em_bm0 {K : PySem.W.Frag} {T : String} {r : V → List V → Hp → VK → Prop} {to : TE} (h1 : EMono to) (h3 : BMono r) : EMono (tBM0 K T r to) := fun σ H Q Q' h q => h1 _ _ _ _ (fun _ _ q => ⟨q.1, h3 _ _ _ _ _ h q.2⟩) q
section
variable {X : Cx}
end
theorem bits_pow : ∀ m < 7, (Builtin.Int.intBits ((2 ^ m : Nat) : Int) : Nat) = m + 1 := by decide +kernel
end L2
set_option Elab.async false
set_option linter.all false
set_option maxRecDepth 100000
set_option maxHeartbeats 4000000
namespace L2
open PySem PySem.Spec PyProof.Rows
def TyS (K : PySem.W.Frag) (H : Hp) (x : V) (t : String) : Prop := match x with
  | .int _ => t = "int"
  | .bl _ => t = "bool"
  | .ref a => (t = "tuple" ∧ ∃ xs, SqT K H a xs) ∨ (t = "list" ∧ ∃ xs, SqL K H a xs)
  | _ => False
def isTy (t T : String) : Bool := t == T || (t == "bool" && T == "int")
section
variable {X : Cx} {K : PySem.W.Frag}
theorem tyS_kit {pins : List (Addr × Obj)} {σ : St} {H : Hp} {s : Shared} {x : V} {u : Value} {t : String} (I : Inv X pins σ H s) (rx : RelV x u) (h : TyS X.K H x t) :
    (t = "int" ∨ t = "bool" ∨ t = "tuple" ∨ t = "list") ∧ u ≠ Value.builtin "__main__.__loader__#opaque" ∧ ∃ Hh : Heap → Prop, PySem.W.KitX X.K u (.type t) Hh ∧ Hh s.heap := by
  cases x with
  | int i =>
    obtain ⟨k, rfl⟩ := (show ∃ t, u = Value.int i t from rx)
    cases (show t = "int" from h)
    exact ⟨.inl rfl, (fun z => nomatch z), _, PySem.W.kitx_int, True.intro⟩
  | bl b =>
    cases (show u = Value.bool b from rx)
    cases (show t = "bool" from h)
    exact ⟨.inr (.inl rfl), (fun z => nomatch z), _, PySem.W.kitx_bool, True.intro⟩
  | ref a =>
    cases (show u = Value.ref a from rx)
    rcases h with ⟨rfl, xs, hq⟩ | ⟨rfl, xs, hq⟩
    · obtain ⟨its, rv, p, _⟩ := I.tuple hq
      obtain ⟨o, h1, h2, _⟩ := p
      exact ⟨.inr (.inr (.inl rfl)), (fun z => nomatch z), _, PySem.W.kitx_tuple, ⟨o, h1, h2⟩⟩
    · obtain ⟨its, rv, p, _⟩ := I.list hq
      obtain ⟨o, n, h1, h2, _⟩ := p
      exact ⟨.inr (.inr (.inr rfl)), (fun z => nomatch z), _, PySem.W.kitx_list, ⟨o, h1, h2⟩⟩
  | _ => exact False.elim h
end
end L2
set_option Elab.async false
set_option linter.all false
set_option maxRecDepth 100000
set_option maxHeartbeats 4000000
namespace L2
open PySem PySem.Spec PyProof.Rows
section
variable {X : Cx} {pins : List (Addr × Obj)} {σ : St} {H : Hp} {s : Shared}
end
section
variable {X : Cx} {K : PySem.W.Frag}
end
end L2
set_option Elab.async false
set_option linter.all false
set_option maxRecDepth 100000
set_option maxHeartbeats 4000000
namespace L2
open PySem PySem.Spec PyProof.Rows
open AutoSeq1 (wpAny_loadPart')
section
variable {prog : Program} {w : World} {A : Around} {E : Value → Shared → Prop} {s : Shared}
end
section
variable {X : Cx}
end
structure Feed (H : Hp) (t : Addr) : Prop where
  at_ : ∃ a b k c : Int, 0 ≤ a ∧ H t = some (.lst [.int a, .int b, .int k, .int c])
theorem Feed.same {H H' : Hp} {t : Addr} (F : Feed H t) (h : Same H H') : Feed H' t := by
  obtain ⟨a, b, k, c, h1, h2⟩ := F.at_
  exact ⟨a, b, k, c, h1, h _ _ h2⟩
theorem Feed.upd {H : Hp} {t p : Addr} {o : HO} (F : Feed H t) (h : H p = none) : Feed (L2.upd H p o) t := F.same (Same.upd h)
theorem Feed.neT {H : Hp} {t p : Addr} (F : Feed H t) (hp : H p = none) : p ≠ t := fun e => by
  obtain ⟨a, b, k, c, _, h3⟩ := F.at_
  rw [e, h3] at hp; cases hp
theorem Feed.free {H H' : Hp} {t p : Addr} (F : Feed H' t) (h : Frm t H H') (hp : H' p = none) : H p = none := by
  cases e : H p with
  | none => rfl
  | some o =>
    by_cases hpt : p = t
    · subst hpt
      obtain ⟨a, b, k, c, _, h3⟩ := F.at_
      rw [h3] at hp; cases hp
    · rw [h p o hpt e] at hp; cases hp
def spDraw : Sp := fun vs H Q _ => match vs with
  | [.ref t, .int m] => Feed H t ∧ okDiv m ∧ ∀ d H', 0 ≤ d → d < m → Feed H' t → (∀ b, b ≠ t → H' b = H b) → Q (.int d) H'
  | _ => False
theorem spDraw_mono : SpMono spDraw := fun vs H Q Q' E h q => by
  unfold spDraw at *
  split at q
  · exact ⟨q.1, q.2.1, fun d H' a b c e => h _ _ (q.2.2 d H' a b c e)⟩
  · exact q.elim
def spFeed (K : PySem.W.Frag) : Sp := fun vs H Q _ => match vs with
  | [.ref a, .int k] => ∃ ns : List Int, SqL K H a (ns.map V.int) ∧ ∀ p H', H p = none → Feed H' p → (∀ b, b ≠ p → H' b = H b) → Q (.ref p) H'
  | _ => False
end L2
set_option Elab.async false
set_option linter.all false
set_option maxRecDepth 100000
set_option maxHeartbeats 4000000
namespace L2
open PySem PySem.Spec PyProof.Rows
theorem bitAnd_nat (a b : Nat) : Builtin.bitAnd (a : Int) (b : Int) = ((a &&& b : Nat) : Int) := by
  unfold Builtin.bitAnd
  rw [decide_eq_true (Int.natCast_nonneg a), decide_eq_true (Int.natCast_nonneg b)]
  rfl
end L2
set_option Elab.async false
set_option linter.all false
set_option maxRecDepth 100000
set_option maxHeartbeats 4000000
namespace L2
open PySem PySem.Spec PyProof.Rows
def iL (xs : List Nat) : List V := xs.map fun i => V.int (i : Nat)
theorem same_but {H0 H H' : Hp} {t : Addr} (s : Same H0 H) (ht : H0 t = none) (f : ∀ b, b ≠ t → H' b = H b) : Same H0 H' := fun b o e => by
  rw [f b (ne_of_none e ht)]; exact s b o e
theorem same_frm {H0 H H' : Hp} {t : Addr} (s : Same H0 H) (ht : H0 t = none) (f : Frm t H H') : Same H0 H' := fun b o e => f b o (ne_of_none e ht) (s b o e)
theorem same_put {H0 H : Hp} {t : Addr} {o : HO} (s : Same H0 H) (ht : H0 t = none) : Same H0 (upd H t o) := fun b u e => by
  rw [upd_ne (ne_of_none e ht)]; exact s b u e
theorem Same.sqT {K : PySem.W.Frag} {H H' : Hp} {a : Addr} {xs : List V} (e : Same H H') (h : SqT K H a xs) : SqT K H' a xs := sqT_stay h (fun o k => e _ _ k)
theorem Same.sqL {K : PySem.W.Frag} {H H' : Hp} {a : Addr} {xs : List V} (e : Same H H') (h : SqL K H a xs) : SqL K H' a xs := sqL_stay h (fun o k => e _ _ k)
end L2
set_option Elab.async false
set_option linter.all false
set_option maxRecDepth 100000
set_option maxHeartbeats 4000000
namespace L2
open PySem PySem.Spec PyProof.Rows
def sumTo (f : Nat → Int) : Nat → Int
  | 0 => 0
  | n + 1 => sumTo f n + f n
theorem sumTo_congr {f g : Nat → Int} : ∀ {n : Nat}, (∀ j, j < n → f j = g j) → sumTo f n = sumTo g n
  | 0, _ => rfl
  | n + 1, h => by
    show sumTo f n + f n = sumTo g n + g n
    rw [sumTo_congr fun j hj => h j (Nat.lt_succ_of_lt hj), h n (Nat.lt_succ_self n)]
theorem sumTo_add (f : Nat → Int) (a : Nat) : ∀ b, sumTo f (a + b) = sumTo f a + sumTo (fun j => f (a + j)) b
  | 0 => by show sumTo f a = sumTo f a + 0; omega
  | b + 1 => by
    show sumTo f (a + b) + f (a + b) = sumTo f a + (sumTo (fun j => f (a + j)) b + f (a + b))
    rw [sumTo_add f a b]; omega
def chi : Nat → Nat → Nat → Int
  | 0, _, _ => 1
  | n + 1, a, b => (if a % 2 = 1 ∧ b % 2 = 1 then -1 else 1) * chi n (a / 2) (b / 2)
theorem chi_one : ∀ n a b, chi n a b = 1 ∨ chi n a b = -1
  | 0, _, _ => .inl rfl
  | n + 1, a, b => by
    show _ * chi n (a / 2) (b / 2) = 1 ∨ _ * chi n (a / 2) (b / 2) = -1
    rcases chi_one n (a / 2) (b / 2) with h | h <;> rw [h] <;> by_cases g : a % 2 = 1 ∧ b % 2 = 1 <;> simp [g]
def wt (n : Nat) (v : Nat → Int) (s : Nat) : Int := sumTo (fun p => chi n s p * v p) (2 ^ n)
theorem chi_top : ∀ {s b r c j : Nat}, r < 2 ^ s → j < 2 ^ s → b < 2 → c < 2 → chi (s + 1) (b * 2 ^ s + r) (c * 2 ^ s + j) = chi s r j * (if b = 1 ∧ c = 1 then -1 else 1)
  | 0, b, r, c, j, hr, hj, hb, hc => by
    have r0 : r = 0 := by simpa using hr
    have j0 : j = 0 := by simpa using hj
    subst r0 j0
    have eb : b = 0 ∨ b = 1 := by omega
    have ec : c = 0 ∨ c = 1 := by omega
    rcases eb with rfl | rfl <;> rcases ec with rfl | rfl <;> rfl
  | s + 1, b, r, c, j, hr, hj, hb, hc => by
    have d1 : ∀ x : Nat, x * 2 ^ (s + 1) = 2 * (x * 2 ^ s) := fun x => by rw [Nat.pow_succ, Nat.mul_comm (2 ^ s), ← Nat.mul_assoc, Nat.mul_comm x 2, Nat.mul_assoc]
    have k1 : (b * 2 ^ (s + 1) + r) % 2 = r % 2 := by rw [d1]; omega
    have k2 : (c * 2 ^ (s + 1) + j) % 2 = j % 2 := by rw [d1]; omega
    have k3 : (b * 2 ^ (s + 1) + r) / 2 = b * 2 ^ s + r / 2 := by rw [d1]; omega
    have k4 : (c * 2 ^ (s + 1) + j) / 2 = c * 2 ^ s + j / 2 := by rw [d1]; omega
    have e1 : chi (s + 1 + 1) (b * 2 ^ (s + 1) + r) (c * 2 ^ (s + 1) + j) = (if r % 2 = 1 ∧ j % 2 = 1 then -1 else 1) * chi (s + 1) (b * 2 ^ s + r / 2) (c * 2 ^ s + j / 2) := by
      show (if (b * 2 ^ (s + 1) + r) % 2 = 1 ∧ (c * 2 ^ (s + 1) + j) % 2 = 1 then -1 else 1) * chi (s + 1) ((b * 2 ^ (s + 1) + r) / 2) ((c * 2 ^ (s + 1) + j) / 2) = _
      rw [k1, k2, k3, k4]
    rw [e1, chi_top (s := s) (by rw [Nat.pow_succ] at hr; omega) (by rw [Nat.pow_succ] at hj; omega) hb hc, ← Int.mul_assoc]
    rfl
def crossF (v : Nat → Int) (s k : Nat) : Int := if k / s % 2 = 1 then v (k - s) - v k else v k + v (k + s)
def hadF (v : Nat → Int) : Nat → Nat → Int
  | 0 => v
  | s + 1 => crossF (hadF v s) (2 ^ s)
def hs (v : Nat → Int) (s k : Nat) : Int := sumTo (fun j => chi s (k % 2 ^ s) j * v (k / 2 ^ s * 2 ^ s + j)) (2 ^ s)
theorem hs_at {v : Nat → Int} {s q r : Nat} (h : r < 2 ^ s) : hs v s (q * 2 ^ s + r) = sumTo (fun j => chi s r j * v (q * 2 ^ s + j)) (2 ^ s) := by
  unfold hs
  have e1 : (q * 2 ^ s + r) % 2 ^ s = r := by rw [Nat.mul_comm, Nat.mul_add_mod, Nat.mod_eq_of_lt h]
  have e2 : (q * 2 ^ s + r) / 2 ^ s = q := by rw [Nat.mul_comm, Nat.mul_add_div (Nat.two_pow_pos s), Nat.div_eq_of_lt h, Nat.add_zero]
  rw [e1, e2]
theorem had_step {v : Nat → Int} {s : Nat} (q b r : Nat) (hr : r < 2 ^ s) (hb : b < 2) :
    crossF (hs v s) (2 ^ s) (q * 2 ^ (s + 1) + (b * 2 ^ s + r)) = hs v (s + 1) (q * 2 ^ (s + 1) + (b * 2 ^ s + r)) := by
  have hB : 2 ^ (s + 1) = 2 ^ s + 2 ^ s := by rw [Nat.pow_succ]; omega
  have hrr : b * 2 ^ s + r < 2 ^ (s + 1) := by
    rw [hB]
    have : b = 0 ∨ b = 1 := by omega
    rcases this with e | e <;> subst e <;> omega
  rw [hs_at hrr, hB, sumTo_add]
  have low : ∀ j, j < 2 ^ s → chi (s + 1) (b * 2 ^ s + r) j = chi s r j := fun j hj => by
    have := chi_top (c := 0) hr hj hb (by decide)
    rw [Nat.zero_mul, Nat.zero_add, if_neg (by omega), Int.mul_one] at this
    exact this
  have high : ∀ j, j < 2 ^ s → chi (s + 1) (b * 2 ^ s + r) (2 ^ s + j) = chi s r j * (if b = 1 then -1 else 1) := fun j hj => by
    have := chi_top (c := 1) hr hj hb (by decide)
    rw [Nat.one_mul] at this
    rw [this]
    simp
  have e0 : q * (2 ^ s + 2 ^ s) + (b * 2 ^ s + r) = (2 * q + b) * 2 ^ s + r := by
    rw [Nat.add_mul, Nat.mul_comm 2 q, Nat.mul_assoc, Nat.two_mul]; omega
  have eq0 : q * (2 ^ s + 2 ^ s) = (2 * q) * 2 ^ s := by rw [Nat.mul_comm 2 q, Nat.mul_assoc, Nat.two_mul]
  have eq1 : q * (2 ^ s + 2 ^ s) + 2 ^ s = (2 * q + 1) * 2 ^ s := by rw [Nat.add_mul, Nat.one_mul, eq0]
  unfold crossF
  rw [e0]
  have et : ((2 * q + b) * 2 ^ s + r) / 2 ^ s % 2 = b := by
    rw [Nat.mul_comm, Nat.mul_add_div (Nat.two_pow_pos s), Nat.div_eq_of_lt hr]; omega
  rw [et]
  have : b = 0 ∨ b = 1 := by omega
  rcases this with e | e <;> subst e
  · rw [if_neg (by decide)]
    have ek : (2 * q + 0) * 2 ^ s + r + 2 ^ s = (2 * q + 1) * 2 ^ s + r := by rw [Nat.add_zero, Nat.add_mul, Nat.one_mul]; omega
    rw [ek, hs_at hr, hs_at hr]
    congr 1
    · refine sumTo_congr fun j hj => ?_
      rw [low j hj, eq0]; rfl
    · refine sumTo_congr fun j hj => ?_
      show chi s r j * v ((2 * q + 1) * 2 ^ s + j) = chi (s + 1) (0 * 2 ^ s + r) (2 ^ s + j) * v (q * (2 ^ s + 2 ^ s) + (2 ^ s + j))
      rw [high j hj, if_neg (by decide), Int.mul_one, ← Nat.add_assoc, eq1]
  · rw [if_pos rfl]
    have ek : (2 * q + 1) * 2 ^ s + r - 2 ^ s = (2 * q) * 2 ^ s + r := by rw [Nat.add_mul, Nat.one_mul]; omega
    rw [ek, hs_at hr, hs_at hr, Int.sub_eq_add_neg]
    congr 1
    · refine sumTo_congr fun j hj => ?_
      rw [low j hj, eq0]
    · have neg : ∀ (f : Nat → Int) n, - sumTo f n = sumTo (fun j => - f j) n := fun f n => by
        induction n with
        | zero => rfl
        | succ n ih => show -(sumTo f n + f n) = sumTo (fun j => - f j) n + - f n; rw [← ih]; omega
      rw [neg]
      refine sumTo_congr fun j hj => ?_
      show -(chi s r j * v ((2 * q + 1) * 2 ^ s + j)) = chi (s + 1) (1 * 2 ^ s + r) (2 ^ s + j) * v (q * (2 ^ s + 2 ^ s) + (2 ^ s + j))
      rw [high j hj, if_pos rfl, ← Nat.add_assoc, eq1, Int.mul_neg, Int.mul_one, Int.neg_mul]
theorem split_k (s k : Nat) : ∃ q b r, k = q * 2 ^ (s + 1) + (b * 2 ^ s + r) ∧ r < 2 ^ s ∧ b < 2 := by
  refine ⟨k / 2 ^ s / 2, k / 2 ^ s % 2, k % 2 ^ s, ?_, Nat.mod_lt _ (Nat.two_pow_pos s), Nat.mod_lt _ (by decide)⟩
  have h1 := Nat.div_add_mod k (2 ^ s)
  have h2 := Nat.div_add_mod (k / 2 ^ s) 2
  rw [Nat.pow_succ]
  generalize k % 2 ^ s = r at *
  generalize hd : k / 2 ^ s = d at *
  rw [← Nat.add_assoc, Nat.mul_comm (2 ^ s) 2, ← Nat.mul_assoc, ← Nat.add_mul, Nat.mul_comm (d / 2) 2, h2, Nat.mul_comm]
  exact h1.symm
theorem had_all (v : Nat → Int) : ∀ s k, hadF v s k = hs v s k
  | 0, k => by
    show v k = sumTo (fun j => chi 0 (k % 2 ^ 0) j * v (k / 2 ^ 0 * 2 ^ 0 + j)) 1
    show v k = 0 + chi 0 (k % 2 ^ 0) 0 * v (k / 2 ^ 0 * 2 ^ 0 + 0)
    have : chi 0 (k % 2 ^ 0) 0 = 1 := rfl
    rw [this, Int.one_mul, Int.zero_add]
    simp
  | s + 1, k => by
    have e : hadF v s = hs v s := funext fun k => had_all v s k
    show crossF (hadF v s) (2 ^ s) k = _
    rw [e]
    obtain ⟨q, b, r, rfl, hr, hb⟩ := split_k s k
    exact had_step q b r hr hb
theorem had_end {v : Nat → Int} {m k : Nat} (h : k < 2 ^ m) : hadF v m k = sumTo (fun j => chi m k j * v j) (2 ^ m) := by
  rw [had_all]
  have := hs_at (v := v) (s := m) (q := 0) h
  rw [Nat.zero_mul, Nat.zero_add] at this
  rw [this]
  refine sumTo_congr fun j _ => ?_
  rw [Nat.zero_add]
theorem had_wt {v : Nat → Int} {m k : Nat} (h : k < 2 ^ m) : hadF v m k = wt m v k := had_end h
def manyF : Nat → Nat → Nat
  | 0, _ => 0
  | f + 1, x => x % 2 + manyF f (x / 2)
@[irreducible] def many (x : Nat) : Nat := manyF 64 x
theorem manyF_zero : ∀ f, manyF f 0 = 0
  | 0 => rfl
  | f + 1 => by
    show 0 % 2 + manyF f (0 / 2) = 0
    rw [Nat.zero_div, manyF_zero f]
def ixL (g : Nat → Int) (M : Nat) : List V := (List.range M).map fun i => V.int (g i)
theorem ixL_len {g : Nat → Int} {M : Nat} : (ixL g M).length = M := by unfold ixL; simp
theorem ixL_get {g : Nat → Int} {M k : Nat} (h : k < M) : (ixL g M)[k]? = some (.int (g k)) := by unfold ixL; rw [List.getElem?_map, List.getElem?_range h]; rfl
theorem ixL_at {g : Nat → Int} {M k : Nat} (h : k < M) : atI (ixL g M) (k : Int) = some (.int (g k)) := atI_of rfl (ixL_get h)
theorem ixL_succ (g : Nat → Int) (M : Nat) : ixL g (M + 1) = ixL g M ++ [V.int (g M)] := by unfold ixL; rw [List.range_succ, List.map_append]; rfl
theorem ixL_congr {f g : Nat → Int} {M : Nat} (h : ∀ k, k < M → f k = g k) : ixL f M = ixL g M := by
  unfold ixL
  exact List.map_congr_left fun k hk => by rw [h k (List.mem_range.mp hk)]
theorem ixL_set {g : Nat → Int} {M i : Nat} {z : Int} : (ixL g M).set i (.int z) = ixL (fun k => if k = i then z else g k) M := by
  refine List.ext_getElem? fun k => ?_
  rw [List.getElem?_set, ixL_len]
  by_cases hk : k < M
  · rw [ixL_get hk]
    by_cases e : i = k
    · subst e; rw [if_pos rfl, if_pos hk, ixL_get hk, if_pos rfl]
    · rw [if_neg e, ixL_get hk, if_neg (Ne.symm e)]
  · have n1 : (ixL g M)[k]? = none := List.getElem?_eq_none (by rw [ixL_len]; omega)
    have n2 : (ixL (fun k => if k = i then z else g k) M)[k]? = none := List.getElem?_eq_none (by rw [ixL_len]; omega)
    rw [n1, n2]
    split
    · split
      · omega
      · rfl
    · rfl
def valB (b : Bool) : Int := if b = true then -1 else 1
def valF (bs : List Bool) (p : Nat) : Int := valB (bs.getD p false)
def termG (g : Nat → Int) : Nat → List (Nat × Int)
  | 0 => []
  | i + 1 => termG g i ++ (if g i = 0 then [] else [(i, g i)])
theorem termG_len (g : Nat → Int) : ∀ n, (termG g n).length ≤ n
  | 0 => Nat.le_refl _
  | n + 1 => by
    unfold termG
    rw [List.length_append]
    have := termG_len g n
    split
    · rw [List.length_nil]; omega
    · rw [List.length_singleton]; omega
theorem termG_mem {g : Nat → Int} : ∀ {n : Nat} {q : Nat × Int}, q ∈ termG g n → q.1 < n ∧ q.2 = g q.1 ∧ q.2 ≠ 0
  | 0, q, h => by cases h
  | n + 1, q, h => by
    rcases List.mem_append.mp h with h | h
    · have := termG_mem h; exact ⟨by omega, this.2⟩
    · split at h
      · cases h
      · rename_i hn
        rw [List.mem_singleton.mp h]
        exact ⟨Nat.lt_succ_self n, rfl, hn⟩
def termD (q : Nat × Int) : Dv := .tup [.int q.1, .int q.2]
def sumD (m : Nat) (ts : List (Nat × Int)) : Dv := .tup [.int m, .tup (ts.map termD)]
structure SumAt (K : PySem.W.Frag) (H : Hp) (v : V) (m : Nat) (ts : List (Nat × Int)) : Prop where
  at_ : ∃ (a b : Addr) (vs : List V), v = .ref a ∧ SqT K H a [.int m, .ref b] ∧ SqT K H b vs ∧ Reps K H (ts.map termD) vs
theorem SumAt.of {K : PySem.W.Frag} {H : Hp} {v : V} {m : Nat} {ts : List (Nat × Int)} (h : Rep K H (sumD m ts) v) : SumAt K H v m ts := by
  unfold sumD Rep at h
  obtain ⟨a, xs, rfl, ha, hr⟩ := h
  unfold Reps at hr
  obtain ⟨x, r, rfl, h1, hr⟩ := hr
  unfold Rep at h1; subst h1
  unfold Reps at hr
  obtain ⟨x, r, rfl, h2, hr⟩ := hr
  unfold Reps at hr; subst hr
  unfold Rep at h2
  obtain ⟨b, vs, rfl, hb, hr⟩ := h2
  exact ⟨a, b, vs, rfl, ha, hb, hr⟩
theorem SumAt.rep {K : PySem.W.Frag} {H : Hp} {v : V} {m : Nat} {ts : List (Nat × Int)} (h : SumAt K H v m ts) : Rep K H (sumD m ts) v := by
  obtain ⟨a, b, vs, rfl, ha, hb, hr⟩ := h.at_
  unfold sumD Rep
  refine ⟨a, _, rfl, ha, reps_cons rep_int (reps_cons ?_ reps_nil)⟩
  unfold Rep
  exact ⟨b, vs, rfl, hb, hr⟩
theorem SumAt.same {K : PySem.W.Frag} {H H' : Hp} {v : V} {m : Nat} {ts : List (Nat × Int)} (h : SumAt K H v m ts) (s : Same H H') : SumAt K H' v m ts := .of (Rep.same s _ _ h.rep)
theorem reps_terms_at {K : PySem.W.Frag} {H : Hp} {ts : List (Nat × Int)} {vs : List V} {i : Nat} {v : V} (h : Reps K H (ts.map termD) vs) (e : vs[i]? = some v) : ∃ q c, ts[i]? = some q ∧ v = .ref c ∧ SqT K H c [.int q.1, .int q.2] := by
  have hl := h.length
  have hi : i < ts.length := by
    have := (List.getElem?_eq_some_iff.mp e).1
    rw [List.length_map] at hl; omega
  have e1 : (ts.map termD)[i]? = some (termD ts[i]) := by rw [List.getElem?_map, List.getElem?_eq_getElem hi]; rfl
  obtain ⟨x, e2, hx⟩ := h.get e1
  rw [e] at e2
  cases e2
  unfold termD Rep at hx
  obtain ⟨c, xs, rfl, hc, hr⟩ := hx
  unfold Reps at hr
  obtain ⟨x, r, rfl, h1, hr⟩ := hr
  unfold Rep at h1; subst h1
  unfold Reps at hr
  obtain ⟨x, r, rfl, h2, hr⟩ := hr
  unfold Rep at h2; subst h2
  unfold Reps at hr; subst hr
  exact ⟨ts[i], c, List.getElem?_eq_getElem hi, rfl, hc⟩
end L2
set_option Elab.async false
set_option linter.all false
set_option maxRecDepth 100000
set_option maxHeartbeats 4000000
namespace L2
open PySem PySem.Spec PyProof.Rows
end L2
set_option Elab.async false
set_option linter.all false
set_option maxRecDepth 100000
set_option maxHeartbeats 4000000
namespace L2
open PySem PySem.Spec PyProof.Rows
def lowI (st i : Nat) : Nat := if i / st % 2 = 1 then i - st else i
def mixF (f : Nat → Int) (st P i : Nat) : Int := if lowI st i < P then crossF f st i else f i
theorem div_add_self {p st : Nat} (h : 0 < st) : (p + st) / st = p / st + 1 := by rw [Nat.add_div_right _ h]
theorem div_sub_self {i st : Nat} (h : 0 < st) (hi : st ≤ i) : (i - st) / st = i / st - 1 := by
  have := div_add_self (p := i - st) h
  rw [Nat.sub_add_cancel hi] at this
  generalize (i - st) / st = x at *
  omega
theorem low_even {st i : Nat} (h : 0 < st) : lowI st i / st % 2 = 0 := by
  unfold lowI
  by_cases e : i / st % 2 = 1
  · rw [if_pos e]
    have hi : st ≤ i := by
      rcases Nat.lt_or_ge i st with z | z
      · rw [Nat.div_eq_of_lt z] at e; cases e
      · exact z
    rw [div_sub_self h hi]; omega
  · rw [if_neg e]; omega
theorem mix_zero (f : Nat → Int) (st i : Nat) : mixF f st 0 i = f i := by unfold mixF; rw [if_neg (Nat.not_lt_zero _)]
theorem mix_skip {f : Nat → Int} {st p : Nat} (h : 0 < st) (hp : ¬ p / st % 2 = 0) (i : Nat) : mixF f st (p + 1) i = mixF f st p i := by
  unfold mixF
  have ne : lowI st i ≠ p := fun e => hp (e ▸ low_even h)
  by_cases hl : lowI st i < p
  · rw [if_pos hl, if_pos (by omega)]
  · rw [if_neg hl, if_neg (by omega)]
theorem mix_old {f : Nat → Int} {st p : Nat} (h : 0 < st) (hp : p / st % 2 = 0) : mixF f st p p = f p ∧ mixF f st p (p + st) = f (p + st) := by
  have l1 : lowI st p = p := by unfold lowI; rw [if_neg (by omega)]
  have l2 : lowI st (p + st) = p := by unfold lowI; rw [div_add_self h, if_pos (by omega)]; omega
  unfold mixF
  rw [l1, l2, if_neg (Nat.lt_irrefl _), if_neg (Nat.lt_irrefl _)]
  exact ⟨rfl, rfl⟩
theorem mix_next {f : Nat → Int} {st p : Nat} (h : 0 < st) (hp : p / st % 2 = 0) (i : Nat) :
    mixF f st (p + 1) i = if i = p + st then f p - f (p + st) else if i = p then f p + f (p + st) else mixF f st p i := by
  have l1 : lowI st p = p := by unfold lowI; rw [if_neg (by omega)]
  have l2 : lowI st (p + st) = p := by unfold lowI; rw [div_add_self h, if_pos (by omega)]; omega
  by_cases e1 : i = p + st
  · subst e1
    rw [if_pos rfl]
    unfold mixF crossF
    rw [l2, if_pos (Nat.lt_succ_self p), div_add_self h, if_pos (by omega), Nat.add_sub_cancel]
  · rw [if_neg e1]
    by_cases e2 : i = p
    · subst e2
      rw [if_pos rfl]
      unfold mixF crossF
      rw [l1, if_pos (Nat.lt_succ_self i), if_neg (by omega)]
    · rw [if_neg e2]
      unfold mixF
      have ne : lowI st i ≠ p := fun e => by
        unfold lowI at e
        by_cases o : i / st % 2 = 1
        · rw [if_pos o] at e
          have hi : st ≤ i := by
            rcases Nat.lt_or_ge i st with z | z
            · rw [Nat.div_eq_of_lt z] at o; cases o
            · exact z
          omega
        · rw [if_neg o] at e; exact e2 e
      by_cases hl : lowI st i < p
      · rw [if_pos hl, if_pos (by omega)]
      · rw [if_neg hl, if_neg (by omega)]
theorem mix_end {f : Nat → Int} {st M i : Nat} (hi : i < M) : mixF f st M i = crossF f st i := by
  unfold mixF
  have : lowI st i ≤ i := by unfold lowI; split <;> omega
  rw [if_pos (by omega)]
theorem cross_in : ∀ m < 7, ∀ s < m, ∀ k < 2 ^ m, k / 2 ^ s % 2 ≠ 1 → k + 2 ^ s < 2 ^ m := by decide +kernel
theorem valF_get {bs : List Bool} {i : Nat} (h : i < bs.length) : valF bs i = valB bs[i] := by
  unfold valF
  rw [List.getD_eq_getElem?_getD, List.getElem?_eq_getElem h]
  rfl
def sp_fsum (K : PySem.W.Frag) : Sp := fun vs H Q _ => match vs with
  | [.ref p] => ∃ (m : Nat) (bs : List Bool), 1 ≤ m ∧ m ≤ 6 ∧ bs.length = 2 ^ m ∧ SqT K H p (bs.map V.bl) ∧ ∀ v H', Same H H' → SumAt K H' v m (termG (wt m (valF bs)) (2 ^ m)) → Q v H'
  | _ => False
theorem sp_fsum_mono {K : PySem.W.Frag} : SpMono (sp_fsum K) := fun vs H Q Q' E h q => by
  unfold sp_fsum at *
  split at q
  · obtain ⟨m, bs, h1, h2, h3, h4, q⟩ := q; exact ⟨m, bs, h1, h2, h3, h4, fun v H' x1 x2 => h _ _ (q v H' x1 x2)⟩
  · exact q.elim
end L2
set_option Elab.async false
set_option linter.all false
set_option maxRecDepth 100000
set_option maxHeartbeats 4000000
namespace L2
open PySem PySem.Spec PyProof.Rows
theorem sum_bound {f : Nat → Int} : ∀ {n : Nat}, (∀ j, j < n → f j = 1 ∨ f j = -1) → -(n : Int) ≤ sumTo f n ∧ sumTo f n ≤ n
  | 0, _ => ⟨Int.le_refl _, Int.le_refl _⟩
  | n + 1, h => by
    have i := sum_bound fun j hj => h j (Nat.lt_succ_of_lt hj)
    show -((n + 1 : Nat) : Int) ≤ sumTo f n + f n ∧ sumTo f n + f n ≤ ((n + 1 : Nat) : Int)
    rcases h n (Nat.lt_succ_self n) with e | e <;> rw [e] <;> omega
theorem wt_bound (m : Nat) (bs : List Bool) (s : Nat) : -((2 ^ m : Nat) : Int) ≤ wt m (valF bs) s ∧ wt m (valF bs) s ≤ ((2 ^ m : Nat) : Int) := by
  unfold wt
  refine sum_bound fun j _ => ?_
  rcases chi_one m s j with h | h <;> rw [h] <;> unfold valF valB <;> cases bs.getD j false <;> decide
def Light (g : Nat → Int) : Prop := ∀ k, -64 ≤ g k ∧ g k ≤ 64
theorem wt_light {m : Nat} (m6 : m ≤ 6) (bs : List Bool) : Light (wt m (valF bs)) := fun k => by
  have := wt_bound m bs k
  have h64 : 2 ^ m ≤ 64 := Nat.pow_le_pow_right (n := 2) (by decide) m6
  omega
theorem tups_T : ∀ ts : List (Nat × Int), tupsOnly (ts.map termD) = true
  | [] => by unfold tupsOnly; rfl
  | q :: ts => by
    rw [List.map_cons]
    unfold tupsOnly
    rw [tups_T ts]
    unfold termD tupOnly tupsOnly tupOnly tupsOnly tupOnly tupsOnly
    rfl
theorem Feed.lst {H : Hp} {t : Addr} (F : Feed H t) : ∃ zs, H t = some (.lst zs) := by
  obtain ⟨a, b, k, c, _, h⟩ := F.at_
  exact ⟨_, h⟩
theorem SumAt.frm {K : PySem.W.Frag} {H H' : Hp} {t : Addr} {v : V} {m : Nat} {ts : List (Nat × Int)} (S : SumAt K H v m ts) (F : Feed H t) (f : Frm t H H') : SumAt K H' v m ts := by
  refine .of (Rep.frm f F.lst _ _ ?_ S.rep)
  have e := tups_T ts
  simp [sumD, tupOnly, tupsOnly, e]
end L2
set_option Elab.async false
set_option linter.all false
set_option maxRecDepth 100000
set_option maxHeartbeats 4000000
namespace L2
open PySem PySem.Spec PyProof.Rows
end L2
set_option Elab.async false
set_option linter.all false
set_option maxRecDepth 100000
set_option maxHeartbeats 4000000
namespace L2
open PySem PySem.Spec PyProof.Rows
section
variable {X : Cx} {K : PySem.W.Frag}
end
end L2
set_option Elab.async false
set_option linter.all false
set_option maxRecDepth 100000
set_option maxHeartbeats 4000000
namespace L2
open PySem PySem.Spec PyProof.Rows
def Nb (x : Int) (k : Nat) : Prop := x.natAbs < 2 ^ k
theorem Nb.mul {x y : Int} {a b : Nat} (hx : Nb x a) (hy : Nb y b) : Nb (x * y) (a + b) := by
  unfold Nb at *
  rw [Int.natAbs_mul, Nat.pow_add]
  exact Nat.mul_lt_mul'' hx hy
theorem Nb.up {x : Int} {a b : Nat} (hx : Nb x a) (h : a ≤ b) : Nb x b := Nat.lt_of_lt_of_le hx (Nat.pow_le_pow_right (by decide) h)
theorem Nb.pow {x : Int} {a : Nat} (hx : Nb x a) : ∀ i, Nb (x ^ i) (a * i + 1)
  | 0 => by unfold Nb; rw [Int.pow_zero]; show 1 < 2 ^ (a * 0 + 1); rw [Nat.mul_zero]; decide
  | i + 1 => by
    rw [Int.pow_succ]
    have := (hx.pow i).mul hx
    rw [show a * (i + 1) + 1 = a * i + 1 + a by rw [Nat.mul_succ]; omega]
    exact this
theorem Nb.okMul {x y : Int} (hx : Nb x 4000) (hy : Nb y 4000) : okMul x y := .inl ⟨hx.up (by decide), hy.up (by decide)⟩
end L2
set_option Elab.async false
set_option linter.all false
set_option maxRecDepth 100000
set_option maxHeartbeats 4000000
namespace L2
open PySem PySem.Spec PyProof.Rows
end L2
set_option Elab.async false
set_option linter.all false
set_option maxRecDepth 100000
set_option maxHeartbeats 4000000
namespace L2
open PySem PySem.Spec PyProof.Rows
theorem em_dnewK : EMono tDNewK := fun σ H Q Q' h q p hp => h _ _ (q p hp)
theorem hu_one {A : Around} (h : A.units + 60 < cLine) : A.units + 1 < cLine := by omega
end L2
set_option Elab.async false
set_option linter.all false
set_option maxRecDepth 100000
set_option maxHeartbeats 4000000
namespace L2
open PySem PySem.Spec PyProof.Rows
end L2
set_option Elab.async false
set_option linter.all false
set_option maxRecDepth 100000
set_option maxHeartbeats 4000000
namespace HT
open PySem PyProof.Rows
section
variable {prog : Program} {w : World} {A : Around} {E : Value → Shared → Prop} {s : Shared}
end
end HT
namespace L2
open PySem PySem.Spec PyProof.Rows
section
variable {X : Cx} {K : PySem.W.Frag} {e sx : Expr} {te ts : TE} {lo hi : Option Expr} {tl th : TO} {pos p2 : Pos}
end
structure GFeed (H : Hp) (t : Addr) (N : Nat) : Prop where
  at_ : ∃ (l : Addr) (i g c : Int) (ns : List Int), 0 ≤ i ∧ 0 ≤ g ∧ 0 ≤ c ∧ c ≤ N ∧ H t = some (.lst [.ref l, .int i, .int g, .int c]) ∧ l ≠ t ∧ H l = some (.lst (ns.map V.int)) ∧ ns.length ≠ 0
theorem GFeed.same {H H' : Hp} {t : Addr} {N : Nat} (F : GFeed H t N) (h : Same H H') : GFeed H' t N := by
  obtain ⟨l, i, g, c, ns, h1, h2, h3, h4, h5, h6, h7, h8⟩ := F.at_
  exact ⟨l, i, g, c, ns, h1, h2, h3, h4, h _ _ h5, h6, h _ _ h7, h8⟩
theorem GFeed.upd {H : Hp} {t p : Addr} {o : HO} {N : Nat} (F : GFeed H t N) (h : H p = none) : GFeed (L2.upd H p o) t N := F.same (Same.upd h)
theorem GFeed.lst {H : Hp} {t : Addr} {N : Nat} (F : GFeed H t N) : ∃ zs, H t = some (.lst zs) := by
  obtain ⟨l, i, g, c, ns, h1, h2, h3, h4, h5, _⟩ := F.at_
  exact ⟨_, h5⟩
theorem GFeed.free {H H' : Hp} {t p : Addr} {N : Nat} (F : GFeed H' t N) (h : Frm t H H') (hp : H' p = none) : H p = none := by
  cases e : H p with
  | none => rfl
  | some o =>
    by_cases hpt : p = t
    · subst hpt
      obtain ⟨zs, h3⟩ := F.lst
      rw [h3] at hp; cases hp
    · rw [h p o hpt e] at hp; cases hp
def tyD : Dv → String
  | .non => "NoneType"
  | .bl _ => "bool"
  | .int _ => "int"
  | .str _ => "str"
  | .tup _ => "tuple"
  | .lst _ => "list"
def mIsiD (K : PySem.W.Frag) : List V → Hp → VK → Prop := fun xs H Q => match xs with
  | [x, .ty T] => T ∈ kinds ∧ ∃ d, Rep K H d x ∧ Q (.bl (isTy (tyD d) T)) H
  | _ => False
theorem kitD {K : PySem.W.Frag} {t T : String} (ht : t = "int" ∨ t = "bool" ∨ t = "tuple" ∨ t = "list") (hT : T ∈ kinds) : PySem.W.kitOne K (.type t) (.type T) = some (isTy t T) := by
  unfold kinds at hT
  simp only [List.mem_cons, List.mem_nil_iff, or_false] at hT
  rcases ht with rfl | rfl | rfl | rfl <;> rcases hT with rfl | rfl | rfl | rfl | rfl | rfl <;> rfl
theorem cm_isiD {X : Cx} : CallR X (.builtin "isinstance") (mIsiD X.K) := by
  intro pins s σ H xs us Q I r q
  match xs, q with
  | [x, .ty T], ⟨hT, d, h, q⟩ =>
    have go : ∀ t, TyS X.K H x t → Q (.bl (isTy t T)) H → wpAny (model X.prog X.w) X.A (call (.builtin "isinstance") us) (EP X pins σ Q) X.xe s := fun t ht hq => by
      obtain ⟨u, w', rfl, ru, rw'⟩ := vals2 r
      cases rw'
      obtain ⟨ht, hn, Hh, k, hh⟩ := tyS_kit I ru ht
      exact PySem.W.kia_one k I.kIn hh (kitD ht hT) hn fun tk => ⟨.bl (isTy t T), H, I.tok _, rfl, hq⟩
    have hT' := hT
    unfold kinds at hT'
    simp only [List.mem_cons, List.mem_nil_iff, or_false] at hT'
    cases d with
    | non =>
      unfold Rep at h; subst h
      refine cm_isi pins s σ H _ us Q I r ⟨hT, _, rfl, ?_⟩
      have e : (T == "NoneType") = isTy (tyD .non) T := by rcases hT' with rfl | rfl | rfl | rfl | rfl | rfl <;> rfl
      rw [e]; exact q
    | str z =>
      unfold Rep at h; subst h
      refine cm_isi pins s σ H _ us Q I r ⟨hT, _, rfl, ?_⟩
      have e : (T == "str") = isTy (tyD (.str z)) T := by rcases hT' with rfl | rfl | rfl | rfl | rfl | rfl <;> rfl
      rw [e]; exact q
    | bl b => unfold Rep at h; subst h; exact go _ rfl q
    | int i => unfold Rep at h; subst h; exact go _ rfl q
    | tup ds => unfold Rep at h; obtain ⟨a, xs, rfl, hs, _⟩ := h; exact go _ (.inl ⟨rfl, xs, hs⟩) q
    | lst ds => unfold Rep at h; obtain ⟨a, xs, rfl, hs, _⟩ := h; exact go _ (.inr ⟨rfl, xs, hs⟩) q
theorem kIsiD {X : Cx} {K : PySem.W.Frag} (hK : X.K = K := by rfl) : CallR X (.builtin "isinstance") (mIsiD K) := hK ▸ cm_isiD
theorem rep_tup_inv {K : PySem.W.Frag} {H : Hp} {ds : List Dv} {v : V} (h : Rep K H (.tup ds) v) : ∃ a xs, v = .ref a ∧ SqT K H a xs ∧ Reps K H ds xs := by unfold Rep at h; exact h
theorem rep_tup2 {K : PySem.W.Frag} {H : Hp} {p : Addr} {xs : List V} {ds : List Dv} (h : SqT K H p xs) (r : Reps K H ds xs) : Rep K H (.tup ds) (.ref p) := by unfold Rep; exact ⟨p, xs, rfl, h, r⟩
end L2
set_option Elab.async false
set_option linter.all false
set_option maxRecDepth 100000
set_option maxHeartbeats 4000000
namespace L2
open PySem PySem.Spec PyProof.Rows
section
variable {X : Cx} {pins : List (Addr × Obj)} {σ : St} {H : Hp} {s : Shared}
theorem KV.get {kvs : List (Key × V)} {vs : List (Key × Value)} (r : KV kvs vs) : ∀ {i : Nat} {q : Key × V}, kvs[i]? = some q → ∃ v, vs[i]? = some (q.1, v) ∧ RelV q.2 v := by
  induction r with
  | nil => intro i q e; simp at e
  | @cons a b l1 l2 h t ih =>
    intro i q e
    cases i with
    | zero =>
      simp at e; subst e
      obtain ⟨b1, b2⟩ := b
      obtain ⟨h1, h2⟩ := h
      exact ⟨b2, by simp; exact h1.symm, h2⟩
    | succ i =>
      obtain ⟨v, h1, h2⟩ := ih (i := i) (q := q) (by simpa using e)
      exact ⟨v, by simpa using h1, h2⟩
end
section
variable {X : Cx} {K : PySem.W.Frag} {tg oe : Expr} {to : TE} {ts : List Expr} {kt : Nat} {tpos apos cpos : Pos}
end
end L2
set_option Elab.async false
set_option linter.all false
set_option maxRecDepth 100000
set_option maxHeartbeats 4000000
namespace L2
open PySem PyProof.Rows
section
variable {prog : Program} {w : World} {A : Around} {E : Value → Shared → Prop} {s : Shared}
end
section
variable {X : Cx}
end
end L2
set_option Elab.async false
set_option linter.all false
set_option maxRecDepth 100000
set_option maxHeartbeats 4000000
namespace L2
open PySem PySem.Spec PyProof.Rows
end L2
set_option Elab.async false
set_option linter.all false
set_option maxRecDepth 100000
set_option maxHeartbeats 4000000
namespace L2
open PySem PySem.Spec PyProof.Rows PySem.W
open Att (noObjs noObjs_get fr_all)
def CdO (a : Addr) (q : Str) : HO := .ext fun h => h.CodeRec (.ref a) q
def Lam (Pt : Addr) (pos : Pos) (q : Str) (H : Hp) : Prop :=
  ∃ ps : Array Value, H Pt = some (.tbl ps) ∧ TriplesOk ps.toList ∧ (codeAmong pos ps.toList = none ∨ ∃ c', codeAmong pos ps.toList = some (.ref c') ∧ H c' = some (CdO c' q))
def Grow (Pt : Addr) (H H' : Hp) : Prop := ∀ b o, b ≠ Pt → H b = some o → H' b = some o
theorem Grow.trans {Pt : Addr} {H H1 H2 : Hp} (a : Grow Pt H H1) (b : Grow Pt H1 H2) : Grow Pt H H2 := fun c o n e => b c o n (a c o n e)
theorem Grow.same {Pt : Addr} {H H' : Hp} (h : Same H H') : Grow Pt H H' := fun b o _ e => h b o e
theorem Lam.same {Pt : Addr} {pos : Pos} {q : Str} {H H' : Hp} (l : Lam Pt pos q H) (h : Same H H') : Lam Pt pos q H' := by
  obtain ⟨ps, a, b, c⟩ := l
  refine ⟨ps, h _ _ a, b, ?_⟩
  rcases c with c | ⟨c', c, d⟩
  · exact .inl c
  · exact .inr ⟨c', c, h _ _ d⟩
section
variable {X : Cx} {pins : List (Addr × Obj)} {σ : List (Option V)} {H : Hp} {s : Shared} {h' : Heap}
end
section
variable {prog : Program} {w : World} {A : Around} {s : Shared}
end
section
variable {X : Cx} {Pt c : Addr} {e : Expr} {te : TE} {p pos kpos lpos np cp sp : Pos} {x qual : Str} {params : Arguments} {scope : Scope} {kd : Nat} {i : Int} {K : PySem.W.Frag}
end
end L2
set_option Elab.async false
set_option linter.all false
set_option maxRecDepth 100000
set_option maxHeartbeats 4000000
namespace L2
open PySem PySem.Spec PyProof.Rows PySem.W
end L2
namespace L2
open PySem
end L2
set_option Elab.async false
set_option linter.all false
set_option maxRecDepth 100000
set_option maxHeartbeats 4000000
namespace L2
open PySem PySem.Spec PyProof.Rows
section
variable {X : Cx} {tg oe : Expr} {to : TE} {apos cpos : Pos}
end
def mIn (K : PySem.W.Frag) (neg : Bool) : R2 := fun x y H Q => match y with
  | .ref p => ∃ xs, (SqL K H p xs ∨ SqT K H p xs) ∧ flatV x = true ∧ xs.all flatV = true ∧ Q (.bl (neg ^^ inV x xs)) H
  | _ => False
section
variable {X : Cx} {K : PySem.W.Frag}
theorem kIn (hK : X.K = K := by rfl) : OpR X (compareOp .In) (mIn K false) := by
  subst hK
  intro pins s σ H x y v u Q I rx ry h
  cases y with
  | ref p =>
    obtain ⟨xs, h1, h2, h3, q⟩ := h
    exact op_in_seq pins s σ H x _ v u Q I rx ry ⟨p, xs, rfl, h1, h2, h3, by simpa using q⟩
  | _ => exact False.elim h
end
end L2
set_option Elab.async false
set_option linter.all false
set_option maxRecDepth 100000
set_option maxHeartbeats 4000000
namespace L2
open PySem PySem.Spec PyProof.Rows
section
variable {X : Cx} {K : PySem.W.Frag}
end
end L2
set_option Elab.async false
set_option linter.all false
namespace L2
theorem on1 {α : Type} {P : List α → Prop} (h : ∀ a, P [a]) : ∀ us : List α, us.length = 1 → P us
  | [a], _ => h a
theorem on2 {α : Type} {P : List α → Prop} (h : ∀ a b, P [a, b]) : ∀ us : List α, us.length = 2 → P us
  | [a, b], _ => h a b
theorem on3 {α : Type} {P : List α → Prop} (h : ∀ a b c, P [a, b, c]) : ∀ us : List α, us.length = 3 → P us
  | [a, b, c], _ => h a b c
open PySem in
theorem star_lst {xs es : List PySem.Expr} {p : Pos} {env : Env} : starEach (.List xs p :: es) env = (false, eval (.List xs p) env) :: starEach es env := by rfl
end L2
set_option Elab.async false
set_option linter.all false
set_option maxRecDepth 100000
set_option maxHeartbeats 4000000
namespace L2
open PySem
def isComp : Expr → Bool
  | .ListComp .. => true
  | .SetComp .. => true
  | .DictComp .. => true
  | _ => false
theorem swaps_not {e : Expr} {t : Option Expr} {l : Nat} {env : Env} (h : isComp e = false) : swapsWith e t l env = pure false := by
  cases e <;> first | rfl | cases h
theorem ps_setN {X : Cx} {pos : Pos} {i : Nat} {x : Str} {e : Expr} {te : TE} {pos' : Pos} (hN : X.N.Nodup) (hi : X.N[i]? = some x) (hx : Loc X.env.scope x) (he : PE X e te) (hs : isComp e = false) (hf : X.fn x = true ∨ X.env.scope.names.lookup x = some .local) :
    PS X (.Assign [.Name x pos'] e pos) (tAsg te (gName i)) := ps_set hN hi hx he (swaps_not hs) hf
end L2
set_option Elab.async false
set_option linter.all false
set_option maxRecDepth 100000
set_option maxHeartbeats 4000000
namespace L2
open PySem PyProof.Rows
section
variable {prog : Program} {w : World} {A : Around} {E : Value → Shared → Prop} {s : Shared}
end
end L2
set_option Elab.async false
set_option linter.all false
set_option maxRecDepth 100000
set_option maxHeartbeats 4000000
namespace L2
open PySem PyProof.Rows
section
variable {X : Cx}
end
end L2
set_option Elab.async false
set_option linter.all false
set_option maxRecDepth 100000
set_option maxHeartbeats 4000000
namespace L2
open PySem PyProof.Rows
abbrev IsZp (h : Heap) (z TI TO : Addr) (f0 bb : Value) : Prop :=
  h.get? z = some { cls := .type "zip", dict := none, data := .fields #[f0, bb, .bool false, .ref TI, .ref TO], slots := #[] }
section
variable {prog : Program} {w : World} {A : Around} {E : Value → Shared → Prop} {s : Shared}
end
end L2
set_option Elab.async false
set_option linter.all false
set_option maxRecDepth 100000
set_option maxHeartbeats 4000000
namespace L2
open PySem PyProof.Rows
section
variable {prog : Program} {w : World} {A : Around} {E : Value → Shared → Prop} {s : Shared}
structure ZS (z TI TO i1 i2 l1 l2 T0 : Addr) (xs ys : Array Value) (i : Nat) (h : Heap) : Prop where
  zp : (i = 0 ∧ IsZip h z TI TO .none) ∨ (0 < i ∧ (∃ b, IsZp h z TI TO (rawInt T0) b) ∧ ∃ a b, IsPair h T0 a b)
  ti : IsPair h TI (.ref i1) (.ref i2)
  to : ∃ a b, IsPair h TO a b
  a1 : h.IsTupleIter i1 l1 i
  a2 : h.IsTupleIter i2 l2 i
  t1 : h.IsTuple l1 xs
  t2 : h.IsTuple l2 ys
theorem ZS.keep {z TI TO i1 i2 l1 l2 T0 S : Addr} {xs ys : Array Value} {i c : Nat} {h h' : Heap} {acc : Array Value} (Z : ZS z TI TO i1 i2 l1 l2 T0 xs ys i h) (hS : h.get? S = some { cls := .type "list", dict := none, data := .seq acc c, slots := #[] })
    (k : ∀ b o, b ≠ S → h.get? b = some o → h'.get? b = some o) : ZS z TI TO i1 i2 l1 l2 T0 xs ys i h' := by
  have kk : ∀ b o, h.get? b = some o → o.cls ≠ .type "list" → h'.get? b = some o := fun b o e n => k b o (fun q => by subst q; rw [hS] at e; cases e; exact n rfl) e
  obtain ⟨zp, ti, ⟨a, b, to⟩, ⟨o1, e1, c1, d1⟩, ⟨o2, e2, c2, d2⟩, ⟨p1, x1, y1, w1⟩, ⟨p2, x2, y2, w2⟩⟩ := Z
  refine ⟨?_, kk _ _ ti (by simp), ⟨a, b, kk _ _ to (by simp)⟩, ⟨o1, kk _ _ e1 (by rw [c1]; simp), c1, d1⟩, ⟨o2, kk _ _ e2 (by rw [c2]; simp), c2, d2⟩, ⟨p1, kk _ _ x1 (by rw [y1]; simp), y1, w1⟩, ⟨p2, kk _ _ x2 (by rw [y2]; simp), y2, w2⟩⟩
  rcases zp with ⟨e, q⟩ | ⟨e, ⟨b, q⟩, ⟨x, y, r⟩⟩
  · exact .inl ⟨e, kk _ _ q (by simp)⟩
  · exact .inr ⟨e, ⟨b, kk _ _ q (by simp)⟩, ⟨x, y, kk _ _ r (by simp)⟩⟩
end
end L2
set_option Elab.async false
set_option linter.all false
set_option maxRecDepth 100000
set_option maxHeartbeats 4000000
namespace L2
open PySem PyProof.Rows
section
variable {prog : Program} {w : World} {A : Around} {R : Result → Shared → Prop}
end
end L2
set_option Elab.async false
set_option linter.all false
set_option maxRecDepth 100000
set_option maxHeartbeats 4000000
namespace L2
open PySem PyProof.Rows
section
variable {prog : Program} {w : World} {A : Around} {R : Result → Shared → Prop} {s : Shared}
end
section
variable {prog : Program} {w : World} {A : Around} {E : Value → Shared → Prop} {s : Shared}
end
section
variable {X : Cx}
end
end L2
set_option Elab.async false
set_option linter.all false
set_option maxRecDepth 100000
set_option maxHeartbeats 4000000
namespace L2
open PySem
def ins : Nat → Nat → Nat → Nat
  | 0, b, q => 2 * q + b
  | i + 1, b, q => 2 * ins i b (q / 2) + q % 2
end L2
set_option Elab.async false
set_option linter.all false
set_option maxRecDepth 100000
set_option maxHeartbeats 4000000
namespace L2
open PySem PyProof.Rows
theorem keys_none : typeLookup (.type "tuple") "keys" = pure none := by rw [typeLookup_type, builtinLookup_eq_fast]; kernel_rfl
section
variable {prog : Program} {w : World} {A : Around} {E : Value → Shared → Prop} {s : Shared}
set_option maxRecDepth 8000 in
theorem no_keys {a : Addr} {o : Obj} {xs : Array Value} {k : Nat} {Q : Option Value → Shared → Prop}
    (hx : s.heap.get? a = some o) (hc : o.cls = .type "tuple") (hdat : o.data = .seq xs k) (hd : o.dict = none) (hA : A.handled = none)
    (h : ∀ h' tk e, Heap.NewExcOf s.heap h' e "AttributeError" → Q none { s with heap := h', toks := tk }) :
    wpAny (model prog w) A (getAttr? (.ref a) "keys") Q E s := by
  obtain ⟨c, dct, dat, sl⟩ := o
  simp only at hc hdat hd
  subst hc hdat hd
  obtain ⟨hp, g, d, tk, os⟩ := s
  have hT : ∀ tk', (⟨hp, g, d, tk', os⟩ : Shared).TypeIs (.ref a) "tuple" := fun _ => ⟨_, hx, rfl⟩
  have f1 := sub_AttributeError
  have f3 := F.slot_tuple_getattribute.lookup
  have f4 := F.slot_tuple_getattribute.bind (.ref a)
  have f5 := am_tuple_getattr_none
  unfold getAttr? getAttrBy? getAttrBy
  repeat (any_goals (first | assumption | exact hT _ | ((with_reducible show wpAny _ _ (call (Value.builtin "tuple.__getattribute__") _ _) _ _ _); refine call_meets F.slot_tuple_getattribute (hT _) am_entry_tuple_getattribute (F.args_tuple_getattribute_2 _ _) (meets_getattribute_miss_tuple a xs k sl "keys" _ keys_none (by decide +kernel) (by size_fits)) ⟨hx, hA, fun h' tk' e hx' => ?_⟩) | wp_step))
  obtain ⟨t', u', he⟩ := hx'.there
  show wpAny _ _ (getattributeRaised _ _ _ _ _ _ _) _ _ _
  unfold getattributeRaised
  repeat (any_goals (first | assumption | wp_step))
  exact h _ _ _ hx'.of
theorem entry_upd_loop : entryFor table "dict.update.loop" = some Builtin.«dict.update.loop» := entryFor_of_tree (by kernel_rfl)
theorem plain_upd_loop : plainId "dict.update.loop" = true := by decide +kernel
end
section
variable {prog : Program} {w : World} {K : Type} [DecidableEq K] {knd : KeyKind prog w K} {A : Around} {R : Result → Shared → Prop}
theorem set_pairs {E : Value → Shared → Prop} {s : Shared} {d : Addr} {kvs : List (K × Value)} {k : K} {key v : Value} {Q : Unit → Shared → Prop} (hkey : knd.is k key = true) (hm : s.heap.DictOf knd d kvs)
    (hQ : ∀ h' tk, h'.DictOf knd d (stored kvs k v) → Heap.SameBut d s.heap h' → Q () { s with heap := h', toks := tk }) (hsz : kvs.length ≤ sizeLine) :
    wpAny (model prog w) A (dictSet d key v) Q E s := by
  unfold dictSet
  refine wpAny_holding (wpAny_bind (knd.pyHash hkey ?_))
  exact wpAny_dictSetHashed_pairs (s := { s with toks := s.toks + 1 }) hkey hm (fun h' a b => hQ h' _ a b) hsz
theorem upd_loop {d it tp : Addr} {items : Array Value} {n : Nat} {res : Value} (hh : A.handled = none) (more : List (K × Value)) (c : Nat → Addr) (ky : Nat → Value) (hn : more.length = n) (hn1 : n ≤ 1000) (his : items.size = n)
    (hit0 : ∀ j, j < n → items[j]? = some (.ref (c j))) (hmo : ∀ j, j < n → ∃ k v, more[j]? = some (k, v) ∧ knd.is k (ky j) = true) :
    ∀ (k i : Nat) (s : Shared), n - i = k → i ≤ n → s.heap.IsTupleIter it tp i → s.heap.IsTuple tp items → (∀ j, j < n → ∀ kv, more[j]? = some kv → s.heap.IsTuple (c j) #[ky j, kv.2]) → s.heap.DictOf knd d (merged [] (more.take i)) →
    (∀ h' tk, h'.DictOf knd d (merged [] more) → (∀ b o, b ≠ d → b ≠ it → s.heap.get? b = some o → h'.get? b = some o) → R (.ok (.ret res)) { s with heap := h', toks := tk }) →
    codeAny (model prog w) A (.builtin "dict.update.loop" ⟨[.ref d, .ref it, rawInt i, res], []⟩) R s := by
  have hsl : sizeLine = 2 ^ 24 := by rw [sizeLine_eq]
  intro k
  induction k with
  | zero =>
    intro i s hk hi hit ht hp hd hR
    have hin : i = n := by omega
    subst hin
    refine codeAny_builtin entry_upd_loop ?_
    rw [Around.under_plainId plain_upd_loop _]
    show wpAny _ A.in1 (pyNext (.ref it) >>= _) _ _ s
    have hdi : d ≠ it := fun e => by
      obtain ⟨o, _, _, ho, hc, _⟩ := id hd
      obtain ⟨o2, ho2, hc2, _⟩ := id hit
      rw [e, ho2] at ho
      cases ho
      have := hc.1
      rw [hc2] at this
      simp at this
    refine wpAny_bind (wpAny_pyNext_tuple_end (A := A.in1) hh hit ht (by rw [Array.getElem?_eq_none_iff]; omega) fun h' hk' => ?_)
    show wpAny _ _ (Builtin.Dict.addKeywords d [] >>= fun _ => ret res) _ _ _
    refine wpAny_bind (wpAny_pure (wpAny_pure ?_))
    have hd' : h'.DictOf knd d (merged [] (more.take i)) := Heap.DictOf.at hd fun o e => hk' _ _ hdi e
    rw [List.take_of_length_le (by omega)] at hd'
    exact hR h' s.toks hd' fun b o _ hb e => hk' b o hb e
  | succ k ih =>
    intro i s hk hi hit ht hp hd hR
    have hlt : i < n := by omega
    obtain ⟨kk, v, hmi, hkey⟩ := hmo i hlt
    refine codeAny_builtin entry_upd_loop ?_
    rw [Around.under_plainId plain_upd_loop _]
    show wpAny _ A.in1 (pyNext (.ref it) >>= _) _ _ s
    obtain ⟨od, _, _, hod, hcd, _⟩ := id hd
    have hcd1 := hcd.1
    obtain ⟨oi, hoi, hci, _⟩ := id hit
    obtain ⟨ot, hot, hct, _⟩ := id ht
    have cls : ∀ {b c : Addr} {o o' : Obj}, s.heap.get? b = some o → s.heap.get? c = some o' → o.cls ≠ o'.cls → b ≠ c := fun {b c o o'} x y n q => by subst q; rw [x] at y; cases y; exact n rfl
    have hdi : d ≠ it := cls hod hoi (by rw [hcd1, hci]; simp)
    have hti : tp ≠ it := cls hot hoi (by rw [hct, hci]; simp)
    have htd : tp ≠ d := cls hot hod (by rw [hct, hcd1]; simp)
    have hci2 : ∀ j, j < n → c j ≠ it ∧ c j ≠ d := fun j hj => by
      obtain ⟨k2, v2, hm2, _⟩ := hmo j hj
      obtain ⟨o3, ho3, hc3, _⟩ := hp j hj _ hm2
      exact ⟨cls ho3 hoi (by rw [hc3, hci]; simp), cls ho3 hod (by rw [hc3, hcd1]; simp)⟩
    refine wpAny_bind (wpAny_pyNext_tuple_item (A := A.in1) hit ht (hit0 i hlt) fun h₁ hit₁ hs₁ => ?_)
    have hp1 : ∀ j, j < n → ∀ kv, more[j]? = some kv → h₁.IsTuple (c j) #[ky j, kv.2] := fun j hj kv hkv => (hp j hj kv hkv).extBut hs₁.extBut (hci2 j hj).1
    have hd1 : h₁.DictOf knd d (merged [] (more.take i)) := hd.sameBut hs₁ hdi
    have ht1 : h₁.IsTuple tp items := ht.extBut hs₁.extBut hti
    obtain ⟨oc, hoc, hcc, nc, hdc⟩ := id (hp1 i hlt _ hmi)
    show wpAny _ A.in1 (holding [Value.ref (c i)] _ >>= _) _ _ _
    refine wpAny_bind (wpAny_holding ?_)
    refine wpAny_bind (wpAny_tryCatch ?_)
    unfold Builtin.Dict.pairItems
    refine wpAny_bind (wpAny_typeOf (T := "tuple") ⟨oc, hoc, hcc⟩ ?_)
    have e1 : (Value.type "tuple" == Value.type "list" || Value.type "tuple" == Value.type "tuple") = true := by decide
    rw [if_pos e1]
    refine wpAny_bind (wpAny_seqItems hoc hdc (wpAny_pure ?_))
    show wpAny _ A.in1 (holding [ky i, v] (dictSet d (ky i) v)) _ _ _
    refine wpAny_holding (set_pairs hkey hd1 (fun h₂ tk hd₂ hs₂ => ?_) ?_)
    · refine wpAny_pure ⟨plainId_quiet plain_upd_loop _, ?_⟩
      have hI2 : h₂.IsTupleIter it tp (i + 1) := hit₁.extBut hs₂.extBut (Ne.symm hdi)
      have hd₂' : h₂.DictOf knd d (merged [] (more.take (i + 1))) := by
        rw [merged_take_succ [] more i (kk, v) hmi]
        exact hd₂
      have := ih (i + 1) { s with heap := h₂, toks := tk } (by omega) hlt hI2 (ht1.extBut hs₂.extBut htd) (fun j hj kv hkv => (hp1 j hj kv hkv).extBut hs₂.extBut (hci2 j hj).2) hd₂' fun h' tk' a1 a2 => hR h' tk' a1 fun b o b1 b2 e => a2 b o b1 b2 (hs₂.extBut _ _ b1 (hs₁.extBut _ _ b2 e))
      exact this
    · have := merged_length_le [] (more.take i)
      rw [List.length_take] at this
      simp only [List.length_nil] at this
      omega
end
section
variable {prog : Program} {w : World} {K : Type} [DecidableEq K] {knd : KeyKind prog w K} {A : Around} {E : Value → Shared → Prop} {s : Shared}
theorem call_dict_pairs {tp : Addr} {o : Obj} {items : Array Value} {k0 n : Nat} {Q : Value → Shared → Prop} (hh : A.handled = none) (more : List (K × Value)) (c : Nat → Addr) (ky : Nat → Value) (hn : more.length = n) (hn1 : n ≤ 1000) (his : items.size = n)
    (hit0 : ∀ j, j < n → items[j]? = some (.ref (c j))) (hmo : ∀ j, j < n → ∃ k v, more[j]? = some (k, v) ∧ knd.is k (ky j) = true)
    (hx : s.heap.get? tp = some o) (hc : o.cls = .type "tuple") (hdat : o.data = .seq items k0) (hd : o.dict = none) (hp : ∀ j, j < n → ∀ kv, more[j]? = some kv → s.heap.IsTuple (c j) #[ky j, kv.2]) (hnd : (more.map (·.1)).Nodup)
    (h : ∀ h' tk, h'.DictOf knd s.heap.objs.size more → (∀ b o, s.heap.get? b = some o → h'.get? b = some o) → Q (.ref s.heap.objs.size) { s with heap := h', toks := tk }) :
    wpAny (model prog w) A (call (.type "dict") [.ref tp]) Q E s := by
  refine callType_codes (Q₁ := fun obj s₁ => obj = .ref s.heap.objs.size ∧ s₁ = { s with heap := s.heap.push { cls := .type "dict", data := .dict #[] } }) F.kt_called_dict (F.kt_typeCall_dict_1 _) F.entry_dict_init (kt_code_dict_new _ ⟨rfl, rfl⟩) ?_
  rintro obj s₁ ⟨rfl, rfl⟩
  have hnew : (s.heap.push { cls := .type "dict", data := .dict #[] }).DictOf knd s.heap.objs.size [] := Heap.DictOf.new s.heap
  have hx1 : (s.heap.push { cls := .type "dict", data := .dict #[] }).get? tp = some o := Heap.get?_push_of_some _ hx
  refine ⟨hnew.typeIs, F.args_dict_init_2 _ _, ?_⟩
  unfold Builtin.«dict.__init__»
  refine wpAny_bind ?_
  unfold Builtin.Dict.selfAndRest
  refine wpAny_bind (wpAny_notOrdered_dict hnew.typeIs ?_)
  show wpAny _ _ (pure (s.heap.objs.size, [Value.ref tp])) _ _ _
  refine wpAny_pure ?_
  show wpAny _ _ (Builtin.Dict.updateFrom "dict.__init__" s.heap.objs.size (.ref tp) [] .none) _ _ _
  unfold Builtin.Dict.updateFrom
  refine wpAny_bind (wpAny_typeOf (T := "tuple") ⟨o, hx1, hc⟩ ?_)
  rw [if_pos (by decide)]
  refine wpAny_bind (no_keys (A := A.in1.in1) hx1 hc hdat hd hh fun h₁ tk₁ e he => ?_)
  simp only [Option.isNone_none, if_true]
  refine wpAny_bind (wpAny_rule ?_)
  have ht1 : h₁.IsTuple tp items := ⟨o, he.keeps _ _ hx1, hc, k0, hdat⟩
  have keep1 : ∀ b o, s.heap.get? b = some o → h₁.get? b = some o := fun b o q => he.keeps _ _ (Heap.get?_push_of_some _ q)
  refine wpAny_bind (wpAny_pyIter_tuple (s := { s with heap := h₁, toks := tk₁ }) ht1 ?_)
  have up : ∀ b o, h₁.get? b = some o → (h₁.push { cls := .type "tuple_iterator", data := .fields #[.ref tp, .int 0 0] }).get? b = some o := fun b o q => Heap.get?_push_of_some _ q
  refine wpAny_pure ⟨plainId_quiet plain_upd_loop _, upd_loop (A := A.in1) (knd := knd) hh more c ky hn hn1 his hit0 hmo n 0 _ (Nat.sub_zero _) (Nat.zero_le _) ⟨_, Heap.get?_push_size _ rfl, rfl, rfl⟩ ⟨o, up _ _ (he.keeps _ _ hx1), hc, k0, hdat⟩ (fun j hj kv hkv => ?_) ?_ fun h' tk a1 a2 => ?_⟩
  · obtain ⟨o2, e2, r2⟩ := hp j hj kv hkv
    exact ⟨o2, up _ _ (keep1 _ _ e2), r2⟩
  · exact Heap.DictOf.at hnew fun o q => up _ _ (he.keeps _ _ q)
  · rw [merged_nil_of_nodup more hnd] at a1
    refine ⟨rfl, h h' tk a1 fun b o q => a2 b o (Nat.ne_of_lt (Heap.lt_size q)) (Nat.ne_of_lt (Heap.lt_size (keep1 _ _ q))) (up _ _ (keep1 _ _ q))⟩
end
end L2
set_option Elab.async false
set_option linter.all false
set_option maxRecDepth 100000
set_option maxHeartbeats 4000000
namespace L2
open PySem PyProof.Rows
section
variable {X : Cx}
def mDict (K : PySem.W.Frag) : List V → Hp → VK → Prop := fun xs H Q => match xs with
  | [.ref p] => ∃ (us : List V) (kvs : List (Int × Int)), SqT K H p us ∧ us.length = kvs.length ∧ kvs.length ≤ 1000 ∧ (∀ (j : Nat) kv, kvs[j]? = some kv → ∃ c, us[j]? = some (.ref c) ∧ SqT K H c [.int kv.1, .int kv.2]) ∧ (kvs.map (·.1)).Nodup ∧
      ∀ d, H d = none → Q (.ref d) (upd H d (.dK (kvs.map fun kv => (Sum.inl kv.1, V.int kv.2))))
  | _ => False
theorem cm_dict (hc : X.calm = true) : CallR X (.type "dict") (mDict X.K) := by
  intro pins s σ H xs us Q I r q
  match xs, q with
  | [.ref p], ⟨ts, kvs, hp, hl, h1000, hkv, hnd, q⟩ =>
  cases r with
  | cons r rr =>
  cases rr
  cases r
  obtain ⟨its, rv, ⟨o, ho, hcl, ⟨n0, hdat⟩, hdn⟩, _⟩ := I.tupleN hp
  have e1 := rv.length
  -- the pairs as they stand
  have pr : ∀ j, j < kvs.length → ∃ c t1 t2, its[j]? = some (Value.ref c) ∧ s.heap.IsTuple c #[.int (kvs.getD j (0, 0)).1 t1, .int (kvs.getD j (0, 0)).2 t2] := fun j hj => by
    have hg : kvs[j]? = some (kvs.getD j (0, 0)) := by simp [List.getD_eq_getElem?_getD, hj]
    obtain ⟨c, hc1, hc2⟩ := hkv j _ hg
    obtain ⟨u, hu, ru⟩ := rv.get hc1
    cases ru
    obtain ⟨its2, rv2, p2, _⟩ := I.tuple hc2
    cases rv2 with
    | cons a1 a2 =>
    cases a2 with
    | cons a3 a4 =>
    cases a4
    obtain ⟨t1, rfl⟩ := a1
    obtain ⟨t2, rfl⟩ := a3
    exact ⟨c, t1, t2, hu, p2⟩
  have cf : ∃ (c : Nat → Addr) (t1 t2 : Nat → Tok), ∀ j, j < kvs.length → its[j]? = some (Value.ref (c j)) ∧ s.heap.IsTuple (c j) #[.int (kvs.getD j (0, 0)).1 (t1 j), .int (kvs.getD j (0, 0)).2 (t2 j)] := by
    have pr' : ∀ j, ∃ c t1 t2, j < kvs.length → its[j]? = some (Value.ref c) ∧ s.heap.IsTuple c #[.int (kvs.getD j (0, 0)).1 t1, .int (kvs.getD j (0, 0)).2 t2] := fun j => by
      by_cases hj : j < kvs.length
      · obtain ⟨c, t1, t2, h⟩ := pr j hj
        exact ⟨c, t1, t2, fun _ => h⟩
      · exact ⟨0, 0, 0, fun z => absurd z hj⟩
    exact ⟨fun j => (pr' j).choose, fun j => (pr' j).choose_spec.choose, fun j => (pr' j).choose_spec.choose_spec.choose, fun j hj => (pr' j).choose_spec.choose_spec.choose_spec hj⟩
  obtain ⟨c, t1, t2, hcf⟩ := cf
  let more : List (Key × Value) := (List.range kvs.length).map fun j => (Sum.inl (kvs.getD j (0, 0)).1, Value.int (kvs.getD j (0, 0)).2 (t2 j))
  have hml : more.length = kvs.length := by simp [more]
  have hmg : ∀ j, j < kvs.length → more[j]? = some (Sum.inl (kvs.getD j (0, 0)).1, Value.int (kvs.getD j (0, 0)).2 (t2 j)) := fun j hj => by simp [more, hj]
  have hrng : (List.range kvs.length).map (fun j => kvs.getD j (0, 0)) = kvs := by
    refine List.ext_getElem? fun j => ?_
    rw [List.getElem?_map]
    by_cases hj : j < kvs.length
    · rw [List.getElem?_range hj]; simp [List.getD_eq_getElem?_getD, hj]
    · rw [List.getElem?_eq_none (by simp; omega), List.getElem?_eq_none (by omega)]; rfl
  have hmk : more.map (·.1) = (kvs.map (·.1)).map Sum.inl := by
    have : more.map (·.1) = ((List.range kvs.length).map (fun j => kvs.getD j (0, 0))).map (fun kv => (Sum.inl kv.1 : Key)) := by simp [more]
    rw [this, hrng, List.map_map]
    rfl
  have hrel : ∀ m, KV (((List.range m).map fun j => kvs.getD j (0, 0)).map fun kv => ((Sum.inl kv.1 : Key), V.int kv.2)) ((List.range m).map fun j => ((Sum.inl (kvs.getD j (0, 0)).1 : Key), Value.int (kvs.getD j (0, 0)).2 (t2 j))) := fun m => by
    rw [List.map_map]
    generalize List.range m = L
    induction L with
    | nil => exact .nil
    | cons j L ih => exact .cons ⟨rfl, ⟨_, rfl⟩⟩ ih
  refine call_dict_pairs (knd := mixKind X.prog X.w) (n := kvs.length) (I.ok.hd hc) more c (fun j => .int (kvs.getD j (0, 0)).1 (t1 j)) hml h1000 (by simp; omega) (fun j hj => by have := (hcf j hj).1; simpa using this) (fun j hj => ⟨_, _, hmg j hj, mixKind_int _ _ _ _⟩) ho hcl hdat hdn (fun j hj kv hkv2 => ?_) ?_ fun h' tk a1 a2 => ?_
  · rw [hmg j hj] at hkv2
    cases hkv2
    exact (hcf j hj).2
  · rw [hmk]
    have nd : ∀ l : List Int, l.Nodup → (l.map (Sum.inl : Int → Key)).Nodup := fun l => by
      induction l with
      | nil => intro _; exact List.nodup_nil
      | cons x l ih =>
        intro h
        rw [List.nodup_cons] at h
        rw [List.map_cons, List.nodup_cons]
        refine ⟨fun hm => ?_, ih h.2⟩
        obtain ⟨y, hy, e⟩ := List.mem_map.mp hm
        have : y = x := by simpa using e
        exact h.1 (this ▸ hy)
    exact nd _ hnd
  · refine ⟨.ref s.heap.objs.size, _, I.laid (t' := tk) (o := .dK (kvs.map fun kv => (Sum.inl kv.1, V.int kv.2))) a2 (Nat.le_refl _) ?_, rfl, q _ (I.hok.fresh (Nat.le_refl _))⟩
    refine ⟨by rw [List.length_map]; exact small_le h1000, beq_eq_false_iff_ne.mpr (Ne.symm (Nat.ne_of_lt I.big)), more, ?_, a1⟩
    have := hrel kvs.length
    rw [hrng] at this
    exact this
theorem kDict {K : PySem.W.Frag} (hc : X.calm = true) (hK : X.K = K := by rfl) : CallR X (.type "dict") (mDict K) := hK ▸ cm_dict hc
theorem cm_dict_ {K : PySem.W.Frag} : CMono (mDict K) := fun xs H Q Q' h q => by
  unfold mDict at *
  split at q
  · obtain ⟨us, kvs, h1, h2, h3, h4, h5, q⟩ := q; exact ⟨us, kvs, h1, h2, h3, h4, h5, fun d hd => h _ _ (q d hd)⟩
  · exact q.elim
end
end L2
set_option Elab.async false
set_option linter.all false
set_option maxRecDepth 100000
set_option maxHeartbeats 4000000
namespace L2
open PySem PyProof.Rows
abbrev EnB (h : Heap) (e it : Addr) (i : Int) (f0 bb old : Value) : Prop :=
  h.get? e = some { cls := .type "enumerate", dict := none, data := .fields #[f0, bb, .ref it, rawInt i, .none, old], slots := #[] }
section
variable {prog : Program} {w : World} {A : Around} {E : Value → Shared → Prop} {s : Shared}
end
end L2
set_option Elab.async false
set_option linter.all false
set_option maxRecDepth 100000
set_option maxHeartbeats 4000000
namespace L2
open PySem PyProof.Rows
section
variable {prog : Program} {w : World} {A : Around} {E : Value → Shared → Prop} {s : Shared}
def ES (e it : Addr) (i : Nat) (h : Heap) : Prop := (∃ old, IsEnum h e it i old) ∨ ∃ (T0 : Addr) (bb old a b : Value), EnB h e it i (rawInt T0) bb old ∧ IsPair h T0 a b
end
section
variable {prog : Program} {w : World} {K : Type} [DecidableEq K] {knd : KeyKind prog w K} {A : Around} {R : Result → Shared → Prop}
theorem ES.keep {e it d : Addr} {i : Nat} {h h' : Heap} {od : Obj} (Z : ES e it i h) (hd : h.get? d = some od) (hc : od.cls = .type "dict") (k : ∀ b o, b ≠ d → h.get? b = some o → h'.get? b = some o) : ES e it i h' := by
  have kk : ∀ b o, h.get? b = some o → o.cls ≠ .type "dict" → h'.get? b = some o := fun b o e n => k b o (fun q => by subst q; rw [hd] at e; cases e; exact n hc) e
  rcases Z with ⟨old, q⟩ | ⟨T0, bb, old, a, b, q, hT⟩
  · exact .inl ⟨old, kk _ _ q (by simp)⟩
  · exact .inr ⟨T0, bb, old, a, b, kk _ _ q (by simp), kk _ _ hT (by simp)⟩
end
end L2
set_option Elab.async false
set_option linter.all false
set_option maxRecDepth 100000
set_option maxHeartbeats 4000000
namespace L2
open PySem PyProof.Rows
section
variable {prog : Program} {w : World} {K : Type} [DecidableEq K] {knd : KeyKind prog w K} {A : Around} {E : Value → Shared → Prop} {s : Shared}
end
section
variable {X : Cx}
end
end L2
set_option Elab.async false
set_option linter.all false
set_option maxRecDepth 100000
set_option maxHeartbeats 4000000
namespace L2
open PySem PyProof.Rows
section
variable {X : Cx}
end
end L2
set_option Elab.async false
set_option linter.all false
set_option maxRecDepth 100000
set_option maxHeartbeats 4000000
namespace L2
open PySem PyProof.Rows
section
variable {X : Cx} {K : PySem.W.Frag}
end
end L2
set_option Elab.async false
set_option linter.all false
set_option maxRecDepth 100000
set_option maxHeartbeats 4000000
namespace L2
open PySem PyProof.Rows
section
variable {X : Cx} {K : PySem.W.Frag} {o e e2 : Expr} {to : TE} {t : TA} {apos cpos : Pos}
def mPopAt : V → List V → Hp → VK → Prop := fun x vs H Q => match x, vs with
  | .ref l, [.int i] => ∃ xs y, H l = some (.lst xs) ∧ 0 ≤ i ∧ i < 2 ^ 63 ∧ xs[i.toNat]? = some y ∧ Q y (upd H l (.lst (xs.eraseIdx i.toNat)))
  | _, _ => False
theorem mm_popAt : MtR X "list.pop" mPopAt := by
  intro pins s σ H x vs v us Q I rx rv q
  match x, vs, q with
  | .ref l, [.int i], ⟨xs, y, h1, h2, h3, h4, q⟩ =>
  refine mt_popAt pins s σ H _ _ v us Q I rx rv ⟨l, xs, i, i.toNat, y, rfl, rfl, h1, by omega, h3, ?_, h4, q⟩
  have hn : i.toNat < xs.length := (List.getElem?_eq_some_iff.mp h4).1
  unfold seqIndex?
  have hi : ¬ i < 0 := by omega
  have hb : (decide (0 ≤ i) && decide (i < (xs.length : Int))) = true := by
    rw [decide_eq_true h2, decide_eq_true (by omega)]
    rfl
  simp only [if_neg hi, hb]
  rfl
theorem kPopAt (ho : PE X o to) (ha : PA X [e] t) (hbase : attributeBase o "pop" X.env (eval o X.env) = eval o X.env := by rfl)
    (hfew : ((backTo cpos (starEach [e] X.env)).all (fun x => !x.1) && (backToKw cpos (keywordEach [] X.env)).all (fun x => x.1.isSome)
      && decide ([e].length + ([] : List Keyword).length + (if ([] : List Keyword).isEmpty then 0 else 1) < 30)) = true := by rfl)
    (hline : (apos.endLine == cpos.line) = true := by rfl) (hs : starEach [e] X.env = (false, eval e X.env) :: starEach [] X.env := by rfl) (hplain : (backTo cpos (starEach [] X.env)).any (·.1) = false := by rfl) (hK : X.K = K := by rfl) :
    PE X (.Call (.Attribute o "pop" apos) [e] [] cpos) (tBM K "list" mPopAt to t) := hK ▸ pe_bm PySem.F.plainAttrs_list PySem.F.slot_list_pop PySem.F.type_list_pop mm_popAt ho ha hbase hfew hline hs hplain
theorem bm_popAt : BMono mPopAt := fun x xs H Q Q' h q => by
  unfold mPopAt at *
  split at q
  · obtain ⟨ys, y, a, b, c, d, q⟩ := q; exact ⟨ys, y, a, b, c, d, h _ _ q⟩
  · exact q.elim
end
end L2
set_option Elab.async false
set_option linter.all false
set_option maxRecDepth 100000
set_option maxHeartbeats 4000000
namespace L2
open PySem PySem.Spec PyProof.Rows
section
variable {X : Cx} {K : PySem.W.Frag}
end
end L2
set_option Elab.async false
set_option linter.all false
set_option maxRecDepth 100000
set_option maxHeartbeats 4000000
namespace L2
open PySem PyProof.Rows
theorem vals_range : ∀ (n i : Nat) (us : List Value), us.length = n → (∀ (j : Nat) (v : Value), us[j]? = some v → ∃ t, v = Value.int (((i + j : Nat) : Int)) t) → Vals ((List.range' i n).map fun (k : Nat) => V.int (k : Int)) us
  | 0, i, [], _, _ => .nil
  | 0, i, _ :: _, h, _ => by cases h
  | n + 1, i, [], h, _ => by cases h
  | n + 1, i, u :: us, h, hu => by
    obtain ⟨t, e⟩ := hu 0 u rfl
    have r : RelV (V.int ((i : Nat) : Int)) u := ⟨t, by rw [e]; rfl⟩
    rw [List.range'_succ, List.map_cons]
    refine .cons r (vals_range n (i + 1) us (by simpa using h) fun j v hj => ?_)
    obtain ⟨t, e⟩ := hu (j + 1) v (by simpa using hj)
    exact ⟨t, by rw [e]; congr 1; omega⟩
def tLR (ta : TA) : TE := fun σ H Q => ta σ H fun vs H1 => match vs with
  | [.int j] => ∃ n : Nat, j = n ∧ n ≤ 1000 ∧ ∀ p, H1 p = none → Q (.ref p) (upd H1 p (.lst ((List.range n).map fun (k : Nat) => V.int (k : Int))))
  | _ => False
theorem em_lr {ta : TA} (h : AMono ta) : EMono (tLR ta) := fun σ H Q Q' k q => h _ _ _ _ (fun vs _ q => by
  match vs, q with
  | [.int j], ⟨n, h1, h2, q⟩ => exact ⟨n, h1, h2, fun d hd => k _ _ (q d hd)⟩) q
section
variable {X : Cx}
theorem kListRange {a : Expr} {ta : TA} {p pos p2 pos2 : Pos} (hc : X.calm = true) (hg : Gl X "list") (hm : X.mg "list" = none) (hg2 : Gl X "range") (hm2 : X.mg "range" = none) (ha : PA X [a] ta)
    (hs : starEach [a] X.env = [(false, eval a X.env)] := by rfl)
    (hs3 : starEach [.Call (.Name "range" p2) [a] [] pos2] X.env = [(false, eval (.Call (.Name "range" p2) [a] [] pos2) X.env)] := by rfl) :
    PE X (.Call (.Name "list" p) [.Call (.Name "range" p2) [a] [] pos2] [] pos) (tLR ta) := by
  intro pins s σ H Q I h
  refine Call_ (ld_blt I hg hm (by rfl : bootBuiltins "list" = some (.type "list")) (PyProof.Rows.callWith_type1 ?_ (by rw [hs3]; rfl) (by rfl)))
  rw [hs3]
  show wpAny _ _ (spliced ((false, eval (.Call (.Name "range" p2) [a] [] pos2) X.env) :: [])) _ _ s
  refine Calls.spliced_cons ?_
  refine Call_ (ld_blt I hg2 hm2 (by rfl : bootBuiltins "range" = some (.type "range")) (PyProof.Rows.callWith_type1 (thn (ha pos2 pins s σ H _ I h) fun us s1 ⟨vs, H1, I1, r1, q1⟩ => ?_) hs rfl))
  match vs, q1, r1 with
  | [.int j], ⟨n, hj, hn, q⟩, r1 =>
  subst hj
  cases r1 with
  | cons r rr =>
  cases rr
  obtain ⟨t, rfl⟩ := r
  refine call_range_1 ?_
  refine Calls.spliced_nil ?_
  refine call_list_range (n := n) (I.ok.hd hc) (IsRange.new ..) (small_one (by omega) (by omega) (by omega) (by omega)) ?_ (by omega) fun h' tk acc c' hk hS hacc => ?_
  · rw [rangeSize_one]; split <;> omega
  have keep : ∀ b u, s1.heap.get? b = some u → h'.get? b = some u := fun b u e => hk b u (Heap.get?_push_of_some _ e)
  have hsz : (s1.heap.push { cls := .type "range", data := .fields #[.int 0 s1.toks, .int (n : Int) t, .int 1 (s1.toks + 1)] }).objs.size = s1.heap.objs.size + 1 := by simp [Heap.push]
  have hle : s1.heap.objs.size ≤ (s1.heap.push { cls := .type "range", data := .fields #[.int 0 s1.toks, .int (n : Int) t, .int 1 (s1.toks + 1)] }).objs.size := by rw [hsz]; exact Nat.le_succ _
  refine ⟨.ref _, _, I1.laid (t' := tk) (o := .lst ((List.range n).map fun (k : Nat) => V.int (k : Int))) keep hle ?_, rfl, q _ (I1.hok.fresh hle)⟩
  refine ⟨by rw [List.length_map, List.length_range]; exact small_le hn, acc.toList, c', ?_, hS⟩
  rw [List.range_eq_range']
  refine vals_range n 0 acc.toList (by rw [Array.length_toList]; exact hacc.1) fun j v hj => ?_
  obtain ⟨t, e⟩ := hacc.2 j v (by rw [← Array.getElem?_toList]; exact hj)
  exact ⟨t, by rw [e]; congr 1; omega⟩
end
end L2
set_option Elab.async false
set_option linter.all false
set_option maxRecDepth 100000
set_option maxHeartbeats 4000000
namespace L2
open PySem PyProof.Rows
section
variable {X : Cx}
end
end L2
set_option Elab.async false
set_option linter.all false
set_option maxRecDepth 100000
set_option maxHeartbeats 4000000
namespace L2
open PySem PyProof.Rows
def mIsiE (K : PySem.W.Frag) : List V → Hp → VK → Prop := fun xs H Q => mIsiD K xs H Q ∨ mIsi K xs H Q
section
variable {X : Cx} {K : PySem.W.Frag}
theorem cm_isiE : CallR X (.builtin "isinstance") (mIsiE X.K) := by
  intro pins s σ H xs us Q I r q
  rcases q with q | q
  · exact cm_isiD pins s σ H xs us Q I r q
  · exact cm_isi pins s σ H xs us Q I r q
theorem kIsiE (hK : X.K = K := by rfl) : CallR X (.builtin "isinstance") (mIsiE K) := hK ▸ cm_isiE
end
end L2
set_option Elab.async false
set_option linter.all false
set_option maxRecDepth 100000
set_option maxHeartbeats 4000000
namespace HT
open PySem PyProof.Rows
section
variable {prog : Program} {w : World} {A : Around} {E : Value → Shared → Prop} {s : Shared}
theorem sliceApplied_back {sl : Addr} {n : Nat} {u : Tok} {Q : Int × Int × Nat → Shared → Prop} (hs : s.heap.IsSliceOf sl .none .none (.int (-1) u))
    (h : Q ((n : Int) - 1, -1, n) s) : wpAny (model prog w) A (Builtin.Slice.sliceApplied (.ref sl) (pure (n : Int))) Q E s := by
  obtain ⟨os, hos, hcs, hds⟩ := id hs
  unfold Builtin.Slice.sliceApplied Builtin.Slice.sliceFields
  refine wpAny_bind (wpAny_bind (wpAny_field hos hds (x := .none) rfl (wpAny_bind (wpAny_field hos hds (x := .none) rfl (wpAny_bind (wpAny_field hos hds (x := .int (-1) u) rfl (wpAny_pure ?_)))))))
  refine wpAny_bind (slicePart_int ?_)
  show wpAny _ _ (if ((-1 : Int) == 0) = true then _ else _) _ _ s
  rw [if_neg (by decide)]
  refine wpAny_bind (slicePart_ (o := none) .none (wpAny_bind (slicePart_ (o := none) .none (wpAny_bind (wpAny_pure ?_)))))
  show wpAny _ _ (pure ((n : Int) - 1, (-1 : Int), Builtin.Slice.slicePlaces ((n : Int) - 1) (-1) (-1))) _ _ s
  have e : Builtin.Slice.slicePlaces ((n : Int) - 1) (-1) (-1) = n := by
    unfold Builtin.Slice.slicePlaces
    rw [if_neg (by decide)]
    by_cases h : n = 0
    · subst h; rfl
    · rw [if_pos (by omega), show (-(-1) : Int) = 1 from rfl, Int.ediv_one]
      omega
  rw [e]
  exact wpAny_pure h
theorem back_pick {α : Type} (xs : List α) : ∀ n, n ≤ xs.length → ((List.range n).filterMap fun (k : Nat) => xs[((xs.length : Int) - 1 + (k : Int) * (-1)).toNat]?) = xs.reverse.take n
  | 0, _ => rfl
  | n + 1, h => by
    rw [List.range_succ, List.filterMap_append, back_pick xs n (by omega), List.take_add_one]
    congr 1
    have e : ((xs.length : Int) - 1 + (n : Int) * (-1)).toNat = xs.length - 1 - n := by omega
    simp only [List.filterMap_cons, List.filterMap_nil]
    rw [e, List.getElem?_reverse (by omega)]
    cases xs[xs.length - 1 - n]? <;> rfl
theorem getItem_tuple_back {t sl : Addr} {items : Array Value} {u : Tok} {Q : Value → Shared → Prop} (ht : IsTup s.heap t items) (hs : s.heap.IsSliceOf sl .none .none (.int (-1) u))
    (h : Q (.ref s.heap.objs.size) { s with heap := s.heap.push { cls := .type "tuple", data := .seq items.toList.reverse.toArray } })
    (hsz : items.size ≤ sizeLine) : wpAny (model prog w) A (getItem (.ref t) (.ref sl)) Q E s := by
  have htake : sizeOk (.seq items.toList.reverse.toArray) := by
    show items.toList.reverse.toArray.size ≤ sizeLine
    rw [List.size_toArray, List.length_reverse, Array.length_toList]
    exact hsz
  obtain ⟨os, hos, hcs, hds⟩ := id hs
  have hTs : s.TypeIs (.ref sl) "slice" := ⟨os, hos, hcs⟩
  unfold getItem
  try with_reducible refine wpAny_holding ?_
  first | refine wpAny_bind (wpAny_pure ?_) | skip
  refine wpAny_bind (wpAny_sequenceKey ht.typeIs (by decide) ?_)
  refine wpAny_bind (wpAny_callSpecial?_slot (name := Str.ofString "__getitem__") ht.typeIs PyProof.Rows.slot_tuple_getitem
    (wpAny_call_entry PyProof.Rows.slot_tuple_getitem ht.typeIs entry_tuple_getitem ?_ (args_tuple_getitem _ _)))
  show wpAny _ _ (Builtin.Tuple.tupleItemsOf (.ref t) >>= _) _ _ s
  refine wpAny_bind (tupleItemsOf_ ht ?_)
  refine wpAny_bind (wpAny_typeOf hTs ?_)
  rw [if_pos (by decide)]
  refine wpAny_bind (sliceApplied_back hs ?_)
  have hno : ¬ (((items.size : Int) - 1 == 0 && (-1 : Int) == 1 && items.size == items.size) = true) := by
    intro q
    rw [Bool.and_eq_true, Bool.and_eq_true] at q
    exact absurd q.1.2 (by decide)
  show wpAny _ _ (if ((items.size : Int) - 1 == 0 && (-1 : Int) == 1 && items.size == items.size) = true then _ else _) _ _ s
  have epick : ((List.range items.size).filterMap fun (k : Nat) => items[((items.size : Int) - 1 + (k : Int) * (-1)).toNat]?) = items.toList.reverse := by
    have h1 := back_pick items.toList items.toList.length (Nat.le_refl _)
    rw [List.take_of_length_le (by simp), Array.length_toList] at h1
    rw [← h1]
    congr 1
    funext k
    rw [Array.getElem?_toList]
  rw [if_neg hno, epick]
  first
    | exact wpAny_bind (m := Builtin.Tuple.tupleExact _) (wpAny_newObj_type (wpAny_pure ⟨_, rfl, wpAny_pure h⟩) htake)
    | exact wpAny_bind (m := Builtin.Tuple.tupleExact _) (wpAny_newObj_type (wpAny_bind (wpAny_pure (wpAny_pure ⟨_, rfl, wpAny_pure h⟩))) htake)
    | exact wpAny_bind (wpAny_bind (m := Builtin.Tuple.tupleExact _) (wpAny_newObj_type (wpAny_pure (wpAny_pure ⟨_, rfl, wpAny_pure h⟩)) htake))
    | exact wpAny_bind (wpAny_bind (m := Builtin.Tuple.tupleExact _) (wpAny_newObj_type (wpAny_pure ⟨_, rfl, wpAny_pure h⟩) htake))
theorem getItem_tuple_whole {t sl : Addr} {items : Array Value} {vl vu : Value} {lo hi : Option Int} {Q : Value → Shared → Prop} (ht : IsTup s.heap t items) (hs : s.heap.IsSliceOf sl vl vu .none) (pl : IsPart vl lo) (pu : IsPart vu hi)
    (hw : sIx items.size 0 lo = 0 ∧ sIx items.size items.size hi = items.size)
    (h : Q (.ref t) s) : wpAny (model prog w) A (getItem (.ref t) (.ref sl)) Q E s := by
  obtain ⟨os, hos, hcs, hds⟩ := id hs
  have hTs : s.TypeIs (.ref sl) "slice" := ⟨os, hos, hcs⟩
  unfold getItem
  try with_reducible refine wpAny_holding ?_
  first | refine wpAny_bind (wpAny_pure ?_) | skip
  refine wpAny_bind (wpAny_sequenceKey ht.typeIs (by decide) ?_)
  refine wpAny_bind (wpAny_callSpecial?_slot (name := Str.ofString "__getitem__") ht.typeIs PyProof.Rows.slot_tuple_getitem
    (wpAny_call_entry PyProof.Rows.slot_tuple_getitem ht.typeIs entry_tuple_getitem ?_ (args_tuple_getitem _ _)))
  show wpAny _ _ (Builtin.Tuple.tupleItemsOf (.ref t) >>= _) _ _ s
  refine wpAny_bind (tupleItemsOf_ ht ?_)
  refine wpAny_bind (wpAny_typeOf hTs ?_)
  rw [if_pos (by decide)]
  refine wpAny_bind (sliceApplied_gen hs pl pu ?_)
  rw [hw.1, hw.2]
  show wpAny _ _ (if (((0 : Nat) : Int) == 0 && (1 : Int) == 1 && (items.size - 0) == items.size) = true then _ else _) _ _ s
  have hyes : (((0 : Nat) : Int) == 0 && (1 : Int) == 1 && (items.size - 0) == items.size) = true := by simp
  rw [if_pos hyes]
  unfold Builtin.Tuple.tupleIsExact
  refine wpAny_bind (wpAny_bind (wpAny_typeOf ht.typeIs (wpAny_pure ?_)))
  rw [if_pos (by decide)]
  refine wpAny_bind (wpAny_rule ?_)
  first
    | exact wpAny_bind (wpAny_pure ⟨_, rfl, wpAny_pure h⟩)
    | exact wpAny_pure ⟨_, rfl, wpAny_pure h⟩
    | exact wpAny_bind (wpAny_pure (wpAny_pure ⟨_, rfl, wpAny_pure h⟩))
    | exact wpAny_bind (wpAny_bind (wpAny_pure (wpAny_pure ⟨_, rfl, wpAny_pure h⟩)))
end
end HT
namespace L2
open PySem PySem.Spec PyProof.Rows
section
variable {X : Cx} {K : PySem.W.Frag} {e sx : Expr} {te ts : TE} {lo hi : Option Expr} {tl th : TO} {pos p2 : Pos}
theorem Vals.rev : ∀ {xs : List V} {us : List Value}, Vals xs us → Vals xs.reverse us.reverse
  | _, _, .nil => .nil
  | _, _, .cons h r => by
    rw [List.reverse_cons, List.reverse_cons]
    exact (Vals.rev r).append (.cons h .nil)
def mBack (K : PySem.W.Frag) : V → Hp → VK → Prop := fun x H Q => match x with
  | .ref a => ∃ xs, SqT K H a xs ∧ ∀ p, H p = none → Q (.ref p) (upd H p (.tup xs.reverse))
  | _ => False
def tBack (K : PySem.W.Frag) (te ts : TE) : TE := fun σ H Q => te σ H fun x H1 => ts σ H1 fun k H4 => k = .int (-1) ∧ mBack K x H4 Q
theorem kBack (he : PE X e te) (hs : PE X sx ts) (hK : X.K = K := by rfl) : PE X (.Subscript e (.Slice none none (some sx) p2) pos) (tBack K te ts) := by
  subst hK
  intro pins s σ H Q I h
  refine Subscript_ (thn (he pins s σ H _ I h) fun v s1 ⟨x, H1, I1, r1, q1⟩ => ?_)
  refine wpAny_Slice ?_
  refine wpAny_pure (wpAny_pure ?_)
  rw [evalPart_some]
  refine thn (hs pins s1 σ H1 _ I1 q1) fun vk s4 ⟨z, H4, I4, r4, q4⟩ => ?_
  obtain ⟨rfl, q4⟩ := q4
  have I5 : Inv X pins σ H4 { s4 with heap := s4.heap.push { cls := .type "slice", data := .fields #[.none, .none, vk] } } := I4.kept (t' := s4.toks) fun b ob q => Heap.get?_push_of_some _ q
  cases x with
  | ref a =>
    cases r1
    obtain ⟨tk, rfl⟩ := r4
    obtain ⟨xs, hx, q⟩ := q4
    obtain ⟨its, r, ht, hz⟩ := I5.tuple hx
    have hlen : its.toArray.size = xs.length := by rw [List.size_toArray]; exact r.length.symm
    show wpAny (model X.prog X.w) X.A (subscriptTail e (.Slice none none (some sx) p2) (.ref a) (.ref s4.heap.objs.size)) (EP X pins σ Q) X.xe { s4 with heap := s4.heap.push { cls := .type "slice", data := .fields #[.none, .none, .int (-1) tk] } }
    refine tail_any (ops := [.ref a, .ref s4.heap.objs.size]) ht.typeIs PyProof.Rows.slot_tuple_getitem.lookup ?_ (by with_unfolding_all rfl)
    refine HT.getItem_tuple_back ht (Heap.IsSliceOf.new ..) ?_ (by rw [hlen]; exact hz)
    generalize s4.heap.push { cls := .type "slice", data := .fields #[.none, .none, .int (-1) tk] } = h5 at *
    refine ⟨.ref h5.objs.size, _, I5.laid (t' := s4.toks) (o := .tup xs.reverse) (fun b ob q => Heap.get?_push_of_some _ q) (Nat.le_refl _) ?_, rfl, q _ (I5.hok.fresh (Nat.le_refl _))⟩
    exact ⟨by rw [List.length_reverse]; exact hz, its.reverse, r.rev, IsTupN.new _ _⟩
  | _ => exact False.elim q4
theorem em_back (h : EMono te) (h3 : EMono ts) : EMono (tBack K te ts) := fun σ H Q Q' k q => h _ _ _ _ (fun v _ q => h3 _ _ _ _ (fun z _ ⟨e, q⟩ => ⟨e, by
  unfold mBack at *
  split at q
  · obtain ⟨xs, a, q⟩ := q; exact ⟨xs, a, fun p hp => k _ _ (q p hp)⟩
  · exact q.elim⟩) q) q
def mCutA (K : PySem.W.Frag) : V → Option Int → Option Int → Hp → VK → Prop := fun x lo hi H Q => match x with
  | .ref a => ∃ xs, SqT K H a xs ∧ ∀ p H', Same H H' → SqT K H' p (cutV xs lo hi) → Q (.ref p) H'
  | _ => False
theorem sl_cutA : SlR X (mCutA X.K) := by
  intro pins s σ H x v vl vu lo hi sl Q I rx hs pl pu q
  cases x with
  | ref a =>
    obtain ⟨xs, hx, q⟩ := q
    by_cases hw : HT.sIx xs.length 0 lo = 0 ∧ HT.sIx xs.length xs.length hi = xs.length
    · cases rx
      obtain ⟨its, r, ht, hz⟩ := I.tuple hx
      have hlen : its.toArray.size = xs.length := by rw [List.size_toArray]; exact r.length.symm
      refine ⟨"tuple", _, PyProof.Rows.slot_tuple_getitem.lookup, ht.typeIs, ?_⟩
      refine HT.getItem_tuple_whole ht hs pl pu (by rw [hlen]; exact hw) ⟨.ref a, H, I, rfl, q a H (fun _ _ h => h) ?_⟩
      have : cutV xs lo hi = xs := by
        unfold cutV
        rw [hw.1, hw.2, List.drop_zero, List.take_of_length_le (by omega)]
      rw [this]
      exact hx
    · exact sl_tup pins s σ H _ v vl vu lo hi sl Q I rx hs pl pu ⟨a, xs, rfl, hx, hw, fun p hp => q p _ (Same.upd hp) (.of upd_same)⟩
  | _ => exact False.elim q
theorem kCutA (he : PE X e te) (hl : PO X lo tl) (hu : PO X hi th) (hK : X.K = K := by rfl) : PE X (.Subscript e (.Slice lo hi none p2) pos) (tSl (mCutA K) te tl th) := hK ▸ pe_slice sl_cutA he hl hu
theorem em_cutA (h : EMono te) (h1 : OMono tl) (h2 : OMono th) : EMono (tSl (mCutA K) te tl th) := fun σ H Q Q' k q => h _ _ _ _ (fun v _ q => h1 _ _ _ _ (fun _ _ q => h2 _ _ _ _ (fun _ _ q => by
  cases v <;> first | exact False.elim q | (obtain ⟨xs, a, q⟩ := q; exact ⟨xs, a, fun p H' s r => k _ _ (q p H' s r)⟩)) q) q) q
end
end L2
set_option Elab.async false
set_option linter.all false
set_option maxRecDepth 100000
set_option maxHeartbeats 4000000
namespace HT
open PySem PyProof.Rows
section
variable {prog : Program} {w : World} {A : Around} {E : Value → Shared → Prop} {s : Shared}
theorem cat_none {t b : Addr} {ws : List Value} {Q : Value → Shared → Prop} (ht : IsTup s.heap t #[]) (hb : IsTup s.heap b ws.toArray) (h : Q (.ref b) s) :
    wpAny (model prog w) A (binaryOp .Add (.ref t) (.ref b)) Q E s := by
  obtain ⟨⟨cls, dd, data, sl⟩, ho, hc, n, hd⟩ := id ht
  obtain ⟨⟨cls2, dd2, data2, sl2⟩, ho2, hc2, n2, hd2⟩ := id hb
  simp only at hc hd hc2 hd2
  subst hc hd hc2 hd2
  exact concat_meets ⟨_, ho, rfl⟩ ⟨_, ho2, rfl⟩ noFill_tuple_add seq_tuple_add PySem.F.slot_tuple_add PySem.F.entry_tuple_add (PySem.F.args_tuple_add_2 _ _)
    (tuple_addW0 t b #[] ws.toArray n n2 dd dd2 sl sl2 rfl) ⟨ho, ho2, h⟩
end
end HT
namespace L2
open PySem PySem.Spec PyProof.Rows
section
variable {X : Cx} {K : PySem.W.Frag}
def mAddA (K : PySem.W.Frag) : R2 := fun x y H Q => match x, y with
  | .int i, .int j => Q (.int (i + j)) H
  | .ref a, .ref b => rCat (.ref a) (.ref b) H Q ∨ ∃ xs ys, SqT K H a xs ∧ SqT K H b ys ∧ xs.length + ys.length ≤ sizeLine ∧ ∀ p H', Same H H' → SqT K H' p (xs ++ ys) → Q (.ref p) H'
  | _, _ => False
theorem om_addA : OpR X (binaryOp .Add) (mAddA X.K) := by
  intro pins s σ H x y v u Q I rx ry q
  cases x <;> cases y <;> first
    | exact False.elim q
    | exact op_add pins s σ H _ _ v u Q I rx ry ⟨_, _, rfl, rfl, q⟩
    | skip
  rename_i a b
  rcases q with q | ⟨xs, ys, ha, hb, hz, q⟩
  · exact op_cat pins s σ H _ _ v u Q I rx ry q
  by_cases hx : xs = []
  · subst hx
    cases rx
    cases ry
    obtain ⟨its, r1, p1, _⟩ := I.tuple ha
    obtain ⟨its2, r2, p2, _⟩ := I.tuple hb
    cases r1
    exact HT.cat_none p1 p2 ⟨.ref b, H, I, rfl, q b H (fun _ _ h => h) hb⟩
  · exact op_catT pins s σ H _ _ v u Q I rx ry ⟨a, b, xs, ys, rfl, rfl, ha, hb, hx, hz, fun e => q a H (fun _ _ h => h) (by rw [e, List.append_nil]; exact ha), fun _ p hp => q p _ (Same.upd hp) (.of upd_same)⟩
theorem kAddA (hK : X.K = K := by rfl) : OpR X (binaryOp .Add) (mAddA K) := hK ▸ om_addA
theorem rm_addA : RMono (mAddA K) := fun x y H Q Q' m q => by
  cases x <;> cases y <;> first
    | exact False.elim q
    | exact m _ _ q
    | skip
  rcases q with ⟨l, b, xs, zs, h1, h2, h3, h4, h5, q⟩ | ⟨xs, ys, ha, hb, hz, q⟩
  · exact .inl ⟨l, b, xs, zs, h1, h2, h3, h4, h5, fun p hp => m _ _ (q p hp)⟩
  · exact .inr ⟨xs, ys, ha, hb, hz, fun p H' a b => m _ _ (q p H' a b)⟩
end
end L2
set_option Elab.async false
set_option linter.all false
set_option maxRecDepth 100000
set_option maxHeartbeats 4000000
namespace Mine
open PySem L2
def top (i : Nat) : Stmt := PySem.Challenge.pw_flips_k34_what_is_a_glance.main.body.getD i (.Pass ⟨0, 0, 0, 0⟩)
abbrev s_is_whole : Stmt := top 1
abbrev s_is_below : Stmt := top 2
abbrev s_two_to : Stmt := top 3
abbrev s_power_of : Stmt := top 4
abbrev s_is_place : Stmt := top 6
abbrev s_has_terms : Stmt := top 9
abbrev s_is_pair : Stmt := top 10
abbrev s_are_terms : Stmt := top 11
abbrev s_is_term : Stmt := top 12
abbrev s_squares : Stmt := top 13
abbrev s_is_glance : Stmt := top 15
abbrev s_rest_of : Stmt := top 16
abbrev s__law_feed : Stmt := top 18
abbrev s__law_draw : Stmt := top 19
abbrev s__law_n : Stmt := top 20
abbrev s__law_many : Stmt := top 21
abbrev s__law_table : Stmt := top 22
abbrev s__law_sum : Stmt := top 23
abbrev s__law_glance : Stmt := top 24
abbrev s__law_within : Stmt := top 25
abbrev s__law_is_glance : Stmt := top 26
abbrev s__law_bent : Stmt := top 27
abbrev s_law : Stmt := top 28
theorem sc_is_whole : FnScope ["thing"] ["thing"] (defScope s_is_whole) := ⟨rfl, rfl, rfl, by decide +kernel, rfl, by decide +kernel, by decide +kernel⟩
theorem sc_is_below : FnScope ["bound", "thing"] ["bound", "thing"] (defScope s_is_below) := ⟨rfl, rfl, rfl, by decide +kernel, rfl, by decide +kernel, by decide +kernel⟩
theorem sc_two_to : FnScope ["n"] ["n"] (defScope s_two_to) := ⟨rfl, rfl, rfl, by decide +kernel, rfl, by decide +kernel, by decide +kernel⟩
theorem sc_power_of : FnScope ["base", "times", "power", "step"] ["base", "times"] (defScope s_power_of) := ⟨rfl, rfl, rfl, by decide +kernel, rfl, by decide +kernel, by decide +kernel⟩
theorem sc_is_place : FnScope ["n", "thing"] ["n", "thing"] (defScope s_is_place) := ⟨rfl, rfl, rfl, by decide +kernel, rfl, by decide +kernel, by decide +kernel⟩
theorem sc_has_terms : FnScope ["thing"] ["thing"] (defScope s_has_terms) := ⟨rfl, rfl, rfl, by decide +kernel, rfl, by decide +kernel, by decide +kernel⟩
theorem sc_is_pair : FnScope ["thing"] ["thing"] (defScope s_is_pair) := ⟨rfl, rfl, rfl, by decide +kernel, rfl, by decide +kernel, by decide +kernel⟩
theorem sc_are_terms : FnScope ["n", "terms", "last", "term"] ["n", "terms"] (defScope s_are_terms) := ⟨rfl, rfl, rfl, by decide +kernel, rfl, by decide +kernel, by decide +kernel⟩
theorem sc_is_term : FnScope ["n", "thing"] ["n", "thing"] (defScope s_is_term) := ⟨rfl, rfl, rfl, by decide +kernel, rfl, by decide +kernel, by decide +kernel⟩
theorem sc_squares : FnScope ["one"] ["one"] (defScope s_squares) := ⟨rfl, rfl, rfl, by decide +kernel, rfl, by decide +kernel, by decide +kernel⟩
theorem sc_is_glance : FnScope ["thing"] ["thing"] (defScope s_is_glance) := ⟨rfl, rfl, rfl, by decide +kernel, rfl, by decide +kernel, by decide +kernel⟩
theorem sc_rest_of : FnScope ["glance"] ["glance"] (defScope s_rest_of) := ⟨rfl, rfl, rfl, by decide +kernel, rfl, by decide +kernel, by decide +kernel⟩
theorem sc__law_feed : FnScope ["_law_script", "_law_k", "_law_cell"] ["_law_script", "_law_k"] (defScope s__law_feed) := ⟨rfl, rfl, rfl, by decide +kernel, rfl, by decide +kernel, by decide +kernel⟩
theorem sc__law_draw : FnScope ["_law_feed_here", "_law_many_here", "_law_figure", "_law_number"] ["_law_feed_here", "_law_many_here"] (defScope s__law_draw) := ⟨rfl, rfl, rfl, by decide +kernel, rfl, by decide +kernel, by decide +kernel⟩
theorem sc__law_n : FnScope ["_law_feed_here"] ["_law_feed_here"] (defScope s__law_n) := ⟨rfl, rfl, rfl, by decide +kernel, rfl, by decide +kernel, by decide +kernel⟩
theorem sc__law_many : FnScope ["_law_number", "_law_found"] ["_law_number"] (defScope s__law_many) := ⟨rfl, rfl, rfl, by decide +kernel, rfl, by decide +kernel, by decide +kernel⟩
theorem sc__law_table : FnScope ["_law_feed_here", "_law_n_here", "_law_size", "_law_way", "_law_some", "_law_answers", "_law_table_here", "_law_least", "_law_k", "_law_p"] ["_law_feed_here", "_law_n_here"] (defScope s__law_table) := ⟨rfl, rfl, rfl, by decide +kernel, rfl, by decide +kernel, by decide +kernel⟩
theorem sc__law_sum : FnScope ["_law_table_here", "_law_weights", "_law_step", "_law_p", "_law_one", "_law_other", "_law_terms"] ["_law_table_here"] (defScope s__law_sum) := ⟨rfl, rfl, rfl, by decide +kernel, rfl, by decide +kernel, by decide +kernel⟩
theorem sc__law_glance : FnScope ["_law_feed_here", "_law_table_here", "_law_size", "_law_n_here", "_law_weights", "_law_part", "_law_way", "_law_sets"] ["_law_feed_here", "_law_table_here"] (defScope s__law_glance) := ⟨rfl, rfl, rfl, by decide +kernel, rfl, by decide +kernel, by decide +kernel⟩
theorem sc__law_within : FnScope ["_law_thing", "_law_least", "_law_greatest"] ["_law_thing", "_law_least", "_law_greatest"] (defScope s__law_within) := ⟨rfl, rfl, rfl, by decide +kernel, rfl, by decide +kernel, by decide +kernel⟩
theorem sc__law_is_glance : FnScope ["_law_thing", "_law_size", "_law_last", "_law_whole", "_law_one"] ["_law_thing"] (defScope s__law_is_glance) := ⟨rfl, rfl, rfl, by decide +kernel, rfl, by decide +kernel, by decide +kernel⟩
theorem sc__law_bent : FnScope ["_law_feed_here", "_law_glance_here", "_law_n_here", "_law_terms", "_law_size", "_law_odd_one", "_law_some", "_law_at", "_law_one", "_law_more"] ["_law_feed_here", "_law_glance_here"] (defScope s__law_bent) := ⟨rfl, rfl, rfl, by decide +kernel, rfl, by decide +kernel, by decide +kernel⟩
theorem sc_law : FnScope ["_law_script", "_law_k", "_law_feed_here", "_law_glance_here", "_law_one", "_law_found"] ["_law_script"] (defScope s_law) := ⟨rfl, rfl, rfl, by decide +kernel, rfl, by decide +kernel, by decide +kernel⟩
set_option genInjectivity false
set_option genSizeOf false
structure Txt (K : PySem.W.Frag) (mg : Str → Option Value) where
  f_is_whole : Addr
  d_is_whole : FuncData
  F_is_whole : Fun K "is_whole" "is_whole" s_is_whole f_is_whole d_is_whole
  b_is_whole : Binds K d_is_whole ["thing"] []
  m_is_whole : mg "is_whole" = some (.ref f_is_whole)
  f_is_below : Addr
  d_is_below : FuncData
  F_is_below : Fun K "is_below" "is_below" s_is_below f_is_below d_is_below
  b_is_below : Binds K d_is_below ["bound", "thing"] []
  m_is_below : mg "is_below" = some (.ref f_is_below)
  f_two_to : Addr
  d_two_to : FuncData
  F_two_to : Fun K "two_to" "two_to" s_two_to f_two_to d_two_to
  b_two_to : Binds K d_two_to ["n"] []
  m_two_to : mg "two_to" = some (.ref f_two_to)
  f_power_of : Addr
  d_power_of : FuncData
  F_power_of : Fun K "power_of" "power_of" s_power_of f_power_of d_power_of
  b_power_of : Binds K d_power_of ["base", "times"] []
  m_power_of : mg "power_of" = some (.ref f_power_of)
  f_is_place : Addr
  d_is_place : FuncData
  F_is_place : Fun K "is_place" "is_place" s_is_place f_is_place d_is_place
  b_is_place : Binds K d_is_place ["n", "thing"] []
  m_is_place : mg "is_place" = some (.ref f_is_place)
  f_has_terms : Addr
  d_has_terms : FuncData
  F_has_terms : Fun K "has_terms" "has_terms" s_has_terms f_has_terms d_has_terms
  b_has_terms : Binds K d_has_terms ["thing"] []
  m_has_terms : mg "has_terms" = some (.ref f_has_terms)
  f_is_pair : Addr
  d_is_pair : FuncData
  F_is_pair : Fun K "is_pair" "is_pair" s_is_pair f_is_pair d_is_pair
  b_is_pair : Binds K d_is_pair ["thing"] []
  m_is_pair : mg "is_pair" = some (.ref f_is_pair)
  f_are_terms : Addr
  d_are_terms : FuncData
  F_are_terms : Fun K "are_terms" "are_terms" s_are_terms f_are_terms d_are_terms
  b_are_terms : Binds K d_are_terms ["n", "terms"] []
  m_are_terms : mg "are_terms" = some (.ref f_are_terms)
  f_is_term : Addr
  d_is_term : FuncData
  F_is_term : Fun K "is_term" "is_term" s_is_term f_is_term d_is_term
  b_is_term : Binds K d_is_term ["n", "thing"] []
  m_is_term : mg "is_term" = some (.ref f_is_term)
  f_squares : Addr
  d_squares : FuncData
  F_squares : Fun K "squares" "squares" s_squares f_squares d_squares
  b_squares : Binds K d_squares ["one"] []
  m_squares : mg "squares" = some (.ref f_squares)
  f_is_glance : Addr
  d_is_glance : FuncData
  F_is_glance : Fun K "is_glance" "is_glance" s_is_glance f_is_glance d_is_glance
  b_is_glance : Binds K d_is_glance ["thing"] []
  m_is_glance : mg "is_glance" = some (.ref f_is_glance)
  f_rest_of : Addr
  d_rest_of : FuncData
  F_rest_of : Fun K "rest_of" "rest_of" s_rest_of f_rest_of d_rest_of
  b_rest_of : Binds K d_rest_of ["glance"] []
  m_rest_of : mg "rest_of" = some (.ref f_rest_of)
  f__law_feed : Addr
  d__law_feed : FuncData
  F__law_feed : Fun K "_law_feed" "_law_feed" s__law_feed f__law_feed d__law_feed
  b__law_feed : Binds K d__law_feed ["_law_script", "_law_k"] []
  m__law_feed : mg "_law_feed" = some (.ref f__law_feed)
  f__law_draw : Addr
  d__law_draw : FuncData
  F__law_draw : Fun K "_law_draw" "_law_draw" s__law_draw f__law_draw d__law_draw
  b__law_draw : Binds K d__law_draw ["_law_feed_here", "_law_many_here"] []
  m__law_draw : mg "_law_draw" = some (.ref f__law_draw)
  f__law_n : Addr
  d__law_n : FuncData
  F__law_n : Fun K "_law_n" "_law_n" s__law_n f__law_n d__law_n
  b__law_n : Binds K d__law_n ["_law_feed_here"] []
  m__law_n : mg "_law_n" = some (.ref f__law_n)
  f__law_many : Addr
  d__law_many : FuncData
  F__law_many : Fun K "_law_many" "_law_many" s__law_many f__law_many d__law_many
  b__law_many : Binds K d__law_many ["_law_number"] []
  m__law_many : mg "_law_many" = some (.ref f__law_many)
  f__law_table : Addr
  d__law_table : FuncData
  F__law_table : Fun K "_law_table" "_law_table" s__law_table f__law_table d__law_table
  b__law_table : Binds K d__law_table ["_law_feed_here", "_law_n_here"] []
  m__law_table : mg "_law_table" = some (.ref f__law_table)
  f__law_sum : Addr
  d__law_sum : FuncData
  F__law_sum : Fun K "_law_sum" "_law_sum" s__law_sum f__law_sum d__law_sum
  b__law_sum : Binds K d__law_sum ["_law_table_here"] []
  m__law_sum : mg "_law_sum" = some (.ref f__law_sum)
  f__law_glance : Addr
  d__law_glance : FuncData
  F__law_glance : Fun K "_law_glance" "_law_glance" s__law_glance f__law_glance d__law_glance
  b__law_glance : Binds K d__law_glance ["_law_feed_here", "_law_table_here"] []
  m__law_glance : mg "_law_glance" = some (.ref f__law_glance)
  f__law_within : Addr
  d__law_within : FuncData
  F__law_within : Fun K "_law_within" "_law_within" s__law_within f__law_within d__law_within
  b__law_within : Binds K d__law_within ["_law_thing", "_law_least", "_law_greatest"] []
  m__law_within : mg "_law_within" = some (.ref f__law_within)
  f__law_is_glance : Addr
  d__law_is_glance : FuncData
  F__law_is_glance : Fun K "_law_is_glance" "_law_is_glance" s__law_is_glance f__law_is_glance d__law_is_glance
  b__law_is_glance : Binds K d__law_is_glance ["_law_thing"] []
  m__law_is_glance : mg "_law_is_glance" = some (.ref f__law_is_glance)
  f__law_bent : Addr
  d__law_bent : FuncData
  F__law_bent : Fun K "_law_bent" "_law_bent" s__law_bent f__law_bent d__law_bent
  b__law_bent : Binds K d__law_bent ["_law_feed_here", "_law_glance_here"] []
  m__law_bent : mg "_law_bent" = some (.ref f__law_bent)
  f_law : Addr
  d_law : FuncData
  F_law : Fun K "law" "law" s_law f_law d_law
  b_law : Binds K d_law ["_law_script"] []
  m_law : mg "law" = some (.ref f_law)
  z_bool : mg "bool" = none
  z_dict : mg "dict" = none
  z_int : mg "int" = none
  z_isinstance : mg "isinstance" = none
  z_len : mg "len" = none
  z_list : mg "list" = none
  z_max : mg "max" = none
  z_range : mg "range" = none
  z_sum : mg "sum" = none
  z_tuple : mg "tuple" = none
  t_MOST_SWITCHES : Tok
  c_MOST_SWITCHES : mg "MOST_SWITCHES" = some (.int 6 t_MOST_SWITCHES)
set_option genInjectivity true
set_option genSizeOf true
section
variable {P : Program} {w : World} {K : PySem.W.Frag} {mg : Str → Option Value} {base : Heap} (T : Txt K mg)
local macro_rules | `(tactic| walk_at "sm") => `(tactic| repeat' with_reducible first | exact sm_next | apply sm_seq | apply sm_asg | apply sm_drop | apply sm_if | apply sm_while | apply sm_for | exact em_var | exact em_c | apply em_op | apply em_un | apply em_not | apply em_cb | apply em_call | apply em_tup | apply em_lst | apply em_comp | exact rm_add | exact rm_addA | exact rm_sub | exact rm_mul | exact rm_div | exact rm_mod | exact rm_shl | exact um_neg_ | exact rm_cmp | exact rm_eq | exact rm_ix | apply tm_b | apply tm_and | exact am_nil | apply am_cons | exact cm_len_ | exact cm_list_ | exact cm_dict_ | apply im_seq | apply im_rng1 | apply gm_sub | exact gm_name | apply gms_cons | exact gms_nil | exact sm_set | exact spDraw_mono | apply em_back | apply em_cutA | exact em_dnewK | apply em_lr | apply em_bm0 | exact bm_bitlen | apply em_bm | exact bm_append | exact bm_popAt | apply gm_seqs | exact om_none | apply om_some | assumption)
def sp_power : Sp := fun vs H Q _ => match vs with
  | [.int b, .int t] => ∃ m : Nat, t = m ∧ m ≤ 64 ∧ ((-(2 ^ 64) < b ∧ b < 2 ^ 64) ∨ (Nb b 100 ∧ m ≤ 12)) ∧ Q (.int (b ^ m)) H
  | _ => False
theorem ok_power_of : FnOk P w K mg base CX0 1 T.f_power_of T.d_power_of ["base", "times"] sp_power := by
  refine T.F_power_of.ok sc_power_of (fun vs H Q E h => by unfold sp_power at h; split at h <;> first | rfl | exact h.elim) (fun cdv A outer s H vs Q E hr h => ?_)
  have hu := hu60 hr
  match vs, h with
  | [.int b, .int t], ⟨m, e1, h1, b1, q⟩ =>
  subst e1
  refine ⟨_, (@pss_cons _ _ _ _ _ (@ps_set _ _ 2 _ _ _ _ sc_power_of.nd rfl (by first | exact Or.inl rfl | exact Or.inr rfl) (@pe_int _ _ _ _) (by rfl) (by first | exact .inl rfl | exact .inr rfl | assumption)) (@pss_cons _ _ _ _ _ (@ps_for _ _ _ _ _ _ _ _ PassesOwn.never rfl (@pi_range1 _ _ _ _ _ _ rfl T.z_range (@pa_cons _ _ _ _ _ (@vv _ 1 _ _ (by rfl) (by first | exact Or.inl rfl | exact Or.inr (Or.inl rfl) | exact Or.inr (Or.inr rfl)) (by decide) (by decide)) (@pa_nil _) (by rfl)) (by rfl)) (@pg_name _ _ 3 _ sc_power_of.nd rfl (by first | exact Or.inl rfl | exact Or.inr rfl) (by first | exact .inl rfl | exact .inr rfl | assumption)) (@pss_one _ _ _ (@ps_set _ _ 2 _ _ _ _ sc_power_of.nd rfl (by first | exact Or.inl rfl | exact Or.inr rfl) (@pe_op _ _ _ _ _ _ _ _ om_mul (@vv _ 2 _ _ (by rfl) (by first | exact Or.inl rfl | exact Or.inr (Or.inl rfl) | exact Or.inr (Or.inr rfl)) (by decide) (by decide)) (@vv _ 0 _ _ (by rfl) (by first | exact Or.inl rfl | exact Or.inr (Or.inl rfl) | exact Or.inr (Or.inr rfl)) (by decide) (by decide))) (by rfl) (by first | exact .inl rfl | exact .inr rfl | assumption))) (by intro _; rfl)) (@pss_one _ _ _ (@ps_ret _ _ _ _ (@vv _ 2 _ _ (by rfl) (by first | exact Or.inl rfl | exact Or.inr (Or.inl rfl) | exact Or.inr (Or.inr rfl)) (by decide) (by decide)))))), ?_⟩
  refine ⟨m, rfl, by omega, by omega, ?_⟩
  refine for_range (fun i σ H' => H' = H ∧ ∃ z : Option V, σ = [some (.int b), some (.int m), some (.int (b ^ i)), z]) ⟨rfl, none, by rw [Int.pow_zero]; rfl⟩ ?_ ?_
  · rintro i σ H' hi ⟨rfl, z, rfl⟩
    have hi' : i < m := by omega
    have okm : okMul (b ^ i) b := by
      rcases b1 with b1 | ⟨b1, b2⟩
      · exact .inr (.inr b1)
      · exact Nb.okMul ((b1.pow i).up (by omega)) (b1.up (by omega))
    refine ⟨okm, rfl, some (.int (0 + (i : Int))), ?_⟩
    rw [Int.pow_succ]
    rfl
  · rintro σ H' ⟨rfl, z, rfl⟩
    have : (m : Int).toNat = m := by omega
    rw [this]
    exact q
def sp_two_to : Sp := fun vs H Q _ => match vs with
  | [.int n] => ∃ m : Nat, n = m ∧ m ≤ 64 ∧ Q (.int (2 ^ m : Nat)) H
  | _ => False
theorem ok_two_to : FnOk P w K mg base CX0 2 T.f_two_to T.d_two_to ["n"] sp_two_to := by
  have G_power_of := ok_power_of (P := P) (w := w) (base := base) T
  refine T.F_two_to.ok sc_two_to (fun vs H Q E h => by unfold sp_two_to at h; split at h <;> first | rfl | exact h.elim) (fun cdv A outer s H vs Q E hr h => ?_)
  have hu := hu60 hr
  have hr_power_of := hr.mono (show 1 ≤ _ by decide)
  match vs, h with
  | [.int n], ⟨m, e1, h1, q⟩ =>
  subst e1
  refine ⟨_, (@pss_one _ _ _ (@ps_ret _ _ _ _ (@pe_call _ _ _ _ _ _ _ _ _ _ _ _ _ _ _ _ G_power_of hr_power_of rfl T.m_power_of T.F_power_of.kp T.b_power_of .nil pass0 (@pa_cons _ _ _ _ _ (@pe_int _ _ _ _) (@pa_cons _ _ _ _ _ (@vv _ 0 _ _ (by rfl) (by first | exact Or.inl rfl | exact Or.inr (Or.inl rfl) | exact Or.inr (Or.inr rfl)) (by decide) (by decide)) (@pa_nil _) (by rfl)) (by rfl)) (by decide) (by rfl) (by rfl)))), ?_⟩
  refine ⟨m, rfl, h1, .inl ⟨by decide, by decide⟩, ?_⟩
  have e : (2 : Int) ^ m = ((2 ^ m : Nat) : Int) := by rw [Int.natCast_pow]; rfl
  rw [e]
  exact q
def isWholeD : Dv → Bool
  | .int _ => true
  | _ => false
def isPairD : Dv → Bool
  | .tup ds => ds.length == 2
  | _ => false
def sp_dB (K : PySem.W.Frag) (f : Dv → Bool) : Sp := fun vs H Q _ => match vs with
  | [v] => ∃ d, Rep K H d v ∧ Q (.bl (f d)) H
  | _ => False
theorem ok_is_whole : FnOk P w K mg base CX0 1 T.f_is_whole T.d_is_whole ["thing"] (sp_dB K isWholeD) := by
  refine T.F_is_whole.ok sc_is_whole (fun vs H Q E h => by unfold sp_dB at h; split at h <;> first | rfl | exact h.elim) (fun cdv A outer s H vs Q E hr h => ?_)
  have hu := hu60 hr
  match vs, h with
  | [v], ⟨d, hd, q⟩ =>
  refine ⟨_, (@pss_one _ _ _ (@ps_ret _ _ _ _ (@pe_andM _ _ _ _ _ _ _ (@pe_callB _ _ _ _ _ _ _ _ _ (kIsiD (K := K)) rfl T.z_isinstance (by rfl) (@pa_cons _ _ _ _ _ (@vv _ 0 _ _ (by rfl) (by first | exact Or.inl rfl | exact Or.inr (Or.inl rfl) | exact Or.inr (Or.inr rfl)) (by decide) (by decide)) (@pa_cons _ _ _ _ _ (@pe_bltn _ _ (.ty "int") _ _ rfl T.z_int (by rfl) rfl (by decide) (by decide)) (@pa_nil _) (by rfl)) (by rfl)) (by decide) (by decide) (by rfl) (by rfl)) (@pe_one _ _ _ _ _ (@pe_notM _ _ _ _ (@pe_callB _ _ _ _ _ _ _ _ _ (kIsiD (K := K)) rfl T.z_isinstance (by rfl) (@pa_cons _ _ _ _ _ (@vv _ 0 _ _ (by rfl) (by first | exact Or.inl rfl | exact Or.inr (Or.inl rfl) | exact Or.inr (Or.inr rfl)) (by decide) (by decide)) (@pa_cons _ _ _ _ _ (@pe_bltn _ _ (.ty "bool") _ _ rfl T.z_bool (by rfl) rfl (by decide) (by decide)) (@pa_nil _) (by rfl)) (by rfl)) (by decide) (by decide) (by rfl) (by rfl))))))), ?_⟩
  refine ⟨by decide, d, hd, ?_⟩
  refine ite2 (fun e => ⟨by decide, d, hd, ?_⟩) (fun e => ?_)
  · have : isWholeD d = !isTy (tyD d) "bool" := by
      revert e
      cases d <;> intro e <;> first | rfl | (simp [isTy, tyD] at e; done)
    rw [this] at q
    exact q
  · have : isWholeD d = false := by
      revert e
      cases d <;> intro e <;> first | rfl | exact absurd (show isTy _ _ = true by simp [isTy, tyD]) e
    rw [this] at q
    exact q
def sp_dE (K : PySem.W.Frag) (f : Dv → Bool) : Sp := fun vs H Q _ => match vs with
  | [v] => (∃ d, Rep K H d v ∧ Q (.bl (f d)) H) ∨ (∃ a kvs, v = .ref a ∧ H a = some (.dK kvs) ∧ Q (.bl false) H)
  | _ => False
theorem ok_is_pair : FnOk P w K mg base CX0 1 T.f_is_pair T.d_is_pair ["thing"] (sp_dE K isPairD) := by
  refine T.F_is_pair.ok sc_is_pair (fun vs H Q E h => by unfold sp_dE at h; split at h <;> first | rfl | exact h.elim) (fun cdv A outer s H vs Q E hr h => ?_)
  have hu := hu60 hr
  match vs, h with
  | [v], h =>
  refine ⟨_, (@pss_one _ _ _ (@ps_ret _ _ _ _ (@pe_andM _ _ _ _ _ _ _ (@pe_callB _ _ _ _ _ _ _ _ _ (kIsiE (K := K)) rfl T.z_isinstance (by rfl) (@pa_cons _ _ _ _ _ (@vv _ 0 _ _ (by rfl) (by first | exact Or.inl rfl | exact Or.inr (Or.inl rfl) | exact Or.inr (Or.inr rfl)) (by decide) (by decide)) (@pa_cons _ _ _ _ _ (@pe_bltn _ _ (.ty "tuple") _ _ rfl T.z_tuple (by rfl) rfl (by decide) (by decide)) (@pa_nil _) (by rfl)) (by rfl)) (by decide) (by decide) (by rfl) (by rfl)) (@pe_one _ _ _ _ _ (@pe_cmpM _ _ _ _ _ _ _ _ (kEq (K := K) hu) (@pe_callB _ _ _ _ _ _ _ _ _ (kLen (K := K)) rfl T.z_len (by rfl) (@pa_cons _ _ _ _ _ (@vv _ 0 _ _ (by rfl) (by first | exact Or.inl rfl | exact Or.inr (Or.inl rfl) | exact Or.inr (Or.inr rfl)) (by decide) (by decide)) (@pa_nil _) (by rfl)) (by decide) (by decide) (by rfl) (by rfl)) (@pe_int _ _ _ _) (by first | exact nobehind _ (by decide) (by decide) | rfl)))))), ?_⟩
  rcases h with ⟨d, hd, q⟩ | ⟨a, kvs, rfl, ha, q⟩
  · refine .inl ⟨by decide, d, hd, ?_⟩
    refine ite2 (fun e => ?_) (fun e => ?_)
    · cases d with
      | tup ds =>
        obtain ⟨a, xs, rfl, hs, hx⟩ := rep_tup_inv hd
        refine ⟨ds.length, .inr ⟨xs, hs, hx.length⟩, ?_⟩
        have : (false ^^ (((ds.length : Nat) : Int) == 2)) = (ds.length == 2) := by
          rw [Bool.false_xor, Bool.eq_iff_iff]
          simp only [beq_iff_eq]
          omega
        show Q (.bl (false ^^ (((ds.length : Nat) : Int) == 2))) H
        rw [this]
        exact q
      | _ => simp [isTy, tyD] at e
    · have : isPairD d = false := by
        revert e
        cases d <;> intro e <;> first | rfl | exact absurd (show isTy _ _ = true by simp [isTy, tyD]) e
      rw [this] at q
      exact q
  · exact .inr ⟨by decide, false, .inr (.inr (.inl ⟨⟨kvs, ha⟩, rfl⟩)), q⟩
def belowD (n : Int) : Dv → Bool
  | .int i => decide (0 ≤ i) && decide (i < n)
  | _ => false
def sp_belowD (K : PySem.W.Frag) : Sp := fun vs H Q _ => match vs with
  | [.int n, v] => ∃ d, Rep K H d v ∧ Q (.bl (belowD n d)) H
  | _ => False
theorem ok_is_below : FnOk P w K mg base CX0 2 T.f_is_below T.d_is_below ["bound", "thing"] (sp_belowD K) := by
  have G_is_whole := ok_is_whole (P := P) (w := w) (base := base) T
  refine T.F_is_below.ok sc_is_below (fun vs H Q E h => by unfold sp_belowD at h; split at h <;> first | rfl | exact h.elim) (fun cdv A outer s H vs Q E hr h => ?_)
  have hu := hu60 hr
  have hr_is_whole := hr.mono (show 1 ≤ _ by decide)
  match vs, h with
  | [.int n, v], ⟨d, hd, q⟩ =>
  refine ⟨_, (@pss_one _ _ _ (@ps_ret _ _ _ _ (@pe_andM _ _ _ _ _ _ _ (@pe_call _ _ _ _ _ _ _ _ _ _ _ _ _ _ _ _ G_is_whole hr_is_whole rfl T.m_is_whole T.F_is_whole.kp T.b_is_whole .nil pass0 (@pa_cons _ _ _ _ _ (@vv _ 1 _ _ (by rfl) (by first | exact Or.inl rfl | exact Or.inr (Or.inl rfl) | exact Or.inr (Or.inr rfl)) (by decide) (by decide)) (@pa_nil _) (by rfl)) (by decide) (by rfl) (by rfl)) (@pe_one _ _ _ _ _ (@pe_chainM _ _ _ _ _ _ _ _ _ _ _ _ om_le om_lt (@pe_int _ _ _ _) (@vv _ 1 _ _ (by rfl) (by first | exact Or.inl rfl | exact Or.inr (Or.inl rfl) | exact Or.inr (Or.inr rfl)) (by decide) (by decide)) (@vv _ 0 _ _ (by rfl) (by first | exact Or.inl rfl | exact Or.inr (Or.inl rfl) | exact Or.inr (Or.inr rfl)) (by decide) (by decide)) (by with_unfolding_all rfl)))))), ?_⟩
  refine ⟨d, hd, ?_⟩
  cases d with
  | int i =>
    unfold Rep at hd
    subst hd
    have q : Q (.bl (decide (0 ≤ i) && decide (i < n))) H := q
    refine ite2 (fun e => ?_) (fun e => ?_)
    · have e' : 0 ≤ i := of_decide_eq_true e
      rw [decide_eq_true e', Bool.true_and] at q
      exact q
    · rw [decide_eq_false (fun z => e (decide_eq_true z)), Bool.false_and] at q
      exact q
  | _ => exact q
def sp_placeD (K : PySem.W.Frag) : Sp := fun vs H Q _ => match vs with
  | [.int x, v] => ∃ (m : Nat) (d : Dv), x = m ∧ m ≤ 6 ∧ Rep K H d v ∧ Q (.bl (belowD ((2 ^ m : Nat) : Int) d)) H
  | _ => False
theorem ok_is_place : FnOk P w K mg base CX0 3 T.f_is_place T.d_is_place ["n", "thing"] (sp_placeD K) := by
  have G_is_below := ok_is_below (P := P) (w := w) (base := base) T; have G_two_to := ok_two_to (P := P) (w := w) (base := base) T
  refine T.F_is_place.ok sc_is_place (fun vs H Q E h => by unfold sp_placeD at h; split at h <;> first | rfl | exact h.elim) (fun cdv A outer s H vs Q E hr h => ?_)
  have hu := hu60 hr
  have hr_is_below := hr.mono (show 2 ≤ _ by decide); have hr_two_to := hr.mono (show 2 ≤ _ by decide)
  match vs, h with
  | [.int x, v], ⟨m, k, e1, m6, hk, q⟩ =>
  subst e1
  refine ⟨_, (@pss_one _ _ _ (@ps_ret _ _ _ _ (@pe_call _ _ _ _ _ _ _ _ _ _ _ _ _ _ _ _ G_is_below hr_is_below rfl T.m_is_below T.F_is_below.kp T.b_is_below .nil pass0 (@pa_cons _ _ _ _ _ (@pe_call _ _ _ _ _ _ _ _ _ _ _ _ _ _ _ _ G_two_to hr_two_to rfl T.m_two_to T.F_two_to.kp T.b_two_to .nil pass0 (@pa_cons _ _ _ _ _ (@vv _ 0 _ _ (by rfl) (by first | exact Or.inl rfl | exact Or.inr (Or.inl rfl) | exact Or.inr (Or.inr rfl)) (by decide) (by decide)) (@pa_nil _) (by rfl)) (by decide) (by rfl) (by rfl)) (@pa_cons _ _ _ _ _ (@vv _ 1 _ _ (by rfl) (by first | exact Or.inl rfl | exact Or.inr (Or.inl rfl) | exact Or.inr (Or.inr rfl)) (by decide) (by decide)) (@pa_nil _) (by rfl)) (by rfl)) (by decide) (by rfl) (by rfl)))), ?_⟩
  exact ⟨m, rfl, by omega, k, hk, q⟩
def termB (m : Nat) : Dv → Bool
  | .tup [a, b] => belowD ((2 ^ m : Nat) : Int) a && isWholeD b
  | _ => false
def sp_term (K : PySem.W.Frag) : Sp := fun vs H Q _ => match vs with
  | [.int x, v] => ∃ (m : Nat) (d : Dv), x = m ∧ m ≤ 6 ∧ Rep K H d v ∧ Q (.bl (termB m d)) H
  | _ => False
theorem reps_cons_inv {H : Hp} {d : Dv} {ds : List Dv} {xs : List V} (h : Reps K H (d :: ds) xs) : ∃ x l, xs = x :: l ∧ Rep K H d x ∧ Reps K H ds l := by unfold Reps at h; exact h
theorem ok_is_term : FnOk P w K mg base CX0 4 T.f_is_term T.d_is_term ["n", "thing"] (sp_term K) := by
  have G_is_pair := ok_is_pair (P := P) (w := w) (base := base) T; have G_is_place := ok_is_place (P := P) (w := w) (base := base) T; have G_is_whole := ok_is_whole (P := P) (w := w) (base := base) T
  refine T.F_is_term.ok sc_is_term (fun vs H Q E h => by unfold sp_term at h; split at h <;> first | rfl | exact h.elim) (fun cdv A outer s H vs Q E hr h => ?_)
  have hu := hu60 hr
  have hr_is_pair := hr.mono (show 1 ≤ _ by decide); have hr_is_place := hr.mono (show 3 ≤ _ by decide); have hr_is_whole := hr.mono (show 1 ≤ _ by decide)
  match vs, h with
  | [.int x, v], ⟨m, d, e1, m6, hd, q⟩ =>
  subst e1
  refine ⟨_, (@pss_one _ _ _ (@ps_ret _ _ _ _ (@pe_andM _ _ _ _ _ _ _ (@pe_call _ _ _ _ _ _ _ _ _ _ _ _ _ _ _ _ G_is_pair hr_is_pair rfl T.m_is_pair T.F_is_pair.kp T.b_is_pair .nil pass0 (@pa_cons _ _ _ _ _ (@vv _ 1 _ _ (by rfl) (by first | exact Or.inl rfl | exact Or.inr (Or.inl rfl) | exact Or.inr (Or.inr rfl)) (by decide) (by decide)) (@pa_nil _) (by rfl)) (by decide) (by rfl) (by rfl)) (@pe_andM _ _ _ _ _ _ _ (@pe_call _ _ _ _ _ _ _ _ _ _ _ _ _ _ _ _ G_is_place hr_is_place rfl T.m_is_place T.F_is_place.kp T.b_is_place .nil pass0 (@pa_cons _ _ _ _ _ (@vv _ 0 _ _ (by rfl) (by first | exact Or.inl rfl | exact Or.inr (Or.inl rfl) | exact Or.inr (Or.inr rfl)) (by decide) (by decide)) (@pa_cons _ _ _ _ _ (@kIx _ K _ _ _ _ _ (@vv _ 1 _ _ (by rfl) (by first | exact Or.inl rfl | exact Or.inr (Or.inl rfl) | exact Or.inr (Or.inr rfl)) (by decide) (by decide)) (@pe_int _ _ _ _) (by intro _ _; rfl) (by rfl)) (@pa_nil _) (by rfl)) (by rfl)) (by decide) (by rfl) (by rfl)) (@pe_one _ _ _ _ _ (@pe_call _ _ _ _ _ _ _ _ _ _ _ _ _ _ _ _ G_is_whole hr_is_whole rfl T.m_is_whole T.F_is_whole.kp T.b_is_whole .nil pass0 (@pa_cons _ _ _ _ _ (@kIx _ K _ _ _ _ _ (@vv _ 1 _ _ (by rfl) (by first | exact Or.inl rfl | exact Or.inr (Or.inl rfl) | exact Or.inr (Or.inr rfl)) (by decide) (by decide)) (@pe_int _ _ _ _) (by intro _ _; rfl) (by rfl)) (@pa_nil _) (by rfl)) (by decide) (by rfl) (by rfl))))))), ?_⟩
  refine .inl ⟨d, hd, ?_⟩
  by_cases hp : isPairD d = true
  · cases d with
    | tup ds =>
      match ds, hp with
      | [a, b], _ =>
      obtain ⟨p, xs, rfl, hs, hx⟩ := rep_tup_inv hd
      obtain ⟨x0, l0, rfl, r0, hx⟩ := reps_cons_inv hx
      obtain ⟨x1, l1, rfl, r1, hx⟩ := reps_cons_inv hx
      unfold Reps at hx
      subst hx
      have q : Q (.bl (belowD ((2 ^ m : Nat) : Int) a && isWholeD b)) H := q
      refine ⟨_, _, .inr hs, rfl, m, a, rfl, m6, r0, ?_⟩
      refine ite2 (fun e => ?_) (fun e => ?_)
      · rw [e, Bool.true_and] at q
        exact ⟨_, _, .inr hs, rfl, b, r1, q⟩
      · have e' : belowD ((2 ^ m : Nat) : Int) a = false := by simpa using e
        rw [e', Bool.false_and] at q
        exact q
    | _ => cases hp
  · have hp' : isPairD d = false := by simpa using hp
    have ht : termB m d = false := by
      cases d with
      | tup ds =>
        match ds, hp' with
        | [], _ => rfl
        | [_], _ => rfl
        | [_, _], h => cases h
        | _ :: _ :: _ :: _, _ => rfl
      | _ => rfl
    rw [ht] at q
    rw [hp']
    exact q
theorem reps_get {H : Hp} : ∀ {ds : List Dv} {xs : List V} {i : Nat} {x : V}, Reps K H ds xs → xs[i]? = some x → ∃ d, ds[i]? = some d ∧ Rep K H d x
  | [], xs, i, x, h, e => by unfold Reps at h; subst h; cases e
  | d :: ds, xs, i, x, h, e => by
    obtain ⟨y, l, rfl, r, h⟩ := reps_cons_inv h
    cases i with
    | zero => cases e; exact ⟨d, rfl, r⟩
    | succ i => exact reps_get (ds := ds) (i := i) h (by simpa using e)
def idxD : Dv → Int
  | .tup (.int i :: _) => i
  | _ => 0
def termsB (m : Nat) : Int → List Dv → Bool
  | _, [] => true
  | last, d :: ds => termB m d && (decide (last < idxD d) && termsB m (idxD d) ds)
theorem termB_inv {m : Nat} {d : Dv} (h : termB m d = true) : ∃ i w, d = .tup [.int i, .int w] ∧ 0 ≤ i ∧ i < ((2 ^ m : Nat) : Int) := by
  unfold termB at h
  split at h
  · rename_i a b
    rw [Bool.and_eq_true] at h
    cases a with
    | int i =>
      cases b with
      | int w =>
        have h1 : (decide (0 ≤ i) && decide (i < ((2 ^ m : Nat) : Int))) = true := h.1
        rw [Bool.and_eq_true] at h1
        exact ⟨i, w, rfl, of_decide_eq_true h1.1, of_decide_eq_true h1.2⟩
      | _ => cases h.2
    | _ => cases h.1
  · cases h
def sp_terms (K : PySem.W.Frag) : Sp := fun vs H Q _ => match vs with
  | [.int x, v] => ∃ (m : Nat) (ds : List Dv), x = m ∧ m ≤ 6 ∧ Rep K H (.tup ds) v ∧ Q (.bl (termsB m (-1) ds)) H
  | _ => False
theorem ok_are_terms : FnOk P w K mg base CX0 5 T.f_are_terms T.d_are_terms ["n", "terms"] (sp_terms K) := by
  have G_is_term := ok_is_term (P := P) (w := w) (base := base) T
  refine T.F_are_terms.ok sc_are_terms (fun vs H Q E h => by unfold sp_terms at h; split at h <;> first | rfl | exact h.elim) (fun cdv A outer s H vs Q E hr h => ?_)
  have hu := hu60 hr
  have hr_is_term := hr.mono (show 4 ≤ _ by decide)
  match vs, h with
  | [.int x, v], ⟨m, ds, e1, m6, hd, q⟩ =>
  subst e1
  obtain ⟨p, xs, rfl, hs, hx⟩ := rep_tup_inv hd
  have hl := hx.length
  refine ⟨_, (@pss_cons _ _ _ _ _ (@ps_set _ _ 2 _ _ _ _ sc_are_terms.nd rfl (by first | exact Or.inl rfl | exact Or.inr rfl) (@pe_un _ _ _ _ _ _ um_neg (@pe_int _ _ _ _)) (by rfl) (by first | exact .inl rfl | exact .inr rfl | assumption)) (@pss_cons _ _ _ _ _ (@ps_for _ _ _ _ _ _ _ _ PassesOwn.never rfl (@kSeq _ K _ _ _ (@vv _ 1 _ _ (by rfl) (by first | exact Or.inl rfl | exact Or.inr (Or.inl rfl) | exact Or.inr (Or.inr rfl)) (by decide) (by decide)) (by rfl)) (@pg_name _ _ 3 _ sc_are_terms.nd rfl (by first | exact Or.inl rfl | exact Or.inr rfl) (by first | exact .inl rfl | exact .inr rfl | assumption)) (@pss_cons _ _ _ _ _ (@ps_if _ _ _ _ _ _ _ _ (PW.pt (@pw_or _ _ _ _ _ _ _ (@pt_not _ _ _ _ (@tu_val _ _ _ (@pe_call _ _ _ _ _ _ _ _ _ _ _ _ _ _ _ _ G_is_term hr_is_term rfl T.m_is_term T.F_is_term.kp T.b_is_term .nil pass0 (@pa_cons _ _ _ _ _ (@vv _ 0 _ _ (by rfl) (by first | exact Or.inl rfl | exact Or.inr (Or.inl rfl) | exact Or.inr (Or.inr rfl)) (by decide) (by decide)) (@pa_cons _ _ _ _ _ (@vv _ 3 _ _ (by rfl) (by first | exact Or.inl rfl | exact Or.inr (Or.inl rfl) | exact Or.inr (Or.inr rfl)) (by decide) (by decide)) (@pa_nil _) (by rfl)) (by rfl)) (by decide) (by rfl) (by rfl)) (by intro _; rfl))) (@pw_or1 _ _ _ _ (@tu_cmp _ _ _ _ _ _ _ _ om_le (@kIx _ K _ _ _ _ _ (@vv _ 3 _ _ (by rfl) (by first | exact Or.inl rfl | exact Or.inr (Or.inl rfl) | exact Or.inr (Or.inr rfl)) (by decide) (by decide)) (@pe_int _ _ _ _) (by intro _ _; rfl) (by rfl)) (@vv _ 2 _ _ (by rfl) (by first | exact Or.inl rfl | exact Or.inr (Or.inl rfl) | exact Or.inr (Or.inr rfl)) (by decide) (by decide)) (by first | exact nobehind _ (by decide) (by decide) | rfl))))) (@pss_one _ _ _ (@ps_ret _ _ _ _ (@pe_bl _ _ _ _))) (@pss_nil _)) (@pss_one _ _ _ (@ps_set _ _ 2 _ _ _ _ sc_are_terms.nd rfl (by first | exact Or.inl rfl | exact Or.inr rfl) (@kIx _ K _ _ _ _ _ (@vv _ 3 _ _ (by rfl) (by first | exact Or.inl rfl | exact Or.inr (Or.inl rfl) | exact Or.inr (Or.inr rfl)) (by decide) (by decide)) (@pe_int _ _ _ _) (by intro _ _; rfl) (by rfl)) (by rfl) (by first | exact .inl rfl | exact .inr rfl | assumption)))) (by intro _; rfl)) (@pss_one _ _ _ (@ps_ret _ _ _ _ (@pe_bl _ _ _ _))))), ?_⟩
  refine .inr ⟨⟨_, hs⟩, ?_⟩
  refine for_tup (xs := xs) (fun i σ H' => ∃ (last : Int) (z : Option V), σ = [some (.int m), some (.ref p), some (.int last), z] ∧ H' = H ∧ termsB m (-1) ds = termsB m last (ds.drop i)) ⟨-1, none, rfl, rfl, rfl⟩ (fun i σ H' _ ⟨_, _, _, e, _⟩ => by rw [e]; exact hs) ?_ ?_
  · rintro i x σ H' hxi ⟨last, z, rfl, rfl, et⟩
    obtain ⟨d, hdi, rd⟩ := reps_get hx hxi
    have hdr : ds.drop i = d :: ds.drop (i + 1) := by
      obtain ⟨hi, e⟩ := List.getElem?_eq_some_iff.mp hdi
      rw [← e]
      exact List.drop_eq_getElem_cons hi
    rw [hdr] at et
    refine ⟨m, d, rfl, m6, rd, ?_⟩
    cases ht : termB m d with
    | false =>
      have e0 : termsB m (-1) ds = false := by rw [et]; show (termB m d && _) = false; rw [ht]; rfl
      rw [e0] at q
      exact q
    | true =>
      obtain ⟨i0, w0, rfl, _, _⟩ := termB_inv ht
      obtain ⟨p1, xs1, rfl, hs1, hx1⟩ := rep_tup_inv rd
      obtain ⟨x0, l0, rfl, r0, hx1⟩ := reps_cons_inv hx1
      unfold Rep at r0
      subst r0
      refine ⟨_, _, .inr hs1, atI_of (n := 0) rfl rfl, ?_⟩
      refine ite2 (fun e => ?_) (fun e => ?_)
      · have e' : i0 ≤ last := of_decide_eq_true e
        have e0 : termsB m (-1) ds = false := by
          rw [et]
          show (termB m _ && (decide (last < i0) && _)) = false
          rw [decide_eq_false (by omega), Bool.false_and, Bool.and_false]
        rw [e0] at q
        exact q
      · have e' : ¬ i0 ≤ last := fun z => e (decide_eq_true z)
        refine ⟨_, _, .inr hs1, atI_of (n := 0) rfl rfl, i0, _, rfl, rfl, ?_⟩
        rw [et]
        show (termB m _ && (decide (last < i0) && termsB m i0 _)) = _
        rw [ht, decide_eq_true (by omega), Bool.true_and, Bool.true_and]
  · rintro σ H' ⟨last, z, rfl, rfl, et⟩
    rw [← hl, List.drop_length] at et
    rw [et] at q
    exact q
def formB : Dv → Bool
  | .tup [.int n, .tup ds] => decide (1 ≤ n) && (decide (n ≤ 6) && termsB n.toNat (-1) ds)
  | _ => false
theorem ok_has_terms : FnOk P w K mg base CX0 6 T.f_has_terms T.d_has_terms ["thing"] (sp_dE K formB) := by
  have G_are_terms := ok_are_terms (P := P) (w := w) (base := base) T; have G_is_pair := ok_is_pair (P := P) (w := w) (base := base) T; have G_is_whole := ok_is_whole (P := P) (w := w) (base := base) T
  refine T.F_has_terms.ok sc_has_terms (fun vs H Q E h => by unfold sp_dE at h; split at h <;> first | rfl | exact h.elim) (fun cdv A outer s H vs Q E hr h => ?_)
  have hu := hu60 hr
  have hr_are_terms := hr.mono (show 5 ≤ _ by decide); have hr_is_pair := hr.mono (show 1 ≤ _ by decide); have hr_is_whole := hr.mono (show 1 ≤ _ by decide)
  match vs, h with
  | [v], h =>
  refine ⟨_, (@pss_cons _ _ _ _ _ (@ps_if _ _ _ _ _ _ _ _ (PW.pt (@pw_or _ _ _ _ _ _ _ (@pt_not _ _ _ _ (@tu_val _ _ _ (@pe_call _ _ _ _ _ _ _ _ _ _ _ _ _ _ _ _ G_is_pair hr_is_pair rfl T.m_is_pair T.F_is_pair.kp T.b_is_pair .nil pass0 (@pa_cons _ _ _ _ _ (@vv _ 0 _ _ (by rfl) (by first | exact Or.inl rfl | exact Or.inr (Or.inl rfl) | exact Or.inr (Or.inr rfl)) (by decide) (by decide)) (@pa_nil _) (by rfl)) (by decide) (by rfl) (by rfl)) (by intro _; rfl))) (@pw_or _ _ _ _ _ _ _ (@pt_not _ _ _ _ (@tu_val _ _ _ (@pe_call _ _ _ _ _ _ _ _ _ _ _ _ _ _ _ _ G_is_whole hr_is_whole rfl T.m_is_whole T.F_is_whole.kp T.b_is_whole .nil pass0 (@pa_cons _ _ _ _ _ (@kIx _ K _ _ _ _ _ (@vv _ 0 _ _ (by rfl) (by first | exact Or.inl rfl | exact Or.inr (Or.inl rfl) | exact Or.inr (Or.inr rfl)) (by decide) (by decide)) (@pe_int _ _ _ _) (by intro _ _; rfl) (by rfl)) (@pa_nil _) (by rfl)) (by decide) (by rfl) (by rfl)) (by intro _; rfl))) (@pw_or1 _ _ _ _ (@pt_not _ _ _ _ (@tu_val _ _ _ (@pe_callB _ _ _ _ _ _ _ _ _ (kIsiE (K := K)) rfl T.z_isinstance (by rfl) (@pa_cons _ _ _ _ _ (@kIx _ K _ _ _ _ _ (@vv _ 0 _ _ (by rfl) (by first | exact Or.inl rfl | exact Or.inr (Or.inl rfl) | exact Or.inr (Or.inr rfl)) (by decide) (by decide)) (@pe_int _ _ _ _) (by intro _ _; rfl) (by rfl)) (@pa_cons _ _ _ _ _ (@pe_bltn _ _ (.ty "tuple") _ _ rfl T.z_tuple (by rfl) rfl (by decide) (by decide)) (@pa_nil _) (by rfl)) (by rfl)) (by decide) (by decide) (by rfl) (by rfl)) (by intro _; rfl))))))) (@pss_one _ _ _ (@ps_ret _ _ _ _ (@pe_bl _ _ _ _))) (@pss_nil _)) (@pss_one _ _ _ (@ps_ret _ _ _ _ (@pe_andM _ _ _ _ _ _ _ (@pe_chainM _ _ _ _ _ _ _ _ _ _ _ _ om_le om_le (@pe_int _ _ _ _) (@kIx _ K _ _ _ _ _ (@vv _ 0 _ _ (by rfl) (by first | exact Or.inl rfl | exact Or.inr (Or.inl rfl) | exact Or.inr (Or.inr rfl)) (by decide) (by decide)) (@pe_int _ _ _ _) (by intro _ _; rfl) (by rfl)) (@pe_glob _ _ (.int 6) _ _ rfl T.c_MOST_SWITCHES ⟨_, rfl⟩ (by decide)) (by with_unfolding_all rfl)) (@pe_one _ _ _ _ _ (@pe_call _ _ _ _ _ _ _ _ _ _ _ _ _ _ _ _ G_are_terms hr_are_terms rfl T.m_are_terms T.F_are_terms.kp T.b_are_terms .nil pass0 (@pa_cons _ _ _ _ _ (@kIx _ K _ _ _ _ _ (@vv _ 0 _ _ (by rfl) (by first | exact Or.inl rfl | exact Or.inr (Or.inl rfl) | exact Or.inr (Or.inr rfl)) (by decide) (by decide)) (@pe_int _ _ _ _) (by intro _ _; rfl) (by rfl)) (@pa_cons _ _ _ _ _ (@kIx _ K _ _ _ _ _ (@vv _ 0 _ _ (by rfl) (by first | exact Or.inl rfl | exact Or.inr (Or.inl rfl) | exact Or.inr (Or.inr rfl)) (by decide) (by decide)) (@pe_int _ _ _ _) (by intro _ _; rfl) (by rfl)) (@pa_nil _) (by rfl)) (by rfl)) (by decide) (by rfl) (by rfl))))))), ?_⟩
  rcases h with ⟨d, hd, q⟩ | ⟨a, kvs, rfl, ha, q⟩
  · refine .inl ⟨d, hd, ?_⟩
    by_cases hp : isPairD d = true
    · cases d with
      | tup ds =>
        match ds, hp with
        | [a, b], _ =>
        obtain ⟨p, xs, rfl, hs, hx⟩ := rep_tup_inv hd
        obtain ⟨x0, l0, rfl, r0, hx⟩ := reps_cons_inv hx
        obtain ⟨x1, l1, rfl, r1, hx⟩ := reps_cons_inv hx
        unfold Reps at hx
        subst hx
        refine ⟨_, _, .inr hs, rfl, a, r0, ?_⟩
        cases a with
        | int n =>
          unfold Rep at r0
          subst r0
          refine ⟨_, _, .inr hs, rfl, .inl ⟨by decide, b, r1, ?_⟩⟩
          cases b with
          | tup ts =>
            have q : Q (.bl (decide (1 ≤ n) && (decide (n ≤ 6) && termsB n.toNat (-1) ts))) H := q
            refine ⟨_, _, .inr hs, rfl, ?_⟩
            refine ite2 (fun e => ?_) (fun e => ?_)
            · have e1 : 1 ≤ n := of_decide_eq_true e
              rw [decide_eq_true e1, Bool.true_and] at q
              refine ite2 (fun e => ?_) (fun e => ?_)
              · have e2 : n ≤ 6 := of_decide_eq_true e
                rw [decide_eq_true e2, Bool.true_and] at q
                exact ⟨_, _, .inr hs, rfl, _, _, .inr hs, rfl, n.toNat, ts, (by omega), (by omega), r1, q⟩
              · have e2 : ¬ n ≤ 6 := fun z => e (decide_eq_true z)
                rw [decide_eq_false e2, Bool.false_and] at q
                have e3 : decide (n ≤ 6) = false := decide_eq_false e2
                first | exact q | (rw [← e3] at q; exact q)
            · have e1 : ¬ 1 ≤ n := fun z => e (decide_eq_true z)
              rw [decide_eq_false e1, Bool.false_and] at q
              exact q
          | _ => exact q
        | _ => exact q
      | _ => cases hp
    · have hp' : isPairD d = false := by simpa using hp
      have ht : formB d = false := by
        cases d with
        | tup ds =>
          match ds, hp' with
          | [], _ => rfl
          | [_], _ => simp [formB]
          | [_, _], h => cases h
          | _ :: _ :: _ :: _, _ => simp [formB]
        | _ => rfl
      rw [ht] at q
      rw [hp']
      exact q
  · exact .inr ⟨a, kvs, rfl, ha, q⟩
def withinD (lo hi : Int) : Dv → Bool
  | .int i => decide (lo ≤ i) && decide (i ≤ hi)
  | _ => false
def sp_within (K : PySem.W.Frag) : Sp := fun vs H Q _ => match vs with
  | [v, .int lo, .int hi] => ∃ d, Rep K H d v ∧ Q (.bl (withinD lo hi d)) H
  | _ => False
theorem ok__law_within : FnOk P w K mg base CX0 1 T.f__law_within T.d__law_within ["_law_thing", "_law_least", "_law_greatest"] (sp_within K) := by
  refine T.F__law_within.ok sc__law_within (fun vs H Q E h => by unfold sp_within at h; split at h <;> first | rfl | exact h.elim) (fun cdv A outer s H vs Q E hr h => ?_)
  have hu := hu60 hr
  match vs, h with
  | [v, .int lo, .int hi], ⟨d, hd, q⟩ =>
  refine ⟨_, (@pss_one _ _ _ (@ps_ret _ _ _ _ (@pe_andM _ _ _ _ _ _ _ (@pe_callB _ _ _ _ _ _ _ _ _ (kIsiD (K := K)) rfl T.z_isinstance (by rfl) (@pa_cons _ _ _ _ _ (@vv _ 0 _ _ (by rfl) (by first | exact Or.inl rfl | exact Or.inr (Or.inl rfl) | exact Or.inr (Or.inr rfl)) (by decide) (by decide)) (@pa_cons _ _ _ _ _ (@pe_bltn _ _ (.ty "int") _ _ rfl T.z_int (by rfl) rfl (by decide) (by decide)) (@pa_nil _) (by rfl)) (by rfl)) (by decide) (by decide) (by rfl) (by rfl)) (@pe_andM _ _ _ _ _ _ _ (@pe_notM _ _ _ _ (@pe_callB _ _ _ _ _ _ _ _ _ (kIsiD (K := K)) rfl T.z_isinstance (by rfl) (@pa_cons _ _ _ _ _ (@vv _ 0 _ _ (by rfl) (by first | exact Or.inl rfl | exact Or.inr (Or.inl rfl) | exact Or.inr (Or.inr rfl)) (by decide) (by decide)) (@pa_cons _ _ _ _ _ (@pe_bltn _ _ (.ty "bool") _ _ rfl T.z_bool (by rfl) rfl (by decide) (by decide)) (@pa_nil _) (by rfl)) (by rfl)) (by decide) (by decide) (by rfl) (by rfl))) (@pe_one _ _ _ _ _ (@pe_chainM _ _ _ _ _ _ _ _ _ _ _ _ om_le om_le (@vv _ 1 _ _ (by rfl) (by first | exact Or.inl rfl | exact Or.inr (Or.inl rfl) | exact Or.inr (Or.inr rfl)) (by decide) (by decide)) (@vv _ 0 _ _ (by rfl) (by first | exact Or.inl rfl | exact Or.inr (Or.inl rfl) | exact Or.inr (Or.inr rfl)) (by decide) (by decide)) (@vv _ 2 _ _ (by rfl) (by first | exact Or.inl rfl | exact Or.inr (Or.inl rfl) | exact Or.inr (Or.inr rfl)) (by decide) (by decide)) (by with_unfolding_all rfl))))))), ?_⟩
  refine ⟨by decide, d, hd, ?_⟩
  cases d with
  | int i =>
    have hv : v = .int i := by unfold Rep at hd; exact hd
    subst hv
    refine ⟨by decide, .int i, hd, ?_⟩
    have q : Q (.bl (decide (lo ≤ i) && decide (i ≤ hi))) H := q
    refine ite2 (fun e => ?_) (fun e => ?_)
    · rw [decide_eq_true (of_decide_eq_true e : lo ≤ i), Bool.true_and] at q
      exact q
    · rw [decide_eq_false (fun z => e (decide_eq_true z)), Bool.false_and] at q
      exact q
  | bl b => exact ⟨by decide, .bl b, hd, q⟩
  | _ => exact q
theorem same_me (H : Hp) : Same H H := fun _ _ h => h
theorem rep_two_inv {H : Hp} {a b : Dv} {v : V} (h : Rep K H (.tup [a, b]) v) : ∃ p x y, v = .ref p ∧ SqT K H p [x, y] ∧ Rep K H a x ∧ Rep K H b y := by
  obtain ⟨p, xs, rfl, hs, hx⟩ := rep_tup_inv h
  obtain ⟨x0, l0, rfl, r0, hx⟩ := reps_cons_inv hx
  obtain ⟨x1, l1, rfl, r1, hx⟩ := reps_cons_inv hx
  unfold Reps at hx
  subst hx
  exact ⟨p, x0, x1, rfl, hs, r0, r1⟩
theorem rep_pair_inv {H : Hp} {i j : Int} {v : V} (h : Rep K H (.tup [.int i, .int j]) v) : ∃ p, v = .ref p ∧ SqT K H p [.int i, .int j] := by
  obtain ⟨p, x, y, rfl, hs, r0, r1⟩ := rep_two_inv h
  unfold Rep at r0 r1
  subst r0 r1
  exact ⟨p, rfl, hs⟩
def sqD : Dv → Int
  | .tup [_, .int w] => w * w
  | _ => 0
def sqs (ds : List Dv) : Int := (ds.map sqD).sum
def lowD : Dv → Prop
  | .tup [_, .int w] => -1000 ≤ w ∧ w ≤ 1000
  | _ => True
def lowG : Dv → Prop
  | .tup [_, .tup ds] => ∀ d ∈ ds, lowD d
  | _ => True
def restB : Dv → Bool
  | .tup [.int n, .tup ds] => decide (sqs ds ≤ ((2 ^ (2 * n.toNat) : Nat) : Int))
  | _ => false
def glB (d : Dv) : Bool := formB d && restB d
theorem formB_inv {d : Dv} (h : formB d = true) : ∃ (n : Nat) (ds : List Dv), d = .tup [.int n, .tup ds] ∧ 1 ≤ n ∧ n ≤ 6 ∧ termsB n (-1) ds = true := by
  unfold formB at h
  split at h
  · rename_i n ds
    rw [Bool.and_eq_true, Bool.and_eq_true] at h
    obtain ⟨h1, h2, h3⟩ := h
    have h1 := of_decide_eq_true h1
    have h2 := of_decide_eq_true h2
    obtain ⟨k, rfl⟩ := Int.eq_ofNat_of_zero_le (show 0 ≤ n by omega)
    exact ⟨k, ds, rfl, by omega, by omega, h3⟩
  · cases h
theorem termsB_len (m : Nat) : ∀ (ds : List Dv) (last : Int), last < ((2 ^ m : Nat) : Int) → termsB m last ds = true → last + ds.length < ((2 ^ m : Nat) : Int)
  | [], last, h, _ => by simpa using h
  | d :: ds, last, h, e => by
    have e : (termB m d && (decide (last < idxD d) && termsB m (idxD d) ds)) = true := e
    rw [Bool.and_eq_true, Bool.and_eq_true] at e
    obtain ⟨e1, e2, e3⟩ := e
    obtain ⟨i, w, rfl, _, hi⟩ := termB_inv e1
    have := termsB_len m ds i hi e3
    have e2 : last < i := of_decide_eq_true e2
    rw [List.length_cons]
    omega
theorem termsB_mem (m : Nat) : ∀ (ds : List Dv) (last : Int), termsB m last ds = true → ∀ d ∈ ds, termB m d = true
  | [], _, _, d, h => by cases h
  | d :: ds, last, e, x, hx => by
    have e : (termB m d && (decide (last < idxD d) && termsB m (idxD d) ds)) = true := e
    rw [Bool.and_eq_true, Bool.and_eq_true] at e
    rcases List.mem_cons.mp hx with rfl | h
    · exact e.1
    · exact termsB_mem m ds _ e.2.2 x h
def sp_squaresD (K : PySem.W.Frag) : Sp := fun vs H Q _ => match vs with
  | [x] => ∃ (m : Nat) (n : Int) (ds : List Dv), Rep K H (.tup [.int n, .tup ds]) x ∧ termsB m (-1) ds = true ∧ m ≤ 6 ∧ (∀ d ∈ ds, lowD d) ∧ ∀ H', Same H H' → Q (.int (sqs ds)) H'
  | _ => False
theorem ok_squares : FnOk P w K mg base CX0 1 T.f_squares T.d_squares ["one"] (sp_squaresD K) := by
  refine T.F_squares.ok sc_squares (fun vs H Q E h => by unfold sp_squaresD at h; split at h <;> first | rfl | exact h.elim) (fun cdv A outer s H vs Q E hr h => ?_)
  have hu := hu60 hr
  match vs, h with
  | [x], ⟨m, n, ds, hd, ht, m6, lo, q⟩ =>
  have h64 : 2 ^ m ≤ 64 := Nat.pow_le_pow_right (n := 2) (by decide) m6
  have hdl := termsB_len m ds (-1) (by have := Nat.two_pow_pos m; omega) ht
  have hmem := termsB_mem m ds (-1) ht
  obtain ⟨a, xs, rfl, ha, hx⟩ := rep_tup_inv hd
  obtain ⟨x0, l0, rfl, r0, hx⟩ := reps_cons_inv hx
  obtain ⟨x1, l1, rfl, r1, hx⟩ := reps_cons_inv hx
  obtain ⟨b, us, rfl, hb, hR⟩ := rep_tup_inv r1
  have hul := hR.length
  refine ⟨_, (@pss_one _ _ _ (@ps_ret _ _ _ _ (@pe_callB _ _ _ _ _ _ _ _ _ (kSum (K := K) rfl) rfl T.z_sum (by rfl) (@pa_cons _ _ _ _ _ (@pe_compB _ _ _ _ _ _ _ (["subset", "weight"]) 2 [] _ _ _ _ rfl (@kSeq _ K _ _ _ (@kIx _ K _ _ _ _ _ (@vv _ 0 _ _ (by rfl) (by first | exact Or.inl rfl | exact Or.inr (Or.inl rfl) | exact Or.inr (Or.inr rfl)) (by decide) (by decide)) (@pe_int _ _ _ _) (by intro _ _; rfl) (by rfl)) (by rfl)) (by kernel_rfl) rfl rfl (by kernel_rfl) (fun c => @kTup _ K _ _ _ _ 2 rfl (@pgs_cons _ _ _ _ _ (@pg_name _ _ 0 _ (show (["subset", "weight"] : List Str).Nodup by decide +kernel) rfl (by first | exact Or.inl rfl | exact Or.inr rfl) (by first | exact .inl rfl | exact .inr rfl | assumption)) (@pgs_cons _ _ _ _ _ (@pg_name _ _ 1 _ (show (["subset", "weight"] : List Str).Nodup by decide +kernel) rfl (by first | exact Or.inl rfl | exact Or.inr rfl) (by first | exact .inl rfl | exact .inr rfl | assumption)) (@pgs_nil _) (by rfl)) (by rfl)) (by rfl) (by rfl) (by rfl)) (go_tup (gos_cons gm_name (gms_cons gm_name gms_nil) (go_name (by decide)) (gos_cons gm_name gms_nil (go_name (by decide)) gos_nil))) (fun c => @pts_nil _) (fun c => (@pe_op _ _ _ _ _ _ _ _ om_mul (@vv _ 1 _ _ (by rfl) (by first | exact Or.inl rfl | exact Or.inr (Or.inl rfl) | exact Or.inr (Or.inr rfl)) (by decide) (by decide)) (@vv _ 1 _ _ (by rfl) (by first | exact Or.inl rfl | exact Or.inr (Or.inl rfl) | exact Or.inr (Or.inr rfl)) (by decide) (by decide)))) (by intro _; rfl)) (@pa_nil _) (by rfl)) (by decide) (by decide) (by rfl) (by rfl)))), ?_⟩
  refine ⟨_, .ref b, .inr ha, atI_of (n := 1) rfl rfl, .inr ⟨⟨_, hb⟩, ?_⟩⟩
  refine comp_tup (xs := us) (fun i ys H' => H' = H ∧ ys = ((ds.take i).map sqD).map V.int) ⟨rfl, rfl⟩ (fun i ys H' _ ⟨e, _⟩ => by rw [e]; exact hb) (fun i ys H' hi ⟨_, e⟩ => by
    rw [e, List.length_map, List.length_map, List.length_take]; exact small1000 (by omega)) ?_ ?_
  · rintro i x ys H' hxi ⟨rfl, rfl⟩
    obtain ⟨d, hdi, rd⟩ := reps_get hR hxi
    have hm := List.mem_of_getElem? hdi
    have hl := lo d hm
    obtain ⟨i0, w0, rfl, _, _⟩ := termB_inv (hmem d hm)
    have hl : -1000 ≤ w0 ∧ w0 ≤ 1000 := hl
    obtain ⟨c, rfl, hc⟩ := rep_pair_inv rd
    refine ⟨c, _, rfl, hc, rfl, _, _, rfl, _, _, rfl, rfl, .inr (.inl ⟨by omega, by omega⟩), rfl, ?_⟩
    rw [List.take_add_one, hdi, List.map_append, List.map_append]
    rfl
  · rintro ys H' ⟨rfl, rfl⟩ lp hlp
    rw [List.take_of_length_le (by omega)]
    exact ⟨_, .of upd_same, q _ (Same.upd hlp)⟩
def sp_rest (K : PySem.W.Frag) : Sp := fun vs H Q _ => match vs with
  | [x] => ∃ (m : Nat) (ds : List Dv), Rep K H (.tup [.int m, .tup ds]) x ∧ termsB m (-1) ds = true ∧ m ≤ 6 ∧ (∀ d ∈ ds, lowD d) ∧ ∀ H', Same H H' → Q (.int (((2 ^ (2 * m) : Nat) : Int) - sqs ds)) H'
  | _ => False
theorem ok_rest_of : FnOk P w K mg base CX0 3 T.f_rest_of T.d_rest_of ["glance"] (sp_rest K) := by
  have G_two_to := ok_two_to (P := P) (w := w) (base := base) T; have G_squares := ok_squares (P := P) (w := w) (base := base) T
  refine T.F_rest_of.ok sc_rest_of (fun vs H Q E h => by unfold sp_rest at h; split at h <;> first | rfl | exact h.elim) (fun cdv A outer s H vs Q E hr h => ?_)
  have hu := hu60 hr
  have hr_two_to := hr.mono (show 2 ≤ _ by decide); have hr_squares := hr.mono (show 1 ≤ _ by decide)
  match vs, h with
  | [x], ⟨m, ds, hd, ht, m6, lo, q⟩ =>
  obtain ⟨a, xs, rfl, ha, hx⟩ := rep_tup_inv hd
  obtain ⟨x0, l0, rfl, r0, hx⟩ := reps_cons_inv hx
  unfold Rep at r0
  subst r0
  refine ⟨_, (@pss_one _ _ _ (@ps_ret _ _ _ _ (@pe_op _ _ _ _ _ _ _ _ om_sub (@pe_call _ _ _ _ _ _ _ _ _ _ _ _ _ _ _ _ G_two_to hr_two_to rfl T.m_two_to T.F_two_to.kp T.b_two_to .nil pass0 (@pa_cons _ _ _ _ _ (@pe_op _ _ _ _ _ _ _ _ om_mul (@pe_int _ _ _ _) (@kIx _ K _ _ _ _ _ (@vv _ 0 _ _ (by rfl) (by first | exact Or.inl rfl | exact Or.inr (Or.inl rfl) | exact Or.inr (Or.inr rfl)) (by decide) (by decide)) (@pe_int _ _ _ _) (by intro _ _; rfl) (by rfl))) (@pa_nil _) (by rfl)) (by decide) (by rfl) (by rfl)) (@pe_call _ _ _ _ _ _ _ _ _ _ _ _ _ _ _ _ G_squares hr_squares rfl T.m_squares T.F_squares.kp T.b_squares .nil pass0 (@pa_cons _ _ _ _ _ (@vv _ 0 _ _ (by rfl) (by first | exact Or.inl rfl | exact Or.inr (Or.inl rfl) | exact Or.inr (Or.inr rfl)) (by decide) (by decide)) (@pa_nil _) (by rfl)) (by decide) (by rfl) (by rfl))))), ?_⟩
  refine ⟨_, _, .inr ha, atI_of (n := 0) rfl rfl, .inr (.inl ⟨by decide, by decide⟩), 2 * m, by show (2 : Int) * (m : Int) = ((2 * m : Nat) : Int); omega, by omega, ?_⟩
  exact ⟨m, m, ds, hd, ht, m6, lo, q⟩
def sp_gl (K : PySem.W.Frag) : Sp := fun vs H Q _ => match vs with
  | [v] => (∃ d, Rep K H d v ∧ lowG d ∧ ∀ H', Same H H' → Q (.bl (glB d)) H') ∨ (∃ a kvs, v = .ref a ∧ H a = some (.dK kvs) ∧ ∀ H', Same H H' → Q (.bl false) H')
  | _ => False
theorem sp_gl_mono : SpMono (sp_gl K) := fun vs H Q Q' E h q => by
  unfold sp_gl at *
  split at q
  · rcases q with ⟨d, h1, h2, q⟩ | ⟨a, kvs, h1, h2, q⟩
    · exact .inl ⟨d, h1, h2, fun H' x => h _ _ (q H' x)⟩
    · exact .inr ⟨a, kvs, h1, h2, fun H' x => h _ _ (q H' x)⟩
  · exact q.elim
theorem ok_is_glance : FnOk P w K mg base CX0 7 T.f_is_glance T.d_is_glance ["thing"] (sp_gl K) := by
  have G_has_terms := ok_has_terms (P := P) (w := w) (base := base) T; have G_rest_of := ok_rest_of (P := P) (w := w) (base := base) T
  refine T.F_is_glance.ok sc_is_glance (fun vs H Q E h => by unfold sp_gl at h; split at h <;> first | rfl | exact h.elim) (fun cdv A outer s H vs Q E hr h => ?_)
  have hu := hu60 hr
  have hr_has_terms := hr.mono (show 6 ≤ _ by decide); have hr_rest_of := hr.mono (show 3 ≤ _ by decide)
  match vs, h with
  | [v], h =>
  refine ⟨_, (@pss_one _ _ _ (@ps_ret _ _ _ _ (@pe_andM _ _ _ _ _ _ _ (@pe_call _ _ _ _ _ _ _ _ _ _ _ _ _ _ _ _ G_has_terms hr_has_terms rfl T.m_has_terms T.F_has_terms.kp T.b_has_terms .nil pass0 (@pa_cons _ _ _ _ _ (@vv _ 0 _ _ (by rfl) (by first | exact Or.inl rfl | exact Or.inr (Or.inl rfl) | exact Or.inr (Or.inr rfl)) (by decide) (by decide)) (@pa_nil _) (by rfl)) (by decide) (by rfl) (by rfl)) (@pe_one _ _ _ _ _ (@pe_cmpM _ _ _ _ _ _ _ _ om_ge (@pe_call _ _ _ _ _ _ _ _ _ _ _ _ _ _ _ _ G_rest_of hr_rest_of rfl T.m_rest_of T.F_rest_of.kp T.b_rest_of .nil pass0 (@pa_cons _ _ _ _ _ (@vv _ 0 _ _ (by rfl) (by first | exact Or.inl rfl | exact Or.inr (Or.inl rfl) | exact Or.inr (Or.inr rfl)) (by decide) (by decide)) (@pa_nil _) (by rfl)) (by decide) (by rfl) (by rfl)) (@pe_int _ _ _ _) (by first | exact nobehind _ (by decide) (by decide) | rfl)))))), ?_⟩
  rcases h with ⟨d, hd, lo, q⟩ | ⟨a, kvs, rfl, ha, q⟩
  · refine .inl ⟨d, hd, ?_⟩
    unfold glB at q
    refine ite2 (fun e => ?_) (fun e => ?_)
    · rw [e, Bool.true_and] at q
      obtain ⟨n, ds, rfl, n1, n6, ht⟩ := formB_inv e
      refine ⟨n, ds, hd, ht, n6, lo, fun H' s' => ?_⟩
      have q := q H' s'
      have er : restB (.tup [.int n, .tup ds]) = decide (sqs ds ≤ ((2 ^ (2 * n) : Nat) : Int)) := rfl
      rw [er] at q
      generalize ((2 ^ (2 * n) : Nat) : Int) = N at *
      have e0 : decide (0 ≤ N - sqs ds) = decide (sqs ds ≤ N) := by
        rw [Bool.eq_iff_iff]; simp only [decide_eq_true_eq]; omega
      rw [← e0] at q
      exact q
    · have e' : formB d = false := by simpa using e
      rw [e', Bool.false_and] at q
      exact q H (same_me _)
  · exact .inr ⟨a, kvs, rfl, ha, q H (same_me _)⟩
theorem sqD_nn (d : Dv) : 0 ≤ sqD d := by
  unfold sqD
  split
  · rename_i w
    rcases Int.le_total 0 w with h | h
    · exact Int.mul_nonneg h h
    · exact Int.mul_nonneg_of_nonpos_of_nonpos h h
  · exact Int.le_refl _
theorem sqs_nn : ∀ ds : List Dv, 0 ≤ sqs ds
  | [] => Int.le_refl _
  | d :: ds => by
    have h1 := sqD_nn d
    have h2 := sqs_nn ds
    show 0 ≤ ((d :: ds).map sqD).sum
    rw [List.map_cons, List.sum_cons]
    show 0 ≤ sqD d + sqs ds
    omega
theorem sqs_cons (d : Dv) (ds : List Dv) : sqs (d :: ds) = sqD d + sqs ds := by
  show ((d :: ds).map sqD).sum = _
  rw [List.map_cons, List.sum_cons]
  rfl
theorem sq_big {S w : Int} (hS : 0 < S) (h : w < -S ∨ S < w) : S * S < w * w := by
  rcases h with h | h
  · have h1 : S * S ≤ S * (-w) := Int.mul_le_mul_of_nonneg_left (by omega) (by omega)
    have h2 : S * (-w) < (-w) * (-w) := Int.mul_lt_mul_of_pos_right (by omega) (by omega)
    rw [Int.neg_mul_neg] at h2
    omega
  · have h1 : S * S ≤ S * w := Int.mul_le_mul_of_nonneg_left (by omega) (by omega)
    have h2 : S * w < w * w := Int.mul_lt_mul_of_pos_right (by omega) (by omega)
    omega
def tailB (m : Nat) (last whole : Int) (ds : List Dv) : Bool := termsB m last ds && decide (whole + sqs ds ≤ ((2 ^ m : Nat) : Int) * ((2 ^ m : Nat) : Int))
theorem tailB_no {m : Nat} {last whole : Int} {d : Dv} {ds : List Dv} (h : termB m d = false) : tailB m last whole (d :: ds) = false := by
  show ((termB m d && _) && _) = false
  rw [h]; rfl
theorem tailB_last {m : Nat} {last whole : Int} {d : Dv} {ds : List Dv} (h : idxD d ≤ last) : tailB m last whole (d :: ds) = false := by
  show ((termB m d && (decide (last < idxD d) && _)) && _) = false
  rw [decide_eq_false (by omega), Bool.false_and, Bool.and_false, Bool.false_and]
theorem tailB_big {m : Nat} {last whole i w : Int} {ds : List Dv} (h0 : 0 ≤ whole) (h : w < -((2 ^ m : Nat) : Int) ∨ ((2 ^ m : Nat) : Int) < w) : tailB m last whole (.tup [.int i, .int w] :: ds) = false := by
  show (_ && decide (whole + sqs (.tup [.int i, .int w] :: ds) ≤ _)) = false
  rw [sqs_cons]
  have h1 := sqs_nn ds
  have h2 := sq_big (S := ((2 ^ m : Nat) : Int)) (by have := Nat.two_pow_pos m; omega) h
  rw [decide_eq_false (by show ¬ whole + (w * w + sqs ds) ≤ _; omega), Bool.and_false]
theorem tailB_step {m : Nat} {last whole i w : Int} {ds : List Dv} (h1 : 0 ≤ i) (h2 : i < ((2 ^ m : Nat) : Int)) (h3 : last < i) : tailB m last whole (.tup [.int i, .int w] :: ds) = tailB m i (whole + w * w) ds := by
  show (((decide (0 ≤ i) && decide (i < ((2 ^ m : Nat) : Int)) && true) && (decide (last < i) && termsB m i ds)) && decide (whole + sqs (.tup [.int i, .int w] :: ds) ≤ _)) = (termsB m i ds && decide (whole + w * w + sqs ds ≤ _))
  rw [decide_eq_true h1, decide_eq_true h2, decide_eq_true h3, sqs_cons, Int.add_assoc]
  rfl
theorem glB_tail {m : Nat} {ds : List Dv} (h1 : 1 ≤ m) (h6 : m ≤ 6) : glB (.tup [.int m, .tup ds]) = tailB m (-1) 0 ds := by
  show ((decide (1 ≤ (m : Int)) && (decide ((m : Int) ≤ 6) && termsB m (-1) ds)) && decide (sqs ds ≤ ((2 ^ (2 * m) : Nat) : Int))) = (termsB m (-1) ds && decide (0 + sqs ds ≤ _))
  rw [decide_eq_true (show 1 ≤ (m : Int) by omega), decide_eq_true (show (m : Int) ≤ 6 by omega), Int.zero_add, ← Int.natCast_mul, ← Nat.pow_add, ← Nat.two_mul]
  rfl
theorem glB_len {ds : List Dv} (h : ds.length ≠ 2) : glB (.tup ds) = false := by
  match ds, h with
  | [], _ => rfl
  | [_], _ => simp [glB, formB]
  | [_, _], h => exact absurd rfl h
  | _ :: _ :: _ :: _, _ => simp [glB, formB]
theorem termB_len {m : Nat} {ds : List Dv} (h : ds.length ≠ 2) : termB m (.tup ds) = false := by
  match ds, h with
  | [], _ => rfl
  | [_], _ => rfl
  | [_, _], h => exact absurd rfl h
  | _ :: _ :: _ :: _, _ => rfl
theorem within_inv {lo hi : Int} {d : Dv} (h : withinD lo hi d = true) : ∃ i, d = .int i ∧ lo ≤ i ∧ i ≤ hi := by
  cases d with
  | int i =>
    have h : (decide (lo ≤ i) && decide (i ≤ hi)) = true := h
    rw [Bool.and_eq_true] at h
    exact ⟨i, rfl, of_decide_eq_true h.1, of_decide_eq_true h.2⟩
  | _ => cases h
theorem within_not {lo hi i : Int} (h : withinD lo hi (.int i) = false) : i < lo ∨ hi < i := by
  have h : (decide (lo ≤ i) && decide (i ≤ hi)) = false := h
  by_cases h1 : lo ≤ i
  · rw [decide_eq_true h1, Bool.true_and] at h
    have := of_decide_eq_false h
    omega
  · omega
theorem glB_first {a b : Dv} (h : withinD 1 6 a = false) : glB (.tup [a, b]) = false := by
  cases a with
  | int n =>
    cases b with
    | tup ds =>
      show ((decide (1 ≤ n) && (decide (n ≤ 6) && _)) && _) = false
      rcases within_not h with h | h
      · rw [decide_eq_false (by omega : ¬ 1 ≤ n)]; rfl
      · rw [decide_eq_false (by omega : ¬ n ≤ 6), Bool.false_and, Bool.and_false]; rfl
    | _ => rfl
  | _ => rfl
theorem tailB_first {m : Nat} {last whole : Int} {a b : Dv} {ds : List Dv} (h : withinD (last + 1) (((2 ^ m : Nat) : Int) - 1) a = false) (h1 : -1 ≤ last) : tailB m last whole (.tup [a, b] :: ds) = false := by
  cases a with
  | int i =>
    by_cases hi : i ≤ last
    · exact tailB_last hi
    · refine tailB_no ?_
      show ((decide (0 ≤ i) && decide (i < ((2 ^ m : Nat) : Int))) && isWholeD b) = false
      rcases within_not h with h | h
      · omega
      · rw [decide_eq_false (by omega : ¬ i < ((2 ^ m : Nat) : Int)), Bool.and_false]; rfl
  | _ => exact tailB_no rfl
theorem tailB_second {m : Nat} {last whole i : Int} {b : Dv} {ds : List Dv} (h : withinD (0 - ((2 ^ m : Nat) : Int)) ((2 ^ m : Nat) : Int) b = false) (h1 : 0 ≤ whole) : tailB m last whole (.tup [.int i, b] :: ds) = false := by
  cases b with
  | int w => exact tailB_big h1 (by have := within_not h; omega)
  | _ => exact tailB_no (by show (_ && false) = false; rw [Bool.and_false])
theorem ok__law_is_glance : FnOk P w K mg base CX0 2 T.f__law_is_glance T.d__law_is_glance ["_law_thing"] (sp_gl K) := by
  have G__law_within := ok__law_within (P := P) (w := w) (base := base) T
  refine T.F__law_is_glance.ok sc__law_is_glance (fun vs H Q E h => by unfold sp_gl at h; split at h <;> first | rfl | exact h.elim) (fun cdv A outer s H vs Q E hr h => ?_)
  have hu := hu60 hr
  have hr__law_within := hr.mono (show 1 ≤ _ by decide)
  match vs, h with
  | [v], h =>
  refine ⟨_, (@pss_cons _ _ _ _ _ (@ps_if _ _ _ _ _ _ _ _ (PW.pt (@pw_or _ _ _ _ _ _ _ (@pt_not _ _ _ _ (@tu_val _ _ _ (@pe_callB _ _ _ _ _ _ _ _ _ (kIsiE (K := K)) rfl T.z_isinstance (by rfl) (@pa_cons _ _ _ _ _ (@vv _ 0 _ _ (by rfl) (by first | exact Or.inl rfl | exact Or.inr (Or.inl rfl) | exact Or.inr (Or.inr rfl)) (by decide) (by decide)) (@pa_cons _ _ _ _ _ (@pe_bltn _ _ (.ty "tuple") _ _ rfl T.z_tuple (by rfl) rfl (by decide) (by decide)) (@pa_nil _) (by rfl)) (by rfl)) (by decide) (by decide) (by rfl) (by rfl)) (by intro _; rfl))) (@pw_or _ _ _ _ _ _ _ (@tu_cmp _ _ _ _ _ _ _ _ (kNe (K := K) hu) (@pe_callB _ _ _ _ _ _ _ _ _ (kLen (K := K)) rfl T.z_len (by rfl) (@pa_cons _ _ _ _ _ (@vv _ 0 _ _ (by rfl) (by first | exact Or.inl rfl | exact Or.inr (Or.inl rfl) | exact Or.inr (Or.inr rfl)) (by decide) (by decide)) (@pa_nil _) (by rfl)) (by decide) (by decide) (by rfl) (by rfl)) (@pe_int _ _ _ _) (by first | exact nobehind _ (by decide) (by decide) | rfl)) (@pw_or1 _ _ _ _ (@pt_not _ _ _ _ (@tu_val _ _ _ (@pe_call _ _ _ _ _ _ _ _ _ _ _ _ _ _ _ _ G__law_within hr__law_within rfl T.m__law_within T.F__law_within.kp T.b__law_within .nil pass0 (@pa_cons _ _ _ _ _ (@kIx _ K _ _ _ _ _ (@vv _ 0 _ _ (by rfl) (by first | exact Or.inl rfl | exact Or.inr (Or.inl rfl) | exact Or.inr (Or.inr rfl)) (by decide) (by decide)) (@pe_int _ _ _ _) (by intro _ _; rfl) (by rfl)) (@pa_cons _ _ _ _ _ (@pe_int _ _ _ _) (@pa_cons _ _ _ _ _ (@pe_int _ _ _ _) (@pa_nil _) (by rfl)) (by rfl)) (by rfl)) (by decide) (by rfl) (by rfl)) (by intro _; rfl))))))) (@pss_one _ _ _ (@ps_ret _ _ _ _ (@pe_bl _ _ _ _))) (@pss_nil _)) (@pss_cons _ _ _ _ _ (@ps_set _ _ 1 _ _ _ _ sc__law_is_glance.nd rfl (by first | exact Or.inl rfl | exact Or.inr rfl) (@pe_op _ _ _ _ _ _ _ _ om_shl (@pe_int _ _ _ _) (@kIx _ K _ _ _ _ _ (@vv _ 0 _ _ (by rfl) (by first | exact Or.inl rfl | exact Or.inr (Or.inl rfl) | exact Or.inr (Or.inr rfl)) (by decide) (by decide)) (@pe_int _ _ _ _) (by intro _ _; rfl) (by rfl))) (by rfl) (by first | exact .inl rfl | exact .inr rfl | assumption)) (@pss_cons _ _ _ _ _ (@ps_if _ _ _ _ _ _ _ _ (@pt_not _ _ _ _ (@tu_val _ _ _ (@pe_callB _ _ _ _ _ _ _ _ _ (kIsiE (K := K)) rfl T.z_isinstance (by rfl) (@pa_cons _ _ _ _ _ (@kIx _ K _ _ _ _ _ (@vv _ 0 _ _ (by rfl) (by first | exact Or.inl rfl | exact Or.inr (Or.inl rfl) | exact Or.inr (Or.inr rfl)) (by decide) (by decide)) (@pe_int _ _ _ _) (by intro _ _; rfl) (by rfl)) (@pa_cons _ _ _ _ _ (@pe_bltn _ _ (.ty "tuple") _ _ rfl T.z_tuple (by rfl) rfl (by decide) (by decide)) (@pa_nil _) (by rfl)) (by rfl)) (by decide) (by decide) (by rfl) (by rfl)) (by intro _; rfl))) (@pss_one _ _ _ (@ps_ret _ _ _ _ (@pe_bl _ _ _ _))) (@pss_nil _)) (@pss_cons _ _ _ _ _ (@ps_set _ _ 2 _ _ _ _ sc__law_is_glance.nd rfl (by first | exact Or.inl rfl | exact Or.inr rfl) (@pe_un _ _ _ _ _ _ um_neg (@pe_int _ _ _ _)) (by rfl) (by first | exact .inl rfl | exact .inr rfl | assumption)) (@pss_cons _ _ _ _ _ (@ps_set _ _ 3 _ _ _ _ sc__law_is_glance.nd rfl (by first | exact Or.inl rfl | exact Or.inr rfl) (@pe_int _ _ _ _) (by rfl) (by first | exact .inl rfl | exact .inr rfl | assumption)) (@pss_cons _ _ _ _ _ (@ps_for _ _ _ _ _ _ _ _ PassesOwn.never rfl (@kSeq _ K _ _ _ (@kIx _ K _ _ _ _ _ (@vv _ 0 _ _ (by rfl) (by first | exact Or.inl rfl | exact Or.inr (Or.inl rfl) | exact Or.inr (Or.inr rfl)) (by decide) (by decide)) (@pe_int _ _ _ _) (by intro _ _; rfl) (by rfl)) (by rfl)) (@pg_name _ _ 4 _ sc__law_is_glance.nd rfl (by first | exact Or.inl rfl | exact Or.inr rfl) (by first | exact .inl rfl | exact .inr rfl | assumption)) (@pss_cons _ _ _ _ _ (@ps_if _ _ _ _ _ _ _ _ (PW.pt (@pw_or _ _ _ _ _ _ _ (@pt_not _ _ _ _ (@tu_val _ _ _ (@pe_callB _ _ _ _ _ _ _ _ _ (kIsiE (K := K)) rfl T.z_isinstance (by rfl) (@pa_cons _ _ _ _ _ (@vv _ 4 _ _ (by rfl) (by first | exact Or.inl rfl | exact Or.inr (Or.inl rfl) | exact Or.inr (Or.inr rfl)) (by decide) (by decide)) (@pa_cons _ _ _ _ _ (@pe_bltn _ _ (.ty "tuple") _ _ rfl T.z_tuple (by rfl) rfl (by decide) (by decide)) (@pa_nil _) (by rfl)) (by rfl)) (by decide) (by decide) (by rfl) (by rfl)) (by intro _; rfl))) (@pw_or _ _ _ _ _ _ _ (@tu_cmp _ _ _ _ _ _ _ _ (kNe (K := K) hu) (@pe_callB _ _ _ _ _ _ _ _ _ (kLen (K := K)) rfl T.z_len (by rfl) (@pa_cons _ _ _ _ _ (@vv _ 4 _ _ (by rfl) (by first | exact Or.inl rfl | exact Or.inr (Or.inl rfl) | exact Or.inr (Or.inr rfl)) (by decide) (by decide)) (@pa_nil _) (by rfl)) (by decide) (by decide) (by rfl) (by rfl)) (@pe_int _ _ _ _) (by first | exact nobehind _ (by decide) (by decide) | rfl)) (@pw_or1 _ _ _ _ (@pt_not _ _ _ _ (@tu_val _ _ _ (@pe_call _ _ _ _ _ _ _ _ _ _ _ _ _ _ _ _ G__law_within hr__law_within rfl T.m__law_within T.F__law_within.kp T.b__law_within .nil pass0 (@pa_cons _ _ _ _ _ (@kIx _ K _ _ _ _ _ (@vv _ 4 _ _ (by rfl) (by first | exact Or.inl rfl | exact Or.inr (Or.inl rfl) | exact Or.inr (Or.inr rfl)) (by decide) (by decide)) (@pe_int _ _ _ _) (by intro _ _; rfl) (by rfl)) (@pa_cons _ _ _ _ _ (@pe_op _ _ _ _ _ _ _ _ (kAdd (K := K)) (@vv _ 2 _ _ (by rfl) (by first | exact Or.inl rfl | exact Or.inr (Or.inl rfl) | exact Or.inr (Or.inr rfl)) (by decide) (by decide)) (@pe_int _ _ _ _)) (@pa_cons _ _ _ _ _ (@pe_op _ _ _ _ _ _ _ _ om_sub (@vv _ 1 _ _ (by rfl) (by first | exact Or.inl rfl | exact Or.inr (Or.inl rfl) | exact Or.inr (Or.inr rfl)) (by decide) (by decide)) (@pe_int _ _ _ _)) (@pa_nil _) (by rfl)) (by rfl)) (by rfl)) (by decide) (by rfl) (by rfl)) (by intro _; rfl))))))) (@pss_one _ _ _ (@ps_ret _ _ _ _ (@pe_bl _ _ _ _))) (@pss_nil _)) (@pss_cons _ _ _ _ _ (@ps_if _ _ _ _ _ _ _ _ (@pt_not _ _ _ _ (@tu_val _ _ _ (@pe_call _ _ _ _ _ _ _ _ _ _ _ _ _ _ _ _ G__law_within hr__law_within rfl T.m__law_within T.F__law_within.kp T.b__law_within .nil pass0 (@pa_cons _ _ _ _ _ (@kIx _ K _ _ _ _ _ (@vv _ 4 _ _ (by rfl) (by first | exact Or.inl rfl | exact Or.inr (Or.inl rfl) | exact Or.inr (Or.inr rfl)) (by decide) (by decide)) (@pe_int _ _ _ _) (by intro _ _; rfl) (by rfl)) (@pa_cons _ _ _ _ _ (@pe_op _ _ _ _ _ _ _ _ om_sub (@pe_int _ _ _ _) (@vv _ 1 _ _ (by rfl) (by first | exact Or.inl rfl | exact Or.inr (Or.inl rfl) | exact Or.inr (Or.inr rfl)) (by decide) (by decide))) (@pa_cons _ _ _ _ _ (@vv _ 1 _ _ (by rfl) (by first | exact Or.inl rfl | exact Or.inr (Or.inl rfl) | exact Or.inr (Or.inr rfl)) (by decide) (by decide)) (@pa_nil _) (by rfl)) (by rfl)) (by rfl)) (by decide) (by rfl) (by rfl)) (by intro _; rfl))) (@pss_one _ _ _ (@ps_ret _ _ _ _ (@pe_bl _ _ _ _))) (@pss_nil _)) (@pss_cons _ _ _ _ _ (@ps_set _ _ 2 _ _ _ _ sc__law_is_glance.nd rfl (by first | exact Or.inl rfl | exact Or.inr rfl) (@kIx _ K _ _ _ _ _ (@vv _ 4 _ _ (by rfl) (by first | exact Or.inl rfl | exact Or.inr (Or.inl rfl) | exact Or.inr (Or.inr rfl)) (by decide) (by decide)) (@pe_int _ _ _ _) (by intro _ _; rfl) (by rfl)) (by rfl) (by first | exact .inl rfl | exact .inr rfl | assumption)) (@pss_one _ _ _ (@ps_set _ _ 3 _ _ _ _ sc__law_is_glance.nd rfl (by first | exact Or.inl rfl | exact Or.inr rfl) (@pe_op _ _ _ _ _ _ _ _ (kAdd (K := K)) (@vv _ 3 _ _ (by rfl) (by first | exact Or.inl rfl | exact Or.inr (Or.inl rfl) | exact Or.inr (Or.inr rfl)) (by decide) (by decide)) (@pe_op _ _ _ _ _ _ _ _ om_mul (@kIx _ K _ _ _ _ _ (@vv _ 4 _ _ (by rfl) (by first | exact Or.inl rfl | exact Or.inr (Or.inl rfl) | exact Or.inr (Or.inr rfl)) (by decide) (by decide)) (@pe_int _ _ _ _) (by intro _ _; rfl) (by rfl)) (@kIx _ K _ _ _ _ _ (@vv _ 4 _ _ (by rfl) (by first | exact Or.inl rfl | exact Or.inr (Or.inl rfl) | exact Or.inr (Or.inr rfl)) (by decide) (by decide)) (@pe_int _ _ _ _) (by intro _ _; rfl) (by rfl)))) (by rfl) (by first | exact .inl rfl | exact .inr rfl | assumption)))))) (by intro _; rfl)) (@pss_one _ _ _ (@ps_ret _ _ _ _ (@pe_cmpM _ _ _ _ _ _ _ _ om_le (@vv _ 3 _ _ (by rfl) (by first | exact Or.inl rfl | exact Or.inr (Or.inl rfl) | exact Or.inr (Or.inr rfl)) (by decide) (by decide)) (@pe_op _ _ _ _ _ _ _ _ om_mul (@vv _ 1 _ _ (by rfl) (by first | exact Or.inl rfl | exact Or.inr (Or.inl rfl) | exact Or.inr (Or.inr rfl)) (by decide) (by decide)) (@vv _ 1 _ _ (by rfl) (by first | exact Or.inl rfl | exact Or.inr (Or.inl rfl) | exact Or.inr (Or.inr rfl)) (by decide) (by decide))) (by first | exact nobehind _ (by decide) (by decide) | rfl)))))))))), ?_⟩
  rcases h with ⟨d, hd, lo, q⟩ | ⟨a, kvs, rfl, ha, q⟩
  · have q := q H (same_me _)
    refine .inl ⟨by decide, d, hd, ?_⟩
    cases d with
    | tup ds =>
      by_cases e2 : ds.length = 2
      · match ds, e2 with
        | [a, b], _ =>
        obtain ⟨p, x0, x1, rfl, hs, r0, r1⟩ := rep_two_inv hd
        refine ⟨2, .inr ⟨_, hs, rfl⟩, ?_⟩
        refine ⟨_, _, .inr hs, rfl, a, r0, ?_⟩
        refine ite2 (fun e => ?_) (fun e => ?_)
        · have e : withinD 1 6 a = false := by simpa using e
          rw [glB_first e] at q
          exact q
        have e : withinD 1 6 a = true := by simpa using e
        obtain ⟨n, rfl, n1, n6⟩ := within_inv e
        obtain ⟨m, rfl⟩ := Int.eq_ofNat_of_zero_le (show 0 ≤ n by omega)
        unfold Rep at r0
        subst r0
        dsimp only [tNext]
        have h64 : 2 ^ m ≤ 64 := Nat.pow_le_pow_right (n := 2) (by decide) (show m ≤ 6 by omega)
        have hpo := Nat.two_pow_pos m
        have e2 : (1 : Int) * (2 : Int) ^ ((m : Int).toNat) = ((2 ^ m : Nat) : Int) := by rw [Int.toNat_natCast, Int.natCast_pow, Int.one_mul]; rfl
        refine seq_at (fun σ H' => σ = [some (.ref p), some (.int ((2 ^ m : Nat) : Int)), none, none, none] ∧ H = H') ?_ ?_ (by walk_at "sm")
        · refine ⟨_, _, .inr hs, rfl, ?_⟩
          refine ⟨⟨by omega, by omega, by decide⟩, ?_⟩
          rw [e2]
          exact ⟨rfl, rfl⟩
        rintro σ _ ⟨rfl, rfl⟩
        refine ⟨_, _, .inr hs, rfl, .inl ⟨by decide, b, r1, ?_⟩⟩
        refine ite2 (fun e => ?_) (fun e => ?_)
        · cases b <;> first | exact q | (simp [isTy, tyD] at e; done)
        cases b with
        | tup ds =>
          obtain ⟨pb, us, rfl, hb, hx⟩ := rep_tup_inv r1
          have hl := hx.length
          rw [glB_tail (by omega) (by omega)] at q
          dsimp only [tNext]
          refine seq_at (fun σ H' => σ = [some (.ref p), some (.int ((2 ^ m : Nat) : Int)), some (.int (-1)), none, none] ∧ H = H') ⟨rfl, rfl⟩ ?_ (by walk_at "sm")
          rintro σ _ ⟨rfl, rfl⟩
          refine seq_at (fun σ H' => σ = [some (.ref p), some (.int ((2 ^ m : Nat) : Int)), some (.int (-1)), some (.int 0), none] ∧ H = H') ⟨rfl, rfl⟩ ?_ (by walk_at "sm")
          rintro σ _ ⟨rfl, rfl⟩
          refine ⟨_, _, .inr hs, rfl, .inr ⟨⟨_, hb⟩, ?_⟩⟩
          refine for_tup (xs := us) (fun i σ H' => ∃ (last whole : Int) (z : Option V), σ = [some (.ref p), some (.int ((2 ^ m : Nat) : Int)), some (.int last), some (.int whole), z] ∧ H' = H ∧ -1 ≤ last ∧ last < ((2 ^ m : Nat) : Int) ∧ 0 ≤ whole ∧ tailB m (-1) 0 ds = tailB m last whole (ds.drop i)) ⟨-1, 0, none, rfl, rfl, by omega, by omega, by omega, rfl⟩ (fun i σ H' _ ⟨_, _, _, _, e, _⟩ => by rw [e]; exact hb) ?_ ?_
          · rintro i x σ H' hxi ⟨last, whole, z, rfl, rfl, l1, l2, w0, et⟩
            obtain ⟨d, hdi, rd⟩ := reps_get hx hxi
            have hlo : lowD d := lo d (List.mem_of_getElem? hdi)
            have hdr : ds.drop i = d :: ds.drop (i + 1) := by
              obtain ⟨hi, e⟩ := List.getElem?_eq_some_iff.mp hdi
              rw [← e]
              exact List.drop_eq_getElem_cons hi
            rw [hdr] at et
            refine .inl ⟨by decide, d, rd, ?_⟩
            cases d with
            | tup es =>
              by_cases e2 : es.length = 2
              · match es, e2 with
                | [a, b], _ =>
                obtain ⟨pc, y0, y1, rfl, hc, s0, s1⟩ := rep_two_inv rd
                refine ⟨2, .inr ⟨_, hc, rfl⟩, ?_⟩
                refine ⟨_, _, .inr hc, rfl, a, s0, ?_⟩
                refine ite2 (fun e => ?_) (fun e => ?_)
                · have e : withinD (last + 1) (((2 ^ m : Nat) : Int) - 1) a = false := by simpa using e
                  rw [et, tailB_first e l1] at q
                  exact q
                have e : withinD (last + 1) (((2 ^ m : Nat) : Int) - 1) a = true := by simpa using e
                obtain ⟨k, rfl, k1, k2⟩ := within_inv e
                unfold Rep at s0
                subst s0
                refine ⟨_, _, .inr hc, rfl, b, s1, ?_⟩
                refine ite2 (fun e => ?_) (fun e => ?_)
                · have e : withinD (0 - ((2 ^ m : Nat) : Int)) ((2 ^ m : Nat) : Int) b = false := by simpa using e
                  rw [et, tailB_second e w0] at q
                  exact q
                have e : withinD (0 - ((2 ^ m : Nat) : Int)) ((2 ^ m : Nat) : Int) b = true := by simpa using e
                obtain ⟨u, rfl, u1, u2⟩ := within_inv e
                unfold Rep at s1
                subst s1
                have uu : 0 ≤ u * u := sqD_nn (.tup [.int k, .int u])
                refine ⟨_, _, .inr hc, rfl, _, _, .inr hc, rfl, _, _, .inr hc, rfl, .inr (.inl ⟨by omega, by omega⟩), k, whole + u * u, _, rfl, rfl, by omega, by omega, by omega, ?_⟩
                rw [et, tailB_step (by omega) (by omega) (by omega)]
              · obtain ⟨pc, ys, rfl, hc, hy⟩ := rep_tup_inv rd
                refine ⟨es.length, .inr ⟨ys, hc, hy.length⟩, ?_⟩
                rw [et, tailB_no (termB_len e2)] at q
                refine ite2 (fun e => ?_) (fun e => ?_)
                · exact q
                · exact absurd (show (true ^^ (((es.length : Nat) : Int) == 2)) = true by simp; omega) e
            | _ =>
              rw [et, tailB_no rfl] at q
              exact q
          · rintro σ H' ⟨last, whole, z, rfl, rfl, l1, l2, w0, et⟩
            rw [← hl, List.drop_length] at et
            rw [et] at q
            have ef : tailB m last whole [] = decide (whole ≤ ((2 ^ m : Nat) : Int) * ((2 ^ m : Nat) : Int)) := by
              show (true && decide (whole + 0 ≤ _)) = _
              rw [Int.add_zero, Bool.true_and]
            rw [ef] at q
            exact ⟨.inr (.inl ⟨by omega, by omega⟩), q⟩
        | _ => exact absurd (show (!isTy _ _) = true by simp [isTy, tyD]) e
      · obtain ⟨p, xs, rfl, hs, hx⟩ := rep_tup_inv hd
        refine ⟨ds.length, .inr ⟨xs, hs, hx.length⟩, ?_⟩
        rw [glB_len e2] at q
        refine ite2 (fun e => ?_) (fun e => ?_)
        · exact q
        · exact absurd (show (true ^^ (((ds.length : Nat) : Int) == 2)) = true by simp; omega) e
    | _ => exact q
  · exact .inr ⟨by decide, false, .inr (.inr (.inl ⟨⟨kvs, ha⟩, rfl⟩)), q H (same_me _)⟩
def sp_many : Sp := fun vs H Q _ => match vs with
  | [.int x] => ∃ a : Nat, x = a ∧ a < 2 ^ 64 ∧ Q (.int (many a)) H
  | _ => False
theorem sp_many_mono : SpMono sp_many := fun vs H Q Q' E h q => by
  unfold sp_many at *
  split at q
  · obtain ⟨m, a, b, q⟩ := q; exact ⟨m, a, b, h _ _ q⟩
  · exact q.elim
theorem ok__law_many : FnOk P w K mg base CX0 1 T.f__law_many T.d__law_many ["_law_number"] sp_many := by
  refine T.F__law_many.ok sc__law_many (fun vs H Q E h => by unfold sp_many at h; split at h <;> first | rfl | exact h.elim) (fun cdv A outer s H vs Q E hr h => ?_)
  have hu := hu60 hr
  match vs, h with
  | [.int x], ⟨a, e1, h1, q⟩ =>
  subst e1
  refine ⟨_, (@pss_cons _ _ _ _ _ (@ps_set _ _ 1 _ _ _ _ sc__law_many.nd rfl (by first | exact Or.inl rfl | exact Or.inr rfl) (@pe_int _ _ _ _) (by rfl) (by first | exact .inl rfl | exact .inr rfl | assumption)) (@pss_cons _ _ _ _ _ (@ps_whileM _ _ _ _ _ _ PassesOwn.never (@tu_cmp _ _ _ _ _ _ _ _ om_gt (@vv _ 0 _ _ (by rfl) (by first | exact Or.inl rfl | exact Or.inr (Or.inl rfl) | exact Or.inr (Or.inr rfl)) (by decide) (by decide)) (@pe_int _ _ _ _) (by first | exact nobehind _ (by decide) (by decide) | rfl)) (@pss_cons _ _ _ _ _ (@ps_set _ _ 1 _ _ _ _ sc__law_many.nd rfl (by first | exact Or.inl rfl | exact Or.inr rfl) (@pe_op _ _ _ _ _ _ _ _ (kAdd (K := K)) (@vv _ 1 _ _ (by rfl) (by first | exact Or.inl rfl | exact Or.inr (Or.inl rfl) | exact Or.inr (Or.inr rfl)) (by decide) (by decide)) (@pe_op _ _ _ _ _ _ _ _ om_mod (@vv _ 0 _ _ (by rfl) (by first | exact Or.inl rfl | exact Or.inr (Or.inl rfl) | exact Or.inr (Or.inr rfl)) (by decide) (by decide)) (@pe_int _ _ _ _))) (by rfl) (by first | exact .inl rfl | exact .inr rfl | assumption)) (@pss_one _ _ _ (@ps_set _ _ 0 _ _ _ _ sc__law_many.nd rfl (by first | exact Or.inl rfl | exact Or.inr rfl) (@pe_op _ _ _ _ _ _ _ _ om_div (@vv _ 0 _ _ (by rfl) (by first | exact Or.inl rfl | exact Or.inr (Or.inl rfl) | exact Or.inr (Or.inr rfl)) (by decide) (by decide)) (@pe_int _ _ _ _)) (by rfl) (by first | exact .inl rfl | exact .inr rfl | assumption))))) (@pss_one _ _ _ (@ps_ret _ _ _ _ (@vv _ 1 _ _ (by rfl) (by first | exact Or.inl rfl | exact Or.inr (Or.inl rfl) | exact Or.inr (Or.inr rfl)) (by decide) (by decide)))))), ?_⟩
  refine ⟨fun f σ H' => H' = H ∧ ∃ m r : Nat, σ = [some (.int r), some (.int m)] ∧ r < 2 ^ f ∧ m + manyF f r = many a, ⟨64, rfl, 0, a, rfl, h1, by unfold many; exact Nat.zero_add _⟩, ?_⟩
  rintro f σ H' ⟨rfl, m, r, rfl, hr1, hm⟩
  refine ite2 (fun e => ?_) (fun e => ?_)
  · have r0 : 0 < r := by have : (0 : Int) < (r : Int) := of_decide_eq_true e; omega
    cases f with
    | zero => simp at hr1; omega
    | succ f =>
      refine ⟨by decide, okDiv_of (by decide) (by decide), ?_⟩
      refine ⟨f, Nat.lt_succ_self _, rfl, m + r % 2, r / 2, ?_, ?_, ?_⟩
      · show [some (V.int ((r : Int) / 2)), some (V.int ((m : Int) + (r : Int) % 2))] = _
        rw [Int.natCast_add, Int.natCast_emod, Int.natCast_ediv]
        rfl
      · rw [Nat.pow_succ] at hr1; omega
      · rw [← hm]
        show m + r % 2 + manyF f (r / 2) = m + (r % 2 + manyF f (r / 2))
        omega
  · have r0 : r = 0 := by
      have : ¬ (0 : Int) < (r : Int) := fun z => e (decide_eq_true z)
      omega
    subst r0
    rw [manyF_zero, Nat.add_zero] at hm
    rw [← hm] at q
    exact q
theorem ok__law_feed : FnOk P w K mg base CX0 1 T.f__law_feed T.d__law_feed ["_law_script", "_law_k"] (spFeed K) := by
  refine T.F__law_feed.ok sc__law_feed (fun vs H Q E h => by unfold spFeed at h; split at h <;> first | rfl | exact h.elim) (fun cdv A outer s H vs Q E hr h => ?_)
  have hu := hu60 hr
  match vs, h with
  | [.ref a, .int k], ⟨ns, hs, q⟩ =>
  refine ⟨_, (@pss_cons _ _ _ _ _ (@ps_if _ _ _ _ _ _ _ _ (@tu_cmp _ _ _ _ _ _ _ _ (kEq (K := K) hu) (@pe_callB _ _ _ _ _ _ _ _ _ (kLen (K := K)) rfl T.z_len (by rfl) (@pa_cons _ _ _ _ _ (@vv _ 0 _ _ (by rfl) (by first | exact Or.inl rfl | exact Or.inr (Or.inl rfl) | exact Or.inr (Or.inr rfl)) (by decide) (by decide)) (@pa_nil _) (by rfl)) (by decide) (by decide) (by rfl) (by rfl)) (@pe_int _ _ _ _) (by first | exact nobehind _ (by decide) (by decide) | rfl)) (@pss_one _ _ _ (@ps_ret _ _ _ _ (@pe_lst _ _ _ _ (@pa_cons _ _ _ _ _ (@pe_int _ _ _ _) (@pa_cons _ _ _ _ _ (@pe_int _ _ _ _) (@pa_cons _ _ _ _ _ (@vv _ 1 _ _ (by rfl) (by first | exact Or.inl rfl | exact Or.inr (Or.inl rfl) | exact Or.inr (Or.inr rfl)) (by decide) (by decide)) (@pa_cons _ _ _ _ _ (@pe_int _ _ _ _) (@pa_nil _) (by rfl)) (by rfl)) (by rfl)) (by rfl))))) (@pss_nil _)) (@pss_cons _ _ _ _ _ (@ps_set _ _ 2 _ _ _ _ sc__law_feed.nd rfl (by first | exact Or.inl rfl | exact Or.inr rfl) (@kIx _ K _ _ _ _ _ (@vv _ 0 _ _ (by rfl) (by first | exact Or.inl rfl | exact Or.inr (Or.inl rfl) | exact Or.inr (Or.inr rfl)) (by decide) (by decide)) (@pe_op _ _ _ _ _ _ _ _ om_mod (@vv _ 1 _ _ (by rfl) (by first | exact Or.inl rfl | exact Or.inr (Or.inl rfl) | exact Or.inr (Or.inr rfl)) (by decide) (by decide)) (@pe_callB _ _ _ _ _ _ _ _ _ (kLen (K := K)) rfl T.z_len (by rfl) (@pa_cons _ _ _ _ _ (@vv _ 0 _ _ (by rfl) (by first | exact Or.inl rfl | exact Or.inr (Or.inl rfl) | exact Or.inr (Or.inr rfl)) (by decide) (by decide)) (@pa_nil _) (by rfl)) (by decide) (by decide) (by rfl) (by rfl))) (by intro _ _; rfl) (by rfl)) (by rfl) (by first | exact .inl rfl | exact .inr rfl | assumption)) (@pss_one _ _ _ (@ps_ret _ _ _ _ (@pe_lst _ _ _ _ (@pa_cons _ _ _ _ _ (@pe_callB _ _ _ _ _ _ _ _ _ (cm_max rfl) rfl T.z_max (by rfl) (@pa_cons _ _ _ _ _ (@pe_int _ _ _ _) (@pa_cons _ _ _ _ _ (@pe_op _ _ _ _ _ _ _ _ om_sub (@vv _ 2 _ _ (by rfl) (by first | exact Or.inl rfl | exact Or.inr (Or.inl rfl) | exact Or.inr (Or.inr rfl)) (by decide) (by decide)) (@pe_op _ _ _ _ _ _ _ _ om_pow (@pe_int _ _ _ _) (@pe_int _ _ _ _))) (@pa_nil _) (by rfl)) (by rfl)) (by decide) (by decide) (by rfl) (by rfl)) (@pa_cons _ _ _ _ _ (@vv _ 2 _ _ (by rfl) (by first | exact Or.inl rfl | exact Or.inr (Or.inl rfl) | exact Or.inr (Or.inr rfl)) (by decide) (by decide)) (@pa_cons _ _ _ _ _ (@vv _ 1 _ _ (by rfl) (by first | exact Or.inl rfl | exact Or.inr (Or.inl rfl) | exact Or.inr (Or.inr rfl)) (by decide) (by decide)) (@pa_cons _ _ _ _ _ (@pe_int _ _ _ _) (@pa_nil _) (by rfl)) (by rfl)) (by rfl)) (by rfl))))))), ?_⟩
  refine ⟨ns.length, .inl ⟨_, hs, by rw [List.length_map]⟩, ?_⟩
  refine ite2 (fun e => ?_) (fun e => ?_)
  · refine ⟨small_le (show 4 ≤ 1000 by decide), fun p hp => q p _ hp ⟨0, 0, k, 0, Int.le_refl _, upd_same⟩ (fun b n => upd_ne n)⟩
  · have hpos : 0 < (ns.length : Int) := by
      have : ¬ (ns.length : Int) = 0 := fun z => e (by rw [z]; rfl)
      omega
    obtain ⟨z, hz⟩ := atI_int (ns := ns) (Int.emod_nonneg k (show (ns.length : Int) ≠ 0 by omega)) (Int.emod_lt_of_pos k hpos)
    refine ⟨ns.length, .inl ⟨_, hs, by rw [List.length_map]⟩, hpos, _, _, .inl hs, hz, ⟨by decide, by decide, by decide⟩, ?_⟩
    refine ⟨small_le (show 4 ≤ 1000 by decide), fun p hp => q p _ hp ⟨_, _, _, _, ?_, upd_same⟩ (fun b n => upd_ne n)⟩
    exact Int.le_max_left _ _
theorem ok__law_draw : FnOk P w K mg base CX0 1 T.f__law_draw T.d__law_draw ["_law_feed_here", "_law_many_here"] spDraw := by
  refine T.F__law_draw.ok sc__law_draw (fun vs H Q E h => by unfold spDraw at h; split at h <;> first | rfl | exact h.elim) (fun cdv A outer s H vs Q E hr h => ?_)
  have hu := hu60 hr
  match vs, h with
  | [.ref t, .int m], ⟨F, hm, k⟩ =>
  obtain ⟨a, b, kk, c, ha, ht⟩ := F.at_
  have hm0 : 0 < m := hm.1
  refine ⟨_, (@pss_cons _ _ _ _ _ (@ps_asg _ _ _ _ _ _ (@pe_op _ _ _ _ _ _ _ _ (kAdd (K := K)) (@kIx _ K _ _ _ _ _ (@vv _ 0 _ _ (by rfl) (by first | exact Or.inl rfl | exact Or.inr (Or.inl rfl) | exact Or.inr (Or.inr rfl)) (by decide) (by decide)) (@pe_int _ _ _ _) (by intro _ _; rfl) (by rfl)) (@pe_int _ _ _ _)) (@pg_sub _ _ _ _ _ _ _ (@vv _ 0 _ _ (by rfl) (by first | exact Or.inl rfl | exact Or.inr (Or.inl rfl) | exact Or.inr (Or.inr rfl)) (by decide) (by decide)) (@pe_int _ _ _ _) set_any (by intro _; rfl)) (by rfl) (by rfl) (by rfl)) (@pss_cons _ _ _ _ _ (@ps_if _ _ _ _ _ _ _ _ (@tu_cmp _ _ _ _ _ _ _ _ om_gt (@kIx _ K _ _ _ _ _ (@vv _ 0 _ _ (by rfl) (by first | exact Or.inl rfl | exact Or.inr (Or.inl rfl) | exact Or.inr (Or.inr rfl)) (by decide) (by decide)) (@pe_int _ _ _ _) (by intro _ _; rfl) (by rfl)) (@pe_int _ _ _ _) (by first | exact nobehind _ (by decide) (by decide) | rfl)) (@pss_cons _ _ _ _ _ (@ps_set _ _ 2 _ _ _ _ sc__law_draw.nd rfl (by first | exact Or.inl rfl | exact Or.inr rfl) (@pe_op _ _ _ _ _ _ _ _ om_mod (@kIx _ K _ _ _ _ _ (@vv _ 0 _ _ (by rfl) (by first | exact Or.inl rfl | exact Or.inr (Or.inl rfl) | exact Or.inr (Or.inr rfl)) (by decide) (by decide)) (@pe_int _ _ _ _) (by intro _ _; rfl) (by rfl)) (@vv _ 1 _ _ (by rfl) (by first | exact Or.inl rfl | exact Or.inr (Or.inl rfl) | exact Or.inr (Or.inr rfl)) (by decide) (by decide))) (by rfl) (by first | exact .inl rfl | exact .inr rfl | assumption)) (@pss_cons _ _ _ _ _ (@ps_asg _ _ _ _ _ _ (@pe_op _ _ _ _ _ _ _ _ om_div (@kIx _ K _ _ _ _ _ (@vv _ 0 _ _ (by rfl) (by first | exact Or.inl rfl | exact Or.inr (Or.inl rfl) | exact Or.inr (Or.inr rfl)) (by decide) (by decide)) (@pe_int _ _ _ _) (by intro _ _; rfl) (by rfl)) (@vv _ 1 _ _ (by rfl) (by first | exact Or.inl rfl | exact Or.inr (Or.inl rfl) | exact Or.inr (Or.inr rfl)) (by decide) (by decide))) (@pg_sub _ _ _ _ _ _ _ (@vv _ 0 _ _ (by rfl) (by first | exact Or.inl rfl | exact Or.inr (Or.inl rfl) | exact Or.inr (Or.inr rfl)) (by decide) (by decide)) (@pe_int _ _ _ _) set_any (by intro _; rfl)) (by rfl) (by rfl) (by rfl)) (@pss_one _ _ _ (@ps_ret _ _ _ _ (@vv _ 2 _ _ (by rfl) (by first | exact Or.inl rfl | exact Or.inr (Or.inl rfl) | exact Or.inr (Or.inr rfl)) (by decide) (by decide)))))) (@pss_nil _)) (@pss_cons _ _ _ _ _ (@ps_set _ _ 3 _ _ _ _ sc__law_draw.nd rfl (by first | exact Or.inl rfl | exact Or.inr rfl) (@pe_op _ _ _ _ _ _ _ _ om_mod (@pe_op _ _ _ _ _ _ _ _ (kAdd (K := K)) (@pe_op _ _ _ _ _ _ _ _ (kAdd (K := K)) (@kIx _ K _ _ _ _ _ (@vv _ 0 _ _ (by rfl) (by first | exact Or.inl rfl | exact Or.inr (Or.inl rfl) | exact Or.inr (Or.inr rfl)) (by decide) (by decide)) (@pe_int _ _ _ _) (by intro _ _; rfl) (by rfl)) (@pe_op _ _ _ _ _ _ _ _ om_mul (@pe_int _ _ _ _) (@kIx _ K _ _ _ _ _ (@vv _ 0 _ _ (by rfl) (by first | exact Or.inl rfl | exact Or.inr (Or.inl rfl) | exact Or.inr (Or.inr rfl)) (by decide) (by decide)) (@pe_int _ _ _ _) (by intro _ _; rfl) (by rfl)))) (@pe_op _ _ _ _ _ _ _ _ om_mul (@pe_int _ _ _ _) (@kIx _ K _ _ _ _ _ (@vv _ 0 _ _ (by rfl) (by first | exact Or.inl rfl | exact Or.inr (Or.inl rfl) | exact Or.inr (Or.inr rfl)) (by decide) (by decide)) (@pe_int _ _ _ _) (by intro _ _; rfl) (by rfl)))) (@pe_int _ _ _ _)) (by rfl) (by first | exact .inl rfl | exact .inr rfl | assumption)) (@pss_cons _ _ _ _ _ (@ps_set _ _ 3 _ _ _ _ sc__law_draw.nd rfl (by first | exact Or.inl rfl | exact Or.inr rfl) (@pe_op _ _ _ _ _ _ _ _ om_mod (@pe_op _ _ _ _ _ _ _ _ (kAdd (K := K)) (@pe_op _ _ _ _ _ _ _ _ (kAdd (K := K)) (@pe_op _ _ _ _ _ _ _ _ om_mul (@vv _ 3 _ _ (by rfl) (by first | exact Or.inl rfl | exact Or.inr (Or.inl rfl) | exact Or.inr (Or.inr rfl)) (by decide) (by decide)) (@vv _ 3 _ _ (by rfl) (by first | exact Or.inl rfl | exact Or.inr (Or.inl rfl) | exact Or.inr (Or.inr rfl)) (by decide) (by decide))) (@pe_op _ _ _ _ _ _ _ _ om_mul (@pe_int _ _ _ _) (@vv _ 3 _ _ (by rfl) (by first | exact Or.inl rfl | exact Or.inr (Or.inl rfl) | exact Or.inr (Or.inr rfl)) (by decide) (by decide)))) (@kIx _ K _ _ _ _ _ (@vv _ 0 _ _ (by rfl) (by first | exact Or.inl rfl | exact Or.inr (Or.inl rfl) | exact Or.inr (Or.inr rfl)) (by decide) (by decide)) (@pe_int _ _ _ _) (by intro _ _; rfl) (by rfl))) (@pe_int _ _ _ _)) (by rfl) (by first | exact .inl rfl | exact .inr rfl | assumption)) (@pss_cons _ _ _ _ _ (@ps_set _ _ 3 _ _ _ _ sc__law_draw.nd rfl (by first | exact Or.inl rfl | exact Or.inr rfl) (@pe_op _ _ _ _ _ _ _ _ om_mod (@pe_op _ _ _ _ _ _ _ _ (kAdd (K := K)) (@pe_op _ _ _ _ _ _ _ _ (kAdd (K := K)) (@pe_op _ _ _ _ _ _ _ _ om_mul (@vv _ 3 _ _ (by rfl) (by first | exact Or.inl rfl | exact Or.inr (Or.inl rfl) | exact Or.inr (Or.inr rfl)) (by decide) (by decide)) (@vv _ 3 _ _ (by rfl) (by first | exact Or.inl rfl | exact Or.inr (Or.inl rfl) | exact Or.inr (Or.inr rfl)) (by decide) (by decide))) (@pe_op _ _ _ _ _ _ _ _ om_mul (@pe_int _ _ _ _) (@vv _ 3 _ _ (by rfl) (by first | exact Or.inl rfl | exact Or.inr (Or.inl rfl) | exact Or.inr (Or.inr rfl)) (by decide) (by decide)))) (@kIx _ K _ _ _ _ _ (@vv _ 0 _ _ (by rfl) (by first | exact Or.inl rfl | exact Or.inr (Or.inl rfl) | exact Or.inr (Or.inr rfl)) (by decide) (by decide)) (@pe_int _ _ _ _) (by intro _ _; rfl) (by rfl))) (@pe_int _ _ _ _)) (by rfl) (by first | exact .inl rfl | exact .inr rfl | assumption)) (@pss_one _ _ _ (@ps_ret _ _ _ _ (@pe_op _ _ _ _ _ _ _ _ om_mod (@vv _ 3 _ _ (by rfl) (by first | exact Or.inl rfl | exact Or.inr (Or.inl rfl) | exact Or.inr (Or.inr rfl)) (by decide) (by decide)) (@vv _ 1 _ _ (by rfl) (by first | exact Or.inl rfl | exact Or.inr (Or.inl rfl) | exact Or.inr (Or.inr rfl)) (by decide) (by decide)))))))))), ?_⟩
  refine seq_at (fun σ' H1 => σ' = [some (.ref t), some (.int m), none, none] ∧ (∀ b, b ≠ t → H1 b = H b) ∧ ∃ a b k c : Int, 0 ≤ a ∧ H1 t = some (.lst [.int a, .int b, .int k, .int c])) ?_ ?_ (by walk_at "sm")
  · exact ⟨_, _, .inl (.of ht), rfl, _, _, ht, rfl, rfl, fun b n => upd_ne n, a, b, kk, c + 1, ha, upd_same⟩
  clear ht ha a b kk c
  rintro σ' H1 ⟨rfl, f1, a, b, kk, c, ha, ht1⟩
  refine ⟨_, _, .inl (.of ht1), rfl, ?_⟩
  refine ite2 (fun e => ?_) (fun e => ?_)
  · refine ⟨_, _, .inl (.of ht1), rfl, hm0, _, _, .inl (.of ht1), rfl, hm, _, _, ht1, rfl, ?_⟩
    exact k _ _ (Int.emod_nonneg _ (by omega)) (Int.emod_lt_of_pos _ hm0) ⟨_, _, _, _, Int.ediv_nonneg ha (by omega), upd_same⟩ (fun b n => by rw [upd_ne n]; exact f1 b n)
  dsimp only [tNext]
  have F1 : Feed H1 t := ⟨a, b, kk, c, ha, ht1⟩
  refine seq_at (fun σ' H2 => H2 = H1 ∧ ∃ z : Int, σ' = [some (.ref t), some (.int m), none, some (.int z)] ∧ 0 ≤ z ∧ z < 2147483629) ?_ ?_ (by walk_at "sm")
  · refine ⟨_, _, .inl (.of ht1), rfl, _, _, .inl (.of ht1), rfl, .inr (.inl ⟨by decide, by decide⟩), _, _, .inl (.of ht1), rfl, .inr (.inl ⟨by decide, by decide⟩), by decide, rfl, _, rfl, Int.emod_nonneg _ (by decide), Int.emod_lt_of_pos _ (by decide)⟩
  rintro σ' H2 ⟨rfl, z, rfl, z0, z1⟩
  refine seq_at (fun σ' H2' => H2' = H2 ∧ ∃ z : Int, σ' = [some (.ref t), some (.int m), none, some (.int z)] ∧ 0 ≤ z ∧ z < 2147483629) ?_ ?_ (by walk_at "sm")
  · refine ⟨.inr (.inl ⟨by omega, by omega⟩), .inr (.inl ⟨by decide, by decide⟩), _, _, .inl (.of ht1), rfl, by decide, rfl, _, rfl, Int.emod_nonneg _ (by decide), Int.emod_lt_of_pos _ (by decide)⟩
  rintro σ' H3 ⟨rfl, z, rfl, z0, z1⟩
  refine ⟨.inr (.inl ⟨by omega, by omega⟩), .inr (.inl ⟨by decide, by decide⟩), _, _, .inl (.of ht1), rfl, by decide, ?_⟩
  refine ⟨hm0, ?_⟩
  exact k _ _ (Int.emod_nonneg _ (by omega)) (Int.emod_lt_of_pos _ hm0) F1 f1
def sp_fn : Sp := fun vs H Q _ => match vs with
  | [.ref t] => Feed H t ∧ ∀ (n : Nat) H', 1 ≤ n → n ≤ 6 → Feed H' t → (∀ b, b ≠ t → H' b = H b) → Q (.int n) H'
  | _ => False
theorem sp_fn_mono : SpMono sp_fn := fun vs H Q Q' E h q => by
  unfold sp_fn at *
  split at q
  · exact ⟨q.1, fun n H' a b c d => h _ _ (q.2 n H' a b c d)⟩
  · exact q.elim
theorem ok__law_n : FnOk P w K mg base CX0 2 T.f__law_n T.d__law_n ["_law_feed_here"] sp_fn := by
  have G__law_draw := ok__law_draw (P := P) (w := w) (base := base) T
  refine T.F__law_n.ok sc__law_n (fun vs H Q E h => by unfold sp_fn at h; split at h <;> first | rfl | exact h.elim) (fun cdv A outer s H vs Q E hr h => ?_)
  have hu := hu60 hr
  have hr__law_draw := hr.mono (show 1 ≤ _ by decide)
  match vs, h with
  | [.ref t], ⟨F, k⟩ =>
  refine ⟨_, (@pss_cons _ _ _ _ _ (@ps_if _ _ _ _ _ _ _ _ (@tu_cmp _ _ _ _ _ _ _ _ (kEq (K := K) hu) (@pe_call _ _ _ _ _ _ _ _ _ _ _ _ _ _ _ _ G__law_draw hr__law_draw rfl T.m__law_draw T.F__law_draw.kp T.b__law_draw .nil pass0 (@pa_cons _ _ _ _ _ (@vv _ 0 _ _ (by rfl) (by first | exact Or.inl rfl | exact Or.inr (Or.inl rfl) | exact Or.inr (Or.inr rfl)) (by decide) (by decide)) (@pa_cons _ _ _ _ _ (@pe_int _ _ _ _) (@pa_nil _) (by rfl)) (by rfl)) (by decide) (by rfl) (by rfl)) (@pe_int _ _ _ _) (by first | exact nobehind _ (by decide) (by decide) | rfl)) (@pss_one _ _ _ (@ps_ret _ _ _ _ (@pe_int _ _ _ _))) (@pss_nil _)) (@pss_one _ _ _ (@ps_ret _ _ _ _ (@pe_op _ _ _ _ _ _ _ _ (kAdd (K := K)) (@pe_int _ _ _ _) (@pe_call _ _ _ _ _ _ _ _ _ _ _ _ _ _ _ _ G__law_draw hr__law_draw rfl T.m__law_draw T.F__law_draw.kp T.b__law_draw .nil pass0 (@pa_cons _ _ _ _ _ (@vv _ 0 _ _ (by rfl) (by first | exact Or.inl rfl | exact Or.inr (Or.inl rfl) | exact Or.inr (Or.inr rfl)) (by decide) (by decide)) (@pa_cons _ _ _ _ _ (@pe_int _ _ _ _) (@pa_nil _) (by rfl)) (by rfl)) (by decide) (by rfl) (by rfl)))))), ?_⟩
  refine ⟨F, okDiv_of (by decide) (by decide), fun d H2 d0 d1 F2 f2 => ?_⟩
  refine ite2 (fun e => ?_) (fun e => ?_)
  · exact k 6 H2 (by decide) (by decide) F2 f2
  · refine ⟨F2, okDiv_of (by decide) (by decide), fun d' H3 d0' d1' F3 f3 => ?_⟩
    obtain ⟨x, rfl⟩ := Int.eq_ofNat_of_zero_le d0'
    have e : (1 : Int) + (x : Int) = ((1 + x : Nat) : Int) := by omega
    dsimp only [mAdd]
    rw [e]
    exact k (1 + x) H3 (by omega) (by omega) F3 (fun b n => by rw [f3 b n, f2 b n])
def sp_ftable : Sp := fun vs H Q _ => match vs with
  | [.ref t, .int n] => ∃ m : Nat, Feed H t ∧ n = m ∧ 1 ≤ m ∧ m ≤ 6 ∧ ∀ (bs : List Bool) p H', bs.length = 2 ^ m → H p = none → H' p = some (.tup (bs.map V.bl)) → Feed H' t → Frm t H H' → Q (.ref p) H'
  | _ => False
theorem sp_ftable_mono : SpMono sp_ftable := fun vs H Q Q' E h q => by
  unfold sp_ftable at *
  split at q
  · obtain ⟨m, h1, h2, h3, h4, q⟩ := q; exact ⟨m, h1, h2, h3, h4, fun bs p H' x1 x2 x3 x4 x5 => h _ _ (q bs p H' x1 x2 x3 x4 x5)⟩
  · exact q.elim
theorem frm_all {t : Addr} {H H' : Hp} (h : ∀ b, b ≠ t → H' b = H b) : Frm t H H' := fun b o n e => by rw [h b n]; exact e
theorem frm_new {t p : Addr} {H0 H : Hp} {o : HO} (f : Frm t H0 H) (hp : H0 p = none) : Frm t H0 (upd H p o) := fun b u n e => by
  rw [upd_ne (ne_of_none e hp)]; exact f b u n e
structure FL (H0 : Hp) (t : Addr) (M : Nat) (l : Addr) (H : Hp) : Prop where
  fd : Feed H t
  fr : Frm t H0 H
  new : H0 l = none
  at_ : ∃ bs : List Bool, H l = some (.lst (bs.map V.bl)) ∧ bs.length = M
theorem FL.same {H0 H H' : Hp} {t : Addr} {M : Nat} {l : Addr} (L : FL H0 t M l H) (s : Same H H') : FL H0 t M l H' :=
  ⟨L.fd.same s, L.fr.trans s.frm, L.new, let ⟨bs, h, e⟩ := L.at_; ⟨bs, s _ _ h, e⟩⟩
theorem FL.draw {H0 H H' : Hp} {t : Addr} {M : Nat} {l : Addr} (L : FL H0 t M l H) (F0 : Feed H0 t) (F1 : Feed H' t) (f : ∀ b, b ≠ t → H' b = H b) : FL H0 t M l H' :=
  ⟨F1, L.fr.trans (frm_all f), L.new, let ⟨bs, h, e⟩ := L.at_; ⟨bs, by rw [f l (F0.neT L.new)]; exact h, e⟩⟩
theorem FL.put {H0 H : Hp} {t : Addr} {M : Nat} {l : Addr} {bs : List Bool} (L : FL H0 t M l H) (F0 : Feed H0 t) (hb : bs.length = M) : FL H0 t M l (upd H l (.lst (bs.map V.bl))) := by
  obtain ⟨a, b, k, c, h1, h3⟩ := L.fd.at_
  exact ⟨⟨a, b, k, c, h1, by rw [upd_ne (Ne.symm (F0.neT L.new))]; exact h3⟩, frm_new L.fr L.new, L.new, bs, upd_same, hb⟩
theorem FL.mk' {H0 H : Hp} {t : Addr} {M : Nat} {l : Addr} {bs : List Bool} (F : Feed H t) (fr : Frm t H0 H) (hl : H l = none) (hb : bs.length = M) : FL H0 t M l (upd H l (.lst (bs.map V.bl))) :=
  ⟨F.upd hl, fr.trans (Frm.upd hl), F.free fr hl, bs, upd_same, hb⟩
theorem ixN_nat {n i : Nat} (h : i < n) : ixN n ((i : Nat) : Int) = some i := by
  unfold ixN
  rw [if_pos (Int.natCast_nonneg i), if_pos (by omega)]
  simp
theorem bl_set (bs : List Bool) (i : Nat) (b : Bool) : (bs.map V.bl).set i (.bl b) = (bs.set i b).map V.bl := by
  rw [List.map_set]
theorem bl_at {bs : List Bool} {i : Nat} (h : i < bs.length) : atI (bs.map V.bl) ((i : Nat) : Int) = some (.bl bs[i]) :=
  atI_of rfl (by rw [List.getElem?_map, List.getElem?_eq_getElem h]; rfl)
def FJ (H0 : Hp) (t : Addr) (m M : Nat) : St → Hp → Prop := fun σ H => ∃ (la l : Addr) (way : Int) (y : Nat) (z7 z8 z9 : Option V),
  σ = [some (.ref t), some (.int m), some (.int M), some (.int way), some (.int y), some (.ref la), some (.ref l), z7, z8, z9] ∧ y < M ∧ FL H0 t M la H ∧ FL H0 t M l H
def FJ2 (H0 : Hp) (t : Addr) (m M : Nat) : St → Hp → Prop := fun σ H => ∃ (l : Addr) (z3 z4 z5 z7 z8 z9 : Option V),
  σ = [some (.ref t), some (.int m), some (.int M), z3, z4, z5, some (.ref l), z7, z8, z9] ∧ FL H0 t M l H
theorem ok__law_table : FnOk P w K mg base CX0 2 T.f__law_table T.d__law_table ["_law_feed_here", "_law_n_here"] sp_ftable := by
  have G__law_draw := ok__law_draw (P := P) (w := w) (base := base) T; have G__law_many := ok__law_many (P := P) (w := w) (base := base) T
  refine T.F__law_table.ok sc__law_table (fun vs H Q E h => by unfold sp_ftable at h; split at h <;> first | rfl | exact h.elim) (fun cdv A outer s H vs Q E hr h => ?_)
  have hu := hu60 hr
  have mo1 : SpMono sp_many := sp_many_mono
  have hr__law_draw := hr.mono (show 1 ≤ _ by decide); have hr__law_many := hr.mono (show 1 ≤ _ by decide)
  match vs, h with
  | [.ref t, .int n], ⟨m, F, e1, m1, m6, q⟩ =>
  subst e1
  refine ⟨_, (@pss_cons _ _ _ _ _ (@ps_set _ _ 2 _ _ _ _ sc__law_table.nd rfl (by first | exact Or.inl rfl | exact Or.inr rfl) (@pe_op _ _ _ _ _ _ _ _ om_shl (@pe_int _ _ _ _) (@vv _ 1 _ _ (by rfl) (by first | exact Or.inl rfl | exact Or.inr (Or.inl rfl) | exact Or.inr (Or.inr rfl)) (by decide) (by decide))) (by rfl) (by first | exact .inl rfl | exact .inr rfl | assumption)) (@pss_cons _ _ _ _ _ (@ps_set _ _ 3 _ _ _ _ sc__law_table.nd rfl (by first | exact Or.inl rfl | exact Or.inr rfl) (@pe_call _ _ _ _ _ _ _ _ _ _ _ _ _ _ _ _ G__law_draw hr__law_draw rfl T.m__law_draw T.F__law_draw.kp T.b__law_draw .nil pass0 (@pa_cons _ _ _ _ _ (@vv _ 0 _ _ (by rfl) (by first | exact Or.inl rfl | exact Or.inr (Or.inl rfl) | exact Or.inr (Or.inr rfl)) (by decide) (by decide)) (@pa_cons _ _ _ _ _ (@pe_int _ _ _ _) (@pa_nil _) (by rfl)) (by rfl)) (by decide) (by rfl) (by rfl)) (by rfl) (by first | exact .inl rfl | exact .inr rfl | assumption)) (@pss_cons _ _ _ _ _ (@ps_set _ _ 4 _ _ _ _ sc__law_table.nd rfl (by first | exact Or.inl rfl | exact Or.inr rfl) (@pe_call _ _ _ _ _ _ _ _ _ _ _ _ _ _ _ _ G__law_draw hr__law_draw rfl T.m__law_draw T.F__law_draw.kp T.b__law_draw .nil pass0 (@pa_cons _ _ _ _ _ (@vv _ 0 _ _ (by rfl) (by first | exact Or.inl rfl | exact Or.inr (Or.inl rfl) | exact Or.inr (Or.inr rfl)) (by decide) (by decide)) (@pa_cons _ _ _ _ _ (@vv _ 2 _ _ (by rfl) (by first | exact Or.inl rfl | exact Or.inr (Or.inl rfl) | exact Or.inr (Or.inr rfl)) (by decide) (by decide)) (@pa_nil _) (by rfl)) (by rfl)) (by decide) (by rfl) (by rfl)) (by rfl) (by first | exact .inl rfl | exact .inr rfl | assumption)) (@pss_cons _ _ _ _ _ (@ps_set _ _ 5 _ _ _ _ sc__law_table.nd rfl (by first | exact Or.inl rfl | exact Or.inr rfl) (@pe_compB _ _ _ _ _ _ _ (["_law_p", "_law_feed_here"]) 1 [0] _ _ _ _ rfl (@pi_range1 _ _ _ _ _ _ rfl T.z_range (@pa_cons _ _ _ _ _ (@vv _ 2 _ _ (by rfl) (by first | exact Or.inl rfl | exact Or.inr (Or.inl rfl) | exact Or.inr (Or.inr rfl)) (by decide) (by decide)) (@pa_nil _) (by rfl)) (by rfl)) (by kernel_rfl) rfl rfl (by kernel_rfl) (fun c => @pg_name _ _ 0 _ (show (["_law_p", "_law_feed_here"] : List Str).Nodup by decide +kernel) rfl (by first | exact Or.inl rfl | exact Or.inr rfl) (by first | exact .inl rfl | exact .inr rfl | assumption)) (go_name (by decide)) (fun c => @pts_nil _) (fun c => (@pe_cmpM _ _ _ _ _ _ _ _ (kEq (K := K) hu) (@pe_call _ _ _ _ _ _ _ _ _ _ _ _ _ _ _ _ G__law_draw hr__law_draw rfl T.m__law_draw T.F__law_draw.kp T.b__law_draw .nil pass0 (@pa_cons _ _ _ _ _ (@vv _ 1 _ _ (by rfl) (by first | exact Or.inl rfl | exact Or.inr (Or.inl rfl) | exact Or.inr (Or.inr rfl)) (by decide) (by decide)) (@pa_cons _ _ _ _ _ (@pe_int _ _ _ _) (@pa_nil _) (by rfl)) (by rfl)) (by decide) (by rfl) (by rfl)) (@pe_int _ _ _ _) (by first | exact nobehind _ (by decide) (by decide) | rfl))) (by intro _; rfl)) (by rfl) (by first | exact .inl rfl | exact .inr rfl | assumption)) (@pss_cons _ _ _ _ _ (@ps_if _ _ _ _ _ _ _ _ (@tu_cmp _ _ _ _ _ _ _ _ (kEq (K := K) hu) (@vv _ 3 _ _ (by rfl) (by first | exact Or.inl rfl | exact Or.inr (Or.inl rfl) | exact Or.inr (Or.inr rfl)) (by decide) (by decide)) (@pe_int _ _ _ _) (by first | exact nobehind _ (by decide) (by decide) | rfl)) (@pss_one _ _ _ (@ps_ret _ _ _ _ (@pe_callTy _ _ _ _ _ _ _ _ _ (kTuple (K := K)) rfl T.z_tuple (by rfl) (@pa_cons _ _ _ _ _ (@vv _ 5 _ _ (by rfl) (by first | exact Or.inl rfl | exact Or.inr (Or.inl rfl) | exact Or.inr (Or.inr rfl)) (by decide) (by decide)) (@pa_nil _) (by rfl)) (by decide) (by decide) (by rfl) (by rfl)))) (@pss_nil _)) (@pss_cons _ _ _ _ _ (@ps_compB _ _ _ _ _ _ _ (["_law_p", "_law_answers", "_law_some"]) 1 ([5, 4]) _ _ _ _ 6 _ _ _ rfl sc__law_table.nd rfl rfl (@pi_range1 _ _ _ _ _ _ rfl T.z_range (@pa_cons _ _ _ _ _ (@vv _ 2 _ _ (by rfl) (by first | exact Or.inl rfl | exact Or.inr (Or.inl rfl) | exact Or.inr (Or.inr rfl)) (by decide) (by decide)) (@pa_nil _) (by rfl)) (by rfl)) (by kernel_rfl) rfl rfl (by kernel_rfl) (fun c => @pg_name _ _ 0 _ (show (["_law_p", "_law_answers", "_law_some"] : List Str).Nodup by decide +kernel) rfl (by first | exact Or.inl rfl | exact Or.inr rfl) (by first | exact .inl rfl | exact .inr rfl | assumption)) (go_name (by decide)) (fun c => @pts_nil _) (fun c => (@kIx _ K _ _ _ _ _ (@vv _ 1 _ _ (by rfl) (by first | exact Or.inl rfl | exact Or.inr (Or.inl rfl) | exact Or.inr (Or.inr rfl)) (by decide) (by decide)) (@pe_op _ _ _ _ _ _ _ _ om_and (@vv _ 0 _ _ (by rfl) (by first | exact Or.inl rfl | exact Or.inr (Or.inl rfl) | exact Or.inr (Or.inr rfl)) (by decide) (by decide)) (@vv _ 2 _ _ (by rfl) (by first | exact Or.inl rfl | exact Or.inr (Or.inl rfl) | exact Or.inr (Or.inr rfl)) (by decide) (by decide))) (by intro _ _; rfl) (by rfl))) (by rfl) (by intro _; rfl)) (@pss_cons _ _ _ _ _ (@ps_if _ _ _ _ _ _ _ _ (@tu_cmp _ _ _ _ _ _ _ _ (kEq (K := K) hu) (@vv _ 3 _ _ (by rfl) (by first | exact Or.inl rfl | exact Or.inr (Or.inl rfl) | exact Or.inr (Or.inr rfl)) (by decide) (by decide)) (@pe_int _ _ _ _) (by first | exact nobehind _ (by decide) (by decide) | rfl)) (@pss_one _ _ _ (@ps_compB _ _ _ _ _ _ _ (["_law_p", "_law_answers"]) 1 [5] _ _ _ _ 6 _ _ _ rfl sc__law_table.nd rfl rfl (@pi_range1 _ _ _ _ _ _ rfl T.z_range (@pa_cons _ _ _ _ _ (@vv _ 2 _ _ (by rfl) (by first | exact Or.inl rfl | exact Or.inr (Or.inl rfl) | exact Or.inr (Or.inr rfl)) (by decide) (by decide)) (@pa_nil _) (by rfl)) (by rfl)) (by kernel_rfl) rfl rfl (by kernel_rfl) (fun c => @pg_name _ _ 0 _ (show (["_law_p", "_law_answers"] : List Str).Nodup by decide +kernel) rfl (by first | exact Or.inl rfl | exact Or.inr rfl) (by first | exact .inl rfl | exact .inr rfl | assumption)) (go_name (by decide)) (fun c => @pts_nil _) (fun c => (@kIx _ K _ _ _ _ _ (@vv _ 1 _ _ (by rfl) (by first | exact Or.inl rfl | exact Or.inr (Or.inl rfl) | exact Or.inr (Or.inr rfl)) (by decide) (by decide)) (@pe_int _ _ _ _) (by intro _ _; rfl) (by rfl))) (by rfl) (by intro _; rfl))) (@pss_nil _)) (@pss_cons _ _ _ _ _ (@ps_if _ _ _ _ _ _ _ _ (@tu_cmp _ _ _ _ _ _ _ _ (kEq (K := K) hu) (@vv _ 3 _ _ (by rfl) (by first | exact Or.inl rfl | exact Or.inr (Or.inl rfl) | exact Or.inr (Or.inr rfl)) (by decide) (by decide)) (@pe_int _ _ _ _) (by first | exact nobehind _ (by decide) (by decide) | rfl)) (@pss_one _ _ _ (@ps_compB _ _ _ _ _ _ _ (["_law_p", "_law_some", "_law_answers"]) 1 ([4, 5]) _ _ _ _ 6 _ _ _ rfl sc__law_table.nd rfl rfl (@pi_range1 _ _ _ _ _ _ rfl T.z_range (@pa_cons _ _ _ _ _ (@vv _ 2 _ _ (by rfl) (by first | exact Or.inl rfl | exact Or.inr (Or.inl rfl) | exact Or.inr (Or.inr rfl)) (by decide) (by decide)) (@pa_nil _) (by rfl)) (by rfl)) (by kernel_rfl) rfl rfl (by kernel_rfl) (fun c => @pg_name _ _ 0 _ (show (["_law_p", "_law_some", "_law_answers"] : List Str).Nodup by decide +kernel) rfl (by first | exact Or.inl rfl | exact Or.inr rfl) (by first | exact .inl rfl | exact .inr rfl | assumption)) (go_name (by decide)) (fun c => @pts_nil _) (fun c => (@pe_cmpM _ _ _ _ _ _ _ _ (kEq (K := K) hu) (@pe_op _ _ _ _ _ _ _ _ om_mod (@pe_call _ _ _ _ _ _ _ _ _ _ _ _ _ _ _ _ G__law_many hr__law_many rfl T.m__law_many T.F__law_many.kp T.b__law_many .nil pass0 (@pa_cons _ _ _ _ _ (@pe_op _ _ _ _ _ _ _ _ om_and (@vv _ 0 _ _ (by rfl) (by first | exact Or.inl rfl | exact Or.inr (Or.inl rfl) | exact Or.inr (Or.inr rfl)) (by decide) (by decide)) (@vv _ 1 _ _ (by rfl) (by first | exact Or.inl rfl | exact Or.inr (Or.inl rfl) | exact Or.inr (Or.inr rfl)) (by decide) (by decide))) (@pa_nil _) (by rfl)) (by decide) (by rfl) (by rfl)) (@pe_int _ _ _ _)) (@pe_callTy _ _ _ _ _ _ _ _ _ cm_int rfl T.z_int (by rfl) (@pa_cons _ _ _ _ _ (@kIx _ K _ _ _ _ _ (@vv _ 2 _ _ (by rfl) (by first | exact Or.inl rfl | exact Or.inr (Or.inl rfl) | exact Or.inr (Or.inr rfl)) (by decide) (by decide)) (@pe_int _ _ _ _) (by intro _ _; rfl) (by rfl)) (@pa_nil _) (by rfl)) (by decide) (by decide) (by rfl) (by rfl)) (by first | exact nobehind _ (by decide) (by decide) | rfl))) (by rfl) (by intro _; rfl))) (@pss_nil _)) (@pss_cons _ _ _ _ _ (@ps_if _ _ _ _ _ _ _ _ (@tu_cmp _ _ _ _ _ _ _ _ (kEq (K := K) hu) (@vv _ 3 _ _ (by rfl) (by first | exact Or.inl rfl | exact Or.inr (Or.inl rfl) | exact Or.inr (Or.inr rfl)) (by decide) (by decide)) (@pe_int _ _ _ _) (by first | exact nobehind _ (by decide) (by decide) | rfl)) (@pss_cons _ _ _ _ _ (@ps_set _ _ 7 _ _ _ _ sc__law_table.nd rfl (by first | exact Or.inl rfl | exact Or.inr rfl) (@pe_op _ _ _ _ _ _ _ _ (kAdd (K := K)) (@pe_int _ _ _ _) (@pe_call _ _ _ _ _ _ _ _ _ _ _ _ _ _ _ _ G__law_draw hr__law_draw rfl T.m__law_draw T.F__law_draw.kp T.b__law_draw .nil pass0 (@pa_cons _ _ _ _ _ (@vv _ 0 _ _ (by rfl) (by first | exact Or.inl rfl | exact Or.inr (Or.inl rfl) | exact Or.inr (Or.inr rfl)) (by decide) (by decide)) (@pa_cons _ _ _ _ _ (@pe_int _ _ _ _) (@pa_nil _) (by rfl)) (by rfl)) (by decide) (by rfl) (by rfl))) (by rfl) (by first | exact .inl rfl | exact .inr rfl | assumption)) (@pss_one _ _ _ (@ps_compB _ _ _ _ _ _ _ (["_law_p", "_law_some", "_law_least"]) 1 ([4, 7]) _ _ _ _ 6 _ _ _ rfl sc__law_table.nd rfl rfl (@pi_range1 _ _ _ _ _ _ rfl T.z_range (@pa_cons _ _ _ _ _ (@vv _ 2 _ _ (by rfl) (by first | exact Or.inl rfl | exact Or.inr (Or.inl rfl) | exact Or.inr (Or.inr rfl)) (by decide) (by decide)) (@pa_nil _) (by rfl)) (by rfl)) (by kernel_rfl) rfl rfl (by kernel_rfl) (fun c => @pg_name _ _ 0 _ (show (["_law_p", "_law_some", "_law_least"] : List Str).Nodup by decide +kernel) rfl (by first | exact Or.inl rfl | exact Or.inr rfl) (by first | exact .inl rfl | exact .inr rfl | assumption)) (go_name (by decide)) (fun c => @pts_nil _) (fun c => (@pe_cmpM _ _ _ _ _ _ _ _ om_ge (@pe_call _ _ _ _ _ _ _ _ _ _ _ _ _ _ _ _ G__law_many hr__law_many rfl T.m__law_many T.F__law_many.kp T.b__law_many .nil pass0 (@pa_cons _ _ _ _ _ (@pe_op _ _ _ _ _ _ _ _ om_and (@vv _ 0 _ _ (by rfl) (by first | exact Or.inl rfl | exact Or.inr (Or.inl rfl) | exact Or.inr (Or.inr rfl)) (by decide) (by decide)) (@vv _ 1 _ _ (by rfl) (by first | exact Or.inl rfl | exact Or.inr (Or.inl rfl) | exact Or.inr (Or.inr rfl)) (by decide) (by decide))) (@pa_nil _) (by rfl)) (by decide) (by rfl) (by rfl)) (@vv _ 2 _ _ (by rfl) (by first | exact Or.inl rfl | exact Or.inr (Or.inl rfl) | exact Or.inr (Or.inr rfl)) (by decide) (by decide)) (by first | exact nobehind _ (by decide) (by decide) | rfl))) (by rfl) (by intro _; rfl)))) (@pss_nil _)) (@pss_cons _ _ _ _ _ (@ps_for _ _ _ _ _ _ _ _ PassesOwn.never rfl (@pi_range1 _ _ _ _ _ _ rfl T.z_range (@pa_cons _ _ _ _ _ (@pe_op _ _ _ _ _ _ _ _ om_mul (@pe_call _ _ _ _ _ _ _ _ _ _ _ _ _ _ _ _ G__law_draw hr__law_draw rfl T.m__law_draw T.F__law_draw.kp T.b__law_draw .nil pass0 (@pa_cons _ _ _ _ _ (@vv _ 0 _ _ (by rfl) (by first | exact Or.inl rfl | exact Or.inr (Or.inl rfl) | exact Or.inr (Or.inr rfl)) (by decide) (by decide)) (@pa_cons _ _ _ _ _ (@pe_int _ _ _ _) (@pa_nil _) (by rfl)) (by rfl)) (by decide) (by rfl) (by rfl)) (@pe_call _ _ _ _ _ _ _ _ _ _ _ _ _ _ _ _ G__law_draw hr__law_draw rfl T.m__law_draw T.F__law_draw.kp T.b__law_draw .nil pass0 (@pa_cons _ _ _ _ _ (@vv _ 0 _ _ (by rfl) (by first | exact Or.inl rfl | exact Or.inr (Or.inl rfl) | exact Or.inr (Or.inr rfl)) (by decide) (by decide)) (@pa_cons _ _ _ _ _ (@pe_int _ _ _ _) (@pa_nil _) (by rfl)) (by rfl)) (by decide) (by rfl) (by rfl))) (@pa_nil _) (by rfl)) (by rfl)) (@pg_name _ _ 8 _ sc__law_table.nd rfl (by first | exact Or.inl rfl | exact Or.inr rfl) (by first | exact .inl rfl | exact .inr rfl | assumption)) (@pss_cons _ _ _ _ _ (@ps_set _ _ 9 _ _ _ _ sc__law_table.nd rfl (by first | exact Or.inl rfl | exact Or.inr rfl) (@pe_call _ _ _ _ _ _ _ _ _ _ _ _ _ _ _ _ G__law_draw hr__law_draw rfl T.m__law_draw T.F__law_draw.kp T.b__law_draw .nil pass0 (@pa_cons _ _ _ _ _ (@vv _ 0 _ _ (by rfl) (by first | exact Or.inl rfl | exact Or.inr (Or.inl rfl) | exact Or.inr (Or.inr rfl)) (by decide) (by decide)) (@pa_cons _ _ _ _ _ (@vv _ 2 _ _ (by rfl) (by first | exact Or.inl rfl | exact Or.inr (Or.inl rfl) | exact Or.inr (Or.inr rfl)) (by decide) (by decide)) (@pa_nil _) (by rfl)) (by rfl)) (by decide) (by rfl) (by rfl)) (by rfl) (by first | exact .inl rfl | exact .inr rfl | assumption)) (@pss_one _ _ _ (@ps_asg _ _ _ _ _ _ (@pe_notM _ _ _ _ (@kIx _ K _ _ _ _ _ (@vv _ 6 _ _ (by rfl) (by first | exact Or.inl rfl | exact Or.inr (Or.inl rfl) | exact Or.inr (Or.inr rfl)) (by decide) (by decide)) (@vv _ 9 _ _ (by rfl) (by first | exact Or.inl rfl | exact Or.inr (Or.inl rfl) | exact Or.inr (Or.inr rfl)) (by decide) (by decide)) (by intro _ _; rfl) (by rfl))) (@pg_sub _ _ _ _ _ _ _ (@vv _ 6 _ _ (by rfl) (by first | exact Or.inl rfl | exact Or.inr (Or.inl rfl) | exact Or.inr (Or.inr rfl)) (by decide) (by decide)) (@vv _ 9 _ _ (by rfl) (by first | exact Or.inl rfl | exact Or.inr (Or.inl rfl) | exact Or.inr (Or.inr rfl)) (by decide) (by decide)) set_any (by intro _; rfl)) (by rfl) (by rfl) (by rfl)))) (by intro _; rfl)) (@pss_one _ _ _ (@ps_ret _ _ _ _ (@pe_callTy _ _ _ _ _ _ _ _ _ (kTuple (K := K)) rfl T.z_tuple (by rfl) (@pa_cons _ _ _ _ _ (@vv _ 6 _ _ (by rfl) (by first | exact Or.inl rfl | exact Or.inr (Or.inl rfl) | exact Or.inr (Or.inr rfl)) (by decide) (by decide)) (@pa_nil _) (by rfl)) (by decide) (by decide) (by rfl) (by rfl)))))))))))))), ?_⟩
  have e2 : (1 : Int) * 2 ^ ((m : Int).toNat) = ((2 ^ m : Nat) : Int) := by rw [Int.toNat_natCast, Int.natCast_pow, Int.one_mul]; rfl
  have h64 : 2 ^ m ≤ 64 := Nat.pow_le_pow_right (n := 2) (by decide) m6
  have h2 : 2 ≤ 2 ^ m := Nat.pow_le_pow_right (n := 2) (i := 1) (by decide) m1
  refine ⟨⟨by omega, by omega, by decide⟩, ?_⟩
  rw [e2]
  generalize hM : 2 ^ m = M at *
  have hMd : okDiv (M : Int) := okDiv_of (by omega) (Int.le_trans (Int.ofNat_le.mpr h64) (by decide))
  refine ⟨F, okDiv_of (by decide) (by decide), fun way H2 w0 w1 F2 f2 => ⟨F2, hMd, fun y' H3 y0 y1 F3 f3 => ?_⟩⟩
  obtain ⟨y, rfl⟩ := Int.eq_ofNat_of_zero_le y0
  have hy : y < M := by omega
  have fr3 : Frm t H H3 := (frm_all f2).trans (frm_all f3)
  dsimp only [gName]
  refine seq_at (fun σ Ha => ∃ la : Addr, σ = [some (.ref t), some (.int m), some (.int M), some (.int way), some (.int y), some (.ref la), none, none, none, none] ∧ FL H t M la Ha) ?_ ?_ (by walk_at "sm")
  · refine ⟨(M : Int), rfl, by omega, by omega, ?_⟩
    refine comp_range (fun i ys H' => Feed H' t ∧ Frm t H H' ∧ ∃ bs : List Bool, ys = bs.map V.bl ∧ bs.length = i) ⟨F3, fr3, [], rfl, rfl⟩ (fun i ys H' hi ⟨_, _, bs, e, el⟩ => by
      rw [e]; exact small1000 (by rw [List.length_map]; omega)) ?_ ?_
    · rintro i ys H' hi ⟨Fi, fi, bs, rfl, rfl⟩
      refine ⟨Fi, okDiv_of (by decide) (by decide), fun d H2 _ _ F2 f2 => ?_⟩
      exact ⟨F2, fi.trans (frm_all f2), bs ++ [(false ^^ (d == 1))], by rw [List.map_append]; rfl, by rw [List.length_append]; rfl⟩
    · rintro ys H' ⟨Fi, fi, bs, rfl, hb⟩ l' hl
      exact ⟨l', rfl, FL.mk' Fi fi hl (by omega)⟩
  rintro σ Ha ⟨la, rfl, La⟩
  refine ite2 (fun e => ?_) (fun e => ?_)
  · obtain ⟨bs, hbs, hbl⟩ := La.at_
    refine ⟨_, .inl ⟨.of hbs, fun p hp => ?_⟩⟩
    exact q bs p _ hbl (La.fd.free La.fr hp) upd_same (La.fd.upd hp) (La.fr.trans (Frm.upd hp))
  dsimp only [tNext]
  refine seq_at (FJ H t m M) ?_ ?_ (by walk_at "sm")
  · obtain ⟨as, has, hal⟩ := La.at_
    refine ⟨(M : Int), rfl, by omega, by omega, ?_⟩
    refine comp_range (fun i ys H' => H' = Ha ∧ ∃ bs : List Bool, ys = bs.map V.bl ∧ bs.length = i) ⟨rfl, [], rfl, rfl⟩ (fun i ys H' hi ⟨_, bs, e, el⟩ => by
      rw [e]; exact small1000 (by rw [List.length_map]; omega)) ?_ ?_
    · rintro i ys H' hi ⟨rfl, bs, rfl, rfl⟩
      have hlt : bs.length &&& y < as.length := by
        have := Nat.and_le_right (n := bs.length) (m := y)
        omega
      have e0 : Builtin.bitAnd ((0 : Int) + (bs.length : Int)) (y : Int) = ((bs.length &&& y : Nat) : Int) := by rw [Int.zero_add, bitAnd_nat]
      refine ⟨_, .bl as[bs.length &&& y], .inl (.of has), ?_, rfl, bs ++ [as[bs.length &&& y]], by rw [List.map_append]; rfl, by rw [List.length_append]; rfl⟩
      rw [e0]; exact bl_at hlt
    · rintro ys H' ⟨rfl, bs, rfl, hb⟩ l' hl
      exact ⟨la, l', way, y, none, none, none, rfl, hy, La.same (Same.upd hl), FL.mk' La.fd La.fr hl (by omega)⟩
  clear La
  rintro σ Ha ⟨la, l, way, y, z7, z8, z9, rfl, hy, La, L⟩
  refine seq_at (FJ H t m M) ?_ ?_ (by walk_at "sm")
  · refine ite2 (fun e => ?_) (fun e => ⟨la, l, way, y, z7, z8, z9, rfl, hy, La, L⟩)
    obtain ⟨as, has, hal⟩ := La.at_
    have h0 : 0 < as.length := by omega
    refine ⟨(M : Int), rfl, by omega, by omega, ?_⟩
    refine comp_range (fun i ys H' => H' = Ha ∧ ∃ bs : List Bool, ys = bs.map V.bl ∧ bs.length = i) ⟨rfl, [], rfl, rfl⟩ (fun i ys H' hi ⟨_, bs, e, el⟩ => by
      rw [e]; exact small1000 (by rw [List.length_map]; omega)) ?_ ?_
    · rintro i ys H' hi ⟨rfl, bs, rfl, rfl⟩
      exact ⟨_, .bl as[0], .inl (.of has), bl_at (i := 0) h0, rfl, bs ++ [as[0]], by rw [List.map_append]; rfl, by rw [List.length_append]; rfl⟩
    · rintro ys H' ⟨rfl, bs, rfl, hb⟩ l' hl
      exact ⟨la, l', way, y, z7, z8, z9, rfl, hy, La.same (Same.upd hl), FL.mk' La.fd La.fr hl (by omega)⟩
  clear La L
  rintro σ Ha ⟨la, l, way, y, z7, z8, z9, rfl, hy, La, L⟩
  refine seq_at (FJ H t m M) ?_ ?_ (by walk_at "sm")
  · refine ite2 (fun e => ?_) (fun e => ⟨la, l, way, y, z7, z8, z9, rfl, hy, La, L⟩)
    obtain ⟨as, has, hal⟩ := La.at_
    have h0 : 0 < as.length := by omega
    refine ⟨(M : Int), rfl, by omega, by omega, ?_⟩
    refine comp_range (fun i ys H' => H' = Ha ∧ ∃ bs : List Bool, ys = bs.map V.bl ∧ bs.length = i) ⟨rfl, [], rfl, rfl⟩ (fun i ys H' hi ⟨_, bs, e, el⟩ => by
      rw [e]; exact small1000 (by rw [List.length_map]; omega)) ?_ ?_
    · rintro i ys H' hi ⟨rfl, bs, rfl, rfl⟩
      have e0 : Builtin.bitAnd ((0 : Int) + (bs.length : Int)) (y : Int) = ((bs.length &&& y : Nat) : Int) := by rw [Int.zero_add, bitAnd_nat]
      have hlt : bs.length &&& y < 2 ^ 64 := by
        have := Nat.and_le_right (n := bs.length) (m := y)
        omega
      refine ⟨bs.length &&& y, e0, hlt, by decide, _, .bl as[0], .inl (.of has), bl_at (i := 0) h0, ?_⟩
      exact ⟨rfl, bs ++ [_], by rw [List.map_append]; rfl, by rw [List.length_append]; rfl⟩
    · rintro ys H' ⟨rfl, bs, rfl, hb⟩ l' hl
      exact ⟨la, l', way, y, z7, z8, z9, rfl, hy, La.same (Same.upd hl), FL.mk' La.fd La.fr hl (by omega)⟩
  clear La L
  rintro σ Ha ⟨la, l, way, y, z7, z8, z9, rfl, hy, La, L⟩
  refine seq_at (FJ H t m M) ?_ ?_ (by walk_at "sm")
  · refine ite2 (fun e => ?_) (fun e => ⟨la, l, way, y, z7, z8, z9, rfl, hy, La, L⟩)
    refine ⟨L.fd, okDiv_of (by decide) (by decide), fun d Hb d0 d1 Fb fb => ?_⟩
    have La := La.draw F Fb fb
    have L := L.draw F Fb fb
    refine ⟨(M : Int), rfl, by omega, by omega, ?_⟩
    refine comp_range (fun i ys H' => H' = Hb ∧ ∃ bs : List Bool, ys = bs.map V.bl ∧ bs.length = i) ⟨rfl, [], rfl, rfl⟩ (fun i ys H' hi ⟨_, bs, e, el⟩ => by
      rw [e]; exact small1000 (by rw [List.length_map]; omega)) ?_ ?_
    · rintro i ys H' hi ⟨rfl, bs, rfl, rfl⟩
      have e0 : Builtin.bitAnd ((0 : Int) + (bs.length : Int)) (y : Int) = ((bs.length &&& y : Nat) : Int) := by rw [Int.zero_add, bitAnd_nat]
      have hlt : bs.length &&& y < 2 ^ 64 := by
        have := Nat.and_le_right (n := bs.length) (m := y)
        omega
      refine ⟨bs.length &&& y, e0, hlt, ?_⟩
      exact ⟨rfl, bs ++ [_], by rw [List.map_append]; rfl, by rw [List.length_append]; rfl⟩
    · rintro ys H' ⟨rfl, bs, rfl, hb⟩ l' hl
      exact ⟨la, l', way, y, some (.int (1 + d)), z8, z9, rfl, hy, La.same (Same.upd hl), FL.mk' La.fd La.fr hl (by omega)⟩
  clear La L
  rintro σ Ha ⟨la, l, way, y, z7, z8, z9, rfl, hy, La, L⟩
  refine seq_at (FJ2 H t m M) ?_ ?_ (by walk_at "sm")
  · refine ⟨L.fd, okDiv_of (by decide) (by decide), fun d Hb d0 d1 Fb fb => ⟨Fb, okDiv_of (by decide) (by decide), fun d' Hc d0' d1' Fc fc => ?_⟩⟩
    have Lc := (L.draw F Fb fb).draw F Fc fc
    obtain ⟨N, hN, hN2⟩ : ∃ N : Nat, d * d' = (N : Int) ∧ N ≤ 3 := by
      have : d = 0 ∨ d = 1 := by omega
      rcases this with rfl | rfl
      · exact ⟨0, by rw [Int.zero_mul]; rfl, by omega⟩
      · exact ⟨d'.toNat, by rw [Int.one_mul]; omega, by omega⟩
    refine ⟨.inr (.inl ⟨by omega, by omega⟩), (N : Int), congrArg (fun z => [V.int z]) hN, by omega, by omega, ?_⟩
    refine for_range (fun _ => FJ2 H t m M) ⟨l, _, _, _, z7, z8, z9, rfl, Lc⟩ ?_ (fun σ H' h => h)
    rintro i σ Hc hi ⟨l, z3, z4, z5, z7, z8, z9, rfl, Lc⟩
    refine ⟨Lc.fd, hMd, fun k' Hd k0 k1 Fd fd => ?_⟩
    obtain ⟨k, rfl⟩ := Int.eq_ofNat_of_zero_le k0
    have Ld := Lc.draw F Fd fd
    obtain ⟨bs, hbs, hbl⟩ := Ld.at_
    have hk : k < bs.length := by omega
    refine ⟨_, .bl bs[k], .inl (.of hbs), bl_at hk, _, k, hbs, ixN_nat (by rw [List.length_map]; omega), ?_⟩
    rw [bl_set]
    exact ⟨l, z3, z4, z5, z7, some (.int (0 + (i : Int))), some (.int k), rfl, Ld.put F (by rw [List.length_set]; exact hbl)⟩
  clear La L
  rintro σ Ha ⟨l, z3, z4, z5, z7, z8, z9, rfl, L⟩
  obtain ⟨bs, hbs, hbl⟩ := L.at_
  refine ⟨_, .inl ⟨.of hbs, fun p hp => ?_⟩⟩
  exact q bs p _ hbl (L.fd.free L.fr hp) upd_same (L.fd.upd hp) (L.fr.trans (Frm.upd hp))
theorem ok__law_sum : FnOk P w K mg base CX0 1 T.f__law_sum T.d__law_sum ["_law_table_here"] (sp_fsum K) := by
  refine T.F__law_sum.ok sc__law_sum (fun vs H Q E h => by unfold sp_fsum at h; split at h <;> first | rfl | exact h.elim) (fun cdv A outer s H vs Q E hr h => ?_)
  have hu := hu60 hr
  match vs, h with
  | [.ref p], ⟨m, bs, m1, m6, hb, hp, q⟩ =>
  refine ⟨_, (@pss_cons _ _ _ _ _ (@ps_set _ _ 1 _ _ _ _ sc__law_sum.nd rfl (by first | exact Or.inl rfl | exact Or.inr rfl) (@pe_compB _ _ _ _ _ _ _ ["_law_answer"] 1 [] _ _ _ _ rfl (@kSeq _ K _ _ _ (@vv _ 0 _ _ (by rfl) (by first | exact Or.inl rfl | exact Or.inr (Or.inl rfl) | exact Or.inr (Or.inr rfl)) (by decide) (by decide)) (by rfl)) (by kernel_rfl) rfl rfl (by kernel_rfl) (fun c => @pg_name _ _ 0 _ (show (["_law_answer"] : List Str).Nodup by decide +kernel) rfl (by first | exact Or.inl rfl | exact Or.inr rfl) (by first | exact .inl rfl | exact .inr rfl | assumption)) (go_name (by decide)) (fun c => @pts_nil _) (fun c => (@pe_op _ _ _ _ _ _ _ _ om_sub (@pe_int _ _ _ _) (@pe_op _ _ _ _ _ _ _ _ om_mul (@pe_int _ _ _ _) (@pe_callTy _ _ _ _ _ _ _ _ _ cm_int rfl T.z_int (by rfl) (@pa_cons _ _ _ _ _ (@vv _ 0 _ _ (by rfl) (by first | exact Or.inl rfl | exact Or.inr (Or.inl rfl) | exact Or.inr (Or.inr rfl)) (by decide) (by decide)) (@pa_nil _) (by rfl)) (by decide) (by decide) (by rfl) (by rfl))))) (by intro _; rfl)) (by rfl) (by first | exact .inl rfl | exact .inr rfl | assumption)) (@pss_cons _ _ _ _ _ (@ps_set _ _ 2 _ _ _ _ sc__law_sum.nd rfl (by first | exact Or.inl rfl | exact Or.inr rfl) (@pe_int _ _ _ _) (by rfl) (by first | exact .inl rfl | exact .inr rfl | assumption)) (@pss_cons _ _ _ _ _ (@ps_whileM _ _ _ _ _ _ PassesOwn.never (@tu_cmp _ _ _ _ _ _ _ _ om_lt (@vv _ 2 _ _ (by rfl) (by first | exact Or.inl rfl | exact Or.inr (Or.inl rfl) | exact Or.inr (Or.inr rfl)) (by decide) (by decide)) (@pe_callB _ _ _ _ _ _ _ _ _ (kLen (K := K)) rfl T.z_len (by rfl) (@pa_cons _ _ _ _ _ (@vv _ 0 _ _ (by rfl) (by first | exact Or.inl rfl | exact Or.inr (Or.inl rfl) | exact Or.inr (Or.inr rfl)) (by decide) (by decide)) (@pa_nil _) (by rfl)) (by decide) (by decide) (by rfl) (by rfl)) (by first | exact nobehind _ (by decide) (by decide) | rfl)) (@pss_cons _ _ _ _ _ (@ps_for _ _ _ _ _ _ _ _ PassesOwn.never rfl (@pi_range1 _ _ _ _ _ _ rfl T.z_range (@pa_cons _ _ _ _ _ (@pe_callB _ _ _ _ _ _ _ _ _ (kLen (K := K)) rfl T.z_len (by rfl) (@pa_cons _ _ _ _ _ (@vv _ 0 _ _ (by rfl) (by first | exact Or.inl rfl | exact Or.inr (Or.inl rfl) | exact Or.inr (Or.inr rfl)) (by decide) (by decide)) (@pa_nil _) (by rfl)) (by decide) (by decide) (by rfl) (by rfl)) (@pa_nil _) (by rfl)) (by rfl)) (@pg_name _ _ 3 _ sc__law_sum.nd rfl (by first | exact Or.inl rfl | exact Or.inr rfl) (by first | exact .inl rfl | exact .inr rfl | assumption)) (@pss_one _ _ _ (@ps_if _ _ _ _ _ _ _ _ (@tu_cmp _ _ _ _ _ _ _ _ (kEq (K := K) hu) (@pe_op _ _ _ _ _ _ _ _ om_mod (@pe_op _ _ _ _ _ _ _ _ om_div (@vv _ 3 _ _ (by rfl) (by first | exact Or.inl rfl | exact Or.inr (Or.inl rfl) | exact Or.inr (Or.inr rfl)) (by decide) (by decide)) (@vv _ 2 _ _ (by rfl) (by first | exact Or.inl rfl | exact Or.inr (Or.inl rfl) | exact Or.inr (Or.inr rfl)) (by decide) (by decide))) (@pe_int _ _ _ _)) (@pe_int _ _ _ _) (by first | exact nobehind _ (by decide) (by decide) | rfl)) (@pss_cons _ _ _ _ _ (@ps_set _ _ 4 _ _ _ _ sc__law_sum.nd rfl (by first | exact Or.inl rfl | exact Or.inr rfl) (@kIx _ K _ _ _ _ _ (@vv _ 1 _ _ (by rfl) (by first | exact Or.inl rfl | exact Or.inr (Or.inl rfl) | exact Or.inr (Or.inr rfl)) (by decide) (by decide)) (@vv _ 3 _ _ (by rfl) (by first | exact Or.inl rfl | exact Or.inr (Or.inl rfl) | exact Or.inr (Or.inr rfl)) (by decide) (by decide)) (by intro _ _; rfl) (by rfl)) (by rfl) (by first | exact .inl rfl | exact .inr rfl | assumption)) (@pss_cons _ _ _ _ _ (@ps_set _ _ 5 _ _ _ _ sc__law_sum.nd rfl (by first | exact Or.inl rfl | exact Or.inr rfl) (@kIx _ K _ _ _ _ _ (@vv _ 1 _ _ (by rfl) (by first | exact Or.inl rfl | exact Or.inr (Or.inl rfl) | exact Or.inr (Or.inr rfl)) (by decide) (by decide)) (@pe_op _ _ _ _ _ _ _ _ (kAdd (K := K)) (@vv _ 3 _ _ (by rfl) (by first | exact Or.inl rfl | exact Or.inr (Or.inl rfl) | exact Or.inr (Or.inr rfl)) (by decide) (by decide)) (@vv _ 2 _ _ (by rfl) (by first | exact Or.inl rfl | exact Or.inr (Or.inl rfl) | exact Or.inr (Or.inr rfl)) (by decide) (by decide))) (by intro _ _; rfl) (by rfl)) (by rfl) (by first | exact .inl rfl | exact .inr rfl | assumption)) (@pss_cons _ _ _ _ _ (@ps_asg _ _ _ _ _ _ (@pe_op _ _ _ _ _ _ _ _ (kAdd (K := K)) (@vv _ 4 _ _ (by rfl) (by first | exact Or.inl rfl | exact Or.inr (Or.inl rfl) | exact Or.inr (Or.inr rfl)) (by decide) (by decide)) (@vv _ 5 _ _ (by rfl) (by first | exact Or.inl rfl | exact Or.inr (Or.inl rfl) | exact Or.inr (Or.inr rfl)) (by decide) (by decide))) (@pg_sub _ _ _ _ _ _ _ (@vv _ 1 _ _ (by rfl) (by first | exact Or.inl rfl | exact Or.inr (Or.inl rfl) | exact Or.inr (Or.inr rfl)) (by decide) (by decide)) (@vv _ 3 _ _ (by rfl) (by first | exact Or.inl rfl | exact Or.inr (Or.inl rfl) | exact Or.inr (Or.inr rfl)) (by decide) (by decide)) set_any (by intro _; rfl)) (by rfl) (by rfl) (by rfl)) (@pss_one _ _ _ (@ps_asg _ _ _ _ _ _ (@pe_op _ _ _ _ _ _ _ _ om_sub (@vv _ 4 _ _ (by rfl) (by first | exact Or.inl rfl | exact Or.inr (Or.inl rfl) | exact Or.inr (Or.inr rfl)) (by decide) (by decide)) (@vv _ 5 _ _ (by rfl) (by first | exact Or.inl rfl | exact Or.inr (Or.inl rfl) | exact Or.inr (Or.inr rfl)) (by decide) (by decide))) (@pg_sub _ _ _ _ _ _ _ (@vv _ 1 _ _ (by rfl) (by first | exact Or.inl rfl | exact Or.inr (Or.inl rfl) | exact Or.inr (Or.inr rfl)) (by decide) (by decide)) (@pe_op _ _ _ _ _ _ _ _ (kAdd (K := K)) (@vv _ 3 _ _ (by rfl) (by first | exact Or.inl rfl | exact Or.inr (Or.inl rfl) | exact Or.inr (Or.inr rfl)) (by decide) (by decide)) (@vv _ 2 _ _ (by rfl) (by first | exact Or.inl rfl | exact Or.inr (Or.inl rfl) | exact Or.inr (Or.inr rfl)) (by decide) (by decide))) set_any (by intro _; rfl)) (by rfl) (by rfl) (by rfl)))))) (@pss_nil _))) (by intro _; rfl)) (@pss_one _ _ _ (@ps_set _ _ 2 _ _ _ _ sc__law_sum.nd rfl (by first | exact Or.inl rfl | exact Or.inr rfl) (@pe_op _ _ _ _ _ _ _ _ om_mul (@pe_int _ _ _ _) (@vv _ 2 _ _ (by rfl) (by first | exact Or.inl rfl | exact Or.inr (Or.inl rfl) | exact Or.inr (Or.inr rfl)) (by decide) (by decide))) (by rfl) (by first | exact .inl rfl | exact .inr rfl | assumption))))) (@pss_cons _ _ _ _ _ (@ps_compB _ _ _ _ _ _ _ (["_law_some", "_law_weights"]) 1 [1] _ _ _ _ 6 _ _ _ rfl sc__law_sum.nd rfl rfl (@pi_range1 _ _ _ _ _ _ rfl T.z_range (@pa_cons _ _ _ _ _ (@pe_callB _ _ _ _ _ _ _ _ _ (kLen (K := K)) rfl T.z_len (by rfl) (@pa_cons _ _ _ _ _ (@vv _ 1 _ _ (by rfl) (by first | exact Or.inl rfl | exact Or.inr (Or.inl rfl) | exact Or.inr (Or.inr rfl)) (by decide) (by decide)) (@pa_nil _) (by rfl)) (by decide) (by decide) (by rfl) (by rfl)) (@pa_nil _) (by rfl)) (by rfl)) (by kernel_rfl) rfl rfl (by kernel_rfl) (fun c => @pg_name _ _ 0 _ (show (["_law_some", "_law_weights"] : List Str).Nodup by decide +kernel) rfl (by first | exact Or.inl rfl | exact Or.inr rfl) (by first | exact .inl rfl | exact .inr rfl | assumption)) (go_name (by decide)) (fun c => @pts_one _ _ _ (@tu_cmp _ _ _ _ _ _ _ _ (kNe (K := K) hu) (@kIx _ K _ _ _ _ _ (@vv _ 1 _ _ (by rfl) (by first | exact Or.inl rfl | exact Or.inr (Or.inl rfl) | exact Or.inr (Or.inr rfl)) (by decide) (by decide)) (@vv _ 0 _ _ (by rfl) (by first | exact Or.inl rfl | exact Or.inr (Or.inl rfl) | exact Or.inr (Or.inr rfl)) (by decide) (by decide)) (by intro _ _; rfl) (by rfl)) (@pe_int _ _ _ _) (by first | exact nobehind _ (by decide) (by decide) | rfl))) (fun c => (@pe_tup _ _ _ _ _ (@pa_cons _ _ _ _ _ (@vv _ 0 _ _ (by rfl) (by first | exact Or.inl rfl | exact Or.inr (Or.inl rfl) | exact Or.inr (Or.inr rfl)) (by decide) (by decide)) (@pa_cons _ _ _ _ _ (@kIx _ K _ _ _ _ _ (@vv _ 1 _ _ (by rfl) (by first | exact Or.inl rfl | exact Or.inr (Or.inl rfl) | exact Or.inr (Or.inr rfl)) (by decide) (by decide)) (@vv _ 0 _ _ (by rfl) (by first | exact Or.inl rfl | exact Or.inr (Or.inl rfl) | exact Or.inr (Or.inr rfl)) (by decide) (by decide)) (by intro _ _; rfl) (by rfl)) (@pa_nil _) (by rfl)) (by rfl)))) (by rfl) (by intro _; rfl)) (@pss_one _ _ _ (@ps_ret _ _ _ _ (@pe_tup _ _ _ _ _ (@pa_cons _ _ _ _ _ (@pe_op _ _ _ _ _ _ _ _ om_sub (@kBitlen _ K _ _ _ _ (@pe_callB _ _ _ _ _ _ _ _ _ (kLen (K := K)) rfl T.z_len (by rfl) (@pa_cons _ _ _ _ _ (@vv _ 0 _ _ (by rfl) (by first | exact Or.inl rfl | exact Or.inr (Or.inl rfl) | exact Or.inr (Or.inr rfl)) (by decide) (by decide)) (@pa_nil _) (by rfl)) (by decide) (by decide) (by rfl) (by rfl)) (by rfl) (by rfl) (by rfl)) (@pe_int _ _ _ _)) (@pa_cons _ _ _ _ _ (@pe_callTy _ _ _ _ _ _ _ _ _ (kTuple (K := K)) rfl T.z_tuple (by rfl) (@pa_cons _ _ _ _ _ (@vv _ 6 _ _ (by rfl) (by first | exact Or.inl rfl | exact Or.inr (Or.inl rfl) | exact Or.inr (Or.inr rfl)) (by decide) (by decide)) (@pa_nil _) (by rfl)) (by decide) (by decide) (by rfl) (by rfl)) (@pa_nil _) (by rfl)) (by rfl))))))))), ?_⟩
  have h64 : 2 ^ m ≤ 64 := Nat.pow_le_pow_right (n := 2) (by decide) m6
  have hin := cross_in m (by omega)
  have hpow : ∀ s, s < m → 2 ^ s < 2 ^ m := fun s hs => Nat.pow_lt_pow_right (by decide) hs
  have hpos : ∀ s : Nat, 0 < 2 ^ s := fun s => Nat.two_pow_pos s
  have hbits := bits_pow m (by omega)
  have ew : ∀ k, k < 2 ^ m → hadF (valF bs) m k = wt m (valF bs) k := fun k hk => had_wt hk
  generalize hM : 2 ^ m = M at *
  refine seq_at (fun σ H' => ∃ l : Addr, σ = [some (.ref p), some (.ref l), none, none, none, none, none] ∧ Same H H' ∧ H l = none ∧ H' l = some (.lst (ixL (hadF (valF bs) 0) M))) ?_ ?_ (by walk_at "sm")
  · refine .inr ⟨⟨_, hp⟩, ?_⟩
    refine comp_tup (xs := bs.map V.bl) (fun i ys H' => H' = H ∧ ys = ixL (valF bs) i) ⟨rfl, rfl⟩ (fun i ys H' _ ⟨e, _⟩ => by rw [e]; exact hp) (fun i ys H' hi ⟨_, e⟩ => by
      rw [List.length_map] at hi
      rw [e, ixL_len]; exact small1000 (by omega)) ?_ ?_
    · rintro i x ys H' hx ⟨rfl, rfl⟩
      have hi : i < bs.length := by
        have := (List.getElem?_eq_some_iff.mp hx).1
        rwa [List.length_map] at this
      have ex : x = .bl bs[i] := by
        rw [List.getElem?_map, List.getElem?_eq_getElem hi] at hx
        exact (Option.some.inj hx).symm
      subst ex
      refine ⟨.inr (.inl ⟨by decide, by decide⟩), rfl, ?_⟩
      rw [ixL_succ, valF_get hi]
      unfold valB
      cases bs[i] <;> rfl
    · rintro ys H' ⟨rfl, rfl⟩ l hl
      rw [List.length_map, hb]
      exact ⟨l, rfl, Same.upd hl, hl, upd_same⟩
  rintro σ H1 ⟨l, rfl, s1, hl, g1⟩
  refine seq_at (fun σ H' => σ = [some (.ref p), some (.ref l), some (.int (2 ^ 0 : Nat)), none, none, none, none] ∧ H1 = H') ⟨rfl, rfl⟩ ?_ (by walk_at "sm")
  rintro σ _ ⟨rfl, rfl⟩
  refine seq_at (fun σ H' => ∃ z2 z3 z4 z5 : Option V, σ = [some (.ref p), some (.ref l), z2, z3, z4, z5, none] ∧ Same H H' ∧ H' l = some (.lst (ixL (hadF (valF bs) m) M))) ?_ ?_ (by walk_at "sm")
  · refine ⟨fun f σ H' => ∃ (s : Nat) (z3 z4 z5 : Option V), s ≤ m ∧ f = m - s ∧ σ = [some (.ref p), some (.ref l), some (.int (2 ^ s : Nat)), z3, z4, z5, none] ∧ Same H H' ∧ H' l = some (.lst (ixL (hadF (valF bs) s) M)), ⟨m, 0, none, none, none, Nat.zero_le _, rfl, rfl, s1, g1⟩, ?_⟩
    clear g1 s1
    rintro f σ H1 ⟨s, z3, z4, z5, hs, rfl, rfl, s1, g1⟩
    refine ⟨M, .inr ⟨_, s1.sqT hp, by rw [List.length_map, hb]⟩, ?_⟩
    refine ite2 (fun e => ?_) (fun e => ?_)
    · have hlt : 2 ^ s < M := by have : ((2 ^ s : Nat) : Int) < (M : Int) := of_decide_eq_true e; omega
      have hsm : s < m := by
        rcases Nat.lt_or_ge s m with z | z
        · exact z
        · have : s = m := by omega
          subst this; omega
      have hin := hin s hsm
      have hps := hpos s
      have e2 : ((2 ^ (s + 1) : Nat) : Int) = 2 * ((2 ^ s : Nat) : Int) := by rw [Nat.pow_succ, Nat.mul_comm, Int.natCast_mul]; rfl
      have ehad : hadF (valF bs) (s + 1) = crossF (hadF (valF bs) s) (2 ^ s) := rfl
      generalize hadF (valF bs) s = g at *
      generalize 2 ^ s = st at *
      refine seq_at (fun σ H' => ∃ z3 z4 z5 : Option V, σ = [some (.ref p), some (.ref l), some (.int (st : Nat)), z3, z4, z5, none] ∧ Same H H' ∧ H' l = some (.lst (ixL (crossF g st) M))) ?_ ?_ (by walk_at "sm")
      · refine ⟨M, .inr ⟨_, s1.sqT hp, by rw [List.length_map, hb]⟩, (M : Int), rfl, by omega, by omega, ?_⟩
        refine for_range (fun i σ H' => ∃ z3 z4 z5 : Option V, σ = [some (.ref p), some (.ref l), some (.int (st : Nat)), z3, z4, z5, none] ∧ Same H H' ∧ H' l = some (.lst (ixL (mixF g st i) M))) ⟨z3, z4, z5, rfl, s1, by rw [g1, ixL_congr fun k _ => (mix_zero g st k).symm]⟩ ?_ ?_
        · rintro i σ H2 hi ⟨z3, z4, z5, rfl, s2, g2⟩
          have hi' : i < M := by omega
          rw [show (0 : Int) + (i : Int) = (i : Int) from Int.zero_add _]
          dsimp only [gName]
          refine ⟨okDiv_of (by omega) (Int.le_trans (Int.ofNat_le.mpr (show st ≤ 64 by omega)) (by decide)), by decide, ?_⟩
          have ed : ((i : Int) / (st : Int) % 2 == 0) = decide (i / st % 2 = 0) := by
            rw [← Int.natCast_ediv]
            generalize i / st = d
            rw [Bool.eq_iff_iff]
            simp only [beq_iff_eq, decide_eq_true_eq]
            omega
          refine ite2 (fun e => ?_) (fun e => ?_)
          · have e' : i / st % 2 = 0 := by
              have : ((i : Int) / (st : Int) % 2 == 0) = true := by simpa using e
              rw [ed] at this
              exact of_decide_eq_true this
            have hj : i + st < M := hin i hi' (by omega)
            obtain ⟨o1, o2⟩ := mix_old (f := g) hps e'
            have c1 : (i : Int) + (st : Int) = ((i + st : Nat) : Int) := by omega
            refine ⟨_, _, .inl (.of g2), ixL_at hi', _, .int (mixF g st i (i + st)), .inl (.of g2), by rw [c1]; exact ixL_at hj, ?_⟩
            dsimp only [gName]
            rw [o1, o2]
            refine ⟨_, i, g2, by rw [ixL_len]; exact ixN_nat hi', ?_⟩
            refine ⟨_, i + st, upd_same, by rw [c1, List.length_set, ixL_len]; exact ixN_nat hj, ?_⟩
            refine ⟨some (.int i), some (.int (g i)), some (.int (g (i + st))), rfl, same_put (same_put s2 hl) hl, ?_⟩
            rw [upd_same, ixL_set, ixL_set]
            congr 2
            exact ixL_congr fun k hk => (mix_next hps e' k).symm
          · have e' : ¬ i / st % 2 = 0 := fun z => by
              rw [← decide_eq_true_iff (p := i / st % 2 = 0), ← ed] at z
              exact e (by simpa using z)
            refine ⟨some (.int i), z4, z5, rfl, s2, ?_⟩
            rw [g2, ixL_congr fun k _ => (mix_skip hps e' k).symm]
        · rintro σ H2 ⟨z3, z4, z5, rfl, s2, g2⟩
          refine ⟨z3, z4, z5, rfl, s2, ?_⟩
          rw [g2, Int.toNat_natCast, ixL_congr fun k hk => mix_end hk]
      clear g1 s1
      rintro σ H1 ⟨z3, z4, z5, rfl, s1, g1⟩
      refine ⟨.inr (.inl ⟨by decide, by decide⟩), m - (s + 1), by omega, s + 1, z3, z4, z5, hsm, rfl, ?_, s1, ?_⟩
      · rw [e2]; rfl
      · rw [ehad]; exact g1
    · have hsm : s = m := by
        rcases Nat.lt_or_ge s m with z | z
        · have := hpow s z
          exact (e (decide_eq_true (by omega))).elim
        · omega
      subst hsm
      exact ⟨_, z3, z4, z5, rfl, s1, g1⟩
  clear g1 s1
  rintro σ H1 ⟨z2, z3, z4, z5, rfl, s1, g1⟩
  rw [ixL_congr ew] at g1
  generalize wt m (valF bs) = g at *
  refine seq_at (fun σ H' => ∃ (t : Addr) (zs : List V), σ = [some (.ref p), some (.ref l), z2, z3, z4, z5, some (.ref t)] ∧ Same H H' ∧ H' t = some (.lst zs) ∧ Reps K H' ((termG g M).map termD) zs) ?_ ?_ (by walk_at "sm")
  · refine ⟨M, .inl ⟨_, .of g1, ixL_len.symm⟩, (M : Int), rfl, by omega, by omega, ?_⟩
    refine comp_range (fun i zs H' => Same H1 H' ∧ Reps K H' ((termG g i).map termD) zs ∧ zs.length ≤ i) ⟨Same.refl _, reps_nil, Nat.le_refl _⟩ (fun i zs H' hi ⟨_, _, e⟩ => small1000 (by omega)) ?_ ?_
    · rintro i zs H2 hi ⟨s2, r2, l2⟩
      have hi' : i < M := by omega
      rw [show (0 : Int) + (i : Int) = (i : Int) from Int.zero_add _]
      have et : termG g (i + 1) = termG g i ++ (if g i = 0 then [] else [(i, g i)]) := rfl
      rw [et]
      have gi : SqL K H2 l (ixL g M) := s2.sqL (.of g1)
      refine ⟨_, _, .inl gi, ixL_at hi', ?_⟩
      refine ite2 (fun e => ?_) (fun e => ?_)
      · have w0 : ¬ g i = 0 := by simpa using e
        rw [if_neg w0, List.map_append]
        refine ⟨_, _, .inl gi, ixL_at hi', small_le (show 2 ≤ 1000 by decide), fun k hk => ⟨s2.trans (Same.upd hk), ?_, by rw [List.length_append]; exact Nat.succ_le_succ l2⟩⟩
        exact Reps.append (Reps.same (Same.upd hk) _ _ r2) (reps_cons (rep_tup1 (xs := [.int i, .int (g i)]) upd_same (reps_cons rep_int (reps_cons rep_int reps_nil))) reps_nil)
      · have w0 : g i = 0 := by simpa using e
        rw [if_pos w0, List.append_nil]
        exact ⟨s2, r2, Nat.le_succ_of_le l2⟩
    · rintro zs H2 ⟨s2, r2, l2⟩ t ht
      rw [Int.toNat_natCast] at r2
      exact ⟨t, zs, rfl, s1.trans (s2.trans (Same.upd ht)), upd_same, Reps.same (Same.upd ht) _ _ r2⟩
  clear g1 s1
  rintro σ H1 ⟨t, zs, rfl, s1, g1, r1⟩
  refine ⟨M, .inr ⟨_, s1.sqT hp, by rw [List.length_map, hb]⟩, rfl, ?_⟩
  dsimp only [mBitlen, tC, mSub]
  rw [hbits]
  have : ((m + 1 : Nat) : Int) - 1 = (m : Int) := by omega
  rw [this]
  refine ⟨_, .inl ⟨.of g1, fun k hk => ⟨small_le (show 2 ≤ 1000 by decide), fun k2 hk2 => ?_⟩⟩⟩
  have S := (Same.upd (o := .tup zs) hk).trans (Same.upd (o := .tup [.int m, .ref k]) hk2)
  refine q _ _ (s1.trans S) (.of (rep_tup1 upd_same (reps_cons rep_int (reps_cons (rep_tup1 ?_ (Reps.same S _ _ r1)) reps_nil))))
  exact Same.upd hk2 _ _ upd_same
theorem termG_keys (g : Nat → Int) : ∀ N, ((termG g N).map fun t => (t.1 : Int)).Nodup
  | 0 => List.nodup_nil
  | N + 1 => by
    show ((termG g N ++ (if g N = 0 then [] else [(N, g N)])).map fun t => (t.1 : Int)).Nodup
    by_cases e : g N = 0
    · rw [if_pos e, List.append_nil]; exact termG_keys g N
    · rw [if_neg e, List.map_append, List.nodup_append]
      refine ⟨termG_keys g N, by simp, fun a h1 b h2 => ?_⟩
      obtain ⟨t, ht, rfl⟩ := List.mem_map.mp h1
      simp only [List.map_cons, List.map_nil, List.mem_singleton] at h2
      have := (termG_mem ht).1
      subst h2
      omega
def dkT (ts : List (Nat × Int)) : List (Key × V) := ts.map fun t => ((Sum.inl (t.1 : Int) : Key), V.int t.2)
theorem dkT_get (g : Nat → Int) (k : Nat) : ∀ N, k < N → ((valV (dkT (termG g N)) (Sum.inl (k : Int))).getD (.int 0)) = .int (g k) := fun N hk => by
  have ap : ∀ (l1 l2 : List (Nat × Int)), valV (dkT (l1 ++ l2)) (Sum.inl (k : Int)) = match valV (dkT l1) (Sum.inl (k : Int)) with | some v => some v | none => valV (dkT l2) (Sum.inl (k : Int)) := fun l1 l2 => by
    induction l1 with
    | nil => rfl
    | cons t l1 ih =>
      by_cases e : ((Sum.inl (t.1 : Int) : Key)) = Sum.inl (k : Int)
      · rw [show dkT (t :: l1 ++ l2) = ((Sum.inl (t.1 : Int) : Key), V.int t.2) :: dkT (l1 ++ l2) from rfl, valV_pos (p := ((Sum.inl (t.1 : Int) : Key), V.int t.2)) e, show dkT (t :: l1) = ((Sum.inl (t.1 : Int) : Key), V.int t.2) :: dkT l1 from rfl, valV_pos (p := ((Sum.inl (t.1 : Int) : Key), V.int t.2)) e]
      · rw [show dkT (t :: l1 ++ l2) = ((Sum.inl (t.1 : Int) : Key), V.int t.2) :: dkT (l1 ++ l2) from rfl, valV_neg (p := ((Sum.inl (t.1 : Int) : Key), V.int t.2)) e, show dkT (t :: l1) = ((Sum.inl (t.1 : Int) : Key), V.int t.2) :: dkT l1 from rfl, valV_neg (p := ((Sum.inl (t.1 : Int) : Key), V.int t.2)) e, ih]
  have key : ∀ N, valV (dkT (termG g N)) (Sum.inl (k : Int)) = if k < N ∧ g k ≠ 0 then some (.int (g k)) else none := fun N => by
    induction N with
    | zero => rw [if_neg (by omega)]; rfl
    | succ N ih =>
      have last : valV (dkT (if g N = 0 then [] else [(N, g N)])) (Sum.inl (k : Int)) = if N = k ∧ g N ≠ 0 then some (V.int (g N)) else none := by
        by_cases e : g N = 0
        · rw [if_pos e, if_neg (fun h => h.2 e)]; rfl
        · rw [if_neg e]
          by_cases c : N = k
          · rw [if_pos ⟨c, e⟩]
            exact valV_pos (p := ((Sum.inl (N : Int) : Key), V.int (g N))) (by rw [c])
          · rw [if_neg (fun h => c h.1)]
            exact valV_neg (p := ((Sum.inl (N : Int) : Key), V.int (g N))) (fun h => by simp at h; omega)
      rw [show termG g (N + 1) = termG g N ++ (if g N = 0 then [] else [(N, g N)]) from rfl, ap, ih, last]
      by_cases h1 : k < N ∧ g k ≠ 0
      · rw [if_pos h1]
        show some (V.int (g k)) = _
        rw [if_pos ⟨by omega, h1.2⟩]
      · rw [if_neg h1]
        show (if N = k ∧ g N ≠ 0 then some (V.int (g N)) else none) = _
        by_cases h2 : N = k ∧ g N ≠ 0
        · obtain ⟨rfl, z⟩ := h2
          rw [if_pos ⟨rfl, z⟩, if_pos ⟨by omega, z⟩]
        · rw [if_neg h2, if_neg]
          rintro ⟨c1, c2⟩
          by_cases c : k < N
          · exact h1 ⟨c, c2⟩
          · have : N = k := by omega
            subst this
            exact h2 ⟨rfl, c2⟩
  rw [key N]
  by_cases z : g k = 0
  · rw [if_neg (fun h => h.2 z), z]; rfl
  · rw [if_pos ⟨hk, z⟩]; rfl
structure GS (H0 : Hp) (t : Addr) (M : Nat) (l : Addr) (H : Hp) : Prop where
  fd : Feed H t
  fr : Frm t H0 H
  ne : l ≠ t
  at_ : ∃ ks : List Nat, H l = some (.lst (iL ks)) ∧ ks.length ≤ M ∧ ∀ k ∈ ks, k < M
theorem GS.mk' {H0 H : Hp} {t : Addr} {M : Nat} {l : Addr} {ks : List Nat} (F : Feed H t) (fr : Frm t H0 H) (hl : H l = none) (h1 : ks.length ≤ M) (h2 : ∀ k ∈ ks, k < M) : GS H0 t M l (upd H l (.lst (iL ks))) :=
  ⟨F.upd hl, fr.trans (Frm.upd hl), F.neT hl, ks, upd_same, h1, h2⟩
theorem iL_snoc (ks : List Nat) (k : Nat) : iL (ks ++ [k]) = iL ks ++ [V.int k] := by unfold iL; rw [List.map_append]; rfl
theorem snoc_lt {ks : List Nat} {k M : Nat} (h : ∀ x ∈ ks, x < M) (hk : k < M) : ∀ x ∈ ks ++ [k], x < M := fun x hx => by
  rcases List.mem_append.mp hx with h' | h'
  · exact h x h'
  · rw [List.mem_singleton] at h'; subst h'; exact hk
def GJ (H0 : Hp) (t p : Addr) (m M : Nat) (kvs : List (Key × V)) : St → Hp → Prop := fun σ H => ∃ (d l : Addr) (part : Nat) (way : Int), σ = [some (.ref t), some (.ref p), some (.int M), some (.int m), some (.ref d), some (.int part), some (.int way), some (.ref l)] ∧ 1 ≤ part ∧ part ≤ 4 ∧ GS H0 t M l H ∧ d ≠ t ∧ H d = some (.dK kvs)
theorem GS.upd {H0 H : Hp} {t q : Addr} {M : Nat} {l : Addr} {o : HO} (L : GS H0 t M l H) (hq : H q = none) : GS H0 t M l (L2.upd H q o) :=
  let ⟨ks, h1, h2, h3⟩ := L.at_
  ⟨L.fd.upd hq, L.fr.trans (Frm.upd hq), L.ne, ks, Same.upd hq _ _ h1, h2, h3⟩
def sp_glmade (K : PySem.W.Frag) : Sp := fun vs H Q _ => match vs with
  | [.ref t, .ref p] => ∃ (m : Nat) (bs : List Bool), Feed H t ∧ 1 ≤ m ∧ m ≤ 6 ∧ bs.length = 2 ^ m ∧ H p = some (.tup (bs.map V.bl)) ∧
      ∀ v (ts : List (Nat × Int)) H', Feed H' t → Frm t H H' → SumAt K H' v m ts → ts.length ≤ 64 → (∀ q ∈ ts, q.1 < 64 ∧ -64 ≤ q.2 ∧ q.2 ≤ 64) → Q v H'
  | _ => False
theorem sp_glmade_mono : SpMono (sp_glmade K) := fun vs H Q Q' E h q => by
  unfold sp_glmade at *
  split at q
  · obtain ⟨m, bs, h1, h2, h3, h4, h5, q⟩ := q; exact ⟨m, bs, h1, h2, h3, h4, h5, fun v ts H' x1 x2 x3 x4 x5 => h _ _ (q v ts H' x1 x2 x3 x4 x5)⟩
  · exact q.elim
theorem ok__law_glance : FnOk P w K mg base CX0 2 T.f__law_glance T.d__law_glance ["_law_feed_here", "_law_table_here"] (sp_glmade K) := by
  have G__law_draw := ok__law_draw (P := P) (w := w) (base := base) T; have G__law_sum := ok__law_sum (P := P) (w := w) (base := base) T; have G__law_many := ok__law_many (P := P) (w := w) (base := base) T
  refine T.F__law_glance.ok sc__law_glance (fun vs H Q E h => by unfold sp_glmade at h; split at h <;> first | rfl | exact h.elim) (fun cdv A outer s H vs Q E hr h => ?_)
  have hu := hu60 hr
  have mo1 : SpMono sp_many := sp_many_mono
  have mo2 : SpMono (sp_fsum K) := sp_fsum_mono
  have hr__law_draw := hr.mono (show 1 ≤ _ by decide); have hr__law_sum := hr.mono (show 1 ≤ _ by decide); have hr__law_many := hr.mono (show 1 ≤ _ by decide)
  match vs, h with
  | [.ref t, .ref p], ⟨m, bs, F, m1, m6, hb, hp, q⟩ =>
  refine ⟨_, (@pss_cons _ _ _ _ _ (@ps_set _ _ 2 _ _ _ _ sc__law_glance.nd rfl (by first | exact Or.inl rfl | exact Or.inr rfl) (@pe_callB _ _ _ _ _ _ _ _ _ (kLen (K := K)) rfl T.z_len (by rfl) (@pa_cons _ _ _ _ _ (@vv _ 1 _ _ (by rfl) (by first | exact Or.inl rfl | exact Or.inr (Or.inl rfl) | exact Or.inr (Or.inr rfl)) (by decide) (by decide)) (@pa_nil _) (by rfl)) (by decide) (by decide) (by rfl) (by rfl)) (by rfl) (by first | exact .inl rfl | exact .inr rfl | assumption)) (@pss_cons _ _ _ _ _ (@ps_set _ _ 3 _ _ _ _ sc__law_glance.nd rfl (by first | exact Or.inl rfl | exact Or.inr rfl) (@pe_op _ _ _ _ _ _ _ _ om_sub (@kBitlen _ K _ _ _ _ (@vv _ 2 _ _ (by rfl) (by first | exact Or.inl rfl | exact Or.inr (Or.inl rfl) | exact Or.inr (Or.inr rfl)) (by decide) (by decide)) (by rfl) (by rfl) (by rfl)) (@pe_int _ _ _ _)) (by rfl) (by first | exact .inl rfl | exact .inr rfl | assumption)) (@pss_cons _ _ _ _ _ (@ps_set _ _ 4 _ _ _ _ sc__law_glance.nd rfl (by first | exact Or.inl rfl | exact Or.inr rfl) (@pe_callTy _ _ _ _ _ _ _ _ _ (kDict (K := K) rfl) rfl T.z_dict (by rfl) (@pa_cons _ _ _ _ _ (@kIx _ K _ _ _ _ _ (@pe_call _ _ _ _ _ _ _ _ _ _ _ _ _ _ _ _ G__law_sum hr__law_sum rfl T.m__law_sum T.F__law_sum.kp T.b__law_sum .nil pass0 (@pa_cons _ _ _ _ _ (@vv _ 1 _ _ (by rfl) (by first | exact Or.inl rfl | exact Or.inr (Or.inl rfl) | exact Or.inr (Or.inr rfl)) (by decide) (by decide)) (@pa_nil _) (by rfl)) (by decide) (by rfl) (by rfl)) (@pe_int _ _ _ _) (by intro _ _; rfl) (by rfl)) (@pa_nil _) (by rfl)) (by decide) (by decide) (by rfl) (by rfl)) (by rfl) (by first | exact .inl rfl | exact .inr rfl | assumption)) (@pss_cons _ _ _ _ _ (@ps_set _ _ 5 _ _ _ _ sc__law_glance.nd rfl (by first | exact Or.inl rfl | exact Or.inr rfl) (@pe_op _ _ _ _ _ _ _ _ (kAdd (K := K)) (@pe_int _ _ _ _) (@pe_call _ _ _ _ _ _ _ _ _ _ _ _ _ _ _ _ G__law_draw hr__law_draw rfl T.m__law_draw T.F__law_draw.kp T.b__law_draw .nil pass0 (@pa_cons _ _ _ _ _ (@vv _ 0 _ _ (by rfl) (by first | exact Or.inl rfl | exact Or.inr (Or.inl rfl) | exact Or.inr (Or.inr rfl)) (by decide) (by decide)) (@pa_cons _ _ _ _ _ (@pe_int _ _ _ _) (@pa_nil _) (by rfl)) (by rfl)) (by decide) (by rfl) (by rfl))) (by rfl) (by first | exact .inl rfl | exact .inr rfl | assumption)) (@pss_cons _ _ _ _ _ (@ps_set _ _ 6 _ _ _ _ sc__law_glance.nd rfl (by first | exact Or.inl rfl | exact Or.inr rfl) (@pe_call _ _ _ _ _ _ _ _ _ _ _ _ _ _ _ _ G__law_draw hr__law_draw rfl T.m__law_draw T.F__law_draw.kp T.b__law_draw .nil pass0 (@pa_cons _ _ _ _ _ (@vv _ 0 _ _ (by rfl) (by first | exact Or.inl rfl | exact Or.inr (Or.inl rfl) | exact Or.inr (Or.inr rfl)) (by decide) (by decide)) (@pa_cons _ _ _ _ _ (@pe_int _ _ _ _) (@pa_nil _) (by rfl)) (by rfl)) (by decide) (by rfl) (by rfl)) (by rfl) (by first | exact .inl rfl | exact .inr rfl | assumption)) (@pss_cons _ _ _ _ _ (@ps_compB _ _ _ _ _ _ _ (["_law_some", "_law_feed_here", "_law_part"]) 1 ([0, 5]) _ _ _ _ 7 _ _ _ rfl sc__law_glance.nd rfl rfl (@pi_range1 _ _ _ _ _ _ rfl T.z_range (@pa_cons _ _ _ _ _ (@vv _ 2 _ _ (by rfl) (by first | exact Or.inl rfl | exact Or.inr (Or.inl rfl) | exact Or.inr (Or.inr rfl)) (by decide) (by decide)) (@pa_nil _) (by rfl)) (by rfl)) (by kernel_rfl) rfl rfl (by kernel_rfl) (fun c => @pg_name _ _ 0 _ (show (["_law_some", "_law_feed_here", "_law_part"] : List Str).Nodup by decide +kernel) rfl (by first | exact Or.inl rfl | exact Or.inr rfl) (by first | exact .inl rfl | exact .inr rfl | assumption)) (go_name (by decide)) (fun c => @pts_one _ _ _ (@tu_cmp _ _ _ _ _ _ _ _ (kEq (K := K) hu) (@pe_call _ _ _ _ _ _ _ _ _ _ _ _ _ _ _ _ G__law_draw hr__law_draw rfl T.m__law_draw T.F__law_draw.kp T.b__law_draw .nil pass0 (@pa_cons _ _ _ _ _ (@vv _ 1 _ _ (by rfl) (by first | exact Or.inl rfl | exact Or.inr (Or.inl rfl) | exact Or.inr (Or.inr rfl)) (by decide) (by decide)) (@pa_cons _ _ _ _ _ (@vv _ 2 _ _ (by rfl) (by first | exact Or.inl rfl | exact Or.inr (Or.inl rfl) | exact Or.inr (Or.inr rfl)) (by decide) (by decide)) (@pa_nil _) (by rfl)) (by rfl)) (by decide) (by rfl) (by rfl)) (@pe_int _ _ _ _) (by first | exact nobehind _ (by decide) (by decide) | rfl))) (fun c => (@vv _ 0 _ _ (by rfl) (by first | exact Or.inl rfl | exact Or.inr (Or.inl rfl) | exact Or.inr (Or.inr rfl)) (by decide) (by decide))) (by rfl) (by intro _; rfl)) (@pss_cons _ _ _ _ _ (@ps_if _ _ _ _ _ _ _ _ (@tu_cmp _ _ _ _ _ _ _ _ (kEq (K := K) hu) (@vv _ 6 _ _ (by rfl) (by first | exact Or.inl rfl | exact Or.inr (Or.inl rfl) | exact Or.inr (Or.inr rfl)) (by decide) (by decide)) (@pe_int _ _ _ _) (by first | exact nobehind _ (by decide) (by decide) | rfl)) (@pss_one _ _ _ (@ps_compB _ _ _ _ _ _ _ (["_law_some", "_law_part"]) 1 [5] _ _ _ _ 7 _ _ _ rfl sc__law_glance.nd rfl rfl (@pi_range1 _ _ _ _ _ _ rfl T.z_range (@pa_cons _ _ _ _ _ (@vv _ 2 _ _ (by rfl) (by first | exact Or.inl rfl | exact Or.inr (Or.inl rfl) | exact Or.inr (Or.inr rfl)) (by decide) (by decide)) (@pa_nil _) (by rfl)) (by rfl)) (by kernel_rfl) rfl rfl (by kernel_rfl) (fun c => @pg_name _ _ 0 _ (show (["_law_some", "_law_part"] : List Str).Nodup by decide +kernel) rfl (by first | exact Or.inl rfl | exact Or.inr rfl) (by first | exact .inl rfl | exact .inr rfl | assumption)) (go_name (by decide)) (fun c => @pts_one _ _ _ (@tu_cmp _ _ _ _ _ _ _ _ om_lt (@pe_call _ _ _ _ _ _ _ _ _ _ _ _ _ _ _ _ G__law_many hr__law_many rfl T.m__law_many T.F__law_many.kp T.b__law_many .nil pass0 (@pa_cons _ _ _ _ _ (@vv _ 0 _ _ (by rfl) (by first | exact Or.inl rfl | exact Or.inr (Or.inl rfl) | exact Or.inr (Or.inr rfl)) (by decide) (by decide)) (@pa_nil _) (by rfl)) (by decide) (by rfl) (by rfl)) (@vv _ 1 _ _ (by rfl) (by first | exact Or.inl rfl | exact Or.inr (Or.inl rfl) | exact Or.inr (Or.inr rfl)) (by decide) (by decide)) (by first | exact nobehind _ (by decide) (by decide) | rfl))) (fun c => (@vv _ 0 _ _ (by rfl) (by first | exact Or.inl rfl | exact Or.inr (Or.inl rfl) | exact Or.inr (Or.inr rfl)) (by decide) (by decide))) (by rfl) (by intro _; rfl))) (@pss_nil _)) (@pss_cons _ _ _ _ _ (@ps_if _ _ _ _ _ _ _ _ (@tu_cmp _ _ _ _ _ _ _ _ (kEq (K := K) hu) (@vv _ 6 _ _ (by rfl) (by first | exact Or.inl rfl | exact Or.inr (Or.inl rfl) | exact Or.inr (Or.inr rfl)) (by decide) (by decide)) (@pe_int _ _ _ _) (by first | exact nobehind _ (by decide) (by decide) | rfl)) (@pss_cons _ _ _ _ _ (@ps_set _ _ 7 _ _ _ _ sc__law_glance.nd rfl (by first | exact Or.inl rfl | exact Or.inr rfl) (@kListRange _ _ _ _ _ _ _ rfl rfl T.z_list rfl T.z_range (@pa_cons _ _ _ _ _ (@vv _ 2 _ _ (by rfl) (by first | exact Or.inl rfl | exact Or.inr (Or.inl rfl) | exact Or.inr (Or.inr rfl)) (by decide) (by decide)) (@pa_nil _) (by rfl)) (by rfl) (by rfl)) (by rfl) (by first | exact .inl rfl | exact .inr rfl | assumption)) (@pss_one _ _ _ (@ps_expr _ _ _ _ (@kPopAt _ K _ _ _ _ _ _ (@vv _ 7 _ _ (by rfl) (by first | exact Or.inl rfl | exact Or.inr (Or.inl rfl) | exact Or.inr (Or.inr rfl)) (by decide) (by decide)) (@pa_cons _ _ _ _ _ (@pe_call _ _ _ _ _ _ _ _ _ _ _ _ _ _ _ _ G__law_draw hr__law_draw rfl T.m__law_draw T.F__law_draw.kp T.b__law_draw .nil pass0 (@pa_cons _ _ _ _ _ (@vv _ 0 _ _ (by rfl) (by first | exact Or.inl rfl | exact Or.inr (Or.inl rfl) | exact Or.inr (Or.inr rfl)) (by decide) (by decide)) (@pa_cons _ _ _ _ _ (@vv _ 2 _ _ (by rfl) (by first | exact Or.inl rfl | exact Or.inr (Or.inl rfl) | exact Or.inr (Or.inr rfl)) (by decide) (by decide)) (@pa_nil _) (by rfl)) (by rfl)) (by decide) (by rfl) (by rfl)) (@pa_nil _) (by rfl)) (by rfl) (by rfl) (by rfl) (by rfl) (by rfl) (by rfl)) (by rfl)))) (@pss_nil _)) (@pss_cons _ _ _ _ _ (@ps_if _ _ _ _ _ _ _ _ (PW.pt (@pw_and _ _ _ _ _ _ _ (@tu_cmp _ _ _ _ _ _ _ _ (kEq (K := K) hu) (@vv _ 6 _ _ (by rfl) (by first | exact Or.inl rfl | exact Or.inr (Or.inl rfl) | exact Or.inr (Or.inr rfl)) (by decide) (by decide)) (@pe_int _ _ _ _) (by first | exact nobehind _ (by decide) (by decide) | rfl)) (@pw_and1 _ _ _ _ (@tu_cmp _ _ _ _ _ _ _ _ om_lt (@vv _ 5 _ _ (by rfl) (by first | exact Or.inl rfl | exact Or.inr (Or.inl rfl) | exact Or.inr (Or.inr rfl)) (by decide) (by decide)) (@pe_int _ _ _ _) (by first | exact nobehind _ (by decide) (by decide) | rfl))))) (@pss_one _ _ _ (@ps_compB _ _ _ _ _ _ _ (["_law_some", "_law_part"]) 1 [5] _ _ _ _ 7 _ _ _ rfl sc__law_glance.nd rfl rfl (@pi_range1 _ _ _ _ _ _ rfl T.z_range (@pa_cons _ _ _ _ _ (@vv _ 2 _ _ (by rfl) (by first | exact Or.inl rfl | exact Or.inr (Or.inl rfl) | exact Or.inr (Or.inr rfl)) (by decide) (by decide)) (@pa_nil _) (by rfl)) (by rfl)) (by kernel_rfl) rfl rfl (by kernel_rfl) (fun c => @pg_name _ _ 0 _ (show (["_law_some", "_law_part"] : List Str).Nodup by decide +kernel) rfl (by first | exact Or.inl rfl | exact Or.inr rfl) (by first | exact .inl rfl | exact .inr rfl | assumption)) (go_name (by decide)) (fun c => @pts_one _ _ _ (@tu_cmp _ _ _ _ _ _ _ _ (kEq (K := K) hu) (@vv _ 1 _ _ (by rfl) (by first | exact Or.inl rfl | exact Or.inr (Or.inl rfl) | exact Or.inr (Or.inr rfl)) (by decide) (by decide)) (@pe_int _ _ _ _) (by first | exact nobehind _ (by decide) (by decide) | rfl))) (fun c => (@vv _ 0 _ _ (by rfl) (by first | exact Or.inl rfl | exact Or.inr (Or.inl rfl) | exact Or.inr (Or.inr rfl)) (by decide) (by decide))) (by rfl) (by intro _; rfl))) (@pss_nil _)) (@pss_one _ _ _ (@ps_ret _ _ _ _ (@pe_tup _ _ _ _ _ (@pa_cons _ _ _ _ _ (@vv _ 3 _ _ (by rfl) (by first | exact Or.inl rfl | exact Or.inr (Or.inl rfl) | exact Or.inr (Or.inr rfl)) (by decide) (by decide)) (@pa_cons _ _ _ _ _ (@pe_callTy _ _ _ _ _ _ _ _ _ (kTuple (K := K)) rfl T.z_tuple (by rfl) (@pa_cons _ _ _ _ _ (@pe_compB _ _ _ _ _ _ _ (["_law_some", "_law_weights"]) 1 [4] _ _ _ _ rfl (@kSeq _ K _ _ _ (@vv _ 7 _ _ (by rfl) (by first | exact Or.inl rfl | exact Or.inr (Or.inl rfl) | exact Or.inr (Or.inr rfl)) (by decide) (by decide)) (by rfl)) (by kernel_rfl) rfl rfl (by kernel_rfl) (fun c => @pg_name _ _ 0 _ (show (["_law_some", "_law_weights"] : List Str).Nodup by decide +kernel) rfl (by first | exact Or.inl rfl | exact Or.inr rfl) (by first | exact .inl rfl | exact .inr rfl | assumption)) (go_name (by decide)) (fun c => @pts_nil _) (fun c => (@pe_tup _ _ _ _ _ (@pa_cons _ _ _ _ _ (@vv _ 0 _ _ (by rfl) (by first | exact Or.inl rfl | exact Or.inr (Or.inl rfl) | exact Or.inr (Or.inr rfl)) (by decide) (by decide)) (@pa_cons _ _ _ _ _ (@pe_dget2 _ _ _ _ _ _ _ _ _ (hu_one hu) (@vv _ 1 _ _ (by rfl) (by first | exact Or.inl rfl | exact Or.inr (Or.inl rfl) | exact Or.inr (Or.inr rfl)) (by decide) (by decide)) (@vv _ 0 _ _ (by rfl) (by first | exact Or.inl rfl | exact Or.inr (Or.inl rfl) | exact Or.inr (Or.inr rfl)) (by decide) (by decide)) (@pe_int _ _ _ _) ⟨by rfl, by rfl, by rfl, by rfl⟩) (@pa_nil _) (by rfl)) (by rfl)))) (by intro _; rfl)) (@pa_nil _) (by rfl)) (by decide) (by decide) (by rfl) (by rfl)) (@pa_nil _) (by rfl)) (by rfl)))))))))))))), ?_⟩
  have h64 : 2 ^ m ≤ 64 := Nat.pow_le_pow_right (n := 2) (by decide) m6
  have hbits := bits_pow m (by omega)
  have hpo := Nat.two_pow_pos m
  have hL := wt_light m6 bs
  have npt : p ≠ t := fun e => by obtain ⟨a, b, c, d, _, h⟩ := F.at_; rw [e, h] at hp; cases hp
  refine ⟨2 ^ m, .inr ⟨_, .of hp, by rw [List.length_map, hb]⟩, ?_⟩
  dsimp only [gName]
  refine seq_at (fun σ H' => σ = [some (.ref t), some (.ref p), some (.int ((2 ^ m : Nat) : Int)), some (.int m), none, none, none, none] ∧ H = H') ?_ ?_ (by walk_at "sm")
  · refine ⟨rfl, ?_⟩
    dsimp only [mBitlen, tC, mSub]
    rw [hbits, show ((m + 1 : Nat) : Int) - 1 = (m : Int) by omega]
    exact ⟨rfl, rfl⟩
  rintro σ _ ⟨rfl, rfl⟩
  have htl := termG_len (wt m (valF bs)) (2 ^ m)
  refine seq_at (fun σ H' => ∃ d : Addr, σ = [some (.ref t), some (.ref p), some (.int ((2 ^ m : Nat) : Int)), some (.int m), some (.ref d), none, none, none] ∧ Same H H' ∧ d ≠ t ∧ H' d = some (.dK (dkT (termG (wt m (valF bs)) (2 ^ m))))) ?_ ?_ (by walk_at "sm")
  · refine ⟨m, bs, m1, m6, hb, .of hp, fun v H1 s1 S => ?_⟩
    obtain ⟨a, b, us, rfl, ha, hbb, hR⟩ := S.at_
    have hul : us.length = (termG (wt m (valF bs)) (2 ^ m)).length := by have := hR.length; rw [List.length_map] at this; omega
    refine ⟨_, _, .inr ha, rfl, us, (termG (wt m (valF bs)) (2 ^ m)).map fun t => ((t.1 : Int), t.2), hbb, by rw [List.length_map]; exact hul, by rw [List.length_map]; omega, fun j kv hkv => ?_, ?_, fun d hd => ?_⟩
    · rw [List.getElem?_map] at hkv
      cases et : (termG (wt m (valF bs)) (2 ^ m))[j]? with
      | none => rw [et] at hkv; cases hkv
      | some t =>
        rw [et] at hkv
        cases hkv
        have hj : j < us.length := by rw [hul]; exact (List.getElem?_eq_some_iff.mp et).1
        obtain ⟨t', c, h1, h2, h3⟩ := reps_terms_at hR (List.getElem?_eq_getElem hj)
        rw [et] at h1
        cases h1
        exact ⟨c, by rw [List.getElem?_eq_getElem hj, h2], h3⟩
    · rw [List.map_map]
      exact termG_keys _ _
    · dsimp only [gName]
      rw [List.map_map]
      have ed : (termG (wt m (valF bs)) (2 ^ m)).map ((fun kv => ((Sum.inl kv.1 : Key), V.int kv.2)) ∘ fun t => ((t.1 : Int), t.2)) = dkT (termG (wt m (valF bs)) (2 ^ m)) := rfl
      rw [ed]
      exact ⟨d, rfl, s1.trans (Same.upd hd), (F.same s1).neT hd, upd_same⟩
  rintro σ H1 ⟨d, rfl, s1, nd, gd⟩
  have F1 := F.same s1
  have hg := fun k hk => dkT_get (wt m (valF bs)) k (2 ^ m) hk
  generalize dkT (termG (wt m (valF bs)) (2 ^ m)) = kvs at *
  generalize hM : 2 ^ m = M at *
  have okM : okDiv (M : Int) := okDiv_of (by omega) (Int.le_trans (Int.ofNat_le.mpr h64) (by decide))
  refine ⟨F1, okDiv_of (by decide) (by decide), fun p1 H2 p0 p4 F2 f2 => ?_⟩
  obtain ⟨pn, rfl⟩ := Int.eq_ofNat_of_zero_le p0
  dsimp only [tC, mAdd, gName]
  rw [show (1 : Int) + (pn : Int) = ((pn + 1 : Nat) : Int) by omega]
  refine ⟨F2, okDiv_of (by decide) (by decide), fun way H3 _ _ F3 f3 => ?_⟩
  have gd3 : H3 d = some (.dK kvs) := by rw [f3 d nd, f2 d nd]; exact gd
  have fr3 : Frm t H H3 := s1.frm.trans ((frm_all f2).trans (frm_all f3))
  dsimp only [gName]
  refine seq_at (GJ H t p m M kvs) ?_ ?_ (by walk_at "sm")
  · refine ⟨(M : Int), rfl, by omega, by omega, ?_⟩
    refine comp_range (n := ((M : Int)).toNat) (fun i ys H' => Feed H' t ∧ Frm t H H' ∧ H' d = some (.dK kvs) ∧ ∃ ks : List Nat, ys = iL ks ∧ ks.length ≤ i ∧ ∀ k ∈ ks, k < M) ⟨F3, fr3, gd3, [], rfl, Nat.le_refl _, fun k hk => by cases hk⟩ (fun i ys H' hi ⟨_, _, _, ks, e, e', _⟩ => by
      rw [e]; unfold iL; rw [List.length_map]; exact small1000 (by omega)) ?_ ?_
    · rintro i ys H' hi ⟨Fi, fi, gi, ks, rfl, hk1, hk2⟩
      refine ⟨Fi, okDiv_of (by omega) (Int.le_trans (Int.ofNat_le.mpr (show pn + 1 ≤ 64 by omega)) (by decide)), fun x H4 _ _ F4 f4 => ?_⟩
      have g4 : H4 d = some (.dK kvs) := by rw [f4 d nd]; exact gi
      refine ite2 (fun e => ⟨F4, fi.trans (frm_all f4), g4, ks ++ [i], ?_, by rw [List.length_append]; exact Nat.succ_le_succ hk1, snoc_lt hk2 (by omega)⟩) (fun e => ⟨F4, fi.trans (frm_all f4), g4, ks, rfl, by omega, hk2⟩)
      rw [iL_snoc, Int.zero_add]
    · rintro ys H' ⟨Fi, fi, gi, ks, rfl, hk1, hk2⟩ l hl
      exact ⟨d, l, pn + 1, way, rfl, by omega, by omega, GS.mk' Fi fi hl (by omega) hk2, nd, Same.upd hl _ _ gi⟩
  clear gd3 fr3 F3 f3 f2 F2 gd nd F1 s1
  rintro σ Ha ⟨d, l, part, way, rfl, pp1, pp2, L, nd, gd⟩
  refine seq_at (GJ H t p m M kvs) ?_ ?_ (by walk_at "sm")
  · refine ite2 (fun e => ?_) (fun e => ⟨d, l, part, way, rfl, pp1, pp2, L, nd, gd⟩)
    refine ⟨(M : Int), rfl, by omega, by omega, ?_⟩
    refine comp_range (n := ((M : Int)).toNat) (fun i ys H' => H' = Ha ∧ ∃ ks : List Nat, ys = iL ks ∧ ks.length ≤ i ∧ ∀ k ∈ ks, k < M) ⟨rfl, [], rfl, Nat.le_refl _, fun k hk => by cases hk⟩ (fun i ys H' hi ⟨_, ks, e, e', _⟩ => by
      rw [e]; unfold iL; rw [List.length_map]; exact small1000 (by omega)) ?_ ?_
    · rintro i ys H' hi ⟨rfl, ks, rfl, hk1, hk2⟩
      refine ⟨i, Int.zero_add _, Nat.lt_of_lt_of_le (show i < 64 by omega) (by decide), ?_⟩
      refine ite2 (fun e => ⟨rfl, ks ++ [i], ?_, by rw [List.length_append]; exact Nat.succ_le_succ hk1, snoc_lt hk2 (by omega)⟩) (fun e => ⟨rfl, ks, rfl, by omega, hk2⟩)
      rw [iL_snoc, Int.zero_add]
    · rintro ys H' ⟨rfl, ks, rfl, hk1, hk2⟩ l hl
      exact ⟨d, l, part, way, rfl, pp1, pp2, GS.mk' L.fd L.fr hl (by omega) hk2, nd, Same.upd hl _ _ gd⟩
  clear L nd gd pp1 pp2
  rintro σ Ha ⟨d, l, part, way, rfl, pp1, pp2, L, nd, gd⟩
  refine seq_at (GJ H t p m M kvs) ?_ ?_ (by walk_at "sm")
  · refine ite2 (fun e => ?_) (fun e => ⟨d, l, part, way, rfl, pp1, pp2, L, nd, gd⟩)
    refine ⟨M, rfl, by omega, fun l2 hl2 => ?_⟩
    have g2 := upd_same (H := Ha) (a := l2) (o := .lst ((List.range M).map fun (k : Nat) => V.int (k : Int)))
    have s2 := Same.upd (o := .lst ((List.range M).map fun (k : Nat) => V.int (k : Int))) hl2
    have n2 := L.fd.neT hl2
    have nld : d ≠ l2 := ne_of_none gd hl2
    dsimp only [gName]
    generalize L2.upd Ha l2 (.lst ((List.range M).map fun (k : Nat) => V.int (k : Int))) = Hb at *
    have Fb := L.fd.same s2
    refine ⟨.inl ⟨rfl, _, .of g2⟩, Fb, okM, fun x H4 x0 x1 F4 f4 => ?_⟩
    obtain ⟨xn, rfl⟩ := Int.eq_ofNat_of_zero_le x0
    have g4 : H4 l2 = some (.lst (iL (List.range M))) := by rw [f4 l2 n2]; exact g2
    have hxn : xn < M := by omega
    refine ⟨iL (List.range M), .int xn, g4, by omega, by omega, ?_, ?_⟩
    · rw [Int.toNat_natCast]; unfold iL; rw [List.getElem?_map, List.getElem?_range hxn]; rfl
    have n4 : ∃ zs, H4 t = some (.lst zs) := F4.lst
    have er : (iL (List.range M)).eraseIdx ((xn : Int)).toNat = iL ((List.range M).eraseIdx xn) := by
      unfold iL; rw [Int.toNat_natCast, List.eraseIdx_eq_take_drop_succ, List.eraseIdx_eq_take_drop_succ, List.map_append, List.map_take, List.map_drop]
    have nda : H4 d = some (.dK kvs) := by rw [f4 d nd]; exact s2 _ _ gd
    refine ⟨d, l2, part, way, rfl, pp1, pp2, ⟨?_, ?_, n2, _, (by rw [er]; exact upd_same), ?_, ?_⟩, nd, (by rw [upd_ne nld]; exact nda)⟩
    · obtain ⟨a, b, c, e, h1, h2⟩ := F4.at_
      exact ⟨a, b, c, e, h1, by rw [upd_ne (Ne.symm n2)]; exact h2⟩
    · exact frm_new (L.fr.trans (s2.frm.trans (frm_all f4))) (L.fd.free L.fr hl2)
    · have := List.length_eraseIdx_le (List.range M) xn
      rw [List.length_range] at this
      exact this
    · intro k hk
      exact List.mem_range.mp (List.mem_of_mem_eraseIdx hk)
  clear L nd gd pp1 pp2
  rintro σ Ha ⟨d, l, part, way, rfl, pp1, pp2, L, nd, gd⟩
  refine seq_at (GJ H t p m M kvs) ?_ ?_ (by walk_at "sm")
  · have done : GJ H t p m M kvs [some (.ref t), some (.ref p), some (.int M), some (.int m), some (.ref d), some (.int part), some (.int way), some (.ref l)] Ha := ⟨d, l, part, way, rfl, pp1, pp2, L, nd, gd⟩
    refine ite2 (fun e => ?_) (fun e => ?_)
    · refine ite2 (fun e => ?_) (fun e => done)
      refine ⟨(M : Int), rfl, by omega, by omega, ?_⟩
      refine comp_range (n := ((M : Int)).toNat) (fun i ys H' => H' = Ha ∧ ∃ ks : List Nat, ys = iL ks ∧ ks.length ≤ i ∧ ∀ k ∈ ks, k < M) ⟨rfl, [], rfl, Nat.le_refl _, fun k hk => by cases hk⟩ (fun i ys H' hi ⟨_, ks, e, e', _⟩ => by
        rw [e]; unfold iL; rw [List.length_map]; exact small1000 (by omega)) ?_ ?_
      · rintro i ys H' hi ⟨rfl, ks, rfl, hk1, hk2⟩
        refine ite2 (fun e => ⟨rfl, ks ++ [i], ?_, by rw [List.length_append]; exact Nat.succ_le_succ hk1, snoc_lt hk2 (by omega)⟩) (fun e => ⟨rfl, ks, rfl, by omega, hk2⟩)
        rw [iL_snoc, Int.zero_add]
      · rintro ys H' ⟨rfl, ks, rfl, hk1, hk2⟩ l hl
        exact ⟨d, l, part, way, rfl, pp1, pp2, GS.mk' L.fd L.fr hl (by omega) hk2, nd, Same.upd hl _ _ gd⟩
    · exact done
  clear L nd gd pp1 pp2
  rintro σ Ha ⟨d, l, part, way, rfl, pp1, pp2, L, nd, gd⟩
  obtain ⟨ks, hks, hk1, hk2⟩ := L.at_
  refine .inl ⟨⟨_, .of hks⟩, ?_⟩
  refine comp_list (xs := iL ks) (fun i ys H' => Same Ha H' ∧ Reps K H' ((ks.take i).map fun k => termD (k, wt m (valF bs) k)) ys) ⟨fun _ _ h => h, reps_nil⟩ (fun i ys H' _ ⟨e, _⟩ => .of (e _ _ hks)) (fun i ys H' hi ⟨_, e⟩ => by
    have := e.length
    rw [List.length_map, List.length_take] at this
    rw [← this]; exact small1000 (by omega)) ?_ ?_
  · rintro i x ys H' hx ⟨s', r'⟩
    have hi : i < ks.length := by
      have := (List.getElem?_eq_some_iff.mp hx).1
      unfold iL at this
      rwa [List.length_map] at this
    have ex : x = .int (ks[i] : Nat) := by
      unfold iL at hx
      rw [List.getElem?_map, List.getElem?_eq_getElem hi] at hx
      exact (Option.some.inj hx).symm
    subst ex
    have hk := hk2 _ (List.getElem_mem hi)
    refine ⟨d, rfl, .inl ⟨_, .inl (s' _ _ gd)⟩, _, DGet.k (k := .inl (ks[i] : Int)) (s' _ _ gd), ?_⟩
    rw [hg _ hk]
    refine ⟨small_le (show 2 ≤ 1000 by decide), fun c hc => ⟨s'.trans (Same.upd hc), ?_⟩⟩
    rw [List.take_add_one, List.getElem?_eq_getElem hi, List.map_append]
    exact (Reps.same (Same.upd hc) _ _ r').append (reps_cons (rep_tup1 upd_same (reps_cons rep_int (reps_cons rep_int reps_nil))) reps_nil)
  · rintro ys H' ⟨s', r'⟩ lp hlp
    have hk0 := hk2
    have el : (iL ks).length = ks.length := by unfold iL; rw [List.length_map]
    rw [el, List.take_of_length_le (Nat.le_refl _)] at r'
    refine ⟨_, .inl ⟨.of upd_same, fun k hk => ⟨small_le (show 2 ≤ 1000 by decide), fun k2 hk2 => ?_⟩⟩⟩
    have S := (Same.upd (o := .lst ys) hlp).trans ((Same.upd (o := .tup ys) hk).trans (Same.upd (o := .tup [.int m, .ref k]) hk2))
    refine q _ (ks.map fun k => (k, wt m (valF bs) k)) _ (L.fd.same (s'.trans S)) (L.fr.trans (s'.trans S).frm) (.of (rep_tup1 upd_same (reps_cons rep_int (reps_cons (rep_tup1 ?_ (ds := (ks.map fun k => (k, wt m (valF bs) k)).map termD) (by rw [List.map_map]; exact Reps.same S _ _ r')) reps_nil)))) (by rw [List.length_map]; omega) (fun x hx => ?_)
    · exact Same.upd hk2 _ _ upd_same
    · obtain ⟨k, hk, rfl⟩ := List.mem_map.mp hx
      have := hk0 k hk
      exact ⟨by show k < 64; omega, hL k⟩
def cutH (t l : Addr) (H : Hp) : Hp := fun b => if b = t ∨ b = l then none else H b
theorem cutH_le {t l : Addr} {H : Hp} : Same (cutH t l H) H := fun b o h => by
  unfold cutH at h
  by_cases e : b = t ∨ b = l
  · rw [if_pos e] at h; cases h
  · rw [if_neg e] at h; exact h
theorem cutH_at {t l p : Addr} {H : Hp} {o : HO} (h : H p = some o) (n : p ≠ t ∧ p ≠ l) : cutH t l H p = some o := by
  unfold cutH
  rw [if_neg (fun e => e.elim n.1 n.2)]; exact h
theorem cutH_ne {t l p : Addr} {H : Hp} {o : HO} (h : cutH t l H p = some o) : p ≠ t ∧ p ≠ l := by
  unfold cutH at h
  by_cases e : p = t ∨ p = l
  · rw [if_pos e] at h; cases h
  · exact ⟨fun q => e (.inl q), fun q => e (.inr q)⟩
theorem cutH_frm {t l : Addr} {H H' : Hp} (f : Frm t H H') : Same (cutH t l H) (cutH t l H') := fun b o h => by
  have n := cutH_ne h
  exact cutH_at (f b o n.1 (cutH_le b o h)) n
theorem cutH_new {t l : Addr} {H H' : Hp} (f : Same H H') (hl : H l = none) : Same (cutH t t H) (cutH t l H') := fun b o h => by
  have n := cutH_ne h
  have e := cutH_le b o h
  exact cutH_at (f b o e) ⟨n.1, fun q => by rw [q, hl] at e; cases e⟩
theorem cutH_put {t l : Addr} {H : Hp} {o : HO} : Same (cutH t l H) (cutH t l (upd H l o)) := fun b o' h => by
  have n := cutH_ne h
  exact cutH_at (by rw [upd_ne n.2]; exact cutH_le b o' h) n
theorem cutH_tup {t : Addr} {H : Hp} {d : Dv} {v : V} (ht : ∃ zs, H t = some (.lst zs)) (hd : tupOnly d = true) (r : Rep K H d v) : Rep K (cutH t t H) d v :=
  Rep.frm (t := t) (fun b o n h => cutH_at h ⟨n, n⟩) ht d v hd r
def Odd (K : PySem.W.Frag) (H : Hp) (v : V) : Prop := (∃ d, Rep K H d v ∧ lowG d) ∨ (∃ a, v = .ref a ∧ H a = some (.dK []))
theorem Odd.same {H H' : Hp} {v : V} (h : Odd K H v) (s : Same H H') : Odd K H' v := by
  rcases h with ⟨d, r, l⟩ | ⟨a, e, h⟩
  · exact .inl ⟨d, Rep.same s _ _ r, l⟩
  · exact .inr ⟨a, e, s _ _ h⟩
structure Bt (K : PySem.W.Frag) (t l : Addr) (H0 : Hp) (b : Addr) (ts : List Dv) (z : V) (dz : Dv) (ys : List V) (H : Hp) : Prop where
  fd : Feed H t
  fl : ∃ zs, H l = some (.lst zs)
  fr : Frm t H0 H
  rt : Rep K (cutH t l H) (.tup ts) (.ref b)
  rz : Rep K (cutH t l H) dz z
  ok : ∀ y ∈ ys, Odd K (cutH t l H) y
section
variable {t l b : Addr} {H0 H H' : Hp} {ts : List Dv} {z : V} {dz : Dv} {ys : List V}
theorem Bt.ne {p : Addr} (B : Bt K t l H0 b ts z dz ys H) (n : H p = none) : p ≠ t ∧ p ≠ l := ⟨B.fd.neT n, fun e => by obtain ⟨zs, h⟩ := B.fl; rw [e, h] at n; cases n⟩
theorem Bt.same (B : Bt K t l H0 b ts z dz ys H) (s : Same H H') : Bt K t l H0 b ts z dz ys H' :=
  ⟨B.fd.same s, let ⟨zs, h⟩ := B.fl; ⟨zs, s _ _ h⟩, B.fr.trans s.frm, Rep.same (cutH_frm s.frm) _ _ B.rt, Rep.same (cutH_frm s.frm) _ _ B.rz, fun y hy => (B.ok y hy).same (cutH_frm s.frm)⟩
theorem Bt.draw (B : Bt K t l H0 b ts z dz ys H) (F : Feed H' t) (f : ∀ b, b ≠ t → H' b = H b) : Bt K t l H0 b ts z dz ys H' :=
  ⟨F, (by
    by_cases e : l = t
    · rw [e]; exact F.lst
    · rw [f l e]; exact B.fl), B.fr.trans (frm_all f), Rep.same (cutH_frm (frm_all f)) _ _ B.rt, Rep.same (cutH_frm (frm_all f)) _ _ B.rz, fun y hy => (B.ok y hy).same (cutH_frm (frm_all f))⟩
theorem Bt.add {y : V} (B : Bt K t l H0 b ts z dz ys H) (h : Odd K (cutH t l H) y) : Bt K t l H0 b ts z dz (ys ++ [y]) H :=
  ⟨B.fd, B.fl, B.fr, B.rt, B.rz, fun x hx => by
    rcases List.mem_append.mp hx with h' | h'
    · exact B.ok x h'
    · rw [List.mem_singleton] at h'; subst h'; exact h⟩
theorem Bt.re {zs : List V} (B : Bt K t l H0 b ts z dz ys H) (h : ∀ x ∈ zs, x ∈ ys) : Bt K t l H0 b ts z dz zs H :=
  ⟨B.fd, B.fl, B.fr, B.rt, B.rz, fun x hx => B.ok x (h x hx)⟩
theorem Bt.new {xs : List V} (B : Bt K t t H0 b ts z dz ys H) (s : Same H H') (hl : H l = none) (hx : H' l = some (.lst xs)) : Bt K t l H0 b ts z dz ys H' :=
  ⟨B.fd.same s, ⟨xs, hx⟩, B.fr.trans s.frm, Rep.same (cutH_new s hl) _ _ B.rt, Rep.same (cutH_new s hl) _ _ B.rz, fun y hy => (B.ok y hy).same (cutH_new s hl)⟩
theorem Bt.put {xs : List V} (B : Bt K t l H0 b ts z dz ys H) (n : l ≠ t) (n0 : H0 l = none) : Bt K t l H0 b ts z dz ys (upd H l (.lst xs)) :=
  ⟨(by obtain ⟨a, b, k, c, h1, h3⟩ := B.fd.at_; exact ⟨a, b, k, c, h1, by rw [upd_ne (Ne.symm n)]; exact h3⟩), ⟨xs, upd_same⟩, frm_new B.fr n0, Rep.same cutH_put _ _ B.rt, Rep.same cutH_put _ _ B.rz, fun y hy => (B.ok y hy).same cutH_put⟩
end
theorem rep_lst1 {H : Hp} {p : Addr} {xs : List V} {ds : List Dv} (h : H p = some (.lst xs)) (r : Reps K H ds xs) : Rep K H (.lst ds) (.ref p) := by unfold Rep; exact ⟨p, xs, rfl, .of h, r⟩
theorem rep_non {H : Hp} : Rep K H .non .non := by unfold Rep; rfl
theorem reps_drop {H : Hp} : ∀ (n : Nat) {ds : List Dv} {us : List V}, Reps K H ds us → Reps K H (ds.drop n) (us.drop n)
  | 0, _, _, h => h
  | n + 1, [], us, h => by unfold Reps at h; subst h; exact reps_nil
  | n + 1, d :: ds, us, h => by
    obtain ⟨x, l, rfl, _, h⟩ := reps_cons_inv h
    exact reps_drop n h
theorem reps_take {H : Hp} : ∀ (n : Nat) {ds : List Dv} {us : List V}, Reps K H ds us → Reps K H (ds.take n) (us.take n)
  | 0, _, _, _ => by rw [List.take_zero, List.take_zero]; exact reps_nil
  | n + 1, [], us, h => by unfold Reps at h; subst h; exact reps_nil
  | n + 1, d :: ds, us, h => by
    obtain ⟨x, l, rfl, r, h⟩ := reps_cons_inv h
    exact reps_cons r (reps_take n h)
theorem reps_rev {H : Hp} : ∀ {ds : List Dv} {us : List V}, Reps K H ds us → Reps K H ds.reverse us.reverse
  | [], us, h => by unfold Reps at h; subst h; exact reps_nil
  | d :: ds, us, h => by
    obtain ⟨x, l, rfl, r, h⟩ := reps_cons_inv h
    rw [List.reverse_cons, List.reverse_cons]
    exact (reps_rev h).append (reps_cons r reps_nil)
def cutD (ds : List Dv) (lo hi : Option Int) : List Dv := (ds.drop (HT.sIx ds.length 0 lo)).take (HT.sIx ds.length ds.length hi - HT.sIx ds.length 0 lo)
theorem reps_cut {H : Hp} {ds : List Dv} {us : List V} (lo hi : Option Int) (h : Reps K H ds us) : Reps K H (cutD ds lo hi) (cutV us lo hi) := by
  unfold cutD cutV
  rw [h.length]
  exact reps_take _ (reps_drop _ h)
theorem cutD_sub {ds : List Dv} {lo hi : Option Int} {P : Dv → Prop} (h : ∀ d ∈ ds, P d) : ∀ d ∈ cutD ds lo hi, P d := fun d hd => h d (List.mem_of_mem_drop (List.mem_of_mem_take hd))
theorem rev_sub {ds : List Dv} {P : Dv → Prop} (h : ∀ d ∈ ds, P d) : ∀ d ∈ ds.reverse, P d := fun d hd => h d (List.mem_reverse.mp hd)
theorem cutD_len (ds : List Dv) (lo hi : Option Int) : (cutD ds lo hi).length ≤ ds.length := by
  unfold cutD
  rw [List.length_take, List.length_drop]
  omega
theorem sqT_cut {t l : Addr} {H : Hp} {p : Addr} {xs : List V} (ht : ∃ zs, H t = some (.lst zs)) (hl : ∃ zs, H l = some (.lst zs)) (h1 : SqT K H p xs) : SqT K (cutH t l H) p xs := by
  obtain ⟨zs, hz⟩ := ht
  obtain ⟨ws, hw⟩ := hl
  rcases h1 with (h1 | ⟨o, h1⟩) | h1
  · exact .inl (.inl (cutH_at h1 ⟨(fun q => by rw [q, hz] at h1; cases h1), (fun q => by rw [q, hw] at h1; cases h1)⟩))
  · exact .inl (.inr ⟨o, cutH_at h1 ⟨(fun q => by rw [q, hz] at h1; cases h1), (fun q => by rw [q, hw] at h1; cases h1)⟩⟩)
  · exact .inr h1
theorem up {t l : Addr} {H H' : Hp} {d : Dv} {v : V} (r : Rep K (cutH t l H) d v) (s : Same H H') : Rep K (cutH t l H') d v := Rep.same (cutH_frm s.frm) _ _ r
theorem up_draw {t l : Addr} {H H' : Hp} {d : Dv} {v : V} (r : Rep K (cutH t l H) d v) (f : ∀ b, b ≠ t → H' b = H b) : Rep K (cutH t l H') d v := Rep.same (cutH_frm (frm_all f)) _ _ r
theorem sqs_of {t l p : Addr} {H : Hp} {ds : List Dv} (r : Rep K (cutH t l H) (.tup ds) (.ref p)) : ∃ xs, SqT K H p xs ∧ Reps K (cutH t l H) ds xs := by
  obtain ⟨a, xs, e, h, r⟩ := rep_tup_inv r
  cases e
  exact ⟨xs, cutH_le.sqT h, r⟩
theorem pair_of {t l p : Addr} {H : Hp} {i j : Int} (r : Rep K (cutH t l H) (.tup [.int i, .int j]) (.ref p)) : SqT K H p [.int i, .int j] := by
  obtain ⟨a, e, h⟩ := rep_pair_inv r
  cases e
  exact cutH_le.sqT h
def lowI : Dv → Prop
  | .int w => -1000 ≤ w ∧ w ≤ 1000
  | _ => True
theorem low_pair {a b : Dv} (h : lowI b) : lowD (.tup [a, b]) := by cases b <;> first | exact h | exact trivial
theorem low_nil : ∀ d ∈ ([] : List Dv), lowD d := fun d h => by cases h
theorem low_cons {d : Dv} {ds : List Dv} (h : lowD d) (r : ∀ d ∈ ds, lowD d) : ∀ x ∈ d :: ds, lowD x := fun x hx => by
  rcases List.mem_cons.mp hx with rfl | h'
  · exact h
  · exact r x h'
theorem low_app {ds es : List Dv} (h : ∀ d ∈ ds, lowD d) (r : ∀ d ∈ es, lowD d) : ∀ x ∈ ds ++ es, lowD x := fun x hx => by
  rcases List.mem_append.mp hx with h' | h'
  · exact h x h'
  · exact r x h'
def sp_bent (K : PySem.W.Frag) : Sp := fun vs H Q _ => match vs with
  | [.ref t, v] => ∃ (m : Nat) (ts : List (Nat × Int)), Feed H t ∧ 1 ≤ m ∧ m ≤ 6 ∧ SumAt K H v m ts ∧ ts.length ≤ 64 ∧ (∀ q ∈ ts, q.1 < 64 ∧ -64 ≤ q.2 ∧ q.2 ≤ 64) ∧
      ∀ l ys H', Feed H' t → Frm t H H' → l ≠ t → H' l = some (.lst ys) → ys.length ≤ 100 → (∀ y ∈ ys, Odd K H' y) → Q (.ref l) H'
  | _ => False
theorem sp_bent_mono : SpMono (sp_bent K) := fun vs H Q Q' E h q => by
  unfold sp_bent at *
  split at q
  · obtain ⟨m, ts, h1, h2, h3, h4, h5, h6, q⟩ := q; exact ⟨m, ts, h1, h2, h3, h4, h5, h6, fun l ys H' x1 x2 x3 x4 x5 x6 => h _ _ (q l ys H' x1 x2 x3 x4 x5 x6)⟩
  · exact q.elim
theorem mem_term {ts : List (Nat × Int)} (h : ∀ q ∈ ts, q.1 < 64 ∧ -64 ≤ q.2 ∧ q.2 ≤ 64) : ∀ d ∈ ts.map termD, lowD d := fun d hd => by
  obtain ⟨q, hq, rfl⟩ := List.mem_map.mp hd
  have := h q hq
  exact low_pair (show -1000 ≤ q.2 ∧ q.2 ≤ 1000 by omega)
theorem tups_term : ∀ ts : List (Nat × Int), tupsOnly (ts.map termD) = true
  | [] => rfl
  | t :: ts => by rw [List.map_cons]; unfold tupsOnly; rw [tups_term ts]; rfl
theorem odd_ones {H : Hp} {p1 p2 : Addr} (x : Str) {S : Int} (h1 : 1 ≤ S) (h2 : S ≤ 64) (g1 : H p1 = some (.tup [.int 1])) (g2 : H p2 = some (.lst [.int 1])) :
    ∀ v ∈ [V.bl true, .bl false, .non, .str x, .int S, .int (0 - S), .int (S + 1), .int (-1), .int 0, .ref p1, .ref p2], ∃ d, Rep K H d v ∧ lowI d := by
  intro v hv
  simp only [List.mem_cons, List.not_mem_nil, or_false] at hv
  rcases hv with rfl | rfl | rfl | rfl | rfl | rfl | rfl | rfl | rfl | rfl | rfl
  · exact ⟨_, rep_bl, trivial⟩
  · exact ⟨_, rep_bl, trivial⟩
  · exact ⟨_, rep_non, trivial⟩
  · exact ⟨_, rep_str, trivial⟩
  · exact ⟨_, rep_int, by show -1000 ≤ S ∧ S ≤ 1000; omega⟩
  · exact ⟨_, rep_int, by show -1000 ≤ 0 - S ∧ 0 - S ≤ 1000; omega⟩
  · exact ⟨_, rep_int, by show -1000 ≤ S + 1 ∧ S + 1 ≤ 1000; omega⟩
  · exact ⟨_, rep_int, by show (-1000 : Int) ≤ -1 ∧ (-1 : Int) ≤ 1000; omega⟩
  · exact ⟨_, rep_int, by show (-1000 : Int) ≤ 0 ∧ (0 : Int) ≤ 1000; omega⟩
  · exact ⟨_, rep_tup1 g1 (reps_cons rep_int reps_nil), trivial⟩
  · exact ⟨_, rep_lst1 g2 (reps_cons rep_int reps_nil), trivial⟩
theorem atI_mem {xs : List V} {i : Int} (h0 : 0 ≤ i) (h1 : i < xs.length) : ∃ z, atI xs i = some z ∧ z ∈ xs := by
  obtain ⟨n, rfl⟩ := Int.eq_ofNat_of_zero_le h0
  have hn : n < xs.length := by omega
  exact ⟨xs[n], atI_of rfl (List.getElem?_eq_getElem hn), List.getElem_mem hn⟩
theorem ok__law_bent : FnOk P w K mg base CX0 2 T.f__law_bent T.d__law_bent ["_law_feed_here", "_law_glance_here"] (sp_bent K) := by
  have G__law_draw := ok__law_draw (P := P) (w := w) (base := base) T
  refine T.F__law_bent.ok sc__law_bent (fun vs H Q E h => by unfold sp_bent at h; split at h <;> first | rfl | exact h.elim) (fun cdv A outer s H vs Q E hr h => ?_)
  have hu := hu60 hr
  have hr__law_draw := hr.mono (show 1 ≤ _ by decide)
  match vs, h with
  | [.ref t, v], ⟨m, ts, F, m1, m6, SA, htl, hts, q⟩ =>
  refine ⟨_, (@pss_cons _ _ _ _ _ (@ps_asg _ _ _ _ _ _ (@vv _ 1 _ _ (by rfl) (by first | exact Or.inl rfl | exact Or.inr (Or.inl rfl) | exact Or.inr (Or.inr rfl)) (by decide) (by decide)) (@kTupA _ K _ _ _ _ 2 rfl (@pgs_cons _ _ _ _ _ (@pg_name _ _ 2 _ sc__law_bent.nd rfl (by first | exact Or.inl rfl | exact Or.inr rfl) (by first | exact .inl rfl | exact .inr rfl | assumption)) (@pgs_cons _ _ _ _ _ (@pg_name _ _ 3 _ sc__law_bent.nd rfl (by first | exact Or.inl rfl | exact Or.inr rfl) (by first | exact .inl rfl | exact .inr rfl | assumption)) (@pgs_nil _) (by rfl)) (by rfl)) (by rfl) (by rfl) (by rfl)) (by rfl) (by rfl) (by rfl)) (@pss_cons _ _ _ _ _ (@ps_set _ _ 4 _ _ _ _ sc__law_bent.nd rfl (by first | exact Or.inl rfl | exact Or.inr rfl) (@pe_op _ _ _ _ _ _ _ _ om_shl (@pe_int _ _ _ _) (@vv _ 2 _ _ (by rfl) (by first | exact Or.inl rfl | exact Or.inr (Or.inl rfl) | exact Or.inr (Or.inr rfl)) (by decide) (by decide))) (by rfl) (by first | exact .inl rfl | exact .inr rfl | assumption)) (@pss_cons _ _ _ _ _ (@ps_setN _ _ 5 _ _ _ _ sc__law_bent.nd rfl (by first | exact Or.inl rfl | exact Or.inr rfl) (@kIx _ K _ _ _ _ _ (@pe_lst _ _ _ _ (@pa_cons _ _ _ _ _ (@pe_bl _ _ _ _) (@pa_cons _ _ _ _ _ (@pe_bl _ _ _ _) (@pa_cons _ _ _ _ _ (@pe_non _ _ _) (@pa_cons _ _ _ _ _ (@pe_str _ _ _ _) (@pa_cons _ _ _ _ _ (@vv _ 4 _ _ (by rfl) (by first | exact Or.inl rfl | exact Or.inr (Or.inl rfl) | exact Or.inr (Or.inr rfl)) (by decide) (by decide)) (@pa_cons _ _ _ _ _ (@pe_op _ _ _ _ _ _ _ _ om_sub (@pe_int _ _ _ _) (@vv _ 4 _ _ (by rfl) (by first | exact Or.inl rfl | exact Or.inr (Or.inl rfl) | exact Or.inr (Or.inr rfl)) (by decide) (by decide))) (@pa_cons _ _ _ _ _ (@pe_op _ _ _ _ _ _ _ _ (kAddA (K := K)) (@vv _ 4 _ _ (by rfl) (by first | exact Or.inl rfl | exact Or.inr (Or.inl rfl) | exact Or.inr (Or.inr rfl)) (by decide) (by decide)) (@pe_int _ _ _ _)) (@pa_cons _ _ _ _ _ (@pe_un _ _ _ _ _ _ um_neg (@pe_int _ _ _ _)) (@pa_cons _ _ _ _ _ (@pe_int _ _ _ _) (@pa_cons _ _ _ _ _ (@pe_tup _ _ _ _ _ (@pa_cons _ _ _ _ _ (@pe_int _ _ _ _) (@pa_nil _) (by rfl))) (@pa_cons _ _ _ _ _ (@pe_lst _ _ _ _ (@pa_cons _ _ _ _ _ (@pe_int _ _ _ _) (@pa_nil _) (by rfl))) (@pa_nil _) (by rfl)) (by rfl)) (by rfl)) (by rfl)) (by rfl)) (by rfl)) (by rfl)) (by rfl)) (by rfl)) (by rfl)) (by rfl))) (@pe_call _ _ _ _ _ _ _ _ _ _ _ _ _ _ _ _ G__law_draw hr__law_draw rfl T.m__law_draw T.F__law_draw.kp T.b__law_draw .nil pass0 (@pa_cons _ _ _ _ _ (@vv _ 0 _ _ (by rfl) (by first | exact Or.inl rfl | exact Or.inr (Or.inl rfl) | exact Or.inr (Or.inr rfl)) (by decide) (by decide)) (@pa_cons _ _ _ _ _ (@pe_int _ _ _ _) (@pa_nil _) (by rfl)) (by rfl)) (by decide) (by rfl) (by rfl)) (by intro _ _; rfl) (by rfl)) rfl (by first | exact .inl rfl | exact .inr rfl)) (@pss_cons _ _ _ _ _ (@ps_setN _ _ 6 _ _ _ _ sc__law_bent.nd rfl (by first | exact Or.inl rfl | exact Or.inr rfl) (@pe_lst _ _ _ _ (@pa_cons _ _ _ _ _ (@pe_lst _ _ _ _ (@pa_cons _ _ _ _ _ (@vv _ 2 _ _ (by rfl) (by first | exact Or.inl rfl | exact Or.inr (Or.inl rfl) | exact Or.inr (Or.inr rfl)) (by decide) (by decide)) (@pa_cons _ _ _ _ _ (@vv _ 3 _ _ (by rfl) (by first | exact Or.inl rfl | exact Or.inr (Or.inl rfl) | exact Or.inr (Or.inr rfl)) (by decide) (by decide)) (@pa_nil _) (by rfl)) (by rfl))) (@pa_cons _ _ _ _ _ (@pe_tup _ _ _ _ _ (@pa_cons _ _ _ _ _ (@vv _ 2 _ _ (by rfl) (by first | exact Or.inl rfl | exact Or.inr (Or.inl rfl) | exact Or.inr (Or.inr rfl)) (by decide) (by decide)) (@pa_cons _ _ _ _ _ (@pe_callTy _ _ _ _ _ _ _ _ _ (kList (K := K)) rfl T.z_list (by rfl) (@pa_cons _ _ _ _ _ (@vv _ 3 _ _ (by rfl) (by first | exact Or.inl rfl | exact Or.inr (Or.inl rfl) | exact Or.inr (Or.inr rfl)) (by decide) (by decide)) (@pa_nil _) (by rfl)) (by decide) (by decide) (by rfl) (by rfl)) (@pa_nil _) (by rfl)) (by rfl))) (@pa_cons _ _ _ _ _ (@pe_tup _ _ _ _ _ (@pa_cons _ _ _ _ _ (@vv _ 2 _ _ (by rfl) (by first | exact Or.inl rfl | exact Or.inr (Or.inl rfl) | exact Or.inr (Or.inr rfl)) (by decide) (by decide)) (@pa_cons _ _ _ _ _ (@vv _ 3 _ _ (by rfl) (by first | exact Or.inl rfl | exact Or.inr (Or.inl rfl) | exact Or.inr (Or.inr rfl)) (by decide) (by decide)) (@pa_cons _ _ _ _ _ (@pe_tup _ _ _ _ _ (@pa_nil _)) (@pa_nil _) (by rfl)) (by rfl)) (by rfl))) (@pa_cons _ _ _ _ _ (@pe_tup _ _ _ _ _ (@pa_cons _ _ _ _ _ (@vv _ 2 _ _ (by rfl) (by first | exact Or.inl rfl | exact Or.inr (Or.inl rfl) | exact Or.inr (Or.inr rfl)) (by decide) (by decide)) (@pa_nil _) (by rfl))) (@pa_cons _ _ _ _ _ (@pe_tup _ _ _ _ _ (@pa_cons _ _ _ _ _ (@vv _ 5 _ _ (by rfl) (by first | exact Or.inl rfl | exact Or.inr (Or.inl rfl) | exact Or.inr (Or.inr rfl)) (by decide) (by decide)) (@pa_cons _ _ _ _ _ (@vv _ 3 _ _ (by rfl) (by first | exact Or.inl rfl | exact Or.inr (Or.inl rfl) | exact Or.inr (Or.inr rfl)) (by decide) (by decide)) (@pa_nil _) (by rfl)) (by rfl))) (@pa_cons _ _ _ _ _ (@pe_tup _ _ _ _ _ (@pa_cons _ _ _ _ _ (@pe_op _ _ _ _ _ _ _ _ (kAddA (K := K)) (@vv _ 2 _ _ (by rfl) (by first | exact Or.inl rfl | exact Or.inr (Or.inl rfl) | exact Or.inr (Or.inr rfl)) (by decide) (by decide)) (@pe_int _ _ _ _)) (@pa_cons _ _ _ _ _ (@vv _ 3 _ _ (by rfl) (by first | exact Or.inl rfl | exact Or.inr (Or.inl rfl) | exact Or.inr (Or.inr rfl)) (by decide) (by decide)) (@pa_nil _) (by rfl)) (by rfl))) (@pa_cons _ _ _ _ _ (@pe_tup _ _ _ _ _ (@pa_cons _ _ _ _ _ (@pe_int _ _ _ _) (@pa_cons _ _ _ _ _ (@vv _ 3 _ _ (by rfl) (by first | exact Or.inl rfl | exact Or.inr (Or.inl rfl) | exact Or.inr (Or.inr rfl)) (by decide) (by decide)) (@pa_nil _) (by rfl)) (by rfl))) (@pa_nil _) (by rfl)) (by rfl)) (by rfl)) (by rfl)) (by rfl)) (by rfl)) (by rfl))) rfl (by first | exact .inl rfl | exact .inr rfl)) (@pss_cons _ _ _ _ _ (@ps_set _ _ 6 _ _ _ _ sc__law_bent.nd rfl (by first | exact Or.inl rfl | exact Or.inr rfl) (@pe_op _ _ _ _ _ _ _ _ (kAddA (K := K)) (@vv _ 6 _ _ (by rfl) (by first | exact Or.inl rfl | exact Or.inr (Or.inl rfl) | exact Or.inr (Or.inr rfl)) (by decide) (by decide)) (@pe_lst _ _ _ _ (@pa_cons _ _ _ _ _ (@pe_tup _ _ _ _ _ (@pa_cons _ _ _ _ _ (@pe_int _ _ _ _) (@pa_cons _ _ _ _ _ (@pe_tup _ _ _ _ _ (@pa_nil _)) (@pa_nil _) (by rfl)) (by rfl))) (@pa_cons _ _ _ _ _ (@pe_tup _ _ _ _ _ (@pa_cons _ _ _ _ _ (@vv _ 2 _ _ (by rfl) (by first | exact Or.inl rfl | exact Or.inr (Or.inl rfl) | exact Or.inr (Or.inr rfl)) (by decide) (by decide)) (@pa_cons _ _ _ _ _ (@pe_op _ _ _ _ _ _ _ _ (kAddA (K := K)) (@vv _ 3 _ _ (by rfl) (by first | exact Or.inl rfl | exact Or.inr (Or.inl rfl) | exact Or.inr (Or.inr rfl)) (by decide) (by decide)) (@pe_tup _ _ _ _ _ (@pa_cons _ _ _ _ _ (@pe_tup _ _ _ _ _ (@pa_cons _ _ _ _ _ (@vv _ 4 _ _ (by rfl) (by first | exact Or.inl rfl | exact Or.inr (Or.inl rfl) | exact Or.inr (Or.inr rfl)) (by decide) (by decide)) (@pa_cons _ _ _ _ _ (@pe_int _ _ _ _) (@pa_nil _) (by rfl)) (by rfl))) (@pa_nil _) (by rfl)))) (@pa_nil _) (by rfl)) (by rfl))) (@pa_cons _ _ _ _ _ (@pe_tup _ _ _ _ _ (@pa_cons _ _ _ _ _ (@vv _ 2 _ _ (by rfl) (by first | exact Or.inl rfl | exact Or.inr (Or.inl rfl) | exact Or.inr (Or.inr rfl)) (by decide) (by decide)) (@pa_cons _ _ _ _ _ (@pe_op _ _ _ _ _ _ _ _ (kAddA (K := K)) (@pe_tup _ _ _ _ _ (@pa_cons _ _ _ _ _ (@pe_tup _ _ _ _ _ (@pa_cons _ _ _ _ _ (@pe_un _ _ _ _ _ _ um_neg (@pe_int _ _ _ _)) (@pa_cons _ _ _ _ _ (@pe_int _ _ _ _) (@pa_nil _) (by rfl)) (by rfl))) (@pa_nil _) (by rfl))) (@vv _ 3 _ _ (by rfl) (by first | exact Or.inl rfl | exact Or.inr (Or.inl rfl) | exact Or.inr (Or.inr rfl)) (by decide) (by decide))) (@pa_nil _) (by rfl)) (by rfl))) (@pa_nil _) (by rfl)) (by rfl)) (by rfl)))) (by rfl) (by first | exact .inl rfl | exact .inr rfl | assumption)) (@pss_cons _ _ _ _ _ (@ps_set _ _ 6 _ _ _ _ sc__law_bent.nd rfl (by first | exact Or.inl rfl | exact Or.inr rfl) (@pe_op _ _ _ _ _ _ _ _ (kAddA (K := K)) (@vv _ 6 _ _ (by rfl) (by first | exact Or.inl rfl | exact Or.inr (Or.inl rfl) | exact Or.inr (Or.inr rfl)) (by decide) (by decide)) (@pe_lst _ _ _ _ (@pa_cons _ _ _ _ _ (@pe_tup _ _ _ _ _ (@pa_cons _ _ _ _ _ (@vv _ 2 _ _ (by rfl) (by first | exact Or.inl rfl | exact Or.inr (Or.inl rfl) | exact Or.inr (Or.inr rfl)) (by decide) (by decide)) (@pa_cons _ _ _ _ _ (@pe_op _ _ _ _ _ _ _ _ (kAddA (K := K)) (@vv _ 3 _ _ (by rfl) (by first | exact Or.inl rfl | exact Or.inr (Or.inl rfl) | exact Or.inr (Or.inr rfl)) (by decide) (by decide)) (@kCutA _ K _ _ _ _ _ _ _ _ (@vv _ 3 _ _ (by rfl) (by first | exact Or.inl rfl | exact Or.inr (Or.inl rfl) | exact Or.inr (Or.inr rfl)) (by decide) (by decide)) (@po_some _ _ _ (@pe_un _ _ _ _ _ _ um_neg (@pe_int _ _ _ _))) (@po_none _) (by rfl))) (@pa_nil _) (by rfl)) (by rfl))) (@pa_cons _ _ _ _ _ (@pe_tup _ _ _ _ _ (@pa_cons _ _ _ _ _ (@vv _ 2 _ _ (by rfl) (by first | exact Or.inl rfl | exact Or.inr (Or.inl rfl) | exact Or.inr (Or.inr rfl)) (by decide) (by decide)) (@pa_cons _ _ _ _ _ (@kBack _ K _ _ _ _ _ _ (@vv _ 3 _ _ (by rfl) (by first | exact Or.inl rfl | exact Or.inr (Or.inl rfl) | exact Or.inr (Or.inr rfl)) (by decide) (by decide)) (@pe_un _ _ _ _ _ _ um_neg (@pe_int _ _ _ _)) (by rfl)) (@pa_nil _) (by rfl)) (by rfl))) (@pa_nil _) (by rfl)) (by rfl)))) (by rfl) (by first | exact .inl rfl | exact .inr rfl | assumption)) (@pss_cons _ _ _ _ _ (@ps_set _ _ 6 _ _ _ _ sc__law_bent.nd rfl (by first | exact Or.inl rfl | exact Or.inr rfl) (@pe_op _ _ _ _ _ _ _ _ (kAddA (K := K)) (@vv _ 6 _ _ (by rfl) (by first | exact Or.inl rfl | exact Or.inr (Or.inl rfl) | exact Or.inr (Or.inr rfl)) (by decide) (by decide)) (@pe_lst _ _ _ _ (@pa_cons _ _ _ _ _ (@pe_tup _ _ _ _ _ (@pa_cons _ _ _ _ _ (@vv _ 2 _ _ (by rfl) (by first | exact Or.inl rfl | exact Or.inr (Or.inl rfl) | exact Or.inr (Or.inr rfl)) (by decide) (by decide)) (@pa_cons _ _ _ _ _ (@pe_tup _ _ _ _ _ (@pa_cons _ _ _ _ _ (@pe_tup _ _ _ _ _ (@pa_cons _ _ _ _ _ (@pe_int _ _ _ _) (@pa_cons _ _ _ _ _ (@vv _ 4 _ _ (by rfl) (by first | exact Or.inl rfl | exact Or.inr (Or.inl rfl) | exact Or.inr (Or.inr rfl)) (by decide) (by decide)) (@pa_nil _) (by rfl)) (by rfl))) (@pa_nil _) (by rfl))) (@pa_nil _) (by rfl)) (by rfl))) (@pa_cons _ _ _ _ _ (@pe_tup _ _ _ _ _ (@pa_cons _ _ _ _ _ (@vv _ 2 _ _ (by rfl) (by first | exact Or.inl rfl | exact Or.inr (Or.inl rfl) | exact Or.inr (Or.inr rfl)) (by decide) (by decide)) (@pa_cons _ _ _ _ _ (@pe_tup _ _ _ _ _ (@pa_cons _ _ _ _ _ (@pe_tup _ _ _ _ _ (@pa_cons _ _ _ _ _ (@pe_int _ _ _ _) (@pa_cons _ _ _ _ _ (@vv _ 4 _ _ (by rfl) (by first | exact Or.inl rfl | exact Or.inr (Or.inl rfl) | exact Or.inr (Or.inr rfl)) (by decide) (by decide)) (@pa_nil _) (by rfl)) (by rfl))) (@pa_cons _ _ _ _ _ (@pe_tup _ _ _ _ _ (@pa_cons _ _ _ _ _ (@pe_int _ _ _ _) (@pa_cons _ _ _ _ _ (@pe_int _ _ _ _) (@pa_nil _) (by rfl)) (by rfl))) (@pa_nil _) (by rfl)) (by rfl))) (@pa_nil _) (by rfl)) (by rfl))) (@pa_cons _ _ _ _ _ (@pe_tup _ _ _ _ _ (@pa_cons _ _ _ _ _ (@vv _ 2 _ _ (by rfl) (by first | exact Or.inl rfl | exact Or.inr (Or.inl rfl) | exact Or.inr (Or.inr rfl)) (by decide) (by decide)) (@pa_cons _ _ _ _ _ (@pe_tup _ _ _ _ _ (@pa_cons _ _ _ _ _ (@pe_tup _ _ _ _ _ (@pa_cons _ _ _ _ _ (@pe_int _ _ _ _) (@pa_cons _ _ _ _ _ (@pe_op _ _ _ _ _ _ _ _ om_sub (@pe_int _ _ _ _) (@vv _ 4 _ _ (by rfl) (by first | exact Or.inl rfl | exact Or.inr (Or.inl rfl) | exact Or.inr (Or.inr rfl)) (by decide) (by decide))) (@pa_nil _) (by rfl)) (by rfl))) (@pa_nil _) (by rfl))) (@pa_nil _) (by rfl)) (by rfl))) (@pa_cons _ _ _ _ _ (@pe_tup _ _ _ _ _ (@pa_cons _ _ _ _ _ (@vv _ 2 _ _ (by rfl) (by first | exact Or.inl rfl | exact Or.inr (Or.inl rfl) | exact Or.inr (Or.inr rfl)) (by decide) (by decide)) (@pa_cons _ _ _ _ _ (@pe_tup _ _ _ _ _ (@pa_cons _ _ _ _ _ (@pe_tup _ _ _ _ _ (@pa_cons _ _ _ _ _ (@pe_int _ _ _ _) (@pa_cons _ _ _ _ _ (@pe_op _ _ _ _ _ _ _ _ (kAddA (K := K)) (@vv _ 4 _ _ (by rfl) (by first | exact Or.inl rfl | exact Or.inr (Or.inl rfl) | exact Or.inr (Or.inr rfl)) (by decide) (by decide)) (@pe_int _ _ _ _)) (@pa_nil _) (by rfl)) (by rfl))) (@pa_nil _) (by rfl))) (@pa_nil _) (by rfl)) (by rfl))) (@pa_cons _ _ _ _ _ (@pe_tup _ _ _ _ _ (@pa_cons _ _ _ _ _ (@vv _ 2 _ _ (by rfl) (by first | exact Or.inl rfl | exact Or.inr (Or.inl rfl) | exact Or.inr (Or.inr rfl)) (by decide) (by decide)) (@pa_cons _ _ _ _ _ (@pe_tup _ _ _ _ _ (@pa_nil _)) (@pa_nil _) (by rfl)) (by rfl))) (@pa_nil _) (by rfl)) (by rfl)) (by rfl)) (by rfl)) (by rfl)))) (by rfl) (by first | exact .inl rfl | exact .inr rfl | assumption)) (@pss_cons _ _ _ _ _ (@ps_set _ _ 6 _ _ _ _ sc__law_bent.nd rfl (by first | exact Or.inl rfl | exact Or.inr rfl) (@pe_op _ _ _ _ _ _ _ _ (kAddA (K := K)) (@vv _ 6 _ _ (by rfl) (by first | exact Or.inl rfl | exact Or.inr (Or.inl rfl) | exact Or.inr (Or.inr rfl)) (by decide) (by decide)) (@pe_lst _ _ _ _ (@pa_cons _ _ _ _ _ (@pe_tup _ _ _ _ _ (@pa_cons _ _ _ _ _ (@vv _ 2 _ _ (by rfl) (by first | exact Or.inl rfl | exact Or.inr (Or.inl rfl) | exact Or.inr (Or.inr rfl)) (by decide) (by decide)) (@pa_cons _ _ _ _ _ (@pe_tup _ _ _ _ _ (@pa_cons _ _ _ _ _ (@pe_tup _ _ _ _ _ (@pa_cons _ _ _ _ _ (@pe_int _ _ _ _) (@pa_cons _ _ _ _ _ (@pe_op _ _ _ _ _ _ _ _ om_div (@vv _ 4 _ _ (by rfl) (by first | exact Or.inl rfl | exact Or.inr (Or.inl rfl) | exact Or.inr (Or.inr rfl)) (by decide) (by decide)) (@pe_int _ _ _ _)) (@pa_nil _) (by rfl)) (by rfl))) (@pa_cons _ _ _ _ _ (@pe_tup _ _ _ _ _ (@pa_cons _ _ _ _ _ (@pe_int _ _ _ _) (@pa_cons _ _ _ _ _ (@pe_op _ _ _ _ _ _ _ _ (kAddA (K := K)) (@pe_op _ _ _ _ _ _ _ _ om_div (@vv _ 4 _ _ (by rfl) (by first | exact Or.inl rfl | exact Or.inr (Or.inl rfl) | exact Or.inr (Or.inr rfl)) (by decide) (by decide)) (@pe_int _ _ _ _)) (@pe_int _ _ _ _)) (@pa_nil _) (by rfl)) (by rfl))) (@pa_nil _) (by rfl)) (by rfl))) (@pa_nil _) (by rfl)) (by rfl))) (@pa_cons _ _ _ _ _ (@pe_tup _ _ _ _ _ (@pa_cons _ _ _ _ _ (@vv _ 2 _ _ (by rfl) (by first | exact Or.inl rfl | exact Or.inr (Or.inl rfl) | exact Or.inr (Or.inr rfl)) (by decide) (by decide)) (@pa_cons _ _ _ _ _ (@pe_tup _ _ _ _ _ (@pa_cons _ _ _ _ _ (@pe_tup _ _ _ _ _ (@pa_cons _ _ _ _ _ (@vv _ 5 _ _ (by rfl) (by first | exact Or.inl rfl | exact Or.inr (Or.inl rfl) | exact Or.inr (Or.inr rfl)) (by decide) (by decide)) (@pa_cons _ _ _ _ _ (@pe_int _ _ _ _) (@pa_nil _) (by rfl)) (by rfl))) (@pa_nil _) (by rfl))) (@pa_nil _) (by rfl)) (by rfl))) (@pa_cons _ _ _ _ _ (@pe_tup _ _ _ _ _ (@pa_cons _ _ _ _ _ (@vv _ 2 _ _ (by rfl) (by first | exact Or.inl rfl | exact Or.inr (Or.inl rfl) | exact Or.inr (Or.inr rfl)) (by decide) (by decide)) (@pa_cons _ _ _ _ _ (@pe_tup _ _ _ _ _ (@pa_cons _ _ _ _ _ (@pe_tup _ _ _ _ _ (@pa_cons _ _ _ _ _ (@pe_int _ _ _ _) (@pa_cons _ _ _ _ _ (@vv _ 5 _ _ (by rfl) (by first | exact Or.inl rfl | exact Or.inr (Or.inl rfl) | exact Or.inr (Or.inr rfl)) (by decide) (by decide)) (@pa_nil _) (by rfl)) (by rfl))) (@pa_nil _) (by rfl))) (@pa_nil _) (by rfl)) (by rfl))) (@pa_cons _ _ _ _ _ (@pe_non _ _ _) (@pa_cons _ _ _ _ _ (@pe_str _ _ _ _) (@pa_cons _ _ _ _ _ (@pe_dnewK _ _) (@pa_nil _) (by rfl)) (by rfl)) (by rfl)) (by rfl)) (by rfl)) (by rfl)))) (by rfl) (by first | exact .inl rfl | exact .inr rfl | assumption)) (@pss_cons _ _ _ _ _ (@ps_if _ _ _ _ _ _ _ _ (@tu_cmp _ _ _ _ _ _ _ _ om_gt (@pe_callB _ _ _ _ _ _ _ _ _ (kLen (K := K)) rfl T.z_len (by rfl) (@pa_cons _ _ _ _ _ (@vv _ 3 _ _ (by rfl) (by first | exact Or.inl rfl | exact Or.inr (Or.inl rfl) | exact Or.inr (Or.inr rfl)) (by decide) (by decide)) (@pa_nil _) (by rfl)) (by decide) (by decide) (by rfl) (by rfl)) (@pe_int _ _ _ _) (by first | exact nobehind _ (by decide) (by decide) | rfl)) (@pss_cons _ _ _ _ _ (@ps_set _ _ 7 _ _ _ _ sc__law_bent.nd rfl (by first | exact Or.inl rfl | exact Or.inr rfl) (@pe_call _ _ _ _ _ _ _ _ _ _ _ _ _ _ _ _ G__law_draw hr__law_draw rfl T.m__law_draw T.F__law_draw.kp T.b__law_draw .nil pass0 (@pa_cons _ _ _ _ _ (@vv _ 0 _ _ (by rfl) (by first | exact Or.inl rfl | exact Or.inr (Or.inl rfl) | exact Or.inr (Or.inr rfl)) (by decide) (by decide)) (@pa_cons _ _ _ _ _ (@pe_callB _ _ _ _ _ _ _ _ _ (kLen (K := K)) rfl T.z_len (by rfl) (@pa_cons _ _ _ _ _ (@vv _ 3 _ _ (by rfl) (by first | exact Or.inl rfl | exact Or.inr (Or.inl rfl) | exact Or.inr (Or.inr rfl)) (by decide) (by decide)) (@pa_nil _) (by rfl)) (by decide) (by decide) (by rfl) (by rfl)) (@pa_nil _) (by rfl)) (by rfl)) (by decide) (by rfl) (by rfl)) (by rfl) (by first | exact .inl rfl | exact .inr rfl | assumption)) (@pss_cons _ _ _ _ _ (@ps_set _ _ 8 _ _ _ _ sc__law_bent.nd rfl (by first | exact Or.inl rfl | exact Or.inr rfl) (@kIx _ K _ _ _ _ _ (@vv _ 3 _ _ (by rfl) (by first | exact Or.inl rfl | exact Or.inr (Or.inl rfl) | exact Or.inr (Or.inr rfl)) (by decide) (by decide)) (@vv _ 7 _ _ (by rfl) (by first | exact Or.inl rfl | exact Or.inr (Or.inl rfl) | exact Or.inr (Or.inr rfl)) (by decide) (by decide)) (by intro _ _; rfl) (by rfl)) (by rfl) (by first | exact .inl rfl | exact .inr rfl | assumption)) (@pss_cons _ _ _ _ _ (@ps_set _ _ 9 _ _ _ _ sc__law_bent.nd rfl (by first | exact Or.inl rfl | exact Or.inr rfl) (@pe_lst _ _ _ _ (@pa_cons _ _ _ _ _ (@pe_callTy _ _ _ _ _ _ _ _ _ (kList (K := K)) rfl T.z_list (by rfl) (@pa_cons _ _ _ _ _ (@vv _ 8 _ _ (by rfl) (by first | exact Or.inl rfl | exact Or.inr (Or.inl rfl) | exact Or.inr (Or.inr rfl)) (by decide) (by decide)) (@pa_nil _) (by rfl)) (by decide) (by decide) (by rfl) (by rfl)) (@pa_cons _ _ _ _ _ (@pe_op _ _ _ _ _ _ _ _ (kAddA (K := K)) (@vv _ 8 _ _ (by rfl) (by first | exact Or.inl rfl | exact Or.inr (Or.inl rfl) | exact Or.inr (Or.inr rfl)) (by decide) (by decide)) (@pe_tup _ _ _ _ _ (@pa_cons _ _ _ _ _ (@pe_int _ _ _ _) (@pa_nil _) (by rfl)))) (@pa_cons _ _ _ _ _ (@kCutA _ K _ _ _ _ _ _ _ _ (@vv _ 8 _ _ (by rfl) (by first | exact Or.inl rfl | exact Or.inr (Or.inl rfl) | exact Or.inr (Or.inr rfl)) (by decide) (by decide)) (@po_none _) (@po_some _ _ _ (@pe_int _ _ _ _)) (by rfl)) (@pa_cons _ _ _ _ _ (@pe_tup _ _ _ _ _ (@pa_cons _ _ _ _ _ (@kIx _ K _ _ _ _ _ (@vv _ 8 _ _ (by rfl) (by first | exact Or.inl rfl | exact Or.inr (Or.inl rfl) | exact Or.inr (Or.inr rfl)) (by decide) (by decide)) (@pe_int _ _ _ _) (by intro _ _; rfl) (by rfl)) (@pa_cons _ _ _ _ _ (@vv _ 5 _ _ (by rfl) (by first | exact Or.inl rfl | exact Or.inr (Or.inl rfl) | exact Or.inr (Or.inr rfl)) (by decide) (by decide)) (@pa_nil _) (by rfl)) (by rfl))) (@pa_cons _ _ _ _ _ (@pe_tup _ _ _ _ _ (@pa_cons _ _ _ _ _ (@vv _ 5 _ _ (by rfl) (by first | exact Or.inl rfl | exact Or.inr (Or.inl rfl) | exact Or.inr (Or.inr rfl)) (by decide) (by decide)) (@pa_cons _ _ _ _ _ (@kIx _ K _ _ _ _ _ (@vv _ 8 _ _ (by rfl) (by first | exact Or.inl rfl | exact Or.inr (Or.inl rfl) | exact Or.inr (Or.inr rfl)) (by decide) (by decide)) (@pe_int _ _ _ _) (by intro _ _; rfl) (by rfl)) (@pa_nil _) (by rfl)) (by rfl))) (@pa_cons _ _ _ _ _ (@pe_tup _ _ _ _ _ (@pa_cons _ _ _ _ _ (@kIx _ K _ _ _ _ _ (@vv _ 8 _ _ (by rfl) (by first | exact Or.inl rfl | exact Or.inr (Or.inl rfl) | exact Or.inr (Or.inr rfl)) (by decide) (by decide)) (@pe_int _ _ _ _) (by intro _ _; rfl) (by rfl)) (@pa_cons _ _ _ _ _ (@pe_op _ _ _ _ _ _ _ _ (kAddA (K := K)) (@kIx _ K _ _ _ _ _ (@vv _ 8 _ _ (by rfl) (by first | exact Or.inl rfl | exact Or.inr (Or.inl rfl) | exact Or.inr (Or.inr rfl)) (by decide) (by decide)) (@pe_int _ _ _ _) (by intro _ _; rfl) (by rfl)) (@pe_int _ _ _ _)) (@pa_nil _) (by rfl)) (by rfl))) (@pa_cons _ _ _ _ _ (@kBack _ K _ _ _ _ _ _ (@vv _ 8 _ _ (by rfl) (by first | exact Or.inl rfl | exact Or.inr (Or.inl rfl) | exact Or.inr (Or.inr rfl)) (by decide) (by decide)) (@pe_un _ _ _ _ _ _ um_neg (@pe_int _ _ _ _)) (by rfl)) (@pa_nil _) (by rfl)) (by rfl)) (by rfl)) (by rfl)) (by rfl)) (by rfl)) (by rfl))) (by rfl) (by first | exact .inl rfl | exact .inr rfl | assumption)) (@pss_cons _ _ _ _ _ (@ps_expr _ _ _ _ (@kAppend _ K _ _ _ _ _ _ (@vv _ 6 _ _ (by rfl) (by first | exact Or.inl rfl | exact Or.inr (Or.inl rfl) | exact Or.inr (Or.inr rfl)) (by decide) (by decide)) (@pa_cons _ _ _ _ _ (@pe_tup _ _ _ _ _ (@pa_cons _ _ _ _ _ (@vv _ 2 _ _ (by rfl) (by first | exact Or.inl rfl | exact Or.inr (Or.inl rfl) | exact Or.inr (Or.inr rfl)) (by decide) (by decide)) (@pa_cons _ _ _ _ _ (@pe_op _ _ _ _ _ _ _ _ (kAddA (K := K)) (@pe_op _ _ _ _ _ _ _ _ (kAddA (K := K)) (@kCutA _ K _ _ _ _ _ _ _ _ (@vv _ 3 _ _ (by rfl) (by first | exact Or.inl rfl | exact Or.inr (Or.inl rfl) | exact Or.inr (Or.inr rfl)) (by decide) (by decide)) (@po_none _) (@po_some _ _ _ (@vv _ 7 _ _ (by rfl) (by first | exact Or.inl rfl | exact Or.inr (Or.inl rfl) | exact Or.inr (Or.inr rfl)) (by decide) (by decide))) (by rfl)) (@pe_tup _ _ _ _ _ (@pa_cons _ _ _ _ _ (@kIx _ K _ _ _ _ _ (@vv _ 9 _ _ (by rfl) (by first | exact Or.inl rfl | exact Or.inr (Or.inl rfl) | exact Or.inr (Or.inr rfl)) (by decide) (by decide)) (@pe_call _ _ _ _ _ _ _ _ _ _ _ _ _ _ _ _ G__law_draw hr__law_draw rfl T.m__law_draw T.F__law_draw.kp T.b__law_draw .nil pass0 (@pa_cons _ _ _ _ _ (@vv _ 0 _ _ (by rfl) (by first | exact Or.inl rfl | exact Or.inr (Or.inl rfl) | exact Or.inr (Or.inr rfl)) (by decide) (by decide)) (@pa_cons _ _ _ _ _ (@pe_int _ _ _ _) (@pa_nil _) (by rfl)) (by rfl)) (by decide) (by rfl) (by rfl)) (by intro _ _; rfl) (by rfl)) (@pa_nil _) (by rfl)))) (@kCutA _ K _ _ _ _ _ _ _ _ (@vv _ 3 _ _ (by rfl) (by first | exact Or.inl rfl | exact Or.inr (Or.inl rfl) | exact Or.inr (Or.inr rfl)) (by decide) (by decide)) (@po_some _ _ _ (@pe_op _ _ _ _ _ _ _ _ (kAddA (K := K)) (@vv _ 7 _ _ (by rfl) (by first | exact Or.inl rfl | exact Or.inr (Or.inl rfl) | exact Or.inr (Or.inr rfl)) (by decide) (by decide)) (@pe_int _ _ _ _))) (@po_none _) (by rfl))) (@pa_nil _) (by rfl)) (by rfl))) (@pa_nil _) (by rfl)) (by rfl) (by rfl) (by rfl) (by rfl) (by rfl) (by rfl)) (by rfl)) (@pss_one _ _ _ (@ps_expr _ _ _ _ (@kAppend _ K _ _ _ _ _ _ (@vv _ 6 _ _ (by rfl) (by first | exact Or.inl rfl | exact Or.inr (Or.inl rfl) | exact Or.inr (Or.inr rfl)) (by decide) (by decide)) (@pa_cons _ _ _ _ _ (@pe_tup _ _ _ _ _ (@pa_cons _ _ _ _ _ (@vv _ 2 _ _ (by rfl) (by first | exact Or.inl rfl | exact Or.inr (Or.inl rfl) | exact Or.inr (Or.inr rfl)) (by decide) (by decide)) (@pa_cons _ _ _ _ _ (@pe_op _ _ _ _ _ _ _ _ (kAddA (K := K)) (@kCutA _ K _ _ _ _ _ _ _ _ (@vv _ 3 _ _ (by rfl) (by first | exact Or.inl rfl | exact Or.inr (Or.inl rfl) | exact Or.inr (Or.inr rfl)) (by decide) (by decide)) (@po_none _) (@po_some _ _ _ (@vv _ 7 _ _ (by rfl) (by first | exact Or.inl rfl | exact Or.inr (Or.inl rfl) | exact Or.inr (Or.inr rfl)) (by decide) (by decide))) (by rfl)) (@kCutA _ K _ _ _ _ _ _ _ _ (@vv _ 3 _ _ (by rfl) (by first | exact Or.inl rfl | exact Or.inr (Or.inl rfl) | exact Or.inr (Or.inr rfl)) (by decide) (by decide)) (@po_some _ _ _ (@pe_op _ _ _ _ _ _ _ _ (kAddA (K := K)) (@vv _ 7 _ _ (by rfl) (by first | exact Or.inl rfl | exact Or.inr (Or.inl rfl) | exact Or.inr (Or.inr rfl)) (by decide) (by decide)) (@pe_int _ _ _ _))) (@po_none _) (by rfl))) (@pa_nil _) (by rfl)) (by rfl))) (@pa_nil _) (by rfl)) (by rfl) (by rfl) (by rfl) (by rfl) (by rfl) (by rfl)) (by rfl))))))) (@pss_nil _)) (@pss_one _ _ _ (@ps_ret _ _ _ _ (@vv _ 6 _ _ (by rfl) (by first | exact Or.inl rfl | exact Or.inr (Or.inl rfl) | exact Or.inr (Or.inr rfl)) (by decide) (by decide))))))))))))), ?_⟩
  have h64 : 2 ^ m ≤ 64 := Nat.pow_le_pow_right (n := 2) (by decide) m6
  have hpo := Nat.two_pow_pos m
  have e2 : (1 : Int) * (2 : Int) ^ ((m : Int).toNat) = ((2 ^ m : Nat) : Int) := by rw [Int.toNat_natCast, Int.natCast_pow, Int.one_mul]; rfl
  obtain ⟨a, b, us, rfl, ha, hb, hR⟩ := SA.at_
  have hlow := mem_term hts
  have rt : Rep K (cutH t t H) (.tup (ts.map termD)) (.ref b) := cutH_tup F.lst (by unfold tupOnly; exact tups_term ts) (rep_tup2 hb hR)
  refine seq_at (fun σ H' => σ = [some (.ref t), some (.ref a), some (.int m), some (.ref b), none, none, none, none, none, none] ∧ H = H') ⟨_, .inr ha, rfl, _, _, rfl, _, _, rfl, rfl, rfl, rfl⟩ ?_ (by walk_at "sm")
  rintro σ _ ⟨rfl, rfl⟩
  obtain ⟨S, hS, S1, S2⟩ : ∃ S : Int, ((2 ^ m : Nat) : Int) = S ∧ 1 ≤ S ∧ S ≤ 64 := ⟨_, rfl, by omega, by omega⟩
  refine seq_at (fun σ H' => σ = [some (.ref t), some (.ref a), some (.int m), some (.ref b), some (.int S), none, none, none, none, none] ∧ H = H') ?_ ?_ (by walk_at "sm")
  · refine ⟨⟨by omega, by omega, by decide⟩, ?_⟩
    rw [e2, hS]
    exact ⟨rfl, rfl⟩
  rintro σ _ ⟨rfl, rfl⟩
  refine seq_at (fun σ H' => ∃ (z : V) (dz : Dv), σ = [some (.ref t), some (.ref a), some (.int m), some (.ref b), some (.int S), some z, none, none, none, none] ∧ lowI dz ∧ Bt K t t H b (ts.map termD) z dz [] H') ?_ ?_ (by walk_at "sm")
  · refine ⟨small_le (show 1 ≤ 1000 by decide), fun p1 n1 => ?_⟩
    have s1 := Same.upd (o := (.tup [.int 1])) n1
    have g1 := upd_same (H := H) (a := p1) (o := (.tup [.int 1]))
    generalize L2.upd H p1 (.tup [.int 1]) = H1 at *
    have u1 := F.neT n1
    have F1 := F.same s1
    refine ⟨small_le (show 1 ≤ 1000 by decide), fun p2 n2 => ?_⟩
    have s2 := Same.upd (o := (.lst [.int 1])) n2
    have g2 := upd_same (H := H1) (a := p2) (o := (.lst [.int 1]))
    generalize L2.upd H1 p2 (.lst [.int 1]) = H2 at *
    have u2 := F1.neT n2
    have F2 := F1.same s2
    refine ⟨small_le (show 11 ≤ 1000 by decide), fun p3 n3 => ?_⟩
    have s3 := Same.upd (o := (.lst [.bl true, .bl false, .non, .str (Str.ofString "1"), .int S, .int (0 - S), .int (S + 1), .int (-1), .int 0, .ref p1, .ref p2])) n3
    have g3 := upd_same (H := H2) (a := p3) (o := (.lst [.bl true, .bl false, .non, .str (Str.ofString "1"), .int S, .int (0 - S), .int (S + 1), .int (-1), .int 0, .ref p1, .ref p2]))
    generalize L2.upd H2 p3 (.lst [.bl true, .bl false, .non, .str (Str.ofString "1"), .int S, .int (0 - S), .int (S + 1), .int (-1), .int 0, .ref p1, .ref p2]) = H3 at *
    have u3 := F2.neT n3
    have F3 := F2.same s3
    refine ⟨F3, okDiv_of (by decide) (by decide), fun d H4 d0 d1 F4 f4 => ?_⟩
    have fr : Frm t H H4 := s1.frm.trans (s2.frm.trans (s3.frm.trans (frm_all f4)))
    have k1 : cutH t t H4 p1 = some (.tup [.int 1]) := cutH_at (by rw [f4 p1 u1]; exact s3 _ _ (s2 _ _ g1)) ⟨u1, u1⟩
    have k2 : cutH t t H4 p2 = some (.lst [.int 1]) := cutH_at (by rw [f4 p2 u2]; exact s3 _ _ g2) ⟨u2, u2⟩
    have al := odd_ones (K := K) (H := cutH t t H4) (Str.ofString "1") S1 S2 k1 k2
    obtain ⟨z, hz, hm⟩ := atI_mem (xs := [V.bl true, .bl false, .non, .str (Str.ofString "1"), .int S, .int (0 - S), .int (S + 1), .int (-1), .int 0, .ref p1, .ref p2]) d0 d1
    obtain ⟨dz, rz, lz⟩ := al z hm
    have g4 : H4 p3 = some (.lst [V.bl true, .bl false, .non, .str (Str.ofString "1"), .int S, .int (0 - S), .int (S + 1), .int (-1), .int 0, .ref p1, .ref p2]) := by rw [f4 p3 u3]; exact g3
    exact ⟨_, _, .inl (.of g4), hz, z, dz, rfl, lz, F4, F4.lst, fr, Rep.same (cutH_frm fr) _ _ rt, rz, fun y hy => by cases hy⟩
  rintro σ Ha ⟨z, dz, rfl, hz, B⟩
  refine seq_at (fun σ H' => ∃ (l : Addr) (ys : List V), σ = [some (.ref t), some (.ref a), some (.int m), some (.ref b), some (.int S), some z, some (.ref l), none, none, none] ∧ H' l = some (.lst ys) ∧ l ≠ t ∧ ys.length ≤ 7 ∧ Bt K t t H b (ts.map termD) z dz ys H') ?_ ?_ (by walk_at "sm")
  · refine ⟨small_le (show 2 ≤ 1000 by decide), fun p1 n1 => ?_⟩
    have u1 := B.ne n1
    have s1 := Same.upd (o := (.lst [.int m, .ref b])) n1
    have g1 := upd_same (H := Ha) (a := p1) (o := (.lst [.int m, .ref b]))
    generalize L2.upd Ha p1 (.lst [.int m, .ref b]) = H1 at *
    replace B := B.same s1
    have R1 : Rep K (cutH t t H1) (.lst [(.int (m : Int)), (.tup (ts.map termD))]) (.ref p1) := rep_lst1 (cutH_at g1 u1) (reps_cons rep_int (reps_cons B.rt reps_nil))
    replace B := B.add (.inl ⟨(.lst [(.int (m : Int)), (.tup (ts.map termD))]), R1, trivial⟩)
    obtain ⟨xa2, ha2, ra2⟩ := sqs_of B.rt
    refine ⟨xa2, .inr ha2, fun p2 n2 => ?_⟩
    have u2 := B.ne n2
    have s2 := Same.upd (o := (.lst xa2)) n2
    have g2 := upd_same (H := H1) (a := p2) (o := (.lst xa2))
    generalize L2.upd H1 p2 (.lst xa2) = H2 at *
    replace B := B.same s2
    have R2 : Rep K (cutH t t H2) (.lst (ts.map termD)) (.ref p2) := rep_lst1 (cutH_at g2 u2) (Reps.same (cutH_frm s2.frm) _ _ ra2)
    refine ⟨small_le (show 2 ≤ 1000 by decide), fun p3 n3 => ?_⟩
    have u3 := B.ne n3
    have s3 := Same.upd (o := (.tup [.int m, .ref p2])) n3
    have g3 := upd_same (H := H2) (a := p3) (o := (.tup [.int m, .ref p2]))
    generalize L2.upd H2 p3 (.tup [.int m, .ref p2]) = H3 at *
    replace R2 := up R2 s3
    replace B := B.same s3
    have R3 : Rep K (cutH t t H3) (.tup [(.int (m : Int)), (.lst (ts.map termD))]) (.ref p3) := rep_tup1 (cutH_at g3 u3) (reps_cons rep_int (reps_cons R2 reps_nil))
    replace B := B.add (.inl ⟨(.tup [(.int (m : Int)), (.lst (ts.map termD))]), R3, trivial⟩)
    refine ⟨small_le (show 0 ≤ 1000 by decide), fun p4 n4 => ?_⟩
    have u4 := B.ne n4
    have s4 := Same.upd (o := (.tup [])) n4
    have g4 := upd_same (H := H3) (a := p4) (o := (.tup []))
    generalize L2.upd H3 p4 (.tup []) = H4 at *
    replace B := B.same s4
    have R4 : Rep K (cutH t t H4) (.tup []) (.ref p4) := rep_tup1 (cutH_at g4 u4) reps_nil
    refine ⟨small_le (show 3 ≤ 1000 by decide), fun p5 n5 => ?_⟩
    have u5 := B.ne n5
    have s5 := Same.upd (o := (.tup [.int m, .ref b, .ref p4])) n5
    have g5 := upd_same (H := H4) (a := p5) (o := (.tup [.int m, .ref b, .ref p4]))
    generalize L2.upd H4 p5 (.tup [.int m, .ref b, .ref p4]) = H5 at *
    replace R4 := up R4 s5
    replace B := B.same s5
    have R5 : Rep K (cutH t t H5) (.tup [(.int (m : Int)), (.tup (ts.map termD)), (.tup [])]) (.ref p5) := rep_tup1 (cutH_at g5 u5) (reps_cons rep_int (reps_cons B.rt (reps_cons R4 reps_nil)))
    replace B := B.add (.inl ⟨(.tup [(.int (m : Int)), (.tup (ts.map termD)), (.tup [])]), R5, trivial⟩)
    refine ⟨small_le (show 1 ≤ 1000 by decide), fun p6 n6 => ?_⟩
    have u6 := B.ne n6
    have s6 := Same.upd (o := (.tup [.int m])) n6
    have g6 := upd_same (H := H5) (a := p6) (o := (.tup [.int m]))
    generalize L2.upd H5 p6 (.tup [.int m]) = H6 at *
    replace B := B.same s6
    have R6 : Rep K (cutH t t H6) (.tup [(.int (m : Int))]) (.ref p6) := rep_tup1 (cutH_at g6 u6) (reps_cons rep_int reps_nil)
    replace B := B.add (.inl ⟨(.tup [(.int (m : Int))]), R6, trivial⟩)
    refine ⟨small_le (show 2 ≤ 1000 by decide), fun p7 n7 => ?_⟩
    have u7 := B.ne n7
    have s7 := Same.upd (o := (.tup [z, .ref b])) n7
    have g7 := upd_same (H := H6) (a := p7) (o := (.tup [z, .ref b]))
    generalize L2.upd H6 p7 (.tup [z, .ref b]) = H7 at *
    replace B := B.same s7
    have R7 : Rep K (cutH t t H7) (.tup [dz, (.tup (ts.map termD))]) (.ref p7) := rep_tup1 (cutH_at g7 u7) (reps_cons B.rz (reps_cons B.rt reps_nil))
    replace B := B.add (.inl ⟨(.tup [dz, (.tup (ts.map termD))]), R7, (hlow)⟩)
    refine ⟨small_le (show 2 ≤ 1000 by decide), fun p8 n8 => ?_⟩
    have u8 := B.ne n8
    have s8 := Same.upd (o := (.tup [.int ((m : Int) + 1), .ref b])) n8
    have g8 := upd_same (H := H7) (a := p8) (o := (.tup [.int ((m : Int) + 1), .ref b]))
    generalize L2.upd H7 p8 (.tup [.int ((m : Int) + 1), .ref b]) = H8 at *
    replace B := B.same s8
    have R8 : Rep K (cutH t t H8) (.tup [(.int ((m : Int) + 1)), (.tup (ts.map termD))]) (.ref p8) := rep_tup1 (cutH_at g8 u8) (reps_cons rep_int (reps_cons B.rt reps_nil))
    replace B := B.add (.inl ⟨(.tup [(.int ((m : Int) + 1)), (.tup (ts.map termD))]), R8, (hlow)⟩)
    refine ⟨small_le (show 2 ≤ 1000 by decide), fun p9 n9 => ?_⟩
    have u9 := B.ne n9
    have s9 := Same.upd (o := (.tup [.int 7, .ref b])) n9
    have g9 := upd_same (H := H8) (a := p9) (o := (.tup [.int 7, .ref b]))
    generalize L2.upd H8 p9 (.tup [.int 7, .ref b]) = H9 at *
    replace B := B.same s9
    have R9 : Rep K (cutH t t H9) (.tup [(.int 7), (.tup (ts.map termD))]) (.ref p9) := rep_tup1 (cutH_at g9 u9) (reps_cons rep_int (reps_cons B.rt reps_nil))
    replace B := B.add (.inl ⟨(.tup [(.int 7), (.tup (ts.map termD))]), R9, (hlow)⟩)
    refine ⟨small_le (show 7 ≤ 1000 by decide), fun p10 n10 => ?_⟩
    have u10 := B.ne n10
    have s10 := Same.upd (o := (.lst [.ref p1, .ref p3, .ref p5, .ref p6, .ref p7, .ref p8, .ref p9])) n10
    have g10 := upd_same (H := H9) (a := p10) (o := (.lst [.ref p1, .ref p3, .ref p5, .ref p6, .ref p7, .ref p8, .ref p9]))
    generalize L2.upd H9 p10 (.lst [.ref p1, .ref p3, .ref p5, .ref p6, .ref p7, .ref p8, .ref p9]) = H10 at *
    replace B := B.same s10
    exact ⟨p10, _, rfl, g10, u10.1, by simp only [List.length_append, List.length_cons, List.length_nil]; omega, B.re (fun x hx => by simpa only [List.mem_append, List.mem_cons, List.not_mem_nil, or_false, false_or, or_assoc] using hx)⟩
  clear B
  rintro σ Ha ⟨l, ys, rfl, hl, nl, hlen, B⟩
  refine seq_at (fun σ H' => ∃ (l : Addr) (ys : List V), σ = [some (.ref t), some (.ref a), some (.int m), some (.ref b), some (.int S), some z, some (.ref l), none, none, none] ∧ H' l = some (.lst ys) ∧ l ≠ t ∧ ys.length ≤ 10 ∧ Bt K t t H b (ts.map termD) z dz ys H') ?_ ?_ (by walk_at "sm")
  · refine ⟨small_le (show 0 ≤ 1000 by decide), fun p1 n1 => ?_⟩
    have u1 := B.ne n1
    have s1 := Same.upd (o := (.tup [])) n1
    have g1 := upd_same (H := Ha) (a := p1) (o := (.tup []))
    generalize L2.upd Ha p1 (.tup []) = H1 at *
    replace B := B.same s1
    replace hl := s1 _ _ hl
    have R1 : Rep K (cutH t t H1) (.tup []) (.ref p1) := rep_tup1 (cutH_at g1 u1) reps_nil
    refine ⟨small_le (show 2 ≤ 1000 by decide), fun p2 n2 => ?_⟩
    have u2 := B.ne n2
    have s2 := Same.upd (o := (.tup [.int 0, .ref p1])) n2
    have g2 := upd_same (H := H1) (a := p2) (o := (.tup [.int 0, .ref p1]))
    generalize L2.upd H1 p2 (.tup [.int 0, .ref p1]) = H2 at *
    replace R1 := up R1 s2
    replace B := B.same s2
    replace hl := s2 _ _ hl
    have R2 : Rep K (cutH t t H2) (.tup [(.int 0), (.tup [])]) (.ref p2) := rep_tup1 (cutH_at g2 u2) (reps_cons rep_int (reps_cons R1 reps_nil))
    replace B := B.add (.inl ⟨(.tup [(.int 0), (.tup [])]), R2, (low_nil)⟩)
    refine ⟨small_le (show 2 ≤ 1000 by decide), fun p3 n3 => ?_⟩
    have u3 := B.ne n3
    have s3 := Same.upd (o := (.tup [.int S, .int 0])) n3
    have g3 := upd_same (H := H2) (a := p3) (o := (.tup [.int S, .int 0]))
    generalize L2.upd H2 p3 (.tup [.int S, .int 0]) = H3 at *
    replace B := B.same s3
    replace hl := s3 _ _ hl
    have R3 : Rep K (cutH t t H3) (.tup [(.int S), (.int 0)]) (.ref p3) := rep_tup1 (cutH_at g3 u3) (reps_cons rep_int (reps_cons rep_int reps_nil))
    refine ⟨small_le (show 1 ≤ 1000 by decide), fun p4 n4 => ?_⟩
    have u4 := B.ne n4
    have s4 := Same.upd (o := (.tup [.ref p3])) n4
    have g4 := upd_same (H := H3) (a := p4) (o := (.tup [.ref p3]))
    generalize L2.upd H3 p4 (.tup [.ref p3]) = H4 at *
    replace R3 := up R3 s4
    replace B := B.same s4
    replace hl := s4 _ _ hl
    have R4 : Rep K (cutH t t H4) (.tup [(.tup [(.int S), (.int 0)])]) (.ref p4) := rep_tup1 (cutH_at g4 u4) (reps_cons R3 reps_nil)
    obtain ⟨xa5, ha5, ra5⟩ := sqs_of B.rt
    obtain ⟨xb5, hb5, rb5⟩ := sqs_of R4
    refine .inr ⟨xa5, xb5, ha5, hb5, by have h1 := ra5.length; have h2 := rb5.length; simp only [List.length_append, List.length_map, List.length_cons, List.length_nil, List.length_reverse] at h1 h2 ; exact small_le (by omega), fun p5 H5 s5 c5 => ?_⟩
    replace B := B.same s5
    replace hl := s5 _ _ hl
    have R5 : Rep K (cutH t t H5) (.tup ((ts.map termD) ++ [(.tup [(.int S), (.int 0)])])) (.ref p5) := rep_tup2 (sqT_cut B.fd.lst B.fl c5) ((Reps.same (cutH_frm s5.frm) _ _ ra5).append (Reps.same (cutH_frm s5.frm) _ _ rb5))
    refine ⟨small_le (show 2 ≤ 1000 by decide), fun p6 n6 => ?_⟩
    have u6 := B.ne n6
    have s6 := Same.upd (o := (.tup [.int m, .ref p5])) n6
    have g6 := upd_same (H := H5) (a := p6) (o := (.tup [.int m, .ref p5]))
    generalize L2.upd H5 p6 (.tup [.int m, .ref p5]) = H6 at *
    replace R5 := up R5 s6
    replace B := B.same s6
    replace hl := s6 _ _ hl
    have R6 : Rep K (cutH t t H6) (.tup [(.int (m : Int)), (.tup ((ts.map termD) ++ [(.tup [(.int S), (.int 0)])]))]) (.ref p6) := rep_tup1 (cutH_at g6 u6) (reps_cons rep_int (reps_cons R5 reps_nil))
    replace B := B.add (.inl ⟨(.tup [(.int (m : Int)), (.tup ((ts.map termD) ++ [(.tup [(.int S), (.int 0)])]))]), R6, ((low_app hlow (low_cons (low_pair (by show (-1000 : Int) ≤ 0 ∧ (0 : Int) ≤ 1000; omega)) low_nil)))⟩)
    refine ⟨small_le (show 2 ≤ 1000 by decide), fun p7 n7 => ?_⟩
    have u7 := B.ne n7
    have s7 := Same.upd (o := (.tup [.int (-1), .int 0])) n7
    have g7 := upd_same (H := H6) (a := p7) (o := (.tup [.int (-1), .int 0]))
    generalize L2.upd H6 p7 (.tup [.int (-1), .int 0]) = H7 at *
    replace B := B.same s7
    replace hl := s7 _ _ hl
    have R7 : Rep K (cutH t t H7) (.tup [(.int (-1)), (.int 0)]) (.ref p7) := rep_tup1 (cutH_at g7 u7) (reps_cons rep_int (reps_cons rep_int reps_nil))
    refine ⟨small_le (show 1 ≤ 1000 by decide), fun p8 n8 => ?_⟩
    have u8 := B.ne n8
    have s8 := Same.upd (o := (.tup [.ref p7])) n8
    have g8 := upd_same (H := H7) (a := p8) (o := (.tup [.ref p7]))
    generalize L2.upd H7 p8 (.tup [.ref p7]) = H8 at *
    replace R7 := up R7 s8
    replace B := B.same s8
    replace hl := s8 _ _ hl
    have R8 : Rep K (cutH t t H8) (.tup [(.tup [(.int (-1)), (.int 0)])]) (.ref p8) := rep_tup1 (cutH_at g8 u8) (reps_cons R7 reps_nil)
    obtain ⟨xa9, ha9, ra9⟩ := sqs_of R8
    obtain ⟨xb9, hb9, rb9⟩ := sqs_of B.rt
    refine .inr ⟨xa9, xb9, ha9, hb9, by have h1 := ra9.length; have h2 := rb9.length; simp only [List.length_append, List.length_map, List.length_cons, List.length_nil, List.length_reverse] at h1 h2 ; exact small_le (by omega), fun p9 H9 s9 c9 => ?_⟩
    replace B := B.same s9
    replace hl := s9 _ _ hl
    have R9 : Rep K (cutH t t H9) (.tup ([(.tup [(.int (-1)), (.int 0)])] ++ (ts.map termD))) (.ref p9) := rep_tup2 (sqT_cut B.fd.lst B.fl c9) ((Reps.same (cutH_frm s9.frm) _ _ ra9).append (Reps.same (cutH_frm s9.frm) _ _ rb9))
    refine ⟨small_le (show 2 ≤ 1000 by decide), fun p10 n10 => ?_⟩
    have u10 := B.ne n10
    have s10 := Same.upd (o := (.tup [.int m, .ref p9])) n10
    have g10 := upd_same (H := H9) (a := p10) (o := (.tup [.int m, .ref p9]))
    generalize L2.upd H9 p10 (.tup [.int m, .ref p9]) = H10 at *
    replace R9 := up R9 s10
    replace B := B.same s10
    replace hl := s10 _ _ hl
    have R10 : Rep K (cutH t t H10) (.tup [(.int (m : Int)), (.tup ([(.tup [(.int (-1)), (.int 0)])] ++ (ts.map termD)))]) (.ref p10) := rep_tup1 (cutH_at g10 u10) (reps_cons rep_int (reps_cons R9 reps_nil))
    replace B := B.add (.inl ⟨(.tup [(.int (m : Int)), (.tup ([(.tup [(.int (-1)), (.int 0)])] ++ (ts.map termD)))]), R10, ((low_app (low_cons (low_pair (by show (-1000 : Int) ≤ 0 ∧ (0 : Int) ≤ 1000; omega)) low_nil) hlow))⟩)
    refine ⟨small_le (show 3 ≤ 1000 by decide), fun p11 n11 => ?_⟩
    have u11 := B.ne n11
    have s11 := Same.upd (o := (.lst [.ref p2, .ref p6, .ref p10])) n11
    have g11 := upd_same (H := H10) (a := p11) (o := (.lst [.ref p2, .ref p6, .ref p10]))
    generalize L2.upd H10 p11 (.lst [.ref p2, .ref p6, .ref p10]) = H11 at *
    replace B := B.same s11
    replace hl := s11 _ _ hl
    have hlen2 := hlen
    refine .inl ⟨l, p11, ys, [(.ref p2 : V), (.ref p6 : V), (.ref p10 : V)], rfl, rfl, hl, g11, small_le (by simp only [List.length_cons, List.length_nil]; omega), fun p12 n12 => ?_⟩
    have u12 := B.ne n12
    have s12 := Same.upd (o := (.lst (ys ++ [.ref p2, .ref p6, .ref p10]))) n12
    have g12 := upd_same (H := H11) (a := p12) (o := (.lst (ys ++ [.ref p2, .ref p6, .ref p10])))
    generalize L2.upd H11 p12 (.lst (ys ++ [.ref p2, .ref p6, .ref p10])) = H12 at *
    replace B := B.same s12
    exact ⟨p12, _, rfl, g12, u12.1, by simp only [List.length_append, List.length_cons, List.length_nil]; omega, B.re (fun x hx => by simpa only [List.mem_append, List.mem_cons, List.not_mem_nil, or_false, false_or, or_assoc] using hx)⟩
  clear B hl nl hlen ys l
  rintro σ Ha ⟨l, ys, rfl, hl, nl, hlen, B⟩
  refine seq_at (fun σ H' => ∃ (l : Addr) (ys : List V), σ = [some (.ref t), some (.ref a), some (.int m), some (.ref b), some (.int S), some z, some (.ref l), none, none, none] ∧ H' l = some (.lst ys) ∧ l ≠ t ∧ ys.length ≤ 12 ∧ Bt K t t H b (ts.map termD) z dz ys H') ?_ ?_ (by walk_at "sm")
  · obtain ⟨xa1, ha1, ra1⟩ := sqs_of B.rt
    refine ⟨(-1), rfl, xa1, ha1, fun p1 H1 s1 c1 => ?_⟩
    replace B := B.same s1
    replace hl := s1 _ _ hl
    have R1 : Rep K (cutH t t H1) (.tup (cutD (ts.map termD) (some (-1)) none)) (.ref p1) := rep_tup2 (sqT_cut B.fd.lst B.fl c1) (reps_cut _ _ (Reps.same (cutH_frm s1.frm) _ _ ra1))
    obtain ⟨xa2, ha2, ra2⟩ := sqs_of B.rt
    obtain ⟨xb2, hb2, rb2⟩ := sqs_of R1
    have k3 := cutD_len (ts.map termD) (some (-1)) none
    refine .inr ⟨xa2, xb2, ha2, hb2, by have h1 := ra2.length; have h2 := rb2.length; simp only [List.length_append, List.length_map, List.length_cons, List.length_nil, List.length_reverse] at h1 h2 k3; exact small_le (by omega), fun p2 H2 s2 c2 => ?_⟩
    replace B := B.same s2
    replace hl := s2 _ _ hl
    have R2 : Rep K (cutH t t H2) (.tup ((ts.map termD) ++ (cutD (ts.map termD) (some (-1)) none))) (.ref p2) := rep_tup2 (sqT_cut B.fd.lst B.fl c2) ((Reps.same (cutH_frm s2.frm) _ _ ra2).append (Reps.same (cutH_frm s2.frm) _ _ rb2))
    refine ⟨small_le (show 2 ≤ 1000 by decide), fun p4 n4 => ?_⟩
    have u4 := B.ne n4
    have s4 := Same.upd (o := (.tup [.int m, .ref p2])) n4
    have g4 := upd_same (H := H2) (a := p4) (o := (.tup [.int m, .ref p2]))
    generalize L2.upd H2 p4 (.tup [.int m, .ref p2]) = H4 at *
    replace R2 := up R2 s4
    replace B := B.same s4
    replace hl := s4 _ _ hl
    have R4 : Rep K (cutH t t H4) (.tup [(.int (m : Int)), (.tup ((ts.map termD) ++ (cutD (ts.map termD) (some (-1)) none)))]) (.ref p4) := rep_tup1 (cutH_at g4 u4) (reps_cons rep_int (reps_cons R2 reps_nil))
    replace B := B.add (.inl ⟨(.tup [(.int (m : Int)), (.tup ((ts.map termD) ++ (cutD (ts.map termD) (some (-1)) none)))]), R4, ((low_app hlow (cutD_sub hlow)))⟩)
    obtain ⟨xa5, ha5, ra5⟩ := sqs_of B.rt
    refine ⟨rfl, xa5, ha5, fun p5 n5 => ?_⟩
    have u5 := B.ne n5
    have s5 := Same.upd (o := (.tup xa5.reverse)) n5
    have g5 := upd_same (H := H4) (a := p5) (o := (.tup xa5.reverse))
    generalize L2.upd H4 p5 (.tup xa5.reverse) = H5 at *
    replace B := B.same s5
    replace hl := s5 _ _ hl
    have R5 : Rep K (cutH t t H5) (.tup ((ts.map termD)).reverse) (.ref p5) := rep_tup1 (cutH_at g5 u5) (reps_rev (Reps.same (cutH_frm s5.frm) _ _ ra5))
    refine ⟨small_le (show 2 ≤ 1000 by decide), fun p6 n6 => ?_⟩
    have u6 := B.ne n6
    have s6 := Same.upd (o := (.tup [.int m, .ref p5])) n6
    have g6 := upd_same (H := H5) (a := p6) (o := (.tup [.int m, .ref p5]))
    generalize L2.upd H5 p6 (.tup [.int m, .ref p5]) = H6 at *
    replace R5 := up R5 s6
    replace B := B.same s6
    replace hl := s6 _ _ hl
    have R6 : Rep K (cutH t t H6) (.tup [(.int (m : Int)), (.tup ((ts.map termD)).reverse)]) (.ref p6) := rep_tup1 (cutH_at g6 u6) (reps_cons rep_int (reps_cons R5 reps_nil))
    replace B := B.add (.inl ⟨(.tup [(.int (m : Int)), (.tup ((ts.map termD)).reverse)]), R6, ((rev_sub hlow))⟩)
    refine ⟨small_le (show 2 ≤ 1000 by decide), fun p7 n7 => ?_⟩
    have u7 := B.ne n7
    have s7 := Same.upd (o := (.lst [.ref p4, .ref p6])) n7
    have g7 := upd_same (H := H6) (a := p7) (o := (.lst [.ref p4, .ref p6]))
    generalize L2.upd H6 p7 (.lst [.ref p4, .ref p6]) = H7 at *
    replace B := B.same s7
    replace hl := s7 _ _ hl
    have hlen2 := hlen
    refine .inl ⟨l, p7, ys, [(.ref p4 : V), (.ref p6 : V)], rfl, rfl, hl, g7, small_le (by simp only [List.length_cons, List.length_nil]; omega), fun p8 n8 => ?_⟩
    have u8 := B.ne n8
    have s8 := Same.upd (o := (.lst (ys ++ [.ref p4, .ref p6]))) n8
    have g8 := upd_same (H := H7) (a := p8) (o := (.lst (ys ++ [.ref p4, .ref p6])))
    generalize L2.upd H7 p8 (.lst (ys ++ [.ref p4, .ref p6])) = H8 at *
    replace B := B.same s8
    exact ⟨p8, _, rfl, g8, u8.1, by simp only [List.length_append, List.length_cons, List.length_nil]; omega, B.re (fun x hx => by simpa only [List.mem_append, List.mem_cons, List.not_mem_nil, or_false, false_or, or_assoc] using hx)⟩
  clear B hl nl hlen ys l
  rintro σ Ha ⟨l, ys, rfl, hl, nl, hlen, B⟩
  refine seq_at (fun σ H' => ∃ (l : Addr) (ys : List V), σ = [some (.ref t), some (.ref a), some (.int m), some (.ref b), some (.int S), some z, some (.ref l), none, none, none] ∧ H' l = some (.lst ys) ∧ l ≠ t ∧ ys.length ≤ 17 ∧ Bt K t t H b (ts.map termD) z dz ys H') ?_ ?_ (by walk_at "sm")
  · refine ⟨small_le (show 2 ≤ 1000 by decide), fun p1 n1 => ?_⟩
    have u1 := B.ne n1
    have s1 := Same.upd (o := (.tup [.int 0, .int S])) n1
    have g1 := upd_same (H := Ha) (a := p1) (o := (.tup [.int 0, .int S]))
    generalize L2.upd Ha p1 (.tup [.int 0, .int S]) = H1 at *
    replace B := B.same s1
    replace hl := s1 _ _ hl
    have R1 : Rep K (cutH t t H1) (.tup [(.int 0), (.int S)]) (.ref p1) := rep_tup1 (cutH_at g1 u1) (reps_cons rep_int (reps_cons rep_int reps_nil))
    refine ⟨small_le (show 1 ≤ 1000 by decide), fun p2 n2 => ?_⟩
    have u2 := B.ne n2
    have s2 := Same.upd (o := (.tup [.ref p1])) n2
    have g2 := upd_same (H := H1) (a := p2) (o := (.tup [.ref p1]))
    generalize L2.upd H1 p2 (.tup [.ref p1]) = H2 at *
    replace R1 := up R1 s2
    replace B := B.same s2
    replace hl := s2 _ _ hl
    have R2 : Rep K (cutH t t H2) (.tup [(.tup [(.int 0), (.int S)])]) (.ref p2) := rep_tup1 (cutH_at g2 u2) (reps_cons R1 reps_nil)
    refine ⟨small_le (show 2 ≤ 1000 by decide), fun p3 n3 => ?_⟩
    have u3 := B.ne n3
    have s3 := Same.upd (o := (.tup [.int m, .ref p2])) n3
    have g3 := upd_same (H := H2) (a := p3) (o := (.tup [.int m, .ref p2]))
    generalize L2.upd H2 p3 (.tup [.int m, .ref p2]) = H3 at *
    replace R2 := up R2 s3
    replace B := B.same s3
    replace hl := s3 _ _ hl
    have R3 : Rep K (cutH t t H3) (.tup [(.int (m : Int)), (.tup [(.tup [(.int 0), (.int S)])])]) (.ref p3) := rep_tup1 (cutH_at g3 u3) (reps_cons rep_int (reps_cons R2 reps_nil))
    replace B := B.add (.inl ⟨(.tup [(.int (m : Int)), (.tup [(.tup [(.int 0), (.int S)])])]), R3, ((low_cons (low_pair (by show (-1000 : Int) ≤ S ∧ (S : Int) ≤ 1000; omega)) low_nil))⟩)
    refine ⟨small_le (show 2 ≤ 1000 by decide), fun p4 n4 => ?_⟩
    have u4 := B.ne n4
    have s4 := Same.upd (o := (.tup [.int 0, .int S])) n4
    have g4 := upd_same (H := H3) (a := p4) (o := (.tup [.int 0, .int S]))
    generalize L2.upd H3 p4 (.tup [.int 0, .int S]) = H4 at *
    replace B := B.same s4
    replace hl := s4 _ _ hl
    have R4 : Rep K (cutH t t H4) (.tup [(.int 0), (.int S)]) (.ref p4) := rep_tup1 (cutH_at g4 u4) (reps_cons rep_int (reps_cons rep_int reps_nil))
    refine ⟨small_le (show 2 ≤ 1000 by decide), fun p5 n5 => ?_⟩
    have u5 := B.ne n5
    have s5 := Same.upd (o := (.tup [.int 1, .int 1])) n5
    have g5 := upd_same (H := H4) (a := p5) (o := (.tup [.int 1, .int 1]))
    generalize L2.upd H4 p5 (.tup [.int 1, .int 1]) = H5 at *
    replace B := B.same s5
    replace hl := s5 _ _ hl
    replace R4 := up R4 s5
    have R5 : Rep K (cutH t t H5) (.tup [(.int 1), (.int 1)]) (.ref p5) := rep_tup1 (cutH_at g5 u5) (reps_cons rep_int (reps_cons rep_int reps_nil))
    refine ⟨small_le (show 2 ≤ 1000 by decide), fun p6 n6 => ?_⟩
    have u6 := B.ne n6
    have s6 := Same.upd (o := (.tup [.ref p4, .ref p5])) n6
    have g6 := upd_same (H := H5) (a := p6) (o := (.tup [.ref p4, .ref p5]))
    generalize L2.upd H5 p6 (.tup [.ref p4, .ref p5]) = H6 at *
    replace R4 := up R4 s6
    replace R5 := up R5 s6
    replace B := B.same s6
    replace hl := s6 _ _ hl
    have R6 : Rep K (cutH t t H6) (.tup [(.tup [(.int 0), (.int S)]), (.tup [(.int 1), (.int 1)])]) (.ref p6) := rep_tup1 (cutH_at g6 u6) (reps_cons R4 (reps_cons R5 reps_nil))
    refine ⟨small_le (show 2 ≤ 1000 by decide), fun p7 n7 => ?_⟩
    have u7 := B.ne n7
    have s7 := Same.upd (o := (.tup [.int m, .ref p6])) n7
    have g7 := upd_same (H := H6) (a := p7) (o := (.tup [.int m, .ref p6]))
    generalize L2.upd H6 p7 (.tup [.int m, .ref p6]) = H7 at *
    replace R6 := up R6 s7
    replace B := B.same s7
    replace hl := s7 _ _ hl
    have R7 : Rep K (cutH t t H7) (.tup [(.int (m : Int)), (.tup [(.tup [(.int 0), (.int S)]), (.tup [(.int 1), (.int 1)])])]) (.ref p7) := rep_tup1 (cutH_at g7 u7) (reps_cons rep_int (reps_cons R6 reps_nil))
    replace B := B.add (.inl ⟨(.tup [(.int (m : Int)), (.tup [(.tup [(.int 0), (.int S)]), (.tup [(.int 1), (.int 1)])])]), R7, ((low_cons (low_pair (by show (-1000 : Int) ≤ S ∧ (S : Int) ≤ 1000; omega)) (low_cons (low_pair (by show (-1000 : Int) ≤ 1 ∧ (1 : Int) ≤ 1000; omega)) low_nil)))⟩)
    refine ⟨small_le (show 2 ≤ 1000 by decide), fun p8 n8 => ?_⟩
    have u8 := B.ne n8
    have s8 := Same.upd (o := (.tup [.int 1, .int (0 - S)])) n8
    have g8 := upd_same (H := H7) (a := p8) (o := (.tup [.int 1, .int (0 - S)]))
    generalize L2.upd H7 p8 (.tup [.int 1, .int (0 - S)]) = H8 at *
    replace B := B.same s8
    replace hl := s8 _ _ hl
    have R8 : Rep K (cutH t t H8) (.tup [(.int 1), (.int (0 - S))]) (.ref p8) := rep_tup1 (cutH_at g8 u8) (reps_cons rep_int (reps_cons rep_int reps_nil))
    refine ⟨small_le (show 1 ≤ 1000 by decide), fun p9 n9 => ?_⟩
    have u9 := B.ne n9
    have s9 := Same.upd (o := (.tup [.ref p8])) n9
    have g9 := upd_same (H := H8) (a := p9) (o := (.tup [.ref p8]))
    generalize L2.upd H8 p9 (.tup [.ref p8]) = H9 at *
    replace R8 := up R8 s9
    replace B := B.same s9
    replace hl := s9 _ _ hl
    have R9 : Rep K (cutH t t H9) (.tup [(.tup [(.int 1), (.int (0 - S))])]) (.ref p9) := rep_tup1 (cutH_at g9 u9) (reps_cons R8 reps_nil)
    refine ⟨small_le (show 2 ≤ 1000 by decide), fun p10 n10 => ?_⟩
    have u10 := B.ne n10
    have s10 := Same.upd (o := (.tup [.int m, .ref p9])) n10
    have g10 := upd_same (H := H9) (a := p10) (o := (.tup [.int m, .ref p9]))
    generalize L2.upd H9 p10 (.tup [.int m, .ref p9]) = H10 at *
    replace R9 := up R9 s10
    replace B := B.same s10
    replace hl := s10 _ _ hl
    have R10 : Rep K (cutH t t H10) (.tup [(.int (m : Int)), (.tup [(.tup [(.int 1), (.int (0 - S))])])]) (.ref p10) := rep_tup1 (cutH_at g10 u10) (reps_cons rep_int (reps_cons R9 reps_nil))
    replace B := B.add (.inl ⟨(.tup [(.int (m : Int)), (.tup [(.tup [(.int 1), (.int (0 - S))])])]), R10, ((low_cons (low_pair (by show (-1000 : Int) ≤ (0 - S) ∧ ((0 - S) : Int) ≤ 1000; omega)) low_nil))⟩)
    refine ⟨small_le (show 2 ≤ 1000 by decide), fun p11 n11 => ?_⟩
    have u11 := B.ne n11
    have s11 := Same.upd (o := (.tup [.int 1, .int (S + 1)])) n11
    have g11 := upd_same (H := H10) (a := p11) (o := (.tup [.int 1, .int (S + 1)]))
    generalize L2.upd H10 p11 (.tup [.int 1, .int (S + 1)]) = H11 at *
    replace B := B.same s11
    replace hl := s11 _ _ hl
    have R11 : Rep K (cutH t t H11) (.tup [(.int 1), (.int (S + 1))]) (.ref p11) := rep_tup1 (cutH_at g11 u11) (reps_cons rep_int (reps_cons rep_int reps_nil))
    refine ⟨small_le (show 1 ≤ 1000 by decide), fun p12 n12 => ?_⟩
    have u12 := B.ne n12
    have s12 := Same.upd (o := (.tup [.ref p11])) n12
    have g12 := upd_same (H := H11) (a := p12) (o := (.tup [.ref p11]))
    generalize L2.upd H11 p12 (.tup [.ref p11]) = H12 at *
    replace R11 := up R11 s12
    replace B := B.same s12
    replace hl := s12 _ _ hl
    have R12 : Rep K (cutH t t H12) (.tup [(.tup [(.int 1), (.int (S + 1))])]) (.ref p12) := rep_tup1 (cutH_at g12 u12) (reps_cons R11 reps_nil)
    refine ⟨small_le (show 2 ≤ 1000 by decide), fun p13 n13 => ?_⟩
    have u13 := B.ne n13
    have s13 := Same.upd (o := (.tup [.int m, .ref p12])) n13
    have g13 := upd_same (H := H12) (a := p13) (o := (.tup [.int m, .ref p12]))
    generalize L2.upd H12 p13 (.tup [.int m, .ref p12]) = H13 at *
    replace R12 := up R12 s13
    replace B := B.same s13
    replace hl := s13 _ _ hl
    have R13 : Rep K (cutH t t H13) (.tup [(.int (m : Int)), (.tup [(.tup [(.int 1), (.int (S + 1))])])]) (.ref p13) := rep_tup1 (cutH_at g13 u13) (reps_cons rep_int (reps_cons R12 reps_nil))
    replace B := B.add (.inl ⟨(.tup [(.int (m : Int)), (.tup [(.tup [(.int 1), (.int (S + 1))])])]), R13, ((low_cons (low_pair (by show (-1000 : Int) ≤ (S + 1) ∧ ((S + 1) : Int) ≤ 1000; omega)) low_nil))⟩)
    refine ⟨small_le (show 0 ≤ 1000 by decide), fun p14 n14 => ?_⟩
    have u14 := B.ne n14
    have s14 := Same.upd (o := (.tup [])) n14
    have g14 := upd_same (H := H13) (a := p14) (o := (.tup []))
    generalize L2.upd H13 p14 (.tup []) = H14 at *
    replace B := B.same s14
    replace hl := s14 _ _ hl
    have R14 : Rep K (cutH t t H14) (.tup []) (.ref p14) := rep_tup1 (cutH_at g14 u14) reps_nil
    refine ⟨small_le (show 2 ≤ 1000 by decide), fun p15 n15 => ?_⟩
    have u15 := B.ne n15
    have s15 := Same.upd (o := (.tup [.int m, .ref p14])) n15
    have g15 := upd_same (H := H14) (a := p15) (o := (.tup [.int m, .ref p14]))
    generalize L2.upd H14 p15 (.tup [.int m, .ref p14]) = H15 at *
    replace R14 := up R14 s15
    replace B := B.same s15
    replace hl := s15 _ _ hl
    have R15 : Rep K (cutH t t H15) (.tup [(.int (m : Int)), (.tup [])]) (.ref p15) := rep_tup1 (cutH_at g15 u15) (reps_cons rep_int (reps_cons R14 reps_nil))
    replace B := B.add (.inl ⟨(.tup [(.int (m : Int)), (.tup [])]), R15, (low_nil)⟩)
    refine ⟨small_le (show 5 ≤ 1000 by decide), fun p16 n16 => ?_⟩
    have u16 := B.ne n16
    have s16 := Same.upd (o := (.lst [.ref p3, .ref p7, .ref p10, .ref p13, .ref p15])) n16
    have g16 := upd_same (H := H15) (a := p16) (o := (.lst [.ref p3, .ref p7, .ref p10, .ref p13, .ref p15]))
    generalize L2.upd H15 p16 (.lst [.ref p3, .ref p7, .ref p10, .ref p13, .ref p15]) = H16 at *
    replace B := B.same s16
    replace hl := s16 _ _ hl
    have hlen2 := hlen
    refine .inl ⟨l, p16, ys, [(.ref p3 : V), (.ref p7 : V), (.ref p10 : V), (.ref p13 : V), (.ref p15 : V)], rfl, rfl, hl, g16, small_le (by simp only [List.length_cons, List.length_nil]; omega), fun p17 n17 => ?_⟩
    have u17 := B.ne n17
    have s17 := Same.upd (o := (.lst (ys ++ [.ref p3, .ref p7, .ref p10, .ref p13, .ref p15]))) n17
    have g17 := upd_same (H := H16) (a := p17) (o := (.lst (ys ++ [.ref p3, .ref p7, .ref p10, .ref p13, .ref p15])))
    generalize L2.upd H16 p17 (.lst (ys ++ [.ref p3, .ref p7, .ref p10, .ref p13, .ref p15])) = H17 at *
    replace B := B.same s17
    exact ⟨p17, _, rfl, g17, u17.1, by simp only [List.length_append, List.length_cons, List.length_nil]; omega, B.re (fun x hx => by simpa only [List.mem_append, List.mem_cons, List.not_mem_nil, or_false, false_or, or_assoc] using hx)⟩
  clear B hl nl hlen ys l
  rintro σ Ha ⟨l, ys, rfl, hl, nl, hlen, B⟩
  refine seq_at (fun σ H' => ∃ (l : Addr) (ys : List V), σ = [some (.ref t), some (.ref a), some (.int m), some (.ref b), some (.int S), some z, some (.ref l), none, none, none] ∧ H' l = some (.lst ys) ∧ l ≠ t ∧ H l = none ∧ ys.length ≤ 23 ∧ Bt K t l H b (ts.map termD) z dz ys H') ?_ ?_ (by walk_at "sm")
  · refine ⟨okDiv_of (by decide) (by decide), ?_⟩
    refine ⟨small_le (show 2 ≤ 1000 by decide), fun p1 n1 => ?_⟩
    have u1 := B.ne n1
    have s1 := Same.upd (o := (.tup [.int 0, .int (S / 2)])) n1
    have g1 := upd_same (H := Ha) (a := p1) (o := (.tup [.int 0, .int (S / 2)]))
    generalize L2.upd Ha p1 (.tup [.int 0, .int (S / 2)]) = H1 at *
    replace B := B.same s1
    replace hl := s1 _ _ hl
    have R1 : Rep K (cutH t t H1) (.tup [(.int 0), (.int (S / 2))]) (.ref p1) := rep_tup1 (cutH_at g1 u1) (reps_cons rep_int (reps_cons rep_int reps_nil))
    refine ⟨okDiv_of (by decide) (by decide), ?_⟩
    refine ⟨small_le (show 2 ≤ 1000 by decide), fun p2 n2 => ?_⟩
    have u2 := B.ne n2
    have s2 := Same.upd (o := (.tup [.int 1, .int ((S / 2) + 1)])) n2
    have g2 := upd_same (H := H1) (a := p2) (o := (.tup [.int 1, .int ((S / 2) + 1)]))
    generalize L2.upd H1 p2 (.tup [.int 1, .int ((S / 2) + 1)]) = H2 at *
    replace B := B.same s2
    replace hl := s2 _ _ hl
    replace R1 := up R1 s2
    have R2 : Rep K (cutH t t H2) (.tup [(.int 1), (.int ((S / 2) + 1))]) (.ref p2) := rep_tup1 (cutH_at g2 u2) (reps_cons rep_int (reps_cons rep_int reps_nil))
    refine ⟨small_le (show 2 ≤ 1000 by decide), fun p3 n3 => ?_⟩
    have u3 := B.ne n3
    have s3 := Same.upd (o := (.tup [.ref p1, .ref p2])) n3
    have g3 := upd_same (H := H2) (a := p3) (o := (.tup [.ref p1, .ref p2]))
    generalize L2.upd H2 p3 (.tup [.ref p1, .ref p2]) = H3 at *
    replace R1 := up R1 s3
    replace R2 := up R2 s3
    replace B := B.same s3
    replace hl := s3 _ _ hl
    have R3 : Rep K (cutH t t H3) (.tup [(.tup [(.int 0), (.int (S / 2))]), (.tup [(.int 1), (.int ((S / 2) + 1))])]) (.ref p3) := rep_tup1 (cutH_at g3 u3) (reps_cons R1 (reps_cons R2 reps_nil))
    refine ⟨small_le (show 2 ≤ 1000 by decide), fun p4 n4 => ?_⟩
    have u4 := B.ne n4
    have s4 := Same.upd (o := (.tup [.int m, .ref p3])) n4
    have g4 := upd_same (H := H3) (a := p4) (o := (.tup [.int m, .ref p3]))
    generalize L2.upd H3 p4 (.tup [.int m, .ref p3]) = H4 at *
    replace R3 := up R3 s4
    replace B := B.same s4
    replace hl := s4 _ _ hl
    have R4 : Rep K (cutH t t H4) (.tup [(.int (m : Int)), (.tup [(.tup [(.int 0), (.int (S / 2))]), (.tup [(.int 1), (.int ((S / 2) + 1))])])]) (.ref p4) := rep_tup1 (cutH_at g4 u4) (reps_cons rep_int (reps_cons R3 reps_nil))
    replace B := B.add (.inl ⟨(.tup [(.int (m : Int)), (.tup [(.tup [(.int 0), (.int (S / 2))]), (.tup [(.int 1), (.int ((S / 2) + 1))])])]), R4, ((low_cons (low_pair (by show (-1000 : Int) ≤ (S / 2) ∧ ((S / 2) : Int) ≤ 1000; omega)) (low_cons (low_pair (by show (-1000 : Int) ≤ ((S / 2) + 1) ∧ (((S / 2) + 1) : Int) ≤ 1000; omega)) low_nil)))⟩)
    refine ⟨small_le (show 2 ≤ 1000 by decide), fun p5 n5 => ?_⟩
    have u5 := B.ne n5
    have s5 := Same.upd (o := (.tup [z, .int 0])) n5
    have g5 := upd_same (H := H4) (a := p5) (o := (.tup [z, .int 0]))
    generalize L2.upd H4 p5 (.tup [z, .int 0]) = H5 at *
    replace B := B.same s5
    replace hl := s5 _ _ hl
    have R5 : Rep K (cutH t t H5) (.tup [dz, (.int 0)]) (.ref p5) := rep_tup1 (cutH_at g5 u5) (reps_cons B.rz (reps_cons rep_int reps_nil))
    refine ⟨small_le (show 1 ≤ 1000 by decide), fun p6 n6 => ?_⟩
    have u6 := B.ne n6
    have s6 := Same.upd (o := (.tup [.ref p5])) n6
    have g6 := upd_same (H := H5) (a := p6) (o := (.tup [.ref p5]))
    generalize L2.upd H5 p6 (.tup [.ref p5]) = H6 at *
    replace R5 := up R5 s6
    replace B := B.same s6
    replace hl := s6 _ _ hl
    have R6 : Rep K (cutH t t H6) (.tup [(.tup [dz, (.int 0)])]) (.ref p6) := rep_tup1 (cutH_at g6 u6) (reps_cons R5 reps_nil)
    refine ⟨small_le (show 2 ≤ 1000 by decide), fun p7 n7 => ?_⟩
    have u7 := B.ne n7
    have s7 := Same.upd (o := (.tup [.int m, .ref p6])) n7
    have g7 := upd_same (H := H6) (a := p7) (o := (.tup [.int m, .ref p6]))
    generalize L2.upd H6 p7 (.tup [.int m, .ref p6]) = H7 at *
    replace R6 := up R6 s7
    replace B := B.same s7
    replace hl := s7 _ _ hl
    have R7 : Rep K (cutH t t H7) (.tup [(.int (m : Int)), (.tup [(.tup [dz, (.int 0)])])]) (.ref p7) := rep_tup1 (cutH_at g7 u7) (reps_cons rep_int (reps_cons R6 reps_nil))
    replace B := B.add (.inl ⟨(.tup [(.int (m : Int)), (.tup [(.tup [dz, (.int 0)])])]), R7, ((low_cons (low_pair (by show (-1000 : Int) ≤ 0 ∧ (0 : Int) ≤ 1000; omega)) low_nil))⟩)
    refine ⟨small_le (show 2 ≤ 1000 by decide), fun p8 n8 => ?_⟩
    have u8 := B.ne n8
    have s8 := Same.upd (o := (.tup [.int 0, z])) n8
    have g8 := upd_same (H := H7) (a := p8) (o := (.tup [.int 0, z]))
    generalize L2.upd H7 p8 (.tup [.int 0, z]) = H8 at *
    replace B := B.same s8
    replace hl := s8 _ _ hl
    have R8 : Rep K (cutH t t H8) (.tup [(.int 0), dz]) (.ref p8) := rep_tup1 (cutH_at g8 u8) (reps_cons rep_int (reps_cons B.rz reps_nil))
    refine ⟨small_le (show 1 ≤ 1000 by decide), fun p9 n9 => ?_⟩
    have u9 := B.ne n9
    have s9 := Same.upd (o := (.tup [.ref p8])) n9
    have g9 := upd_same (H := H8) (a := p9) (o := (.tup [.ref p8]))
    generalize L2.upd H8 p9 (.tup [.ref p8]) = H9 at *
    replace R8 := up R8 s9
    replace B := B.same s9
    replace hl := s9 _ _ hl
    have R9 : Rep K (cutH t t H9) (.tup [(.tup [(.int 0), dz])]) (.ref p9) := rep_tup1 (cutH_at g9 u9) (reps_cons R8 reps_nil)
    refine ⟨small_le (show 2 ≤ 1000 by decide), fun p10 n10 => ?_⟩
    have u10 := B.ne n10
    have s10 := Same.upd (o := (.tup [.int m, .ref p9])) n10
    have g10 := upd_same (H := H9) (a := p10) (o := (.tup [.int m, .ref p9]))
    generalize L2.upd H9 p10 (.tup [.int m, .ref p9]) = H10 at *
    replace R9 := up R9 s10
    replace B := B.same s10
    replace hl := s10 _ _ hl
    have R10 : Rep K (cutH t t H10) (.tup [(.int (m : Int)), (.tup [(.tup [(.int 0), dz])])]) (.ref p10) := rep_tup1 (cutH_at g10 u10) (reps_cons rep_int (reps_cons R9 reps_nil))
    replace B := B.add (.inl ⟨(.tup [(.int (m : Int)), (.tup [(.tup [(.int 0), dz])])]), R10, ((low_cons (low_pair hz) low_nil))⟩)
    replace B := B.add (.inl ⟨.non, rep_non, trivial⟩)
    replace B := B.add (.inl ⟨(.str (Str.ofString "n")), rep_str, trivial⟩)
    refine fun p11 n11 => ?_
    have u11 := B.ne n11
    have s11 := Same.upd (o := (.dK [])) n11
    have g11 := upd_same (H := H10) (a := p11) (o := (.dK []))
    generalize L2.upd H10 p11 (.dK []) = H11 at *
    replace B := B.same s11
    replace hl := s11 _ _ hl
    replace B := B.add (.inr ⟨_, rfl, (cutH_at g11 u11)⟩)
    refine ⟨small_le (show 6 ≤ 1000 by decide), fun p12 n12 => ?_⟩
    have u12 := B.ne n12
    have s12 := Same.upd (o := (.lst [.ref p4, .ref p7, .ref p10, .non, .str (Str.ofString "n"), .ref p11])) n12
    have g12 := upd_same (H := H11) (a := p12) (o := (.lst [.ref p4, .ref p7, .ref p10, .non, .str (Str.ofString "n"), .ref p11]))
    generalize L2.upd H11 p12 (.lst [.ref p4, .ref p7, .ref p10, .non, .str (Str.ofString "n"), .ref p11]) = H12 at *
    replace B := B.same s12
    replace hl := s12 _ _ hl
    have hlen2 := hlen
    refine .inl ⟨l, p12, ys, [(.ref p4 : V), (.ref p7 : V), (.ref p10 : V), (.non : V), (.str (Str.ofString "n") : V), (.ref p11 : V)], rfl, rfl, hl, g12, small_le (by simp only [List.length_cons, List.length_nil]; omega), fun p13 n13 => ?_⟩
    have u13 := B.ne n13
    have z0 := B.fd.free B.fr n13
    have s13 := Same.upd (o := (.lst (ys ++ [.ref p4, .ref p7, .ref p10, .non, .str (Str.ofString "n"), .ref p11]))) n13
    have g13 := upd_same (H := H12) (a := p13) (o := (.lst (ys ++ [.ref p4, .ref p7, .ref p10, .non, .str (Str.ofString "n"), .ref p11])))
    generalize L2.upd H12 p13 (.lst (ys ++ [.ref p4, .ref p7, .ref p10, .non, .str (Str.ofString "n"), .ref p11])) = H13 at *
    replace B := B.new s13 n13 g13
    exact ⟨p13, _, rfl, g13, u13.1, z0, by simp only [List.length_append, List.length_cons, List.length_nil]; omega, B.re (fun x hx => by simpa only [List.mem_append, List.mem_cons, List.not_mem_nil, or_false, false_or, or_assoc] using hx)⟩
  clear B hl nl hlen ys l
  rintro σ Ha ⟨l, ys, rfl, hl, nl, z0, hlen, B⟩
  refine seq_at (fun σ H' => ∃ (ys : List V) (z7 z8 z9 : Option V), σ = [some (.ref t), some (.ref a), some (.int m), some (.ref b), some (.int S), some z, some (.ref l), z7, z8, z9] ∧ H' l = some (.lst ys) ∧ ys.length ≤ 30 ∧ Bt K t l H b (ts.map termD) z dz ys H') ?_ ?_ (by walk_at "sm")
  · obtain ⟨xs, hxs, rxs⟩ := sqs_of B.rt
    have hxl : ts.length = xs.length := by have := rxs.length; rw [List.length_map] at this; exact this
    refine ⟨ts.length, .inr ⟨xs, hxs, hxl⟩, ?_⟩
    refine ite2 (fun e => ?_) (fun e => ⟨ys, none, none, none, rfl, hl, by omega, B⟩)
    have hpos : (0 : Int) < (ts.length : Int) := of_decide_eq_true e
    refine ⟨ts.length, .inr ⟨xs, hxs, hxl⟩, B.fd, okDiv_of hpos (Int.le_trans (Int.ofNat_le.mpr htl) (by decide)), fun d H1 d0 d1 F1 f1 => ?_⟩
    obtain ⟨n0, rfl⟩ := Int.eq_ofNat_of_zero_le d0
    replace B := B.draw F1 f1
    replace hl : H1 l = some (.lst ys) := by rw [f1 l nl]; exact hl
    clear rxs hxs
    obtain ⟨xs, hxs, rxs⟩ := sqs_of B.rt
    have hxl : ts.length = xs.length := by have := rxs.length; rw [List.length_map] at this; exact this
    have hn0 : n0 < xs.length := by omega
    dsimp only [gName]
    obtain ⟨dq, hdq, rq⟩ := reps_get rxs (List.getElem?_eq_getElem hn0)
    rw [List.getElem?_map] at hdq
    obtain ⟨q0, hq0, rfl⟩ := Option.map_eq_some_iff.mp hdq
    obtain ⟨hk0, hw1, hw2⟩ := hts q0 (List.mem_of_getElem? hq0)
    obtain ⟨k0, w0⟩ := q0
    have hk0 : k0 < 64 := hk0
    have hw1 : -64 ≤ w0 := hw1
    have hw2 : w0 ≤ 64 := hw2
    obtain ⟨c, ec, _⟩ := rep_pair_inv rq
    have Rc : Rep K (cutH t l H1) (.tup [.int (k0 : Int), .int w0]) (.ref c) := by rw [← ec]; exact rq
    refine ⟨_, .ref c, .inr hxs, atI_of rfl (by rw [List.getElem?_eq_getElem hn0, ec]), ?_⟩
    dsimp only [gName]
    obtain ⟨xa1, ha1, ra1⟩ := sqs_of Rc
    refine ⟨xa1, .inr ha1, fun p1 n1 => ?_⟩
    have u1 := B.ne n1
    have s1 := Same.upd (o := (.lst xa1)) n1
    have g1 := upd_same (H := H1) (a := p1) (o := (.lst xa1))
    generalize L2.upd H1 p1 (.lst xa1) = H1 at *
    replace B := B.same s1
    replace hl := s1 _ _ hl
    replace Rc := up Rc s1
    have R1 : Rep K (cutH t l H1) (.lst [(.int (k0 : Int)), (.int w0)]) (.ref p1) := rep_lst1 (cutH_at g1 u1) (Reps.same (cutH_frm s1.frm) _ _ ra1)
    refine ⟨small_le (show 1 ≤ 1000 by decide), fun p2 n2 => ?_⟩
    have u2 := B.ne n2
    have s2 := Same.upd (o := (.tup [.int 0])) n2
    have g2 := upd_same (H := H1) (a := p2) (o := (.tup [.int 0]))
    generalize L2.upd H1 p2 (.tup [.int 0]) = H2 at *
    replace B := B.same s2
    replace hl := s2 _ _ hl
    replace Rc := up Rc s2
    replace R1 := up R1 s2
    have R2 : Rep K (cutH t l H2) (.tup [(.int 0)]) (.ref p2) := rep_tup1 (cutH_at g2 u2) (reps_cons rep_int reps_nil)
    obtain ⟨xa3, ha3, ra3⟩ := sqs_of Rc
    obtain ⟨xb3, hb3, rb3⟩ := sqs_of R2
    refine .inr ⟨xa3, xb3, ha3, hb3, by have h1 := ra3.length; have h2 := rb3.length; simp only [List.length_append, List.length_map, List.length_cons, List.length_nil, List.length_reverse] at h1 h2 ; exact small_le (by omega), fun p3 H3 s3 c3 => ?_⟩
    replace B := B.same s3
    replace hl := s3 _ _ hl
    replace Rc := up Rc s3
    replace R1 := up R1 s3
    have R3 : Rep K (cutH t l H3) (.tup ([(.int (k0 : Int)), (.int w0)] ++ [(.int 0)])) (.ref p3) := rep_tup2 (sqT_cut B.fd.lst B.fl c3) ((Reps.same (cutH_frm s3.frm) _ _ ra3).append (Reps.same (cutH_frm s3.frm) _ _ rb3))
    obtain ⟨xa4, ha4, ra4⟩ := sqs_of Rc
    refine ⟨1, rfl, xa4, ha4, fun p4 H4 s4 c4 => ?_⟩
    replace B := B.same s4
    replace hl := s4 _ _ hl
    replace Rc := up Rc s4
    replace R1 := up R1 s4
    replace R3 := up R3 s4
    have R4 : Rep K (cutH t l H4) (.tup (cutD [(.int (k0 : Int)), (.int w0)] none (some 1))) (.ref p4) := rep_tup2 (sqT_cut B.fd.lst B.fl c4) (reps_cut _ _ (Reps.same (cutH_frm s4.frm) _ _ ra4))
    refine ⟨_, _, .inr (pair_of Rc), rfl, ?_⟩
    refine ⟨small_le (show 2 ≤ 1000 by decide), fun p6 n6 => ?_⟩
    have u6 := B.ne n6
    have s6 := Same.upd (o := (.tup [.int (k0 : Int), z])) n6
    have g6 := upd_same (H := H4) (a := p6) (o := (.tup [.int (k0 : Int), z]))
    generalize L2.upd H4 p6 (.tup [.int (k0 : Int), z]) = H6 at *
    replace B := B.same s6
    replace hl := s6 _ _ hl
    replace Rc := up Rc s6
    replace R1 := up R1 s6
    replace R3 := up R3 s6
    replace R4 := up R4 s6
    have R6 : Rep K (cutH t l H6) (.tup [(.int (k0 : Int)), dz]) (.ref p6) := rep_tup1 (cutH_at g6 u6) (reps_cons rep_int (reps_cons B.rz reps_nil))
    refine ⟨_, _, .inr (pair_of Rc), rfl, ?_⟩
    refine ⟨small_le (show 2 ≤ 1000 by decide), fun p8 n8 => ?_⟩
    have u8 := B.ne n8
    have s8 := Same.upd (o := (.tup [z, .int w0])) n8
    have g8 := upd_same (H := H6) (a := p8) (o := (.tup [z, .int w0]))
    generalize L2.upd H6 p8 (.tup [z, .int w0]) = H8 at *
    replace B := B.same s8
    replace hl := s8 _ _ hl
    replace Rc := up Rc s8
    replace R1 := up R1 s8
    replace R3 := up R3 s8
    replace R4 := up R4 s8
    replace R6 := up R6 s8
    have R8 : Rep K (cutH t l H8) (.tup [dz, (.int w0)]) (.ref p8) := rep_tup1 (cutH_at g8 u8) (reps_cons B.rz (reps_cons rep_int reps_nil))
    refine ⟨_, _, .inr (pair_of Rc), rfl, ?_⟩
    refine ⟨_, _, .inr (pair_of Rc), rfl, ?_⟩
    refine ⟨small_le (show 2 ≤ 1000 by decide), fun p11 n11 => ?_⟩
    have u11 := B.ne n11
    have s11 := Same.upd (o := (.tup [.int (k0 : Int), .int (w0 + 1)])) n11
    have g11 := upd_same (H := H8) (a := p11) (o := (.tup [.int (k0 : Int), .int (w0 + 1)]))
    generalize L2.upd H8 p11 (.tup [.int (k0 : Int), .int (w0 + 1)]) = H11 at *
    replace B := B.same s11
    replace hl := s11 _ _ hl
    replace Rc := up Rc s11
    replace R1 := up R1 s11
    replace R3 := up R3 s11
    replace R4 := up R4 s11
    replace R6 := up R6 s11
    replace R8 := up R8 s11
    have R11 : Rep K (cutH t l H11) (.tup [(.int (k0 : Int)), (.int (w0 + 1))]) (.ref p11) := rep_tup1 (cutH_at g11 u11) (reps_cons rep_int (reps_cons rep_int reps_nil))
    obtain ⟨xa12, ha12, ra12⟩ := sqs_of Rc
    refine ⟨rfl, xa12, ha12, fun p12 n12 => ?_⟩
    have u12 := B.ne n12
    have s12 := Same.upd (o := (.tup xa12.reverse)) n12
    have g12 := upd_same (H := H11) (a := p12) (o := (.tup xa12.reverse))
    generalize L2.upd H11 p12 (.tup xa12.reverse) = H12 at *
    replace B := B.same s12
    replace hl := s12 _ _ hl
    replace Rc := up Rc s12
    replace R1 := up R1 s12
    replace R3 := up R3 s12
    replace R4 := up R4 s12
    replace R6 := up R6 s12
    replace R8 := up R8 s12
    replace R11 := up R11 s12
    have R12 : Rep K (cutH t l H12) (.tup ([(.int (k0 : Int)), (.int w0)]).reverse) (.ref p12) := rep_tup1 (cutH_at g12 u12) (reps_rev (Reps.same (cutH_frm s12.frm) _ _ ra12))
    refine ⟨small_le (show 7 ≤ 1000 by decide), fun pm nm => ?_⟩
    have um := B.ne nm
    have sm := Same.upd (o := (.lst [.ref p1, .ref p3, .ref p4, .ref p6, .ref p8, .ref p11, .ref p12])) nm
    have gm := upd_same (H := H12) (a := pm) (o := (.lst [.ref p1, .ref p3, .ref p4, .ref p6, .ref p8, .ref p11, .ref p12]))
    generalize L2.upd H12 pm (.lst [.ref p1, .ref p3, .ref p4, .ref p6, .ref p8, .ref p11, .ref p12]) = Hm at *
    replace B := B.same sm
    replace hl := sm _ _ hl
    replace Rc := up Rc sm
    replace R1 := up R1 sm
    replace R3 := up R3 sm
    replace R4 := up R4 sm
    replace R6 := up R6 sm
    replace R8 := up R8 sm
    replace R11 := up R11 sm
    replace R12 := up R12 sm
    have hm : ∀ y ∈ [(.ref p1 : V), (.ref p3 : V), (.ref p4 : V), (.ref p6 : V), (.ref p8 : V), (.ref p11 : V), (.ref p12 : V)], ∃ d, Rep K (cutH t l Hm) d y ∧ lowD d := by
      intro y hy
      simp only [List.mem_cons, List.not_mem_nil, or_false] at hy
      rcases hy with rfl | rfl | rfl | rfl | rfl | rfl | rfl
      · exact ⟨_, R1, trivial⟩
      · exact ⟨_, R3, trivial⟩
      · exact ⟨_, R4, trivial⟩
      · exact ⟨_, R6, (low_pair hz)⟩
      · exact ⟨_, R8, (low_pair (by show (-1000 : Int) ≤ w0 ∧ (w0 : Int) ≤ 1000; omega))⟩
      · exact ⟨_, R11, (low_pair (by show (-1000 : Int) ≤ (w0 + 1) ∧ ((w0 + 1) : Int) ≤ 1000; omega))⟩
      · exact ⟨_, R12, (low_pair (by show (-1000 : Int) ≤ (k0 : Int) ∧ ((k0 : Int) : Int) ≤ 1000; omega))⟩
    obtain ⟨ms, hms, hml⟩ : ∃ ms : List V, [(.ref p1 : V), (.ref p3 : V), (.ref p4 : V), (.ref p6 : V), (.ref p8 : V), (.ref p11 : V), (.ref p12 : V)] = ms ∧ ms.length = 7 := ⟨_, rfl, rfl⟩
    rw [hms] at hm
    replace gm : Hm pm = some (.lst ms) := by rw [← hms]; exact gm
    dsimp only [gName]
    refine ⟨.inl ⟨rfl, _, .of hl⟩, ?_⟩
    obtain ⟨xa1, ha1, ra1⟩ := sqs_of B.rt
    refine ⟨(n0 : Int), rfl, xa1, ha1, fun p1 H1 s1 c1 => ?_⟩
    replace B := B.same s1
    replace hl := s1 _ _ hl
    replace gm := s1 _ _ gm
    replace hm := fun y hy => let ⟨d, r, lo⟩ := hm y hy; (⟨d, Rep.same (cutH_frm (s1).frm) _ _ r, lo⟩ : ∃ d, Rep K _ d y ∧ lowD d)
    have R1 : Rep K (cutH t l H1) (.tup (cutD (ts.map termD) none (some (n0 : Int)))) (.ref p1) := rep_tup2 (sqT_cut B.fd.lst B.fl c1) (reps_cut _ _ (Reps.same (cutH_frm s1.frm) _ _ ra1))
    refine ⟨B.fd, okDiv_of (by decide) (by decide), fun d2 H2 d0 d1 F2 f2 => ?_⟩
    replace B := B.draw F2 f2
    replace hl : H2 l = some (.lst ys) := by rw [f2 l nl]; exact hl
    replace R1 := up_draw R1 f2
    obtain ⟨zm, hzm, hmm⟩ := atI_mem (xs := ms) d0 (by rw [hml]; exact d1)
    obtain ⟨dm, R2, hdm⟩ := hm zm hmm
    replace R2 := up_draw R2 f2
    replace gm : H2 pm = some (.lst ms) := by rw [f2 pm um.1]; exact gm
    refine ⟨_, zm, .inl (.of gm), hzm, ?_⟩
    refine ⟨small_le (show 1 ≤ 1000 by decide), fun p3 n3 => ?_⟩
    have u3 := B.ne n3
    have s3 := Same.upd (o := (.tup [zm])) n3
    have g3 := upd_same (H := H2) (a := p3) (o := (.tup [zm]))
    generalize L2.upd H2 p3 (.tup [zm]) = H3 at *
    replace R2 := up R2 s3
    replace B := B.same s3
    replace hl := s3 _ _ hl
    replace R1 := up R1 s3
    have R3 : Rep K (cutH t l H3) (.tup [dm]) (.ref p3) := rep_tup1 (cutH_at g3 u3) (reps_cons R2 reps_nil)
    obtain ⟨xa4, ha4, ra4⟩ := sqs_of R1
    obtain ⟨xb4, hb4, rb4⟩ := sqs_of R3
    have k5 := cutD_len (ts.map termD) none (some (n0 : Int))
    refine .inr ⟨xa4, xb4, ha4, hb4, by have h1 := ra4.length; have h2 := rb4.length; simp only [List.length_append, List.length_map, List.length_cons, List.length_nil, List.length_reverse] at h1 h2 k5; exact small_le (by omega), fun p4 H4 s4 c4 => ?_⟩
    replace B := B.same s4
    replace hl := s4 _ _ hl
    have R4 : Rep K (cutH t l H4) (.tup ((cutD (ts.map termD) none (some (n0 : Int))) ++ [dm])) (.ref p4) := rep_tup2 (sqT_cut B.fd.lst B.fl c4) ((Reps.same (cutH_frm s4.frm) _ _ ra4).append (Reps.same (cutH_frm s4.frm) _ _ rb4))
    obtain ⟨xa6, ha6, ra6⟩ := sqs_of B.rt
    refine ⟨((n0 : Int) + 1), rfl, xa6, ha6, fun p6 H6 s6 c6 => ?_⟩
    replace B := B.same s6
    replace hl := s6 _ _ hl
    replace R4 := up R4 s6
    have R6 : Rep K (cutH t l H6) (.tup (cutD (ts.map termD) (some ((n0 : Int) + 1)) none)) (.ref p6) := rep_tup2 (sqT_cut B.fd.lst B.fl c6) (reps_cut _ _ (Reps.same (cutH_frm s6.frm) _ _ ra6))
    obtain ⟨xa7, ha7, ra7⟩ := sqs_of R4
    obtain ⟨xb7, hb7, rb7⟩ := sqs_of R6
    have k8 := cutD_len (ts.map termD) none (some (n0 : Int))
    have k9 := cutD_len (ts.map termD) (some ((n0 : Int) + 1)) none
    refine .inr ⟨xa7, xb7, ha7, hb7, by have h1 := ra7.length; have h2 := rb7.length; simp only [List.length_append, List.length_map, List.length_cons, List.length_nil, List.length_reverse] at h1 h2 k8 k9; exact small_le (by omega), fun p7 H7 s7 c7 => ?_⟩
    replace B := B.same s7
    replace hl := s7 _ _ hl
    have R7 : Rep K (cutH t l H7) (.tup (((cutD (ts.map termD) none (some (n0 : Int))) ++ [dm]) ++ (cutD (ts.map termD) (some ((n0 : Int) + 1)) none))) (.ref p7) := rep_tup2 (sqT_cut B.fd.lst B.fl c7) ((Reps.same (cutH_frm s7.frm) _ _ ra7).append (Reps.same (cutH_frm s7.frm) _ _ rb7))
    refine ⟨small_le (show 2 ≤ 1000 by decide), fun p10 n10 => ?_⟩
    have u10 := B.ne n10
    have s10 := Same.upd (o := (.tup [.int m, .ref p7])) n10
    have g10 := upd_same (H := H7) (a := p10) (o := (.tup [.int m, .ref p7]))
    generalize L2.upd H7 p10 (.tup [.int m, .ref p7]) = H10 at *
    replace R7 := up R7 s10
    replace B := B.same s10
    replace hl := s10 _ _ hl
    have R10 : Rep K (cutH t l H10) (.tup [(.int (m : Int)), (.tup (((cutD (ts.map termD) none (some (n0 : Int))) ++ [dm]) ++ (cutD (ts.map termD) (some ((n0 : Int) + 1)) none)))]) (.ref p10) := rep_tup1 (cutH_at g10 u10) (reps_cons rep_int (reps_cons R7 reps_nil))
    replace B := B.add (.inl ⟨(.tup [(.int (m : Int)), (.tup (((cutD (ts.map termD) none (some (n0 : Int))) ++ [dm]) ++ (cutD (ts.map termD) (some ((n0 : Int) + 1)) none)))]), R10, ((low_app (low_app (cutD_sub hlow) (low_cons hdm low_nil)) (cutD_sub hlow)))⟩)
    refine ⟨ys, hl, small1000 (by omega), ?_⟩
    have len2 : (ys ++ [(.ref p10 : V)]).length ≤ 29 := by rw [List.length_append]; show ys.length + 1 ≤ 29; omega
    replace B := B.put (xs := ys ++ [(.ref p10 : V)]) nl z0
    clear hl
    have hl := upd_same (H := H10) (a := l) (o := .lst (ys ++ [(.ref p10 : V)]))
    generalize upd H10 l (.lst (ys ++ [(.ref p10 : V)])) = HB at *
    clear hm gm hlen
    generalize ys ++ [(.ref p10 : V)] = ys at *
    refine ⟨.inl ⟨rfl, _, .of hl⟩, ?_⟩
    obtain ⟨xa1, ha1, ra1⟩ := sqs_of B.rt
    refine ⟨(n0 : Int), rfl, xa1, ha1, fun p1 H1 s1 c1 => ?_⟩
    replace B := B.same s1
    replace hl := s1 _ _ hl
    have R1 : Rep K (cutH t l H1) (.tup (cutD (ts.map termD) none (some (n0 : Int)))) (.ref p1) := rep_tup2 (sqT_cut B.fd.lst B.fl c1) (reps_cut _ _ (Reps.same (cutH_frm s1.frm) _ _ ra1))
    obtain ⟨xa2, ha2, ra2⟩ := sqs_of B.rt
    refine ⟨((n0 : Int) + 1), rfl, xa2, ha2, fun p2 H2 s2 c2 => ?_⟩
    replace B := B.same s2
    replace hl := s2 _ _ hl
    replace R1 := up R1 s2
    have R2 : Rep K (cutH t l H2) (.tup (cutD (ts.map termD) (some ((n0 : Int) + 1)) none)) (.ref p2) := rep_tup2 (sqT_cut B.fd.lst B.fl c2) (reps_cut _ _ (Reps.same (cutH_frm s2.frm) _ _ ra2))
    obtain ⟨xa3, ha3, ra3⟩ := sqs_of R1
    obtain ⟨xb3, hb3, rb3⟩ := sqs_of R2
    have k4 := cutD_len (ts.map termD) none (some (n0 : Int))
    have k5 := cutD_len (ts.map termD) (some ((n0 : Int) + 1)) none
    refine .inr ⟨xa3, xb3, ha3, hb3, by have h1 := ra3.length; have h2 := rb3.length; simp only [List.length_append, List.length_map, List.length_cons, List.length_nil, List.length_reverse] at h1 h2 k4 k5; exact small_le (by omega), fun p3 H3 s3 c3 => ?_⟩
    replace B := B.same s3
    replace hl := s3 _ _ hl
    have R3 : Rep K (cutH t l H3) (.tup ((cutD (ts.map termD) none (some (n0 : Int))) ++ (cutD (ts.map termD) (some ((n0 : Int) + 1)) none))) (.ref p3) := rep_tup2 (sqT_cut B.fd.lst B.fl c3) ((Reps.same (cutH_frm s3.frm) _ _ ra3).append (Reps.same (cutH_frm s3.frm) _ _ rb3))
    refine ⟨small_le (show 2 ≤ 1000 by decide), fun p6 n6 => ?_⟩
    have u6 := B.ne n6
    have s6 := Same.upd (o := (.tup [.int m, .ref p3])) n6
    have g6 := upd_same (H := H3) (a := p6) (o := (.tup [.int m, .ref p3]))
    generalize L2.upd H3 p6 (.tup [.int m, .ref p3]) = H6 at *
    replace R3 := up R3 s6
    replace B := B.same s6
    replace hl := s6 _ _ hl
    have R6 : Rep K (cutH t l H6) (.tup [(.int (m : Int)), (.tup ((cutD (ts.map termD) none (some (n0 : Int))) ++ (cutD (ts.map termD) (some ((n0 : Int) + 1)) none)))]) (.ref p6) := rep_tup1 (cutH_at g6 u6) (reps_cons rep_int (reps_cons R3 reps_nil))
    replace B := B.add (.inl ⟨(.tup [(.int (m : Int)), (.tup ((cutD (ts.map termD) none (some (n0 : Int))) ++ (cutD (ts.map termD) (some ((n0 : Int) + 1)) none)))]), R6, ((low_app (cutD_sub hlow) (cutD_sub hlow)))⟩)
    refine ⟨ys, hl, small1000 (by omega), ?_⟩
    exact ⟨_, some (.int n0), some (.ref c), some (.ref pm), rfl, upd_same, by rw [List.length_append]; show ys.length + 1 ≤ 30; omega, B.put nl z0⟩
  clear B hl hlen ys
  rintro σ Ha ⟨ys, z7, z8, z9, rfl, hl, hlen, B⟩
  exact q l ys Ha B.fd B.fr nl hl (by omega) (fun y hy => (B.ok y hy).same cutH_le)
theorem low_sum {m : Nat} {ts : List (Nat × Int)} (h : ∀ q ∈ ts, q.1 < 64 ∧ -64 ≤ q.2 ∧ q.2 ≤ 64) : lowG (sumD m ts) := mem_term h
theorem ok_law : FnOk P w K mg base CX0 8 T.f_law T.d_law ["_law_script"] (spLaw K) := by
  have G__law_feed := ok__law_feed (P := P) (w := w) (base := base) T; have G__law_glance := ok__law_glance (P := P) (w := w) (base := base) T; have G__law_table := ok__law_table (P := P) (w := w) (base := base) T; have G__law_bent := ok__law_bent (P := P) (w := w) (base := base) T; have G_is_glance := ok_is_glance (P := P) (w := w) (base := base) T; have G__law_n := ok__law_n (P := P) (w := w) (base := base) T; have G__law_is_glance := ok__law_is_glance (P := P) (w := w) (base := base) T
  refine T.F_law.ok sc_law (fun vs H Q E h => by obtain ⟨a, ns, rfl, _⟩ := h; rfl) (fun cdv A outer s H vs Q E hr h => ?_)
  have hu := hu60 hr
  have mo1 : SpMono (sp_glmade K) := sp_glmade_mono
  have mo2 : SpMono sp_fn := sp_fn_mono
  have mo3 : SpMono sp_ftable := sp_ftable_mono
  have mo4 : SpMono (sp_bent K) := sp_bent_mono
  have mo5 : SpMono (sp_gl K) := sp_gl_mono
  have hr__law_feed := hr.mono (show 1 ≤ _ by decide); have hr__law_glance := hr.mono (show 2 ≤ _ by decide); have hr__law_table := hr.mono (show 2 ≤ _ by decide); have hr__law_bent := hr.mono (show 2 ≤ _ by decide); have hr_is_glance := hr.mono (show 7 ≤ _ by decide); have hr__law_n := hr.mono (show 2 ≤ _ by decide); have hr__law_is_glance := hr.mono (show 2 ≤ _ by decide)
  obtain ⟨a, ns, rfl, hsq, hlen, q⟩ := h
  refine ⟨_, (@pss_cons _ _ _ _ _ (@ps_for _ _ _ _ _ _ _ _ PassesOwn.never rfl (@pi_range1 _ _ _ _ _ _ rfl T.z_range (@pa_cons _ _ _ _ _ (@pe_int _ _ _ _) (@pa_nil _) (by rfl)) (by rfl)) (@pg_name _ _ 1 _ sc_law.nd rfl (by first | exact Or.inl rfl | exact Or.inr rfl) (by first | exact .inl rfl | exact .inr rfl | assumption)) (@pss_cons _ _ _ _ _ (@ps_set _ _ 2 _ _ _ _ sc_law.nd rfl (by first | exact Or.inl rfl | exact Or.inr rfl) (@pe_call _ _ _ _ _ _ _ _ _ _ _ _ _ _ _ _ G__law_feed hr__law_feed rfl T.m__law_feed T.F__law_feed.kp T.b__law_feed .nil pass0 (@pa_cons _ _ _ _ _ (@vv _ 0 _ _ (by rfl) (by first | exact Or.inl rfl | exact Or.inr (Or.inl rfl) | exact Or.inr (Or.inr rfl)) (by decide) (by decide)) (@pa_cons _ _ _ _ _ (@vv _ 1 _ _ (by rfl) (by first | exact Or.inl rfl | exact Or.inr (Or.inl rfl) | exact Or.inr (Or.inr rfl)) (by decide) (by decide)) (@pa_nil _) (by rfl)) (by rfl)) (by decide) (by rfl) (by rfl)) (by rfl) (by first | exact .inl rfl | exact .inr rfl | assumption)) (@pss_cons _ _ _ _ _ (@ps_set _ _ 3 _ _ _ _ sc_law.nd rfl (by first | exact Or.inl rfl | exact Or.inr rfl) (@pe_call _ _ _ _ _ _ _ _ _ _ _ _ _ _ _ _ G__law_glance hr__law_glance rfl T.m__law_glance T.F__law_glance.kp T.b__law_glance .nil pass0 (@pa_cons _ _ _ _ _ (@vv _ 2 _ _ (by rfl) (by first | exact Or.inl rfl | exact Or.inr (Or.inl rfl) | exact Or.inr (Or.inr rfl)) (by decide) (by decide)) (@pa_cons _ _ _ _ _ (@pe_call _ _ _ _ _ _ _ _ _ _ _ _ _ _ _ _ G__law_table hr__law_table rfl T.m__law_table T.F__law_table.kp T.b__law_table .nil pass0 (@pa_cons _ _ _ _ _ (@vv _ 2 _ _ (by rfl) (by first | exact Or.inl rfl | exact Or.inr (Or.inl rfl) | exact Or.inr (Or.inr rfl)) (by decide) (by decide)) (@pa_cons _ _ _ _ _ (@pe_call _ _ _ _ _ _ _ _ _ _ _ _ _ _ _ _ G__law_n hr__law_n rfl T.m__law_n T.F__law_n.kp T.b__law_n .nil pass0 (@pa_cons _ _ _ _ _ (@vv _ 2 _ _ (by rfl) (by first | exact Or.inl rfl | exact Or.inr (Or.inl rfl) | exact Or.inr (Or.inr rfl)) (by decide) (by decide)) (@pa_nil _) (by rfl)) (by decide) (by rfl) (by rfl)) (@pa_nil _) (by rfl)) (by rfl)) (by decide) (by rfl) (by rfl)) (@pa_nil _) (by rfl)) (by rfl)) (by decide) (by rfl) (by rfl)) (by rfl) (by first | exact .inl rfl | exact .inr rfl | assumption)) (@pss_one _ _ _ (@ps_for _ _ _ _ _ _ _ _ PassesOwn.never rfl (@kSeq _ K _ _ _ (@pe_op _ _ _ _ _ _ _ _ (kAdd (K := K)) (@pe_lst _ _ _ _ (@pa_cons _ _ _ _ _ (@vv _ 3 _ _ (by rfl) (by first | exact Or.inl rfl | exact Or.inr (Or.inl rfl) | exact Or.inr (Or.inr rfl)) (by decide) (by decide)) (@pa_nil _) (by rfl))) (@pe_call _ _ _ _ _ _ _ _ _ _ _ _ _ _ _ _ G__law_bent hr__law_bent rfl T.m__law_bent T.F__law_bent.kp T.b__law_bent .nil pass0 (@pa_cons _ _ _ _ _ (@vv _ 2 _ _ (by rfl) (by first | exact Or.inl rfl | exact Or.inr (Or.inl rfl) | exact Or.inr (Or.inr rfl)) (by decide) (by decide)) (@pa_cons _ _ _ _ _ (@vv _ 3 _ _ (by rfl) (by first | exact Or.inl rfl | exact Or.inr (Or.inl rfl) | exact Or.inr (Or.inr rfl)) (by decide) (by decide)) (@pa_nil _) (by rfl)) (by rfl)) (by decide) (by rfl) (by rfl))) (by rfl)) (@pg_name _ _ 4 _ sc_law.nd rfl (by first | exact Or.inl rfl | exact Or.inr rfl) (by first | exact .inl rfl | exact .inr rfl | assumption)) (@pss_cons _ _ _ _ _ (@ps_set _ _ 5 _ _ _ _ sc_law.nd rfl (by first | exact Or.inl rfl | exact Or.inr rfl) (@pe_call _ _ _ _ _ _ _ _ _ _ _ _ _ _ _ _ G_is_glance hr_is_glance rfl T.m_is_glance T.F_is_glance.kp T.b_is_glance .nil pass0 (@pa_cons _ _ _ _ _ (@vv _ 4 _ _ (by rfl) (by first | exact Or.inl rfl | exact Or.inr (Or.inl rfl) | exact Or.inr (Or.inr rfl)) (by decide) (by decide)) (@pa_nil _) (by rfl)) (by decide) (by rfl) (by rfl)) (by rfl) (by first | exact .inl rfl | exact .inr rfl | assumption)) (@pss_one _ _ _ (@ps_if _ _ _ _ _ _ _ _ (PW.pt (@pw_or _ _ _ _ _ _ _ (@pt_not _ _ _ _ (@tu_val _ _ _ (@pe_callB _ _ _ _ _ _ _ _ _ (kIsi (K := K)) rfl T.z_isinstance (by rfl) (@pa_cons _ _ _ _ _ (@vv _ 5 _ _ (by rfl) (by first | exact Or.inl rfl | exact Or.inr (Or.inl rfl) | exact Or.inr (Or.inr rfl)) (by decide) (by decide)) (@pa_cons _ _ _ _ _ (@pe_bltn _ _ (.ty "bool") _ _ rfl T.z_bool (by rfl) rfl (by decide) (by decide)) (@pa_nil _) (by rfl)) (by rfl)) (by decide) (by decide) (by rfl) (by rfl)) (by intro _; rfl))) (@pw_or1 _ _ _ _ (@tu_cmp _ _ _ _ _ _ _ _ (kNe (K := K) hu) (@vv _ 5 _ _ (by rfl) (by first | exact Or.inl rfl | exact Or.inr (Or.inl rfl) | exact Or.inr (Or.inr rfl)) (by decide) (by decide)) (@pe_call _ _ _ _ _ _ _ _ _ _ _ _ _ _ _ _ G__law_is_glance hr__law_is_glance rfl T.m__law_is_glance T.F__law_is_glance.kp T.b__law_is_glance .nil pass0 (@pa_cons _ _ _ _ _ (@vv _ 4 _ _ (by rfl) (by first | exact Or.inl rfl | exact Or.inr (Or.inl rfl) | exact Or.inr (Or.inr rfl)) (by decide) (by decide)) (@pa_nil _) (by rfl)) (by decide) (by rfl) (by rfl)) (by first | exact nobehind _ (by decide) (by decide) | rfl))))) (@pss_one _ _ _ (@ps_ret _ _ _ _ (@pe_bl _ _ _ _))) (@pss_nil _)))) (by intro _; rfl))))) (by intro _; rfl)) (@pss_one _ _ _ (@ps_ret _ _ _ _ (@pe_bl _ _ _ _)))), ?_⟩
  refine ⟨3, rfl, by decide, by decide, ?_⟩
  refine for_range (fun i σ H' => ∃ z1 z2 z3 z4 z5 : Option V, σ = [some (.ref a), z1, z2, z3, z4, z5] ∧ Same H H') ⟨none, none, none, none, none, rfl, Same.refl _⟩ ?_ (fun σ H' _ => q H')
  rintro i σ H0 hi ⟨z1, z2, z3, z4, z5, rfl, S0⟩
  refine ⟨ns, S0.sqL hsq, fun t H1 ht F1 f1 => ?_⟩
  have S1 : Same H0 H1 := same_but (Same.refl _) ht f1
  dsimp only [gName]
  refine ⟨F1, fun m H2 m1 m6 F2 f2 => ⟨m, F2, rfl, m1, m6, fun bs tb H3 hb n3 g3 F3 fr3 => ?_⟩⟩
  have S2 : Same H0 H2 := same_but S1 ht f2
  have S3 : Same H0 H3 := same_frm S2 ht fr3
  refine ⟨m, bs, F3, m1, m6, hb, g3, fun v ts H4 F4 fr4 SV htl hts => ?_⟩
  have S4 : Same H0 H4 := same_frm S3 ht fr4
  dsimp only [gName]
  refine ⟨small_le (show 1 ≤ 1000 by decide), fun p np => ?_⟩
  have s5 := Same.upd (o := .lst [v]) np
  have g5 := upd_same (H := H4) (a := p) (o := .lst [v])
  have n5 := F4.neT np
  generalize upd H4 p (.lst [v]) = H5 at *
  have F5 := F4.same s5
  obtain ⟨ga, gb, us, rfl, ha, hb5, hR⟩ := SV.at_
  have rv : Rep K H5 (sumD m ts) (.ref ga) := Rep.same s5 _ _ (rep_tup2 ha (reps_cons rep_int (reps_cons (rep_tup2 hb5 hR) reps_nil)))
  have SV5 : SumAt K H5 (.ref ga) m ts := .of rv
  refine ⟨m, ts, F5, m1, m6, SV5, htl, hts, fun l ys H6 F6 fr6 nl hl hyl ok => ?_⟩
  have S6 : Same H0 H6 := same_frm (S4.trans s5) ht fr6
  have g6 := fr6 _ _ n5 g5
  refine .inl ⟨p, l, _, ys, rfl, rfl, g6, hl, small_le (by show 1 + ys.length ≤ 1000; omega), fun r nr => .inl ⟨⟨_, .inl (.of upd_same)⟩, ?_⟩⟩
  have ok7 : ∀ y ∈ [V.ref ga] ++ ys, Odd K (upd H6 r (.lst ([V.ref ga] ++ ys))) y := fun y hy => by
    rcases List.mem_append.mp hy with h' | h'
    · rw [List.mem_singleton] at h'
      subst h'
      exact .inl ⟨_, Rep.same (Same.upd nr) _ _ (Rep.frm fr6 F5.lst _ _ (by unfold sumD tupOnly tupsOnly tupOnly tupsOnly tupOnly; rw [tups_term]; rfl) rv), low_sum hts⟩
    · exact (ok y h').same (Same.upd nr)
  have S7 : Same H (upd H6 r (.lst ([V.ref ga] ++ ys))) := S0.trans (S6.trans (Same.upd nr))
  have g7 := upd_same (H := H6) (a := r) (o := .lst ([V.ref ga] ++ ys))
  generalize upd H6 r (.lst ([V.ref ga] ++ ys)) = H7 at *
  generalize [V.ref ga] ++ ys = ws at *
  refine for_list (xs := ws) (fun i' σ H' => (∃ y1 y2 : Option V, σ = [some (.ref a), some (.int (0 + (i : Int))), some (.ref t), some (.ref ga), y1, y2]) ∧ Same H7 H') ⟨⟨z4, z5, rfl⟩, Same.refl _⟩ (fun i σ H' _ ⟨_, e⟩ => .inl (.of (e _ _ g7))) ?_ ?_
  · rintro i' x σ H' hx ⟨⟨y1, y2, rfl⟩, s'⟩
    have ox := (ok7 x (List.mem_of_getElem? hx)).same s'
    rcases ox with ⟨d, rd, lo⟩ | ⟨da, rfl, hd⟩
    · refine .inl ⟨d, rd, lo, fun H'' s'' => ?_⟩
      refine ⟨by decide, true, rfl, ?_⟩
      refine .inl ⟨d, Rep.same s'' _ _ rd, lo, fun H3' s3 => ?_⟩
      have e0 : (true ^^ (glB d == glB d)) = false := by simp
      refine ite2 (fun e => absurd (e0 ▸ e) (by decide)) (fun e => ⟨⟨_, _, rfl⟩, s'.trans (s''.trans s3)⟩)
    · refine .inr ⟨da, [], rfl, hd, fun H'' s'' => ?_⟩
      refine ⟨by decide, true, rfl, ?_⟩
      exact .inr ⟨da, [], rfl, s'' _ _ hd, fun H3' s3 => ⟨⟨_, _, rfl⟩, s'.trans (s''.trans s3)⟩⟩
  · rintro σ H' ⟨⟨y1, y2, rfl⟩, s'⟩
    exact ⟨_, _, _, _, _, rfl, S7.trans s'⟩
end
theorem all_mk {l : PySem.W.OpenLaw} {w : World} {K : PySem.W.Frag} {h : Heap} {mg : Str → Option Value} {fa : Addr} (X : K.In h) (G : h.Ns mainGlobals mg) (hfa : mg "law" = some (.ref fa))
    {f0 : Addr} {oc0 kV0 dc0 pm0 cd0 ct0 : Value} {od0 an0 : Option Addr} {sl0 : Array (Option Value)}
    {f1 : Addr} {oc1 kV1 dc1 pm1 cd1 ct1 : Value} {od1 an1 : Option Addr} {sl1 : Array (Option Value)}
    {f2 : Addr} {oc2 kV2 dc2 pm2 cd2 ct2 : Value} {od2 an2 : Option Addr} {sl2 : Array (Option Value)}
    {f3 : Addr} {oc3 kV3 dc3 pm3 cd3 ct3 : Value} {od3 an3 : Option Addr} {sl3 : Array (Option Value)}
    {f4 : Addr} {oc4 kV4 dc4 pm4 cd4 ct4 : Value} {od4 an4 : Option Addr} {sl4 : Array (Option Value)}
    {f5 : Addr} {oc5 kV5 dc5 pm5 cd5 ct5 : Value} {od5 an5 : Option Addr} {sl5 : Array (Option Value)}
    {f6 : Addr} {oc6 kV6 dc6 pm6 cd6 ct6 : Value} {od6 an6 : Option Addr} {sl6 : Array (Option Value)}
    {f7 : Addr} {oc7 kV7 dc7 pm7 cd7 ct7 : Value} {od7 an7 : Option Addr} {sl7 : Array (Option Value)}
    {f8 : Addr} {oc8 kV8 dc8 pm8 cd8 ct8 : Value} {od8 an8 : Option Addr} {sl8 : Array (Option Value)}
    {f9 : Addr} {oc9 kV9 dc9 pm9 cd9 ct9 : Value} {od9 an9 : Option Addr} {sl9 : Array (Option Value)}
    {f10 : Addr} {oc10 kV10 dc10 pm10 cd10 ct10 : Value} {od10 an10 : Option Addr} {sl10 : Array (Option Value)}
    {f11 : Addr} {oc11 kV11 dc11 pm11 cd11 ct11 : Value} {od11 an11 : Option Addr} {sl11 : Array (Option Value)}
    {f12 : Addr} {oc12 kV12 dc12 pm12 cd12 ct12 : Value} {od12 an12 : Option Addr} {sl12 : Array (Option Value)}
    {f13 : Addr} {oc13 kV13 dc13 pm13 cd13 ct13 : Value} {od13 an13 : Option Addr} {sl13 : Array (Option Value)}
    {f14 : Addr} {oc14 kV14 dc14 pm14 cd14 ct14 : Value} {od14 an14 : Option Addr} {sl14 : Array (Option Value)}
    {f15 : Addr} {oc15 kV15 dc15 pm15 cd15 ct15 : Value} {od15 an15 : Option Addr} {sl15 : Array (Option Value)}
    {f16 : Addr} {oc16 kV16 dc16 pm16 cd16 ct16 : Value} {od16 an16 : Option Addr} {sl16 : Array (Option Value)}
    {f17 : Addr} {oc17 kV17 dc17 pm17 cd17 ct17 : Value} {od17 an17 : Option Addr} {sl17 : Array (Option Value)}
    {f18 : Addr} {oc18 kV18 dc18 pm18 cd18 ct18 : Value} {od18 an18 : Option Addr} {sl18 : Array (Option Value)}
    {f19 : Addr} {oc19 kV19 dc19 pm19 cd19 ct19 : Value} {od19 an19 : Option Addr} {sl19 : Array (Option Value)}
    {f20 : Addr} {oc20 kV20 dc20 pm20 cd20 ct20 : Value} {od20 an20 : Option Addr} {sl20 : Array (Option Value)}
    {f21 : Addr} {oc21 kV21 dc21 pm21 cd21 ct21 : Value} {od21 an21 : Option Addr} {sl21 : Array (Option Value)}
    {f22 : Addr} {oc22 kV22 dc22 pm22 cd22 ct22 : Value} {od22 an22 : Option Addr} {sl22 : Array (Option Value)}
    {t_MOST_SWITCHES : Tok}
    (a0 : PySem.W.nsIn K mainGlobals "is_whole" = some (some (.ref f0)))
    (l0 : K.lookup f0 = some ⟨oc0, od0, .func (PySem.W.fnOf "is_whole" "is_whole" (defArgs s_is_whole) (defBody s_is_whole) (defScope s_is_whole) .none kV0 dc0 pm0 an0 cd0 ct0), sl0⟩)
    (c0 : PySem.W.codeIn K cd0 "is_whole" = true)
    (k0 : PySem.W.keepIn K (.ref f0) = true)
    (a1 : PySem.W.nsIn K mainGlobals "is_below" = some (some (.ref f1)))
    (l1 : K.lookup f1 = some ⟨oc1, od1, .func (PySem.W.fnOf "is_below" "is_below" (defArgs s_is_below) (defBody s_is_below) (defScope s_is_below) .none kV1 dc1 pm1 an1 cd1 ct1), sl1⟩)
    (c1 : PySem.W.codeIn K cd1 "is_below" = true)
    (k1 : PySem.W.keepIn K (.ref f1) = true)
    (a2 : PySem.W.nsIn K mainGlobals "two_to" = some (some (.ref f2)))
    (l2 : K.lookup f2 = some ⟨oc2, od2, .func (PySem.W.fnOf "two_to" "two_to" (defArgs s_two_to) (defBody s_two_to) (defScope s_two_to) .none kV2 dc2 pm2 an2 cd2 ct2), sl2⟩)
    (c2 : PySem.W.codeIn K cd2 "two_to" = true)
    (k2 : PySem.W.keepIn K (.ref f2) = true)
    (a3 : PySem.W.nsIn K mainGlobals "power_of" = some (some (.ref f3)))
    (l3 : K.lookup f3 = some ⟨oc3, od3, .func (PySem.W.fnOf "power_of" "power_of" (defArgs s_power_of) (defBody s_power_of) (defScope s_power_of) .none kV3 dc3 pm3 an3 cd3 ct3), sl3⟩)
    (c3 : PySem.W.codeIn K cd3 "power_of" = true)
    (k3 : PySem.W.keepIn K (.ref f3) = true)
    (a4 : PySem.W.nsIn K mainGlobals "is_place" = some (some (.ref f4)))
    (l4 : K.lookup f4 = some ⟨oc4, od4, .func (PySem.W.fnOf "is_place" "is_place" (defArgs s_is_place) (defBody s_is_place) (defScope s_is_place) .none kV4 dc4 pm4 an4 cd4 ct4), sl4⟩)
    (c4 : PySem.W.codeIn K cd4 "is_place" = true)
    (k4 : PySem.W.keepIn K (.ref f4) = true)
    (a5 : PySem.W.nsIn K mainGlobals "has_terms" = some (some (.ref f5)))
    (l5 : K.lookup f5 = some ⟨oc5, od5, .func (PySem.W.fnOf "has_terms" "has_terms" (defArgs s_has_terms) (defBody s_has_terms) (defScope s_has_terms) .none kV5 dc5 pm5 an5 cd5 ct5), sl5⟩)
    (c5 : PySem.W.codeIn K cd5 "has_terms" = true)
    (k5 : PySem.W.keepIn K (.ref f5) = true)
    (a6 : PySem.W.nsIn K mainGlobals "is_pair" = some (some (.ref f6)))
    (l6 : K.lookup f6 = some ⟨oc6, od6, .func (PySem.W.fnOf "is_pair" "is_pair" (defArgs s_is_pair) (defBody s_is_pair) (defScope s_is_pair) .none kV6 dc6 pm6 an6 cd6 ct6), sl6⟩)
    (c6 : PySem.W.codeIn K cd6 "is_pair" = true)
    (k6 : PySem.W.keepIn K (.ref f6) = true)
    (a7 : PySem.W.nsIn K mainGlobals "are_terms" = some (some (.ref f7)))
    (l7 : K.lookup f7 = some ⟨oc7, od7, .func (PySem.W.fnOf "are_terms" "are_terms" (defArgs s_are_terms) (defBody s_are_terms) (defScope s_are_terms) .none kV7 dc7 pm7 an7 cd7 ct7), sl7⟩)
    (c7 : PySem.W.codeIn K cd7 "are_terms" = true)
    (k7 : PySem.W.keepIn K (.ref f7) = true)
    (a8 : PySem.W.nsIn K mainGlobals "is_term" = some (some (.ref f8)))
    (l8 : K.lookup f8 = some ⟨oc8, od8, .func (PySem.W.fnOf "is_term" "is_term" (defArgs s_is_term) (defBody s_is_term) (defScope s_is_term) .none kV8 dc8 pm8 an8 cd8 ct8), sl8⟩)
    (c8 : PySem.W.codeIn K cd8 "is_term" = true)
    (k8 : PySem.W.keepIn K (.ref f8) = true)
    (a9 : PySem.W.nsIn K mainGlobals "squares" = some (some (.ref f9)))
    (l9 : K.lookup f9 = some ⟨oc9, od9, .func (PySem.W.fnOf "squares" "squares" (defArgs s_squares) (defBody s_squares) (defScope s_squares) .none kV9 dc9 pm9 an9 cd9 ct9), sl9⟩)
    (c9 : PySem.W.codeIn K cd9 "squares" = true)
    (k9 : PySem.W.keepIn K (.ref f9) = true)
    (a10 : PySem.W.nsIn K mainGlobals "is_glance" = some (some (.ref f10)))
    (l10 : K.lookup f10 = some ⟨oc10, od10, .func (PySem.W.fnOf "is_glance" "is_glance" (defArgs s_is_glance) (defBody s_is_glance) (defScope s_is_glance) .none kV10 dc10 pm10 an10 cd10 ct10), sl10⟩)
    (c10 : PySem.W.codeIn K cd10 "is_glance" = true)
    (k10 : PySem.W.keepIn K (.ref f10) = true)
    (a11 : PySem.W.nsIn K mainGlobals "rest_of" = some (some (.ref f11)))
    (l11 : K.lookup f11 = some ⟨oc11, od11, .func (PySem.W.fnOf "rest_of" "rest_of" (defArgs s_rest_of) (defBody s_rest_of) (defScope s_rest_of) .none kV11 dc11 pm11 an11 cd11 ct11), sl11⟩)
    (c11 : PySem.W.codeIn K cd11 "rest_of" = true)
    (k11 : PySem.W.keepIn K (.ref f11) = true)
    (a12 : PySem.W.nsIn K mainGlobals "_law_feed" = some (some (.ref f12)))
    (l12 : K.lookup f12 = some ⟨oc12, od12, .func (PySem.W.fnOf "_law_feed" "_law_feed" (defArgs s__law_feed) (defBody s__law_feed) (defScope s__law_feed) .none kV12 dc12 pm12 an12 cd12 ct12), sl12⟩)
    (c12 : PySem.W.codeIn K cd12 "_law_feed" = true)
    (k12 : PySem.W.keepIn K (.ref f12) = true)
    (a13 : PySem.W.nsIn K mainGlobals "_law_draw" = some (some (.ref f13)))
    (l13 : K.lookup f13 = some ⟨oc13, od13, .func (PySem.W.fnOf "_law_draw" "_law_draw" (defArgs s__law_draw) (defBody s__law_draw) (defScope s__law_draw) .none kV13 dc13 pm13 an13 cd13 ct13), sl13⟩)
    (c13 : PySem.W.codeIn K cd13 "_law_draw" = true)
    (k13 : PySem.W.keepIn K (.ref f13) = true)
    (a14 : PySem.W.nsIn K mainGlobals "_law_n" = some (some (.ref f14)))
    (l14 : K.lookup f14 = some ⟨oc14, od14, .func (PySem.W.fnOf "_law_n" "_law_n" (defArgs s__law_n) (defBody s__law_n) (defScope s__law_n) .none kV14 dc14 pm14 an14 cd14 ct14), sl14⟩)
    (c14 : PySem.W.codeIn K cd14 "_law_n" = true)
    (k14 : PySem.W.keepIn K (.ref f14) = true)
    (a15 : PySem.W.nsIn K mainGlobals "_law_many" = some (some (.ref f15)))
    (l15 : K.lookup f15 = some ⟨oc15, od15, .func (PySem.W.fnOf "_law_many" "_law_many" (defArgs s__law_many) (defBody s__law_many) (defScope s__law_many) .none kV15 dc15 pm15 an15 cd15 ct15), sl15⟩)
    (c15 : PySem.W.codeIn K cd15 "_law_many" = true)
    (k15 : PySem.W.keepIn K (.ref f15) = true)
    (a16 : PySem.W.nsIn K mainGlobals "_law_table" = some (some (.ref f16)))
    (l16 : K.lookup f16 = some ⟨oc16, od16, .func (PySem.W.fnOf "_law_table" "_law_table" (defArgs s__law_table) (defBody s__law_table) (defScope s__law_table) .none kV16 dc16 pm16 an16 cd16 ct16), sl16⟩)
    (c16 : PySem.W.codeIn K cd16 "_law_table" = true)
    (k16 : PySem.W.keepIn K (.ref f16) = true)
    (a17 : PySem.W.nsIn K mainGlobals "_law_sum" = some (some (.ref f17)))
    (l17 : K.lookup f17 = some ⟨oc17, od17, .func (PySem.W.fnOf "_law_sum" "_law_sum" (defArgs s__law_sum) (defBody s__law_sum) (defScope s__law_sum) .none kV17 dc17 pm17 an17 cd17 ct17), sl17⟩)
    (c17 : PySem.W.codeIn K cd17 "_law_sum" = true)
    (k17 : PySem.W.keepIn K (.ref f17) = true)
    (a18 : PySem.W.nsIn K mainGlobals "_law_glance" = some (some (.ref f18)))
    (l18 : K.lookup f18 = some ⟨oc18, od18, .func (PySem.W.fnOf "_law_glance" "_law_glance" (defArgs s__law_glance) (defBody s__law_glance) (defScope s__law_glance) .none kV18 dc18 pm18 an18 cd18 ct18), sl18⟩)
    (c18 : PySem.W.codeIn K cd18 "_law_glance" = true)
    (k18 : PySem.W.keepIn K (.ref f18) = true)
    (a19 : PySem.W.nsIn K mainGlobals "_law_within" = some (some (.ref f19)))
    (l19 : K.lookup f19 = some ⟨oc19, od19, .func (PySem.W.fnOf "_law_within" "_law_within" (defArgs s__law_within) (defBody s__law_within) (defScope s__law_within) .none kV19 dc19 pm19 an19 cd19 ct19), sl19⟩)
    (c19 : PySem.W.codeIn K cd19 "_law_within" = true)
    (k19 : PySem.W.keepIn K (.ref f19) = true)
    (a20 : PySem.W.nsIn K mainGlobals "_law_is_glance" = some (some (.ref f20)))
    (l20 : K.lookup f20 = some ⟨oc20, od20, .func (PySem.W.fnOf "_law_is_glance" "_law_is_glance" (defArgs s__law_is_glance) (defBody s__law_is_glance) (defScope s__law_is_glance) .none kV20 dc20 pm20 an20 cd20 ct20), sl20⟩)
    (c20 : PySem.W.codeIn K cd20 "_law_is_glance" = true)
    (k20 : PySem.W.keepIn K (.ref f20) = true)
    (a21 : PySem.W.nsIn K mainGlobals "_law_bent" = some (some (.ref f21)))
    (l21 : K.lookup f21 = some ⟨oc21, od21, .func (PySem.W.fnOf "_law_bent" "_law_bent" (defArgs s__law_bent) (defBody s__law_bent) (defScope s__law_bent) .none kV21 dc21 pm21 an21 cd21 ct21), sl21⟩)
    (c21 : PySem.W.codeIn K cd21 "_law_bent" = true)
    (k21 : PySem.W.keepIn K (.ref f21) = true)
    (a22 : PySem.W.nsIn K mainGlobals "law" = some (some (.ref f22)))
    (l22 : K.lookup f22 = some ⟨oc22, od22, .func (PySem.W.fnOf "law" "law" (defArgs s_law) (defBody s_law) (defScope s_law) .none kV22 dc22 pm22 an22 cd22 ct22), sl22⟩)
    (c22 : PySem.W.codeIn K cd22 "law" = true)
    (k22 : PySem.W.keepIn K (.ref f22) = true)
    (z_bool : PySem.W.nsIn K mainGlobals "bool" = some none)
    (z_dict : PySem.W.nsIn K mainGlobals "dict" = some none)
    (z_int : PySem.W.nsIn K mainGlobals "int" = some none)
    (z_isinstance : PySem.W.nsIn K mainGlobals "isinstance" = some none)
    (z_len : PySem.W.nsIn K mainGlobals "len" = some none)
    (z_list : PySem.W.nsIn K mainGlobals "list" = some none)
    (z_max : PySem.W.nsIn K mainGlobals "max" = some none)
    (z_range : PySem.W.nsIn K mainGlobals "range" = some none)
    (z_sum : PySem.W.nsIn K mainGlobals "sum" = some none)
    (z_tuple : PySem.W.nsIn K mainGlobals "tuple" = some none)
    (c_MOST_SWITCHES : PySem.W.nsIn K mainGlobals "MOST_SWITCHES" = some (some (.int 6 t_MOST_SWITCHES))) :
    ∃ fd : FuncData, (∀ (s : Shared) (v : Value), BindsTo s fd ⟨[v], []⟩ [("_law_script", v)]) ∧ ∀ base : Heap, K.In base → base.Ns mainGlobals mg → FnOk l.prog w K mg base CX0 8 fa fd ["_law_script"] (spLaw K) := by
  have e := hfa.symm.trans (PySem.W.mg_of X G a22)
  cases e
  have F0 := fun_mk (st := s_is_whole) l0 c0 k0
  have b0 := F0.binds (ps := ["thing"]) fun _ _ _ _ _ _ => L2.on1 (fun _ => rfl)
  have F1 := fun_mk (st := s_is_below) l1 c1 k1
  have b1 := F1.binds (ps := ["bound", "thing"]) fun _ _ _ _ _ _ => L2.on2 (fun _ _ => rfl)
  have F2 := fun_mk (st := s_two_to) l2 c2 k2
  have b2 := F2.binds (ps := ["n"]) fun _ _ _ _ _ _ => L2.on1 (fun _ => rfl)
  have F3 := fun_mk (st := s_power_of) l3 c3 k3
  have b3 := F3.binds (ps := ["base", "times"]) fun _ _ _ _ _ _ => L2.on2 (fun _ _ => rfl)
  have F4 := fun_mk (st := s_is_place) l4 c4 k4
  have b4 := F4.binds (ps := ["n", "thing"]) fun _ _ _ _ _ _ => L2.on2 (fun _ _ => rfl)
  have F5 := fun_mk (st := s_has_terms) l5 c5 k5
  have b5 := F5.binds (ps := ["thing"]) fun _ _ _ _ _ _ => L2.on1 (fun _ => rfl)
  have F6 := fun_mk (st := s_is_pair) l6 c6 k6
  have b6 := F6.binds (ps := ["thing"]) fun _ _ _ _ _ _ => L2.on1 (fun _ => rfl)
  have F7 := fun_mk (st := s_are_terms) l7 c7 k7
  have b7 := F7.binds (ps := ["n", "terms"]) fun _ _ _ _ _ _ => L2.on2 (fun _ _ => rfl)
  have F8 := fun_mk (st := s_is_term) l8 c8 k8
  have b8 := F8.binds (ps := ["n", "thing"]) fun _ _ _ _ _ _ => L2.on2 (fun _ _ => rfl)
  have F9 := fun_mk (st := s_squares) l9 c9 k9
  have b9 := F9.binds (ps := ["one"]) fun _ _ _ _ _ _ => L2.on1 (fun _ => rfl)
  have F10 := fun_mk (st := s_is_glance) l10 c10 k10
  have b10 := F10.binds (ps := ["thing"]) fun _ _ _ _ _ _ => L2.on1 (fun _ => rfl)
  have F11 := fun_mk (st := s_rest_of) l11 c11 k11
  have b11 := F11.binds (ps := ["glance"]) fun _ _ _ _ _ _ => L2.on1 (fun _ => rfl)
  have F12 := fun_mk (st := s__law_feed) l12 c12 k12
  have b12 := F12.binds (ps := ["_law_script", "_law_k"]) fun _ _ _ _ _ _ => L2.on2 (fun _ _ => rfl)
  have F13 := fun_mk (st := s__law_draw) l13 c13 k13
  have b13 := F13.binds (ps := ["_law_feed_here", "_law_many_here"]) fun _ _ _ _ _ _ => L2.on2 (fun _ _ => rfl)
  have F14 := fun_mk (st := s__law_n) l14 c14 k14
  have b14 := F14.binds (ps := ["_law_feed_here"]) fun _ _ _ _ _ _ => L2.on1 (fun _ => rfl)
  have F15 := fun_mk (st := s__law_many) l15 c15 k15
  have b15 := F15.binds (ps := ["_law_number"]) fun _ _ _ _ _ _ => L2.on1 (fun _ => rfl)
  have F16 := fun_mk (st := s__law_table) l16 c16 k16
  have b16 := F16.binds (ps := ["_law_feed_here", "_law_n_here"]) fun _ _ _ _ _ _ => L2.on2 (fun _ _ => rfl)
  have F17 := fun_mk (st := s__law_sum) l17 c17 k17
  have b17 := F17.binds (ps := ["_law_table_here"]) fun _ _ _ _ _ _ => L2.on1 (fun _ => rfl)
  have F18 := fun_mk (st := s__law_glance) l18 c18 k18
  have b18 := F18.binds (ps := ["_law_feed_here", "_law_table_here"]) fun _ _ _ _ _ _ => L2.on2 (fun _ _ => rfl)
  have F19 := fun_mk (st := s__law_within) l19 c19 k19
  have b19 := F19.binds (ps := ["_law_thing", "_law_least", "_law_greatest"]) fun _ _ _ _ _ _ => L2.on3 (fun _ _ _ => rfl)
  have F20 := fun_mk (st := s__law_is_glance) l20 c20 k20
  have b20 := F20.binds (ps := ["_law_thing"]) fun _ _ _ _ _ _ => L2.on1 (fun _ => rfl)
  have F21 := fun_mk (st := s__law_bent) l21 c21 k21
  have b21 := F21.binds (ps := ["_law_feed_here", "_law_glance_here"]) fun _ _ _ _ _ _ => L2.on2 (fun _ _ => rfl)
  have F22 := fun_mk (st := s_law) l22 c22 k22
  have b22 := F22.binds (ps := ["_law_script"]) fun _ _ _ _ _ _ => L2.on1 (fun _ => rfl)
  let T : Txt K mg := { f_is_whole := f0, d_is_whole := _, F_is_whole := F0, b_is_whole := b0, m_is_whole := PySem.W.mg_of X G a0, f_is_below := f1, d_is_below := _, F_is_below := F1, b_is_below := b1, m_is_below := PySem.W.mg_of X G a1, f_two_to := f2, d_two_to := _, F_two_to := F2, b_two_to := b2, m_two_to := PySem.W.mg_of X G a2, f_power_of := f3, d_power_of := _, F_power_of := F3, b_power_of := b3, m_power_of := PySem.W.mg_of X G a3, f_is_place := f4, d_is_place := _, F_is_place := F4, b_is_place := b4, m_is_place := PySem.W.mg_of X G a4, f_has_terms := f5, d_has_terms := _, F_has_terms := F5, b_has_terms := b5, m_has_terms := PySem.W.mg_of X G a5, f_is_pair := f6, d_is_pair := _, F_is_pair := F6, b_is_pair := b6, m_is_pair := PySem.W.mg_of X G a6, f_are_terms := f7, d_are_terms := _, F_are_terms := F7, b_are_terms := b7, m_are_terms := PySem.W.mg_of X G a7, f_is_term := f8, d_is_term := _, F_is_term := F8, b_is_term := b8, m_is_term := PySem.W.mg_of X G a8, f_squares := f9, d_squares := _, F_squares := F9, b_squares := b9, m_squares := PySem.W.mg_of X G a9, f_is_glance := f10, d_is_glance := _, F_is_glance := F10, b_is_glance := b10, m_is_glance := PySem.W.mg_of X G a10, f_rest_of := f11, d_rest_of := _, F_rest_of := F11, b_rest_of := b11, m_rest_of := PySem.W.mg_of X G a11, f__law_feed := f12, d__law_feed := _, F__law_feed := F12, b__law_feed := b12, m__law_feed := PySem.W.mg_of X G a12, f__law_draw := f13, d__law_draw := _, F__law_draw := F13, b__law_draw := b13, m__law_draw := PySem.W.mg_of X G a13, f__law_n := f14, d__law_n := _, F__law_n := F14, b__law_n := b14, m__law_n := PySem.W.mg_of X G a14, f__law_many := f15, d__law_many := _, F__law_many := F15, b__law_many := b15, m__law_many := PySem.W.mg_of X G a15, f__law_table := f16, d__law_table := _, F__law_table := F16, b__law_table := b16, m__law_table := PySem.W.mg_of X G a16, f__law_sum := f17, d__law_sum := _, F__law_sum := F17, b__law_sum := b17, m__law_sum := PySem.W.mg_of X G a17, f__law_glance := f18, d__law_glance := _, F__law_glance := F18, b__law_glance := b18, m__law_glance := PySem.W.mg_of X G a18, f__law_within := f19, d__law_within := _, F__law_within := F19, b__law_within := b19, m__law_within := PySem.W.mg_of X G a19, f__law_is_glance := f20, d__law_is_glance := _, F__law_is_glance := F20, b__law_is_glance := b20, m__law_is_glance := PySem.W.mg_of X G a20, f__law_bent := f21, d__law_bent := _, F__law_bent := F21, b__law_bent := b21, m__law_bent := PySem.W.mg_of X G a21, f_law := fa, d_law := _, F_law := F22, b_law := b22, m_law := PySem.W.mg_of X G a22, z_bool := PySem.W.mg_none_of X G z_bool, z_dict := PySem.W.mg_none_of X G z_dict, z_int := PySem.W.mg_none_of X G z_int, z_isinstance := PySem.W.mg_none_of X G z_isinstance, z_len := PySem.W.mg_none_of X G z_len, z_list := PySem.W.mg_none_of X G z_list, z_max := PySem.W.mg_none_of X G z_max, z_range := PySem.W.mg_none_of X G z_range, z_sum := PySem.W.mg_none_of X G z_sum, z_tuple := PySem.W.mg_none_of X G z_tuple, t_MOST_SWITCHES := t_MOST_SWITCHES, c_MOST_SWITCHES := PySem.W.mg_of X G c_MOST_SWITCHES }
  exact ⟨PySem.W.fnOf "law" "law" (defArgs s_law) (defBody s_law) (defScope s_law) .none kV22 dc22 pm22 an22 cd22 ct22, fun s v => .of_eq rfl, fun base _ _ => ok_law T⟩
theorem walk {l : PySem.W.OpenLaw} {q : Program} {loose : List Str} {XP : (Str → Option Value) → Heap → Prop} {YP : World → Heap → Prop} {d : DefRec} {K : Params → PySem.W.Frag} (hn : l.most = some 63) (hdf : d.params.defaults = [])
    (hY : ∀ (w : World) (h : Heap), YP w h → (K w.params).In h)
    (F : ∀ (w : World) (mg : Str → Option Value) (fa : Addr) (h : Heap), (K w.params).In h → h.Ns mainGlobals mg → mg d.name = some (.ref fa) →
      ∃ fd : FuncData, (∀ (s : Shared) (u : Value), BindsTo s fd ⟨[u], []⟩ [("_law_script", u)]) ∧ ∀ base : Heap, (K w.params).In base → base.Ns mainGlobals mg → FnOk l.prog w (K w.params) mg base CX0 8 fa fd ["_law_script"] (spLaw (K w.params))) :
    PySem.W.WalkO q loose XP YP l.row.toRowW d [] (fun f vs => PySem.call f vs) :=
  L2.walk_of (n := 63) (k := 8) (x := "_law_script") (CX := fun _ => CX0) (sp := fun w => spLaw (K w.params)) hn (by decide) hdf ⟨rfl, by decide, by decide, rfl⟩ hY F (fun _ _ a ns hl _ hS => ⟨a, ns, rfl, hS, hl, fun _ => rfl⟩) fun _ _ _ _ _ z => z
end Mine
open PySem PySem.W PyProof.Rows
set_option maxRecDepth 100000 in
set_option maxHeartbeats 0 in
theorem PySem.Challenge.cw_flips_k34_what_is_a_glance_holds : PySem.Challenge.rw_flips_k34_what_is_a_glance.Holds := by
  w_on; o_law; k_head; (case hw => w_witness2)
  k_fill
  refine Mine.walk (l := PySem.Challenge.rw_flips_k34_what_is_a_glance) rfl rfl (fun w h Y => PySem.W.kIn_of Y) ?F
  case F =>
    intro w mg fa h KX G hmg
    refine' Mine.all_mk KX G hmg ?a0 ?l0 ?c0 ?k0 ?a1 ?l1 ?c1 ?k1 ?a2 ?l2 ?c2 ?k2 ?a3 ?l3 ?c3 ?k3 ?a4 ?l4 ?c4 ?k4 ?a5 ?l5 ?c5 ?k5 ?a6 ?l6 ?c6 ?k6 ?a7 ?l7 ?c7 ?k7 ?a8 ?l8 ?c8 ?k8 ?a9 ?l9 ?c9 ?k9 ?a10 ?l10 ?c10 ?k10 ?a11 ?l11 ?c11 ?k11 ?a12 ?l12 ?c12 ?k12 ?a13 ?l13 ?c13 ?k13 ?a14 ?l14 ?c14 ?k14 ?a15 ?l15 ?c15 ?k15 ?a16 ?l16 ?c16 ?k16 ?a17 ?l17 ?c17 ?k17 ?a18 ?l18 ?c18 ?k18 ?a19 ?l19 ?c19 ?k19 ?a20 ?l20 ?c20 ?k20 ?a21 ?l21 ?c21 ?k21 ?a22 ?l22 ?c22 ?k22 ?z_bool ?z_dict ?z_int ?z_isinstance ?z_len ?z_list ?z_max ?z_range ?z_sum ?z_tuple ?c_MOST_SWITCHES
    (case a0 => k_is)
    (case l0 => k_is)
    (case c0 => k_is)
    (case k0 => k_is)
    (case a1 => k_is)
    (case l1 => k_is)
    (case c1 => k_is)
    (case k1 => k_is)
    (case a2 => k_is)
    (case l2 => k_is)
    (case c2 => k_is)
    (case k2 => k_is)
    (case a3 => k_is)
    (case l3 => k_is)
    (case c3 => k_is)
    (case k3 => k_is)
    (case a4 => k_is)
    (case l4 => k_is)
    (case c4 => k_is)
    (case k4 => k_is)
    (case a5 => k_is)
    (case l5 => k_is)
    (case c5 => k_is)
    (case k5 => k_is)
    (case a6 => k_is)
    (case l6 => k_is)
    (case c6 => k_is)
    (case k6 => k_is)
    (case a7 => k_is)
    (case l7 => k_is)
    (case c7 => k_is)
    (case k7 => k_is)
    (case a8 => k_is)
    (case l8 => k_is)
    (case c8 => k_is)
    (case k8 => k_is)
    (case a9 => k_is)
    (case l9 => k_is)
    (case c9 => k_is)
    (case k9 => k_is)
    (case a10 => k_is)
    (case l10 => k_is)
    (case c10 => k_is)
    (case k10 => k_is)
    (case a11 => k_is)
    (case l11 => k_is)
    (case c11 => k_is)
    (case k11 => k_is)
    (case a12 => k_is)
    (case l12 => k_is)
    (case c12 => k_is)
    (case k12 => k_is)
    (case a13 => k_is)
    (case l13 => k_is)
    (case c13 => k_is)
    (case k13 => k_is)
    (case a14 => k_is)
    (case l14 => k_is)
    (case c14 => k_is)
    (case k14 => k_is)
    (case a15 => k_is)
    (case l15 => k_is)
    (case c15 => k_is)
    (case k15 => k_is)
    (case a16 => k_is)
    (case l16 => k_is)
    (case c16 => k_is)
    (case k16 => k_is)
    (case a17 => k_is)
    (case l17 => k_is)
    (case c17 => k_is)
    (case k17 => k_is)
    (case a18 => k_is)
    (case l18 => k_is)
    (case c18 => k_is)
    (case k18 => k_is)
    (case a19 => k_is)
    (case l19 => k_is)
    (case c19 => k_is)
    (case k19 => k_is)
    (case a20 => k_is)
    (case l20 => k_is)
    (case c20 => k_is)
    (case k20 => k_is)
    (case a21 => k_is)
    (case l21 => k_is)
    (case c21 => k_is)
    (case k21 => k_is)
    (case a22 => k_is)
    (case l22 => k_is)
    (case c22 => k_is)
    (case k22 => k_is)
    (case z_bool => k_is)
    (case z_dict => k_is)
    (case z_int => k_is)
    (case z_isinstance => k_is)
    (case z_len => k_is)
    (case z_list => k_is)
    (case z_max => k_is)
    (case z_range => k_is)
    (case z_sum => k_is)
    (case z_tuple => k_is)
    (case c_MOST_SWITCHES => k_is)
