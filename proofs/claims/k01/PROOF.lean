import PyProof.Rows.All
import Wide.All
import OpenK.AllK
import Wide.FinOn
import Lean
import PyProof.EqAt
import PyProof.EqKinds
import PyProof.TupleCall
import PyProof.NeKinds
import PyProof.ReprRoads
import PyProof.ReprBulk
import PyProof.Draws
import PyProof.EnumMake
import KE.BitLaws
import PyProof.ListIndex
import PyProof.AttrMissHeap
import PyProof.DictUpdate
import KE.KDictOf
import PyProof.FactsAll.enumerate_1
import PySem.Challenge.RW_flips_k01_places_and_tables
-- CHANGE: your row's module here, as the last of these rows
set_option Elab.async false
set_option linter.all false
set_option maxRecDepth 100000
namespace L2
open PySem PySem.Spec PyProof.Rows
abbrev Key := Sum Int Str
def keyIs : Key → Value → Bool
  | .inl k, v => Value.isInt k v
  | .inr x, v => Value.isStrOf x v
def keyH (w : World) : Key → Int
  | .inl k => hashInt k
  | .inr x => hashStr w x
theorem keyIs_shape : ∀ {k : Key} {v : Value}, keyIs k v = true → (∃ i t, k = Sum.inl i ∧ v = Value.int i t) ∨ (∃ x t, k = Sum.inr x ∧ v = Value.str x t)
  | .inl i, v, h => by
    obtain ⟨t, e⟩ := Value.isInt_shape (k := i) (v := v) h
    exact .inl ⟨i, t, rfl, e⟩
  | .inr x, v, h => by
    obtain ⟨t, e⟩ := Value.isStrOf_shape (x := x) (v := v) h
    exact .inr ⟨x, t, rfl, e⟩
theorem keyIs_int (i : Int) (t : Tok) : keyIs (.inl i) (.int i t) = true := by simp [keyIs, Value.isInt]
theorem key_ll (a b : Int) : decide ((Sum.inl a : Key) = Sum.inl b) = (a == b) := by
  by_cases e : a = b
  · subst e; simp
  · have h : ¬ (Sum.inl a : Key) = Sum.inl b := fun q => e (Sum.inl.inj q)
    rw [decide_eq_false h]
    exact (beq_eq_false_iff_ne.mpr e).symm
theorem key_rr (a b : Str) : decide ((Sum.inr a : Key) = Sum.inr b) = decide (a = b) := by
  by_cases e : a = b
  · subst e; simp
  · have h : ¬ (Sum.inr a : Key) = Sum.inr b := fun q => e (Sum.inr.inj q)
    rw [decide_eq_false h, decide_eq_false e]
theorem key_lr (a : Int) (b : Str) : decide ((Sum.inl a : Key) = Sum.inr b) = false := decide_eq_false (fun q => nomatch q)
theorem key_rl (a : Str) (b : Int) : decide ((Sum.inr a : Key) = Sum.inl b) = false := decide_eq_false (fun q => nomatch q)
def mixKind (prog : Program) (w : World) : PySem.KeyKind prog w Key where
  is := keyIs
  hash := keyH w
  inj := fun v a b ha hb => by
    rcases keyIs_shape ha with ⟨i, t, rfl, rfl⟩ | ⟨x, t, rfl, rfl⟩
    · rcases keyIs_shape hb with ⟨j, u, rfl, e⟩ | ⟨y, u, rfl, e⟩
      · injection e with e1 _; rw [e1]
      · exact nomatch e
    · rcases keyIs_shape hb with ⟨j, u, rfl, e⟩ | ⟨y, u, rfl, e⟩
      · exact nomatch e
      · injection e with e1 _; rw [e1]
  byValue := fun k v h => by
    rcases keyIs_shape h with ⟨i, t, rfl, rfl⟩ | ⟨x, t, rfl, rfl⟩ <;> rfl
  pyHash := fun hv h => by
    rcases keyIs_shape hv with ⟨i, t, rfl, rfl⟩ | ⟨x, t, rfl, rfl⟩
    · exact wpAny_pyHash_int h
    · exact wpAny_pyHash_str h
  eqBool := fun hu hv h => by
    rcases keyIs_shape hu with ⟨i, t, rfl, rfl⟩ | ⟨x, t, rfl, rfl⟩
    · rcases keyIs_shape hv with ⟨j, u, rfl, rfl⟩ | ⟨y, u, rfl, rfl⟩
      · rw [key_ll] at h; exact wpAny_eqBool_int h
      · rw [key_lr] at h; exact SeqAt.EqAt.int_str i t y u _ _ _ _ h
    · rcases keyIs_shape hv with ⟨j, u, rfl, rfl⟩ | ⟨y, u, rfl, rfl⟩
      · rw [key_rl] at h; exact SeqAt.EqAt.str_int x t j u _ _ _ _ h
      · rw [key_rr] at h; exact wpAny_eqBool_str h
  «strs» := fun k x t v h => by
    rcases keyIs_shape h with ⟨i, u, rfl, e⟩ | ⟨y, u, rfl, e⟩
    · exact nomatch e
    · injection e with e1 _
      subst e1
      cases v <;> rfl
theorem mixKind_int (prog : Program) (w : World) (i : Int) (t : Tok) : (mixKind prog w).is (.inl i) (.int i t) = true := keyIs_int i t
end L2
namespace L2
open PySem PySem.Spec PyProof.Rows
inductive V where
  | non | bl (b : Bool) | int (i : Int) | str (x : Str) | byt (b : Array UInt8) | flt (b : UInt64) | ref (a : Addr) | ty (n : String)
  deriving DecidableEq
def RelV : V → Value → Prop
  | .non, u => u = Value.none
  | .bl b, u => u = Value.bool b
  | .int i, u => ∃ t, u = Value.int i t
  | .str x, u => ∃ t, u = Value.str x t
  | .byt b, u => ∃ t, u = Value.bytes b t
  | .flt b, u => ∃ t, u = Value.float b t
  | .ref a, u => u = Value.ref a
  | .ty n, u => u = Value.type n
abbrev Vals : List V → List Value → Prop := Paired RelV
theorem Vals.length {xs : List V} {us : List Value} (r : Vals xs us) : xs.length = us.length := Paired.length r
theorem Vals.get : ∀ {xs : List V} {us : List Value} {i : Nat} {x : V}, Vals xs us → xs[i]? = some x → ∃ u, us[i]? = some u ∧ RelV x u
  | _, _, _, _, .nil, e => by simp at e
  | _, _, 0, _, .cons r _, e => by simp at e; subst e; exact ⟨_, rfl, r⟩
  | _, _, i + 1, x, .cons _ t, e => by
    obtain ⟨u, h1, h2⟩ := Vals.get (i := i) (x := x) t (by simpa using e)
    exact ⟨u, by simpa using h1, h2⟩
theorem Vals.set {x : V} {u : Value} (r : RelV x u) : ∀ {xs : List V} {us : List Value} (i : Nat), Vals xs us → Vals (xs.set i x) (us.set i u)
  | _, _, _, .nil => .nil
  | _, _, 0, .cons _ t => .cons r t
  | _, _, i + 1, .cons q t => .cons q (Vals.set r i t)
theorem Vals.append : ∀ {xs ys : List V} {us ws : List Value}, Vals xs us → Vals ys ws → Vals (xs ++ ys) (us ++ ws)
  | _, _, _, _, .nil, s => s
  | _, _, _, _, .cons r t, s => .cons r (Vals.append t s)
theorem Vals.take : ∀ {xs : List V} {us : List Value} (n : Nat), Vals xs us → Vals (xs.take n) (us.take n)
  | _, _, 0, _ => .nil
  | _, _, _ + 1, .nil => .nil
  | _, _, n + 1, .cons r t => .cons r (Vals.take n t)
theorem Vals.drop : ∀ {xs : List V} {us : List Value} (n : Nat), Vals xs us → Vals (xs.drop n) (us.drop n)
  | _, _, 0, r => r
  | _, _, _ + 1, .nil => .nil
  | _, _, n + 1, .cons _ t => Vals.drop n t
def RelO : Option V → Option Value → Prop
  | some v, some u => RelV v u
  | none, none => True
  | _, _ => False
def KV {κ : Type} : List (κ × V) → List (κ × Value) → Prop := Paired fun (p : κ × V) (q : κ × Value) => p.1 = q.1 ∧ RelV p.2 q.2
def kV : Key → V
  | .inl i => .int i
  | .inr x => .str x
inductive HO where
    | lst (xs : List V)
    | tup (xs : List V)
    | dK (kvs : List (Key × V)) | dT (kvs : List (List Key × V))
    | set (S : Int → Bool) (n : Nat)
    | ins (C dx : Addr) (fs : List (Str × V))
    | own (x : Addr)
    | xd (fs : List (Str × V))
    | met (f x : Addr)
    | rng (lo hi : Int)
    | frz (o : Obj) (u : HO)
    | tbl (ps : Array Value)
    | ext (φ : Heap → Prop)
abbrev Hp := Addr → Option HO
def upd (H : Hp) (a : Addr) (o : HO) : Hp := fun b => if b = a then some o else H b
theorem upd_same {H : Hp} {a : Addr} {o : HO} : upd H a o a = some o := by unfold upd; rw [if_pos rfl]
theorem upd_ne {H : Hp} {a b : Addr} {o : HO} (h : b ≠ a) : upd H a o b = H b := by unfold upd; rw [if_neg h]
theorem ne_of_none {H : Hp} {a b : Addr} {o : HO} (h : H a = some o) (h' : H b = none) : a ≠ b := by
  intro e; subst e; rw [h] at h'; cases h'
def IsTupN (h : Heap) (a : Addr) (items : Array Value) : Prop := ∃ o, h.get? a = some o ∧ o.cls = .type "tuple" ∧ (∃ n, o.data = .seq items n) ∧ o.dict = none
theorem IsTupN.tup {h : Heap} {a : Addr} {items : Array Value} (x : IsTupN h a items) : PyProof.Rows.IsTup h a items := by
  obtain ⟨o, e, c, d, _⟩ := x
  exact ⟨o, e, c, d⟩
theorem IsTupN.new (h : Heap) (items : Array Value) : IsTupN (h.push { cls := .type "tuple", data := .seq items }) h.objs.size items := ⟨_, Heap.get?_push_size _ rfl, rfl, ⟨_, rfl⟩, rfl⟩
section
variable (P : Program) (w : World)
def ObjOk (H : Hp) (h : Heap) (a : Addr) : HO → Prop
  | .lst xs => xs.length ≤ sizeLine ∧ ∃ (its : List Value) (n : Nat), Vals xs its ∧ h.get? a = some { cls := .type "list", data := .seq its.toArray n }
  | .tup xs => xs.length ≤ sizeLine ∧ ∃ its : List Value, Vals xs its ∧ IsTupN h a its.toArray
  | .dK kvs => kvs.length ≤ sizeLine ∧ (a == sysModules) = false ∧ ∃ vs, KV kvs vs ∧ h.DictOf (mixKind P w) a vs
  | .dT kvs => kvs.length ≤ sizeLine ∧ (a == sysModules) = false ∧ ∃ xs : List (List Key × Addr × Value),
      Paired (fun (p : List Key × V) (q : List Key × Addr × Value) => p.1 = q.1 ∧ H q.2.1 = some (.tup (p.1.map kV)) ∧ RelV p.2 q.2.2) kvs xs ∧
      ∃ o es ep, h.get? a = some o ∧ o.ExactDict ∧ o.data = .dict es ep ∧ es.toList = xs.map (entryOfKey (tupleKind (mixKind P w))) ∧ (xs.map (·.1)).Nodup
  | .set S n => h.SetOf (intKind P w) a S n
  | .ins C dx fs => H dx = some (.own a) ∧ fs.length ≤ 1000 ∧ dx ≠ a ∧ h.get? a = some (PySem.W.instObj C dx) ∧
      ∃ mA, h.Ns1 dx mA ∧ (∀ f, RelO (fs.lookup f) (mA f)) ∧ PySem.Within mA (fs.map (·.1))
  | .own _ => ∃ o, h.get? a = some o
  | .xd fs => ∃ mA, h.Ns1 a mA ∧ ∀ f, RelO (fs.lookup f) (mA f)
  | .rng lo hi => ∃ t u v, h.get? a = some { cls := .type "range", data := .fields #[.int lo t, .int hi u, .int 1 v] }
  | .frz o u => h.get? a = some o ∧ ObjOk H h a u
  | .tbl ps => h.get? a = some { cls := .none, data := .fields ps }
  | .met f x => h.get? a = some (PySem.W.methodObj (.ref f) (.ref x))
  | .ext φ => φ h ∧ (∃ o, h.get? a = some o) ∧ ∀ h1 h2 : Heap, φ h1 → (∀ o, h1.get? a = some o → h2.get? a = some o) → φ h2
def HOk (H : Hp) (h : Heap) : Prop := ∀ a o, H a = some o → ObjOk P w H h a o
end
section
variable {P : Program} {w : World} {H H' : Hp} {h h' : Heap} {a : Addr} {o : HO}
theorem ObjOk.lt (x : ObjOk P w H h a o) : a < h.objs.size := by
  cases o with
  | lst xs => obtain ⟨_, _, _, _, e⟩ := x; exact Heap.lt_size e
  | tup xs => obtain ⟨_, _, _, p⟩ := x; exact p.tup.lt
  | dK kvs => obtain ⟨_, _, _, _, o, _, _, e, _⟩ := x; exact Heap.lt_size e
  | dT kvs => obtain ⟨_, _, _, _, o, _, _, e, _⟩ := x; exact Heap.lt_size e
  | set S n => obtain ⟨o, _, _, _, e, _⟩ := x; exact Heap.lt_size e
  | ins C dx fs => obtain ⟨_, _, _, e, _⟩ := x; exact Heap.lt_size e
  | own y => obtain ⟨_, e⟩ := x; exact Heap.lt_size e
  | xd fs => obtain ⟨_, ⟨_, _, _, e, _⟩, _⟩ := x; exact Heap.lt_size e
  | rng lo hi => obtain ⟨_, _, _, e⟩ := x; exact Heap.lt_size e
  | frz ob u => obtain ⟨e, _⟩ := x; exact Heap.lt_size e
  | tbl ps => exact Heap.lt_size (show h.get? a = some _ from x)
  | met f y => exact Heap.lt_size (show h.get? a = some _ from x)
  | ext φ => obtain ⟨_, ⟨_, e⟩, _⟩ := x; exact Heap.lt_size e
theorem Paired.mapP {α β : Type} {F G : α → β → Prop} : ∀ {l₁ : List α} {l₂ : List β}, Paired F l₁ l₂ → (∀ a b, F a b → G a b) → Paired G l₁ l₂
  | _, _, .nil, _ => .nil
  | _, _, .cons r t, f => .cons (f _ _ r) (Paired.mapP t f)
theorem ObjOk.stay (x : ObjOk P w H h a o) (k : ∀ b u, (b = a ∨ H b = some (.own a)) → h.get? b = some u → h'.get? b = some u)
    (ho : ∀ b, H b = some (.own a) → H' b = some (.own a)) (ht : ∀ b xs, H b = some (.tup xs) → H' b = some (.tup xs)) : ObjOk P w H' h' a o := by
  induction o with
  | lst xs => obtain ⟨z, its, n, r, e⟩ := x; exact ⟨z, its, n, r, k _ _ (.inl rfl) e⟩
  | tup xs => obtain ⟨z, its, r, ob, e, c⟩ := x; exact ⟨z, its, r, ob, k _ _ (.inl rfl) e, c⟩
  | dK kvs => obtain ⟨z, y, vs, r, ob, es, ep, e, c⟩ := x; exact ⟨z, y, vs, r, ob, es, ep, k _ _ (.inl rfl) e, c⟩
  | dT kvs =>
    obtain ⟨z, y, xs, r, ob, es, ep, e, c⟩ := x
    exact ⟨z, y, xs, Paired.mapP r fun p q z => ⟨z.1, ht _ _ z.2.1, z.2.2⟩, ob, es, ep, k _ _ (.inl rfl) e, c⟩
  | set S n => obtain ⟨ob, es, ep, t, e, c⟩ := x; exact ⟨ob, es, ep, t, k _ _ (.inl rfl) e, c⟩
  | ins C dx fs =>
    obtain ⟨d, z, ne, e, mA, ⟨od, es, ep, e2, c⟩, r⟩ := x
    exact ⟨ho _ d, z, ne, k _ _ (.inl rfl) e, mA, ⟨od, es, ep, k _ _ (.inr d) e2, c⟩, r⟩
  | own y => obtain ⟨ob, e⟩ := x; exact ⟨ob, k _ _ (.inl rfl) e⟩
  | xd fs => obtain ⟨mA, ⟨od, es, ep, e, c⟩, r⟩ := x; exact ⟨mA, ⟨od, es, ep, k _ _ (.inl rfl) e, c⟩, r⟩
  | rng lo hi => obtain ⟨t, u, v, e⟩ := x; exact ⟨t, u, v, k _ _ (.inl rfl) e⟩
  | frz ob u ih => obtain ⟨e, q⟩ := x; exact ⟨k _ _ (.inl rfl) e, ih q⟩
  | tbl ps =>
    have e : h.get? a = some { cls := .none, data := .fields ps } := x
    show h'.get? a = some { cls := .none, data := .fields ps }
    exact k a _ (.inl rfl) e
  | met f y =>
    have e : h.get? a = some (PySem.W.methodObj (.ref f) (.ref y)) := x
    show h'.get? a = some (PySem.W.methodObj (.ref f) (.ref y))
    exact k a _ (.inl rfl) e
  | ext φ => obtain ⟨p, ⟨o, e⟩, st⟩ := x; exact ⟨st _ _ p fun o q => k _ _ (.inl rfl) q, ⟨o, k _ _ (.inl rfl) e⟩, st⟩
theorem HOk.lt (x : HOk P w H h) (e : H a = some o) : a < h.objs.size := (x a o e).lt
theorem HOk.fresh (x : HOk P w H h) (e : h.objs.size ≤ a) : H a = none := by
  cases q : H a with
  | none => rfl
  | some u => exact absurd (Nat.lt_of_lt_of_le (x.lt q) e) (Nat.lt_irrefl _)
theorem HOk.kept (x : HOk P w H h) (k : ∀ b u, h.get? b = some u → h'.get? b = some u) : HOk P w H h' := fun a o e =>
  (x a o e).stay (fun b u _ q => k b u q) (fun _ q => q) fun _ _ q => q
theorem HOk.laid (x : HOk P w H h) (k : ∀ b u, h.get? b = some u → h'.get? b = some u) (hp : h.objs.size ≤ a) (new : ObjOk P w (upd H a o) h' a o) : HOk P w (upd H a o) h' := fun b u e => by
  have hn := x.fresh hp
  by_cases hb : b = a
  · subst hb; rw [upd_same] at e; cases e; exact new
  · rw [upd_ne hb] at e
    exact (x b u e).stay (fun c v _ q => k c v q) (fun c q => by rw [upd_ne (ne_of_none q hn)]; exact q) fun c xs q => by rw [upd_ne (ne_of_none q hn)]; exact q
end
def Rd (H : Hp) (a : Addr) (u : HO) : Prop := H a = some u ∨ ∃ o, H a = some (.frz o u)
theorem Rd.of {H : Hp} {a : Addr} {u : HO} (h : H a = some u) : Rd H a u := .inl h
theorem Rd.ok {P : Program} {w : World} {H : Hp} {h : Heap} {a : Addr} {u : HO} (r : Rd H a u) (x : HOk P w H h) : ObjOk P w H h a u := by
  rcases r with r | ⟨o, r⟩
  · exact x a u r
  · obtain ⟨_, q⟩ := x a _ r
    exact q
def Mut : Option HO → Prop
  | some (.lst _) => True
  | some (.dK _) => True
  | some (.dT _) => True
  | some (.set _ _) => True
  | some (.ins _ _ _) => True
  | some (.ext _) => True
  | _ => False
section
variable {P : Program} {w : World} {H : Hp} {h h' : Heap} {x e : Addr} {o' : HO}
theorem HOk.write (ok : HOk P w H h) (mu : Mut (H x)) (he : e = x ∨ H e = some (.own x)) (k : ∀ b u, b ≠ e → h.get? b = some u → h'.get? b = some u) (heo : ∃ u, h'.get? e = some u)
    (new : ObjOk P w (upd H x o') h' x o') : HOk P w (upd H x o') h' := fun b u q => by
  have nown : ∀ c y, H c = some (.own y) → c ≠ x := fun c y r z => by subst z; rw [r] at mu; exact mu
  have ntup : ∀ c xs, H c = some (.tup xs) → c ≠ x := fun c xs r z => by subst z; rw [r] at mu; exact mu
  by_cases hb : b = x
  · subst hb; rw [upd_same] at q; cases q; exact new
  · rw [upd_ne hb] at q
    by_cases hbe : b = e
    · have q' : H b = some (.own x) := by
        rcases he with z | z
        · exact absurd (hbe.trans z) hb
        · rw [hbe]; exact z
      rw [q] at q'; cases q'
      obtain ⟨v, hv⟩ := heo
      exact ⟨v, by rw [hbe]; exact hv⟩
    · refine (ok b u q).stay (fun c v hc r => k c v ?_ r) (fun c r => by rw [upd_ne (nown c b r)]; exact r) fun c xs r => by rw [upd_ne (ntup c xs r)]; exact r
      rcases hc with rfl | hc
      · exact hbe
      · rintro rfl
        rcases he with z | z
        · exact nown c b hc z
        · rw [hc] at z; cases z; exact hb rfl
end
structure Un (fs ex : List Addr) (H H' : Hp) (h h' : Heap) : Prop where
  keep : ∀ b o, h.get? b = some o → H b = none → b ∉ fs → b ∉ ex → h'.get? b = some o
  slot : ∀ b o, h.get? b = some o → H b = none → b ∈ fs → b ∉ ex → ∃ sl, h'.get? b = some { o with slots := sl }
  free : ∀ b o, h.get? b = some o → H b = none → b ∉ ex → H' b = none
  there : ∀ b o, h.get? b = some o → b ∉ ex → ∃ o', h'.get? b = some o'
  tups : ∀ b xs, H b = some (.tup xs) → H' b = some (.tup xs)
  frzs : ∀ b o u, H b = some (.frz o u) → H' b = some (.frz o u)
  tbls : ∀ b ps, H b = some (.tbl ps) → ∃ more, H' b = some (.tbl (ps ++ more))
section
variable {fs fs' ex ex' : List Addr} {H H1 H2 : Hp} {h h1 h2 h' : Heap} {a x e : Addr} {o : HO}
theorem Un.any (u : Un fs ex H H1 h h1) {b : Addr} {ob : Obj} (q : h.get? b = some ob) (n : H b = none) (hx : b ∉ ex) : ∃ sl, h1.get? b = some { ob with slots := sl } := by
  by_cases hb : b ∈ fs
  · exact u.slot b ob q n hb hx
  · exact ⟨ob.slots, u.keep b ob q n hb hx⟩
theorem Un.kept (k : ∀ b u, h.get? b = some u → h'.get? b = some u) : Un fs ex H H h h' :=
  ⟨fun b ob q _ _ _ => k b ob q, fun b ob q _ _ _ => ⟨ob.slots, k b ob q⟩, fun _ _ _ n _ => n, fun b ob q _ => ⟨ob, k b ob q⟩, fun _ _ q => q, fun _ _ _ q => q, fun _ ps q => ⟨#[], by rw [q]; simp⟩⟩
theorem Un.refl : Un fs ex H H h h := Un.kept fun _ _ q => q
theorem Un.laid (k : ∀ b u, h.get? b = some u → h'.get? b = some u) (hp : h.objs.size ≤ a) (hn : H a = none) : Un fs ex H (upd H a o) h h' where
  keep := fun b u q _ _ _ => k b u q
  slot := fun b u q _ _ _ => ⟨u.slots, k b u q⟩
  free := fun b u q n _ => by rw [upd_ne (Nat.ne_of_lt (Nat.lt_of_lt_of_le (Heap.lt_size q) hp))]; exact n
  there := fun b u q _ => ⟨u, k b u q⟩
  tups := fun b xs q => by rw [upd_ne (ne_of_none q hn)]; exact q
  frzs := fun b u xs q => by rw [upd_ne (ne_of_none q hn)]; exact q
  tbls := fun b ps q => ⟨#[], by rw [upd_ne (ne_of_none q hn), q]; simp⟩
theorem Un.write (mu : Mut (H x)) (he : e = x ∨ H e = some (.own x)) (k : ∀ b u, b ≠ e → h.get? b = some u → h'.get? b = some u) (heo : ∃ u, h'.get? e = some u) : Un fs ex H (upd H x o) h h' := by
  have hx : ∀ b, H b = none → b ≠ x := fun b n z => by subst z; rw [n] at mu; exact mu
  have hb : ∀ b, H b = none → b ≠ e := fun b n z => by
    subst z
    rcases he with r | r
    · exact hx b n r
    · rw [n] at r; cases r
  have hm : ∀ b u, H b = some u → ¬ Mut (some u) → b ≠ x := fun b u q nm z => by subst z; rw [q] at mu; exact nm mu
  refine ⟨fun b u q n _ _ => k b u (hb b n) q, fun b u q n _ _ => ⟨u.slots, k b u (hb b n) q⟩, fun b u q n _ => by rw [upd_ne (hx b n)]; exact n, fun b u q _ => ?_,
    fun b xs q => by rw [upd_ne (hm b _ q fun z => z)]; exact q, fun b u xs q => by rw [upd_ne (hm b _ q fun z => z)]; exact q, fun b ps q => ⟨#[], by rw [upd_ne (hm b _ q fun z => z), q]; simp⟩⟩
  by_cases hbe : b = e
  · subst hbe; exact heo
  · exact ⟨u, k b u hbe q⟩
end
def trk (h : Heap) (H : Hp) : List Addr := (List.range h.objs.size).filter fun a => (H a).isSome
def hidT (h : Heap) (H : Hp) : Heap := PySem.W.hideAll h (trk h H)
theorem hidT_size (h : Heap) (H : Hp) : (hidT h H).objs.size = h.objs.size := PySem.W.hideAll_size _ _
theorem hidT_get {h : Heap} {H : Hp} {b : Addr} {o : Obj} (e : h.get? b = some o) (n : H b = none) : (hidT h H).get? b = some o :=
  PySem.W.hideAll_get _ e fun hm => by
    have q : (H b).isSome = true := (List.mem_filter.mp hm).2
    rw [n] at q; simp at q
theorem of_hidT {h : Heap} {H : Hp} {b : Addr} {o : Obj} (e : (hidT h H).get? b = some o) : h.get? b = some o ∧ H b = none := by
  have e' : h.get? b = some o := PySem.W.of_hideAll (trk h H) e
  refine ⟨e', ?_⟩
  cases q : H b with
  | none => rfl
  | some x =>
    have hm : b ∈ trk h H := List.mem_filter.mpr ⟨List.mem_range.mpr (Heap.lt_size e'), by simp [q]⟩
    have z : (hidT h H).get? b = none := PySem.W.hideAll_none (trk h H) hm
    rw [z] at e; cases e
def allNews (g h : Heap) (L : Addr) : List (Addr × Obj) := (List.range h.objs.size).filterMap fun a => if a = L ∨ (g.get? a).isSome = true then none else (h.get? a).map fun o => (a, o)
def rest (g h : Heap) (L d : Addr) : List (Addr × Obj) := (allNews g h L).filter fun p => decide (p.1 ≠ d)
end L2
namespace L2
open PySem PySem.Spec PyProof.Rows
structure Mod (K : PySem.W.Frag) (mg : Str → Option Value) (base : Heap) : Prop where
  kin : K.In base
  glob : base.Ns mainGlobals mg
  blt : ∃ mb, base.Ns builtinsNs mb ∧ ∀ x : Str, x ≠ "__name__" → mb x = bootBuiltins x
  nolimit : base.NoLimit
structure Cx where
  prog : Program
  w : World
  K : PySem.W.Frag
  mg : Str → Option Value
  base : Heap
  A : Around
  N : List Str
  s₀ : Shared
  H₀ : Hp
  env : Env
  outer : List Env
  stack : List Env
  ex : List Addr
  fn : Str → Bool
  calm : Bool
  pn : List (Addr × Obj)
  xe : Value → Shared → Prop
def frs (l : List Env) : List Addr := l.filterMap (·.frame)
abbrev Cx.fs (X : Cx) : List Addr := frs X.outer
def Vis (sc : Scope) (x : Str) : Prop := sc.names.lookup x = some .local ∨ sc.names.lookup x = some .cell ∨ sc.names.lookup x = some .free
def Loc (sc : Scope) (x : Str) : Prop := sc.names.lookup x = some .local ∨ sc.names.lookup x = some .cell
def Look (env : Env) (h : Heap) (m : Str → Option Value) (x : Str) (u : Value) : Prop :=
  (env.kindOf x = some .local ∧ m x = some u) ∨ ((env.kindOf x = some .cell ∨ env.kindOf x = some .free) ∧ ∃ c, env.cells.lookup x = some c ∧ h.IsCell c (some u))
structure Cx.Ok (X : Cx) : Prop where
  mod : Mod X.K X.mg X.base
  kind : X.env.scope.kind = .function
  glob : X.env.globals = mainGlobals
  blt : X.env.builtins = builtinsNs
  above : X.s₀.heap.objs.size ≤ X.env.locals
  inj : ∀ x y c, X.env.cells.lookup x = some c → X.env.cells.lookup y = some c → x = y
  has : ∀ x, (X.env.kindOf x = some .cell ∨ X.env.kindOf x = some .free) → ∃ c, X.env.cells.lookup x = some c
  cab : ∀ x c, X.fn x = true → X.env.cells.lookup x = some c → X.s₀.heap.objs.size ≤ c
  hd : X.calm = true → X.A.handled = none
  frames : X.A.frames = some X.stack
  stk : X.stack = X.outer ∨ (X.stack = X.env :: X.outer ∧ X.env.frame = some X.env.locals)
  exf : ∀ b ∈ X.ex, b ≠ X.env.locals ∧ ∀ x c, X.env.cells.lookup x = some c → c ≠ b
  bs : ∀ b o, X.base.get? b = some o → X.s₀.heap.get? b = some o ∧ X.H₀ b = none
  bsz : X.base.objs.size ≤ X.s₀.heap.objs.size
  noex : ∀ b o, X.base.get? b = some o → b ∉ X.ex
  exfs : ∀ b ∈ X.ex, b ∉ X.fs
  funs : X.s₀.heap.FunFrames X.base X.outer
  frf : ∀ b ∈ X.fs, X.H₀ b = none
structure Inv (X : Cx) (pins : List (Addr × Obj)) (σ : List (Option V)) (H : Hp) (s : Shared) : Prop where
  ok : X.Ok
  os : s.os = X.s₀.os
  bare : AllBare s.gens
  base : Un X.fs X.ex X.H₀ H X.s₀.heap s.heap
  loc : ∃ m, s.heap.Ns X.env.locals m ∧ ∀ (i : Nat) (x : Str) (v : V), X.N[i]? = some x → σ[i]? = some (some v) → Vis X.env.scope x → ∃ u, RelV v u ∧ Look X.env s.heap m x u
  cell : ∀ x c, X.env.cells.lookup x = some c → ∃ v, s.heap.IsCell c v
  free : H X.env.locals = none
  freeC : ∀ x c, X.env.cells.lookup x = some c → H c = none
  pin : ∀ p ∈ X.pn ++ pins, s.heap.get? p.1 = some p.2 ∧ H p.1 = none ∧ p.1 ≠ X.env.locals ∧ p.1 ∉ X.fs ∧ ∀ v, p.2.data ≠ .cell v
  hok : HOk X.prog X.w H s.heap
  len : σ.length = X.N.length
section
variable {X : Cx} {pins : List (Addr × Obj)} {σ : List (Option V)} {H H' : Hp} {s : Shared} {h' : Heap}
theorem Cx.Ok.nofr (ok : X.Ok) {b : Addr} {o : Obj} (e : X.base.get? b = some o) : b ∉ X.fs := fun hb => by
  have := (ok.funs.mem hb).1
  rw [e] at this; cases this
theorem Inv.bs (I : Inv X pins σ H s) : ∀ b o, X.base.get? b = some o → s.heap.get? b = some o ∧ H b = none := fun b o e =>
  ⟨I.base.keep b o (I.ok.bs b o e).1 (I.ok.bs b o e).2 (I.ok.nofr e) (I.ok.noex b o e), I.base.free b o (I.ok.bs b o e).1 (I.ok.bs b o e).2 (I.ok.noex b o e)⟩
theorem Inv.bk (I : Inv X pins σ H s) : ∀ b o, X.base.get? b = some o → s.heap.get? b = some o := fun b o e => (I.bs b o e).1
theorem Inv.mod (I : Inv X pins σ H s) : Mod X.K X.mg X.base := I.ok.mod
theorem Inv.kIn (I : Inv X pins σ H s) : X.K.In s.heap := I.ok.mod.kin.keeps I.bk
theorem Inv.lt (I : Inv X pins σ H s) : X.env.locals < s.heap.objs.size := let ⟨_, hn, _⟩ := I.loc; hn.lt
theorem Inv.sz (I : Inv X pins σ H s) : X.s₀.heap.objs.size ≤ s.heap.objs.size := Nat.le_trans I.ok.above (Nat.le_of_lt I.lt)
theorem Inv.nofs (I : Inv X pins σ H s) {a : Addr} (h : s.heap.objs.size ≤ a) : a ∉ X.fs := fun hb => by
  obtain ⟨_, o, ho, _⟩ := I.ok.funs.mem hb
  exact absurd (Nat.lt_of_lt_of_le (Heap.lt_size ho) (Nat.le_trans I.sz h)) (Nat.lt_irrefl _)
theorem Inv.cne (I : Inv X pins σ H s) : ∀ x c, X.env.cells.lookup x = some c → c ≠ X.env.locals := fun x c e z => by
  obtain ⟨v, o, ho, hd⟩ := I.cell x c e
  obtain ⟨m, ⟨o', es, ep, ho', hd', _⟩, _⟩ := I.loc
  rw [z, ho'] at ho; cases ho; rw [hd'] at hd; cases hd
theorem Inv.funs (I : Inv X pins σ H s) : s.heap.FunFrames X.base X.outer := by
  have all : ∀ (l : List Env), (∀ b ∈ frs l, b ∈ X.fs) → X.s₀.heap.FunFrames X.base l → s.heap.FunFrames X.base l := by
    intro l
    induction l with
    | nil => intro _ _; trivial
    | cons env r ih =>
      intro hs hl
      obtain ⟨hk, ⟨L, o, hf, hn, ho, hd⟩, hr⟩ := hl
      have hL : L ∈ X.fs := hs L (by unfold frs; rw [List.filterMap_cons, hf]; exact List.mem_cons_self)
      obtain ⟨sl, e⟩ := I.base.slot L o ho (I.ok.frf L hL) hL fun z => I.ok.exfs L z hL
      exact ⟨hk, ⟨L, _, hf, hn, e, hd⟩, ih (fun b hb => hs b (by unfold frs; rw [List.filterMap_cons, hf]; exact List.mem_cons_of_mem _ hb)) hr⟩
  exact all X.outer (fun _ hb => hb) I.ok.funs
theorem Inv.stack (I : Inv X pins σ H s) : s.heap.FunFrames X.base X.stack := by
  rcases I.ok.stk with e | ⟨e, hf⟩
  · rw [e]; exact I.funs
  · rw [e]
    obtain ⟨m, hn, _⟩ := I.loc
    refine .cons (by rw [I.ok.kind]; decide) hf hn ?_ I.funs
    exact Heap.get?_none_of_le (Nat.le_trans I.ok.bsz I.ok.above)
theorem Inv.stkSub (I : Inv X pins σ H s) : ∀ b ∈ frs X.stack, b ∈ X.env.locals :: X.fs := fun b hb => by
  rcases I.ok.stk with e | ⟨e, hf⟩
  · rw [e] at hb; exact List.mem_cons_of_mem _ hb
  · rw [e] at hb
    unfold frs at hb
    rw [List.filterMap_cons, hf] at hb
    exact hb
theorem Inv.stkFree (I : Inv X pins σ H s) : ∀ b ∈ frs X.stack, H b = none := fun b hb => by
  rcases List.mem_cons.mp (I.stkSub b hb) with e | hb
  · rw [e]; exact I.free
  · obtain ⟨_, o, ho, _⟩ := I.ok.funs.mem hb
    exact I.base.free b o ho (I.ok.frf b hb) fun z => I.ok.exfs b z hb
theorem Inv.step {g' : Array GenState} {t' : Nat} {d' : Drawn} {ch : List Addr} (I : Inv X pins σ H s)
    (hch : ∀ b ∈ ch, (b ∈ X.ex ∨ X.s₀.heap.objs.size ≤ b) ∧ b ≠ X.env.locals ∧ (∀ x c, X.env.cells.lookup x = some c → c ≠ b) ∧ ∀ p ∈ X.pn ++ pins, p.1 ≠ b)
    (keep : ∀ b o, b ≠ X.env.locals → b ∉ X.fs → b ∉ ch → s.heap.get? b = some o → H b = none → h'.get? b = some o)
    (slot : ∀ b o, b ≠ X.env.locals → b ∈ X.fs → b ∉ ch → s.heap.get? b = some o → H b = none → ∃ sl, h'.get? b = some { o with slots := sl }) (free : ∀ b o, b ∉ ch → s.heap.get? b = some o → H b = none → H' b = none)
    (there : ∀ b o, b ∉ ch → s.heap.get? b = some o → ∃ o', h'.get? b = some o')
    (tups : ∀ b xs, H b = some (.tup xs) → H' b = some (.tup xs)) (frzs : ∀ b o u, H b = some (.frz o u) → H' b = some (.frz o u)) (tbls : ∀ b ps, H b = some (.tbl ps) → ∃ more, H' b = some (.tbl (ps ++ more)))
    (ns : ∀ m, s.heap.Ns X.env.locals m → h'.Ns X.env.locals m) (hok : HOk X.prog X.w H' h') (hg : AllBare g') :
    Inv X pins σ H' { s with heap := h', gens := g', drawn := d', toks := t' } := by
  have neL : ∀ b o, X.s₀.heap.get? b = some o → b ≠ X.env.locals := fun b o e => Nat.ne_of_lt (Nat.lt_of_lt_of_le (Heap.lt_size e) I.ok.above)
  have neC : ∀ b o, X.s₀.heap.get? b = some o → b ∉ X.ex → b ∉ ch := fun b o e hx hb => by
    rcases (hch b hb).1 with z | z
    · exact hx z
    · exact absurd (Nat.lt_of_lt_of_le (Heap.lt_size e) z) (Nat.lt_irrefl _)
  have cellK : ∀ x c, X.env.cells.lookup x = some c → ∀ v, s.heap.IsCell c v → h'.IsCell c v := fun x c e v ⟨o, ho, hd⟩ => by
    have nch : c ∉ ch := fun z => (hch c z).2.2.1 x c e rfl
    by_cases hc : c ∈ X.fs
    · obtain ⟨sl, q⟩ := slot c o (I.cne x c e) hc nch ho (I.freeC x c e)
      exact ⟨_, q, hd⟩
    · exact ⟨o, keep c o (I.cne x c e) hc nch ho (I.freeC x c e), hd⟩
  refine ⟨I.ok, I.os, hg, ⟨fun b o e n hb hx => ?_, fun b o e n hb hx => ?_, fun b o e n hx => ?_, fun b o e hx => ?_, fun b xs e => tups b xs (I.base.tups b xs e), fun b o xs e => frzs b o xs (I.base.frzs b o xs e), fun b ps e => ?_⟩, ?_, fun x c e => ?_, ?_, fun x c e => ?_, fun p hp => ?_, hok, I.len⟩
  · exact keep b o (neL b o e) hb (neC b o e hx) (I.base.keep b o e n hb hx) (I.base.free b o e n hx)
  · obtain ⟨sl, e1⟩ := I.base.slot b o e n hb hx
    obtain ⟨sl', e2⟩ := slot b _ (neL b o e) hb (neC b o e hx) e1 (I.base.free b o e n hx)
    exact ⟨sl', e2⟩
  · obtain ⟨o', e1⟩ := I.base.there b o e hx
    exact free b o' (neC b o e hx) e1 (I.base.free b o e n hx)
  · obtain ⟨o', e1⟩ := I.base.there b o e hx
    exact there b o' (neC b o e hx) e1
  · obtain ⟨m1, e1⟩ := I.base.tbls b ps e
    obtain ⟨m2, e2⟩ := tbls b _ e1
    exact ⟨m1 ++ m2, by rw [e2, Array.append_assoc]⟩
  · obtain ⟨m, hn, hl⟩ := I.loc
    refine ⟨m, ns m hn, fun i x v e1 e2 e3 => ?_⟩
    obtain ⟨u, r, l⟩ := hl i x v e1 e2 e3
    refine ⟨u, r, ?_⟩
    rcases l with l | ⟨k, c, e, z⟩
    · exact .inl l
    · exact .inr ⟨k, c, e, cellK x c e _ z⟩
  · obtain ⟨v, z⟩ := I.cell x c e
    exact ⟨v, cellK x c e v z⟩
  · obtain ⟨m, ⟨o, _, _, ho, _⟩, _⟩ := I.loc
    exact free _ o (fun z => (hch _ z).2.1 rfl) ho I.free
  · obtain ⟨v, o, ho, hd⟩ := I.cell x c e
    exact free c o (fun z => (hch c z).2.2.1 x c e rfl) ho (I.freeC x c e)
  · obtain ⟨e, n, ne, nf, d⟩ := I.pin p hp
    have nch : p.1 ∉ ch := fun z => (hch p.1 z).2.2.2 p hp rfl
    exact ⟨keep p.1 p.2 ne nf nch e n, free p.1 p.2 nch e n, ne, nf, d⟩
theorem Inv.un {t' : Nat} (I : Inv X pins σ H s) (u : Un X.fs [] H H' s.heap h') (hok : HOk X.prog X.w H' h') : Inv X pins σ H' { s with heap := h', toks := t' } := by
  obtain ⟨m, ⟨o, es, ep, ho, r⟩, _⟩ := id I.loc
  obtain ⟨sl, hL⟩ := u.any ho I.free (by simp)
  exact I.step (g' := s.gens) (d' := s.drawn) (ch := []) (fun _ z => nomatch z) (fun b o _ hb _ e n => u.keep b o e n hb (by simp)) (fun b o _ hb _ e n => u.slot b o e n hb (by simp)) (fun b o _ e n => u.free b o e n (by simp)) (fun b o _ e => u.there b o e (by simp)) u.tups u.frzs u.tbls (fun m' hm => by
    obtain ⟨o', es', ep', ho', r'⟩ := hm
    rw [ho] at ho'; cases ho'
    exact ⟨_, es', ep', hL, r'⟩) hok I.bare
theorem Inv.call {g' : Array GenState} {t' : Nat} {d' : Drawn} {ch : List Addr} (I : Inv X pins σ H s) (u : Un (frs X.stack) ch H H' s.heap h') (hok : HOk X.prog X.w H' h') (hg : AllBare g')
    (hch : ∀ b ∈ ch, (b ∈ X.ex ∨ X.s₀.heap.objs.size ≤ b) ∧ b ≠ X.env.locals ∧ (∀ x c, X.env.cells.lookup x = some c → c ≠ b) ∧ ∀ p ∈ X.pn ++ pins, p.1 ≠ b) :
    Inv X pins σ H' { s with heap := h', gens := g', drawn := d', toks := t' } := by
  obtain ⟨m, ⟨o, es, ep, ho, r⟩, _⟩ := id I.loc
  obtain ⟨sl, hL⟩ := u.any ho I.free fun z => (hch _ z).2.1 rfl
  exact I.step (ch := ch) hch (fun b o hL hb hc e n => u.keep b o e n (fun z => (List.mem_cons.mp (I.stkSub b z)).elim hL hb) hc) (fun b o _ _ hc e n => u.any e n hc) (fun b o hc e n => u.free b o e n hc) (fun b o hc e => u.there b o e hc) u.tups u.frzs u.tbls (fun m' hm => by
    obtain ⟨o', es', ep', ho', r'⟩ := hm
    rw [ho] at ho'; cases ho'
    exact ⟨_, es', ep', hL, r'⟩) hok hg
theorem Inv.turned {t' : Nat} {it : Addr} (I : Inv X pins σ H s) (k : ∀ b o, b ≠ it → s.heap.get? b = some o → h'.get? b = some o) (hn : H it = none) (hL : it ≠ X.env.locals)
    (h1 : it ∈ X.ex ∨ X.s₀.heap.objs.size ≤ it) (h2 : ∀ x c, X.env.cells.lookup x = some c → c ≠ it) (h3 : ∀ p ∈ X.pn ++ pins, p.1 ≠ it) : Inv X pins σ H { s with heap := h', toks := t' } := by
  have nit : ∀ b u, H b = some u → b ≠ it := fun b u e z => by rw [z, hn] at e; cases e
  refine I.step (g' := s.gens) (d' := s.drawn) (ch := [it]) (fun b hb => ?_) (fun b o _ _ hc e _ => k b o (fun z => hc (by simp [z])) e) (fun b o _ _ hc e _ => ⟨o.slots, k b o (fun z => hc (by simp [z])) e⟩) (fun _ _ _ _ n => n)
    (fun b o hc e => ⟨o, k b o (fun z => hc (by simp [z])) e⟩) (fun _ _ e => e) (fun _ _ _ e => e) (fun b ps e => ⟨#[], by rw [e]; simp⟩) (fun m hm => ?_) (fun b u e => ?_) I.bare
  · have e : b = it := by simpa using hb
    subst e
    exact ⟨h1, hL, h2, h3⟩
  · obtain ⟨o, es, ep, ho, r⟩ := hm
    exact ⟨o, es, ep, k _ o (Ne.symm hL) ho, r⟩
  · refine (I.hok b u e).stay (fun c v hc q => k c v ?_ q) (fun _ q => q) fun _ _ q => q
    rcases hc with z | z
    · rw [z]; exact nit b u e
    · exact nit c _ z
theorem Inv.tok (I : Inv X pins σ H s) (t : Nat) : Inv X pins σ H { s with toks := t } := I.un (h' := s.heap) (t' := t) Un.refl I.hok
theorem Inv.kept {t' : Nat} (I : Inv X pins σ H s) (k : ∀ b u, s.heap.get? b = some u → h'.get? b = some u) : Inv X pins σ H { s with heap := h', toks := t' } := I.un (Un.kept k) (I.hok.kept k)
theorem Inv.laid {a : Addr} {o : HO} {t' : Nat} (I : Inv X pins σ H s) (k : ∀ b u, s.heap.get? b = some u → h'.get? b = some u) (hp : s.heap.objs.size ≤ a) (new : ObjOk X.prog X.w (upd H a o) h' a o) :
    Inv X pins σ (upd H a o) { s with heap := h', toks := t' } := I.un (Un.laid k hp (I.hok.fresh hp)) (I.hok.laid k hp new)
theorem Inv.write {x e : Addr} {o : HO} {t' : Nat} (I : Inv X pins σ H s) (mu : Mut (H x)) (he : e = x ∨ H e = some (.own x)) (k : ∀ b u, b ≠ e → s.heap.get? b = some u → h'.get? b = some u) (heo : ∃ u, h'.get? e = some u)
    (new : ObjOk X.prog X.w (upd H x o) h' x o) : Inv X pins σ (upd H x o) { s with heap := h', toks := t' } := I.un (Un.write mu he k heo) (I.hok.write mu he k heo new)
theorem Inv.weak {σ' : List (Option V)} (I : Inv X pins σ H s) (hl : σ'.length = σ.length) (w : ∀ (i : Nat) v, σ'[i]? = some (some v) → σ[i]? = some (some v)) : Inv X pins σ' H s :=
  ⟨I.ok, I.os, I.bare, I.base, let ⟨m, hn, hl'⟩ := I.loc; ⟨m, hn, fun i x v e1 e2 e3 => hl' i x v e1 (w i v e2) e3⟩, I.cell, I.free, I.freeC, I.pin, I.hok, hl.trans I.len⟩
theorem Inv.pins_of {pins' : List (Addr × Obj)} (I : Inv X pins σ H s) (h : ∀ p ∈ pins', s.heap.get? p.1 = some p.2 ∧ H p.1 = none ∧ p.1 ≠ X.env.locals ∧ p.1 ∉ X.fs ∧ ∀ v, p.2.data ≠ .cell v) : Inv X pins' σ H s :=
  ⟨I.ok, I.os, I.bare, I.base, I.loc, I.cell, I.free, I.freeC, fun p hp => (List.mem_append.mp hp).elim (fun z => I.pin p (List.mem_append_left _ z)) (h p), I.hok, I.len⟩
theorem nodup_ix {N : List Str} (hN : N.Nodup) {i j : Nat} {x : Str} (a : N[i]? = some x) (b : N[j]? = some x) : i = j := by
  obtain ⟨h1, e1⟩ := List.getElem?_eq_some_iff.mp a
  obtain ⟨h2, e2⟩ := List.getElem?_eq_some_iff.mp b
  exact (List.getElem_inj hN).mp (e1.trans e2.symm)
theorem store_ok2 {M : Model} {A : Around} {E : Value → Shared → Prop} {i : Nat} {x : Str} {v : V} {u : Value} {Q : Unit → Shared → Prop} (I : Inv X pins σ H s) (hN : X.N.Nodup) (hi : X.N[i]? = some x) (hx : Loc X.env.scope x) (r : RelV v u)
    (h : ∀ s', Inv X pins (σ.set i (some v)) H s' → (∃ a, Heap.SameBut a s.heap s'.heap ∧ (a = X.env.locals ∨ X.env.cells.lookup x = some a)) → Q () s') (hf : X.fn x = true ∨ X.env.scope.names.lookup x = some .local := by first | exact .inl rfl | exact .inr rfl | assumption) : wpAny M A (storeName X.env x u) Q E s := by
  obtain ⟨m, hn, hl⟩ := id I.loc
  have hcls : (X.env.scope.kind == .class || (X.env.scope.kind == .module && X.env.locals != X.env.globals)) = false := by rw [I.ok.kind]; rfl
  have hiσ : i < σ.length := by rw [I.len]; exact (List.getElem?_eq_some_iff.mp hi).1
  have cne := I.cne
  have tracked : ∀ {a : Addr} {h' : Heap}, (∃ o, s.heap.get? a = some o ∧ H a = none) → Heap.SameBut a s.heap h' → HOk X.prog X.w H h' := fun {a h'} ha hs b ob e => by
    obtain ⟨_, _, hfree⟩ := ha
    refine (I.hok b ob e).stay (fun c w' hc q => (hs.2 c ?_).trans q) (fun _ q => q) fun _ _ q => q
    rintro rfl
    rcases hc with rfl | hc
    · rw [hfree] at e; cases e
    · rw [hfree] at hc; cases hc
  rcases hx with hk | hk
  · refine wpAny_storeName_local hk hn (fun h' hn' hs => ?_) hcls
    obtain ⟨oL, _, _, hoL, _⟩ := id hn
    refine h _ ⟨I.ok, I.os, I.bare, ⟨fun b o e n hb hx => ?_, fun b o e n hb hx => ?_, I.base.free, fun b o e hx => ?_, I.base.tups, I.base.frzs, I.base.tbls⟩, ⟨_, hn', fun j y v' e1 e2 e3 => ?_⟩, fun y c e => ?_, I.free, I.freeC, fun p hp => ?_, tracked ⟨oL, hoL, I.free⟩ hs, by simpa using I.len⟩ ⟨_, hs, .inl rfl⟩
    · exact (hs.2 b (Nat.ne_of_lt (Nat.lt_of_lt_of_le (Heap.lt_size e) I.ok.above))).trans (I.base.keep b o e n hb hx)
    · obtain ⟨sl, e1⟩ := I.base.slot b o e n hb hx
      exact ⟨sl, (hs.2 b (Nat.ne_of_lt (Nat.lt_of_lt_of_le (Heap.lt_size e) I.ok.above))).trans e1⟩
    · obtain ⟨o', e1⟩ := I.base.there b o e hx
      exact ⟨o', (hs.2 b (Nat.ne_of_lt (Nat.lt_of_lt_of_le (Heap.lt_size e) I.ok.above))).trans e1⟩
    · by_cases hj : j = i
      · subst hj
        rw [hi] at e1; cases e1
        rw [List.getElem?_set_self hiσ] at e2
        cases e2
        exact ⟨u, r, .inl ⟨hk, by simp⟩⟩
      · rw [List.getElem?_set_ne (Ne.symm hj)] at e2
        obtain ⟨u', r', q⟩ := hl j y v' e1 e2 e3
        refine ⟨u', r', ?_⟩
        rcases q with ⟨k, e⟩ | ⟨k, c, e, z⟩
        · refine .inl ⟨k, ?_⟩
          have : y ≠ x := fun e => hj (nodup_ix hN e1 (e ▸ hi))
          simp [this, e]
        · exact .inr ⟨k, c, e, z.sameBut hs (cne y c e)⟩
    · obtain ⟨w', z⟩ := I.cell y c e
      exact ⟨w', z.sameBut hs (cne y c e)⟩
    · obtain ⟨e, n, ne, nf, d⟩ := I.pin p hp
      exact ⟨(hs.2 p.1 ne).trans e, n, ne, nf, d⟩
  · have hfn : X.fn x = true := by
      rcases hf with z | z
      · exact z
      · rw [z] at hk; cases hk
    obtain ⟨c, hc⟩ := I.ok.has x (.inl hk)
    obtain ⟨w', z⟩ := I.cell x c hc
    refine wpAny_storeName_cell I.ok.kind hk hc z (fun h' hc' hs => ?_)
    obtain ⟨oc, hoc, hocd⟩ := id z
    refine h { s with heap := h' } ⟨I.ok, I.os, I.bare, ⟨fun b o e n hb hx => ?_, fun b o e n hb hx => ?_, I.base.free, fun b o e hx => ?_, I.base.tups, I.base.frzs, I.base.tbls⟩, ⟨m, hn.sameBut hs (Ne.symm (cne x c hc)), fun j y v' e1 e2 e3 => ?_⟩, fun y c' e => ?_, I.free, I.freeC, fun p hp => ?_, tracked ⟨oc, hoc, I.freeC x c hc⟩ hs, by simpa using I.len⟩ ⟨c, hs, .inr hc⟩
    · exact (hs.2 b (Nat.ne_of_lt (Nat.lt_of_lt_of_le (Heap.lt_size e) (I.ok.cab x c hfn hc)))).trans (I.base.keep b o e n hb hx)
    · obtain ⟨sl, e1⟩ := I.base.slot b o e n hb hx
      exact ⟨sl, (hs.2 b (Nat.ne_of_lt (Nat.lt_of_lt_of_le (Heap.lt_size e) (I.ok.cab x c hfn hc)))).trans e1⟩
    · obtain ⟨o', e1⟩ := I.base.there b o e hx
      exact ⟨o', (hs.2 b (Nat.ne_of_lt (Nat.lt_of_lt_of_le (Heap.lt_size e) (I.ok.cab x c hfn hc)))).trans e1⟩
    · by_cases hj : j = i
      · subst hj
        rw [hi] at e1; cases e1
        rw [List.getElem?_set_self hiσ] at e2
        cases e2
        exact ⟨u, r, .inr ⟨.inl hk, c, hc, hc'⟩⟩
      · rw [List.getElem?_set_ne (Ne.symm hj)] at e2
        obtain ⟨u', r', q⟩ := hl j y v' e1 e2 e3
        refine ⟨u', r', ?_⟩
        rcases q with q | ⟨k, c', e, z'⟩
        · exact .inl q
        · refine .inr ⟨k, c', e, z'.sameBut hs ?_⟩
          rintro rfl
          exact hj (nodup_ix hN e1 (I.ok.inj _ _ _ e hc ▸ hi))
    · by_cases hcc : c' = c
      · subst hcc; exact ⟨_, hc'⟩
      · obtain ⟨w2, z2⟩ := I.cell y c' e
        exact ⟨w2, z2.sameBut hs hcc⟩
    · obtain ⟨e, n, ne, nf, d⟩ := I.pin p hp
      refine ⟨(hs.2 p.1 ?_).trans e, n, ne, nf, d⟩
      intro q
      rw [q, hoc] at e
      have q' : oc = p.2 := Option.some.inj e
      exact d w' (by rw [← q']; exact hocd)
theorem store_ok {M : Model} {A : Around} {E : Value → Shared → Prop} {i : Nat} {x : Str} {v : V} {u : Value} {Q : Unit → Shared → Prop} (I : Inv X pins σ H s) (hN : X.N.Nodup) (hi : X.N[i]? = some x) (hx : Loc X.env.scope x) (r : RelV v u)
    (h : ∀ s', Inv X pins (σ.set i (some v)) H s' → Q () s') (hf : X.fn x = true ∨ X.env.scope.names.lookup x = some .local := by first | exact .inl rfl | exact .inr rfl | assumption) : wpAny M A (storeName X.env x u) Q E s :=
  store_ok2 I hN hi hx r (fun s' I' _ => h s' I') hf
theorem Inv.call' {s' : Shared} {ch : List Addr} (I : Inv X pins σ H s) (ho : s'.os = s.os) (u : Un (frs X.stack) ch H H' s.heap s'.heap) (hok : HOk X.prog X.w H' s'.heap) (hg : AllBare s'.gens)
    (hch : ∀ b ∈ ch, (b ∈ X.ex ∨ X.s₀.heap.objs.size ≤ b) ∧ b ≠ X.env.locals ∧ (∀ x c, X.env.cells.lookup x = some c → c ≠ b) ∧ ∀ p ∈ X.pn ++ pins, p.1 ≠ b) : Inv X pins σ H' s' := by
  obtain ⟨h', g', d', t', o'⟩ := s'
  have e : o' = s.os := ho
  subst e
  exact I.call (g' := g') (t' := t') (d' := d') u hok hg hch
end
abbrev XK := Value → Option Addr → Hp → Prop
abbrev St := List (Option V)
abbrev VK := V → Hp → Prop
abbrev TE := St → Hp → VK → Prop
abbrev TT := St → Hp → (Bool → Hp → Prop) → Prop
abbrev TA := St → Hp → (List V → Hp → Prop) → Prop
structure Ends where
  nx : St → Hp → Prop
  rt : VK
  bk : St → Hp → Prop := fun _ _ => False
  ct : St → Hp → Prop := fun _ _ => False
abbrev TS := Ends → St → Hp → Prop
def EP (X : Cx) (pins : List (Addr × Obj)) (σ : St) (Q : VK) (u : Value) (s' : Shared) : Prop := ∃ v H', Inv X pins σ H' s' ∧ RelV v u ∧ Q v H'
def TP (X : Cx) (pins : List (Addr × Obj)) (σ : St) (Q : Bool → Hp → Prop) (b : Bool) (s' : Shared) : Prop := ∃ H', Inv X pins σ H' s' ∧ Q b H'
def AP (X : Cx) (pins : List (Addr × Obj)) (σ : St) (Q : List V → Hp → Prop) (us : List Value) (s' : Shared) : Prop := ∃ vs H', Inv X pins σ H' s' ∧ Vals vs us ∧ Q vs H'
def SP (X : Cx) (pins : List (Addr × Obj)) (D : Ends) (f : Flow) (s' : Shared) : Prop :=
  match f with
  | .next => ∃ σ' H', Inv X pins σ' H' s' ∧ D.nx σ' H'
  | .brk => ∃ σ' H', Inv X pins σ' H' s' ∧ D.bk σ' H'
  | .cont => ∃ σ' H', Inv X pins σ' H' s' ∧ D.ct σ' H'
  | .ret u => ∃ v σ' H', Inv X pins σ' H' s' ∧ RelV v u ∧ D.rt v H'
def PE (X : Cx) (e : Expr) (t : TE) : Prop :=
  ∀ (pins : List (Addr × Obj)) (s : Shared) (σ : St) (H : Hp) (Q : VK), Inv X pins σ H s → t σ H Q → wpAny (model X.prog X.w) X.A (eval e X.env) (EP X pins σ Q) X.xe s
def PT (X : Cx) (e : Expr) (t : TT) : Prop :=
  ∀ (pins : List (Addr × Obj)) (s : Shared) (σ : St) (H : Hp) (Q : Bool → Hp → Prop), Inv X pins σ H s → t σ H Q → wpAny (model X.prog X.w) X.A (isTrue e X.env (eval e X.env)) (TP X pins σ Q) X.xe s
def PW (X : Cx) (e : Expr) (t : TT) : Prop :=
  ∀ (whole : Sem Value) (pins : List (Addr × Obj)) (s : Shared) (σ : St) (H : Hp) (Q : Bool → Hp → Prop), Inv X pins σ H s → t σ H Q → wpAny (model X.prog X.w) X.A (isTrue e X.env whole) (TP X pins σ Q) X.xe s
theorem PW.pt {X : Cx} {e : Expr} {t : TT} (h : PW X e t) : PT X e t := h _
def PA (X : Cx) (es : List Expr) (t : TA) : Prop :=
  ∀ (pos : Pos) (pins : List (Addr × Obj)) (s : Shared) (σ : St) (H : Hp) (Q : List V → Hp → Prop), Inv X pins σ H s → t σ H Q → wpAny (model X.prog X.w) X.A (spliced (backTo pos (starEach es X.env))) (AP X pins σ Q) X.xe s
def PS (X : Cx) (st : Stmt) (t : TS) : Prop :=
  ∀ (pins : List (Addr × Obj)) (s : Shared) (σ : St) (H : Hp) (D : Ends), Inv X pins σ H s → t D σ H → wpAny (model X.prog X.w) X.A (exec st X.env) (SP X pins D) X.xe s
def PSs (X : Cx) (st : List Stmt) (t : TS) : Prop :=
  ∀ (pins : List (Addr × Obj)) (s : Shared) (σ : St) (H : Hp) (D : Ends), Inv X pins σ H s → t D σ H → wpAny (model X.prog X.w) X.A (execs st X.env) (SP X pins D) X.xe s
theorem thn {α : Type} {t : Sem α} {Q Q' : α → Shared → Prop} {M : Model} {A : Around} {E : Value → Shared → Prop} {s : Shared} (h : wpAny M A t Q E s) (hQ : ∀ a s, Q a s → Q' a s) : wpAny M A t Q' E s := wpAny_mono h hQ fun _ _ x => x
end L2
namespace L2
open PySem PySem.Spec PyProof.Rows
section
variable {X : Cx}
def tVar (i : Nat) : TE := fun σ H Q => ∃ v, σ[i]? = some (some v) ∧ Q v H
def tC (v : V) : TE := fun _ H Q => Q v H
theorem pe_var {i : Nat} {x : Str} {pos : Pos} (hN : X.N[i]? = some x) (hv : Vis X.env.scope x) (hd : (x == ("__debug__" : Str)) = false := by decide) (hcd : (x == ("__classdict__" : Str)) = false := by decide) : PE X (.Name x pos) (tVar i) := by
  intro pins s σ H Q I h
  obtain ⟨v, e, h⟩ := h
  obtain ⟨m, hn, hl⟩ := I.loc
  obtain ⟨u, r, l⟩ := hl i x v hN e hv
  have fin : EP X pins σ Q u s := ⟨v, H, I, r, h⟩
  rcases l with ⟨hk, hm⟩ | ⟨hk, c, hc, hcell⟩
  · exact wpAny_Name (wpAny_loadName_local I.ok.kind hk hn hm fin) hd
  · rcases hk with hk | hk
    · exact wpAny_Name (wpAny_loadName_cell I.ok.kind hk hc hcell fin) hd
    · exact wpAny_Name (wpAny_loadName_free I.ok.kind hk hc hcell fin hcd) hd
theorem pe_int {i j pos} : PE X (.Constant (.int i) j pos) (tC (.int i)) := fun _ _ _ H _ I h => wpAny_Constant_int ⟨.int i, H, I.tok _, ⟨_, rfl⟩, h⟩
theorem pe_bl {b j pos} : PE X (.Constant (.bool b) j pos) (tC (.bl b)) := fun _ _ _ H _ I h => Constant_bool ⟨.bl b, H, I, rfl, h⟩
theorem pe_non {j pos} : PE X (.Constant .none j pos) (tC .non) := fun _ _ _ H _ I h => Constant_none ⟨.non, H, I, rfl, h⟩
theorem pe_str {x j pos} : PE X (.Constant (.str x) j pos) (tC (.str x)) := fun _ _ _ H _ I h => Calls.Constant_str ⟨.str x, H, I.tok _, ⟨_, rfl⟩, h⟩
def Gl (X : Cx) (x : Str) : Prop := X.env.kindOf x = some .globalImplicit
theorem ld_glob {E : Value → Shared → Prop} {pins : List (Addr × Obj)} {s : Shared} {σ : St} {H : Hp} {x : Str} {u : Value} {pos : Pos} {Q : Value → Shared → Prop} (I : Inv X pins σ H s) (hg : Gl X x) (hm : X.mg x = some u) (h : Q u s)
    (hd : (x == ("__debug__" : Str)) = false := by decide) : wpAny (model X.prog X.w) X.A (eval (.Name x pos) X.env) Q E s :=
  Calls.Name_function_global I.ok.kind hg (Calls.loadGlobal_global (by rw [I.ok.glob]; exact I.mod.glob.keeps I.bk) hm h) hd
theorem ld_blt {E : Value → Shared → Prop} {pins : List (Addr × Obj)} {s : Shared} {σ : St} {H : Hp} {x : Str} {u : Value} {pos : Pos} {Q : Value → Shared → Prop} (I : Inv X pins σ H s) (hg : Gl X x) (hm : X.mg x = none) (hv : bootBuiltins x = some u) (h : Q u s)
    (hn : x ≠ "__name__" := by decide) (hd : (x == ("__debug__" : Str)) = false := by decide) : wpAny (model X.prog X.w) X.A (eval (.Name x pos) X.env) Q E s := by
  obtain ⟨mb, h1, h2⟩ := I.mod.blt
  exact Calls.Name_function_global I.ok.kind hg (Calls.loadGlobal_builtin (by rw [I.ok.glob]; exact I.mod.glob.keeps I.bk) hm (by rw [I.ok.blt]; exact h1.keeps I.bk) ((h2 x hn).trans hv) h) hd
theorem pe_glob {x : Str} {v : V} {u : Value} {pos : Pos} (hg : Gl X x) (hm : X.mg x = some u) (r : RelV v u) (hd : (x == ("__debug__" : Str)) = false := by decide) : PE X (.Name x pos) (tC v) :=
  fun _ _ _ H _ I h => ld_glob I hg hm ⟨v, H, I, r, h⟩ hd
theorem pe_bltn {x : Str} {v : V} {u : Value} {pos : Pos} (hg : Gl X x) (hm : X.mg x = none) (hv : bootBuiltins x = some u) (r : RelV v u) (hn : x ≠ "__name__" := by decide) (hd : (x == ("__debug__" : Str)) = false := by decide) : PE X (.Name x pos) (tC v) :=
  fun _ _ _ H _ I h => ld_blt I hg hm hv ⟨v, H, I, r, h⟩ hn hd
variable {a b : Expr} {ta tb : TE} {pos : Pos}
theorem nobehind (b : Expr) {op : CmpOp} (h : op ≠ .In) (h2 : op ≠ .NotIn) : behindInMarks op b = false := by
  have e1 : (op == CmpOp.In) = false := by cases op <;> first | rfl | exact absurd rfl h
  have e2 : (op == CmpOp.NotIn) = false := by cases op <;> first | rfl | exact absurd rfl h2
  cases b <;> simp [behindInMarks, e1, e2]
variable {tA tB' : TT} {rest : List Expr}
def tAnd (t u : TT) : TT := fun σ H Q => t σ H fun c H1 => if c = true then u σ H1 Q else Q false H1
def tOr (t u : TT) : TT := fun σ H Q => t σ H fun c H1 => if c = true then Q true H1 else u σ H1 Q
def tNot (t : TT) : TT := fun σ H Q => t σ H fun c H1 => Q (!c) H1
theorem pw_and1 (ha : PT X a tA) : PW X (.BoolOp .And [a] pos) tA := by
  intro wh pins s σ H Q I h
  refine isTrue_and (thn (ha pins s σ H Q I h) fun c s1 e => ?_)
  cases c with
  | true => exact isTrue_and_nil e
  | false => exact e
theorem pw_or1 (ha : PT X a tA) : PW X (.BoolOp .Or [a] pos) tA := by
  intro wh pins s σ H Q I h
  refine isTrue_or (thn (ha pins s σ H Q I h) fun c s1 e => ?_)
  cases c with
  | false => exact isTrue_or_nil e
  | true => exact e
theorem pw_and (ha : PT X a tA) (hb : PW X (.BoolOp .And (b :: rest) pos) tB') : PW X (.BoolOp .And (a :: b :: rest) pos) (tAnd tA tB') := by
  intro wh pins s σ H Q I h
  refine isTrue_and (thn (ha pins s σ H _ I h) fun c s1 ⟨H1, I1, q1⟩ => ?_)
  cases c with
  | true => exact hb wh pins s1 σ H1 Q I1 q1
  | false => exact ⟨H1, I1, q1⟩
theorem pw_or (ha : PT X a tA) (hb : PW X (.BoolOp .Or (b :: rest) pos) tB') : PW X (.BoolOp .Or (a :: b :: rest) pos) (tOr tA tB') := by
  intro wh pins s σ H Q I h
  refine isTrue_or (thn (ha pins s σ H _ I h) fun c s1 ⟨H1, I1, q1⟩ => ?_)
  cases c with
  | true => exact ⟨H1, I1, q1⟩
  | false => exact hb wh pins s1 σ H1 Q I1 q1
theorem pt_not (ha : PT X a tA) : PT X (.UnaryOp .Not a pos) (tNot tA) := by
  intro pins s σ H Q I h
  exact isTrue_not (ha pins s σ H (fun c H1 => Q (!c) H1) I h)
def tAndV (ta tb : TE) : TE := fun σ H Q => ta σ H fun x H1 => ∃ c, x = .bl c ∧ if c = true then tb σ H1 Q else Q (.bl false) H1
def tNotV (ta : TE) : TE := fun σ H Q => ta σ H fun x H1 => ∃ c, x = .bl c ∧ Q (.bl (!c)) H1
theorem pe_one {op} {t : TE} (h : PE X a t) : PE X (.BoolOp op [a] pos) t := fun pins s σ H Q I hw => BoolOp_one (h pins s σ H Q I hw)
theorem pe_and (ha : PE X a ta) (hb : PE X (.BoolOp .And (b :: rest) pos) tb) : PE X (.BoolOp .And (a :: b :: rest) pos) (tAndV ta tb) := by
  intro pins s σ H Q I h
  refine BoolOp_and (thn (ha pins s σ H _ I h) fun v s1 ⟨x, H1, I1, r1, q1⟩ => ?_)
  obtain ⟨c, rfl, q1⟩ := q1
  cases r1
  refine wpAny_truthy_bool ?_
  cases c with
  | true => exact hb pins s1 σ H1 Q I1 q1
  | false => exact ⟨.bl false, H1, I1, rfl, q1⟩
theorem pe_not (ha : PE X a ta) : PE X (.UnaryOp .Not a pos) (tNotV ta) := by
  intro pins s σ H Q I h
  refine UnaryOp_ (thn (ha pins s σ H _ I h) fun v s1 ⟨x, H1, I1, r1, q1⟩ => ?_)
  obtain ⟨c, rfl, q1⟩ := q1
  cases r1
  exact not_of (wpAny_truthy_bool ⟨.bl (!c), H1, I1, rfl, q1⟩)
def tIf (t : TT) (ta tb : TE) : TE := fun σ H Q => t σ H fun c H1 => if c = true then ta σ H1 Q else tb σ H1 Q
theorem pe_ifExp {c : Expr} (hc : PT X c tA) (ha : PE X a ta) (hb : PE X b tb) : PE X (.IfExp c a b pos) (tIf tA ta tb) := by
  intro pins s σ H Q I h
  refine wpAny_IfExp (thn (hc pins s σ H _ I h) fun d s1 ⟨H1, I1, q1⟩ => ?_)
  cases d with
  | true => exact ha pins s1 σ H1 Q I1 q1
  | false => exact hb pins s1 σ H1 Q I1 q1
end
end L2
namespace L2
open PySem PySem.Spec PyProof.Rows
def SqL (K : PySem.W.Frag) (H : Hp) (a : Addr) (xs : List V) : Prop :=
  Rd H a (.lst xs) ∨
    ∃ (o : Obj) (its : Array Value) (n : Nat), K.lookup a = some o ∧ o.cls = .type "list" ∧ o.dict = none ∧ o.data = .seq its n ∧ its.size ≤ sizeLine ∧ Vals xs its.toList
def SqT (K : PySem.W.Frag) (H : Hp) (a : Addr) (xs : List V) : Prop :=
  Rd H a (.tup xs) ∨
    ∃ (o : Obj) (its : Array Value) (n : Nat), K.lookup a = some o ∧ o.cls = .type "tuple" ∧ o.dict = none ∧ o.data = .seq its n ∧ its.size ≤ sizeLine ∧ Vals xs its.toList
def absV : Value → Option V
  | .none => some .non
  | .bool b => some (.bl b)
  | .int i _ => some (.int i)
  | .str x _ => some (.str x)
  | .bytes b _ => some (.byt b)
  | .float b _ => some (.flt b)
  | .ref a => some (.ref a)
  | .type n => some (.ty n)
  | _ => none
theorem RelV.abs {x : V} {u : Value} (r : RelV x u) : absV u = some x := by
  cases x with
  | non => cases r; rfl
  | bl _ => cases r; rfl
  | int _ => obtain ⟨t, rfl⟩ := r; rfl
  | str _ => obtain ⟨t, rfl⟩ := r; rfl
  | byt _ => obtain ⟨t, rfl⟩ := r; rfl
  | flt _ => obtain ⟨t, rfl⟩ := r; rfl
  | ref _ => cases r; rfl
  | ty _ => cases r; rfl
theorem RelV.inj {x y : V} {u : Value} (r : RelV x u) (q : RelV y u) : x = y := Option.some.inj (r.abs.symm.trans q.abs)
theorem Vals.inj : ∀ {xs ys : List V} {us : List Value}, Vals xs us → Vals ys us → xs = ys
  | _, _, _, .nil, .nil => rfl
  | _, _, _, .cons r t, .cons r' t' => by rw [r.inj r', Vals.inj t t']
section
variable {X : Cx} {pins : List (Addr × Obj)} {σ : St} {H : Hp} {s : Shared} {a : Addr} {xs ys : List V}
theorem SqL.of {K : PySem.W.Frag} (h : H a = some (.lst xs)) : SqL K H a xs := .inl (.inl h)
theorem SqT.of {K : PySem.W.Frag} (h : H a = some (.tup xs)) : SqT K H a xs := .inl (.inl h)
theorem Inv.list (I : Inv X pins σ H s) (h : SqL X.K H a xs) : ∃ its : List Value, Vals xs its ∧ PlainL s.heap a its.toArray ∧ xs.length ≤ sizeLine := by
  rcases h with h | ⟨o, its, n, hk, hc, hd, hs, hz, r⟩
  · obtain ⟨z, its, n, r, e⟩ := h.ok I.hok
    exact ⟨its, r, ⟨_, n, e, rfl, rfl, rfl⟩, z⟩
  · refine ⟨its.toList, r, ⟨o, n, I.kIn a o hk, hc, hd, by simpa using hs⟩, ?_⟩
    have e := r.length
    simp only [Array.length_toList] at e
    omega
theorem Inv.tuple (I : Inv X pins σ H s) (h : SqT X.K H a xs) : ∃ its : List Value, Vals xs its ∧ IsTup s.heap a its.toArray ∧ xs.length ≤ sizeLine := by
  rcases h with h | ⟨o, its, n, hk, hc, hdd, hs, hz, r⟩
  · obtain ⟨z, its, r, p⟩ := h.ok I.hok
    exact ⟨its, r, p.tup, z⟩
  · refine ⟨its.toList, r, ⟨o, I.kIn a o hk, hc, n, by simpa using hs⟩, ?_⟩
    have e := r.length
    simp only [Array.length_toList] at e
    omega
theorem Inv.tupleN (I : Inv X pins σ H s) (h : SqT X.K H a xs) : ∃ its : List Value, Vals xs its ∧ IsTupN s.heap a its.toArray ∧ xs.length ≤ sizeLine := by
  rcases h with h | ⟨o, its, n, hk, hc, hdd, hs, hz, r⟩
  · obtain ⟨z, its, r, p⟩ := h.ok I.hok
    exact ⟨its, r, p, z⟩
  · refine ⟨its.toList, r, ⟨o, I.kIn a o hk, hc, ⟨n, by simpa using hs⟩, hdd⟩, ?_⟩
    have e := r.length
    simp only [Array.length_toList] at e
    omega
theorem Inv.list_inj (I : Inv X pins σ H s) (h : SqL X.K H a xs) (h' : SqL X.K H a ys) : xs = ys := by
  obtain ⟨its, r, ⟨o, n, e, _, _, d⟩, _⟩ := I.list h
  obtain ⟨its', r', ⟨o', n', e', _, _, d'⟩, _⟩ := I.list h'
  rw [e] at e'; cases e'
  rw [d] at d'
  injection d' with d1 _
  have : its = its' := by simpa using congrArg Array.toList d1
  subst this
  exact r.inj r'
theorem Inv.tuple_inj (I : Inv X pins σ H s) (h : SqT X.K H a xs) (h' : SqT X.K H a ys) : xs = ys := by
  obtain ⟨its, r, ⟨o, e, _, n, d⟩, _⟩ := I.tuple h
  obtain ⟨its', r', ⟨o', e', _, n', d'⟩, _⟩ := I.tuple h'
  rw [e] at e'; cases e'
  rw [d] at d'
  injection d' with d1 _
  have : its = its' := by simpa using congrArg Array.toList d1
  subst this
  exact r.inj r'
end
abbrev Cx.wish (X : Cx) (E : Value → Shared → Prop) : Cx := { X with xe := E }
abbrev Cx.nox (X : Cx) : Cx := X.wish fun _ _ => False
theorem Cx.Ok.wish {X : Cx} (ok : X.Ok) (E : Value → Shared → Prop) : (X.wish E).Ok :=
  ⟨ok.mod, ok.kind, ok.glob, ok.blt, ok.above, ok.inj, ok.has, ok.cab, ok.hd, ok.frames, ok.stk, ok.exf, ok.bs, ok.bsz, ok.noex, ok.exfs, ok.funs, ok.frf⟩
theorem Cx.Ok.unwish {X : Cx} {E : Value → Shared → Prop} (ok : (X.wish E).Ok) : X.Ok :=
  ⟨ok.mod, ok.kind, ok.glob, ok.blt, ok.above, ok.inj, ok.has, ok.cab, ok.hd, ok.frames, ok.stk, ok.exf, ok.bs, ok.bsz, ok.noex, ok.exfs, ok.funs, ok.frf⟩
section
variable {X : Cx} {pins : List (Addr × Obj)} {σ : St} {H : Hp} {s : Shared} {E : Value → Shared → Prop}
theorem Inv.wish (I : Inv X pins σ H s) (E : Value → Shared → Prop) : Inv (X.wish E) pins σ H s := ⟨I.ok.wish E, I.os, I.bare, I.base, I.loc, I.cell, I.free, I.freeC, I.pin, I.hok, I.len⟩
theorem Inv.unwish (I : Inv (X.wish E) pins σ H s) : Inv X pins σ H s := ⟨I.ok.unwish, I.os, I.bare, I.base, I.loc, I.cell, I.free, I.freeC, I.pin, I.hok, I.len⟩
theorem SP.unwish {D : Ends} {f : Flow} {s' : Shared} (h : SP (X.wish E) pins D f s') : SP X pins D f s' := by
  cases f with
  | next => obtain ⟨σ', H', I, q⟩ := h; exact ⟨σ', H', I.unwish, q⟩
  | brk => obtain ⟨σ', H', I, q⟩ := h; exact ⟨σ', H', I.unwish, q⟩
  | cont => obtain ⟨σ', H', I, q⟩ := h; exact ⟨σ', H', I.unwish, q⟩
  | ret u => obtain ⟨v, σ', H', I, r, q⟩ := h; exact ⟨v, σ', H', I.unwish, r, q⟩
theorem PSs.nox {st : List Stmt} {t : TS} (h : PSs X.nox st t) : PSs X st t := fun pins s σ H D I hw =>
  wpAny_mono (h pins s σ H D (I.wish _) hw) (fun _ _ q => q.unwish) fun _ _ z => False.elim z
end
section
variable {X : Cx} {st : Stmt} {rest : List Stmt} {t u : TS} {e : Expr} {te : TE} {pos : Pos}
def tNext : TS := fun D σ H => D.nx σ H
def tSeq (t u : TS) : TS := fun D σ H => t { D with nx := u D } σ H
theorem pss_nil : PSs X [] tNext := fun _ _ σ H _ I h => wpAny_execs_nil ⟨σ, H, I, h⟩
theorem pss_cons (h1 : PS X st t) (h2 : PSs X rest u) : PSs X (st :: rest) (tSeq t u) := by
  intro pins s σ H D I h
  refine wpAny_execs_cons (thn (h1 pins s σ H { D with nx := u D } I h) fun f s1 q => ?_)
  cases f with
  | next =>
    obtain ⟨σ', H', I', q⟩ := q
    exact h2 pins s1 σ' H' D I' q
  | ret v => exact q
  | brk => exact q
  | cont => exact q
theorem pss_one (h1 : PS X st t) : PSs X [st] t := by
  intro pins s σ H D I h
  refine wpAny_execs_cons (thn (h1 pins s σ H D I h) fun f s1 q => ?_)
  cases f with
  | next => exact wpAny_execs_nil q
  | ret v => exact q
  | brk => exact q
  | cont => exact q
def tRet (te : TE) : TS := fun D σ H => te σ H D.rt
theorem ps_ret (he : PE X e te) : PS X (.Return (some e) pos) (tRet te) := by
  intro pins s σ H D I h
  exact wpAny_Return_some (thn (he pins s σ H _ I h) fun v s1 ⟨x, H1, I1, r1, q1⟩ => ⟨x, σ, H1, I1, r1, q1⟩)
def tIfS (c : TT) (t u : TS) : TS := fun D σ H => c σ H fun b H1 => if b = true then t D σ H1 else u D σ H1
theorem ps_if {c : Expr} {a b : List Stmt} {tc : TT} (hc : PT X c tc) (ha : PSs X a t) (hb : PSs X b u) : PS X (.If c a b pos) (tIfS tc t u) := by
  intro pins s σ H D I h
  refine wpAny_If (thn (hc pins s σ H _ I h) fun d s1 ⟨H1, I1, q1⟩ => ?_)
  cases d with
  | true => exact ha pins s1 σ H1 D I1 q1
  | false => exact hb pins s1 σ H1 D I1 q1
end
abbrev TG := V → St → Hp → (St → Hp → Prop) → Prop
def PG (X : Cx) (target : Expr) (t : TG) : Prop :=
  ∀ (pins : List (Addr × Obj)) (s : Shared) (σ : St) (H : Hp) (v : V) (u : Value) (Q : St → Hp → Prop), Inv X pins σ H s → RelV v u → t v σ H Q →
    wpAny (model X.prog X.w) X.A (assign target X.env u) (fun _ s' => ∃ σ' H', Inv X pins σ' H' s' ∧ Q σ' H') X.xe s
abbrev TSet := V → V → V → Hp → (Hp → Prop) → Prop
def PSet (X : Cx) (t : TSet) : Prop :=
  ∀ (pins : List (Addr × Obj)) (s : Shared) (σ : St) (H : Hp) (o i v : V) (ov iv u : Value) (Q : Hp → Prop), Inv X pins σ H s → RelV o ov → RelV i iv → RelV v u → t o i v H Q →
    wpAny (model X.prog X.w) X.A (setItem ov iv u) (fun _ s' => ∃ H', Inv X pins σ H' s' ∧ Q H') X.xe s
section
variable {X : Cx} {pos : Pos}
def gName (i : Nat) : TG := fun v σ H Q => Q (σ.set i (some v)) H
theorem pg_name {i : Nat} {x : Str} (hN : X.N.Nodup) (hi : X.N[i]? = some x) (hx : Loc X.env.scope x) (hf : X.fn x = true ∨ X.env.scope.names.lookup x = some .local := by first | exact .inl rfl | exact .inr rfl | assumption) : PG X (.Name x pos) (gName i) := by
  intro pins s σ H v u Q I r h
  exact wpAny_assign_Name (store_ok I hN hi hx r (fun s' I' => ⟨_, H, I', h⟩) hf)
def gSub (to ti : TE) (t : TSet) : TG := fun v σ H Q => to σ H fun o H1 => ti σ H1 fun i H2 => t o i v H2 fun H3 => Q σ H3
theorem pg_sub {o i : Expr} {to ti : TE} {t : TSet} (ho : PE X o to) (hi : PE X i ti) (hs : PSet X t)
    (ha : ∀ v, assign (.Subscript o i pos) X.env v = (do
      let ov ← holding [v] (eval o X.env)
      let iv ← holding [v, ov] (eval i X.env)
      standAt pos
      holding [v, ov, iv] (setItem ov iv v)
      release [v, ov, iv] []) := by intro _; rfl) : PG X (.Subscript o i pos) (gSub to ti t) := by
  intro pins s σ H v u Q I r h
  rw [ha]
  refine wpAny_bind (wpAny_holding (thn (ho pins s σ H _ I h) fun ov s1 ⟨x, H1, I1, r1, q1⟩ => ?_))
  refine wpAny_bind (wpAny_holding (thn (hi pins s1 σ H1 _ I1 q1) fun iv s2 ⟨y, H2, I2, r2, q2⟩ => ?_))
  refine wpAny_bind (wpAny_standAt (wpAny_bind (wpAny_holding (thn (hs pins s2 σ H2 x y v ov iv u _ I2 r1 r2 r q2) fun _ s3 ⟨H3, I3, q3⟩ => ?_))))
  exact wpAny_release ⟨σ, H3, I3, q3⟩
def tAsg (te : TE) (g : TG) : TS := fun D σ H => te σ H fun x H1 => g x σ H1 D.nx
theorem ps_asg {tg e : Expr} {te : TE} {g : TG} (he : PE X e te) (hg : PG X tg g) (hs : swapsWithSole [tg] e pos.line X.env = pure false := by rfl) (hw : swappedStores [tg] e X.env = pure none := by rfl)
    (h1 : (assignEach [tg] X.env).map (·.2) = [assign tg X.env] := by rfl) : PS X (.Assign [tg] e pos) (tAsg te g) := by
  intro pins s σ H D I h
  refine wpAny_Assign_stores (thn (he pins s σ H _ I h) fun v s1 ⟨x, H1, I1, r1, q1⟩ => ?_) hs hw
  rw [h1]
  exact thn (hg pins s1 σ H1 x v _ I1 r1 q1) fun _ s2 q => q
theorem ps_set {i : Nat} {x : Str} {e : Expr} {te : TE} {pos' : Pos} (hN : X.N.Nodup) (hi : X.N[i]? = some x) (hx : Loc X.env.scope x) (he : PE X e te) (hs : swapsWith e (some (.Name x pos')) pos.line X.env = pure false := by rfl) (hf : X.fn x = true ∨ X.env.scope.names.lookup x = some .local := by first | exact .inl rfl | exact .inr rfl | assumption) :
    PS X (.Assign [.Name x pos'] e pos) (tAsg te (gName i)) := by
  intro pins s σ H D I h
  refine wpAny_Assign_Name (thn (he pins s σ H _ I h) fun v s1 ⟨y, H1, I1, r1, q1⟩ => ?_) hs
  exact store_ok I1 hN hi hx r1 (fun s2 I2 => ⟨_, H1, I2, q1⟩) hf
end
section
variable {X : Cx} {pos : Pos}
end
structure It where
  go : Nat → Hp → Prop
  yld : Nat → Hp → V → Hp → Prop
  stop : Nat → Hp → Prop
def FpOk (X : Cx) (pins : List (Addr × Obj)) (H : Hp) (b : Addr) : Prop :=
  H b = none ∧ b ≠ X.env.locals ∧ b ∉ X.fs ∧ (b ∈ X.ex ∨ X.s₀.heap.objs.size ≤ b) ∧ (∀ x c, X.env.cells.lookup x = some c → c ≠ b) ∧ ∀ p ∈ X.pn ++ pins, p.1 ≠ b
theorem Inv.fpOk {X : Cx} {pins : List (Addr × Obj)} {σ : St} {H H' : Hp} {s : Shared} {b : Addr} (I : Inv X pins σ H s) (hb : s.heap.objs.size ≤ b) (hn : H' b = none) : FpOk X pins H' b := by
  refine ⟨hn, Nat.ne_of_gt (Nat.lt_of_lt_of_le I.lt hb), I.nofs hb, .inr (Nat.le_trans I.sz hb), fun x c e z => ?_, fun p hp z => ?_⟩
  · obtain ⟨v, q⟩ := I.cell x c e
    exact absurd (Nat.lt_of_lt_of_le q.lt (by rw [z]; exact hb)) (Nat.lt_irrefl _)
  · exact absurd (Nat.lt_of_lt_of_le (Heap.lt_size (I.pin p hp).1) (by rw [z]; exact hb)) (Nat.lt_irrefl _)
structure Turn (P : Program) (w : World) (K : PySem.W.Frag) (tg : Expr) (J : It) (fp : List Addr) (it : Addr) (tn : Nat → Heap → Prop) : Prop where
  mem : it ∈ fp
  obj : ∀ i h, tn i h → ∀ b ∈ fp, ∃ o, h.get? b = some o ∧ ∀ v, o.data ≠ .cell v
  keep : ∀ i h h', tn i h → (∀ b ∈ fp, ∀ o, h.get? b = some o → h'.get? b = some o) → tn i h'
  item : ∀ (X : Cx), X.prog = P → X.w = w → X.K = K → X.calm = true → ∀ (i : Nat) (pins : List (Addr × Obj)) (s : Shared) (σ : St) (H : Hp) (E : Value → Shared → Prop), Inv X pins σ H s → (∀ b ∈ fp, FpOk X pins H b) → tn i s.heap → J.go i H →
    wpAny (model P w) X.A (pyNext (.ref it)) (fun r s1 => ∃ u, r = some u ∧
      wpAny (model P w) X.A (letOwnedTupleGo tg (.ref it) u) (fun _ s2 => ∃ x H', Inv X pins σ H' s2 ∧ RelV x u ∧ J.yld i H x H' ∧ tn (i + 1) s2.heap ∧ ∀ b ∈ fp, H' b = none) E s1) E s
  done : ∀ (X : Cx), X.prog = P → X.w = w → X.K = K → X.calm = true → ∀ (i : Nat) (pins : List (Addr × Obj)) (s : Shared) (σ : St) (H : Hp) (E : Value → Shared → Prop), Inv X pins σ H s → (∀ b ∈ fp, FpOk X pins H b) → tn i s.heap → J.stop i H →
    wpAny (model P w) X.A (pyNext (.ref it)) (fun r s1 => r = none ∧ Inv X pins σ H s1) E s
  self : ∀ (A : Around) (i : Nat) (s : Shared) (Q : Value → Shared → Prop) (E : Value → Shared → Prop), tn i s.heap → Q (.ref it) s → wpAny (model P w) A (pyIter (.ref it)) Q E s
abbrev TI := St → Hp → (It → Hp → Prop) → Prop
def PIE (X : Cx) (pins : List (Addr × Obj)) (σ : St) (tg : Expr) (R : It → Hp → Prop) (itv : Value) (s2 : Shared) : Prop :=
  ∃ (it : Addr) (fp : List Addr) (tn : Nat → Heap → Prop) (J : It) (H' : Hp), itv = .ref it ∧ Inv X pins σ H' s2 ∧ Turn X.prog X.w X.K tg J fp it tn ∧ tn 0 s2.heap ∧ (∀ b ∈ fp, FpOk X pins H' b) ∧ R J H'
def PI (X : Cx) (tg iter : Expr) (wi : TI) : Prop :=
  ∀ (pins : List (Addr × Obj)) (s : Shared) (σ : St) (H : Hp) (R : It → Hp → Prop), Inv X pins σ H s → wi σ H R →
    wpAny (model X.prog X.w) X.A (eval iter X.env) (fun v s1 => wpAny (model X.prog X.w) X.A (pyIter v) (PIE X pins σ tg R) X.xe s1) X.xe s
theorem go_of {M : Model} {A : Around} {E : Value → Shared → Prop} {s : Shared} {tg : Expr} {it : Addr} {u : Value} {o : Obj} {n : String} {vs : Array Value} {Q : Unit → Shared → Prop} (ho : s.heap.get? it = some o) (hc : o.cls = .type n) (hd : o.data = .fields vs)
    (hn : ["enumerate", "zip", "dict_itemiterator", "dict_reverseitemiterator", "odict_iterator", "itertools.zip_longest", "itertools.pairwise"].contains n = false) (hQ : Q () s) : wpAny M A (letOwnedTupleGo tg (.ref it) u) Q E s := by
  unfold letOwnedTupleGo
  cases tg <;> first
    | exact wpAny_pure hQ
    | (cases u <;> first
        | exact wpAny_pure hQ
        | (refine wpAny_bind (wpAny_load ho ?_)
           rw [hc, hd]
           show wpAny M A (if (["enumerate", "zip", "dict_itemiterator", "dict_reverseitemiterator", "odict_iterator", "itertools.zip_longest", "itertools.pairwise"].contains n && vs[0]? == some (rawInt _)) = true then _ else _) Q E s
           rw [if_neg (by intro h; rw [hn, Bool.false_and] at h; cases h)]
           exact wpAny_pure hQ))
def Itl (K : PySem.W.Frag) (a : Addr) : It :=
  ⟨fun i H => ∃ xs x, SqL K H a xs ∧ xs[i]? = some x, fun i H x H' => H' = H ∧ ∀ xs, SqL K H a xs → xs[i]? = some x, fun i H => ∃ xs, SqL K H a xs ∧ xs.length ≤ i⟩
def Itt (K : PySem.W.Frag) (a : Addr) : It :=
  ⟨fun i H => ∃ xs x, SqT K H a xs ∧ xs[i]? = some x, fun i H x H' => H' = H ∧ ∀ xs, SqT K H a xs → xs[i]? = some x, fun i H => ∃ xs, SqT K H a xs ∧ xs.length ≤ i⟩
def Itr (lo : Int) (n : Nat) : It := ⟨fun i _ => i < n, fun i H x H' => H' = H ∧ x = .int (lo + i), fun i _ => n ≤ i⟩
theorem turn_list {P : Program} {w : World} {K : PySem.W.Frag} {tg : Expr} (a it : Addr) : Turn P w K tg (Itl K a) [it] it (fun i h => h.IsListIter it a i) where
  mem := by simp
  obj := fun i h st b hb => by
    have e : b = it := by simpa using hb
    subst e
    obtain ⟨o, e, c, d⟩ := st
    exact ⟨o, e, fun v z => by rw [d] at z; cases z⟩
  keep := fun i h h' st k => st.at fun o e => k it (by simp) o e
  item := by
    intro X hP hw hK hc i pins s σ H E I hf st hg
    subst hP hw hK
    obtain ⟨xs, x, hq, hx⟩ := hg
    obtain ⟨its, rv, p, hz⟩ := I.list hq
    obtain ⟨u, hu, ru⟩ := rv.get hx
    obtain ⟨f0, f1, f2, f3, f4, f5⟩ := hf it (by simp)
    refine wpAny_pyNext_list_item st p.isList (x := u) (by simpa using hu) fun h' st' sb => ?_
    have I1 : Inv X pins σ H { s with heap := h' } := I.turned (t' := s.toks) (fun b o hb e => (sb.2 b hb).trans e) f0 f1 f3 f4 f5
    obtain ⟨o, e, c, d⟩ := id st'
    exact ⟨u, rfl, go_of (s := { s with heap := h' }) e c d (by decide) ⟨x, H, I1, ru, ⟨rfl, fun ys hy => by rw [I.list_inj hy hq]; exact hx⟩, st', fun b hb => (hf b hb).1⟩⟩
  done := by
    intro X hP hw hK hc i pins s σ H E I hf st hg
    subst hP hw hK
    obtain ⟨xs, hq, hx⟩ := hg
    obtain ⟨its, rv, p, hz⟩ := I.list hq
    obtain ⟨f0, f1, f2, f3, f4, f5⟩ := hf it (by simp)
    have hl := rv.length
    exact wpAny_pyNext_list_end (I.ok.hd hc) st p.isList (by simp; omega) fun h' eb => ⟨rfl, I.turned (t' := s.toks) (fun b o hb e => eb b o hb e) f0 f1 f3 f4 f5⟩
  self := fun _ _ _ _ _ st h => wpAny_pyIter_listiter st h
theorem turn_tuple {P : Program} {w : World} {K : PySem.W.Frag} {tg : Expr} (a it : Addr) : Turn P w K tg (Itt K a) [it] it (fun i h => h.IsTupleIter it a i) where
  mem := by simp
  obj := fun i h st b hb => by
    have e : b = it := by simpa using hb
    subst e
    obtain ⟨o, e, c, d⟩ := st
    exact ⟨o, e, fun v z => by rw [d] at z; cases z⟩
  keep := fun i h h' st k => st.at fun o e => k it (by simp) o e
  item := by
    intro X hP hw hK hc i pins s σ H E I hf st hg
    subst hP hw hK
    obtain ⟨xs, x, hq, hx⟩ := hg
    obtain ⟨its, rv, p, hz⟩ := I.tuple hq
    obtain ⟨u, hu, ru⟩ := rv.get hx
    obtain ⟨f0, f1, f2, f3, f4, f5⟩ := hf it (by simp)
    refine wpAny_pyNext_tuple_item st (show s.heap.IsTuple a its.toArray from p) (x := u) (by simpa using hu) fun h' st' sb => ?_
    have I1 : Inv X pins σ H { s with heap := h' } := I.turned (t' := s.toks) (fun b o hb e => (sb.2 b hb).trans e) f0 f1 f3 f4 f5
    obtain ⟨o, e, c, d⟩ := id st'
    exact ⟨u, rfl, go_of (s := { s with heap := h' }) e c d (by decide) ⟨x, H, I1, ru, ⟨rfl, fun ys hy => by rw [I.tuple_inj hy hq]; exact hx⟩, st', fun b hb => (hf b hb).1⟩⟩
  done := by
    intro X hP hw hK hc i pins s σ H E I hf st hg
    subst hP hw hK
    obtain ⟨xs, hq, hx⟩ := hg
    obtain ⟨its, rv, p, hz⟩ := I.tuple hq
    obtain ⟨f0, f1, f2, f3, f4, f5⟩ := hf it (by simp)
    have hl := rv.length
    exact wpAny_pyNext_tuple_end (I.ok.hd hc) st (show s.heap.IsTuple a its.toArray from p) (by simp; omega) fun h' eb => ⟨rfl, I.turned (t' := s.toks) (fun b o hb e => eb b o hb e) f0 f1 f3 f4 f5⟩
  self := fun _ _ _ _ _ st h => wpAny_pyIter_tupleiter st h
theorem turn_range {P : Program} {w : World} {K : PySem.W.Frag} {tg : Expr} (it : Addr) (lo : Int) (n : Nat) : Turn P w K tg (Itr lo n) [it] it (fun i h => IsRangeIter h it (lo + (i : Nat) * 1) ((n : Int) - (i : Nat)) 1) where
  mem := by simp
  obj := fun i h st b hb => by
    have e : b = it := by simpa using hb
    subst e
    exact ⟨_, st, fun v z => by
      have z' : Data.fields _ = Data.cell v := z
      cases z'⟩
  keep := fun i h h' st k => k it (by simp) _ st
  item := by
    intro X hP hw hK hc i pins s σ H E I hf st hg
    subst hP hw hK
    obtain ⟨f0, f1, f2, f3, f4, f5⟩ := hf it (by simp)
    have W := Walks.range (prog := X.prog) (w := X.w) (I.ok.hd hc) it lo 1 n
    refine W.item i s _ _ hg st fun v h' tk hv st' kk => ?_
    obtain ⟨t, rfl⟩ := hv
    have I1 : Inv X pins σ H { s with heap := h', toks := tk } := I.turned (fun b o hb e => kk b o (by simpa using hb) e) f0 f1 f3 f4 f5
    refine ⟨_, rfl, go_of (s := { s with heap := h', toks := tk }) (n := "range_iterator") st' rfl rfl (by decide) ⟨.int (lo + i), H, I1, ⟨t, ?_⟩, ⟨rfl, rfl⟩, st', fun b hb => (hf b hb).1⟩⟩
    rw [Int.mul_one]
  done := by
    intro X hP hw hK hc i pins s σ H E I hf st hg
    subst hP hw hK
    obtain ⟨f0, f1, f2, f3, f4, f5⟩ := hf it (by simp)
    exact wpAny_pyNext_range_end (I.ok.hd hc) st (by have : n ≤ i := hg; omega) fun h' eb => ⟨rfl, I.turned (t' := s.toks) (fun b o hb e => eb b o hb e) f0 f1 f3 f4 f5⟩
  self := fun _ _ _ _ _ st h => wpAny_pyIter_rangeiter st h
end L2
namespace L2
open PySem PySem.Spec PyProof.Rows
section
variable {X : Cx} {tg : Expr}
theorem range_it {pins : List (Addr × Obj)} {σ : St} {H : Hp} {s : Shared} {R : It → Hp → Prop} {E : Value → Shared → Prop} {lo hi : Int} {t u v : Tok} {tk : Nat} (I : Inv X pins σ H s) (h1 : -(2 ^ 62) ≤ lo) (h2 : lo < 2 ^ 62) (h3 : -(2 ^ 62) ≤ hi) (h4 : hi < 2 ^ 62)
    (q : R (Itr lo (hi - lo).toNat) H) : wpAny (model X.prog X.w) X.A (pyIter (.ref s.heap.objs.size)) (PIE X pins σ tg R) E { s with heap := s.heap.push { cls := .type "range", data := .fields #[.int lo t, .int hi u, .int 1 v] }, toks := tk } := by
  refine wpAny_pyIter_range (IsRange.new ..) (small_one h1 h2 h3 h4) ?_
  have I1 : Inv X pins σ H { s with heap := s.heap.push { cls := .type "range", data := .fields #[.int lo t, .int hi u, .int 1 v] }, toks := tk } := I.kept fun b o e => Heap.get?_push_of_some _ e
  refine ⟨(s.heap.push { cls := .type "range", data := .fields #[.int lo t, .int hi u, .int 1 v] }).objs.size, [(s.heap.push { cls := .type "range", data := .fields #[.int lo t, .int hi u, .int 1 v] }).objs.size], _, _, H, rfl,
    I1.kept (t' := tk) fun b o e => Heap.get?_push_of_some _ e, turn_range _ lo (hi - lo).toNat, ?_, fun b hb => ?_, q⟩
  · have e1 : lo + ((0 : Nat) : Int) * 1 = lo := by simp
    have e2 : (((hi - lo).toNat : Nat) : Int) - ((0 : Nat) : Int) = Builtin.Range.rangeSize lo hi 1 := by rw [rangeSize_one]; split <;> omega
    show IsRangeIter _ _ (lo + ((0 : Nat) : Int) * 1) ((((hi - lo).toNat : Nat) : Int) - ((0 : Nat) : Int)) 1
    rw [e1, e2]
    exact Heap.get?_push_size _ rfl
  · have e : b = (s.heap.push { cls := .type "range", data := .fields #[.int lo t, .int hi u, .int 1 v] }).objs.size := by simpa using hb
    subst e
    exact I1.fpOk (Nat.le_refl _) (I1.hok.fresh (Nat.le_refl _))
def iRng1 (ta : TA) : TI := fun σ H R => ta σ H fun vs H1 => ∃ j : Int, vs = [.int j] ∧ -(2 ^ 62) ≤ j ∧ j < 2 ^ 62 ∧ R (Itr 0 j.toNat) H1
theorem pi_range1 {a : Expr} {ta : TA} {p pos : Pos} (hg : Gl X "range") (hm : X.mg "range" = none) (ha : PA X [a] ta) (hs : starEach [a] X.env = [(false, eval a X.env)] := by rfl) : PI X tg (.Call (.Name "range" p) [a] [] pos) (iRng1 ta) := by
  intro pins s σ H R I h
  refine Call_ (ld_blt I hg hm boot_range (PyProof.Rows.callWith_type1 (thn (ha pos pins s σ H _ I h) fun us s1 ⟨vs, H1, I1, r1, q1⟩ => ?_) hs rfl))
  obtain ⟨j, e, q1, q2, q⟩ := q1
  subst e
  cases r1 with
  | cons r rr =>
    cases rr
    obtain ⟨t, rfl⟩ := r
    exact call_range_1 (range_it I1 (by omega) (by omega) q1 q2 (by simpa using q))
def tFor (wi : TI) (g : TG) (tb : TS) : TS := fun D σ H => wi σ H fun J H1 => ∃ W : Nat → Nat → St → Hp → Prop, (∃ m, W 0 m σ H1) ∧ ∀ i m σ H, W i m σ H →
  (J.stop i H ∧ D.nx σ H) ∨ (J.go i H ∧ ∃ N : St → Hp → Prop, (∀ σ' H', N σ' H' → ∃ m', m' < m ∧ W (i + 1) m' σ' H') ∧ ∀ x H', J.yld i H x H' → g x σ H' fun σ2 H2 => tb { D with nx := N, ct := N, bk := D.nx } σ2 H2)
def pinsAt (fp : List Addr) (h : Heap) : List (Addr × Obj) := fp.filterMap fun b => (h.get? b).map fun o => (b, o)
theorem mem_pinsAt {fp : List Addr} {h : Heap} {b : Addr} {o : Obj} (hb : b ∈ fp) (e : h.get? b = some o) : (b, o) ∈ pinsAt fp h := List.mem_filterMap.mpr ⟨b, hb, by rw [e]; rfl⟩
theorem of_pinsAt {fp : List Addr} {h : Heap} {p : Addr × Obj} (hp : p ∈ pinsAt fp h) : p.1 ∈ fp ∧ h.get? p.1 = some p.2 := by
  obtain ⟨b, hb, e⟩ := List.mem_filterMap.mp hp
  cases q : h.get? b with
  | none => rw [q] at e; cases e
  | some o =>
    rw [q] at e
    have e' : (b, o) = p := Option.some.inj e
    subst e'
    exact ⟨hb, q⟩
theorem Inv.pinned {pins : List (Addr × Obj)} {σ : St} {H : Hp} {s : Shared} {fp : List Addr} (I : Inv X pins σ H s) (hf : ∀ b ∈ fp, FpOk X pins H b) (ho : ∀ b ∈ fp, ∃ o, s.heap.get? b = some o ∧ ∀ v, o.data ≠ .cell v) : Inv X (pins ++ pinsAt fp s.heap) σ H s :=
  I.pins_of fun p hp => (List.mem_append.mp hp).elim (fun z => I.pin p (List.mem_append_right _ z)) fun z => by
    obtain ⟨hb, e⟩ := of_pinsAt z
    obtain ⟨f0, f1, f2, _⟩ := hf p.1 hb
    obtain ⟨o, e', d⟩ := ho p.1 hb
    rw [e] at e'; cases e'
    exact ⟨e, f0, f1, f2, d⟩
theorem Inv.unpinned {pins pl : List (Addr × Obj)} {σ : St} {H : Hp} {s : Shared} (I : Inv X (pins ++ pl) σ H s) : Inv X pins σ H s := I.pins_of fun p hp => I.pin p (List.mem_append_right _ (List.mem_append_left _ hp))
theorem ps_for {iter : Expr} {body : List Stmt} {wi : TI} {g : TG} {tb : TS} {pos : Pos} (hp : PassesOwn (model X.prog X.w) X.A X.env X.xe) (hc : X.calm = true) (hi : PI X tg iter wi) (hg : PG X tg g) (hb : PSs X body tb)
    (hs : ∀ x, foldedSetIterable iter X.env x = pure x := by intro _; rfl) : PS X (.For tg iter body [] pos) (tFor wi g tb) := by
  intro pins s σ H D I h
  refine wpAny_For (thn (hi pins s σ H _ I h) fun v s1 h1 => thn h1 fun itv s2 h2 => ?_) hs
  obtain ⟨it, fp, tn, J, H2, e, I2, T, st2, f2, W, ⟨m0, w0⟩, turn⟩ := h2
  subst e
  -- what stays true of the iterator's objects through the loop
  have stat : ∀ {H' : Hp}, (∀ b ∈ fp, H' b = none) → ∀ b ∈ fp, FpOk X pins H' b := fun hn b hb => ⟨hn b hb, (f2 b hb).2⟩
  refine codeAny_forLoop_any (fun n s' => ∃ i σ' H', Inv X pins σ' H' s' ∧ tn i s'.heap ∧ (∀ b ∈ fp, H' b = none) ∧ W i n σ' H') ?_ m0 ⟨0, σ, H2, I2, st2, fun b hb => (f2 b hb).1, w0⟩
  rintro n s3 ⟨i, σ3, H3, I3, st3, fr3, w3⟩
  rcases turn i n σ3 H3 w3 with ⟨stop, qn⟩ | ⟨go, N, hN, step⟩
  · refine wpAny_passesOwn hp (thn (T.done X rfl rfl rfl hc i pins s3 σ3 H3 X.xe I3 (stat fr3) st3 stop) fun r s4 ⟨hr, I4⟩ => ?_)
    subst hr
    exact wpAny_execs_nil ⟨σ3, H3, I4, qn⟩
  · refine wpAny_passesOwn hp (thn (T.item X rfl rfl rfl hc i pins s3 σ3 H3 X.xe I3 (stat fr3) st3 go) fun r s4 ⟨u, hr, h4⟩ => ?_)
    subst hr
    refine wpAny_passesOwn hp (thn h4 fun _ s5 ⟨x, H5, I5, r5, y5, st5, fr5⟩ => ?_)
    have I5' := I5.pinned (stat fr5) (T.obj _ _ st5)
    refine wpAny_passesOwn hp (thn (hg _ s5 σ3 H5 x u _ I5' r5 (step x H5 y5)) fun _ s6 ⟨σ6, H6, I6, q6⟩ => ?_)
    refine wpAny_passesOwn hp (thn (hb _ s6 σ6 H6 _ I6 q6) fun f s7 q7 => ?_)
    have again : ∀ {σ7 : St} {H7 : Hp}, Inv X (pins ++ pinsAt fp s5.heap) σ7 H7 s7 → N σ7 H7 → ∃ m, m < n ∧ ∃ i σ' H', Inv X pins σ' H' s7 ∧ tn i s7.heap ∧ (∀ b ∈ fp, H' b = none) ∧ W i m σ' H' := fun {σ7 H7} I7 n7 => by
      obtain ⟨m', hm, w7⟩ := hN σ7 H7 n7
      refine ⟨m', hm, i + 1, σ7, H7, I7.unpinned, T.keep _ _ _ st5 fun b hb o e => (I7.pin (b, o) (List.mem_append_right _ (List.mem_append_right _ (mem_pinsAt hb e)))).1, fun b hb => ?_, w7⟩
      obtain ⟨o, e, d⟩ := T.obj _ _ st5 b hb
      exact (I7.pin (b, o) (List.mem_append_right _ (List.mem_append_right _ (mem_pinsAt hb e)))).2.1
    cases f with
    | next => obtain ⟨σ7, H7, I7, n7⟩ := q7; exact again I7 n7
    | cont => obtain ⟨σ7, H7, I7, n7⟩ := q7; exact again I7 n7
    | brk => obtain ⟨σ7, H7, I7, q7⟩ := q7; exact ⟨σ7, H7, I7.unpinned, q7⟩
    | ret v => obtain ⟨x7, σ7, H7, I7, r7, q7⟩ := q7; exact ⟨x7, σ7, H7, I7.unpinned, r7, q7⟩
end
theorem for_list {K : PySem.W.Frag} {a : Addr} {xs : List V} {g : TG} {tb : TS} {D : Ends} {σ : St} {H : Hp} (Pv : Nat → St → Hp → Prop) (h0 : Pv 0 σ H) (hl : ∀ i σ H, i ≤ xs.length → Pv i σ H → SqL K H a xs)
    (hs : ∀ i x σ H, xs[i]? = some x → Pv i σ H → g x σ H fun σ2 H2 => tb { D with nx := Pv (i + 1), ct := Pv (i + 1), bk := D.nx } σ2 H2) (hd : ∀ σ H, Pv xs.length σ H → D.nx σ H) :
    ∃ W : Nat → Nat → St → Hp → Prop, (∃ m, W 0 m σ H) ∧ ∀ i m σ H, W i m σ H →
      ((Itl K a).stop i H ∧ D.nx σ H) ∨ ((Itl K a).go i H ∧ ∃ N : St → Hp → Prop, (∀ σ' H', N σ' H' → ∃ m', m' < m ∧ W (i + 1) m' σ' H') ∧ ∀ x H', (Itl K a).yld i H x H' → g x σ H' fun σ2 H2 => tb { D with nx := N, ct := N, bk := D.nx } σ2 H2) := by
  refine ⟨fun i m σ H => m = xs.length - i ∧ i ≤ xs.length ∧ Pv i σ H, ⟨xs.length, by simp, Nat.zero_le _, h0⟩, ?_⟩
  rintro i m σ H ⟨rfl, hi, p⟩
  have q := hl i σ H hi p
  by_cases hlt : i < xs.length
  · refine .inr ⟨⟨xs, xs[i], q, by simp [hlt]⟩, Pv (i + 1), fun σ' H' p' => ⟨xs.length - (i + 1), by omega, rfl, hlt, p'⟩, fun x H' y => ?_⟩
    obtain ⟨e, y⟩ := y
    subst e
    exact hs i x σ _ (y xs q) p
  · have e : i = xs.length := by omega
    subst e
    exact .inl ⟨⟨xs, q, Nat.le_refl _⟩, hd σ H p⟩
theorem for_range {lo : Int} {n : Nat} {g : TG} {tb : TS} {D : Ends} {σ : St} {H : Hp} (Pv : Nat → St → Hp → Prop) (h0 : Pv 0 σ H)
    (hs : ∀ i σ H, i < n → Pv i σ H → g (.int (lo + i)) σ H fun σ2 H2 => tb { D with nx := Pv (i + 1), ct := Pv (i + 1), bk := D.nx } σ2 H2) (hd : ∀ σ H, Pv n σ H → D.nx σ H) :
    ∃ W : Nat → Nat → St → Hp → Prop, (∃ m, W 0 m σ H) ∧ ∀ i m σ H, W i m σ H →
      ((Itr lo n).stop i H ∧ D.nx σ H) ∨ ((Itr lo n).go i H ∧ ∃ N : St → Hp → Prop, (∀ σ' H', N σ' H' → ∃ m', m' < m ∧ W (i + 1) m' σ' H') ∧ ∀ x H', (Itr lo n).yld i H x H' → g x σ H' fun σ2 H2 => tb { D with nx := N, ct := N, bk := D.nx } σ2 H2) := by
  refine ⟨fun i m σ H => m = n - i ∧ i ≤ n ∧ Pv i σ H, ⟨n, by simp, Nat.zero_le _, h0⟩, ?_⟩
  rintro i m σ H ⟨rfl, hi, p⟩
  by_cases hlt : i < n
  · refine .inr ⟨hlt, Pv (i + 1), fun σ' H' p' => ⟨n - (i + 1), by omega, rfl, hlt, p'⟩, fun x H' y => ?_⟩
    obtain ⟨e, y⟩ := y
    subst e y
    exact hs i σ _ hlt p
  · have e : i = n := by omega
    subst e
    exact .inl ⟨Nat.le_refl _, hd σ H p⟩
end L2
namespace L2
open PySem PySem.Spec PyProof.Rows
abbrev R2 := V → V → Hp → VK → Prop
def OpR (X : Cx) (f : Value → Value → Sem Value) (r : R2) : Prop :=
  ∀ (pins : List (Addr × Obj)) (s : Shared) (σ : St) (H : Hp) (x y : V) (v u : Value) (Q : VK), Inv X pins σ H s → RelV x v → RelV y u → r x y H Q →
    wpAny (model X.prog X.w) X.A (f v u) (EP X pins σ Q) X.xe s
def UnR (X : Cx) (f : Value → Sem Value) (r : V → Hp → VK → Prop) : Prop :=
  ∀ (pins : List (Addr × Obj)) (s : Shared) (σ : St) (H : Hp) (x : V) (v : Value) (Q : VK), Inv X pins σ H s → RelV x v → r x H Q →
    wpAny (model X.prog X.w) X.A (f v) (EP X pins σ Q) X.xe s
def CallR (X : Cx) (f : Value) (r : List V → Hp → VK → Prop) : Prop :=
  ∀ (pins : List (Addr × Obj)) (s : Shared) (σ : St) (H : Hp) (xs : List V) (us : List Value) (Q : VK), Inv X pins σ H s → Vals xs us → r xs H Q →
    wpAny (model X.prog X.w) X.A (call f us) (EP X pins σ Q) X.xe s
def tOp (r : R2) (ta tb : TE) : TE := fun σ H Q => ta σ H fun x H1 => tb σ H1 fun y H2 => r x y H2 Q
def tUn (r : V → Hp → VK → Prop) (ta : TE) : TE := fun σ H Q => ta σ H fun x H1 => r x H1 Q
def rI (C : Int → Int → Prop) (g : Int → Int → V) : R2 := fun x y H Q => ∃ i j, x = .int i ∧ y = .int j ∧ C i j ∧ Q (g i j) H
def rI0 (g : Int → Int → V) : R2 := fun x y H Q => ∃ i j, x = .int i ∧ y = .int j ∧ Q (g i j) H
def rU (g : Int → V) : V → Hp → VK → Prop := fun x H Q => ∃ i, x = .int i ∧ Q (g i) H
section
variable {X : Cx} {a b c : Expr} {ta tb tc : TE} {pos : Pos}
theorem binT (ha : PE X a ta) (hb : PE X b tb) {pins : List (Addr × Obj)} {s : Shared} {σ : St} {H : Hp} {R : V → V → Hp → Prop} (I : Inv X pins σ H s)
    (h : ta σ H fun x H1 => tb σ H1 fun y H2 => R x y H2) {Q : Value → Shared → Prop} {f : Value → Value → Sem Value}
    (hf : ∀ v u s2 x y H2, Inv X pins σ H2 s2 → RelV x v → RelV y u → R x y H2 → wpAny (model X.prog X.w) X.A (f v u) Q X.xe s2) :
    wpAny (model X.prog X.w) X.A (eval a X.env) (fun v s₁ => wpAny (model X.prog X.w) X.A (eval b X.env) (fun u s₂ => wpAny (model X.prog X.w) X.A (f v u) Q X.xe s₂) X.xe s₁) X.xe s := by
  refine thn (ha pins s σ H _ I h) fun v s1 ⟨x, H1, I1, r1, q1⟩ => ?_
  refine thn (hb pins s1 σ H1 _ I1 q1) fun u s2 ⟨y, H2, I2, r2, q2⟩ => ?_
  exact hf v u s2 x y H2 I2 r1 r2 q2
theorem pe_op {op : Operator} {r : R2} (ho : OpR X (binaryOp op) r) (ha : PE X a ta) (hb : PE X b tb) : PE X (.BinOp a op b pos) (tOp r ta tb) := by
  intro pins s σ H Q I h
  exact wpAny_BinOp (binT ha hb I h fun v u s2 x y H2 I2 rx ry q => ho pins s2 σ H2 x y v u Q I2 rx ry q)
theorem pe_un {op : UnaryOp} {r : V → Hp → VK → Prop} (ho : UnR X (unaryOp op) r) (ha : PE X a ta) : PE X (.UnaryOp op a pos) (tUn r ta) := by
  intro pins s σ H Q I h
  exact UnaryOp_ (thn (ha pins s σ H _ I h) fun v s1 ⟨x, H1, I1, r1, q1⟩ => ho pins s1 σ H1 x v Q I1 r1 q1)
theorem opI {f : Value → Value → Sem Value} {C : Int → Int → Prop} {g : Int → Int → Int}
    (rule : ∀ (i j : Int) (t u : Tok) (s : Shared) (Q : Value → Shared → Prop) (E : Value → Shared → Prop), C i j → Q (.int (g i j) s.toks) { s with toks := s.toks + 1 } → wpAny (model X.prog X.w) X.A (f (.int i t) (.int j u)) Q E s) :
    OpR X f (rI C fun i j => .int (g i j)) := by
  intro pins s σ H x y v u Q I rx ry h
  obtain ⟨i, j, rfl, rfl, hc, q⟩ := h
  obtain ⟨t, rfl⟩ := rx
  obtain ⟨t', rfl⟩ := ry
  exact rule i j t t' s _ _ hc ⟨.int (g i j), H, I.tok _, ⟨_, rfl⟩, q⟩
theorem opI0 {f : Value → Value → Sem Value} {g : Int → Int → Int}
    (rule : ∀ (i j : Int) (t u : Tok) (s : Shared) (Q : Value → Shared → Prop) (E : Value → Shared → Prop), Q (.int (g i j) s.toks) { s with toks := s.toks + 1 } → wpAny (model X.prog X.w) X.A (f (.int i t) (.int j u)) Q E s) :
    OpR X f (rI0 fun i j => .int (g i j)) := by
  intro pins s σ H x y v u Q I rx ry h
  obtain ⟨i, j, rfl, rfl, q⟩ := h
  obtain ⟨t, rfl⟩ := rx
  obtain ⟨t', rfl⟩ := ry
  exact rule i j t t' s _ _ ⟨.int (g i j), H, I.tok _, ⟨_, rfl⟩, q⟩
theorem opB0 {f : Value → Value → Sem Value} {g : Int → Int → Bool}
    (rule : ∀ (i j : Int) (t u : Tok) (s : Shared) (Q : Value → Shared → Prop) (E : Value → Shared → Prop), Q (.bool (g i j)) s → wpAny (model X.prog X.w) X.A (f (.int i t) (.int j u)) Q E s) :
    OpR X f (rI0 fun i j => .bl (g i j)) := by
  intro pins s σ H x y v u Q I rx ry h
  obtain ⟨i, j, rfl, rfl, q⟩ := h
  obtain ⟨t, rfl⟩ := rx
  obtain ⟨t', rfl⟩ := ry
  exact rule i j t t' s _ _ ⟨.bl (g i j), H, I, rfl, q⟩
def CPow (i j : Int) : Prop := 0 ≤ j ∧ j ≤ 1000000 ∧ i.natAbs < 2 ^ 64
def CMul (i j : Int) : Prop := (-(2 ^ 64) < i ∧ i < 2 ^ 64) ∨ (-(2 ^ 64) < j ∧ j < 2 ^ 64)
theorem CMul.ok {i j : Int} (h : CMul i j) : IntMulOk i j := by
  rcases h with ⟨h1, h2⟩ | ⟨h1, h2⟩
  · exact .of_left (intBits_le_64 h1 h2)
  · exact .of_right (intBits_le_64 h1 h2)
theorem op_add : OpR X (binaryOp .Add) (rI0 fun i j => .int (i + j)) := opI0 fun _ _ _ _ _ _ _ q => add_int q
theorem op_sub : OpR X (binaryOp .Sub) (rI0 fun i j => .int (i - j)) := opI0 fun _ _ _ _ _ _ _ q => sub_int q
theorem op_mod : OpR X (binaryOp .Mod) (rI (fun _ j => 0 < j) fun i j => .int (i % j)) := opI fun i j _ _ _ _ _ hc q => by
  have h1 : (0 : Int) < j := hc
  exact mod_int' (by omega) (by rw [Int.fmod_eq_emod_of_nonneg i (by omega)]; exact q)
theorem op_pow : OpR X (binaryOp .Pow) (rI CPow fun i j => .int (i ^ j.toNat)) := opI fun _ _ _ _ _ _ _ hc q => pow_int_small hc.1 hc.2.1 hc.2.2 q
theorem unI {f : Value → Sem Value} {g : Int → Int}
    (rule : ∀ (i : Int) (t : Tok) (s : Shared) (Q : Value → Shared → Prop) (E : Value → Shared → Prop), Q (.int (g i) s.toks) { s with toks := s.toks + 1 } → wpAny (model X.prog X.w) X.A (f (.int i t)) Q E s) :
    UnR X f (rU fun i => .int (g i)) := by
  intro pins s σ H x v Q I rx h
  obtain ⟨i, rfl, q⟩ := h
  obtain ⟨t, rfl⟩ := rx
  exact rule i t s _ _ ⟨.int (g i), H, I.tok _, ⟨_, rfl⟩, q⟩
theorem un_neg : UnR X (unaryOp .USub) (rU fun i => .int (-i)) := unI fun _ _ _ _ _ q => neg_int q
end
section
variable {X : Cx} {a b c : Expr} {ta tb tc : TE} {pos : Pos}
theorem op_lt : OpR X (compareOp .Lt) (rI0 fun i j => .bl (decide (i < j))) := opB0 fun _ _ _ _ _ _ _ q => lt_int q
theorem op_le : OpR X (compareOp .LtE) (rI0 fun i j => .bl (decide (i ≤ j))) := opB0 fun _ _ _ _ _ _ _ q => le_int q
theorem op_gt : OpR X (compareOp .Gt) (rI0 fun i j => .bl (decide (j < i))) := opB0 fun _ _ _ _ _ _ _ q => gt_int q
theorem pe_cmpR {op : CmpOp} {r : R2} (ho : OpR X (compareOp op) r) (ha : PE X a ta) (hb : PE X b tb) (hm : behindInMarks op b = false) : PE X (.Compare a [op] [b] pos) (tOp r ta tb) := by
  intro pins s σ H Q I h
  exact wpAny_Compare1 (binT ha hb I h fun v u s2 x y H2 I2 rx ry q => ho pins s2 σ H2 x y v u Q I2 rx ry q) hm
theorem line63 : (sizeLine : Nat) < 2 ^ 63 := by rw [sizeLine_eq]; decide
theorem op_add_str : OpR X (binaryOp .Add) (fun x y H Q => ∃ i j, x = .str i ∧ y = .str j ∧ i.length + j.length ≤ sizeLine ∧ Q (.str (i ++ j)) H) := by
  intro pins s σ H x y v u Q I rx ry h
  obtain ⟨i, j, rfl, rfl, hz, q⟩ := h
  obtain ⟨t, rfl⟩ := rx
  obtain ⟨t', rfl⟩ := ry
  exact add_str (fun t' tk => ⟨.str (i ++ j), H, I.tok _, ⟨_, rfl⟩, q⟩) hz
theorem vals1 {x : V} {us : List Value} (r : Vals [x] us) : ∃ u, us = [u] ∧ RelV x u := by
  cases r with
  | cons r1 r2 => cases r2; exact ⟨_, rfl, r1⟩
theorem vals2 {x y : V} {us : List Value} (r : Vals [x, y] us) : ∃ u w', us = [u, w'] ∧ RelV x u ∧ RelV y w' := by
  cases r with
  | cons r1 r2 =>
    cases r2 with
    | cons r3 r4 => cases r4; exact ⟨_, _, rfl, r1, r3⟩
theorem call_max2 (hc : X.calm = true) : CallR X (.builtin "max") (fun xs H Q => ∃ i j, xs = [.int i, .int j] ∧ Q (.int (if j > i then j else i)) H) := by
  intro pins s σ H xs us Q I r h
  obtain ⟨i, j, rfl, q⟩ := h
  obtain ⟨u, w', rfl, ⟨t, rfl⟩, ⟨t', rfl⟩⟩ := vals2 r
  refine max_two_ints (I.ok.hd hc) fun h' tk k => ⟨_, H, I.kept k, ?_, q⟩
  by_cases hj : j > i
  · rw [if_pos hj, if_pos hj]; exact ⟨_, rfl⟩
  · rw [if_neg hj, if_neg hj]; exact ⟨_, rfl⟩
def LenV (K : PySem.W.Frag) (x : V) (H : Hp) (n : Nat) : Prop :=
  match x with
  | .str y => y.length ≤ sizeLine ∧ n = y.length
  | .byt y => y.size ≤ sizeLine ∧ n = y.size
  | .ref p => (∃ xs, SqL K H p xs ∧ n = xs.length) ∨ ∃ xs, SqT K H p xs ∧ n = xs.length
  | _ => False
theorem call_len : CallR X (.builtin "len") (fun xs H Q => ∃ x n, xs = [x] ∧ LenV X.K x H n ∧ Q (.int n) H) := by
  intro pins s σ H xs us Q I r h
  obtain ⟨x, n, rfl, e, q⟩ := h
  obtain ⟨u, rfl, rx⟩ := vals1 r
  have hl := line63
  have hs : sizeLine = 16777216 := sizeLine_eq
  cases x with
  | str y =>
    obtain ⟨t, rfl⟩ := rx
    obtain ⟨hy, e'⟩ : y.length ≤ sizeLine ∧ n = y.length := e
    subst e'
    exact len_str (by omega) ⟨.int _, H, I.tok _, ⟨_, rfl⟩, q⟩
  | byt y =>
    obtain ⟨t, rfl⟩ := rx
    obtain ⟨hy, e'⟩ : y.size ≤ sizeLine ∧ n = y.size := e
    subst e'
    exact PySem.W.len_bytes (by omega) ⟨.int _, H, I.tok _, ⟨_, rfl⟩, q⟩
  | ref p =>
    cases rx
    have e' : (∃ xs, SqL X.K H p xs ∧ n = xs.length) ∨ ∃ xs, SqT X.K H p xs ∧ n = xs.length := e
    rcases e' with ⟨xs, hx, e'⟩ | ⟨xs, hx, e'⟩
    · subst e'
      obtain ⟨its, r', pl, hz⟩ := I.list hx
      have hlen := r'.length
      exact Calls.call_len_list pl.isList (by simp only [List.size_toArray]; omega) ⟨.int xs.length, H, I.tok _, ⟨_, by simp only [List.size_toArray]; rw [hlen]⟩, q⟩
    · subst e'
      obtain ⟨its, r', pl, hz⟩ := I.tuple hx
      have hlen := r'.length
      exact len_tuple pl (by simp only [List.size_toArray]; omega) ⟨.int xs.length, H, I.tok _, ⟨_, by simp only [List.size_toArray]; rw [hlen]⟩, q⟩
  | _ => exact (show False from e).elim
end
end L2
namespace L2
open PySem PySem.Spec PyProof.Rows
structure ObjM (h : Heap) (x dx C : Addr) (mA : Str → Option Value) : Prop where
  obj : h.get? x = some (PySem.W.instObj C dx)
  ns : h.Ns1 dx mA
  ne : dx ≠ x
theorem lookIn_ns {h : Heap} {dx : Addr} {mA : Str → Option Value} (n : h.Ns1 dx mA) : ∃ od, h.get? dx = some od ∧ ∀ name, PySem.W.lookIn name od = some (mA name) := by
  obtain ⟨o, es, ep, ho, hd, hk, _, hm⟩ := n
  refine ⟨o, ho, fun name => ?_⟩
  have e := hm name
  unfold nsFind findBy at e
  rw [← Array.find?_toList] at e
  unfold PySem.W.lookIn
  rw [hd]
  dsimp only
  split
  · rename_i y q
    rw [q] at e
    exact congrArg some e
  · rename_i q
    rw [q] at e
    have a : es.toList.any (·.refKey) = false := by
      rw [List.any_eq_false]
      intro y hy
      obtain ⟨z, t, hkey⟩ := hk y (Array.mem_toList_iff.mp hy)
      simp [DictEntry.refKey, hkey]
    have a' : ¬ es.toList.any (·.refKey) = true := by rw [a]; exact Bool.false_ne_true
    rw [if_neg a']
    exact congrArg some e
theorem ObjM.look {h : Heap} {x dx C : Addr} {mA : Str → Option Value} (I : ObjM h x dx C mA) : ∃ od, PySem.W.InstAt h x (PySem.W.instObj C dx) C (some od) ∧ ∀ name, PySem.W.lookIn name od = some (mA name) :=
  let ⟨od, ho, hl⟩ := lookIn_ns I.ns
  ⟨od, ⟨I.obj, rfl, rfl, ho⟩, hl⟩
section
variable {prog : Program} {w : World} {A : Around} {E : Value → Shared → Prop} {s : Shared} {K : PySem.W.Frag} {x dx C f : Addr} {mA : Str → Option Value} {name : Str} {v : Value}
end
section
variable {P : Program} {w : World} {H H' : Hp} {h h' : Heap} {a C dx : Addr} {fs fs' : List (Str × V)}
theorem ins_get (hok : HOk P w H h) (e : H a = some (.ins C dx fs)) : ∃ mA, ObjM h a dx C mA ∧ (∀ f, RelO (fs.lookup f) (mA f)) ∧ PySem.Within mA (fs.map (·.1)) ∧ fs.length ≤ 1000 ∧ H dx = some (.own a) := by
  obtain ⟨d, z, ne, ob, mA, n, r, q⟩ := (show ObjOk P w H h a (.ins C dx fs) from hok a _ e)
  exact ⟨mA, ⟨ob, n, ne⟩, r, q, z, d⟩
end
structure Cls (K : PySem.W.Frag) (C : Addr) : Prop where
  pg : PySem.W.plainGet K C Str.empty = true
  hd : PySem.W.hasDictIn K C = true
  po : PySem.W.plainOver K C = true
  sa : PySem.W.findIn K (.ref C) "__setattr__" = some (some (.builtin "object.__setattr__"))
theorem Cls.get {K : PySem.W.Frag} {C : Addr} (c : Cls K C) (f : Str) : PySem.W.plainGet K C f = true := c.pg
structure Con (K : PySem.W.Frag) (C : Addr) (f : Str) (v : V) (u : Value) : Prop where
  at_ : PySem.W.findIn K (.ref C) f = some (some u)
  rel : RelV v u
  get : PySem.W.specialIn K u "__get__" = some none
  cp : PySem.W.copiedNames.contains f = false
structure Meth (K : PySem.W.Frag) (C : Addr) (m : Str) (f : Addr) : Prop where
  at_ : PySem.W.findIn K (.ref C) m = some (some (.ref f))
  fn : PySem.W.isFn K (.ref f) = true
  kp : PySem.W.keepIn K (.ref f) = true
section
variable {X : Cx} {pins : List (Addr × Obj)} {σ : St} {H : Hp} {s : Shared} {a C dx : Addr} {fs : List (Str × V)} {f : Str} {v : V} {A : Around} {E : Value → Shared → Prop}
end
section
variable {X : Cx} {o e value : Expr} {f : Str} {pos pos' tpos : Pos} {ta tv : TE}
end
section
variable {X : Cx} {pins : List (Addr × Obj)} {σ : St} {H : Hp} {s : Shared} {A : Around} {E : Value → Shared → Prop} {Q : Value → Shared → Prop} {c : Value} {b : Bool}
inductive TyOf (K : PySem.W.Frag) (H : Hp) : V → Value → Prop where
  | non : TyOf K H .non (.type "NoneType")
  | bl (x : Bool) : TyOf K H (.bl x) (.type "bool")
  | int (i : Int) : TyOf K H (.int i) (.type "int")
  | str (x : Str) : TyOf K H (.str x) (.type "str")
  | flt (x : UInt64) : TyOf K H (.flt x) (.type "float")
  | lst {a : Addr} {xs : List V} (e : H a = some (.lst xs)) : TyOf K H (.ref a) (.type "list")
  | frz {a : Addr} {o : Obj} {xs : List V} (e : H a = some (.frz o (.lst xs))) : TyOf K H (.ref a) (.type "list")
  | tup {a : Addr} {xs : List V} (e : H a = some (.tup xs)) : TyOf K H (.ref a) (.type "tuple")
  | dK {a : Addr} {kvs : List (Key × V)} (e : H a = some (.dK kvs)) : TyOf K H (.ref a) (.type "dict")
  | dT {a : Addr} {kvs : List (List Key × V)} (e : H a = some (.dT kvs)) : TyOf K H (.ref a) (.type "dict")
  | ins {a C dx : Addr} {fs : List (Str × V)} (e : H a = some (.ins C dx fs)) (cl : Cls K C) (ha : PySem.W.findIn K (.ref C) "__class__" = some (some (.builtin "object.__class__")))
      (hn : PySem.W.specialIn K (.builtin "object.__class__") "__get__" = some (some (.builtin "getset_descriptor.__get__"))) (htk : PySem.W.takesIn K (.builtin "object.__class__") = some true)
      (hm : PySem.W.mroIn K C (.type "object") = some true) : TyOf K H (.ref a) (.ref C)
theorem isinst_ok {x : V} {u t : Value} (I : Inv X pins σ H s) (rx : RelV x u) (ty : TyOf X.K H x t) (e : PySem.W.kitOne X.K t c = some b) (h : ∀ tk, Q (.bool b) { s with toks := tk }) :
    wpAny (model X.prog X.w) A (call (.builtin "isinstance") [u, c]) Q E s := by
  cases ty with
  | non => cases (show u = Value.none from rx); exact PySem.W.kia_one PySem.W.kitx_none I.kIn True.intro e (fun z => nomatch z) h
  | bl y => cases (show u = Value.bool y from rx); exact PySem.W.kia_one PySem.W.kitx_bool I.kIn True.intro e (fun z => nomatch z) h
  | int i => obtain ⟨t, q⟩ := (show ∃ t, u = Value.int i t from rx); cases q; exact PySem.W.kia_one PySem.W.kitx_int I.kIn True.intro e (fun z => nomatch z) h
  | str y => obtain ⟨t, q⟩ := (show ∃ t, u = Value.str y t from rx); cases q; exact PySem.W.kia_one PySem.W.kitx_str I.kIn True.intro e (fun z => nomatch z) h
  | flt y => obtain ⟨t, q⟩ := (show ∃ t, u = Value.float y t from rx); cases q; exact PySem.W.kia_one PySem.W.kitx_float I.kIn True.intro e (fun z => nomatch z) h
  | @lst a xs ea =>
    cases (show u = Value.ref a from rx)
    obtain ⟨_, _, n, _, h1⟩ := (show ObjOk X.prog X.w H s.heap a (.lst xs) from I.hok a _ ea)
    exact PySem.W.kia_one PySem.W.kitx_list I.kIn ⟨_, h1, rfl⟩ e (fun z => nomatch z) h
  | @frz a ob xs ea =>
    cases (show u = Value.ref a from rx)
    obtain ⟨_, _, _, n, _, h1⟩ := (show ObjOk X.prog X.w H s.heap a (.frz ob (.lst xs)) from I.hok a _ ea)
    exact PySem.W.kia_one PySem.W.kitx_list I.kIn ⟨_, h1, rfl⟩ e (fun z => nomatch z) h
  | @tup a xs ea =>
    cases (show u = Value.ref a from rx)
    obtain ⟨_, _, _, p⟩ := (show ObjOk X.prog X.w H s.heap a (.tup xs) from I.hok a _ ea)
    obtain ⟨o, h1, h2, _⟩ := p
    exact PySem.W.kia_one PySem.W.kitx_tuple I.kIn ⟨o, h1, h2⟩ e (fun z => nomatch z) h
  | @dK a kvs ea =>
    cases (show u = Value.ref a from rx)
    obtain ⟨_, _, vs, _, p⟩ := (show ObjOk X.prog X.w H s.heap a (.dK kvs) from I.hok a _ ea)
    obtain ⟨o, es, ep, h1, h2, _⟩ := p
    exact PySem.W.kia_one PySem.W.kitx_dict I.kIn ⟨o, h1, h2.1⟩ e (fun z => nomatch z) h
  | @dT a kvs ea =>
    cases (show u = Value.ref a from rx)
    obtain ⟨_, _, xs, _, o, es, ep, h1, h2, _⟩ := (show ObjOk X.prog X.w H s.heap a (.dT kvs) from I.hok a _ ea)
    exact PySem.W.kia_one PySem.W.kitx_dict I.kIn ⟨o, h1, h2.1⟩ e (fun z => nomatch z) h
  | @ins a C dx fs ea cl ha hn htk hm =>
    cases (show u = Value.ref a from rx)
    obtain ⟨mA, O, _⟩ := ins_get I.hok ea
    obtain ⟨od, J, _⟩ := O.look
    exact PySem.W.kia_one (PySem.W.kitx_own (cl.get _) cl.hd ha hn htk hm) I.kIn J e (fun z => nomatch z) h
end
end L2
namespace L2
open PySem PySem.Spec PyProof.Rows
structure Room (k : Nat) (A : Around) : Prop where
  hd : A.handled = none
  dp : A.depth + 3 * k + 5 < recursionLimit
  un : A.units + 16 * k + 200 < cLine
  gd : A.guards = some []
theorem Room.mono {j k : Nat} {A : Around} (r : Room k A) (h : j ≤ k) : Room j A := ⟨r.hd, by have := r.dp; omega, by have := r.un; omega, r.gd⟩
theorem Room.deeper {k : Nat} {A : Around} (r : Room (k + 1) A) (env : Env) : Room k (A.deeper env) :=
  ⟨r.hd, by have := r.dp; show A.depth + 1 + 3 * k + 5 < _; omega, by have := r.un; show A.units + 3 + 16 * k + 200 < _; omega, r.gd⟩
theorem Room.depth {k : Nat} {A : Around} (r : Room k A) : A.depth < recursionLimit := by have := r.dp; omega
def tNil : TA := fun _ H Q => Q [] H
def tCons (ta : TE) (tr : TA) : TA := fun σ H Q => ta σ H fun x H1 => tr σ H1 fun xs H2 => Q (x :: xs) H2
section
variable {X : Cx} {e : Expr} {es : List Expr} {te : TE} {t : TA} {pos : Pos}
theorem pa_nil : PA X [] tNil := fun _ _ _ _ H Q I h => Calls.spliced_nil ⟨[], H, I, .nil, h⟩
theorem pa_cons (ha : PE X e te) (hr : PA X es t) (hs : starEach (e :: es) X.env = (false, eval e X.env) :: starEach es X.env := by rfl) : PA X (e :: es) (tCons te t) := by
  intro pos pins s σ H Q I h
  rw [hs]
  show wpAny _ _ (spliced ((false, eval e X.env) :: backTo pos (starEach es X.env))) _ _ s
  refine Calls.spliced_cons (thn (ha pins s σ H _ I h) fun u s1 ⟨x, H1, I1, r1, q1⟩ => ?_)
  exact thn (hr pos pins s1 σ H1 _ I1 q1) fun us s2 ⟨xs, H2, I2, r2, q2⟩ => ⟨x :: xs, H2, I2, .cons r1 r2, q2⟩
def tTup (t : TA) : TE := fun σ H Q => t σ H fun xs H1 => xs.length ≤ sizeLine ∧ ∀ p, H1 p = none → Q (.ref p) (upd H1 p (.tup xs))
def tLst (t : TA) : TE := fun σ H Q => t σ H fun xs H1 => xs.length ≤ sizeLine ∧ ∀ p, H1 p = none → Q (.ref p) (upd H1 p (.lst xs))
theorem pe_tup {x1} (h : PA X es t) : PE X (.Tuple es x1 pos) (tTup t) := by
  intro pins s σ H Q I hq
  refine wpAny_Tuple_spliced (thn (h pos pins s σ H _ I hq) fun us s1 ⟨xs, H1, I1, r, z, q⟩ => ⟨by rw [← r.length]; exact z, ?_⟩)
  have hf : H1 s1.heap.objs.size = none := I1.hok.fresh (Nat.le_refl _)
  refine ⟨.ref s1.heap.objs.size, upd H1 s1.heap.objs.size (.tup xs), I1.laid (t' := s1.toks) (fun b u e => Heap.get?_push_of_some _ e) (Nat.le_refl _) ?_, rfl, q _ hf⟩
  exact ⟨z, us, r, ⟨_, Heap.get?_push_size _ rfl, rfl, ⟨_, rfl⟩, rfl⟩⟩
theorem pe_lst (h : PA X es t) : PE X (.List es pos) (tLst t) := by
  intro pins s σ H Q I hq
  refine wpAny_List_spliced (thn (h pos pins s σ H _ I hq) fun us s1 ⟨xs, H1, I1, r, z, q⟩ => ⟨by rw [← r.length]; exact z, ?_⟩)
  have hf : H1 s1.heap.objs.size = none := I1.hok.fresh (Nat.le_refl _)
  refine ⟨.ref s1.heap.objs.size, upd H1 s1.heap.objs.size (.lst xs), I1.laid (t' := s1.toks) (fun b u e => Heap.get?_push_of_some _ e) (Nat.le_refl _) ?_, rfl, q _ hf⟩
  exact ⟨z, us, 0, r, Heap.get?_push_size _ rfl⟩
end
abbrev Sp := List V → Hp → VK → XK → Prop
abbrev CXT := List Env → Hp → Shared → XK → Value → Shared → Prop
structure Env0 (P : Program) (w : World) (K : PySem.W.Frag) (mg : Str → Option Value) (base : Heap) (A : Around) (outer : List Env) (s : Shared) (H : Hp) : Prop where
  frames : A.frames = some outer
  mod : Mod K mg base
  bs : ∀ b o, base.get? b = some o → s.heap.get? b = some o ∧ H b = none
  bsz : base.objs.size ≤ s.heap.objs.size
  funs : s.heap.FunFrames base outer
  frf : ∀ b ∈ frs outer, H b = none
  hok : HOk P w H s.heap
  bare : AllBare s.gens
def CE (outer : List Env) (P : Program) (w : World) (H : Hp) (s : Shared) (Q : VK) (u : Value) (s' : Shared) : Prop :=
  ∃ v H', s'.os = s.os ∧ AllBare s'.gens ∧ Un (frs outer) [] H H' s.heap s'.heap ∧ HOk P w H' s'.heap ∧ RelV v u ∧ Q v H'
def CR (CX : CXT) (outer : List Env) (P : Program) (w : World) (H : Hp) (s : Shared) (Q : VK) (E : XK) (r : Result) (s' : Shared) : Prop :=
  match r with
  | .ok (.ret u) => CE outer P w H s Q u s'
  | .ok _ => False
  | .error e => CX outer H s E e s'
structure FnOk (P : Program) (w : World) (K : PySem.W.Frag) (mg : Str → Option Value) (base : Heap) (CX : CXT) (k : Nat) (f : Addr) (fd : FuncData) (ps : List Str) (sp : Sp) : Prop where
  len : ∀ vs H Q E, sp vs H Q E → vs.length = ps.length
  run : ∀ (A : Around) (outer : List Env) (s : Shared) (H : Hp) (args : Args) (us : List Value) (vs : List V) (Q : VK) (E : XK), Room k A → Env0 P w K mg base A outer s H → BindsTo s fd args (ps.zip us) → Vals vs us → sp vs H Q E →
    codeAny (model P w) A (.call (.ref f) args) (CR CX outer P w H s Q E) s
section
variable {X : Cx} {pins : List (Addr × Obj)} {σ : St} {H : Hp} {s s' : Shared}
theorem Inv.env0 (I : Inv X pins σ H s) : Env0 X.prog X.w X.K X.mg X.base X.A X.stack s H :=
  ⟨I.ok.frames, I.ok.mod, I.bs, Nat.le_trans I.ok.bsz I.sz, I.stack, I.stkFree, I.hok, I.bare⟩
theorem Inv.after {Q : VK} {u : Value} (I : Inv X pins σ H s) (h : CE X.stack X.prog X.w H s Q u s') : EP X pins σ Q u s' := by
  obtain ⟨v, H', os, bare, un, hok, r, q⟩ := h
  obtain ⟨hh, g, d, t, os'⟩ := s'
  obtain rfl : os' = s.os := os
  exact ⟨v, H', I.call (h' := hh) (g' := g) (d' := d) (t' := t) (ch := []) un hok bare (fun b z => absurd z (by simp)), r, q⟩
end
def tCall (sp : Sp) (dvs : List V) (E : XK) (t : TA) : TE := fun σ H Q => t σ H fun vs H1 => sp (vs ++ dvs) H1 Q E
def Binds (K : PySem.W.Frag) (fd : FuncData) (ps : List Str) (ds : List Value) : Prop :=
  ∀ (s : Shared) (us : List Value), K.In s.heap → (us ++ ds).length = ps.length → BindsTo s fd ⟨us, []⟩ (ps.zip (us ++ ds))
theorem Binds.all {K : PySem.W.Frag} {fd : FuncData} {ps : List Str} (h : ∀ us : List Value, us.length = ps.length → bindArgs fd ⟨us, []⟩ = pure (ps.zip us)) : Binds K fd ps [] := fun s us _ hl => by
  rw [List.append_nil] at hl ⊢
  exact .of_eq (h us hl)
def Passes (CX : CXT) (X : Cx) (E : XK) : Prop := ∀ (pins : List (Addr × Obj)) (σ : St) (H : Hp) (s : Shared) (e : Value) (s' : Shared), Inv X pins σ H s → CX X.stack H s E e s' → X.xe e s'
section
variable {X : Cx} {CX : CXT} {k : Nat} {f C : Addr} {fd : FuncData} {ps : List Str} {sp : Sp} {dvs : List V} {ds : List Value} {E : XK} {x m : Str} {p pos apos : Pos} {e o : Expr} {es : List Expr} {ta : TE} {t : TA}
theorem run_fn {pins : List (Addr × Obj)} {σ : St} {H : Hp} {s : Shared} {Q : VK} {us : List Value} {vs : List V} (F : FnOk X.prog X.w X.K X.mg X.base CX k f fd ps sp) (hr : Room k X.A) (hb : Binds X.K fd ps ds) (hd : Vals dvs ds) (hx : Passes CX X E)
    (I : Inv X pins σ H s) (r : Vals vs us) (h : sp (vs ++ dvs) H Q E) : wpAny (model X.prog X.w) X.A (call (.ref f) us) (EP X pins σ Q) X.xe s := by
  have r2 : Vals (vs ++ dvs) (us ++ ds) := r.append hd
  have hl : (us ++ ds).length = ps.length := by rw [← r2.length]; exact F.len _ _ _ _ h
  refine wpAny_call (codeAny_mono (F.run X.A X.stack s H ⟨us, []⟩ (us ++ ds) (vs ++ dvs) Q E hr I.env0 (hb s us I.kIn hl) r2 h) fun r s' hq => ?_)
  cases r with
  | error e => exact hx pins σ H s e s' I hq
  | ok fl =>
    cases fl with
    | ret u => exact I.after hq
    | next => exact False.elim hq
    | brk => exact False.elim hq
    | cont => exact False.elim hq
theorem pe_call (F : FnOk X.prog X.w X.K X.mg X.base CX k f fd ps sp) (hr : Room k X.A) (hg : Gl X x) (hm : X.mg x = some (.ref f)) (hk : PySem.W.keepIn X.K (.ref f) = true) (hb : Binds X.K fd ps ds) (hd : Vals dvs ds) (hx : Passes CX X E)
    (ha : PA X (e :: es) t) (hdb : (x == ("__debug__" : Str)) = false := by decide) (he : starEach (e :: es) X.env = (false, eval e X.env) :: starEach es X.env := by rfl) (hpl : (backTo pos (starEach es X.env)).any (·.1) = false := by rfl) :
    PE X (.Call (.Name x p) (e :: es) [] pos) (tCall sp dvs E t) := by
  intro pins s σ H Q I h
  refine wpAny_Call_Name_kw (ld_glob I hg hm ?_ hdb)
  refine PySem.W.callWith_K (h₀ := X.base) I.ok.mod.kin hk (thn (ha pos pins s σ H _ I h) fun us s1 ⟨vs, H1, I1, r, q⟩ => ⟨I1.kIn, ?_⟩) he hpl
  exact run_fn F hr hb hd hx I1 r q
structure Mk (K : PySem.W.Frag) (C f : Addr) : Prop where
  makes : PySem.W.makesIn K C = true
  init : PySem.W.findIn K (.ref C) "__init__" = some (some (.ref f))
  fn : PySem.W.isFn K (.ref f) = true
  kp : PySem.W.keepIn K (.ref C) = true
end
section
variable {X : Cx} {CX : CXT} {k : Nat} {f C : Addr} {fd : FuncData} {ps ks : List Str} {sp : Sp} {E : XK} {x m : Str} {p pos apos kpos : Pos} {e o : Expr} {es : List Expr} {kws : List Keyword} {te ta : TE} {t tk : TA} {nm : Option Str}
structure KBinds (K : PySem.W.Frag) (fd : FuncData) (ps ks : List Str) (g : List Value → List Value → List Value) (gV : List V → List V → List V) : Prop where
  to : ∀ (s : Shared) (us ws : List Value), K.In s.heap → (g us ws).length = ps.length → BindsTo s fd ⟨us, ks.zip ws⟩ (ps.zip (g us ws))
  rel : ∀ {vs : List V} {us : List Value} {zs : List V} {ws : List Value}, Vals vs us → Vals zs ws → Vals (gV vs zs) (g us ws)
variable {g : List Value → List Value → List Value} {gV : List V → List V → List V}
end
structure FnScope (N P : List Str) (sc : Scope) : Prop where
  kind : sc.kind = .function
  co : sc.isCoroutine = false
  gen : sc.isGenerator = false
  nd : N.Nodup
  pre : N.take P.length = P
  par : ∀ x ∈ P, sc.names.lookup x = some .local ∨ sc.names.lookup x = some .cell
  nofree : ∀ y ∈ sc.names, y.2 ≠ .free
theorem bindL_out {kindOf : Str → Option NameKind} {x : Str} : ∀ {binds : List (Str × Value)} {m : Str → Option Value}, (∀ v, (x, v) ∉ binds) → bindL kindOf binds m x = m x
  | [], _, _ => rfl
  | (n, v) :: r, m, h => by
    unfold bindL
    rw [bindL_out fun w hw => h w (List.mem_cons_of_mem _ hw)]
    split
    · have : x ≠ n := by rintro rfl; exact h v List.mem_cons_self
      simp [this]
    · rfl
theorem bindC_out {kindOf : Str → Option NameKind} {x : Str} : ∀ {binds : List (Str × Value)} {m : Str → Option Value}, (∀ v, (x, v) ∉ binds) → bindC kindOf binds m x = m x
  | [], _, _ => rfl
  | (n, v) :: r, m, h => by
    unfold bindC
    rw [bindC_out fun w hw => h w (List.mem_cons_of_mem _ hw)]
    split
    · rfl
    · have : x ≠ n := by rintro rfl; exact h v List.mem_cons_self
      simp [this]
theorem bindL_get {kindOf : Str → Option NameKind} {x : Str} {v : Value} : ∀ {P : List Str} {vs : List Value} {i : Nat} {m : Str → Option Value}, P.Nodup → P[i]? = some x → vs[i]? = some v → kindOf x = some .local →
    bindL kindOf (P.zip vs) m x = some v
  | [], _, _, _, _, h, _, _ => by simp at h
  | _ :: _, [], _, _, _, _, h, _ => by simp at h
  | p :: P, w :: vs, 0, m, nd, h1, h2, hk => by
    simp at h1 h2; subst h1; subst h2
    show bindL kindOf ((p, w) :: P.zip vs) m p = _
    unfold bindL
    rw [bindL_out fun v hv => (List.nodup_cons.mp nd).1 (List.of_mem_zip hv).1, if_pos hk]
    simp
  | p :: P, w :: vs, i + 1, m, nd, h1, h2, hk => by
    show bindL kindOf ((p, w) :: P.zip vs) m x = _
    unfold bindL
    exact bindL_get (i := i) (List.nodup_cons.mp nd).2 (by simpa using h1) (by simpa using h2) hk
theorem bindC_get {kindOf : Str → Option NameKind} {x : Str} {v : Value} : ∀ {P : List Str} {vs : List Value} {i : Nat} {m : Str → Option Value}, P.Nodup → P[i]? = some x → vs[i]? = some v → kindOf x ≠ some .local →
    bindC kindOf (P.zip vs) m x = some v
  | [], _, _, _, _, h, _, _ => by simp at h
  | _ :: _, [], _, _, _, _, h, _ => by simp at h
  | p :: P, w :: vs, 0, m, nd, h1, h2, hk => by
    simp at h1 h2; subst h1; subst h2
    show bindC kindOf ((p, w) :: P.zip vs) m p = _
    unfold bindC
    rw [bindC_out fun v hv => (List.nodup_cons.mp nd).1 (List.of_mem_zip hv).1, if_neg hk]
    simp
  | p :: P, w :: vs, i + 1, m, nd, h1, h2, hk => by
    show bindC kindOf ((p, w) :: P.zip vs) m x = _
    unfold bindC
    exact bindC_get (i := i) (List.nodup_cons.mp nd).2 (by simpa using h1) (by simpa using h2) hk
def start (N : List Str) (vs : List V) : St := vs.map some ++ List.replicate (N.length - vs.length) none
def cxOf (CX : CXT) (P : Program) (w : World) (K : PySem.W.Frag) (mg : Str → Option Value) (base : Heap) (N : List Str) (qual : Str) (scope : Scope) (f : Addr) (cd : Value) (A : Around) (outer : List Env) (s : Shared) (H : Hp) (E : XK) : Cx where
  prog := P
  w := w
  K := K
  mg := mg
  base := base
  A := A.deeper (envOfC qual scope s.heap.objs.size f cd)
  N := N
  s₀ := s
  H₀ := H
  env := envOfC qual scope s.heap.objs.size f cd
  outer := outer
  stack := envOfC qual scope s.heap.objs.size f cd :: outer
  ex := []
  calm := true
  fn := fun _ => true
  pn := []
  xe := fun e s' => wpAny (model P w) (A.deeper (envOfC qual scope s.heap.objs.size f cd)) (leaving (envOfC qual scope s.heap.objs.size f cd) e) (fun _ s'' => CX outer H s E e s'') (fun e' s'' => CX outer H s E e' s'') s'
theorem cell_has {sc : Scope} {n : Nat} {x : Str} (h : sc.names.lookup x = some .cell) : ∃ c, (cellsFrom n sc.names []).lookup x = some c := by
  have q := PySem.W.cellsFrom_some sc.names n [] (.inl h)
  exact Option.isSome_iff_exists.mp q
theorem inv_start {CX : CXT} {P : Program} {w : World} {K : PySem.W.Frag} {mg : Str → Option Value} {base : Heap} {N ps : List Str} {qual : Str} {scope : Scope} {f : Addr} {cd : Value} {A : Around} {outer : List Env} {s s1 : Shared} {H : Hp} {E : XK} {us : List Value} {vs : List V}
    (S : FnScope N ps scope) (hd : A.handled = none) (e0 : Env0 P w K mg base A outer s H) (hl : vs.length = ps.length) (r : Vals vs us)
    (x : InCallC s s.heap.objs.size (bindL (envOfC qual scope s.heap.objs.size f cd).kindOf (ps.zip us) fun _ => none) (cellsFrom (s.heap.objs.size + 1) scope.names []) (bindC (envOfC qual scope s.heap.objs.size f cd).kindOf (ps.zip us) fun _ => none) s1) :
    Inv (cxOf CX P w K mg base N qual scope f cd A outer s H E) [] (start N vs) H s1 := by
  have hpl : ps.length ≤ N.length := by have := congrArg List.length S.pre; rw [List.length_take] at this; omega
  obtain ⟨h1, tk, rfl, hk⟩ := x.done
  have noA : ∀ b : Addr, b ∉ (cxOf CX P w K mg base N qual scope f cd A outer s H E).ex := fun b z => absurd (show b ∈ ([] : List Addr) from z) (by simp)
  refine ⟨⟨e0.mod, S.kind, rfl, rfl, Nat.le_refl _, fun y z c h1 h2 => ?_, fun y hy => ?_, fun y c _ h => ?_, fun _ => hd, Around.frames_deeper e0.frames, .inr ⟨rfl, rfl⟩, fun b z => absurd z (noA b), e0.bs, e0.bsz, fun b _ _ => noA b, fun b z => absurd z (noA b), e0.funs, e0.frf⟩,
    rfl, e0.bare, Un.kept hk, ⟨_, x.toInCall.ns, fun i y v h1 h2 h3 => ?_⟩, fun y c h => ⟨_, x.cell y c h⟩, e0.hok.fresh (Nat.le_refl _), fun y c h => ?_, fun p hp => absurd (show p ∈ ([] : List (Addr × Obj)) from hp) (by simp), e0.hok.kept hk, ?_⟩
  · exact name_of_addr x.apart (PySem.mem_of_lookup h1) (PySem.mem_of_lookup h2)
  · have hy : scope.names.lookup y = some .cell ∨ scope.names.lookup y = some .free := hy
    rcases hy with hy | hy
    · exact cell_has hy
    · exact absurd rfl (S.nofree _ (PySem.mem_of_lookup hy))
  · exact Nat.le_of_lt (x.above y c (PySem.mem_of_lookup h))
  · have hi : i < vs.length := by
      unfold start at h2
      by_cases hi : i < vs.length
      · exact hi
      · rw [List.getElem?_append_right (by simpa using hi)] at h2
        rw [List.getElem?_replicate] at h2
        split at h2 <;> cases h2
    have ha : vs[i]? = some v := by
      unfold start at h2
      rw [List.getElem?_append_left (by simpa using hi), List.getElem?_map] at h2
      cases e : vs[i]? with
      | none => rw [e] at h2; cases h2
      | some a => rw [e] at h2; cases h2; rfl
    obtain ⟨u, hu, rv⟩ := r.get ha
    have hp : ps[i]? = some y := by
      rw [← S.pre, List.getElem?_take_of_lt (by omega)]; exact h1
    have ndP : ps.Nodup := by rw [← S.pre]; exact S.nd.sublist (List.take_sublist _ _)
    refine ⟨u, rv, ?_⟩
    rcases S.par y (List.mem_of_getElem? hp) with k | k
    · exact .inl ⟨k, bindL_get ndP hp hu k⟩
    · obtain ⟨c, e⟩ := cell_has (n := s.heap.objs.size + 1) k
      refine .inr ⟨.inl k, c, e, ?_⟩
      have q := x.cell y c e
      rw [bindC_get ndP hp hu (by show scope.names.lookup y ≠ _; rw [k]; decide)] at q
      exact q
  · exact e0.hok.fresh (Nat.le_of_lt (x.above y c (PySem.mem_of_lookup h)))
  · unfold start
    show _ = N.length
    rw [List.length_append, List.length_map, List.length_replicate]
    omega
theorem fn_of {CX : CXT} {P : Program} {w : World} {K : PySem.W.Frag} {mg : Str → Option Value} {base : Heap} {k : Nat} {f : Addr} {name qual : Str} {params : Arguments} {body : List Stmt} {scope : Scope} {dV kV doc pm cdv ct oc : Value} {an od : Option Addr}
    {osl : Array (Option Value)} {N ps : List Str} {sp : Sp} (lk : K.lookup f = some ⟨oc, od, .func (PySem.W.fnOf name qual params body scope dV kV doc pm an cdv ct), osl⟩) (hcd : PySem.W.codeIn K cdv qual = true) (S : FnScope N ps scope)
    (len : ∀ vs H Q E, sp vs H Q E → vs.length = ps.length)
    (hbody : ∀ (A : Around) (outer : List Env) (s : Shared) (H : Hp) (vs : List V) (Q : VK) (E : XK), Room k (A.deeper (envOfC qual scope s.heap.objs.size f cdv)) → sp vs H Q E →
      ∃ t, PSs (cxOf CX P w K mg base N qual scope f cdv A outer s H E) body t ∧ t { nx := fun _ H' => Q .non H', rt := Q } (start N vs) H) :
    FnOk P w K mg base CX (k + 1) f (PySem.W.fnOf name qual params body scope dV kV doc pm an cdv ct) ps sp := by
  refine ⟨len, fun A outer s H args us vs Q E hr e0 hb r hsp => ?_⟩
  have hl := len _ _ _ _ hsp
  have KX : K.In s.heap := e0.mod.kin.keeps fun b o e => (e0.bs b o e).1
  have lim : s.heap.NoLimit := e0.mod.nolimit.keeps fun b o e => (e0.bs b o e).1
  have hkind : ∀ y ∈ ps.zip us, scope.names.lookup y.1 = some .local ∨ (scope.names.lookup y.1 = some .cell ∧ ((cellsFrom (s.heap.objs.size + 1) scope.names []).lookup y.1).isSome = true) := fun ⟨n, v⟩ hy => by
    rcases S.par n (List.of_mem_zip hy).1 with q | q
    · exact .inl q
    · exact .inr ⟨q, PySem.W.cellsFrom_some _ _ _ (.inl q)⟩
  refine codeAny_call_function hr.depth (KX _ _ lk) rfl S.co S.gen rfl (PySem.W.codeRec_of KX hcd) (hb _ _ _ _ ?_)
  refine wpAny_newFunctionEnv_cells S.kind hkind fun env he s1 x => ?_
  subst he
  refine ⟨lim.keeps x.toInCall.keep, codeAny_func ?_⟩
  obtain ⟨t, ht, hq⟩ := hbody A outer s H vs Q E (hr.deeper _) hsp
  have I : Inv (cxOf CX P w K mg base N qual scope f cdv A outer s H E) [] (start N vs) H s1 := inv_start S hr.hd e0 hl r x
  refine wpAny_mono (ht [] s1 (start N vs) H _ I hq) (fun fl s' hs => ?_) fun e s' hs => hs
  have fin : ∀ {σ' : St} {H' : Hp} {v : V} {u : Value}, Inv (cxOf CX P w K mg base N qual scope f cdv A outer s H E) [] σ' H' s' → RelV v u → Q v H' → CE outer P w H s Q u s' :=
    fun {σ' H' v u} J rv q => ⟨v, H', J.os, J.bare, J.base, J.hok, rv, q⟩
  cases fl with
  | ret u =>
    obtain ⟨v, σ', H', J, rv, q⟩ := hs
    exact fin J rv q
  | next =>
    obtain ⟨σ', H', J, q⟩ := hs
    exact fin (v := V.non) (u := Value.none) J rfl q
  | brk =>
    obtain ⟨_, _, _, q⟩ := hs
    exact False.elim q
  | cont =>
    obtain ⟨_, _, _, q⟩ := hs
    exact False.elim q
end L2
namespace L2
open PySem PySem.Spec PyProof.Rows
section
variable {X : Cx} {x : Str} {p pos : Pos} {e : Expr} {es : List Expr} {t : TA} {id T : String} {r : List V → Hp → VK → Prop}
def tCB (r : List V → Hp → VK → Prop) (t : TA) : TE := fun σ H Q => t σ H fun vs H1 => r vs H1 Q
theorem pe_callB (hc : CallR X (.builtin id) r) (hg : Gl X x) (hm : X.mg x = none) (hv : bootBuiltins x = some (.builtin id)) (ha : PA X (e :: es) t) (hn : x ≠ "__name__" := by decide) (hdb : (x == ("__debug__" : Str)) = false := by decide)
    (he : starEach (e :: es) X.env = (false, eval e X.env) :: starEach es X.env := by rfl) (hpl : (backTo pos (starEach es X.env)).any (·.1) = false := by rfl) : PE X (.Call (.Name x p) (e :: es) [] pos) (tCB r t) := by
  intro pins s σ H Q I h
  refine wpAny_Call_Name_kw (ld_blt I hg hm hv ?_ hn hdb)
  exact PyProof.Rows.callWith_builtin1 (thn (ha pos pins s σ H _ I h) fun us s1 ⟨vs, H1, I1, r1, q1⟩ => hc pins s1 σ H1 vs us Q I1 r1 q1) he hpl
theorem pe_callTy (hc : CallR X (.type T) r) (hg : Gl X x) (hm : X.mg x = none) (hv : bootBuiltins x = some (.type T)) (ha : PA X (e :: es) t) (hn : x ≠ "__name__" := by decide) (hdb : (x == ("__debug__" : Str)) = false := by decide)
    (he : starEach (e :: es) X.env = (false, eval e X.env) :: starEach es X.env := by rfl) (hpl : (backTo pos (starEach es X.env)).any (·.1) = false := by rfl) : PE X (.Call (.Name x p) (e :: es) [] pos) (tCB r t) := by
  intro pins s σ H Q I h
  refine wpAny_Call_Name_kw (ld_blt I hg hm hv ?_ hn hdb)
  exact PyProof.Rows.callWith_type1 (thn (ha pos pins s σ H _ I h) fun us s1 ⟨vs, H1, I1, r1, q1⟩ => hc pins s1 σ H1 vs us Q I1 r1 q1) he hpl
end
end L2
namespace HT
open PySem PyProof.Rows
section
open PySem.SeqAt
open PySem.AutoSeq1 (wpAny_loadPart')
open PySem.MeetsSeq PySem.MeetsSeq2 PySem.MeetsSeq3
end
section
variable {prog : Program} {w : World} {A : Around} {E : Value → Shared → Prop} {s : Shared}
theorem cat_tup {t b : Addr} {vs ws : List Value} {Q : Value → Shared → Prop} (ht : IsTup s.heap t vs.toArray) (hb : IsTup s.heap b ws.toArray) (hv : vs ≠ [])
    (h1 : ws = [] → Q (.ref t) s) (h2 : ws ≠ [] → Q (.ref s.heap.objs.size) { s with heap := s.heap.push { cls := .type "tuple", data := .seq (vs ++ ws).toArray } })
    (hsz : vs.length + ws.length ≤ sizeLine) : wpAny (model prog w) A (binaryOp .Add (.ref t) (.ref b)) Q E s := by
  obtain ⟨⟨cls, dd, data, sl⟩, ho, hc, n, hd⟩ := id ht
  obtain ⟨⟨cls2, dd2, data2, sl2⟩, ho2, hc2, n2, hd2⟩ := id hb
  simp only at hc hd hc2 hd2
  subst hc hd hc2 hd2
  have e : vs.toArray ++ ws.toArray = (vs ++ ws).toArray := by simp
  by_cases hw : ws = []
  · exact concat_meets ⟨_, ho, rfl⟩ ⟨_, ho2, rfl⟩ noFill_tuple_add seq_tuple_add PySem.F.slot_tuple_add PySem.F.entry_tuple_add (PySem.F.args_tuple_add_2 _ _)
      (tuple_addW1 t b vs.toArray ws.toArray n n2 dd dd2 sl sl2 (by simpa using hv) (by simp [hw])) ⟨ho, ho2, h1 hw⟩
  · refine concat_meets ⟨_, ho, rfl⟩ ⟨_, ho2, rfl⟩ noFill_tuple_add seq_tuple_add PySem.F.slot_tuple_add PySem.F.entry_tuple_add (PySem.F.args_tuple_add_2 _ _)
      (tuple_addW2 t b vs.toArray ws.toArray n n2 dd dd2 sl sl2 (by simpa using hv) (by simpa using hw) (by rw [List.size_toArray, List.size_toArray]; exact hsz)) ⟨ho, ho2, ?_⟩
    rw [e]
    exact h2 hw
def sIx (n d : Nat) : Option Int → Nat
  | none => d
  | some v => if v < 0 then (v + (n : Int)).toNat else min v.toNat n
theorem sIx_le (n d : Nat) (hd : d ≤ n) (o : Option Int) : sIx n d o ≤ n := by
  cases o with
  | none => exact hd
  | some v =>
    show (if v < 0 then (v + (n : Int)).toNat else min v.toNat n) ≤ n
    by_cases hv : v < 0
    · rw [if_pos hv]; omega
    · rw [if_neg hv]; exact Nat.min_le_right _ _
theorem clip_eq (v : Int) (n d : Nat) : (if v < 0 then max (v + (n : Int)) 0 else min v (n : Int)) = ((sIx n d (some v) : Nat) : Int) := by
  show (if v < 0 then max (v + (n : Int)) 0 else min v (n : Int)) = (((if v < 0 then (v + (n : Int)).toNat else min v.toNat n) : Nat) : Int)
  by_cases hv : v < 0
  · simp only [if_pos hv]; omega
  · simp only [if_neg hv]; omega
theorem adjust_gen (lo hi : Option Int) (n : Nat) : Builtin.Slice.sliceAdjust lo hi 1 (n : Int) = (((sIx n 0 lo : Nat) : Int), ((sIx n n hi : Nat) : Int)) := by
  have h1 : ¬ ((1 : Int) < 0) := by omega
  unfold Builtin.Slice.sliceAdjust
  simp only [h1, if_false]
  refine Prod.ext ?_ ?_
  · cases lo with
    | none => rfl
    | some v => exact clip_eq v n 0
  · cases hi with
    | none => rfl
    | some v => exact clip_eq v n n
theorem places_gen (i j : Nat) : Builtin.Slice.slicePlaces (i : Int) (j : Int) 1 = j - i := by
  unfold Builtin.Slice.slicePlaces
  have h1 : (1 : Int) > 0 := by omega
  simp only [h1, if_true, Int.ediv_one]
  split <;> omega
theorem slicePart_ {v : Value} {o : Option Int} {Q : Option Int → Shared → Prop} (p : IsPart v o) (h : Q o s) : wpAny (model prog w) A (Builtin.Slice.slicePartIndex v) Q E s := by
  cases p with
  | none => exact slicePart_none h
  | int i t => exact slicePart_int h
theorem sliceApplied_gen {sl : Addr} {vl vu : Value} {lo hi : Option Int} {n : Nat} {Q : Int × Int × Nat → Shared → Prop} (hs : s.heap.IsSliceOf sl vl vu .none) (pl : IsPart vl lo) (pu : IsPart vu hi)
    (h : Q (((sIx n 0 lo : Nat) : Int), 1, sIx n n hi - sIx n 0 lo) s) : wpAny (model prog w) A (Builtin.Slice.sliceApplied (.ref sl) (pure (n : Int))) Q E s := by
  obtain ⟨os, hos, hcs, hds⟩ := id hs
  unfold Builtin.Slice.sliceApplied Builtin.Slice.sliceFields
  refine wpAny_bind (wpAny_bind (wpAny_field hos hds (x := vl) rfl (wpAny_bind (wpAny_field hos hds (x := vu) rfl (wpAny_bind (wpAny_field hos hds (x := .none) rfl (wpAny_pure ?_)))))))
  refine wpAny_bind (slicePart_none ?_)
  show wpAny _ _ (if ((1 : Int) == 0) = true then _ else _) _ _ s
  rw [if_neg (by decide)]
  refine wpAny_bind (slicePart_ pl (wpAny_bind (slicePart_ pu (wpAny_bind (wpAny_pure ?_)))))
  show wpAny _ _ (match Builtin.Slice.sliceAdjust lo hi 1 (n : Int) with | (lo, hi) => pure (lo, (1 : Int), Builtin.Slice.slicePlaces lo hi 1)) _ _ s
  rw [adjust_gen lo hi n]
  show wpAny _ _ (pure (((sIx n 0 lo : Nat) : Int), (1 : Int), Builtin.Slice.slicePlaces ((sIx n 0 lo : Nat) : Int) ((sIx n n hi : Nat) : Int) 1)) _ _ s
  rw [places_gen]
  exact wpAny_pure h
theorem pick_gen (xs : Array Value) (i k : Nat) : ((List.range k).filterMap fun (m : Nat) => xs[((i : Int) + (m : Int) * 1).toNat]?).toArray = ((xs.toList.drop i).take k).toArray := by
  have e : (fun (m : Nat) => xs[((i : Int) + (m : Int) * 1).toNat]?) = fun m => xs[i + m]? := by
    funext m
    have : ((i : Int) + (m : Int) * 1).toNat = i + m := by omega
    rw [this]
  rw [e]
  have := pick_run xs i k
  rw [List.filterMap_map] at this
  have e2 : ((fun x => xs[x]?) ∘ fun x => i + x) = fun m => xs[i + m]? := rfl
  rw [e2] at this
  rw [this]
theorem getItem_tuple_cut {t sl : Addr} {items : Array Value} {vl vu : Value} {lo hi : Option Int} {Q : Value → Shared → Prop} (ht : IsTup s.heap t items) (hs : s.heap.IsSliceOf sl vl vu .none) (pl : IsPart vl lo) (pu : IsPart vu hi)
    (hw : ¬ (sIx items.size 0 lo = 0 ∧ sIx items.size items.size hi = items.size))
    (h : Q (.ref s.heap.objs.size) { s with heap := s.heap.push { cls := .type "tuple", data := .seq ((items.toList.drop (sIx items.size 0 lo)).take (sIx items.size items.size hi - sIx items.size 0 lo)).toArray } })
    (hsz : items.size ≤ sizeLine) : wpAny (model prog w) A (getItem (.ref t) (.ref sl)) Q E s := by
  have htake : sizeOk (.seq ((items.toList.drop (sIx items.size 0 lo)).take (sIx items.size items.size hi - sIx items.size 0 lo)).toArray) := by
    show ((items.toList.drop (sIx items.size 0 lo)).take (sIx items.size items.size hi - sIx items.size 0 lo)).toArray.size ≤ sizeLine
    rw [List.size_toArray, List.length_take, List.length_drop, Array.length_toList]
    omega
  have hj : sIx items.size items.size hi ≤ items.size := sIx_le _ _ (Nat.le_refl _) hi
  obtain ⟨os, hos, hcs, hds⟩ := id hs
  have hTs : s.TypeIs (.ref sl) "slice" := ⟨os, hos, hcs⟩
  unfold getItem
  try with_reducible refine wpAny_holding ?_
  first | refine wpAny_bind (wpAny_pure ?_) | skip
  refine wpAny_bind (wpAny_sequenceKey ht.typeIs (by decide) ?_)
  refine wpAny_bind (wpAny_callSpecial?_slot (name := Str.ofString "__getitem__") ht.typeIs PyProof.Rows.slot_tuple_getitem
    (wpAny_call_entry PyProof.Rows.slot_tuple_getitem ht.typeIs entry_tuple_getitem ?_ (args_tuple_getitem _ _)))
  show wpAny _ _ (Builtin.Tuple.tupleItemsOf (.ref t) >>= _) _ _ s
  refine wpAny_bind (tupleItemsOf_ ht ?_)
  refine wpAny_bind (wpAny_typeOf hTs ?_)
  rw [if_pos (by decide)]
  refine wpAny_bind (sliceApplied_gen hs pl pu ?_)
  have hno : ¬ ((((sIx items.size 0 lo : Nat) : Int) == 0 && (1 : Int) == 1 && (sIx items.size items.size hi - sIx items.size 0 lo) == items.size) = true) := by
    intro q
    rw [Bool.and_eq_true, Bool.and_eq_true] at q
    have q1 : ((sIx items.size 0 lo : Nat) : Int) = 0 := eq_of_beq q.1.1
    have q2 : sIx items.size items.size hi - sIx items.size 0 lo = items.size := eq_of_beq q.2
    exact hw ⟨by omega, by omega⟩
  show wpAny _ _ (if (((sIx items.size 0 lo : Nat) : Int) == 0 && (1 : Int) == 1 && (sIx items.size items.size hi - sIx items.size 0 lo) == items.size) = true then _ else _) _ _ s
  rw [if_neg hno, pick_gen]
  first
    | exact wpAny_bind (m := Builtin.Tuple.tupleExact _) (wpAny_newObj_type (wpAny_pure ⟨_, rfl, wpAny_pure h⟩) htake)
    | exact wpAny_bind (m := Builtin.Tuple.tupleExact _) (wpAny_newObj_type (wpAny_bind (wpAny_pure (wpAny_pure ⟨_, rfl, wpAny_pure h⟩))) htake)
    | exact wpAny_bind (wpAny_bind (m := Builtin.Tuple.tupleExact _) (wpAny_newObj_type (wpAny_pure (wpAny_pure ⟨_, rfl, wpAny_pure h⟩)) htake))
    | exact wpAny_bind (wpAny_bind (m := Builtin.Tuple.tupleExact _) (wpAny_newObj_type (wpAny_pure ⟨_, rfl, wpAny_pure h⟩) htake))
end
end HT
namespace L2
open PySem PySem.Spec PyProof.Rows
abbrev TO := St → Hp → (Option Int → Hp → Prop) → Prop
def PO (X : Cx) (e : Option Expr) (t : TO) : Prop :=
  ∀ (pins : List (Addr × Obj)) (s : Shared) (σ : St) (H : Hp) (Q : Option Int → Hp → Prop), Inv X pins σ H s → t σ H Q →
    wpAny (model X.prog X.w) X.A (evalPart e X.env) (fun u s' => ∃ o H', Inv X pins σ H' s' ∧ IsPart u o ∧ Q o H') X.xe s
def tNoPart : TO := fun _ H Q => Q none H
def tPart (t : TE) : TO := fun σ H Q => t σ H fun x H1 => ∃ i, x = .int i ∧ Q (some i) H1
section
variable {X : Cx} {e : Expr} {te : TE} {lo hi : Option Expr} {tl th : TO} {pos p2 : Pos}
theorem po_none : PO X none tNoPart := by
  intro pins s σ H Q I h
  rw [evalPart_none]
  exact wpAny_pure ⟨none, H, I, .none, h⟩
theorem po_some (h : PE X e te) : PO X (some e) (tPart te) := by
  intro pins s σ H Q I hw
  rw [evalPart_some]
  refine thn (h pins s σ H _ I hw) fun u s1 ⟨x, H1, I1, r1, q1⟩ => ?_
  obtain ⟨i, rfl, q⟩ := q1
  obtain ⟨t, rfl⟩ := r1
  exact ⟨some i, H1, I1, .int i t, q⟩
def SlR (X : Cx) (r : V → Option Int → Option Int → Hp → VK → Prop) : Prop :=
  ∀ (pins : List (Addr × Obj)) (s : Shared) (σ : St) (H : Hp) (x : V) (v vl vu : Value) (lo hi : Option Int) (sl : Addr) (Q : VK), Inv X pins σ H s → RelV x v → s.heap.IsSliceOf sl vl vu .none → IsPart vl lo → IsPart vu hi → r x lo hi H Q →
    ∃ T id, typeLookup (.type T) "__getitem__" = pure (some (.builtin id)) ∧ s.TypeIs v T ∧ wpAny (model X.prog X.w) X.A (getItem v (.ref sl)) (EP X pins σ Q) X.xe s
def tSl (r : V → Option Int → Option Int → Hp → VK → Prop) (te : TE) (tl th : TO) : TE := fun σ H Q => te σ H fun x H1 => tl σ H1 fun l H2 => th σ H2 fun u H3 => r x l u H3 Q
theorem pe_slice {r : V → Option Int → Option Int → Hp → VK → Prop} (hr : SlR X r) (he : PE X e te) (hl : PO X lo tl) (hu : PO X hi th) : PE X (.Subscript e (.Slice lo hi none p2) pos) (tSl r te tl th) := by
  intro pins s σ H Q I h
  refine Subscript_ (thn (he pins s σ H _ I h) fun v s1 ⟨x, H1, I1, r1, q1⟩ => ?_)
  refine wpAny_Slice (thn (hl pins s1 σ H1 _ I1 q1) fun vl s2 ⟨l, H2, I2, pl, q2⟩ => thn (hu pins s2 σ H2 _ I2 q2) fun vu s3 ⟨u, H3, I3, pu, q3⟩ => ?_)
  rw [evalPart_none]
  refine wpAny_pure ?_
  have I4 : Inv X pins σ H3 { s3 with heap := s3.heap.push { cls := .type "slice", data := .fields #[vl, vu, .none] } } := I3.kept (t' := s3.toks) fun b ob q => Heap.get?_push_of_some _ q
  obtain ⟨T, id, hT, ht, hg⟩ := hr pins { s3 with heap := s3.heap.push { cls := .type "slice", data := .fields #[vl, vu, .none] } } σ H3 x v vl vu l u s3.heap.objs.size Q I4 r1 (Heap.IsSliceOf.new ..) pl pu q3
  show wpAny (model X.prog X.w) X.A (subscriptTail e (.Slice lo hi none p2) v (.ref s3.heap.objs.size)) (EP X pins σ Q) X.xe { s3 with heap := s3.heap.push { cls := .type "slice", data := .fields #[vl, vu, .none] } }
  exact tail_any (ops := [.ref s3.heap.objs.size, v]) ht hT hg (by with_unfolding_all rfl)
def cutV (xs : List V) (lo hi : Option Int) : List V := (xs.drop (HT.sIx xs.length 0 lo)).take (HT.sIx xs.length xs.length hi - HT.sIx xs.length 0 lo)
theorem cutV_length (xs : List V) (lo hi : Option Int) : (cutV xs lo hi).length ≤ xs.length := by
  unfold cutV
  rw [List.length_take, List.length_drop]
  omega
def rSlT (K : PySem.W.Frag) : V → Option Int → Option Int → Hp → VK → Prop := fun x lo hi H Q => ∃ a xs, x = .ref a ∧ SqT K H a xs ∧
  ¬ (HT.sIx xs.length 0 lo = 0 ∧ HT.sIx xs.length xs.length hi = xs.length) ∧ ∀ p, H p = none → Q (.ref p) (upd H p (.tup (cutV xs lo hi)))
theorem sl_tup : SlR X (rSlT X.K) := by
  intro pins s σ H x v vl vu lo hi sl Q I rx hs pl pu h
  obtain ⟨a, xs, rfl, hx, hw, q⟩ := h
  cases rx
  obtain ⟨its, r, ht, hz⟩ := I.tuple hx
  have hlen : its.toArray.size = xs.length := by rw [List.size_toArray]; exact r.length.symm
  refine ⟨"tuple", _, PyProof.Rows.slot_tuple_getitem.lookup, ht.typeIs, ?_⟩
  refine HT.getItem_tuple_cut ht hs pl pu (by rw [hlen]; exact hw) ?_ (by rw [hlen]; exact hz)
  rw [hlen]
  refine ⟨.ref s.heap.objs.size, _, I.laid (t' := s.toks) (o := .tup (cutV xs lo hi)) (fun b ob q => Heap.get?_push_of_some _ q) (Nat.le_refl _) ?_, rfl, q _ (I.hok.fresh (Nat.le_refl _))⟩
  exact ⟨Nat.le_trans (cutV_length xs lo hi) hz, _, (r.drop (HT.sIx xs.length 0 lo)).take (HT.sIx xs.length xs.length hi - HT.sIx xs.length 0 lo), IsTupN.new _ _⟩
def rCatT (K : PySem.W.Frag) : R2 := fun x y H Q => ∃ a b xs ys, x = .ref a ∧ y = .ref b ∧ SqT K H a xs ∧ SqT K H b ys ∧ xs ≠ [] ∧ xs.length + ys.length ≤ sizeLine ∧
  (ys = [] → Q (.ref a) H) ∧ (ys ≠ [] → ∀ p, H p = none → Q (.ref p) (upd H p (.tup (xs ++ ys))))
theorem Vals.nil_iff {xs : List V} {us : List Value} (r : Vals xs us) : us = [] ↔ xs = [] := by
  cases r with
  | nil => simp
  | cons _ _ => simp
theorem op_catT : OpR X (binaryOp .Add) (rCatT X.K) := by
  intro pins s σ H x y v u Q I rx ry h
  obtain ⟨a, b, xs, ys, rfl, rfl, ha, hb, hx, hz, q1, q2⟩ := h
  cases rx
  cases ry
  obtain ⟨its, r1, p1, _⟩ := I.tuple ha
  obtain ⟨its2, r2, p2, _⟩ := I.tuple hb
  refine HT.cat_tup p1 p2 (fun z => hx (r1.nil_iff.mp z)) (fun z => ⟨.ref a, H, I, rfl, q1 (r2.nil_iff.mp z)⟩) (fun z => ?_) (by rw [← r1.length, ← r2.length]; exact hz)
  refine ⟨.ref s.heap.objs.size, _, I.laid (t' := s.toks) (o := .tup (xs ++ ys)) (fun b ob q => Heap.get?_push_of_some _ q) (Nat.le_refl _) ?_, rfl, q2 (fun w => z (r2.nil_iff.mpr w)) _ (I.hok.fresh (Nat.le_refl _))⟩
  exact ⟨by rw [List.length_append]; exact hz, _, r1.append r2, IsTupN.new _ _⟩
end
end L2
namespace L2
open PySem PySem.Spec PyProof.Rows
def ixN (n : Nat) (i : Int) : Option Nat := if 0 ≤ i then (if i < n then some i.toNat else none) else if -(n : Int) ≤ i then some (i + n).toNat else none
def atI {α : Type} (xs : List α) (i : Int) : Option α := (ixN xs.length i).bind fun j => xs[j]?
theorem ixN_seq {n : Nat} {i : Int} {j : Nat} (h : ixN n i = some j) : seqIndex? i n = some j ∧ j < n ∧ -(n : Int) ≤ i ∧ i < n := by
  unfold ixN at h
  by_cases h0 : 0 ≤ i
  · rw [if_pos h0] at h
    by_cases h1 : i < n
    · rw [if_pos h1] at h
      have e : i.toNat = j := Option.some.inj h
      exact ⟨by rw [seqIndex_of h0 h1, e], by omega, by omega, h1⟩
    · rw [if_neg h1] at h; cases h
  · rw [if_neg h0] at h
    by_cases h1 : -(n : Int) ≤ i
    · rw [if_pos h1] at h
      have e : (i + n).toNat = j := Option.some.inj h
      exact ⟨by rw [seqIndex_neg (by omega) h1, e], by omega, h1, by omega⟩
    · rw [if_neg h1] at h; cases h
theorem atI_get {α : Type} {xs : List α} {i : Int} {v : α} (h : atI xs i = some v) : ∃ j, seqIndex? i xs.length = some j ∧ xs[j]? = some v ∧ j < xs.length ∧ -(xs.length : Int) ≤ i ∧ i < xs.length := by
  unfold atI at h
  cases e : ixN xs.length i with
  | none => rw [e] at h; cases h
  | some j =>
    rw [e] at h
    obtain ⟨h1, h2, h3, h4⟩ := ixN_seq e
    exact ⟨j, h1, h, h2, h3, h4⟩
def PlainIx (b : Expr) : Prop := ∀ o i, subscripted b false o i = operate [o, i] (getItem o i)
def IxR (X : Cx) (r : R2) : Prop :=
  ∀ (value slice : Expr) (pins : List (Addr × Obj)) (s : Shared) (σ : St) (H : Hp) (x y : V) (v u : Value) (Q : VK), Inv X pins σ H s → RelV x v → RelV y u → r x y H Q →
    subscripted slice false v u = operate [v, u] (getItem v u) → wpAny (model X.prog X.w) X.A (subscriptTail value slice v u) (EP X pins σ Q) X.xe s
def MtR (X : Cx) (id : String) (r : V → List V → Hp → VK → Prop) : Prop :=
  ∀ (pins : List (Addr × Obj)) (s : Shared) (σ : St) (H : Hp) (x : V) (xs : List V) (v : Value) (us : List Value) (Q : VK), Inv X pins σ H s → RelV x v → Vals xs us → r x xs H Q →
    wpAny (model X.prog X.w) X.A (call (.builtin id) (v :: us)) (EP X pins σ Q) X.xe s
section
variable {X : Cx} {a b : Expr} {ta tb : TE} {pos : Pos}
theorem IxR.or {r r' : R2} (h : IxR X r) (h' : IxR X r') : IxR X (fun x y H Q => r x y H Q ∨ r' x y H Q) := by
  intro value slice pins s σ H x y v u Q I rx ry q hs
  rcases q with q | q
  · exact h value slice pins s σ H x y v u Q I rx ry q hs
  · exact h' value slice pins s σ H x y v u Q I rx ry q hs
theorem pe_ix {r : R2} (hr : IxR X r) (ha : PE X a ta) (hb : PE X b tb) (hs : PlainIx b) : PE X (.Subscript a b pos) (tOp r ta tb) := by
  intro pins s σ H Q I h
  exact Subscript_ (binT ha hb I h fun v u s2 x y H2 I2 rx ry q => hr a b pins s2 σ H2 x y v u Q I2 rx ry q (hs _ _))
def rIxL (K : PySem.W.Frag) : R2 := fun x y H Q => ∃ p xs i v, x = .ref p ∧ y = .int i ∧ SqL K H p xs ∧ atI xs i = some v ∧ Q v H
def rIxT (K : PySem.W.Frag) : R2 := fun x y H Q => ∃ p xs i v, x = .ref p ∧ y = .int i ∧ SqT K H p xs ∧ atI xs i = some v ∧ Q v H
def rIxS : R2 := fun x y H Q => ∃ z i c, x = .str z ∧ y = .int i ∧ z.length ≤ sizeLine ∧ atI z.cps.toList i = some c ∧ Q (.str ⟨#[c]⟩) H
theorem ix_list : IxR X (rIxL X.K) := by
  intro value slice pins s σ H x y v u Q I rx ry h hs
  obtain ⟨p, xs, i, z, rfl, rfl, hq, he, q⟩ := h
  cases rx
  obtain ⟨t, rfl⟩ := ry
  obtain ⟨its, r, pl, hz⟩ := I.list hq
  obtain ⟨j, h1, h2, h3, h4, h5⟩ := atI_get he
  obtain ⟨w, ew, rw'⟩ := r.get h2
  have hl := r.length
  have hn := line63
  have fin : EP X pins σ Q w s := ⟨z, H, I, rw', q⟩
  by_cases h0 : 0 ≤ i
  · have hj : i.toNat = j := by
      rw [seqIndex_of h0 h5] at h1
      exact Option.some.inj h1
    exact item_listR pl.isList h0 (by omega) (by rw [hj]; simpa using ew) fin hs
  · have hj : (i + (its.toArray.size : Int)).toNat = j := by
      rw [seqIndex_neg (by omega) h4] at h1
      rw [List.size_toArray, ← hl]
      exact Option.some.inj h1
    exact subscriptTail_builtinR (x := w) pl.isList.typeIs slot_list_getitem.lookup
      (wpAny_getItem_list_neg (Q := fun r s' => r = w ∧ EP X pins σ Q r s') pl.isList (by omega) (by rw [List.size_toArray] <;> omega) (by omega) (by rw [hj]; simpa using ew) ⟨rfl, fin⟩) hs
theorem ix_tup : IxR X (rIxT X.K) := by
  intro value slice pins s σ H x y v u Q I rx ry h hs
  obtain ⟨p, xs, i, z, rfl, rfl, hq, he, q⟩ := h
  cases rx
  obtain ⟨t, rfl⟩ := ry
  obtain ⟨its, r, pl, hz⟩ := I.tuple hq
  obtain ⟨j, h1, h2, h3, h4, h5⟩ := atI_get he
  obtain ⟨w, ew, rw'⟩ := r.get h2
  have hl := r.length
  have hn := line63
  have fin : EP X pins σ Q w s := ⟨z, H, I, rw', q⟩
  exact subscriptTail_builtinR (x := w) pl.typeIs slot_tuple_getitem.lookup
    (getItem_tuple (j := j) (Q := fun r s' => r = w ∧ EP X pins σ Q r s') pl (by omega) (by omega) (by rw [List.size_toArray, ← hl]; exact h1) (by simpa using ew) ⟨rfl, fin⟩) hs
theorem ix_str : IxR X rIxS := by
  intro value slice pins s σ H x y v u Q I rx ry h hs
  obtain ⟨z, i, c, rfl, rfl, hz, he, q⟩ := h
  obtain ⟨t, rfl⟩ := rx
  obtain ⟨t', rfl⟩ := ry
  obtain ⟨j, h1, h2, h3, h4, h5⟩ := atI_get he
  have hl : z.cps.toList.length = z.length := by simp [Str.length]
  rw [hl] at h1 h4 h5
  have hn := line63
  exact tail_any (typeIs_str s z t) slot_str_getitem.lookup (getItem_str (c := c) (by
    have e1 : decide (i < -(2 ^ 63 : Int)) = false := decide_eq_false (by omega)
    have e2 : decide (i ≥ 2 ^ 63) = false := decide_eq_false (by omega)
    rw [e1, e2, Bool.or_false]) (by rw [h1]; simpa using h2) ⟨.str ⟨#[c]⟩, H, I.tok _, ⟨_, rfl⟩, q⟩) hs
def rIx (K : PySem.W.Frag) : R2 := fun x y H Q => rIxL K x y H Q ∨ rIxT K x y H Q ∨ rIxS x y H Q
theorem ix_seq : IxR X (rIx X.K) := ix_list.or (ix_tup.or ix_str)
theorem mapSeq_set (its : List Value) (n j : Nat) (u : Value) : Obj.mapSeq (·.setIfInBounds j u) { cls := .type "list", data := .seq its.toArray n } = { cls := .type "list", data := .seq (its.set j u).toArray n } := by
  simp [Obj.mapSeq]
theorem Inv.lst {pins : List (Addr × Obj)} {σ : St} {H : Hp} {s : Shared} {p : Addr} {xs : List V} (I : Inv X pins σ H s) (h : H p = some (.lst xs)) :
    ∃ (its : List Value) (n : Nat), Vals xs its ∧ s.heap.get? p = some { cls := .type "list", data := .seq its.toArray n } ∧ xs.length ≤ sizeLine := by
  obtain ⟨z, its, n, r, e⟩ := I.hok p _ h
  exact ⟨its, n, r, e, z⟩
theorem Inv.lstUpd {pins : List (Addr × Obj)} {σ : St} {H : Hp} {s : Shared} {p : Addr} {xs ys : List V} {its its' : List Value} {n n' : Nat} {f : Obj → Obj} (I : Inv X pins σ H s) (h : H p = some (.lst xs))
    (ho : s.heap.get? p = some { cls := .type "list", data := .seq its.toArray n }) (hf : f { cls := .type "list", data := .seq its.toArray n } = { cls := .type "list", data := .seq its'.toArray n' }) (r : Vals ys its') (hz : ys.length ≤ sizeLine) (t : Nat) :
    Inv X pins σ (upd H p (.lst ys)) { s with heap := s.heap.update p f, toks := t } := by
  have e : (s.heap.update p f).get? p = some { cls := .type "list", data := .seq its'.toArray n' } := by
    rw [Heap.get?_update_self f ho (by rw [hf] <;> rfl), hf]
  refine I.write (x := p) (e := p) (by rw [h]; trivial) (.inl rfl) (fun b u hb q => (Heap.get?_update_other _ _ (Ne.symm hb)).trans q) ⟨_, e⟩ ?_
  exact ⟨hz, its', n', r, e⟩
def rSetL : V → V → V → Hp → (Hp → Prop) → Prop := fun o i v H Q => ∃ p xs k j, o = .ref p ∧ i = .int k ∧ H p = some (.lst xs) ∧ ixN xs.length k = some j ∧ Q (upd H p (.lst (xs.set j v)))
theorem set_list : PSet X rSetL := by
  intro pins s σ H o i v ov iv u Q I ro ri rv h
  obtain ⟨p, xs, k, j, rfl, rfl, hp, hj, q⟩ := h
  cases ro
  obtain ⟨t, rfl⟩ := ri
  obtain ⟨its, n, r, ho, hz⟩ := I.lst hp
  obtain ⟨h1, h2, h3, h4⟩ := ixN_seq hj
  have hl := r.length
  have hn := line63
  have I' : Inv X pins σ (upd H p (.lst (xs.set j v))) { s with heap := s.heap.update p (Obj.mapSeq (·.setIfInBounds j u)) } :=
    I.lstUpd hp ho (mapSeq_set its n j u) (r.set rv j) (by rw [List.length_set]; exact hz) s.toks
  by_cases h0 : 0 ≤ k
  · have hk : k.toNat = j := by
      rw [seqIndex_of h0 h4] at h1
      exact Option.some.inj h1
    exact PySem.W.ki_setAt ho h0 (by omega) (by rw [List.size_toArray, ← hl]; exact h4) (by rw [hk]; exact ⟨_, I', q⟩)
  · have hk : (k + (its.toArray.size : Int)).toNat = j := by
      rw [seqIndex_neg (by omega) h3] at h1
      rw [List.size_toArray, ← hl]
      exact Option.some.inj h1
    exact PySem.W.ki_setBack ho (by omega) (by rw [List.size_toArray, ← hl]; exact h3) (by omega) (by rw [hk]; exact ⟨_, I', q⟩)
theorem slice_bounds (lo hi : Option Int) (n : Nat) : (sliceBounds lo hi none n).1 = ((HT.sIx n 0 lo : Nat) : Int) ∧ (sliceBounds lo hi none n).2.1 = ((HT.sIx n n hi : Nat) : Int) ∧ (sliceBounds lo hi none n).2.2 = 1 := by
  refine ⟨?_, ?_, rfl⟩
  · cases lo with
    | none => simp [sliceBounds, HT.sIx]
    | some i =>
      simp only [sliceBounds, HT.sIx, Option.getD_none, show (1 : Int) > 0 by decide, if_true]
      by_cases h : i < 0
      · simp only [h, if_true] <;> omega
      · simp only [h, if_false] <;> omega
  · cases hi with
    | none => simp [sliceBounds, HT.sIx]
    | some i =>
      simp only [sliceBounds, HT.sIx, Option.getD_none, show (1 : Int) > 0 by decide, if_true]
      by_cases h : i < 0
      · simp only [h, if_true] <;> omega
      · simp only [h, if_false] <;> omega
theorem slicePick_cut (its : List Value) (lo hi : Option Int) : slicePick its.toArray lo hi none = ((its.drop (HT.sIx its.length 0 lo)).take (HT.sIx its.length its.length hi - HT.sIx its.length 0 lo)).toArray := by
  obtain ⟨h1, h2, h3⟩ := slice_bounds lo hi its.toArray.size
  unfold slicePick
  rw [h1, h2, h3]
  simp only [sliceRange_one, pick_run, List.size_toArray] <;> rfl
def rSlL (K : PySem.W.Frag) : V → Option Int → Option Int → Hp → VK → Prop := fun x lo hi H Q => ∃ a xs, x = .ref a ∧ SqL K H a xs ∧ ∀ p, H p = none → Q (.ref p) (upd H p (.lst (cutV xs lo hi)))
theorem sl_list : SlR X (rSlL X.K) := by
  intro pins s σ H x v vl vu lo hi sl Q I rx hs pl pu h
  obtain ⟨a, xs, rfl, hx, q⟩ := h
  cases rx
  obtain ⟨its, r, ht, hz⟩ := I.list hx
  have hlen := r.length
  refine ⟨"list", _, slot_list_getitem.lookup, ht.isList.typeIs, ?_⟩
  refine wpAny_getItem_list_slice ht.isList hs pl pu .none (by simp) ?_ (by rw [List.size_toArray] <;> omega)
  rw [slicePick_cut, ← hlen]
  refine ⟨.ref s.heap.objs.size, _, I.laid (t' := s.toks) (o := .lst (cutV xs lo hi)) (fun b ob q => Heap.get?_push_of_some _ q) (Nat.le_refl _) ?_, rfl, q _ (I.hok.fresh (Nat.le_refl _))⟩
  exact ⟨Nat.le_trans (cutV_length xs lo hi) hz, _, 0, (r.drop (HT.sIx xs.length 0 lo)).take (HT.sIx xs.length xs.length hi - HT.sIx xs.length 0 lo), Heap.get?_push_size _ rfl⟩
def flatV : V → Bool
  | .non => true
  | .bl _ => true
  | .int _ => true
  | .str _ => true
  | _ => false
def eqV : V → V → Bool
  | .non, .non => true
  | .bl a, .bl b => a == b
  | .bl a, .int b => (if a then 1 else 0) == b
  | .int a, .bl b => a == (if b then 1 else 0)
  | .int a, .int b => a == b
  | .str a, .str b => a == b
  | _, _ => false
theorem eqAt_V {A : Around} {s : Shared} {y x : V} {u v : Value} (ry : RelV y u) (rx : RelV x v) (fy : flatV y = true) (fx : flatV x = true) : SeqAt.EqAt A s u v (eqV y x) := by
  cases y with
  | non =>
    cases ry
    cases x with
    | non => cases rx; exact SeqAt.EqAt.same _
    | bl b => cases rx; exact SeqAt.EqAt.none_bool b
    | int b => obtain ⟨t, rfl⟩ := rx; exact SeqAt.EqAt.none_int b t
    | str b => obtain ⟨t, rfl⟩ := rx; exact SeqAt.EqAt.none_str b t
    | _ => exact absurd (show false = true from fx) Bool.false_ne_true
  | bl a =>
    cases ry
    cases x with
    | non => cases rx; exact SeqAt.EqAt.bool_none a
    | bl b => cases rx; exact SeqAt.EqAt.bool_bool a b
    | int b => obtain ⟨t, rfl⟩ := rx; exact SeqAt.EqAt.bool_int a b t
    | str b => obtain ⟨t, rfl⟩ := rx; exact SeqAt.EqAt.bool_str a b t
    | _ => exact absurd (show false = true from fx) Bool.false_ne_true
  | int a =>
    obtain ⟨t', rfl⟩ := ry
    cases x with
    | non => cases rx; exact SeqAt.EqAt.int_none a t'
    | bl b => cases rx; exact SeqAt.EqAt.int_bool a t' b
    | int b => obtain ⟨t, rfl⟩ := rx; exact SeqAt.EqAt.int_int a t' b t
    | str b => obtain ⟨t, rfl⟩ := rx; exact SeqAt.EqAt.int_str a t' b t
    | _ => exact absurd (show false = true from fx) Bool.false_ne_true
  | str a =>
    obtain ⟨t', rfl⟩ := ry
    cases x with
    | non => cases rx; exact SeqAt.EqAt.str_none a t'
    | bl b => cases rx; exact SeqAt.EqAt.str_bool a t' b
    | int b => obtain ⟨t, rfl⟩ := rx; exact SeqAt.EqAt.str_int a t' b t
    | str b => obtain ⟨t, rfl⟩ := rx; exact SeqAt.EqAt.str_str a t' b t
    | _ => exact absurd (show false = true from fx) Bool.false_ne_true
  | _ => exact absurd (show false = true from fy) Bool.false_ne_true
def eqU (x : V) (u : Value) : Bool := match u with
  | .none => eqV .non x
  | .bool b => eqV (.bl b) x
  | .int i _ => eqV (.int i) x
  | .str z _ => eqV (.str z) x
  | _ => false
theorem eqU_of {x y : V} {u : Value} (r : RelV y u) (f : flatV y = true) : eqU x u = eqV y x := by
  cases y with
  | non => cases r; rfl
  | bl b => cases r; rfl
  | int i => obtain ⟨t, rfl⟩ := r; rfl
  | str z => obtain ⟨t, rfl⟩ := r; rfl
  | _ => exact absurd (show false = true from f) Bool.false_ne_true
theorem any_eqU {x : V} : ∀ {xs : List V} {us : List Value}, Vals xs us → xs.all flatV = true → us.any (eqU x) = xs.any fun y => eqV y x
  | _, _, .nil, _ => rfl
  | y :: xs, u :: us, .cons r t, f => by
    rw [List.all_cons, Bool.and_eq_true] at f
    rw [List.any_cons, List.any_cons, eqU_of r f.1, any_eqU t f.2]
theorem mem_eqAt {A : Around} {s : Shared} {x : V} {v : Value} (rx : RelV x v) (fx : flatV x = true) : ∀ {xs : List V} {us : List Value}, Vals xs us → xs.all flatV = true → ∀ u ∈ us, SeqAt.EqAt A s u v (eqU x u)
  | _, _, .nil, _ => fun u hu => by cases hu
  | y :: xs, u :: us, .cons r t, f => fun u' hu => by
    rw [List.all_cons, Bool.and_eq_true] at f
    rcases List.mem_cons.mp hu with rfl | hu
    · rw [eqU_of r f.1]; exact eqAt_V r rx f.1 fx
    · exact mem_eqAt rx fx t f.2 u' hu
def inV (x : V) (xs : List V) : Bool := xs.any fun y => eqV y x
def rIn (K : PySem.W.Frag) (neg : Bool) : R2 := fun x y H Q => ∃ p xs, y = .ref p ∧ (SqL K H p xs ∨ SqT K H p xs) ∧ flatV x = true ∧ xs.all flatV = true ∧ Q (.bl (if neg then !inV x xs else inV x xs)) H
theorem op_in_seq : OpR X (compareOp .In) (rIn X.K false) := by
  intro pins s σ H x y v u Q I rx ry h
  obtain ⟨p, xs, rfl, hq, fx, fs, q⟩ := h
  cases ry
  rcases hq with hq | hq
  · obtain ⟨its, r, pl, hz⟩ := I.list hq
    refine SeqAt.in_listAt (eqU x) pl.isList (fun w hw => mem_eqAt rx fx r fs w (by simpa using hw)) ⟨.bl _, H, I, rfl, ?_⟩
    rw [show its.toArray.any (eqU x) = its.any (eqU x) by simp, any_eqU r fs]
    exact q
  · obtain ⟨its, r, pl, hz⟩ := I.tuple hq
    refine SeqAt.in_tupleAt (eqU x) pl (fun w hw => mem_eqAt rx fx r fs w (by simpa using hw)) ⟨.bl _, H, I, rfl, ?_⟩
    rw [show its.toArray.any (eqU x) = its.any (eqU x) by simp, any_eqU r fs]
    exact q
theorem op_notIn_seq : OpR X (compareOp .NotIn) (rIn X.K true) := by
  intro pins s σ H x y v u Q I rx ry h
  obtain ⟨p, xs, rfl, hq, fx, fs, q⟩ := h
  cases ry
  rcases hq with hq | hq
  · obtain ⟨its, r, pl, hz⟩ := I.list hq
    refine SeqAt.notIn_listAt (eqU x) pl.isList (fun w hw => mem_eqAt rx fx r fs w (by simpa using hw)) ⟨.bl _, H, I, rfl, ?_⟩
    rw [show its.toArray.any (eqU x) = its.any (eqU x) by simp, any_eqU r fs]
    exact q
  · obtain ⟨its, r, pl, hz⟩ := I.tuple hq
    refine SeqAt.notIn_tupleAt (eqU x) pl (fun w hw => mem_eqAt rx fx r fs w (by simpa using hw)) ⟨.bl _, H, I, rfl, ?_⟩
    rw [show its.toArray.any (eqU x) = its.any (eqU x) by simp, any_eqU r fs]
    exact q
theorem call_list_of : CallR X (.type "list") (fun xs H Q => ∃ p ys, xs = [.ref p] ∧ (SqL X.K H p ys ∨ SqT X.K H p ys) ∧ ∀ l, H l = none → Q (.ref l) (upd H l (.lst ys))) := by
  intro pins s σ H xs us Q I r h
  obtain ⟨p, ys, rfl, hq, q⟩ := h
  obtain ⟨u, rfl, rx⟩ := vals1 r
  cases rx
  have fin : ∀ (its : List Value), Vals ys its → ys.length ≤ sizeLine → ∀ (h' : Heap) (c' : Nat), (∀ b o', s.heap.get? b = some o' → h'.get? b = some o') →
      h'.get? s.heap.objs.size = some { cls := .type "list", dict := none, data := .seq its.toArray c', slots := #[] } → EP X pins σ Q (.ref s.heap.objs.size) { s with heap := h' } := fun its r' hz h' c' kp e =>
    ⟨.ref s.heap.objs.size, _, I.laid (t' := s.toks) kp (Nat.le_refl _) (show ObjOk X.prog X.w _ h' _ (.lst ys) from ⟨hz, its, c', r', e⟩), rfl, q _ (I.hok.fresh (Nat.le_refl _))⟩
  rcases hq with hq | hq
  · obtain ⟨its, r', pl, hz⟩ := I.list hq
    have hlen := r'.length
    obtain ⟨o, ho, hc, n, hd⟩ := pl.isList
    exact call_list_seq p (.inl rfl) ho hc hd (fun h' c' kp e => fin its r' hz h' c' kp e) (by simp only [List.size_toArray] <;> omega)
  · obtain ⟨its, r', pl, hz⟩ := I.tuple hq
    have hlen := r'.length
    obtain ⟨o, ho, hc, n, hd⟩ := pl
    exact call_list_seq p (.inr rfl) ho hc hd (fun h' c' kp e => fin its r' hz h' c' kp e) (by simp only [List.size_toArray] <;> omega)
theorem call_tuple_of : CallR X (.type "tuple") (fun xs H Q => ∃ p ys, xs = [.ref p] ∧ ((SqL X.K H p ys ∧ ∀ l, H l = none → Q (.ref l) (upd H l (.tup ys))) ∨ (SqT X.K H p ys ∧ Q (.ref p) H))) := by
  intro pins s σ H xs us Q I r h
  obtain ⟨p, ys, rfl, h⟩ := h
  obtain ⟨u, rfl, rx⟩ := vals1 r
  cases rx
  rcases h with ⟨hq, q⟩ | ⟨hq, q⟩
  · obtain ⟨its, r', pl, hz⟩ := I.list hq
    have hlen := r'.length
    refine call_tuple_list pl.isList (fun h' kp => ?_) (by simp only [List.size_toArray] <;> omega)
    have I1 : Inv X pins σ H { s with heap := h' } := I.kept (t' := s.toks) kp
    have I2 : Inv X pins σ (upd H h'.objs.size (.tup ys)) { s with heap := h'.push { cls := .type "tuple", data := .seq its.toArray } } :=
      I1.laid (t' := s.toks) (fun b o e => Heap.get?_push_of_some _ e) (Nat.le_refl _) (show ObjOk X.prog X.w _ _ _ (.tup ys) from ⟨hz, its, r', IsTupN.new _ _⟩)
    exact ⟨.ref h'.objs.size, _, I2, rfl, q _ (I1.hok.fresh (Nat.le_refl _))⟩
  · obtain ⟨its, r', pl, hz⟩ := I.tuple hq
    exact call_tuple_same pl ⟨.ref p, H, I, rfl, q⟩
def tyV (K : PySem.W.Frag) (T : String) (x : V) (H : Hp) : Prop := match x with
  | .str _ => T = "str"
  | .int _ => T = "int"
  | .ref p => (T = "list" ∧ ∃ xs, SqL K H p xs) ∨ (T = "tuple" ∧ ∃ o, K.lookup p = some o ∧ o.cls = .type "tuple" ∧ o.dict = none) ∨
      (T = "dict" ∧ ((∃ kvs, H p = some (.dK kvs)) ∨ ∃ kvs, H p = some (.dT kvs))) ∨ (T = "set" ∧ ∃ S n, H p = some (.set S n))
  | _ => False
theorem tyV_is {pins : List (Addr × Obj)} {σ : St} {H : Hp} {s : Shared} {T : String} {x : V} {v : Value} (I : Inv X pins σ H s) (r : RelV x v) (ty : tyV X.K T x H) :
    s.TypeIs v T ∧ ∀ a, v = .ref a → ∃ ob, s.heap.get? a = some ob ∧ ob.dict = none := by
  cases x with
  | str z =>
    obtain ⟨t, rfl⟩ := r
    cases (show T = "str" from ty)
    exact ⟨typeIs_str s z t, fun _ e => nomatch e⟩
  | int i =>
    obtain ⟨t, rfl⟩ := r
    cases (show T = "int" from ty)
    exact ⟨typeIs_int s i t, fun _ e => nomatch e⟩
  | ref p =>
    cases r
    rcases ty with ⟨rfl, xs, hq⟩ | ⟨rfl, o, hk, hc, hd⟩ | ⟨rfl, hk⟩ | ⟨rfl, S, n, hk⟩
    · obtain ⟨its, _, pl, _⟩ := I.list hq
      refine ⟨pl.isList.typeIs, fun a e => ?_⟩
      cases e
      obtain ⟨o, n, e, c, hd, _⟩ := pl
      exact ⟨o, e, hd⟩
    · refine ⟨⟨o, I.kIn p o hk, hc⟩, fun a e => ?_⟩
      cases e
      exact ⟨o, I.kIn _ o hk, hd⟩
    · have z : ∃ o, s.heap.get? p = some o ∧ o.ExactDict := by
        rcases hk with ⟨kvs, hk⟩ | ⟨kvs, hk⟩
        · obtain ⟨_, _, _, _, o, _, _, e, ex, _⟩ := I.hok p _ hk
          exact ⟨o, e, ex⟩
        · obtain ⟨_, _, _, _, o, _, _, e, ex, _⟩ := I.hok p _ hk
          exact ⟨o, e, ex⟩
      obtain ⟨o, e, ex⟩ := z
      refine ⟨⟨o, e, ex.1⟩, fun a e2 => ?_⟩
      cases e2
      exact ⟨o, e, ex.2.1⟩
    · obtain ⟨o, _, _, _, e, ex, _⟩ := I.hok p _ hk
      refine ⟨⟨o, e, ex.1⟩, fun a e2 => ?_⟩
      cases e2
      exact ⟨o, e, ex.2.1⟩
  | _ => exact False.elim ty
def tBM0 (K : PySem.W.Frag) (T : String) (r : V → List V → Hp → VK → Prop) (to : TE) : TE := fun σ H Q => to σ H fun x H1 => tyV K T x H1 ∧ r x [] H1 Q
variable {o e : Expr} {es : List Expr} {to : TE} {t : TA} {name : Str} {apos cpos : Pos} {T id : String} {r : V → List V → Hp → VK → Prop}
theorem pe_bm0 (pa : PlainAttrs T) (slot : Slot T name id) (hty : typeOf (.builtin id) = pure (.type "method_descriptor")) (hm : MtR X id r) (ho : PE X o to)
    (hbase : attributeBase o name X.env (eval o X.env) = eval o X.env := by rfl) (hline : (apos.endLine == cpos.line) = true := by rfl) : PE X (.Call (.Attribute o name apos) [] [] cpos) (tBM0 X.K T r to) := by
  intro pins s σ H Q I h
  refine wpAny_Call_method0_late hbase hline (thn (ho pins s σ H _ I h) fun v s1 ⟨x, H1, I1, r1, ty, q1⟩ => ?_)
  obtain ⟨h1, h2⟩ := tyV_is I1 r1 ty
  exact ⟨T, id, pa, slot, hty, h1, h2, Calls.callWith_builtin rfl (PySem.evalArgs_none (hm pins s1 σ H1 x [] v [] Q I1 r1 .nil q1))⟩
end
end L2
namespace L2
open PySem PySem.Spec PyProof.Rows
theorem Vals.zero : ∀ {us : List Value}, Vals [] us → us = []
  | _, .nil => rfl
theorem Vals.rep {xs : List V} {us : List Value} (h : Vals xs us) : ∀ k : Nat, Vals (List.replicate k xs).flatten (List.replicate k us).flatten
  | 0 => .nil
  | k + 1 => by
    rw [List.replicate_succ, List.replicate_succ, List.flatten_cons, List.flatten_cons]
    exact Vals.append h (Vals.rep h k)
theorem foldl_rep (its : List Value) : ∀ (k : Nat) (acc : List Value),
    List.foldl (fun x1 x2 => x1 ++ x2) acc.toArray (List.replicate k its.toArray) = (acc ++ (List.replicate k its).flatten).toArray
  | 0, acc => by simp
  | k + 1, acc => by
    have e : acc.toArray ++ its.toArray = (acc ++ its).toArray := by simp
    have e2 : (acc ++ its) ++ (List.replicate k its).flatten = acc ++ (List.replicate (k + 1) its).flatten := by
      rw [List.replicate_succ, List.flatten_cons, List.append_assoc]
    rw [← e2, ← foldl_rep its k (acc ++ its), ← e, List.replicate_succ, List.foldl_cons]
section
variable {X : Cx} {pins : List (Addr × Obj)} {σ : St} {H : Hp} {s : Shared} {l b : Addr} {xs ys zs : List V}
theorem Inv.lnew {its : List Value} {t' : Nat} (I : Inv X pins σ H s) (hv : Vals ys its) (hz : ys.length ≤ sizeLine) :
    Inv X pins σ (upd H s.heap.objs.size (.lst ys)) { s with heap := s.heap.push { cls := .type "list", data := .seq its.toArray }, toks := t' } :=
  I.laid (fun _ _ q => Heap.get?_push_of_some _ q) (Nat.le_refl _) ⟨hz, its, 0, hv, Heap.get?_push_size _ rfl⟩
theorem Inv.fresh (I : Inv X pins σ H s) : H s.heap.objs.size = none := I.hok.fresh (Nat.le_refl _)
theorem Inv.lstM (I : Inv X pins σ H s) (hH : H l = some (.lst xs)) : xs.length ≤ sizeLine ∧ ∃ (its : List Value) (n : Nat), Vals xs its ∧ xs.length = its.length ∧ s.heap.get? l = some { cls := .type "list", data := .seq its.toArray n } := by
  obtain ⟨z, its, n, r, e⟩ := I.hok l _ hH
  exact ⟨z, its, n, r, r.length, e⟩
theorem notLongL {n : Nat} (h : n ≤ sizeLine) : Builtin.List.listTooLong n = false := by
  unfold Builtin.List.listTooLong
  exact decide_eq_false (by omega)
end
section
variable {X : Cx}
def rCat : R2 := fun x y H Q => ∃ l b xs zs, x = .ref l ∧ y = .ref b ∧ H l = some (.lst xs) ∧ H b = some (.lst zs) ∧ xs.length + zs.length ≤ sizeLine ∧ ∀ p, H p = none → Q (.ref p) (upd H p (.lst (xs ++ zs)))
theorem op_cat : OpR X (binaryOp .Add) rCat := by
  intro pins s σ H x y v u Q I rx ry h
  obtain ⟨l, b, xs, zs, rfl, rfl, hH, hB, hz, q⟩ := h
  cases rx
  cases ry
  obtain ⟨z, its, n, r, hl, e⟩ := I.lstM hH
  obtain ⟨z2, its2, n2, r2, hl2, e2⟩ := I.lstM hB
  refine PySem.P.add_list e e2 ?_ (by rw [List.size_toArray, List.size_toArray]; omega)
  have ea : its.toArray ++ its2.toArray = (its ++ its2).toArray := by simp
  rw [ea]
  exact ⟨.ref _, _, I.lnew (t' := s.toks) (r.append r2) (by rw [List.length_append]; omega), rfl, q _ I.fresh⟩
def rRep : R2 := fun x y H Q => ∃ l k xs, x = .ref l ∧ y = .int k ∧ H l = some (.lst xs) ∧ -(2 ^ 63) ≤ k ∧ k < 2 ^ 63 ∧ xs.length * k.toNat ≤ sizeLine ∧
  ∀ p, H p = none → Q (.ref p) (upd H p (.lst (List.replicate k.toNat xs).flatten))
theorem len_rep {α : Type} (xs : List α) (k : Nat) : (List.replicate k xs).flatten.length = k * xs.length := by
  induction k with
  | zero => simp
  | succ k ih => rw [List.replicate_succ, List.flatten_cons, List.length_append, ih, Nat.succ_mul, Nat.add_comm]
theorem op_rep : OpR X (binaryOp .Mult) rRep := by
  intro pins s σ H x y v u Q I rx ry h
  obtain ⟨l, k, xs, rfl, rfl, hH, h1, h2, hz, q⟩ := h
  cases rx
  obtain ⟨t, rfl⟩ := ry
  obtain ⟨z, its, n, r, hl, e⟩ := I.lstM hH
  have hlen : its.toArray.size * k.toNat ≤ sizeLine := by rw [List.size_toArray, ← hl]; exact hz
  have hcap : ¬ its.toArray.size * k.toNat > (2 ^ 63 - 1) / 8 := by
    have : (sizeLine : Nat) ≤ (2 ^ 63 - 1) / 8 := by decide
    omega
  have hfit : ¬ (!Builtin.List.listFitsIndex k) = true := by
    rw [fitsIndex_both h1 h2]
    exact Bool.false_ne_true
  have hlong : ¬ Builtin.List.listTooLong (its.toArray.size * k.toNat) = true := by
    rw [notLongL hlen]
    exact Bool.false_ne_true
  have hnew : List.foldl (fun x1 x2 => x1 ++ x2) #[] (List.replicate (if its.toArray.isEmpty = true then 0 else k.toNat) its.toArray) = (List.replicate k.toNat its).flatten.toArray := by
    have f0 : ∀ m : Nat, List.foldl (fun x1 x2 => x1 ++ x2) #[] (List.replicate m its.toArray) = (List.replicate m its).flatten.toArray := fun m => by
      have := foldl_rep its m []
      rw [List.nil_append] at this
      exact this
    rw [f0]
    cases its with
    | nil => simp
    | cons a r' => rw [if_neg (by simp)]
  refine wpAny_binaryOp_repeat_ref (T := "list") (U := "int") (by decide) ⟨_, e, rfl⟩ (fun s' => typeIs_int s' k t) noFill_list_mul F.fills_int_mul F.slot_int_rmul repeat_list F.slot_int_index.lookup
    (call_meets F.slot_int_rmul (typeIs_int s k t) F.entry_int_rmul (F.args_int_rmul_2 _ _) (int___rmul___int_list k t l its.toArray n)
      ⟨e, rfl, ⟨_, e, rfl⟩, call_meets F.slot_list_mul ⟨_, e, rfl⟩ F.entry_list_mul (F.args_list_mul_2 _ _) (AutoListH.list___mul___list_int_3 l its.toArray n k t hfit hcap hlong) ⟨e, ?_⟩⟩)
  rw [hnew]
  exact ⟨.ref _, _, I.lnew (t' := s.toks) (r.rep k.toNat) (by rw [len_rep, Nat.mul_comm]; exact hz), rfl, q _ I.fresh⟩
end
section
variable {prog : Program} {w : World} {A : Around} {E : Value → Shared → Prop} {s : Shared}
end
section
variable {X : Cx}
end
end L2
namespace Att
open PySem PySem.W PySem.Calls PyProof.Rows
theorem ints_of_wellAll {P : Params} {h : Heap} : ∀ (ns : List Int) (vs : List Value), WellAll P h vs (ns.map WData.int) → IntsAre vs ns := by
  intro ns
  induction ns with
  | nil =>
    intro vs w
    rw [List.map_nil] at w
    cases w
    exact .nil
  | cons n ns ih =>
    intro vs w
    rw [List.map_cons] at w
    cases w with
    | cons a b =>
      cases a
      exact .cons _ _ (ih _ b)
theorem script_of {l : OpenLaw} {n : Nat} (hn : l.most = some n) {P : Params} {h : Heap} {args : List WData} {vals : List Value}
    (hpre : l.row.toRowW.claim.pre args = true) (hwl : WellAll P h vals args) :
    ∃ a vs ns, vals = [Value.ref a] ∧ args = [WData.list (ns.map WData.int)] ∧ h.get? a = some { cls := .type "list", data := .seq vs.toArray } ∧ IntsAre vs ns ∧ ns.length ≤ n := by
  have hsh : WShape.hasAll [] args [.list .int] = true := (pre_splitW hpre).1
  have hc : l.pre.holds [] { args := args } = true := (pre_splitW hpre).2
  obtain ⟨d, r, rfl, h1, h2⟩ := hasAllW_cons hsh
  obtain rfl := hasAllW_nil h2
  obtain ⟨xs, rfl, h3⟩ := hasW_list h1
  obtain ⟨ns, rfl⟩ := items_int h3
  have hlen : ns.length ≤ n := by
    unfold OpenLaw.pre at hc
    have h4 : (WTm.not (.lt (.lit (.int (n : Int))) (.len (.arg 0)))).holds [] { args := [.list (ns.map .int)] } = true := by
      have h4 := (holds_andW hc).1
      rw [hn] at h4
      exact h4
    have h5 := condW_of h4 (w_not (w_lt w_lit (w_len_list (w_arg rfl))))
    rw [List.length_map] at h5
    refine Nat.le_of_not_lt fun q => ?_
    have q' : (n : Int) < ((ns.length : Nat) : Int) := by omega
    first
      | (rw [decide_eq_true q'] at h5; exact absurd h5 (by decide))
      | (simp at h5; omega)
  cases hwl with
  | cons w1 w2 =>
    cases w2
    cases w1 with
    | list ho hall => exact ⟨_, _, ns, rfl, rfl, ho, ints_of_wellAll ns _ hall, hlen⟩
theorem post_true (l : OpenLaw) (args : List WData) : l.row.toRowW.claim.post args (.bool true) args = true :=
  postW_of (r := l.row.toRowW) (X := (true == true))
    (show WShape.has [] (.bool true) .bool = true by first | rfl | decide | simp [WShape.has, WShape.arms, WShape.armsAll])
    (show (WTm.eq .res (.lit (.bool true))).value [] { args := args, res := some (.bool true), after := args } = some (.bool (true == true)) from w_eq_bool (w_res rfl) w_lit) rfl
theorem attach_call {l : OpenLaw} {n : Nat} {q : Program} {loose : List Str} {XP : (Str → Option Value) → Heap → Prop} {YP : World → Heap → Prop} {d : DefRec}
    (hn : l.most = some n) (hdf : d.params.defaults = [])
    (call : ∀ (w : World) (s₀ s₁ : Shared) (mg mb : Str → Option Value) (fa : Addr) (o : Obj) (pm cd doc : Value) (a : Addr) (vs : List Value) (ns : List Int),
      Ground q loose [] XP w s₀ mg mb s₁.heap → YP w s₁.heap →
      s₁.heap.get? fa = some o → o.data = .func (docDef d.name d.params d.body d.scope pm cd doc) → s₁.heap.CodeRec cd d.name → mg d.name = some (.ref fa) →
      s₁.heap.get? a = some { cls := .type "list", data := .seq vs.toArray } → IntsAre vs ns → ns.length ≤ n → s₁.gens = #[] →
      codeAny (model l.prog w) callerA (.call (.ref fa) ⟨[.ref a], []⟩) (fun r s' => r = .ok (.ret (.bool true)) ∧ OldK s₁.heap s'.heap ∧ s'.os = s₁.os ∧ AllBare s'.gens) s₁) :
    WalkO q loose XP YP l.row.toRowW d [] (fun f vs => PySem.call f vs) := by
  intro w s₀ s₁ mg mb G Y fa o pm cd doc dV kV ho hd hcd hD hmg hg args vals as hpre hlay hrd hwl hlo
  obtain rfl : dV = .none := Dflts.none hD hdf
  obtain rfl : kV = .none := Dflts.noKw hD
  obtain ⟨a, vs, ns, rfl, rfl, hobj, hints, hlen⟩ := script_of hn hpre hwl
  refine enter_call (codeAny_mono (call w s₀ s₁ mg mb fa o pm cd doc a vs ns G Y ho (fd_plain hd) hcd hmg hobj hints hlen hg) fun r s' hq => ?_)
  obtain ⟨rfl, h2, h3, h4⟩ := hq
  exact ⟨.inl ⟨.bool true, .bool true, [], rfl, fun _ => rfl, .bool true, post_true l _, fun _ => ⟨List.Pairwise.nil, fun _ hm => (nomatch hm)⟩⟩, h2, h3, h4⟩
section
variable {prog : Program} {w : World} {A : Around} {E : Value → Shared → Prop} {s : Shared} {K : Frag}
def noObjs (h : Heap) : Heap := { h with objs := #[] }
theorem noObjs_get (h : Heap) (b : Addr) : (noObjs h).get? b = none := by
  cases e : (noObjs h).get? b with
  | none => rfl
  | some o => exact absurd (Heap.lt_size e) (Nat.not_lt_zero _)
theorem fr_all {h : Heap} {L : Addr} {m : Str → Option Value} (n : h.Ns L m) : Fr (noObjs h) L h m :=
  ⟨n, fun b o e => (by rw [noObjs_get] at e; cases e), Nat.zero_le _⟩
end
end Att
namespace L2
open PySem PySem.Spec PyProof.Rows
theorem vals_ints : ∀ {vs : List Value} {ns : List Int}, IntsAre vs ns → Vals (ns.map V.int) vs
  | _, _, .nil => .nil
  | _, _, .cons n t h => .cons ⟨t, rfl⟩ (vals_ints h)
def Only (H : Hp) : Prop := ∀ b, H b = none ∨ ∃ o xs, H b = some (.frz o (.lst xs))
theorem law_call {P : Program} {w : World} {K : PySem.W.Frag} {mg mb : Str → Option Value} {CX : CXT} {k : Nat} {fa a : Addr} {fd : FuncData} {x : Str} {sp : Sp} {s₁ : Shared} {vs : List Value} {ns : List Int}
    (KX : K.In s₁.heap) (hns : s₁.heap.Ns mainGlobals mg) (hb : s₁.heap.Ns builtinsNs mb) (hbb : ∀ x : Str, x ≠ "__name__" → mb x = bootBuiltins x) (hlim : s₁.heap.NoLimit) (hg : s₁.gens = #[])
    (ha : s₁.heap.get? a = some { cls := .type "list", data := .seq vs.toArray }) (hi : IntsAre vs ns) (hl : ns.length ≤ sizeLine) (hr : Room k callerA)
    (F : ∀ base : Heap, K.In base → base.Ns mainGlobals mg → FnOk P w K mg base CX k fa fd [x] sp) (hbind : ∀ (s : Shared) (u : Value), BindsTo s fd ⟨[u], []⟩ [(x, u)])
    (hsp : ∀ H : Hp, Only H → SqL K H a (ns.map V.int) → sp [.ref a] H (fun v _ => v = .bl true) fun _ _ _ => False)
    (hCX : ∀ H e s', CX [] H s₁ (fun _ _ _ => False) e s' → False) :
    codeAny (model P w) callerA (.call (.ref fa) ⟨[.ref a], []⟩) (fun r s' => r = .ok (.ret (.bool true)) ∧ OldK s₁.heap s'.heap ∧ s'.os = s₁.os ∧ AllBare s'.gens) s₁ := by
  have rv := vals_ints hi
  have lenV := hi.length
  -- from an abstract heap in which nothing but the script may be tracked
  have core : ∀ H : Hp, Only H → SqL K H a (ns.map V.int) → HOk P w H s₁.heap → (∀ b, H b ≠ none → b = a) → (H a ≠ none → K.lookup a = none) →
      codeAny (model P w) callerA (.call (.ref fa) ⟨[.ref a], []⟩) (fun r s' => r = .ok (.ret (.bool true)) ∧ OldK s₁.heap s'.heap ∧ s'.os = s₁.os ∧ AllBare s'.gens) s₁ := by
    intro H hO hS hok hA hK
    have base_of : ∀ {b : Addr} {o : Obj}, s₁.heap.get? b = some o → H b = none → (hidT s₁.heap H).get? b = some o := fun e n => hidT_get e n
    have noA : ∀ {b : Addr} {o : Obj} {es : Array DictEntry} {ep : Nat}, s₁.heap.get? b = some o → o.data = .dict es ep → H b = none := fun {b o es ep} e d => by
      cases q : H b with
      | none => rfl
      | some u =>
        have e' : b = a := hA b (by rw [q]; simp)
        subst e'
        rw [ha] at e; cases e
        have d' : Data.seq vs.toArray _ = Data.dict es ep := d
        cases d'
    have nsK : ∀ {b : Addr} {m : Str → Option Value}, s₁.heap.Ns b m → (hidT s₁.heap H).Ns b m := fun {b m} ⟨o, es, ep, e, d, r⟩ => ⟨o, es, ep, base_of e (noA e d), d, r⟩
    have hKb : K.In (hidT s₁.heap H) := fun b o e => base_of (KX b o e) (by
      cases q : H b with
      | none => rfl
      | some u =>
        have e' : b = a := hA b (by rw [q]; simp)
        subst e'
        rw [hK (by rw [q]; simp)] at e; cases e)
    have hM : Mod K mg (hidT s₁.heap H) := ⟨hKb, nsK hns, ⟨mb, nsK hb, hbb⟩, let ⟨mc, h1, h2⟩ := hlim; ⟨mc, nsK h1, h2⟩⟩
    have e0 : Env0 P w K mg (hidT s₁.heap H) callerA [] s₁ H := ⟨rfl, hM, fun b o e => of_hidT e, Nat.le_of_eq (hidT_size _ _), trivial, fun b hb => absurd (show b ∈ ([] : List Addr) from hb) (by simp), hok, .of_eq hg⟩
    refine codeAny_mono ((F _ hKb (nsK hns)).run callerA [] s₁ H ⟨[.ref a], []⟩ [.ref a] [.ref a] _ _ hr e0 (hbind s₁ (.ref a)) (.cons rfl .nil) (hsp H hO hS)) fun r s' h => ?_
    cases r with
    | error e => exact (hCX H e s' h).elim
    | ok fl =>
      cases fl with
      | next => exact False.elim h
      | brk => exact False.elim h
      | cont => exact False.elim h
      | ret u =>
        obtain ⟨v, H', os, bare, un, hok', r', q⟩ := h
        have q' : v = .bl true := q
        subst q'
        obtain rfl : u = Value.bool true := r'
        refine ⟨rfl, OldK.of_keep fun b o e => ?_, os, bare⟩
        cases q : H b with
        | none => exact un.keep b o e q (by intro z; exact absurd (show b ∈ ([] : List Addr) from z) (by simp)) (by simp)
        | some u =>
          rcases hO b with z | ⟨ob, xs, z⟩
          · rw [q] at z; cases z
          · have z2 := un.frzs b ob _ z
            obtain ⟨e1, _⟩ := hok b _ z
            obtain ⟨e2, _⟩ := hok' b _ z2
            rw [e] at e1; cases e1
            exact e2
  cases hk : K.lookup a with
  | some o =>
    -- the script is one of the module's own objects
    have e := KX a o hk
    rw [ha] at e
    cases e
    refine core (fun _ => none) (fun _ => .inl rfl) (.inr ⟨_, vs.toArray, _, hk, rfl, rfl, rfl, by rw [List.size_toArray, lenV]; exact hl, by simpa using rv⟩) (fun b u z => by have z' : (none : Option HO) = some u := z; cases z') (fun b z => absurd rfl z) fun z => absurd rfl z
  | none =>
    refine core (fun b => if b = a then some (.frz { cls := .type "list", data := .seq vs.toArray } (.lst (ns.map V.int))) else none) (fun b => ?_) (.inl (.inr ⟨{ cls := .type "list", data := .seq vs.toArray }, if_pos rfl⟩)) (fun b u z => ?_) (fun b z => ?_) fun _ => hk
    · by_cases hb : b = a
      · exact .inr ⟨_, _, if_pos hb⟩
      · exact .inl (if_neg hb)
    · by_cases hb : b = a
      · have z' := (if_pos hb).symm.trans z
        cases z'
        subst hb
        exact ⟨ha, by rw [List.length_map]; exact hl, vs, _, rv, ha⟩
      · have z' := (if_neg hb).symm.trans z
        cases z'
    · by_cases hb : b = a
      · exact hb
      · exact absurd (if_neg hb) z
end L2
namespace L2
open PySem PySem.Spec PyProof.Rows
theorem walk_of {l : PySem.W.OpenLaw} {n k : Nat} {q : Program} {loose : List Str} {XP : (Str → Option Value) → Heap → Prop} {YP : World → Heap → Prop} {d : DefRec} {K : Params → PySem.W.Frag} {CX : World → CXT} {sp : World → Sp} {x : Str}
    (hn : l.most = some n) (hn2 : n ≤ sizeLine) (hdf : d.params.defaults = []) (hr : Room k callerA)
    (hY : ∀ (w : World) (h : Heap), YP w h → (K w.params).In h)
    (F : ∀ (w : World) (mg : Str → Option Value) (fa : Addr) (h : Heap), (K w.params).In h → h.Ns mainGlobals mg → mg d.name = some (.ref fa) →
      ∃ fd : FuncData, (∀ (s : Shared) (u : Value), BindsTo s fd ⟨[u], []⟩ [(x, u)]) ∧
        ∀ base : Heap, (K w.params).In base → base.Ns mainGlobals mg → FnOk l.prog w (K w.params) mg base (CX w) k fa fd [x] (sp w))
    (hsp : ∀ (w : World) (H : Hp) (a : Addr) (ns : List Int), ns.length ≤ n → Only H → SqL (K w.params) H a (ns.map V.int) → sp w [.ref a] H (fun v _ => v = .bl true) fun _ _ _ => False)
    (hCX : ∀ (w : World) (H : Hp) (s : Shared) (e : Value) (s' : Shared), CX w [] H s (fun _ _ _ => False) e s' → False) :
    PySem.W.WalkO q loose XP YP l.row.toRowW d [] (fun f vs => PySem.call f vs) := by
  refine Att.attach_call hn hdf fun w s₀ s₁ mg mb fa o pm cd doc a vs ns G Y ho hd hcd hmg hobj hints hlen hg => ?_
  have KX := hY w _ Y
  obtain ⟨fd, hb, hF⟩ := F w mg fa _ KX G.T.g hmg
  exact law_call KX G.T.g G.T.b G.T.builtins G.T.nolimit hg hobj hints (Nat.le_trans hlen hn2) hr hF hb (fun H hO hS => hsp w H a ns hlen hO hS) fun H e s' => hCX w H s₁ e s'
end L2
namespace L2
open PySem PySem.Spec PyProof.Rows
def defArgs (s : Stmt) : Arguments := match s with
  | .FunctionDef _ a _ _ _ _ _ _ _ _ => a
  | _ => { posonlyargs := [], args := [], vararg := none, kwonlyargs := [], kw_defaults := [], kwarg := none, defaults := [] }
def defBody (s : Stmt) : List Stmt := match s with
  | .FunctionDef _ _ b _ _ _ _ _ _ _ => b
  | _ => []
def defScope (s : Stmt) : Scope := match s with
  | .FunctionDef _ _ _ _ _ _ sc _ _ _ => sc
  | _ => { kind := .function, names := [], isGenerator := false, isCoroutine := false }
abbrev CX0 : CXT := fun _ _ _ _ _ _ => False
abbrev E0 : XK := fun _ _ _ => False
theorem pass0 {X : Cx} : Passes CX0 X E0 := fun _ _ _ _ _ _ _ h => h.elim
structure Fun (K : PySem.W.Frag) (x qual : Str) (st : Stmt) (f : Addr) (fd : FuncData) : Prop where
  ex : ∃ (oc : Value) (od : Option Addr) (kV doc pm : Value) (an : Option Addr) (cdv ct : Value) (osl : Array (Option Value)),
    fd = PySem.W.fnOf x qual (defArgs st) (defBody st) (defScope st) .none kV doc pm an cdv ct ∧ K.lookup f = some ⟨oc, od, .func fd, osl⟩ ∧ PySem.W.codeIn K cdv qual = true
  kp : PySem.W.keepIn K (.ref f) = true
section
variable {P : Program} {w : World} {K : PySem.W.Frag} {mg : Str → Option Value} {base : Heap}
theorem Fun.ok {x qual : Str} {st : Stmt} {f : Addr} {fd : FuncData} {N ps : List Str} {k : Nat} {sp : Sp} (F : Fun K x qual st f fd) (S : FnScope N ps (defScope st)) (len : ∀ vs H Q E, sp vs H Q E → vs.length = ps.length)
    (hbody : ∀ (cdv : Value) (A : Around) (outer : List Env) (s : Shared) (H : Hp) (vs : List V) (Q : VK) (E : XK), Room k (A.deeper (envOfC qual (defScope st) s.heap.objs.size f cdv)) → sp vs H Q E →
      ∃ t, PSs (cxOf CX0 P w K mg base N qual (defScope st) f cdv A outer s H E).nox (defBody st) t ∧ t { nx := fun _ H' => Q .non H', rt := Q } (start N vs) H) : FnOk P w K mg base CX0 (k + 1) f fd ps sp := by
  obtain ⟨oc, od, kV, doc, pm, an, cdv, ct, osl, rfl, lk, hcd⟩ := F.ex
  refine fn_of lk hcd S len fun A outer s H vs Q E hr hsp => ?_
  obtain ⟨t, h, q⟩ := hbody cdv A outer s H vs Q E hr hsp
  exact ⟨t, h.nox, q⟩
theorem Fun.binds {x qual : Str} {st : Stmt} {f : Addr} {fd : FuncData} {ps : List Str} (F : Fun K x qual st f fd)
    (h : ∀ (kV doc pm : Value) (an : Option Addr) (cdv ct : Value) (us : List Value), us.length = ps.length → bindArgs (PySem.W.fnOf x qual (defArgs st) (defBody st) (defScope st) .none kV doc pm an cdv ct) ⟨us, []⟩ = pure (ps.zip us)) : Binds K fd ps [] := by
  obtain ⟨oc, od, kV, doc, pm, an, cdv, ct, osl, rfl, lk, hcd⟩ := F.ex
  exact .all (h kV doc pm an cdv ct)
theorem fun_mk {x qual : Str} {st : Stmt} {f : Addr} {oc : Value} {od an : Option Addr} {osl : Array (Option Value)} {kV doc pm cdv ct : Value} (l : K.lookup f = some ⟨oc, od, .func (PySem.W.fnOf x qual (defArgs st) (defBody st) (defScope st) .none kV doc pm an cdv ct), osl⟩)
    (c : PySem.W.codeIn K cdv qual = true) (k : PySem.W.keepIn K (.ref f) = true) : Fun K x qual st f (PySem.W.fnOf x qual (defArgs st) (defBody st) (defScope st) .none kV doc pm an cdv ct) := ⟨⟨oc, od, kV, doc, pm, an, cdv, ct, osl, rfl, l, c⟩, k⟩
end
theorem small1000 {n : Nat} (h : n ≤ 1000) : n < sizeLine := Nat.lt_of_le_of_lt h (by decide)
section
variable {X : Cx}
end
theorem iteF {A B : Prop} (h : B) : if false = true then A else B := by
  rw [if_neg Bool.false_ne_true]
  exact h
theorem iteT {A B : Prop} (h : A) : if true = true then A else B := by
  rw [if_pos rfl]
  exact h
theorem ite2 {c A B : Prop} [Decidable c] (h1 : c → A) (h2 : ¬ c → B) : if c then A else B := by
  by_cases h : c
  · rw [if_pos h]
    exact h1 h
  · rw [if_neg h]
    exact h2 h
def Same (H H' : Hp) : Prop := ∀ b o, H b = some o → H' b = some o
end L2
set_option Elab.async false
set_option linter.all false
set_option maxRecDepth 100000
namespace L2
open PySem PySem.Spec PyProof.Rows
theorem cellsFrom_app : ∀ (names : List (Str × NameKind)) (n : Nat) (acc : List (Str × Addr)), cellsFrom n names acc = cellsFrom n names [] ++ acc
  | [], _, _ => rfl
  | (name, kind) :: r, n, acc => by
    unfold cellsFrom
    split
    · rw [cellsFrom_app r (n + 1) ((name, n) :: acc), cellsFrom_app r (n + 1) [(name, n)], List.append_assoc]; rfl
    · exact cellsFrom_app r n acc
theorem cellsFrom_kind : ∀ (names : List (Str × NameKind)) (n : Nat) (acc : List (Str × Addr)) (x : Str) (c : Addr), (x, c) ∈ cellsFrom n names acc → (x, c) ∈ acc ∨ (x, NameKind.cell) ∈ names
  | [], _, _, _, _, h => .inl h
  | (name, kind) :: r, n, acc, x, c, h => by
    unfold cellsFrom at h
    split at h
    · rename_i hk
      rcases cellsFrom_kind r _ _ x c h with h | h
      · rcases List.mem_cons.mp h with e | h
        · cases e
          have : kind = .cell := by simpa using hk
          subst this
          exact .inr List.mem_cons_self
        · exact .inl h
      · exact .inr (List.mem_cons_of_mem _ h)
    · rcases cellsFrom_kind r _ _ x c h with h | h
      · exact .inl h
      · exact .inr (List.mem_cons_of_mem _ h)
theorem lookup_app {α : Type} {x : Str} : ∀ (l r : List (Str × α)), (l ++ r).lookup x = (match l.lookup x with | some c => some c | none => r.lookup x)
  | [], r => rfl
  | (k, v) :: l, r => by
    show List.lookup x ((k, v) :: (l ++ r)) = _
    rw [List.lookup_cons, List.lookup_cons]
    cases x == k with
    | true => rfl
    | false => exact lookup_app l r
theorem lookup_none_of {α : Type} {x : Str} : ∀ {l : List (Str × α)}, (∀ c, (x, c) ∉ l) → l.lookup x = none
  | [], _ => rfl
  | (k, v) :: l, h => by
    rw [List.lookup_cons]
    cases hb : x == k with
    | true =>
      have : x = k := by simpa using hb
      subst this
      exact absurd List.mem_cons_self (h v)
    | false => exact lookup_none_of fun c hc => h c (List.mem_cons_of_mem _ hc)
def clOf (cells : List (Str × Addr)) : List (Str × NameKind) → List (Str × Addr) → List (Str × Addr)
  | [], acc => acc
  | (n, k) :: r, acc => if k == .free then clOf cells r ((n, (cells.lookup n).getD 0) :: acc) else clOf cells r acc
theorem closureFor_eq {scope : Scope} {env : Env} (h : ∀ y ∈ scope.names, y.2 = .free → ∃ c, env.cells.lookup y.1 = some c) : closureFor scope env = pure (clOf env.cells scope.names []) := by
  have all : ∀ (names : List (Str × NameKind)) (acc : List (Str × Addr)), (∀ y ∈ names, y.2 = .free → ∃ c, env.cells.lookup y.1 = some c) →
      (forIn names acc fun (x : Str × NameKind) cs => (if (x.2 == NameKind.free) = true then (do let a ← cellOf env x.1; pure (ForInStep.yield ((x.1, a) :: cs))) else pure (ForInStep.yield cs) : Sem (ForInStep (List (Str × Addr))))) = (pure (clOf env.cells names acc) : Sem _) := by
    intro names
    induction names with
    | nil => intro acc _; rfl
    | cons y r ih =>
      intro acc hy
      obtain ⟨n, k⟩ := y
      rw [List.forIn_cons]
      have hr : ∀ y ∈ r, y.2 = .free → ∃ c, env.cells.lookup y.1 = some c := fun y hm => hy y (List.mem_cons_of_mem _ hm)
      unfold clOf
      by_cases hk : (k == NameKind.free) = true
      · obtain ⟨c, e⟩ := hy (n, k) List.mem_cons_self (by simpa using hk)
        rw [if_pos hk, if_pos hk]
        have e2 : cellOf env n = pure c := by unfold cellOf; rw [show env.cells.lookup n = some c from e]
        rw [e2]
        rw [show env.cells.lookup n = some c from e]
        exact ih _ hr
      · rw [if_neg hk, if_neg hk]
        exact ih _ hr
  have q := all scope.names [] h
  unfold closureFor
  refine Eq.trans ?_ (congrArg (fun t => t >>= pure) q |>.trans (by rfl))
  congr 1
theorem clOf_mem {cells : List (Str × Addr)} : ∀ (names : List (Str × NameKind)) (acc : List (Str × Addr)) (x : Str) (c : Addr), (∀ y ∈ names, y.2 = .free → ∃ c, cells.lookup y.1 = some c) → (x, c) ∈ clOf cells names acc → (x, c) ∈ acc ∨ ((x, NameKind.free) ∈ names ∧ cells.lookup x = some c)
  | [], _, _, _, _, h => .inl h
  | (n, k) :: r, acc, x, c, hy, h => by
    have hr : ∀ y ∈ r, y.2 = .free → ∃ c, cells.lookup y.1 = some c := fun y hm => hy y (List.mem_cons_of_mem _ hm)
    unfold clOf at h
    split at h
    · rename_i hk
      have hk' : k = .free := by simpa using hk
      subst hk'
      obtain ⟨d, e⟩ := hy (n, .free) List.mem_cons_self rfl
      rcases clOf_mem r _ x c hr h with h | ⟨h, h'⟩
      · rcases List.mem_cons.mp h with e' | h
        · obtain ⟨e1, e2⟩ := Prod.mk.inj e'
          rw [show cells.lookup n = some d from e] at e2
          subst e1
          exact .inr ⟨List.mem_cons_self, by rw [e2]; exact e⟩
        · exact .inl h
      · exact .inr ⟨List.mem_cons_of_mem _ h, h'⟩
    · rcases clOf_mem r _ x c hr h with h | ⟨h, h'⟩
      · exact .inl h
      · exact .inr ⟨List.mem_cons_of_mem _ h, h'⟩
theorem clOf_keep {cells : List (Str × Addr)} {x : Str} : ∀ (names : List (Str × NameKind)) (acc : List (Str × Addr)), (∃ c, (x, c) ∈ acc) → ∃ c, (x, c) ∈ clOf cells names acc
  | [], _, h => h
  | (n, k) :: r, acc, ⟨c, h⟩ => by
    unfold clOf
    split
    · exact clOf_keep r _ ⟨c, List.mem_cons_of_mem _ h⟩
    · exact clOf_keep r _ ⟨c, h⟩
theorem clOf_has {cells : List (Str × Addr)} {x : Str} : ∀ (names : List (Str × NameKind)) (acc : List (Str × Addr)), (x, NameKind.free) ∈ names → ∃ c, (x, c) ∈ clOf cells names acc
  | (n, k) :: r, acc, h => by
    unfold clOf
    rcases List.mem_cons.mp h with e | h
    · cases e
      rw [if_pos (by decide)]
      exact clOf_keep r _ ⟨_, List.mem_cons_self⟩
    · split
      · exact clOf_has r _ h
      · exact clOf_has r _ h
theorem lookup_of_mem {α : Type} {x : Str} : ∀ {l : List (Str × α)}, (∃ c, (x, c) ∈ l) → ∃ c, l.lookup x = some c
  | (k, v) :: l, ⟨c, h⟩ => by
    rw [List.lookup_cons]
    cases hb : x == k with
    | true => exact ⟨v, rfl⟩
    | false =>
      rcases List.mem_cons.mp h with e | h
      · cases e; simp at hb
      · exact lookup_of_mem ⟨c, h⟩
def relS (scope sc : Scope) : Scope :=
  { scope with names := scope.names.map fun (n, k) => if (k == .free && sc.kind == .function && sc.names.lookup n == some .cell) then (n, .cell) else (n, k) }
structure CompScope (scope sc : Scope) : Prop where
  kind : scope.kind = .function
  nd : (scope.names.map (·.1)).Nodup
  fr : ∀ y ∈ scope.names, y.2 = .free → sc.names.lookup y.1 = some .cell ∨ sc.names.lookup y.1 = some .free
theorem lookup_nd {α : Type} : ∀ {l : List (Str × α)} {x : Str} {c : α}, (l.map (·.1)).Nodup → (x, c) ∈ l → l.lookup x = some c
  | (k, v) :: l, x, c, nd, h => by
    obtain ⟨n1, n2⟩ := List.nodup_cons.mp (show (k :: l.map (·.1)).Nodup from nd)
    rw [List.lookup_cons]
    rcases List.mem_cons.mp h with e | h
    · cases e; simp
    · have hne : ¬ x = k := fun e => n1 (by rw [← e]; exact List.mem_map.mpr ⟨(x, c), h, rfl⟩)
      have : (x == k) = false := by simpa using hne
      rw [this]
      exact lookup_nd n2 h
theorem relS_lookup {scope sc : Scope} {x : Str} : (relS scope sc).names.lookup x = (scope.names.lookup x).map fun k => if (k == .free && sc.kind == .function && sc.names.lookup x == some .cell) then NameKind.cell else k := by
  show (scope.names.map _).lookup x = _
  generalize scope.names = names
  induction names with
  | nil => rfl
  | cons y r ih =>
    obtain ⟨n, k⟩ := y
    rw [List.map_cons]
    by_cases hc : (k == .free && sc.kind == .function && sc.names.lookup n == some .cell) = true
    · show List.lookup x ((if (k == .free && sc.kind == .function && sc.names.lookup n == some .cell) = true then (n, NameKind.cell) else (n, k)) :: _) = _
      rw [if_pos hc, List.lookup_cons, List.lookup_cons]
      cases hb : x == n with
      | true =>
        have hx : x = n := by simpa using hb
        subst hx
        show some NameKind.cell = some (if _ then _ else _)
        rw [if_pos hc]
      | false => exact ih
    · show List.lookup x ((if (k == .free && sc.kind == .function && sc.names.lookup n == some .cell) = true then (n, NameKind.cell) else (n, k)) :: _) = _
      rw [if_neg hc, List.lookup_cons, List.lookup_cons]
      cases hb : x == n with
      | true =>
        have hx : x = n := by simpa using hb
        subst hx
        show some k = some (if _ then _ else _)
        rw [if_neg hc]
      | false => exact ih
end L2
set_option Elab.async false
set_option linter.all false
set_option maxRecDepth 100000
namespace L2
open PySem PySem.Spec PyProof.Rows
structure CArgs where
  pins : List (Addr × Obj)
  cells : List (Str × Addr)
  s : Shared
  H : Hp
  fp : List Addr
  C : Addr
def Cx.comp (X : Cx) (scope : Scope) (N' : List Str) (c : CArgs) : Cx where
  prog := X.prog
  w := X.w
  K := X.K
  mg := X.mg
  base := X.base
  A := X.A
  N := N'
  s₀ := c.s
  H₀ := c.H
  env := compEnvC scope c.cells c.C X.env
  outer := X.stack
  stack := X.stack
  ex := c.fp
  fn := fun x => scope.names.lookup x == some .cell
  calm := X.calm
  pn := X.pn ++ c.pins
  xe := fun _ _ => False
def cSt (own : Nat) (ix : List Nat) (σ : St) : St := List.replicate own none ++ ix.map fun i => (σ[i]?).join
section
variable {X : Cx} {pins : List (Addr × Obj)} {σ : St} {H : Hp} {s s4 : Shared} {fp : List Addr} {scope : Scope} {N' : List Str} {own : Nat} {ix : List Nat}
theorem comp_inv (I : Inv X pins σ H s) (f2 : ∀ b ∈ fp, FpOk X pins H b) (hob : ∀ b ∈ fp, ∃ o, s.heap.get? b = some o) (S : CompScope scope X.env.scope)
    (hlen : N'.length = own + ix.length) (hN : (N'.drop own).map some = ix.map (X.N[·]?)) (hfr : ∀ x ∈ N'.drop own, scope.names.lookup x = some .free)
    {C : Addr} (hC : s.heap.objs.size < C) (k4 : ∀ b o, s.heap.get? b = some o → s4.heap.get? b = some o) (os4 : s4.os = s.os) (g4 : s4.gens = s.gens)
    (n4 : ∃ m, s4.heap.Ns C m) (own4 : ∀ x c, (x, c) ∈ cellsFrom (C + 1) scope.names [] → s4.heap.IsCell c none ∧ C + 1 ≤ c)
    (apart : (cellsFrom (C + 1) scope.names []).Pairwise fun x y => x.2 ≠ y.2) :
    Inv (X.comp scope N' ⟨pins, cellsFrom (C + 1) scope.names (clOf X.env.cells scope.names []), s, H, fp, C⟩) [] (cSt own ix σ) H s4 := by
  have hfree : ∀ y ∈ scope.names, y.2 = .free → ∃ c, X.env.cells.lookup y.1 = some c := fun y hy h => I.ok.has y.1 (S.fr y hy h)
  -- a cell of the block
  have cases : ∀ x c, (cellsFrom (C + 1) scope.names (clOf X.env.cells scope.names [])).lookup x = some c →
      ((x, c) ∈ cellsFrom (C + 1) scope.names [] ∧ scope.names.lookup x = some .cell) ∨ ((x, NameKind.free) ∈ scope.names ∧ X.env.cells.lookup x = some c) := fun x c h => by
    rw [cellsFrom_app, lookup_app] at h
    cases e : (cellsFrom (C + 1) scope.names []).lookup x with
    | some d =>
      rw [e] at h
      cases h
      have m := mem_of_lookup e
      rcases cellsFrom_kind _ _ _ _ _ m with z | z
      · exact absurd z (by simp)
      · exact .inl ⟨m, lookup_nd S.nd z⟩
    | none =>
      rw [e] at h
      rcases clOf_mem _ _ _ _ hfree (mem_of_lookup h) with z | z
      · exact absurd z (by simp)
      · exact .inr z
  have oldlt : ∀ x c, X.env.cells.lookup x = some c → c < s.heap.objs.size := fun x c e => let ⟨v, q⟩ := I.cell x c e; q.lt
  have kin : ∀ x, (relS scope X.env.scope).names.lookup x = some .cell ∨ (relS scope X.env.scope).names.lookup x = some .free → (scope.names.lookup x = some .cell ∨ scope.names.lookup x = some .free) := fun x h => by
    rw [relS_lookup] at h
    cases e : scope.names.lookup x with
    | none => rw [e] at h; simp at h
    | some k =>
      rw [e] at h
      cases k with
      | cell => exact .inl rfl
      | free => exact .inr rfl
      | _ => exact absurd h (by simp)
  have hCn : ∀ b o, s.heap.get? b = some o → b ≠ C := fun b o e z => by have := Heap.lt_size e; rw [z] at this; exact Nat.lt_irrefl _ (Nat.lt_trans this hC)
  have lk : ∀ x, (x, NameKind.free) ∈ scope.names → ∀ c, X.env.cells.lookup x = some c → (cellsFrom (C + 1) scope.names (clOf X.env.cells scope.names [])).lookup x = some c := fun x hx c hc => by
    have hl : scope.names.lookup x = some .free := lookup_nd S.nd hx
    rw [cellsFrom_app, lookup_app, lookup_none_of (l := cellsFrom (C + 1) scope.names []) fun d hd => ?_]
    · obtain ⟨d, hd⟩ := lookup_of_mem (clOf_has (cells := X.env.cells) scope.names [] hx)
      rcases clOf_mem _ _ _ _ hfree (mem_of_lookup hd) with z | ⟨_, z⟩
      · exact absurd z (by simp)
      · rw [hc] at z; cases z; exact hd
    · rcases cellsFrom_kind _ _ _ _ _ hd with z | z
      · exact absurd z (by simp)
      · rw [lookup_nd S.nd z] at hl; cases hl
  refine ⟨⟨I.ok.mod, S.kind, I.ok.glob, I.ok.blt, Nat.le_of_lt hC, fun x y c hx hy => ?_, fun x hx => ?_, fun x c hf hx => ?_, I.ok.hd, I.ok.frames, .inl rfl, fun b hb => ⟨?_, fun x c hx => ?_⟩, fun b o e => I.bs b o e, Nat.le_trans I.ok.bsz I.sz, fun b o e hb => ?_, fun b hb z => ?_, I.stack, I.stkFree⟩,
    os4, by rw [g4]; exact I.bare, Un.kept k4, ?_, fun x c hx => ?_, ?_, fun x c hx => ?_, fun p hp => ?_, I.hok.kept k4, ?_⟩
  · -- inj
    rcases cases x c hx with ⟨m1, _⟩ | ⟨_, m1⟩ <;> rcases cases y c hy with ⟨m2, _⟩ | ⟨_, m2⟩
    · exact name_of_addr apart m1 m2
    · exact absurd (Nat.lt_of_lt_of_le (Nat.lt_trans (oldlt y c m2) hC) (Nat.le_of_succ_le (own4 x c m1).2)) (Nat.lt_irrefl _)
    · exact absurd (Nat.lt_of_lt_of_le (Nat.lt_trans (oldlt x c m1) hC) (Nat.le_of_succ_le (own4 y c m2).2)) (Nat.lt_irrefl _)
    · exact I.ok.inj x y c m1 m2
  · -- has
    rcases kin x hx with h | h
    · have q := PySem.W.cellsFrom_some scope.names (C + 1) (clOf X.env.cells scope.names []) (.inl h)
      exact Option.isSome_iff_exists.mp q
    · obtain ⟨c, e⟩ := hfree (x, .free) (mem_of_lookup h) rfl
      exact ⟨c, lk x (mem_of_lookup h) c e⟩
  · -- cab
    rcases cases x c hx with ⟨m1, _⟩ | ⟨m1, _⟩
    · exact Nat.le_of_lt (Nat.lt_of_lt_of_le hC (Nat.le_of_succ_le (own4 x c m1).2))
    · have hl := lookup_nd S.nd m1
      have hf' : (scope.names.lookup x == some NameKind.cell) = true := hf
      rw [hl] at hf'; cases hf'
  · obtain ⟨o, e⟩ := hob b hb
    exact hCn b o e
  · intro z
    obtain ⟨o, e⟩ := hob b hb
    have hlt := Heap.lt_size e
    rcases cases x c hx with ⟨m1, _⟩ | ⟨_, m1⟩
    · subst z; exact absurd (Nat.lt_of_lt_of_le (Nat.lt_trans hlt hC) (Nat.le_of_succ_le (own4 x c m1).2)) (Nat.lt_irrefl _)
    · exact (f2 b hb).2.2.2.2.1 x c m1 z
  · -- noex
    have e1 := (I.ok.bs b o e).1
    rcases (f2 b hb).2.2.2.1 with z | z
    · exact I.ok.noex b o e z
    · exact absurd (Nat.lt_of_lt_of_le (Heap.lt_size e1) z) (Nat.lt_irrefl _)
  · -- exfs
    rcases List.mem_cons.mp (I.stkSub b z) with e | z
    · exact (f2 b hb).2.1 e
    · exact (f2 b hb).2.2.1 z
  · -- loc
    obtain ⟨m, hm⟩ := n4
    obtain ⟨m0, hn0, hl0⟩ := I.loc
    refine ⟨m, hm, fun i x v h1 h2 h3 => ?_⟩
    have h1 : N'[i]? = some x := h1
    unfold cSt at h2
    by_cases hi : i < own
    · rw [List.getElem?_append_left (by simpa using hi), List.getElem?_replicate] at h2
      split at h2 <;> cases h2
    · rw [List.getElem?_append_right (by simpa using hi), List.length_replicate, List.getElem?_map] at h2
      obtain ⟨j, hj⟩ : ∃ j, i = own + j := ⟨i - own, by omega⟩
      subst hj
      rw [Nat.add_sub_cancel_left] at h2
      cases e : ix[j]? with
      | none => rw [e] at h2; cases h2
      | some q =>
        rw [e] at h2
        have h2 : some (σ[q]?).join = some (some v) := h2
        have h2 : (σ[q]?).join = some v := Option.some.inj h2
        have hσ : σ[q]? = some (some v) := by
          cases eq : σ[q]? with
          | none => rw [eq] at h2; cases h2
          | some z => rw [eq] at h2; simp at h2; rw [h2]
        have hx : (N'.drop own)[j]? = some x := by rw [List.getElem?_drop]; exact h1
        have hNq : X.N[q]? = some x := by
          have := congrArg (·[j]?) hN
          simp only [List.getElem?_map, hx, e, Option.map_some] at this
          exact (Option.some.inj this).symm
        have hfx := hfr x (List.mem_of_getElem? hx)
        have hmem := mem_of_lookup hfx
        have kx := S.fr (x, .free) hmem rfl
        have vis : Vis X.env.scope x := .inr kx
        obtain ⟨u, r, l⟩ := hl0 q x v hNq hσ vis
        refine ⟨u, r, ?_⟩
        rcases l with ⟨k, _⟩ | ⟨k, c, hc, z⟩
        · exfalso
          have k' : X.env.scope.names.lookup x = some .local := k
          rcases kx with kx | kx
          · rw [show X.env.scope.names.lookup x = some .cell from kx] at k'; cases k'
          · rw [show X.env.scope.names.lookup x = some .free from kx] at k'; cases k'
        · refine .inr ⟨?_, c, lk x hmem c hc, z.keeps k4⟩
          show (relS scope X.env.scope).names.lookup x = some .cell ∨ (relS scope X.env.scope).names.lookup x = some .free
          rw [relS_lookup, hfx]
          by_cases hc : (NameKind.free == .free && X.env.scope.kind == .function && X.env.scope.names.lookup x == some .cell) = true
          · exact .inl (by rw [Option.map_some, if_pos hc])
          · exact .inr (by rw [Option.map_some, if_neg hc])
  · rcases cases x c hx with ⟨m1, _⟩ | ⟨_, m1⟩
    · exact ⟨_, (own4 x c m1).1⟩
    · obtain ⟨v, q⟩ := I.cell x c m1
      exact ⟨v, q.keeps k4⟩
  · exact I.hok.fresh (Nat.le_of_lt hC)
  · rcases cases x c hx with ⟨m1, _⟩ | ⟨_, m1⟩
    · exact I.hok.fresh (Nat.le_of_lt (Nat.lt_of_lt_of_le hC (Nat.le_of_succ_le (own4 x c m1).2)))
    · exact I.freeC x c m1
  · have hp : p ∈ X.pn ++ pins := by
      have : p ∈ (X.pn ++ pins) ++ [] := hp
      rwa [List.append_nil] at this
    obtain ⟨e, n, ne, nf, d⟩ := I.pin p hp
    refine ⟨k4 _ _ e, n, hCn _ _ e, fun z => ?_, d⟩
    rcases List.mem_cons.mp (I.stkSub _ z) with q | q
    · exact ne q
    · exact nf q
  · unfold cSt
    rw [List.length_append, List.length_replicate, List.length_map]
    exact hlen.symm
end
end L2
set_option Elab.async false
set_option linter.all false
set_option maxRecDepth 100000
set_option maxHeartbeats 4000000
namespace L2
open PySem PySem.Spec PyProof.Rows
section
variable {prog : Program} {w : World} {A : Around} {R : Result → Shared → Prop} {s : Shared}
theorem codeAny_compLoop_any {elt target iter : Expr} {ifs : List Expr} {scope : Scope} {pos : Pos} {it acc : Value} {env : Env} (I : Nat → Shared → Prop)
    (turn : ∀ n s, I n s → wpAny (model prog w) A (pyNext it) (fun r s₁ => match r with
      | none => R (.ok .next) s₁
      | some v => wpAny (model prog w) A (letOwnedTupleGo target it v) (fun _ s₁' => wpAny (model prog w) A (assign target env v) (fun _ s₂ =>
          wpAny (model prog w) A (forIn ifs true fun c r => if r = true then do let ok ← isTrue c env (eval c env); pure (ForInStep.yield ok) else pure (ForInStep.yield r)) (fun ok s₃ =>
            if ok = true then wpAny (model prog w) A (eval elt env) (fun x s₄ =>
              wpAny (model prog w) A (call (.builtin "list.append") [acc, x]) (fun _ s₅ => ∃ m, m < n ∧ I m s₅) (fun _ _ => False) s₄) (fun _ _ => False) s₃
            else ∃ m, m < n ∧ I m s₃) (fun _ _ => False) s₂) (fun _ _ => False) s₁') (fun _ _ => False) s₁) (fun _ _ => False) s)
    (n : Nat) (h : I n s) :
    codeAny (model prog w) A (.compLoop (.ListComp elt [⟨target, iter, ifs, 0⟩] scope pos) 0 it acc env) R s := by
  refine codeAny_loop rfl I (fun n s hI => ?_) n h
  show wpAny _ A ((compTurn (.ListComp elt [⟨target, iter, ifs, 0⟩] scope pos) 0 it acc env).onRaise (fun x => do noteFrame x env; theTreesLotGoes x)) _ _ s
  refine wpAny_noted ?_
  rw [compTurn_list]
  refine wpAny_bind (wpAny_standAt (wpAny_bind (wpAny_mono (turn n s hI) (fun r s₁ h₁ => ?_) fun _ _ h' => h'.elim)))
  cases r with
  | none => exact wpAny_pure h₁
  | some v =>
    refine wpAny_bind (wpAny_mono h₁ (fun _ s₁' h₁' => ?_) fun _ _ h' => h'.elim)
    refine wpAny_bind (wpAny_mono h₁' (fun _ s₂ h₂ => wpAny_bind (wpAny_mono h₂ (fun ok s₃ h₃ => ?_) fun _ _ h' => h'.elim)) fun _ _ h' => h'.elim)
    cases ok with
    | false => exact wpAny_pure ⟨rfl, h₃⟩
    | true =>
      exact wpAny_bind (wpAny_bind (wpAny_mono h₃ (fun x s₄ h₄ => wpAny_bind (wpAny_mono h₄ (fun _ s₅ h₅ => wpAny_pure (wpAny_pure ⟨rfl, h₅⟩)) fun _ _ h' => h'.elim)) fun _ _ h' => h'.elim))
end
def PTs (X : Cx) (ifs : List Expr) (t : TT) : Prop :=
  ∀ (pins : List (Addr × Obj)) (s : Shared) (σ : St) (H : Hp) (Q : Bool → Hp → Prop), Inv X pins σ H s → t σ H Q →
    wpAny (model X.prog X.w) X.A (forIn ifs true fun c r => if r = true then do let ok ← isTrue c X.env (eval c X.env); pure (ForInStep.yield ok) else pure (ForInStep.yield r)) (TP X pins σ Q) X.xe s
def tTrue : TT := fun _ H Q => Q true H
theorem pts_nil {X : Cx} : PTs X [] tTrue := fun _ _ _ H _ I h => wpAny_tests_nil ⟨H, I, h⟩
def GOwn (own : Nat) (g : TG) : Prop := ∀ x σ H Q, g x σ H Q → g x σ H fun σ' H' => (σ'.length = σ.length ∧ ∀ i, own ≤ i → σ'[i]? = σ[i]?) ∧ Q σ' H'
theorem go_name {own i : Nat} (h : i < own) : GOwn own (gName i) := fun x σ H Q q =>
  ⟨⟨by simp, fun j hj => by rw [List.getElem?_set_ne (by omega)]⟩, q⟩
def GMono (g : TG) : Prop := ∀ x σ H (Q Q' : St → Hp → Prop), (∀ σ H, Q σ H → Q' σ H) → g x σ H Q → g x σ H Q'
theorem gm_name {i : Nat} : GMono (gName i) := fun _ _ _ _ _ h q => h _ _ q
theorem cSt_own {own : Nat} {ix : List Nat} {σ : St} {i : Nat} {v : V} (h : (cSt own ix σ)[i]? = some (some v)) : own ≤ i := by
  unfold cSt at h
  by_cases hi : i < own
  · rw [List.getElem?_append_left (by simpa using hi), List.getElem?_replicate] at h
    split at h <;> cases h
  · omega
def CompTurns (J : It) (g : TG) (tc : TT) (te : TE) (σc : St) (Q : VK) (H1 : Hp) : Prop :=
  ∃ W : Nat → Nat → List V → Hp → Prop, (∃ m, W 0 m [] H1) ∧ ∀ i m ys H, W i m ys H →
    (J.stop i H ∧ ∀ p, H p = none → Q (.ref p) (upd H p (.lst ys))) ∨
    (J.go i H ∧ ys.length < sizeLine ∧ ∃ N : List V → Hp → Prop, (∀ ys' H', N ys' H' → ∃ m', m' < m ∧ W (i + 1) m' ys' H') ∧ ∀ x H', J.yld i H x H' → g x σc H' fun σ4 H4 => tc σ4 H4 fun b H5 =>
      if b = true then te σ4 H5 fun y H6 => N (ys ++ [y]) H6 else N ys H5)
def tComp (wi : TI) (own : Nat) (ix : List Nat) (g : TG) (tc : TT) (te : TE) : TE := fun σ H Q => wi σ H fun J H1 => CompTurns J g tc te (cSt own ix σ) Q H1
section
variable {X : Cx} {pins : List (Addr × Obj)} {σ : St} {H : Hp} {s : Shared} {fp : List Addr} {it : Addr} {tn : Nat → Heap → Prop} {J : It} {tg iter elt : Expr} {ifs : List Expr} {scope : Scope} {pos : Pos} {N' : List Str} {own : Nat} {ix : List Nat} {g : TG} {tc : TT} {te : TE} {Q : VK} {E : Value → Shared → Prop}
theorem comp_block (I : Inv X pins σ H s) (T : Turn X.prog X.w X.K tg J fp it tn) (st : tn 0 s.heap) (f2 : ∀ b ∈ fp, FpOk X pins H b) (hc : X.calm = true) (S : CompScope scope X.env.scope)
    (hlen : N'.length = own + ix.length) (hN : (N'.drop own).map some = ix.map (X.N[·]?)) (hfr : ∀ x ∈ N'.drop own, scope.names.lookup x = some .free)
    (hg : ∀ c, PG (X.comp scope N' c) tg g) (hgo : GOwn own g) (ht : ∀ c, PTs (X.comp scope N' c) ifs tc) (he : ∀ c, PE (X.comp scope N' c) elt te)
    (hq : CompTurns J g tc te (cSt own ix σ) Q H) {RR : Value → Addr → Result → Shared → Prop}
    (fin : ∀ (D C : Addr) (s' : Shared) (H' : Hp) (ys : List V) (its : List Value) (n : Nat), s'.os = s.os → AllBare s'.gens → Un (frs X.stack) fp H H' s.heap s'.heap → HOk X.prog X.w H' s'.heap → (∃ m, s'.heap.Ns C m) → H' C = none → s.heap.objs.size ≤ C →
      H' D = none → s.heap.objs.size ≤ D → D ≠ C → s'.heap.get? D = some { cls := .type "list", data := .seq its.toArray n } → Vals ys its → ys.length ≤ sizeLine → (∀ p, H' p = none → Q (.ref p) (upd H' p (.lst ys))) → RR (.ref D) C (.ok .next) s') :
    wpAny (model X.prog X.w) X.A (newList []) (fun acc s₃ => wpAny (model X.prog X.w) X.A (newFunctionEnv scope X.env.globals (clOf X.env.cells scope.names []) [] X.env.qual none .none (some X.env)) (fun cenv s₄ =>
      codeAny (model X.prog X.w) X.A (.compStart (.ListComp elt [⟨tg, iter, ifs, 0⟩] scope pos) 0 (.ref it) acc { cenv with scope := relabel scope X.env }) (RR acc cenv.locals) s₄) E s₃) E s := by
  obtain ⟨W, ⟨m0, w0⟩, turn⟩ := hq
  have hob : ∀ b ∈ fp, ∃ o, s.heap.get? b = some o := fun b hb => let ⟨o, e, _⟩ := T.obj 0 _ st b hb; ⟨o, e⟩
  refine wpAny_newObj_type ?_
  generalize hH1 : s.heap.push { cls := .type "list", dict := none, data := .seq ([] : List Value).toArray } = h1
  have hs1 : h1.objs.size = s.heap.objs.size + 1 := by rw [← hH1, Heap.size_push]
  have k1 : ∀ b o, s.heap.get? b = some o → h1.get? b = some o := fun b o e => by rw [← hH1]; exact Heap.get?_push_of_some _ e
  have d1 : h1.get? s.heap.objs.size = some { cls := .type "list", data := .seq ([] : List Value).toArray } := by rw [← hH1]; exact Heap.get?_push_size _ rfl
  simp only [newFunctionEnv, Option.isSome_some, if_true]
  refine wpAny_bind (wpAny_alloc ?_)
  generalize hH2 : (({ s with heap := h1 } : Shared).heap.push { cls := .type "dict", data := .dict #[] }) = h2
  have hH2' : h1.push { cls := .type "dict", data := .dict #[] } = h2 := hH2
  have hs2 : h2.objs.size = h1.objs.size + 1 := by rw [← hH2', Heap.size_push]
  have k2 : ∀ b o, h1.get? b = some o → h2.get? b = some o := fun b o e => by rw [← hH2']; exact Heap.get?_push_of_some _ e
  have n2 : h2.Ns h1.objs.size (fun _ => none) := by rw [← hH2']; exact Heap.Ns.new h1 (.type "dict")
  refine wpAny_bind (wpAny_layCells _ (fun name kind cells => by cases hkc : kind == NameKind.cell <;> simp [hkc]) _ _ _ _ ?_)
  have ok := cellsFrom_ok scope.names h2 (h1.objs.size + 1) [] ⟨fun _ _ hm => (nomatch hm), List.Pairwise.nil⟩ (by rw [hs2]; exact Nat.le_refl _)
  rw [hs2] at ok
  show wpAny _ _ (forIn ([] : List (Str × Value)) PUnit.unit _ >>= _) _ _ _
  rw [List.forIn_nil]
  refine wpAny_bind (wpAny_pure (wpAny_pure ?_))
  show codeAny _ _ (.compStart _ 0 (.ref it) (.ref s.heap.objs.size) (compEnvC scope (cellsFrom h2.objs.size scope.names (clOf X.env.cells scope.names [])) h1.objs.size X.env)) (RR (.ref s.heap.objs.size) h1.objs.size) { s with heap := pushCells h2 scope.names }
  rw [hs2]
  generalize hH3 : pushCells h2 scope.names = h3 at ok ⊢
  have k3 : ∀ b o, h2.get? b = some o → h3.get? b = some o := fun b o e => by rw [← hH3]; exact pushCells_keeps _ _ b o e
  have kk : ∀ b o, s.heap.get? b = some o → h3.get? b = some o := fun b o e => k3 b o (k2 b o (k1 b o e))
  have d3 : h3.get? s.heap.objs.size = some { cls := .type "list", data := .seq ([] : List Value).toArray } := k3 _ _ (k2 _ _ d1)
  have hC : s.heap.objs.size < h1.objs.size := by rw [hs1]; exact Nat.lt_succ_self _
  have I3 : Inv (X.comp scope N' ⟨pins, cellsFrom (h1.objs.size + 1) scope.names (clOf X.env.cells scope.names []), s, H, fp, h1.objs.size⟩) [] (cSt own ix σ) H { s with heap := h3 } :=
    comp_inv (s4 := { s with heap := h3 }) I f2 hob S hlen hN hfr hC kk rfl rfl ⟨_, n2.keeps k3⟩ (fun x c hm => ok.empty x c hm) ok.apart
  generalize hcs : cellsFrom (h1.objs.size + 1) scope.names (clOf X.env.cells scope.names []) = cs at I3 ⊢
  generalize hCC : h1.objs.size = C at *
  generalize hDD : s.heap.objs.size = D at *
  have hY := I3.ok
  -- what is fixed of the records
  have sD : D ≠ C ∧ (∀ x c, cs.lookup x = some c → c ≠ D) ∧ D ∉ frs X.stack ∧ ∀ p ∈ X.pn ++ pins, p.1 ≠ D := by
    refine ⟨Nat.ne_of_lt hC, fun x c e z => ?_, fun z => ?_, fun p hp z => ?_⟩
    · subst z
      have e' := e
      rw [← hcs, cellsFrom_app, lookup_app] at e'
      cases q : (cellsFrom (C + 1) scope.names []).lookup x with
      | some d =>
        rw [q] at e'; cases e'
        have := (ok.empty x c (mem_of_lookup q)).2
        exact absurd (Nat.lt_of_lt_of_le hC (Nat.le_of_succ_le this)) (Nat.lt_irrefl _)
      | none =>
        rw [q] at e'
        have hfree : ∀ y ∈ scope.names, y.2 = .free → ∃ c, X.env.cells.lookup y.1 = some c := fun y hy h => I.ok.has y.1 (S.fr y hy h)
        rcases clOf_mem _ _ _ _ hfree (mem_of_lookup e') with z | ⟨_, z⟩
        · exact absurd z (by simp)
        · obtain ⟨v, q⟩ := I.cell x c z
          have := q.lt
          rw [hDD] at this
          exact Nat.lt_irrefl _ this
    · exact (I3.nofs (a := D) (by exact absurd z (by
        intro z'
        obtain ⟨_, o, ho, _⟩ := (show s.heap.FunFrames X.base X.stack from I.stack).mem z'
        have := Heap.lt_size ho
        rw [hDD] at this
        exact Nat.lt_irrefl _ this))) z
    · have := Heap.lt_size (I.pin p hp).1
      rw [z, hDD] at this
      exact Nat.lt_irrefl _ this
  have stat : ∀ {H' : Hp}, (∀ b ∈ fp, H' b = none) → ∀ b ∈ fp, FpOk (X.comp scope N' ⟨pins, cs, s, H, fp, C⟩) [] H' b := fun {H'} hn b hb => by
    refine ⟨hn b hb, (hY.exf b hb).1, hY.exfs b hb, .inl hb, (hY.exf b hb).2, fun p hp => ?_⟩
    have hp : p ∈ (X.pn ++ pins) ++ [] := hp
    rw [List.append_nil] at hp
    exact (f2 b hb).2.2.2.2.2 p hp
  have statD : ∀ {H' : Hp}, H' D = none → FpOk (X.comp scope N' ⟨pins, cs, s, H, fp, C⟩) [] H' D := fun {H'} hn => by
    refine ⟨hn, sD.1, sD.2.2.1, .inr (Nat.le_of_eq hDD), sD.2.1, fun p hp => ?_⟩
    have hp : p ∈ (X.pn ++ pins) ++ [] := hp
    rw [List.append_nil] at hp
    exact sD.2.2.2 p hp
  have loop : codeAny (model X.prog X.w) X.A (.compLoop (.ListComp elt [⟨tg, iter, ifs, 0⟩] scope pos) 0 (.ref it) (.ref D) (compEnvC scope cs C X.env)) (RR (.ref D) C) { s with heap := h3 } := by
    refine codeAny_compLoop_any (fun n s' => ∃ (i : Nat) (H' : Hp) (ys : List V) (its : List Value) (k : Nat), Inv (X.comp scope N' ⟨pins, cs, s, H, fp, C⟩) [] (cSt own ix σ) H' s' ∧ tn i s'.heap ∧ (∀ b ∈ fp, H' b = none) ∧ H' D = none ∧
      s'.heap.get? D = some { cls := .type "list", data := .seq its.toArray k } ∧ Vals ys its ∧ ys.length ≤ sizeLine ∧ W i n ys H') ?_ m0
      ⟨0, H, [], [], 0, I3, T.keep _ _ _ st fun b _ o e => kk b o e, fun b hb => (f2 b hb).1, I.hok.fresh (Nat.le_of_eq hDD), d3, .nil, Nat.zero_le _, w0⟩
    rintro n s4 ⟨i, H4, ys, its, k, I4, st4, fr4, dn4, d4, rv4, z4, w4⟩
    rcases turn i n ys H4 w4 with ⟨stop, qn⟩ | ⟨go, zl, N, hN2, step⟩
    · have ID := I4.pinned (fp := [D]) (fun b hb => by rw [List.mem_singleton.mp hb]; exact statD dn4) (fun b hb => by rw [List.mem_singleton.mp hb]; exact ⟨_, d4, fun v z => nomatch z⟩)
      have nD : ∀ b ∈ fp, b ≠ D := fun b hb z => by
        obtain ⟨o, e⟩ := hob b hb
        have := Heap.lt_size e
        rw [z, hDD] at this
        exact Nat.lt_irrefl _ this
      have stat' : ∀ b ∈ fp, FpOk (X.comp scope N' ⟨pins, cs, s, H, fp, C⟩) ([] ++ pinsAt [D] s4.heap) H4 b := fun b hb => by
        obtain ⟨q1, q2, q3, q4, q5, q6⟩ := stat fr4 b hb
        refine ⟨q1, q2, q3, q4, q5, fun p hp => ?_⟩
        rcases List.mem_append.mp hp with z | z
        · exact q6 p (List.mem_append_left _ z)
        · have := (of_pinsAt (by simpa using z : p ∈ pinsAt [D] s4.heap)).1
          rw [List.mem_singleton.mp this]
          exact fun z => nD b hb z.symm
      refine thn (T.done (X.comp scope N' ⟨pins, cs, s, H, fp, C⟩) rfl rfl rfl hc i _ s4 _ H4 (fun _ _ => False) ID stat' st4 stop) fun r s5 ⟨hr, I5⟩ => ?_
      subst hr
      obtain ⟨m, hm, _⟩ := I5.loc
      refine fin D C s5 H4 ys its k I5.os I5.bare I5.base I5.hok ⟨m, hm⟩ I5.free (Nat.le_of_lt hC) dn4 (Nat.le_refl _) sD.1 ?_ rv4 z4 qn
      · exact (I5.pin (D, _) (List.mem_append_right _ (List.mem_append_right _ (mem_pinsAt (List.mem_singleton.mpr rfl) d4)))).1
    · have nD : ∀ b ∈ fp, b ≠ D := fun b hb z => by
        obtain ⟨o, e⟩ := hob b hb
        have := Heap.lt_size e
        rw [z, hDD] at this
        exact Nat.lt_irrefl _ this
      have ID := I4.pinned (fp := [D]) (fun b hb => by rw [List.mem_singleton.mp hb]; exact statD dn4) (fun b hb => by rw [List.mem_singleton.mp hb]; exact ⟨_, d4, fun v z => nomatch z⟩)
      have statP : ∀ {H' : Hp}, (∀ b ∈ fp, H' b = none) → ∀ b ∈ fp, FpOk (X.comp scope N' ⟨pins, cs, s, H, fp, C⟩) ([] ++ pinsAt [D] s4.heap) H' b := fun {H'} hn b hb => by
        obtain ⟨q1, q2, q3, q4, q5, q6⟩ := stat hn b hb
        refine ⟨q1, q2, q3, q4, q5, fun p hp => ?_⟩
        rcases List.mem_append.mp hp with z | z
        · exact q6 p (List.mem_append_left _ z)
        · have := (of_pinsAt (by simpa using z : p ∈ pinsAt [D] s4.heap)).1
          rw [List.mem_singleton.mp this]
          exact fun z => nD b hb z.symm
      refine thn (T.item (X.comp scope N' ⟨pins, cs, s, H, fp, C⟩) rfl rfl rfl hc i _ s4 _ H4 (fun _ _ => False) ID (statP fr4) st4 go) fun r s5 ⟨u, hr, h5⟩ => ?_
      subst hr
      refine thn h5 fun _ s6 ⟨x, H6, I6, r6, y6, st6, fr6⟩ => ?_
      have I6' := I6.pinned (statP fr6) (T.obj _ _ st6)
      refine thn (hg _ _ s6 _ H6 x u _ I6' r6 (hgo _ _ _ _ (step x H6 y6))) fun _ s7 ⟨σ7, H7, I7, ⟨e7, k7⟩, q7⟩ => ?_
      have I7' : Inv (X.comp scope N' ⟨pins, cs, s, H, fp, C⟩) ([] ++ pinsAt [D] s4.heap ++ pinsAt fp s6.heap) σ7 H7 s7 := I7
      refine thn (ht _ _ s7 σ7 H7 _ I7' q7) fun b s8 ⟨H8, I8, q8⟩ => ?_
      -- what is kept through the turn
      have back : ∀ {s9 : Shared} {H9 : Hp}, Inv (X.comp scope N' ⟨pins, cs, s, H, fp, C⟩) ([] ++ pinsAt [D] s4.heap ++ pinsAt fp s6.heap) σ7 H9 s9 →
          Inv (X.comp scope N' ⟨pins, cs, s, H, fp, C⟩) [] (cSt own ix σ) H9 s9 ∧ tn (i + 1) s9.heap ∧ (∀ b ∈ fp, H9 b = none) ∧ H9 D = none ∧ s9.heap.get? D = some { cls := .type "list", data := .seq its.toArray k } := fun {s9 H9} I9 => by
        have pD := I9.pin (D, _) (List.mem_append_right _ (List.mem_append_left _ (List.mem_append_right _ (mem_pinsAt (List.mem_singleton.mpr rfl) d4))))
        refine ⟨I9.unpinned.unpinned.weak (by rw [e7]) fun j v hj => ?_, T.keep _ _ _ st6 fun b hb o e => (I9.pin (b, o) (List.mem_append_right _ (List.mem_append_right _ (mem_pinsAt hb e)))).1, fun b hb => ?_, pD.2.1, pD.1⟩
        · rw [k7 j (cSt_own hj)]; exact hj
        · obtain ⟨o, e, _⟩ := T.obj _ _ st6 b hb
          exact (I9.pin (b, o) (List.mem_append_right _ (List.mem_append_right _ (mem_pinsAt hb e)))).2.1
      cases b with
      | false =>
        rw [if_neg Bool.false_ne_true] at q8
        obtain ⟨m', hm, w8⟩ := hN2 _ _ q8
        obtain ⟨b1, b2, b3, b4, b5⟩ := back I8
        exact ⟨m', hm, i + 1, H8, ys, its, k, b1, b2, b3, b4, b5, rv4, z4, w8⟩
      | true =>
        rw [if_pos rfl] at q8
        rw [if_pos rfl]
        refine thn (he _ _ s8 σ7 H8 _ I8 q8) fun yv s9 ⟨y, H9, I9, r9, q9⟩ => ?_
        obtain ⟨m', hm, w9⟩ := hN2 _ _ q9
        obtain ⟨b1, b2, b3, b4, b5⟩ := back I9
        have hl := rv4.length
        refine call_meets F.slot_list_append ⟨_, b5, rfl⟩ F.entry_list_append (F.args_list_append_2 _ _) (PySem.list_append D its.toArray k yv (by rw [List.size_toArray]; omega)) ⟨b5, ?_⟩
        have up := PySem.IsL.update b5 (fun a => a.push yv)
        have keep : ∀ b o, b ≠ D → s9.heap.get? b = some o → (s9.heap.update D (Obj.mapSeq fun a => a.push yv)).get? b = some o := fun b o hb q => (Heap.get?_update_other _ _ (Ne.symm hb)).trans q
        obtain ⟨f0, f1, f2', f3, f4, f5⟩ := statD b4
        refine ⟨m', hm, i + 1, H9, ys ++ [y], its ++ [yv], (if ((its.toArray.push yv).size == its.toArray.size) = true then k else k + 1), b1.turned (t' := s9.toks) keep b4 f1 f3 f4 f5, ?_, b3, b4, ?_, rv4.append (.cons r9 .nil), ?_, w9⟩
        · exact T.keep _ _ _ b2 fun b hb o e => keep b o (nD b hb) e
        · have e2 : (its.toArray.push yv) = (its ++ [yv]).toArray := by simp
          rw [← e2]
          exact up
        · rw [List.length_append, List.length_singleton]
          omega
  exact codeAny_compStart_list loop (T.self X.A 0 _ _ _ (T.keep _ _ _ st fun b _ o e => kk b o e) loop)
end
end L2
set_option Elab.async false
set_option linter.all false
set_option maxRecDepth 100000
set_option maxHeartbeats 4000000
namespace L2
open PySem PySem.Spec PyProof.Rows
section
variable {X : Cx} {pins : List (Addr × Obj)} {σ : St} {H : Hp} {s : Shared} {fp : List Addr} {it : Addr} {tn : Nat → Heap → Prop} {J : It} {tg iter elt : Expr} {ifs : List Expr} {scope : Scope} {pos : Pos} {N' : List Str} {own : Nat} {ix : List Nat} {g : TG} {tc : TT} {te : TE} {wi : TI} {E : Value → Shared → Prop}
theorem comp_adopt {H' : Hp} {s' : Shared} {D : Addr} {ys : List V} {its : List Value} {n : Nat} (I : Inv X pins σ H s) (f2 : ∀ b ∈ fp, FpOk X pins H b) (ho : s'.os = s.os) (hg : AllBare s'.gens) (u : Un (frs X.stack) fp H H' s.heap s'.heap) (hok : HOk X.prog X.w H' s'.heap)
    (dn : H' D = none) (ds : s.heap.objs.size ≤ D) (d : s'.heap.get? D = some { cls := .type "list", data := .seq its.toArray n }) (rv : Vals ys its) (z : ys.length ≤ sizeLine) : Inv X pins σ (upd H' D (.lst ys)) s' := by
  have nD : ∀ b o, s.heap.get? b = some o → b ≠ D := fun b o e q => by rw [q, Heap.get?_none_of_le ds] at e; cases e
  have nH : ∀ b o, H' b = some o → b ≠ D := fun b o e q => by rw [q, dn] at e; cases e
  refine I.call' (ch := fp) ho ⟨u.keep, u.slot, fun b o e q hx => ?_, u.there, fun b xs e => ?_, fun b o v e => ?_, fun b ps e => ?_⟩ (fun b o e => ?_) hg fun b hb => ?_
  · rw [upd_ne (nD b o e)]; exact u.free b o e q hx
  · have := u.tups b xs e
    rw [upd_ne (nH _ _ this)]; exact this
  · have := u.frzs b o v e
    rw [upd_ne (nH _ _ this)]; exact this
  · obtain ⟨more, q⟩ := u.tbls b ps e
    exact ⟨more, by rw [upd_ne (nH _ _ q)]; exact q⟩
  · by_cases hb : b = D
    · subst hb
      rw [upd_same] at e
      cases e
      exact ⟨z, its, n, rv, d⟩
    · rw [upd_ne hb] at e
      exact (hok b o e).stay (fun _ _ _ q => q) (fun c q => by rw [upd_ne (nH _ _ q)]; exact q) fun c xs q => by rw [upd_ne (nH _ _ q)]; exact q
  · obtain ⟨q1, q2, q3, q4, q5, q6⟩ := f2 b hb
    exact ⟨q4, q2, q5, q6⟩
theorem Inv.dictGone {s' : Shared} {h' : Heap} {C : Addr} {H' : Hp} {σ' : St} (I : Inv X pins σ H s) (J : Inv X pins σ' H' s') (hC : s.heap.objs.size ≤ C) (hn : H' C = none) (k : Heap.SameBut C s'.heap h') : Inv X pins σ' H' { s' with heap := h' } := by
  have hC0 := Heap.get?_none_of_le hC
  refine J.turned (t' := s'.toks) (fun b o hb e => (k.2 b hb).trans e) hn (fun z => ?_) (.inr (Nat.le_trans I.sz hC)) (fun x c e z => ?_) fun p hp z => ?_
  · obtain ⟨m, ⟨o, _, _, ho, _⟩, _⟩ := I.loc
    rw [← z, hC0] at ho; cases ho
  · obtain ⟨v, o, ho, _⟩ := I.cell x c e
    rw [z, hC0] at ho; cases ho
  · have := (I.pin p hp).1
    rw [z, hC0] at this; cases this
theorem pe_comp (hc : X.calm = true) (hi : PI X tg iter wi) (S : CompScope scope X.env.scope)
    (hlen : N'.length = own + ix.length) (hN : (N'.drop own).map some = ix.map (X.N[·]?)) (hfr : ∀ x ∈ N'.drop own, scope.names.lookup x = some .free)
    (hg : ∀ c, PG (X.comp scope N' c) tg g) (hgo : GOwn own g) (ht : ∀ c, PTs (X.comp scope N' c) ifs tc) (he : ∀ c, PE (X.comp scope N' c) elt te)
    (hs : ∀ x, foldedSetIterable iter X.env x = pure x := by intro _; rfl) : PE X (.ListComp elt [⟨tg, iter, ifs, 0⟩] scope pos) (tComp wi own ix g tc te) := by
  intro pins s σ H Q I h
  rw [eval_ListComp]
  have hfree : ∀ y ∈ scope.names, y.2 = .free → ∃ c, X.env.cells.lookup y.1 = some c := fun y hy h => I.ok.has y.1 (S.fr y hy h)
  refine wpAny_comprehension_free (use := none) rfl hs (closureFor_eq hfree) S.kind (fun y hy hl => lookup_nd S.nd (by rw [← hl]; exact hy)) ?_
  refine thn (hi pins s σ H _ I h) fun v s1 h1 => thn h1 fun itv s2 h2 => ?_
  obtain ⟨it, fp, tn, J, H2, e, I2, T, st2, f2, q2⟩ := h2
  subst e
  refine comp_block (RR := fun acc C => compPost (model X.prog X.w) X.A X.xe none (EP X pins σ Q) acc C) I2 T st2 f2 hc S hlen hN hfr hg hgo ht he q2 ?_
  intro D C s' H' ys its n ho hgn u hok hm hC hCs hD hDs hDC d rv z q
  obtain ⟨m, hm⟩ := hm
  have I3 := comp_adopt I2 f2 ho hgn u hok hD hDs d rv z
  refine ⟨m, hm, fun h' hs' => ?_⟩
  exact ⟨.ref D, _, I2.dictGone I3 hCs (by rw [upd_ne (Ne.symm hDC)]; exact hC) hs', rfl, q D hD⟩
theorem ps_comp {i : Nat} {y : Str} {py spos : Pos} (hc : X.calm = true) (hnd : X.N.Nodup) (hiy : X.N[i]? = some y) (hy : X.env.scope.names.lookup y = some .local) (hi : PI X tg iter wi) (S : CompScope scope X.env.scope)
    (hlen : N'.length = own + ix.length) (hN : (N'.drop own).map some = ix.map (X.N[·]?)) (hfr : ∀ x ∈ N'.drop own, scope.names.lookup x = some .free)
    (hg : ∀ c, PG (X.comp scope N' c) tg g) (hgo : GOwn own g) (ht : ∀ c, PTs (X.comp scope N' c) ifs tc) (he : ∀ c, PE (X.comp scope N' c) elt te)
    (hsw : swapsWith (.ListComp elt [⟨tg, iter, ifs, 0⟩] scope pos) (some (.Name y py)) spos.line X.env = pure true)
    (hs : ∀ x, foldedSetIterable iter X.env x = pure x := by intro _; rfl) : PS X (.Assign [.Name y py] (.ListComp elt [⟨tg, iter, ifs, 0⟩] scope pos) spos) (tAsg (tComp wi own ix g tc te) (gName i)) := by
  intro pins s σ H D I h
  rw [exec_Assign_Name_used _ _ _ _ hsw]
  refine wpAny_bind (wpAny_standAt (wpAny_bind ?_))
  show wpAny _ _ (do let _ ← comprehension (.ListComp elt [⟨tg, iter, ifs, 0⟩] scope pos) scope X.env _ (newList []) false (eval iter X.env) (some (assign (.Name y py) X.env))) _ _ s
  have hfree : ∀ y ∈ scope.names, y.2 = .free → ∃ c, X.env.cells.lookup y.1 = some c := fun y hy h => I.ok.has y.1 (S.fr y hy h)
  refine wpAny_bind (wpAny_mono (wpAny_comprehension_free (use := some (assign (.Name y py) X.env)) (Q := fun _ s' => SP X pins D .next s') rfl hs (closureFor_eq hfree) S.kind (fun y hy hl => lookup_nd S.nd (by rw [← hl]; exact hy)) ?_) (fun _ s' hq => wpAny_pure (wpAny_pure hq)) fun _ _ e => e)
  refine thn (hi pins s σ H _ I h) fun v s1 h1 => thn h1 fun itv s2 h2 => ?_
  obtain ⟨it, fp, tn, J, H2, e, I2, T, st2, f2, q2⟩ := h2
  subst e
  refine comp_block (RR := fun acc C => compPost (model X.prog X.w) X.A X.xe (some (assign (.Name y py) X.env)) (fun _ s' => SP X pins D .next s') acc C) I2 T st2 f2 hc S hlen hN hfr hg hgo ht he q2 ?_
  intro d C s' H' ys its n ho hgn u hok hm hC hCs hD hDs hDC hd rv z q
  obtain ⟨m, hm⟩ := hm
  have I3 := comp_adopt I2 f2 ho hgn u hok hD hDs hd rv z
  show wpAny _ _ (assign (.Name y py) X.env (.ref d)) _ _ s'
  have hCn : (upd H' d (.lst ys)) C = none := by rw [upd_ne (Ne.symm hDC)]; exact hC
  refine wpAny_assign_Name (store_ok2 I3 hnd hiy (.inl hy) (v := .ref d) rfl (fun s3 I4 ⟨a, sb, ha⟩ => ?_) (.inr hy))
  have ha' : a ≠ C := fun e => by
    have hC0 := Heap.get?_none_of_le hCs
    rcases ha with z | z
    · obtain ⟨m, ⟨o, _, _, ho, _⟩, _⟩ := I2.loc
      rw [← z, e, hC0] at ho; cases ho
    · obtain ⟨v, o, ho, _⟩ := I2.cell y a z
      rw [e, hC0] at ho; cases ho
  refine ⟨m, hm.sameBut sb (Ne.symm ha'), fun h' hs' => ?_⟩
  exact ⟨_, _, I2.dictGone I4 hCs hCn hs', q d hD⟩
end
end L2
set_option Elab.async false
set_option linter.all false
set_option maxRecDepth 100000
set_option maxHeartbeats 4000000
namespace L2
open PySem PySem.Spec PyProof.Rows
section
variable {X : Cx}
theorem PE.imp {e : Expr} {t t' : TE} (h : PE X e t) (f : ∀ σ H Q, t' σ H Q → t σ H Q) : PE X e t' := fun pins s σ H Q I q => h pins s σ H Q I (f σ H Q q)
theorem OpR.imp {f : Value → Value → Sem Value} {r r' : R2} (h : OpR X f r) (g : ∀ x y H Q, r' x y H Q → r x y H Q) : OpR X f r' := fun pins s σ H x y v u Q I rx ry q => h pins s σ H x y v u Q I rx ry (g _ _ _ _ q)
theorem CallR.imp {f : Value} {r r' : List V → Hp → VK → Prop} (h : CallR X f r) (g : ∀ x H Q, r' x H Q → r x H Q) : CallR X f r' := fun pins s σ H xs us Q I r q => h pins s σ H xs us Q I r (g _ _ _ q)
def vVar (i : Nat) : TE := fun σ H Q => match σ[i]? with
  | some (some v) => Q v H
  | _ => False
theorem vv (i : Nat) {x : Str} {pos : Pos} (hN : X.N[i]? = some x := by rfl) (hv : Vis X.env.scope x := by first | exact Or.inl rfl | exact Or.inr (Or.inl rfl) | exact Or.inr (Or.inr rfl)) (hd : (x == ("__debug__" : Str)) = false := by decide)
    (hcd : (x == ("__classdict__" : Str)) = false := by decide) : PE X (.Name x pos) (vVar i) := (pe_var hN hv hd hcd).imp fun σ H Q q => by
  unfold vVar at q
  split at q
  · rename_i v e; exact ⟨v, e, q⟩
  · exact q.elim
def okMul (i j : Int) : Prop := (i.natAbs < 2 ^ 4096 ∧ j.natAbs < 2 ^ 4096) ∨ (-(2 ^ 64) < i ∧ i < 2 ^ 64) ∨ (-(2 ^ 64) < j ∧ j < 2 ^ 64)
theorem bits_of {i : Int} (h : i.natAbs < 2 ^ 4096) : Builtin.Int.intBits i ≤ 2 ^ 20 := by
  unfold Builtin.Int.intBits
  split
  · exact Nat.zero_le _
  · rename_i hz
    have hne : i.natAbs ≠ 0 := by
      have : ¬ i = 0 := by simpa using hz
      omega
    have := (Nat.log2_lt hne).mpr h
    have e : (2 : Nat) ^ 20 = 1048576 := by decide
    omega
theorem okMul.ok {i j : Int} (h : okMul i j) : IntMulOk i j := by
  rcases h with ⟨h1, h2⟩ | h | h
  · exact .of_bits (bits_of h1) (bits_of h2)
  · exact CMul.ok (.inl h)
  · exact CMul.ok (.inr h)
def okDiv (j : Int) : Prop := 0 < j ∧ j < 2 ^ 4096
theorem okDiv.ok {i j : Int} (h : okDiv j) : Builtin.divisionGoesByPylong i j = false := by
  refine PyProof.noPylong_of_log2 ?_
  obtain ⟨h1, h2⟩ := h
  have hne : j.natAbs ≠ 0 := by omega
  have h3 : j.natAbs < 2 ^ 4096 := by
    have e : ((j.natAbs : Int)) = j := by omega
    have h2' : ((j.natAbs : Nat) : Int) < ((2 ^ 4096 : Nat) : Int) := by rw [e, Int.natCast_pow]; exact h2
    exact Int.ofNat_lt.mp h2'
  have := (Nat.log2_lt hne).mpr h3
  omega
def mAdd (K : PySem.W.Frag) : R2 := fun x y H Q => match x, y with
  | .int i, .int j => Q (.int (i + j)) H
  | .str a, .str b => a.length + b.length ≤ sizeLine ∧ Q (.str (a ++ b)) H
  | .ref a, .ref b => rCat (.ref a) (.ref b) H Q ∨ rCatT K (.ref a) (.ref b) H Q
  | _, _ => False
theorem om_add : OpR X (binaryOp .Add) (mAdd X.K) := by
  intro pins s σ H x y v u Q I rx ry q
  cases x <;> cases y <;> first
    | exact False.elim q
    | exact op_add pins s σ H _ _ v u Q I rx ry ⟨_, _, rfl, rfl, q⟩
    | exact op_add_str pins s σ H _ _ v u Q I rx ry ⟨_, _, rfl, rfl, q.1, q.2⟩
    | (rcases q with q | q
       · exact op_cat pins s σ H _ _ v u Q I rx ry q
       · exact op_catT pins s σ H _ _ v u Q I rx ry q)
def mSub : R2 := fun x y H Q => match x, y with
  | .int i, .int j => Q (.int (i - j)) H
  | _, _ => False
theorem om_sub : OpR X (binaryOp .Sub) mSub := by
  intro pins s σ H x y v u Q I rx ry q
  cases x <;> cases y <;> first
    | exact False.elim q
    | exact op_sub pins s σ H _ _ v u Q I rx ry ⟨_, _, rfl, rfl, q⟩
def mMul : R2 := fun x y H Q => match x, y with
  | .int i, .int j => okMul i j ∧ Q (.int (i * j)) H
  | .ref a, .int k => rRep (.ref a) (.int k) H Q
  | _, _ => False
theorem om_mul : OpR X (binaryOp .Mult) mMul := by
  have hI : OpR X (binaryOp .Mult) (rI okMul fun i j => .int (i * j)) := opI fun _ _ _ _ _ _ _ hc q => mul_int q hc.ok
  intro pins s σ H x y v u Q I rx ry q
  cases x <;> cases y <;> first
    | exact False.elim q
    | exact hI pins s σ H _ _ v u Q I rx ry ⟨_, _, rfl, rfl, q.1, q.2⟩
    | exact op_rep pins s σ H _ _ v u Q I rx ry q
def mDiv : R2 := fun x y H Q => match x, y with
  | .int i, .int j => okDiv j ∧ Q (.int (i / j)) H
  | _, _ => False
theorem om_div : OpR X (binaryOp .FloorDiv) mDiv := by
  have hI : OpR X (binaryOp .FloorDiv) (rI (fun _ j => okDiv j) fun i j => .int (i / j)) := opI fun i j _ _ _ _ _ hc q => by
    refine floordiv_int (by have := hc.1; omega) ?_ (.inl hc.ok)
    rw [Int.fdiv_eq_ediv_of_nonneg i (by have := hc.1; omega)]
    exact q
  intro pins s σ H x y v u Q I rx ry q
  cases x <;> cases y <;> first
    | exact False.elim q
    | exact hI pins s σ H _ _ v u Q I rx ry ⟨_, _, rfl, rfl, q.1, q.2⟩
def mMod : R2 := fun x y H Q => match x, y with
  | .int i, .int j => 0 < j ∧ Q (.int (i % j)) H
  | _, _ => False
theorem om_mod : OpR X (binaryOp .Mod) mMod := by
  intro pins s σ H x y v u Q I rx ry q
  cases x <;> cases y <;> first
    | exact False.elim q
    | exact op_mod pins s σ H _ _ v u Q I rx ry ⟨_, _, rfl, rfl, q.1, q.2⟩
def mPow : R2 := fun x y H Q => match x, y with
  | .int i, .int j => CPow i j ∧ Q (.int (i ^ j.toNat)) H
  | _, _ => False
theorem om_pow : OpR X (binaryOp .Pow) mPow := by
  intro pins s σ H x y v u Q I rx ry q
  cases x <;> cases y <;> first
    | exact False.elim q
    | exact op_pow pins s σ H _ _ v u Q I rx ry ⟨_, _, rfl, rfl, q.1, q.2⟩
def mNeg : V → Hp → VK → Prop := fun x H Q => match x with
  | .int i => Q (.int (-i)) H
  | _ => False
theorem um_neg : UnR X (unaryOp .USub) mNeg := by
  intro pins s σ H x v Q I rx q
  cases x <;> first
    | exact False.elim q
    | exact un_neg pins s σ H _ v Q I rx ⟨_, rfl, q⟩
def mCmp (p : Int → Int → Bool) : R2 := fun x y H Q => match x, y with
  | .int i, .int j => Q (.bl (p i j)) H
  | _, _ => False
theorem om_lt : OpR X (compareOp .Lt) (mCmp fun i j => decide (i < j)) := by
  intro pins s σ H x y v u Q I rx ry q
  cases x <;> cases y <;> first
    | exact False.elim q
    | exact op_lt pins s σ H _ _ v u Q I rx ry ⟨_, _, rfl, rfl, q⟩
theorem om_le : OpR X (compareOp .LtE) (mCmp fun i j => decide (i ≤ j)) := by
  intro pins s σ H x y v u Q I rx ry q
  cases x <;> cases y <;> first
    | exact False.elim q
    | exact op_le pins s σ H _ _ v u Q I rx ry ⟨_, _, rfl, rfl, q⟩
theorem om_gt : OpR X (compareOp .Gt) (mCmp fun i j => decide (j < i)) := by
  intro pins s σ H x y v u Q I rx ry q
  cases x <;> cases y <;> first
    | exact False.elim q
    | exact op_gt pins s σ H _ _ v u Q I rx ry ⟨_, _, rfl, rfl, q⟩
end
end L2
set_option Elab.async false
set_option linter.all false
set_option maxRecDepth 100000
set_option maxHeartbeats 4000000
namespace L2
open PySem PySem.Spec PyProof.Rows
inductive Dv where
  | non | bl (b : Bool) | int (i : Int) | str (x : Str) | tup (ds : List Dv) | lst (ds : List Dv)
mutual
def Rep (K : PySem.W.Frag) (H : Hp) : Dv → V → Prop
  | .non, v => v = .non
  | .bl b, v => v = .bl b
  | .int i, v => v = .int i
  | .str x, v => v = .str x
  | .tup ds, v => ∃ a xs, v = .ref a ∧ SqT K H a xs ∧ Reps K H ds xs
  | .lst ds, v => ∃ a xs, v = .ref a ∧ SqL K H a xs ∧ Reps K H ds xs
def Reps (K : PySem.W.Frag) (H : Hp) : List Dv → List V → Prop
  | [], xs => xs = []
  | d :: ds, xs => ∃ x r, xs = x :: r ∧ Rep K H d x ∧ Reps K H ds r
end
mutual
def eqD : Dv → Dv → Bool
  | .non, .non => true
  | .bl a, .bl b => a == b
  | .bl a, .int b => (if a then 1 else 0) == b
  | .int a, .bl b => a == (if b then 1 else 0)
  | .int a, .int b => a == b
  | .str a, .str b => a == b
  | .tup ds, .tup es => eqDs ds es
  | .lst ds, .lst es => eqDs ds es
  | _, _ => false
def eqDs : List Dv → List Dv → Bool
  | [], [] => true
  | d :: ds, e :: es => eqD d e && eqDs ds es
  | _, _ => false
end
mutual
def depD : Dv → Nat
  | .tup ds => depDs ds + 1
  | .lst ds => depDs ds + 1
  | _ => 0
def depDs : List Dv → Nat
  | [] => 0
  | d :: ds => max (depD d) (depDs ds)
end
theorem eqD_tup (ds es : List Dv) : eqD (.tup ds) (.tup es) = eqDs ds es := by rw [eqD]
theorem eqD_lst (ds es : List Dv) : eqD (.lst ds) (.lst es) = eqDs ds es := by rw [eqD]
theorem Reps.length {K : PySem.W.Frag} {H : Hp} : ∀ {ds : List Dv} {xs : List V}, Reps K H ds xs → ds.length = xs.length
  | [], xs, h => by unfold Reps at h; subst h; rfl
  | d :: ds, xs, h => by
    unfold Reps at h
    obtain ⟨x, r, rfl, _, h⟩ := h
    rw [List.length_cons, List.length_cons, Reps.length h]
theorem Reps.get {K : PySem.W.Frag} {H : Hp} : ∀ {ds : List Dv} {xs : List V} {i : Nat} {d : Dv}, Reps K H ds xs → ds[i]? = some d → ∃ x, xs[i]? = some x ∧ Rep K H d x
  | [], _, _, _, _, e => by simp at e
  | d :: ds, xs, 0, _, h, e => by
    unfold Reps at h
    obtain ⟨x, r, rfl, h1, _⟩ := h
    simp at e; subst e
    exact ⟨x, rfl, h1⟩
  | d :: ds, xs, i + 1, _, h, e => by
    unfold Reps at h
    obtain ⟨x, r, rfl, _, h⟩ := h
    obtain ⟨y, h1, h2⟩ := Reps.get (i := i) h (by simpa using e)
    exact ⟨y, by simpa using h1, h2⟩
theorem depD_le {ds : List Dv} {i : Nat} {d : Dv} (h : ds[i]? = some d) : depD d ≤ depDs ds := by
  induction ds generalizing i with
  | nil => simp at h
  | cons e es ih =>
    unfold depDs
    cases i with
    | zero => simp at h; subst h; omega
    | succ i => have := ih (i := i) (by simpa using h); omega
theorem eqDs_all : ∀ (ds es : List Dv), ds.length = es.length → eqDs ds es = (List.range ds.length).all fun i => match ds[i]?, es[i]? with | some d, some e => eqD d e | _, _ => false
  | [], [], _ => by unfold eqDs; rfl
  | d :: ds, e :: es, h => by
    unfold eqDs
    rw [List.length_cons, List.range_succ_eq_map, List.all_cons, List.all_map, eqDs_all ds es (by simpa using h)]
    congr 1
  | [], e :: es, h => by simp at h
  | d :: ds, [], h => by simp at h
theorem eqDs_len : ∀ (ds es : List Dv), ds.length ≠ es.length → eqDs ds es = false
  | [], [], h => absurd rfl h
  | [], _ :: _, _ => by unfold eqDs; rfl
  | _ :: _, [], _ => by unfold eqDs; rfl
  | d :: ds, e :: es, h => by unfold eqDs; rw [eqDs_len ds es (fun z => h (by simp [z])), Bool.and_false]
mutual
theorem eqD_refl : ∀ d : Dv, eqD d d = true
  | .non => by unfold eqD; rfl
  | .bl b => by unfold eqD; simp
  | .int i => by unfold eqD; simp
  | .str x => by unfold eqD; simp
  | .tup ds => by unfold eqD; exact eqDs_refl ds
  | .lst ds => by unfold eqD; exact eqDs_refl ds
theorem eqDs_refl : ∀ ds : List Dv, eqDs ds ds = true
  | [] => by unfold eqDs; rfl
  | d :: ds => by unfold eqDs; rw [eqD_refl d, eqDs_refl ds]; rfl
end
section
variable {X : Cx} {pins : List (Addr × Obj)} {σ : St} {H : Hp} {s : Shared}
theorem no_both {a : Addr} {xs ys : List V} (I : Inv X pins σ H s) (h : SqL X.K H a xs) (h' : SqT X.K H a ys) : False := by
  obtain ⟨its, _, ⟨o, n, e, c, _⟩, _⟩ := I.list h
  obtain ⟨its', _, ⟨o', e', c', _⟩, _⟩ := I.tuple h'
  rw [e] at e'; cases e'
  rw [c] at c'
  exact absurd c' (by decide)
mutual
theorem rep_inj (I : Inv X pins σ H s) : ∀ (d e : Dv) (x : V), Rep X.K H d x → Rep X.K H e x → d = e
  | .non, e, x, h, h' => by
    unfold Rep at h; subst h
    cases e <;> unfold Rep at h' <;> first | rfl | (obtain ⟨a, xs, q, _⟩ := h'; cases q; done) | (cases h'; done)
  | .bl b, e, x, h, h' => by
    unfold Rep at h; subst h
    cases e <;> unfold Rep at h' <;> first | (obtain ⟨a, xs, q, _⟩ := h'; cases q; done) | (cases h'; rfl) | (cases h'; done)
  | .int b, e, x, h, h' => by
    unfold Rep at h; subst h
    cases e <;> unfold Rep at h' <;> first | (obtain ⟨a, xs, q, _⟩ := h'; cases q; done) | (cases h'; rfl) | (cases h'; done)
  | .str b, e, x, h, h' => by
    unfold Rep at h; subst h
    cases e <;> unfold Rep at h' <;> first | (obtain ⟨a, xs, q, _⟩ := h'; cases q; done) | (cases h'; rfl) | (cases h'; done)
  | .tup ds, e, x, h, h' => by
    unfold Rep at h
    obtain ⟨a, xs, rfl, hs, hr⟩ := h
    cases e with
    | tup es =>
      unfold Rep at h'
      obtain ⟨b, ys, q, hs', hr'⟩ := h'
      cases q
      rw [I.tuple_inj hs' hs] at hr'
      rw [reps_inj I ds es xs hr hr']
    | lst es =>
      unfold Rep at h'
      obtain ⟨b, ys, q, hs', hr'⟩ := h'
      cases q
      exact (no_both I hs' hs).elim
    | _ => unfold Rep at h'; cases h'
  | .lst ds, e, x, h, h' => by
    unfold Rep at h
    obtain ⟨a, xs, rfl, hs, hr⟩ := h
    cases e with
    | lst es =>
      unfold Rep at h'
      obtain ⟨b, ys, q, hs', hr'⟩ := h'
      cases q
      rw [I.list_inj hs' hs] at hr'
      rw [reps_inj I ds es xs hr hr']
    | tup es =>
      unfold Rep at h'
      obtain ⟨b, ys, q, hs', hr'⟩ := h'
      cases q
      exact (no_both I hs hs').elim
    | _ => unfold Rep at h'; cases h'
theorem reps_inj (I : Inv X pins σ H s) : ∀ (ds es : List Dv) (xs : List V), Reps X.K H ds xs → Reps X.K H es xs → ds = es
  | [], es, xs, h, h' => by
    unfold Reps at h; subst h
    cases es with
    | nil => rfl
    | cons e es => unfold Reps at h'; obtain ⟨x, r, q, _⟩ := h'; cases q
  | d :: ds, es, xs, h, h' => by
    unfold Reps at h
    obtain ⟨x, r, rfl, h1, h2⟩ := h
    cases es with
    | nil => unfold Reps at h'; cases h'
    | cons e es =>
      unfold Reps at h'
      obtain ⟨y, r', q, h3, h4⟩ := h'
      cases q
      rw [rep_inj I d e _ h1 h3, reps_inj I ds es _ h2 h4]
end
abbrev Eq3 (A : Around) (s : Shared) (u v : Value) (b : Bool) : Prop := SeqAt.EqAt A s u v b ∧ SeqAt.RcAt A s u v b ∧ SeqAt.RcNeAt A s u v (!b)
theorem eq3_tup {A : Around} {a b : Addr} {xs ys : List V} {ds es : List Dv} (I : Inv X pins σ H s) (hu : A.units < cLine) (ha : SqT X.K H a xs) (hb : SqT X.K H b ys) (hd : Reps X.K H ds xs) (he : Reps X.K H es ys)
    (ih : ∀ (i : Nat) (d e : Dv) (x y : V) (u v : Value), ds[i]? = some d → es[i]? = some e → xs[i]? = some x → ys[i]? = some y → RelV x u → RelV y v → SeqAt.EqAt A.in1 s u v (eqD d e)) : Eq3 A s (.ref a) (.ref b) (eqD (.tup ds) (.tup es)) := by
  obtain ⟨its, r1, p1, _⟩ := I.tuple ha
  obtain ⟨its2, r2, p2, _⟩ := I.tuple hb
  have l1 := hd.length; have l2 := he.length; have l3 := r1.length; have l4 := r2.length
  have hitem : ∀ j (h1 : j < its.toArray.size) (h2 : j < its2.toArray.size), SeqAt.EqAt A.in1 s its.toArray[j] its2.toArray[j] (match ds[j]?, es[j]? with | some d, some e => eqD d e | _, _ => false) := fun j h1 h2 => by
    rw [List.size_toArray] at h1 h2
    have e1 : ds[j]? = some ds[j] := List.getElem?_eq_getElem (by omega)
    have e2 : es[j]? = some es[j] := List.getElem?_eq_getElem (by omega)
    have e3 : xs[j]? = some xs[j] := List.getElem?_eq_getElem (by omega)
    have e4 : ys[j]? = some ys[j] := List.getElem?_eq_getElem (by omega)
    obtain ⟨u, q1, q2⟩ := r1.get e3
    obtain ⟨v, q3, q4⟩ := r2.get e4
    rw [e1, e2]
    have z1 : its.toArray[j] = u := by rw [List.getElem_toArray]; rw [List.getElem?_eq_getElem h1] at q1; exact Option.some.inj q1
    have z2 : its2.toArray[j] = v := by rw [List.getElem_toArray]; rw [List.getElem?_eq_getElem h2] at q3; exact Option.some.inj q3
    rw [z1, z2]
    exact ih j _ _ _ _ _ _ e1 e2 e3 e4 q2 q4
  have val : ((List.range (min its.toArray.size its2.toArray.size)).all (fun j => match ds[j]?, es[j]? with | some d, some e => eqD d e | _, _ => false) && its.toArray.size == its2.toArray.size) = eqD (.tup ds) (.tup es) := by
    rw [List.size_toArray, List.size_toArray, ← l3, ← l4, ← l1, ← l2, eqD_tup]
    by_cases h : ds.length = es.length
    · rw [h, Nat.min_self, ← h, eqDs_all ds es h]
      simp
    · rw [eqDs_len ds es h]
      have : (ds.length == es.length) = false := by simpa using h
      rw [this, Bool.and_false]
  have R := SeqAt.RcAt.tuples (A := A) p1 p2 hu hitem
  have N := SeqAt.RcNeAt.tuples (A := A) p1 p2 hu hitem
  rw [val] at R N
  refine ⟨?_, R, N⟩
  by_cases hab : a = b
  · subst hab
    have e : ds = es := by
      have := rep_inj I (.tup ds) (.tup es) (.ref a) (by unfold Rep; exact ⟨a, xs, rfl, ha, hd⟩) (by unfold Rep; exact ⟨a, ys, rfl, hb, he⟩)
      cases this; rfl
    subst e
    rw [eqD_refl]
    exact SeqAt.EqAt.same _
  · exact .of_refs hab R
theorem eq3_lst {A : Around} {a b : Addr} {xs ys : List V} {ds es : List Dv} (I : Inv X pins σ H s) (hu : A.units < cLine) (ha : SqL X.K H a xs) (hb : SqL X.K H b ys) (hd : Reps X.K H ds xs) (he : Reps X.K H es ys)
    (ih : ∀ (i : Nat) (d e : Dv) (x y : V) (u v : Value), ds[i]? = some d → es[i]? = some e → xs[i]? = some x → ys[i]? = some y → RelV x u → RelV y v → SeqAt.EqAt A.in1 s u v (eqD d e)) : Eq3 A s (.ref a) (.ref b) (eqD (.lst ds) (.lst es)) := by
  obtain ⟨its, r1, p1, _⟩ := I.list ha
  obtain ⟨its2, r2, p2, _⟩ := I.list hb
  have l1 := hd.length; have l2 := he.length; have l3 := r1.length; have l4 := r2.length
  have hitem : ∀ j (h1 : j < its.toArray.size) (h2 : j < its2.toArray.size), SeqAt.EqAt A.in1 s its.toArray[j] its2.toArray[j] (match ds[j]?, es[j]? with | some d, some e => eqD d e | _, _ => false) := fun j h1 h2 => by
    rw [List.size_toArray] at h1 h2
    have e1 : ds[j]? = some ds[j] := List.getElem?_eq_getElem (by omega)
    have e2 : es[j]? = some es[j] := List.getElem?_eq_getElem (by omega)
    have e3 : xs[j]? = some xs[j] := List.getElem?_eq_getElem (by omega)
    have e4 : ys[j]? = some ys[j] := List.getElem?_eq_getElem (by omega)
    obtain ⟨u, q1, q2⟩ := r1.get e3
    obtain ⟨v, q3, q4⟩ := r2.get e4
    rw [e1, e2]
    have z1 : its.toArray[j] = u := by rw [List.getElem_toArray]; rw [List.getElem?_eq_getElem h1] at q1; exact Option.some.inj q1
    have z2 : its2.toArray[j] = v := by rw [List.getElem_toArray]; rw [List.getElem?_eq_getElem h2] at q3; exact Option.some.inj q3
    rw [z1, z2]
    exact ih j _ _ _ _ _ _ e1 e2 e3 e4 q2 q4
  have RN : SeqAt.RcAt A s (.ref a) (.ref b) (eqD (.lst ds) (.lst es)) ∧ SeqAt.RcNeAt A s (.ref a) (.ref b) (!eqD (.lst ds) (.lst es)) := by
    by_cases h : ds.length = es.length
    · have hsz : its.toArray.size = its2.toArray.size := by rw [List.size_toArray, List.size_toArray]; omega
      have val : (List.range its.toArray.size).all (fun j => match ds[j]?, es[j]? with | some d, some e => eqD d e | _, _ => false) = eqD (.lst ds) (.lst es) := by
        rw [eqD_lst, List.size_toArray, ← l3, ← l1, eqDs_all ds es h]
      have R := SeqAt.RcAt.lists (A := A) p1.isList p2.isList hsz hu hitem
      have N := SeqAt.RcNeAt.lists (A := A) p1.isList p2.isList hsz hu hitem
      rw [val] at R N
      exact ⟨R, N⟩
    · have hsz : (its.toArray.size != its2.toArray.size) = true := by rw [List.size_toArray, List.size_toArray]; simp; omega
      have val : eqD (.lst ds) (.lst es) = false := by rw [eqD_lst]; exact eqDs_len ds es h
      rw [val]
      exact ⟨SeqAt.RcAt.lists_lengths p1.isList p2.isList hsz hu, SeqAt.RcNeAt.lists_lengths p1.isList p2.isList hsz hu⟩
  refine ⟨?_, RN.1, RN.2⟩
  by_cases hab : a = b
  · subst hab
    have e : ds = es := by
      have := rep_inj I (.lst ds) (.lst es) (.ref a) (by unfold Rep; exact ⟨a, xs, rfl, ha, hd⟩) (by unfold Rep; exact ⟨a, ys, rfl, hb, he⟩)
      cases this; rfl
    subst e
    rw [eqD_refl]
    exact SeqAt.EqAt.same _
  · exact .of_refs hab RN.1
theorem eq_all (I : Inv X pins σ H s) : ∀ (n : Nat) (A : Around) (d e : Dv) (x y : V) (u v : Value), depD d ≤ n → A.units + n < cLine → Rep X.K H d x → Rep X.K H e y → RelV x u → RelV y v → Eq3 A s u v (eqD d e) := by
  intro n
  induction n with
  | zero =>
    intro A d e x y u v hd hu hx hy ru rv
    have hu' : A.units < cLine := by omega
    cases d with
    | tup ds => unfold depD at hd; omega
    | lst ds => unfold depD at hd; omega
    | non =>
      unfold Rep at hx; subst hx; cases ru
      cases e <;> unfold Rep at hy
      case non => subst hy; cases rv; exact ⟨SeqAt.EqAt.same _, SeqAt.RcAt.none_none, SeqAt.RcNeAt.none_none⟩
      case bl => subst hy; cases rv; exact ⟨.none_bool _, .none_bool _, .none_bool _⟩
      case int => subst hy; obtain ⟨t, rfl⟩ := rv; exact ⟨.none_int _ _, .none_int _ _, .none_int _ _⟩
      case str => subst hy; obtain ⟨t, rfl⟩ := rv; exact ⟨.none_str _ _, .none_str _ _, .none_str _ _⟩
      case tup => obtain ⟨a, xs, rfl, ha, _⟩ := hy; cases rv; obtain ⟨its, _, p, _⟩ := I.tuple ha; exact ⟨.none_tuple p hu', .none_tuple p hu', .none_tuple p hu'⟩
      case lst => obtain ⟨a, xs, rfl, ha, _⟩ := hy; cases rv; obtain ⟨its, _, p, _⟩ := I.list ha; exact ⟨.none_list p.isList hu', .none_list p.isList hu', .none_list p.isList hu'⟩
    | bl c =>
      unfold Rep at hx; subst hx; cases ru
      cases e <;> unfold Rep at hy
      case non => subst hy; cases rv; exact ⟨.bool_none _, .bool_none _, .bool_none _⟩
      case bl => subst hy; cases rv; unfold eqD; exact ⟨.bool_bool _ _, .bool_bool _ _, .bool_bool _ _⟩
      case int => subst hy; obtain ⟨t, rfl⟩ := rv; unfold eqD; exact ⟨.bool_int _ _ _, .bool_int _ _ _, .bool_int _ _ _⟩
      case str => subst hy; obtain ⟨t, rfl⟩ := rv; exact ⟨.bool_str _ _ _, .bool_str _ _ _, .bool_str _ _ _⟩
      case tup => obtain ⟨a, xs, rfl, ha, _⟩ := hy; cases rv; obtain ⟨its, _, p, _⟩ := I.tuple ha; exact ⟨.bool_tuple _ p hu', .bool_tuple _ p hu', .bool_tuple _ p hu'⟩
      case lst => obtain ⟨a, xs, rfl, ha, _⟩ := hy; cases rv; obtain ⟨its, _, p, _⟩ := I.list ha; exact ⟨.bool_list _ p.isList hu', .bool_list _ p.isList hu', .bool_list _ p.isList hu'⟩
    | int c =>
      unfold Rep at hx; subst hx; obtain ⟨t0, rfl⟩ := ru
      cases e <;> unfold Rep at hy
      case non => subst hy; cases rv; exact ⟨.int_none _ _, .int_none _ _, .int_none _ _⟩
      case bl => subst hy; cases rv; unfold eqD; exact ⟨.int_bool _ _ _, .int_bool _ _ _, .int_bool _ _ _⟩
      case int => subst hy; obtain ⟨t, rfl⟩ := rv; unfold eqD; exact ⟨.int_int _ _ _ _, .int_int _ _ _ _, .int_int _ _ _ _⟩
      case str => subst hy; obtain ⟨t, rfl⟩ := rv; exact ⟨.int_str _ _ _ _, .int_str _ _ _ _, .int_str _ _ _ _⟩
      case tup => obtain ⟨a, xs, rfl, ha, _⟩ := hy; cases rv; obtain ⟨its, _, p, _⟩ := I.tuple ha; exact ⟨.int_tuple _ _ p hu', .int_tuple _ _ p hu', .int_tuple _ _ p hu'⟩
      case lst => obtain ⟨a, xs, rfl, ha, _⟩ := hy; cases rv; obtain ⟨its, _, p, _⟩ := I.list ha; exact ⟨.int_list _ _ p.isList hu', .int_list _ _ p.isList hu', .int_list _ _ p.isList hu'⟩
    | str c =>
      unfold Rep at hx; subst hx; obtain ⟨t0, rfl⟩ := ru
      cases e <;> unfold Rep at hy
      case non => subst hy; cases rv; exact ⟨.str_none _ _, .str_none _ _, .str_none _ _⟩
      case bl => subst hy; cases rv; exact ⟨.str_bool _ _ _, .str_bool _ _ _, .str_bool _ _ _⟩
      case int => subst hy; obtain ⟨t, rfl⟩ := rv; exact ⟨.str_int _ _ _ _, .str_int _ _ _ _, .str_int _ _ _ _⟩
      case str => subst hy; obtain ⟨t, rfl⟩ := rv; unfold eqD; exact ⟨.str_str _ _ _ _, .str_str _ _ _ _, .str_str _ _ _ _⟩
      case tup => obtain ⟨a, xs, rfl, ha, _⟩ := hy; cases rv; obtain ⟨its, _, p, _⟩ := I.tuple ha; exact ⟨.str_tuple _ _ p hu', .str_tuple _ _ p hu', .str_tuple _ _ p hu'⟩
      case lst => obtain ⟨a, xs, rfl, ha, _⟩ := hy; cases rv; obtain ⟨its, _, p, _⟩ := I.list ha; exact ⟨.str_list _ _ p.isList hu', .str_list _ _ p.isList hu', .str_list _ _ p.isList hu'⟩
  | succ n ih =>
    intro A d e x y u v hd hu hx hy ru rv
    have hu' : A.units < cLine := by omega
    have hin : A.in1.units + n < cLine := by show A.units + 1 + n < cLine; omega
    cases d with
    | tup ds =>
      unfold depD at hd
      unfold Rep at hx
      obtain ⟨a, xs, rfl, ha, hr⟩ := hx
      cases ru
      cases e <;> unfold Rep at hy
      case tup es =>
        obtain ⟨b, ys, rfl, hb, hr'⟩ := hy
        cases rv
        refine eq3_tup I hu' ha hb hr hr' fun i d e x y u v e1 e2 e3 e4 ru rv => ?_
        obtain ⟨x', q1, q2⟩ := hr.get e1
        obtain ⟨y', q3, q4⟩ := hr'.get e2
        rw [e3] at q1; cases q1
        rw [e4] at q3; cases q3
        exact (ih A.in1 d e x y u v (by have := depD_le e1; omega) hin q2 q4 ru rv).1
      case non => subst hy; cases rv; obtain ⟨its, _, p, _⟩ := I.tuple ha; exact ⟨.tuple_none p hu', .tuple_none p hu', .tuple_none p hu'⟩
      case bl => subst hy; cases rv; obtain ⟨its, _, p, _⟩ := I.tuple ha; exact ⟨.tuple_bool _ p hu', .tuple_bool _ p hu', .tuple_bool _ p hu'⟩
      case int => subst hy; obtain ⟨t, rfl⟩ := rv; obtain ⟨its, _, p, _⟩ := I.tuple ha; exact ⟨.tuple_int _ _ p hu', .tuple_int _ _ p hu', .tuple_int _ _ p hu'⟩
      case str => subst hy; obtain ⟨t, rfl⟩ := rv; obtain ⟨its, _, p, _⟩ := I.tuple ha; exact ⟨.tuple_str _ _ p hu', .tuple_str _ _ p hu', .tuple_str _ _ p hu'⟩
      case lst => obtain ⟨b, ys, rfl, hb, _⟩ := hy; cases rv; obtain ⟨its, _, p, _⟩ := I.tuple ha; obtain ⟨its2, _, p2, _⟩ := I.list hb; exact ⟨.tuple_list p p2.isList hu', .tuple_list p p2.isList hu', .tuple_list p p2.isList hu'⟩
    | lst ds =>
      unfold depD at hd
      unfold Rep at hx
      obtain ⟨a, xs, rfl, ha, hr⟩ := hx
      cases ru
      cases e <;> unfold Rep at hy
      case lst es =>
        obtain ⟨b, ys, rfl, hb, hr'⟩ := hy
        cases rv
        refine eq3_lst I hu' ha hb hr hr' fun i d e x y u v e1 e2 e3 e4 ru rv => ?_
        obtain ⟨x', q1, q2⟩ := hr.get e1
        obtain ⟨y', q3, q4⟩ := hr'.get e2
        rw [e3] at q1; cases q1
        rw [e4] at q3; cases q3
        exact (ih A.in1 d e x y u v (by have := depD_le e1; omega) hin q2 q4 ru rv).1
      case non => subst hy; cases rv; obtain ⟨its, _, p, _⟩ := I.list ha; exact ⟨.list_none p.isList hu', .list_none p.isList hu', .list_none p.isList hu'⟩
      case bl => subst hy; cases rv; obtain ⟨its, _, p, _⟩ := I.list ha; exact ⟨.list_bool _ p.isList hu', .list_bool _ p.isList hu', .list_bool _ p.isList hu'⟩
      case int => subst hy; obtain ⟨t, rfl⟩ := rv; obtain ⟨its, _, p, _⟩ := I.list ha; exact ⟨.list_int _ _ p.isList hu', .list_int _ _ p.isList hu', .list_int _ _ p.isList hu'⟩
      case str => subst hy; obtain ⟨t, rfl⟩ := rv; obtain ⟨its, _, p, _⟩ := I.list ha; exact ⟨.list_str _ _ p.isList hu', .list_str _ _ p.isList hu', .list_str _ _ p.isList hu'⟩
      case tup => obtain ⟨b, ys, rfl, hb, _⟩ := hy; cases rv; obtain ⟨its, _, p, _⟩ := I.list ha; obtain ⟨its2, _, p2, _⟩ := I.tuple hb; exact ⟨.list_tuple p.isList p2 hu', .list_tuple p.isList p2 hu', .list_tuple p.isList p2 hu'⟩
    | non => exact ih A .non e x y u v (by unfold depD; omega) (by omega) hx hy ru rv
    | bl c => exact ih A (.bl c) e x y u v (by unfold depD; omega) (by omega) hx hy ru rv
    | int c => exact ih A (.int c) e x y u v (by unfold depD; omega) (by omega) hx hy ru rv
    | str c => exact ih A (.str c) e x y u v (by unfold depD; omega) (by omega) hx hy ru rv
end
section
variable {X : Cx}
def mEq (neg : Bool) (K : PySem.W.Frag) : R2 := fun x y H Q => match x, y with
  | .non, .non => Q (.bl (neg ^^ true)) H
  | .bl a, .bl b => Q (.bl (neg ^^ (a == b))) H
  | .int a, .int b => Q (.bl (neg ^^ (a == b))) H
  | .str a, .str b => Q (.bl (neg ^^ (a == b))) H
  | x, y => ∃ d e, Rep K H d x ∧ Rep K H e y ∧ depD d ≤ 60 ∧ Q (.bl (neg ^^ eqD d e)) H
theorem om_eqAll (hu : X.A.units + 60 < cLine) : OpR X (compareOp .Eq) (fun x y H Q => ∃ d e, Rep X.K H d x ∧ Rep X.K H e y ∧ depD d ≤ 60 ∧ Q (.bl (eqD d e)) H) := by
  intro pins s σ H x y v u Q I rx ry h
  obtain ⟨d, e, h1, h2, h3, q⟩ := h
  exact (eq_all I 60 X.A d e x y v u h3 hu h1 h2 rx ry).2.1 X.prog X.w _ _ ⟨.bl _, H, I, rfl, q⟩
theorem om_neAll (hu : X.A.units + 60 < cLine) : OpR X (compareOp .NotEq) (fun x y H Q => ∃ d e, Rep X.K H d x ∧ Rep X.K H e y ∧ depD d ≤ 60 ∧ Q (.bl (!eqD d e)) H) := by
  intro pins s σ H x y v u Q I rx ry h
  obtain ⟨d, e, h1, h2, h3, q⟩ := h
  exact (eq_all I 60 X.A d e x y v u h3 hu h1 h2 rx ry).2.2 X.prog X.w _ _ ⟨.bl _, H, I, rfl, q⟩
theorem mEq_imp {neg : Bool} {K : PySem.W.Frag} {x y : V} {H : Hp} {Q : VK} (h : mEq neg K x y H Q) : ∃ d e, Rep K H d x ∧ Rep K H e y ∧ depD d ≤ 60 ∧ Q (.bl (neg ^^ eqD d e)) H := by
  unfold mEq at h
  split at h
  · exact ⟨.non, .non, by unfold Rep; rfl, by unfold Rep; rfl, by unfold depD; omega, by unfold eqD; exact h⟩
  · rename_i a b; exact ⟨.bl a, .bl b, by unfold Rep; rfl, by unfold Rep; rfl, by unfold depD; omega, by unfold eqD; exact h⟩
  · rename_i a b; exact ⟨.int a, .int b, by unfold Rep; rfl, by unfold Rep; rfl, by unfold depD; omega, by unfold eqD; exact h⟩
  · rename_i a b; exact ⟨.str a, .str b, by unfold Rep; rfl, by unfold Rep; rfl, by unfold depD; omega, by unfold eqD; exact h⟩
  · exact h
theorem om_eq (hu : X.A.units + 60 < cLine) : OpR X (compareOp .Eq) (mEq false X.K) := (om_eqAll hu).imp fun x y H Q h => by
  obtain ⟨d, e, h1, h2, h3, q⟩ := mEq_imp h
  exact ⟨d, e, h1, h2, h3, by rw [Bool.false_xor] at q; exact q⟩
theorem om_ne (hu : X.A.units + 60 < cLine) : OpR X (compareOp .NotEq) (mEq true X.K) := (om_neAll hu).imp fun x y H Q h => by
  obtain ⟨d, e, h1, h2, h3, q⟩ := mEq_imp h
  exact ⟨d, e, h1, h2, h3, by rw [Bool.true_xor] at q; exact q⟩
end
end L2
set_option Elab.async false
set_option linter.all false
set_option maxRecDepth 100000
set_option maxHeartbeats 4000000
namespace L2
open PySem PySem.Spec PyProof.Rows
section
variable {X : Cx} {a b c e : Expr} {es : List Expr} {ta tb tc te : TE} {tA tB' : TT} {t : TA} {pos p : Pos} {x : Str}
def isB (v : V) (Q : Bool → Prop) : Prop := match v with
  | .bl c => Q c
  | _ => False
theorem isB_of {v : V} {Q : Bool → Prop} (h : isB v Q) : ∃ c, v = .bl c ∧ Q c := by
  cases v <;> first | exact False.elim h | exact ⟨_, rfl, h⟩
def EMono (t : TE) : Prop := ∀ σ H (Q Q' : VK), (∀ v H, Q v H → Q' v H) → t σ H Q → t σ H Q'
def uB (t : TE) : TT := fun σ H Q => t σ H fun x H1 => isB x fun c => Q c H1
theorem tu_cmp {op : CmpOp} {r : R2} (ho : OpR X (compareOp op) r) (ha : PE X a ta) (hb : PE X b tb) (hm : behindInMarks op b = false := by first | exact nobehind _ (by decide) (by decide) | rfl) : PT X (.Compare a [op] [b] pos) (uB (tOp r ta tb)) := by
  intro pins s σ H Q I h
  refine wpAny_isTrue_Compare1 (thn (ha pins s σ H _ I h) fun v s1 ⟨x, H1, I1, r1, q1⟩ => thn (hb pins s1 σ H1 _ I1 q1) fun u s2 ⟨y, H2, I2, r2, q2⟩ =>
    thn (ho pins s2 σ H2 x y v u _ I2 r1 r2 q2) fun c s3 ⟨z, H3, I3, r3, q⟩ => ?_) hm
  obtain ⟨k, e, q3⟩ := isB_of q
  subst e
  cases r3
  exact wpAny_truthy_bool ⟨H3, I3, q3⟩
theorem pe_cmpM {op : CmpOp} {r : R2} (ho : OpR X (compareOp op) r) (ha : PE X a ta) (hb : PE X b tb) (hm : behindInMarks op b = false := by first | exact nobehind _ (by decide) (by decide) | rfl) : PE X (.Compare a [op] [b] pos) (tOp r ta tb) := pe_cmpR ho ha hb hm
theorem tu_val (h : PE X e te) (he : ∀ whole, isTrue e X.env whole = (do let v ← whole; standAt e.pos; holding [v] (truthy v)) := by intro _; rfl) : PT X e (uB te) := by
  intro pins s σ H Q I hq
  refine isTrue_plain (thn (h pins s σ H _ I hq) fun v s1 ⟨x, H1, I1, r1, q1⟩ => ?_) (he _)
  obtain ⟨k, e, q⟩ := isB_of q1
  subst e
  cases r1
  exact wpAny_truthy_bool ⟨H1, I1, q⟩
def vChain (r r' : R2) (ta tb tc : TE) : TE := fun σ H Q => ta σ H fun x H1 => tb σ H1 fun y H2 => r x y H2 fun z H3 => isB z fun k =>
  (if k = true then tc σ H3 fun w' H4 => r' y w' H4 Q else Q (.bl false) H3)
theorem pe_chainM {op op' : CmpOp} {r r' : R2} (ho : OpR X (compareOp op) r) (ho' : OpR X (compareOp op') r') (ha : PE X a ta) (hb : PE X b tb) (hc : PE X c tc)
    (hm : lastMarks [op, op'] [b, c] = false := by with_unfolding_all rfl) : PE X (.Compare a [op, op'] [b, c] pos) (vChain r r' ta tb tc) := by
  intro pins s σ H Q I h
  refine Compare_chain (thn (ha pins s σ H _ I h) fun v s1 ⟨x, H1, I1, r1, q1⟩ => chain_link (thn (hb pins s1 σ H1 _ I1 q1) fun u s2 ⟨y, H2, I2, r2, q2⟩ =>
    thn (ho pins s2 σ H2 x y v u _ I2 r1 r2 q2) fun d s3 ⟨z, H3, I3, r3, q⟩ => ?_)) hm
  obtain ⟨k, e, q3⟩ := isB_of q
  subst e
  cases r3
  refine wpAny_truthy_bool ?_
  cases k with
  | false => exact ite_ff ⟨.bl false, H3, I3, rfl, q3⟩
  | true => exact ite_tt (chain_last (thn (hc pins s3 σ H3 _ I3 q3) fun w' s4 ⟨z', H4, I4, r4, q4⟩ => ho' pins s4 σ H4 y z' u w' Q I4 r2 r4 q4))
def vAnd (ta tb : TE) : TE := fun σ H Q => ta σ H fun x H1 => isB x fun c => if c = true then tb σ H1 Q else Q (.bl false) H1
def vNot (ta : TE) : TE := fun σ H Q => ta σ H fun x H1 => isB x fun c => Q (.bl (!c)) H1
theorem pe_andM (ha : PE X a ta) (hb : PE X (.BoolOp .And (b :: es) pos) tb) : PE X (.BoolOp .And (a :: b :: es) pos) (vAnd ta tb) := by
  have ha' : PE X a (fun σ H Q => ta σ H fun x H1 => isB x fun c => Q (.bl c) H1) := fun pins s σ H Q I h => thn (ha pins s σ H _ I h) fun v s1 ⟨x, H1, I1, r1, q1⟩ => by
    obtain ⟨c, e, q⟩ := isB_of q1
    subst e
    exact ⟨.bl c, H1, I1, r1, q⟩
  have h := pe_and (pos := pos) ha' hb
  exact h.imp fun σ H Q q => by
    show ta σ H fun x H1 => isB x fun c => ∃ c', V.bl c = .bl c' ∧ if c' = true then tb σ H1 Q else Q (.bl false) H1
    have e : (fun (x : V) (H1 : Hp) => isB x fun c => ∃ c', V.bl c = .bl c' ∧ if c' = true then tb σ H1 Q else Q (.bl false) H1) = fun x H1 => isB x fun c => if c = true then tb σ H1 Q else Q (.bl false) H1 := by
      funext x H1
      cases x <;> first | rfl | (apply propext; constructor; (rintro ⟨c', e, h⟩; cases e; exact h); (intro h; exact ⟨_, rfl, h⟩))
    rw [e]
    exact q
theorem pe_notM (ha : PE X a ta) : PE X (.UnaryOp .Not a pos) (vNot ta) := by
  have ha' : PE X a (fun σ H Q => ta σ H fun x H1 => isB x fun c => Q (.bl c) H1) := fun pins s σ H Q I h => thn (ha pins s σ H _ I h) fun v s1 ⟨x, H1, I1, r1, q1⟩ => by
    obtain ⟨c, e, q⟩ := isB_of q1
    subst e
    exact ⟨.bl c, H1, I1, r1, q⟩
  have h := pe_not (pos := pos) ha'
  exact h.imp fun σ H Q q => by
    show ta σ H fun x H1 => isB x fun c => ∃ c', V.bl c = .bl c' ∧ Q (.bl (!c')) H1
    have e : (fun (x : V) (H1 : Hp) => isB x fun c => ∃ c', V.bl c = .bl c' ∧ Q (.bl (!c')) H1) = fun x H1 => isB x fun c => Q (.bl (!c)) H1 := by
      funext x H1
      cases x <;> first | rfl | (apply propext; constructor; (rintro ⟨c', e, h⟩; cases e; exact h); (intro h; exact ⟨_, rfl, h⟩))
    rw [e]
    exact q
def SqA (K : PySem.W.Frag) (H : Hp) (p : Addr) (xs : List V) : Prop := SqL K H p xs ∨ SqT K H p xs
def mIx (K : PySem.W.Frag) : R2 := fun x y H Q => match x, y with
  | .ref p, .int i => ∃ xs v, SqA K H p xs ∧ atI xs i = some v ∧ Q v H
  | .str z, .int i => ∃ c, z.length ≤ sizeLine ∧ atI z.cps.toList i = some c ∧ Q (.str ⟨#[c]⟩) H
  | _, _ => False
theorem IxR.imp {r r' : R2} (h : IxR X r) (g : ∀ x y H Q, r' x y H Q → r x y H Q) : IxR X r' := fun a b pins s σ H x y v u Q I rx ry q z => h a b pins s σ H x y v u Q I rx ry (g _ _ _ _ q) z
theorem xm_ix : IxR X (mIx X.K) := ix_seq.imp fun x y H Q q => by
  cases x <;> cases y <;> first
    | exact False.elim q
    | (obtain ⟨xs, v, h | h, e, q⟩ := q
       · exact .inl ⟨_, xs, _, v, rfl, rfl, h, e, q⟩
       · exact .inr (.inl ⟨_, xs, _, v, rfl, rfl, h, e, q⟩))
    | (obtain ⟨c, hz, e, q⟩ := q
       exact .inr (.inr ⟨_, _, c, rfl, rfl, hz, e, q⟩))
theorem pe_ixM (ha : PE X a ta) (hb : PE X b tb) (hs : PlainIx b := by intro _ _; rfl) : PE X (.Subscript a b pos) (tOp (mIx X.K) ta tb) := pe_ix xm_ix ha hb hs
def mLen (K : PySem.W.Frag) : List V → Hp → VK → Prop := fun xs H Q => match xs with
  | [x] => ∃ n, LenV K x H n ∧ Q (.int n) H
  | _ => False
theorem cm_len : CallR X (.builtin "len") (mLen X.K) := call_len.imp fun xs H Q q => by
  match xs, q with
  | [x], ⟨n, h, q⟩ => exact ⟨x, n, rfl, h, q⟩
def mMax : List V → Hp → VK → Prop := fun xs H Q => match xs with
  | [.int i, .int j] => Q (.int (max i j)) H
  | _ => False
theorem cm_max (hc : X.calm = true) : CallR X (.builtin "max") mMax := (call_max2 hc).imp fun xs H Q q => by
  match xs, q with
  | [.int i, .int j], q =>
    refine ⟨i, j, rfl, ?_⟩
    have e : (if j > i then j else i) = max i j := by split <;> omega
    rw [e]
    exact q
def mTuple (K : PySem.W.Frag) : List V → Hp → VK → Prop := fun xs H Q => match xs with
  | [.ref p] => ∃ ys, (SqL K H p ys ∧ ∀ l, H l = none → Q (.ref l) (upd H l (.tup ys))) ∨ (SqT K H p ys ∧ Q (.ref p) H)
  | _ => False
theorem cm_tuple : CallR X (.type "tuple") (mTuple X.K) := call_tuple_of.imp fun xs H Q q => by
  match xs, q with
  | [.ref p], ⟨ys, q⟩ => exact ⟨p, ys, rfl, q⟩
def mList (K : PySem.W.Frag) : List V → Hp → VK → Prop := fun xs H Q => match xs with
  | [.ref p] => ∃ ys, SqA K H p ys ∧ ∀ l, H l = none → Q (.ref l) (upd H l (.lst ys))
  | _ => False
theorem cm_list : CallR X (.type "list") (mList X.K) := call_list_of.imp fun xs H Q q => by
  match xs, q with
  | [.ref p], ⟨ys, h, q⟩ => exact ⟨p, ys, rfl, h, q⟩
def isiT (K : PySem.W.Frag) (T : String) (x : V) (H : Hp) (b : Bool) : Prop := match x with
  | .non => b = (T == "NoneType")
  | .bl _ => b = (T == "bool" || T == "int")
  | .int _ => b = (T == "int")
  | .str _ => b = (T == "str")
  | .ref a => (∃ xs, (H a = some (.lst xs) ∨ ∃ o, H a = some (.frz o (.lst xs))) ∧ b = (T == "list")) ∨ (∃ xs, H a = some (.tup xs) ∧ b = (T == "tuple")) ∨ ((∃ kvs, H a = some (.dK kvs)) ∧ b = (T == "dict")) ∨ ((∃ kvs, H a = some (.dT kvs)) ∧ b = (T == "dict"))
  | _ => False
def kinds : List String := ["int", "bool", "str", "tuple", "list", "dict"]
theorem kit_all (K : PySem.W.Frag) : ∀ T ∈ kinds, PySem.W.kitOne K (.type "NoneType") (.type T) = some (T == "NoneType") ∧ PySem.W.kitOne K (.type "bool") (.type T) = some (T == "bool" || T == "int") ∧
    PySem.W.kitOne K (.type "int") (.type T) = some (T == "int") ∧ PySem.W.kitOne K (.type "str") (.type T) = some (T == "str") ∧ PySem.W.kitOne K (.type "list") (.type T) = some (T == "list") ∧
    PySem.W.kitOne K (.type "tuple") (.type T) = some (T == "tuple") ∧ PySem.W.kitOne K (.type "dict") (.type T) = some (T == "dict") := by
  intro T h
  unfold kinds at h
  rcases List.mem_cons.mp h with rfl | h
  · exact ⟨rfl, rfl, rfl, rfl, rfl, rfl, rfl⟩
  rcases List.mem_cons.mp h with rfl | h
  · exact ⟨rfl, rfl, rfl, rfl, rfl, rfl, rfl⟩
  rcases List.mem_cons.mp h with rfl | h
  · exact ⟨rfl, rfl, rfl, rfl, rfl, rfl, rfl⟩
  rcases List.mem_cons.mp h with rfl | h
  · exact ⟨rfl, rfl, rfl, rfl, rfl, rfl, rfl⟩
  rcases List.mem_cons.mp h with rfl | h
  · exact ⟨rfl, rfl, rfl, rfl, rfl, rfl, rfl⟩
  rcases List.mem_cons.mp h with rfl | h
  · exact ⟨rfl, rfl, rfl, rfl, rfl, rfl, rfl⟩
  · exact absurd h (by simp)
theorem isiT_ty {K : PySem.W.Frag} {T : String} {v : V} {H : Hp} {k : Bool} (hT : T ∈ kinds) (h : isiT K T v H k) : ∃ ty, TyOf K H v ty ∧ PySem.W.kitOne K ty (.type T) = some k := by
  obtain ⟨k1, k2, k3, k4, k5, k6, k7⟩ := kit_all K T hT
  cases v with
  | non => cases (show k = _ from h); exact ⟨_, .non, k1⟩
  | bl _ => cases (show k = _ from h); exact ⟨_, .bl _, k2⟩
  | int _ => cases (show k = _ from h); exact ⟨_, .int _, k3⟩
  | str _ => cases (show k = _ from h); exact ⟨_, .str _, k4⟩
  | ref q =>
    rcases h with ⟨xs, h | ⟨o, h⟩, e⟩ | ⟨xs, h, e⟩ | ⟨⟨kvs, h⟩, e⟩ | ⟨⟨kvs, h⟩, e⟩
    · subst e; exact ⟨_, .lst h, k5⟩
    · subst e; exact ⟨_, .frz h, k5⟩
    · subst e; exact ⟨_, .tup h, k6⟩
    · subst e; exact ⟨_, .dK h, k7⟩
    · subst e; exact ⟨_, .dT h, k7⟩
  | _ => exact False.elim h
def mIsi (K : PySem.W.Frag) : List V → Hp → VK → Prop := fun xs H Q => match xs with
  | [x, .ty T] => T ∈ kinds ∧ ∃ k, isiT K T x H k ∧ Q (.bl k) H
  | _ => False
theorem cm_isi : CallR X (.builtin "isinstance") (mIsi X.K) := by
  intro pins s σ H xs us Q I r q
  match xs, q with
  | [x, .ty T], ⟨hT, k, h, q⟩ =>
    obtain ⟨u, w', rfl, ru, rw'⟩ := vals2 r
    cases rw'
    obtain ⟨ty, h1, h2⟩ := isiT_ty hT h
    exact isinst_ok I ru h1 h2 fun tk => ⟨.bl k, H, I.tok _, rfl, q⟩
end
end L2
set_option Elab.async false
set_option linter.all false
set_option maxRecDepth 100000
set_option maxHeartbeats 4000000
namespace L2
open PySem PySem.Spec PyProof.Rows
def compOkB (scope sc : Scope) : Bool :=
  decide (scope.kind = .function) && decide (scope.names.map (·.1)).Nodup && scope.names.all fun y => !(y.2 == .free) || (sc.names.lookup y.1 == some .cell || sc.names.lookup y.1 == some .free)
theorem CompScope.of {scope sc : Scope} (h : compOkB scope sc = true) : CompScope scope sc := by
  unfold compOkB at h
  rw [Bool.and_eq_true, Bool.and_eq_true] at h
  obtain ⟨⟨h1, h2⟩, h3⟩ := h
  refine ⟨of_decide_eq_true h1, of_decide_eq_true h2, fun y hy hf => ?_⟩
  have := List.all_eq_true.mp h3 y hy
  rw [hf] at this
  rcases (Bool.or_eq_true _ _).mp this with z | z
  · exact absurd z (by decide)
  · rcases (Bool.or_eq_true _ _).mp z with z | z
    · exact .inl (by simpa using z)
    · exact .inr (by simpa using z)
section
variable {X : Cx} {tg iter elt : Expr} {ifs : List Expr} {scope : Scope} {pos : Pos} {N' : List Str} {own : Nat} {ix : List Nat} {g : TG} {tc : TT} {te : TE} {wi : TI}
theorem frB {l : List Str} (h : (l.all fun x => scope.names.lookup x == some .free) = true) : ∀ x ∈ l, scope.names.lookup x = some .free := fun x hx => by
  have := List.all_eq_true.mp h x hx
  simpa using this
theorem pe_compB (hc : X.calm = true) (hi : PI X tg iter wi) (S : compOkB scope X.env.scope = true)
    (hlen : N'.length = own + ix.length) (hN : (N'.drop own).map some = ix.map (X.N[·]?)) (hfr : ((N'.drop own).all fun x => scope.names.lookup x == some .free) = true)
    (hg : ∀ c, PG (X.comp scope N' c) tg g) (hgo : GOwn own g) (ht : ∀ c, PTs (X.comp scope N' c) ifs tc) (he : ∀ c, PE (X.comp scope N' c) elt te)
    (hs : ∀ x, foldedSetIterable iter X.env x = pure x := by intro _; rfl) : PE X (.ListComp elt [⟨tg, iter, ifs, 0⟩] scope pos) (tComp wi own ix g tc te) :=
  pe_comp hc hi (.of S) hlen hN (frB hfr) hg hgo ht he hs
theorem ps_compB {i : Nat} {y : Str} {py spos : Pos} (hc : X.calm = true) (hnd : X.N.Nodup) (hiy : X.N[i]? = some y) (hy : X.env.scope.names.lookup y = some .local) (hi : PI X tg iter wi) (S : compOkB scope X.env.scope = true)
    (hlen : N'.length = own + ix.length) (hN : (N'.drop own).map some = ix.map (X.N[·]?)) (hfr : ((N'.drop own).all fun x => scope.names.lookup x == some .free) = true)
    (hg : ∀ c, PG (X.comp scope N' c) tg g) (hgo : GOwn own g) (ht : ∀ c, PTs (X.comp scope N' c) ifs tc) (he : ∀ c, PE (X.comp scope N' c) elt te)
    (hsw : swapsWith (.ListComp elt [⟨tg, iter, ifs, 0⟩] scope pos) (some (.Name y py)) spos.line X.env = pure true)
    (hs : ∀ x, foldedSetIterable iter X.env x = pure x := by intro _; rfl) : PS X (.Assign [.Name y py] (.ListComp elt [⟨tg, iter, ifs, 0⟩] scope pos) spos) (tAsg (tComp wi own ix g tc te) (gName i)) :=
  ps_comp hc hnd hiy hy hi (.of S) hlen hN (frB hfr) hg hgo ht he hsw hs
def iSeq (K : PySem.W.Frag) (tl : TE) : TI := fun σ H R => tl σ H fun x H1 => match x with
  | .ref a => ((∃ xs, SqL K H1 a xs) ∧ R (Itl K a) H1) ∨ ((∃ xs, SqT K H1 a xs) ∧ R (Itt K a) H1)
  | _ => False
theorem pi_seq {l : Expr} {tl : TE} (hl : PE X l tl) : PI X tg l (iSeq X.K tl) := by
  intro pins s σ H R I h
  refine thn (hl pins s σ H _ I h) fun v s1 ⟨x, H1, I1, r1, q1⟩ => ?_
  cases x with
  | ref a =>
    cases r1
    rcases q1 with ⟨⟨xs, hq⟩, q⟩ | ⟨⟨xs, hq⟩, q⟩
    · obtain ⟨its, rv, p, hz⟩ := I1.list hq
      refine wpAny_pyIter_list p.isList ?_
      refine ⟨s1.heap.objs.size, [s1.heap.objs.size], _, _, H1, rfl, I1.kept (t' := s1.toks) fun b o e => Heap.get?_push_of_some _ e, turn_list a _, ⟨_, Heap.get?_push_size _ rfl, rfl, rfl⟩, fun b hb => ?_, q⟩
      have e : b = s1.heap.objs.size := by simpa using hb
      subst e
      exact I1.fpOk (Nat.le_refl _) (I1.hok.fresh (Nat.le_refl _))
    · obtain ⟨its, rv, p, hz⟩ := I1.tuple hq
      refine wpAny_pyIter_tuple (show s1.heap.IsTuple a its.toArray from p) ?_
      refine ⟨s1.heap.objs.size, [s1.heap.objs.size], _, _, H1, rfl, I1.kept (t' := s1.toks) fun b o e => Heap.get?_push_of_some _ e, turn_tuple a _, ⟨_, Heap.get?_push_size _ rfl, rfl, rfl⟩, fun b hb => ?_, q⟩
      have e : b = s1.heap.objs.size := by simpa using hb
      subst e
      exact I1.fpOk (Nat.le_refl _) (I1.hok.fresh (Nat.le_refl _))
  | _ => exact False.elim q1
def mSet : TSet := fun o i v H Q => match o, i with
  | .ref p, .int k => ∃ xs j, H p = some (.lst xs) ∧ ixN xs.length k = some j ∧ Q (upd H p (.lst (xs.set j v)))
  | _, _ => False
theorem set_any : PSet X mSet := by
  intro pins s σ H o i v ov iv u Q I ro ri rv h
  cases o <;> cases i <;> first
    | exact False.elim h
    | (obtain ⟨xs, j, h1, h2, q⟩ := h
       exact set_list pins s σ H _ _ v ov iv u Q I ro ri rv ⟨_, xs, _, j, rfl, rfl, h1, h2, q⟩)
theorem comp_tup {K : PySem.W.Frag} {a : Addr} {xs : List V} {σc : St} {Q : VK} {H : Hp} (Pv : Nat → List V → Hp → Prop) (h0 : Pv 0 [] H) (hl : ∀ i ys H, i ≤ xs.length → Pv i ys H → SqT K H a xs) (hz : ∀ i ys H, i < xs.length → Pv i ys H → ys.length < sizeLine)
    (hs : ∀ i x ys H, xs[i]? = some x → Pv i ys H → g x σc H fun σ2 H2 => tc σ2 H2 fun b H3 => if b = true then te σ2 H3 fun y H4 => Pv (i + 1) (ys ++ [y]) H4 else Pv (i + 1) ys H3)
    (hd : ∀ ys H, Pv xs.length ys H → ∀ p, H p = none → Q (.ref p) (upd H p (.lst ys))) : CompTurns (Itt K a) g tc te σc Q H := by
  refine ⟨fun i m ys H => m = xs.length - i ∧ i ≤ xs.length ∧ Pv i ys H, ⟨xs.length, by simp, Nat.zero_le _, h0⟩, ?_⟩
  rintro i m ys H ⟨rfl, hi, p⟩
  have q := hl i ys H hi p
  by_cases hlt : i < xs.length
  · refine .inr ⟨⟨xs, xs[i], q, by simp [hlt]⟩, hz i ys H hlt p, Pv (i + 1), fun ys' H' p' => ⟨xs.length - (i + 1), by omega, rfl, hlt, p'⟩, fun x H' y => ?_⟩
    obtain ⟨e, y⟩ := y
    subst e
    exact hs i x ys _ (y xs q) p
  · have e : i = xs.length := by omega
    subst e
    exact .inl ⟨⟨xs, q, Nat.le_refl _⟩, hd ys H p⟩
theorem comp_range {lo : Int} {n : Nat} {σc : St} {Q : VK} {H : Hp} (Pv : Nat → List V → Hp → Prop) (h0 : Pv 0 [] H) (hz : ∀ i ys H, i < n → Pv i ys H → ys.length < sizeLine)
    (hs : ∀ i ys H, i < n → Pv i ys H → g (.int (lo + i)) σc H fun σ2 H2 => tc σ2 H2 fun b H3 => if b = true then te σ2 H3 fun y H4 => Pv (i + 1) (ys ++ [y]) H4 else Pv (i + 1) ys H3)
    (hd : ∀ ys H, Pv n ys H → ∀ p, H p = none → Q (.ref p) (upd H p (.lst ys))) : CompTurns (Itr lo n) g tc te σc Q H := by
  refine ⟨fun i m ys H => m = n - i ∧ i ≤ n ∧ Pv i ys H, ⟨n, by simp, Nat.zero_le _, h0⟩, ?_⟩
  rintro i m ys H ⟨rfl, hi, p⟩
  by_cases hlt : i < n
  · refine .inr ⟨hlt, hz i ys H hlt p, Pv (i + 1), fun ys' H' p' => ⟨n - (i + 1), by omega, rfl, hlt, p'⟩, fun x H' y => ?_⟩
    obtain ⟨e, y⟩ := y
    subst e y
    exact hs i ys _ hlt p
  · have e : i = n := by omega
    subst e
    exact .inl ⟨Nat.le_refl _, hd ys H p⟩
end
theorem hu60 {A : Around} {k : Nat} (hr : Room k A) : A.units + 60 < cLine := by have := hr.un; omega
end L2
set_option Elab.async false
set_option linter.all false
set_option maxRecDepth 100000
set_option maxHeartbeats 4000000
namespace L2
open PySem PySem.Spec PyProof.Rows
def Frm (t : Addr) (H H' : Hp) : Prop := ∀ b o, b ≠ t → H b = some o → H' b = some o
theorem Frm.trans {t : Addr} {H H1 H2 : Hp} (a : Frm t H H1) (b : Frm t H1 H2) : Frm t H H2 := fun c o n h => b c o n (a c o n h)
theorem Frm.upd {t p : Addr} {H : Hp} {o : HO} (h : H p = none) : Frm t H (upd H p o) := fun b u _ e => by rw [upd_ne (ne_of_none e h)]; exact e
theorem Same.upd {p : Addr} {H : Hp} {o : HO} (h : H p = none) : Same H (L2.upd H p o) := fun b u e => by rw [upd_ne (ne_of_none e h)]; exact e
theorem Same.frm {t : Addr} {H H' : Hp} (h : Same H H') : Frm t H H' := fun b o _ e => h b o e
theorem sqL_stay {K : PySem.W.Frag} {H H' : Hp} {a : Addr} {xs : List V} (h : SqL K H a xs) (k : ∀ o, H a = some o → H' a = some o) : SqL K H' a xs := by
  rcases h with (h | ⟨o, h⟩) | h
  · exact .inl (.inl (k _ h))
  · exact .inl (.inr ⟨o, k _ h⟩)
  · exact .inr h
theorem sqT_stay {K : PySem.W.Frag} {H H' : Hp} {a : Addr} {xs : List V} (h : SqT K H a xs) (k : ∀ o, H a = some o → H' a = some o) : SqT K H' a xs := by
  rcases h with (h | ⟨o, h⟩) | h
  · exact .inl (.inl (k _ h))
  · exact .inl (.inr ⟨o, k _ h⟩)
  · exact .inr h
def ScrAt (K : PySem.W.Frag) (H : Hp) (t a : Addr) (ns : List Int) : Prop :=
  (Rd H a (.lst (ns.map V.int)) ∧ a ≠ t) ∨ ∃ (o : Obj) (its : Array Value) (n : Nat), K.lookup a = some o ∧ o.cls = .type "list" ∧ o.dict = none ∧ o.data = .seq its n ∧ its.size ≤ sizeLine ∧ Vals (ns.map V.int) its.toList
theorem ScrAt.sq {K : PySem.W.Frag} {H : Hp} {t a : Addr} {ns : List Int} (h : ScrAt K H t a ns) : SqL K H a (ns.map V.int) := by
  rcases h with ⟨h, _⟩ | h
  · exact .inl h
  · exact .inr h
theorem ScrAt.stay {K : PySem.W.Frag} {H H' : Hp} {t a : Addr} {ns : List Int} (h : ScrAt K H t a ns) (k : ∀ o, a ≠ t → H a = some o → H' a = some o) : ScrAt K H' t a ns := by
  rcases h with ⟨h | ⟨o, h⟩, n⟩ | h
  · exact .inl ⟨.inl (k _ n h), n⟩
  · exact .inl ⟨.inr ⟨o, k _ n h⟩, n⟩
  · exact .inr h
theorem ScrAt.of {K : PySem.W.Frag} {H : Hp} {t a : Addr} {ns : List Int} (h : SqL K H a (ns.map V.int)) (ht : H t = none) : ScrAt K H t a ns := by
  rcases h with h | h
  · refine .inl ⟨h, fun e => ?_⟩
    subst e
    rcases h with h | ⟨o, h⟩ <;> rw [ht] at h <;> cases h
  · exact .inr h
structure Tape (K : PySem.W.Frag) (H : Hp) (t a : Addr) (ns : List Int) : Prop where
  at_ : ∃ i r c : Int, 0 ≤ i ∧ 0 ≤ r ∧ H t = some (.lst [.ref a, .int i, .int r, .int c])
  scr : ScrAt K H t a ns
theorem Tape.same {K : PySem.W.Frag} {H H' : Hp} {t a : Addr} {ns : List Int} (T : Tape K H t a ns) (h : Same H H') : Tape K H' t a ns := by
  obtain ⟨i, r, c, h1, h2, h3⟩ := T.at_
  exact ⟨⟨i, r, c, h1, h2, h _ _ h3⟩, T.scr.stay fun o _ e => h a o e⟩
theorem Tape.upd {K : PySem.W.Frag} {H : Hp} {t a p : Addr} {o : HO} {ns : List Int} (T : Tape K H t a ns) (h : H p = none) : Tape K (L2.upd H p o) t a ns := T.same (Same.upd h)
theorem Tape.neT {K : PySem.W.Frag} {H : Hp} {t a p : Addr} {ns : List Int} (T : Tape K H t a ns) (hp : H p = none) : p ≠ t := fun e => by
  obtain ⟨i, r, c, _, _, h3⟩ := T.at_
  rw [e, h3] at hp; cases hp
def spNext (K : PySem.W.Frag) : Sp := fun vs H Q _ => match vs with
  | [.ref t, .int m] => ∃ a ns, Tape K H t a ns ∧ okDiv m ∧ ∀ d H', 0 ≤ d → d < m → Tape K H' t a ns → (∀ b, b ≠ t → H' b = H b) → Q (.int d) H'
  | _ => False
def spTape (K : PySem.W.Frag) : Sp := fun vs H Q _ => match vs with
  | [.ref a] => ∀ p, H p = none → Q (.ref p) (upd H p (.lst [.ref a, .int 0, .int 0, .int 0]))
  | _ => False
def spLaw (K : PySem.W.Frag) : Sp := fun vs H Q _ => ∃ (a : Addr) (ns : List Int), vs = [.ref a] ∧ SqL K H a (ns.map V.int) ∧ ns.length ≤ 63 ∧ ∀ H', Q (.bl true) H'
theorem atI_of {xs : List V} {i : Int} {n : Nat} {v : V} (h : i = (n : Int)) (hx : xs[n]? = some v) : atI xs i = some v := by
  subst h
  have hn : n < xs.length := (List.getElem?_eq_some_iff.mp hx).1
  unfold atI ixN
  rw [if_pos (Int.natCast_nonneg n), if_pos (by omega)]
  simpa using hx
theorem atI_int {ns : List Int} {i : Int} (h0 : 0 ≤ i) (h1 : i < ns.length) : ∃ z, atI (ns.map V.int) i = some (.int z) := by
  obtain ⟨n, rfl⟩ := Int.eq_ofNat_of_zero_le h0
  have hn : n < ns.length := by omega
  exact ⟨ns[n], atI_of rfl (by rw [List.getElem?_map, List.getElem?_eq_getElem hn]; rfl)⟩
theorem newTape {K : PySem.W.Frag} {H : Hp} {a p : Addr} {ns : List Int} (h : H p = none) (hs : SqL K H a (ns.map V.int)) : Tape K (L2.upd H p (.lst [.ref a, .int 0, .int 0, .int 0])) p a ns :=
  ⟨⟨0, 0, 0, Int.le_refl _, Int.le_refl _, upd_same⟩, (ScrAt.of hs h).stay fun o n e => by rw [upd_ne n]; exact e⟩
theorem frm_of {t : Addr} {H H' : Hp} (h : ∀ b, b ≠ t → H' b = H b) : Frm t H H' := fun b o n e => by rw [h b n]; exact e
theorem small_le {n : Nat} (h : n ≤ 1000) : n ≤ sizeLine := Nat.le_of_lt (small1000 h)
end L2
set_option Elab.async false
set_option linter.all false
set_option maxRecDepth 100000
set_option maxHeartbeats 4000000
namespace L2
open PySem PySem.Spec PyProof.Rows
def TMono (t : TT) : Prop := ∀ σ H (Q Q' : Bool → Hp → Prop), (∀ b H, Q b H → Q' b H) → t σ H Q → t σ H Q'
def AMono (t : TA) : Prop := ∀ σ H (Q Q' : List V → Hp → Prop), (∀ b H, Q b H → Q' b H) → t σ H Q → t σ H Q'
def RMono (r : R2) : Prop := ∀ x y H (Q Q' : VK), (∀ v H, Q v H → Q' v H) → r x y H Q → r x y H Q'
def UMono (r : V → Hp → VK → Prop) : Prop := ∀ x H (Q Q' : VK), (∀ v H, Q v H → Q' v H) → r x H Q → r x H Q'
def CMono (r : List V → Hp → VK → Prop) : Prop := ∀ xs H (Q Q' : VK), (∀ v H, Q v H → Q' v H) → r xs H Q → r xs H Q'
def SpMono (sp : Sp) : Prop := ∀ vs H (Q Q' : VK) E, (∀ v H, Q v H → Q' v H) → sp vs H Q E → sp vs H Q' E
def IMono (t : TI) : Prop := ∀ σ H (Q Q' : It → Hp → Prop), (∀ J H, Q J H → Q' J H) → t σ H Q → t σ H Q'
def SetMono (t : TSet) : Prop := ∀ o i v H (Q Q' : Hp → Prop), (∀ H, Q H → Q' H) → t o i v H Q → t o i v H Q'
structure Ends.le (D D' : Ends) : Prop where
  nx : ∀ σ H, D.nx σ H → D'.nx σ H
  rt : ∀ v H, D.rt v H → D'.rt v H
  bk : ∀ σ H, D.bk σ H → D'.bk σ H
  ct : ∀ σ H, D.ct σ H → D'.ct σ H
def SMono (t : TS) : Prop := ∀ D D' σ H, Ends.le D D' → t D σ H → t D' σ H
theorem em_var {i : Nat} : EMono (vVar i) := fun σ H Q Q' h q => by
  unfold vVar at *
  split at q
  · exact h _ _ q
  · exact q.elim
theorem em_c {v : V} : EMono (tC v) := fun _ _ _ _ h q => h _ _ q
theorem em_op {r : R2} {ta tb : TE} (hr : RMono r) (ha : EMono ta) (hb : EMono tb) : EMono (tOp r ta tb) := fun σ H Q Q' h q => ha _ _ _ _ (fun _ _ q => hb _ _ _ _ (fun _ _ q => hr _ _ _ _ _ h q) q) q
theorem em_un {r : V → Hp → VK → Prop} {ta : TE} (hr : UMono r) (ha : EMono ta) : EMono (tUn r ta) := fun σ H Q Q' h q => ha _ _ _ _ (fun _ _ q => hr _ _ _ _ h q) q
theorem rm_add {K} : RMono (mAdd K) := fun x y H Q Q' h q => by
  unfold mAdd at *
  split at q
  · exact h _ _ q
  · exact ⟨q.1, h _ _ q.2⟩
  · rcases q with ⟨l, b, xs, zs, e1, e2, h1, h2, h3, q⟩ | ⟨a, b, xs, ys, e1, e2, h1, h2, h3, h4, q1, q2⟩
    · exact .inl ⟨l, b, xs, zs, e1, e2, h1, h2, h3, fun p hp => h _ _ (q p hp)⟩
    · exact .inr ⟨a, b, xs, ys, e1, e2, h1, h2, h3, h4, fun e => h _ _ (q1 e), fun e p hp => h _ _ (q2 e p hp)⟩
  · exact q.elim
theorem rm_sub : RMono mSub := fun x y H Q Q' h q => by unfold mSub at *; split at q <;> first | exact h _ _ q | exact q.elim
theorem rm_mul : RMono mMul := fun x y H Q Q' h q => by
  unfold mMul at *
  split at q
  · exact ⟨q.1, h _ _ q.2⟩
  · obtain ⟨l, k, xs, e1, e2, h1, h2, h3, h4, q⟩ := q
    exact ⟨l, k, xs, e1, e2, h1, h2, h3, h4, fun p hp => h _ _ (q p hp)⟩
  · exact q.elim
theorem rm_div : RMono mDiv := fun x y H Q Q' h q => by unfold mDiv at *; split at q <;> first | exact ⟨q.1, h _ _ q.2⟩ | exact q.elim
theorem rm_mod : RMono mMod := fun x y H Q Q' h q => by unfold mMod at *; split at q <;> first | exact ⟨q.1, h _ _ q.2⟩ | exact q.elim
theorem rm_pow : RMono mPow := fun x y H Q Q' h q => by unfold mPow at *; split at q <;> first | exact ⟨q.1, h _ _ q.2⟩ | exact q.elim
theorem um_neg_ : UMono mNeg := fun x H Q Q' h q => by unfold mNeg at *; split at q <;> first | exact h _ _ q | exact q.elim
theorem rm_cmp {p} : RMono (mCmp p) := fun x y H Q Q' h q => by unfold mCmp at *; split at q <;> first | exact h _ _ q | exact q.elim
theorem rm_eq {n K} : RMono (mEq n K) := fun x y H Q Q' h q => by
  unfold mEq at *
  split at q <;> first | exact h _ _ q | (obtain ⟨d, e, h1, h2, h3, q⟩ := q; exact ⟨d, e, h1, h2, h3, h _ _ q⟩)
theorem rm_ix {K} : RMono (mIx K) := fun x y H Q Q' h q => by
  unfold mIx at *
  split at q
  · obtain ⟨xs, v, h1, h2, q⟩ := q; exact ⟨xs, v, h1, h2, h _ _ q⟩
  · obtain ⟨c, h1, h2, q⟩ := q; exact ⟨c, h1, h2, h _ _ q⟩
  · exact q.elim
theorem isB_mono {v : V} {Q Q' : Bool → Prop} (h : ∀ b, Q b → Q' b) (q : isB v Q) : isB v Q' := by
  cases v <;> first | exact h _ q | exact q
theorem tm_b {t : TE} (h : EMono t) : TMono (uB t) := fun σ H Q Q' k q => h _ _ _ _ (fun _ _ q => isB_mono (fun b q => k b _ q) q) q
theorem em_chain {r r' : R2} {ta tb tc : TE} (hr : RMono r) (hr' : RMono r') (ha : EMono ta) (hb : EMono tb) (hc : EMono tc) : EMono (vChain r r' ta tb tc) := fun σ H Q Q' h q =>
  ha _ _ _ _ (fun _ _ q => hb _ _ _ _ (fun _ _ q => hr _ _ _ _ _ (fun _ _ q => isB_mono (fun b q => by
    split
    · rename_i e; rw [if_pos e] at q; exact hc _ _ _ _ (fun _ _ q => hr' _ _ _ _ _ h q) q
    · rename_i e; rw [if_neg e] at q; exact h _ _ q) q) q) q) q
theorem em_and {ta tb : TE} (ha : EMono ta) (hb : EMono tb) : EMono (vAnd ta tb) := fun σ H Q Q' h q => ha _ _ _ _ (fun _ _ q => isB_mono (fun b q => by
    split
    · rename_i e; rw [if_pos e] at q; exact hb _ _ _ _ h q
    · rename_i e; rw [if_neg e] at q; exact h _ _ q) q) q
theorem em_if {t : TT} {ta tb : TE} (ht : TMono t) (ha : EMono ta) (hb : EMono tb) : EMono (tIf t ta tb) := fun σ H Q Q' h q => ht _ _ _ _ (fun b _ q => by
    cases b with
    | true => exact ha _ _ _ _ h q
    | false => exact hb _ _ _ _ h q) q
theorem tm_and {t u : TT} (ht : TMono t) (hu : TMono u) : TMono (tAnd t u) := fun σ H Q Q' h q => ht _ _ _ _ (fun b _ q => by
    cases b with
    | true => exact hu _ _ _ _ h q
    | false => exact h _ _ q) q
theorem tm_or {t u : TT} (ht : TMono t) (hu : TMono u) : TMono (tOr t u) := fun σ H Q Q' h q => ht _ _ _ _ (fun b _ q => by
    cases b with
    | true => exact h _ _ q
    | false => exact hu _ _ _ _ h q) q
theorem tm_not {t : TT} (ht : TMono t) : TMono (tNot t) := fun σ H Q Q' h q => ht _ _ _ _ (fun b _ q => h _ _ q) q
theorem am_nil : AMono tNil := fun _ _ _ _ h q => h _ _ q
theorem am_cons {ta : TE} {t : TA} (ha : EMono ta) (ht : AMono t) : AMono (tCons ta t) := fun σ H Q Q' h q => ha _ _ _ _ (fun _ _ q => ht _ _ _ _ (fun _ _ q => h _ _ q) q) q
theorem em_cb {r} {t : TA} (hr : CMono r) (ht : AMono t) : EMono (tCB r t) := fun σ H Q Q' h q => ht _ _ _ _ (fun _ _ q => hr _ _ _ _ h q) q
theorem em_call {sp dvs E} {t : TA} (hs : SpMono sp) (ht : AMono t) : EMono (tCall sp dvs E t) := fun σ H Q Q' h q => ht _ _ _ _ (fun _ _ q => hs _ _ _ _ _ h q) q
theorem em_tup {t : TA} (ht : AMono t) : EMono (tTup t) := fun σ H Q Q' h q => ht _ _ _ _ (fun _ _ q => ⟨q.1, fun p hp => h _ _ (q.2 p hp)⟩) q
theorem em_lst {t : TA} (ht : AMono t) : EMono (tLst t) := fun σ H Q Q' h q => ht _ _ _ _ (fun _ _ q => ⟨q.1, fun p hp => h _ _ (q.2 p hp)⟩) q
theorem em_comp {wi own ix g tc te} (hi : IMono wi) : EMono (tComp wi own ix g tc te) := fun σ H Q Q' h q => hi _ _ _ _ (fun J H1 q => by
    obtain ⟨W, w0, turn⟩ := q
    refine ⟨W, w0, fun i m ys H w => ?_⟩
    rcases turn i m ys H w with ⟨a, b⟩ | r
    · exact .inl ⟨a, fun p hp => h _ _ (b p hp)⟩
    · exact .inr r) q
theorem cm_len_ {K} : CMono (mLen K) := fun xs H Q Q' h q => by unfold mLen at *; split at q <;> first | (obtain ⟨n, a, q⟩ := q; exact ⟨n, a, h _ _ q⟩) | exact q.elim
theorem cm_max_ : CMono mMax := fun xs H Q Q' h q => by unfold mMax at *; split at q <;> first | exact h _ _ q | exact q.elim
theorem cm_tuple_ {K} : CMono (mTuple K) := fun xs H Q Q' h q => by
  unfold mTuple at *
  split at q
  · obtain ⟨ys, ⟨a, q⟩ | ⟨a, q⟩⟩ := q
    · exact ⟨ys, .inl ⟨a, fun l hl => h _ _ (q l hl)⟩⟩
    · exact ⟨ys, .inr ⟨a, h _ _ q⟩⟩
  · exact q.elim
theorem cm_isi_ {K} : CMono (mIsi K) := fun xs H Q Q' h q => by
  unfold mIsi at *
  split at q
  · obtain ⟨a, k, b, q⟩ := q; exact ⟨a, k, b, h _ _ q⟩
  · exact q.elim
theorem im_seq {K} {tl : TE} (h : EMono tl) : IMono (iSeq K tl) := fun σ H Q Q' k q => h _ _ _ _ (fun v H1 q => by
    cases v <;> first | exact q.elim | (rcases q with ⟨a, q⟩ | ⟨a, q⟩
                                        · exact .inl ⟨a, k _ _ q⟩
                                        · exact .inr ⟨a, k _ _ q⟩)) q
theorem im_rng1 {ta : TA} (h : AMono ta) : IMono (iRng1 ta) := fun σ H Q Q' k q => h _ _ _ _ (fun _ _ ⟨j, e, a, b, q⟩ => ⟨j, e, a, b, k _ _ q⟩) q
theorem sm_set : SetMono mSet := fun o i v H Q Q' h q => by
  unfold mSet at *
  split at q
  · obtain ⟨xs, j, a, b, q⟩ := q; exact ⟨xs, j, a, b, h _ q⟩
  · exact q.elim
theorem gm_sub {to ti : TE} {t : TSet} (h1 : EMono to) (h2 : EMono ti) (h3 : SetMono t) : GMono (gSub to ti t) := fun v σ H Q Q' h q => h1 _ _ _ _ (fun _ _ q => h2 _ _ _ _ (fun _ _ q => h3 _ _ _ _ _ _ (fun H q => h _ _ q) q) q) q
theorem sm_next : SMono tNext := fun D D' σ H h q => h.nx _ _ q
theorem sm_seq {t u : TS} (h1 : SMono t) (h2 : SMono u) : SMono (tSeq t u) := fun D D' σ H h q => h1 { D with nx := u D } { D' with nx := u D' } σ H ⟨fun σ H q => h2 D D' σ H h q, h.rt, h.bk, h.ct⟩ q
theorem sm_asg {te : TE} {g : TG} (h1 : EMono te) (h2 : GMono g) : SMono (tAsg te g) := fun D D' σ H h q => h1 _ _ _ _ (fun _ _ q => h2 _ _ _ _ _ h.nx q) q
theorem sm_ret {te : TE} (h1 : EMono te) : SMono (tRet te) := fun D D' σ H h q => h1 _ _ _ _ h.rt q
theorem sm_if {c : TT} {t u : TS} (hc : TMono c) (h1 : SMono t) (h2 : SMono u) : SMono (tIfS c t u) := fun D D' σ H h q => hc _ _ _ _ (fun b _ q => by
    cases b with
    | true => exact h1 _ _ _ _ h q
    | false => exact h2 _ _ _ _ h q) q
theorem sm_for {wi : TI} {g : TG} {tb : TS} (hi : IMono wi) (hg : GMono g) (h1 : SMono tb) : SMono (tFor wi g tb) := fun D D' σ H h q => hi _ _ _ _ (fun J H1 q => by
  obtain ⟨W, w0, turn⟩ := q
  refine ⟨W, w0, fun i m σ H w => ?_⟩
  rcases turn i m σ H w with ⟨a, b⟩ | ⟨a, N, hN, step⟩
  · exact .inl ⟨a, h.nx _ _ b⟩
  · exact .inr ⟨a, N, hN, fun x H' y => hg _ _ _ _ _ (fun σ2 H2 q => h1 { D with nx := N, ct := N, bk := D.nx } _ _ _ ⟨fun _ _ q => q, h.rt, h.nx, fun _ _ q => q⟩ q) (step x H' y)⟩) q
theorem seq_at {t u : TS} {D : Ends} {σ : St} {H : Hp} (J : St → Hp → Prop) (h1 : t { D with nx := J } σ H) (h2 : ∀ σ' H', J σ' H' → u D σ' H') (hm : SMono t) : tSeq t u D σ H :=
  hm { D with nx := J } { D with nx := u D } σ H ⟨h2, fun _ _ q => q, fun _ _ q => q, fun _ _ q => q⟩ h1
theorem spNext_mono {K} : SpMono (spNext K) := fun vs H Q Q' E h q => by
  unfold spNext at *
  split at q
  · obtain ⟨a, ns, x, y, q⟩ := q; exact ⟨a, ns, x, y, fun d H' e1 e2 e3 e4 => h _ _ (q d H' e1 e2 e3 e4)⟩
  · exact q.elim
end L2
set_option Elab.async false
set_option linter.all false
set_option maxRecDepth 100000
set_option maxHeartbeats 4000000
namespace L2
open PySem PySem.Spec PyProof.Rows
section
variable {X : Cx} {K : PySem.W.Frag} {a b c e l tg : Expr} {es : List Expr} {ta tb tc te tl : TE} {pos p : Pos}
theorem kAdd (hK : X.K = K := by rfl) : OpR X (binaryOp .Add) (mAdd K) := hK ▸ om_add
theorem kEq (hu : X.A.units + 60 < cLine) (hK : X.K = K := by rfl) : OpR X (compareOp .Eq) (mEq false K) := hK ▸ om_eq hu
theorem kNe (hu : X.A.units + 60 < cLine) (hK : X.K = K := by rfl) : OpR X (compareOp .NotEq) (mEq true K) := hK ▸ om_ne hu
theorem kIx (ha : PE X a ta) (hb : PE X b tb) (hs : PlainIx b := by intro _ _; rfl) (hK : X.K = K := by rfl) : PE X (.Subscript a b pos) (tOp (mIx K) ta tb) := hK ▸ pe_ixM ha hb hs
theorem kLen (hK : X.K = K := by rfl) : CallR X (.builtin "len") (mLen K) := hK ▸ cm_len
theorem kTuple (hK : X.K = K := by rfl) : CallR X (.type "tuple") (mTuple K) := hK ▸ cm_tuple
theorem kList (hK : X.K = K := by rfl) : CallR X (.type "list") (mList K) := hK ▸ cm_list
theorem kIsi (hK : X.K = K := by rfl) : CallR X (.builtin "isinstance") (mIsi K) := hK ▸ cm_isi
theorem kSeq (hl : PE X l tl) (hK : X.K = K := by rfl) : PI X tg l (iSeq K tl) := hK ▸ pi_seq hl
end
end L2
set_option Elab.async false
set_option linter.all false
set_option maxRecDepth 100000
set_option maxHeartbeats 4000000
namespace L2
open PySem PySem.Spec PyProof.Rows
section
variable {X : Cx}
end
end L2
set_option Elab.async false
set_option linter.all false
set_option maxRecDepth 100000
set_option maxHeartbeats 4000000
namespace L2
open PySem PySem.Spec PyProof.Rows
section
variable {X : Cx} {K : PySem.W.Frag} {o e : Expr} {es : List Expr} {to : TE} {t : TA} {apos cpos : Pos}
def mAll (K : PySem.W.Frag) : List V → Hp → VK → Prop := fun xs H Q => match xs with
  | [.ref l] => ∃ bs : List Bool, SqL K H l (bs.map V.bl) ∧ Q (.bl (bs.all id)) H
  | _ => False
theorem cm_all (hc : X.calm = true) : CallR X (.builtin "all") (mAll X.K) := by
  intro pins s σ H xs us Q I r q
  match xs, q with
  | [.ref l], ⟨bs, hl, q⟩ =>
  obtain ⟨u, rfl, ru⟩ := vals1 r
  cases ru
  obtain ⟨its, rv, pl, hz⟩ := I.list hl
  have hlen := rv.length
  rw [List.length_map] at hlen
  obtain ⟨o1, n1, g1, _⟩ := id pl
  have hlt := Heap.lt_size g1
  refine call_all_walk (wpAny_pyIter_list pl.isList ?_)
  have hne : l ≠ s.heap.objs.size := Nat.ne_of_lt hlt
  refine ⟨_, _, _, _, _, _, fun i => bs.getD i false, rfl, Walks.list (A := X.A.in1) (I.ok.hd hc) s.heap.objs.size l hne its.toArray, ?_, ?_, fun h' tk hk => ?_⟩
  · exact ⟨⟨_, Heap.get?_push_size _ rfl, rfl, rfl⟩, (show s.heap.IsList l its.toArray from pl.isList).at fun o e => Heap.get?_push_of_some _ e⟩
  · intro i v s' Q' E' hv hq
    have hv : its.toArray[i]? = some v := hv
    have hi : i < its.length := by
      have := (Array.getElem?_eq_some_iff.mp hv).1
      simpa using this
    have hb : (bs.map V.bl)[i]? = some (.bl bs[i]) := by rw [List.getElem?_map, List.getElem?_eq_getElem (by omega)]; rfl
    obtain ⟨w', q1, q2⟩ := rv.get hb
    have e : v = w' := by simp at hv; rw [q1] at hv; exact (Option.some.inj hv).symm
    subst e
    cases q2
    refine wpAny_truthy_bool ?_
    have e2 : bs.getD i false = bs[i] := by rw [List.getD_eq_getElem?_getD, List.getElem?_eq_getElem (by omega)]; rfl
    have hq : Q' (bs.getD i false) s' := hq
    rw [e2] at hq
    exact hq
  · refine ⟨.bl _, H, I.kept (fun b o e => hk b o ?_ (Heap.get?_push_of_some _ e)), rfl, ?_⟩
    · simp only [List.mem_singleton]
      exact Nat.ne_of_lt (Heap.lt_size e)
    · have e : (List.range its.toArray.size).all (fun i => bs.getD i false) = bs.all id := by
        rw [List.size_toArray, ← hlen]
        rw [Bool.eq_iff_iff, List.all_eq_true, List.all_eq_true]
        constructor
        · intro h b hb
          obtain ⟨i, hi, rfl⟩ := List.mem_iff_getElem.mp hb
          have := h i (List.mem_range.mpr hi)
          rw [List.getD_eq_getElem?_getD, List.getElem?_eq_getElem hi] at this
          exact this
        · intro h i hi
          have hi' := List.mem_range.mp hi
          rw [List.getD_eq_getElem?_getD, List.getElem?_eq_getElem hi']
          exact h _ (List.getElem_mem hi')
      rw [e]
      exact q
theorem kAll (hc : X.calm = true) (hK : X.K = K := by rfl) : CallR X (.builtin "all") (mAll K) := hK ▸ cm_all hc
end
end L2
set_option Elab.async false
set_option linter.all false
set_option maxRecDepth 100000
set_option maxHeartbeats 4000000
namespace L2
open PySem PySem.Spec PyProof.Rows
section
variable {prog : Program} {w : World} {A : Around} {E : Value → Shared → Prop} {s : Shared}
end
section
variable {X : Cx} {K : PySem.W.Frag} {pos p2 : Pos} {e : Expr} {lo hi : Option Expr} {te : TE} {tl th : TO}
def mCut (K : PySem.W.Frag) : V → Option Int → Option Int → Hp → VK → Prop := fun x lo hi H Q => match x with
  | .ref a => ∃ xs, (SqL K H a xs ∧ ∀ p, H p = none → Q (.ref p) (upd H p (.lst (cutV xs lo hi)))) ∨
      (SqT K H a xs ∧ ¬ (HT.sIx xs.length 0 lo = 0 ∧ HT.sIx xs.length xs.length hi = xs.length) ∧ ∀ p, H p = none → Q (.ref p) (upd H p (.tup (cutV xs lo hi))))
  | _ => False
theorem sm_cut : SlR X (mCut X.K) := by
  intro pins s σ H x v vl vu lo hi sl Q I rx hs pl pu q
  cases x with
  | ref a =>
    obtain ⟨xs, ⟨h, q⟩ | ⟨h, h2, q⟩⟩ := q
    · exact sl_list pins s σ H _ v vl vu lo hi sl Q I rx hs pl pu ⟨a, xs, rfl, h, q⟩
    · exact sl_tup pins s σ H _ v vl vu lo hi sl Q I rx hs pl pu ⟨a, xs, rfl, h, h2, q⟩
  | _ => exact False.elim q
theorem kCut (he : PE X e te) (hl : PO X lo tl) (hu : PO X hi th) (hK : X.K = K := by rfl) : PE X (.Subscript e (.Slice lo hi none p2) pos) (tSl (mCut K) te tl th) := hK ▸ pe_slice sm_cut he hl hu
def OMono (t : TO) : Prop := ∀ σ H (Q Q' : Option Int → Hp → Prop), (∀ b H, Q b H → Q' b H) → t σ H Q → t σ H Q'
theorem om_none : OMono tNoPart := fun _ _ _ _ h q => h _ _ q
theorem om_some (h : EMono te) : OMono (tPart te) := fun σ H Q Q' k q => h _ _ _ _ (fun _ _ ⟨i, e, q⟩ => ⟨i, e, k _ _ q⟩) q
theorem em_cut (h : EMono te) (h1 : OMono tl) (h2 : OMono th) : EMono (tSl (mCut K) te tl th) := fun σ H Q Q' k q => h _ _ _ _ (fun v _ q => h1 _ _ _ _ (fun _ _ q => h2 _ _ _ _ (fun _ _ q => by
  cases v <;> first | exact False.elim q | (obtain ⟨xs, ⟨a, q⟩ | ⟨a, b, q⟩⟩ := q
                                            · exact ⟨xs, .inl ⟨a, fun p hp => k _ _ (q p hp)⟩⟩
                                            · exact ⟨xs, .inr ⟨a, b, fun p hp => k _ _ (q p hp)⟩⟩)) q) q) q
end
theorem sqT_same {K : PySem.W.Frag} {H H' : Hp} {a : Addr} {xs : List V} (h : SqT K H a xs) (s : Same H H') : SqT K H' a xs := sqT_stay h fun o e => s a o e
mutual
theorem Rep.same {K : PySem.W.Frag} {H H' : Hp} (s : Same H H') : ∀ (d : Dv) (v : V), Rep K H d v → Rep K H' d v
  | .non, v, h => by unfold Rep at *; exact h
  | .bl b, v, h => by unfold Rep at *; exact h
  | .int i, v, h => by unfold Rep at *; exact h
  | .str x, v, h => by unfold Rep at *; exact h
  | .tup ds, v, h => by
    unfold Rep at *
    obtain ⟨a, xs, e, h1, h2⟩ := h
    exact ⟨a, xs, e, sqT_same h1 s, Reps.same s ds xs h2⟩
  | .lst ds, v, h => by
    unfold Rep at *
    obtain ⟨a, xs, e, h1, h2⟩ := h
    exact ⟨a, xs, e, sqL_stay h1 fun o e => s a o e, Reps.same s ds xs h2⟩
theorem Reps.same {K : PySem.W.Frag} {H H' : Hp} (s : Same H H') : ∀ (ds : List Dv) (xs : List V), Reps K H ds xs → Reps K H' ds xs
  | [], xs, h => by unfold Reps at *; exact h
  | d :: ds, xs, h => by
    unfold Reps at *
    obtain ⟨x, r, e, h1, h2⟩ := h
    exact ⟨x, r, e, Rep.same s d x h1, Reps.same s ds r h2⟩
end
theorem if_val {c : TT} {t u : TS} {D : Ends} {σ : St} {H : Hp} (b : Bool) (hc : ∀ Q : Bool → Hp → Prop, Q b H → c σ H Q) (h : if b = true then t D σ H else u D σ H) : tIfS c t u D σ H := hc _ h
theorem Tape.lst {K : PySem.W.Frag} {H : Hp} {t a : Addr} {ns : List Int} (T : Tape K H t a ns) : ∃ zs, H t = some (.lst zs) := by
  obtain ⟨i, r, c, _, _, h⟩ := T.at_
  exact ⟨_, h⟩
theorem reps_nil {K : PySem.W.Frag} {H : Hp} : Reps K H [] [] := by unfold Reps; rfl
theorem reps_cons {K : PySem.W.Frag} {H : Hp} {d : Dv} {ds : List Dv} {x : V} {xs : List V} (h : Rep K H d x) (r : Reps K H ds xs) : Reps K H (d :: ds) (x :: xs) := by unfold Reps; exact ⟨x, xs, rfl, h, r⟩
theorem rep_int {K : PySem.W.Frag} {H : Hp} {x : Int} : Rep K H (.int x) (.int x) := by unfold Rep; rfl
theorem rep_bl {K : PySem.W.Frag} {H : Hp} {x : Bool} : Rep K H (.bl x) (.bl x) := by unfold Rep; rfl
end L2
namespace L2
open PySem PySem.Spec PyProof.Rows
section
variable {κ : Type} [DecidableEq κ]
def valV (kvs : List (κ × V)) (k : κ) : Option V := (kvs.find? fun kv => decide (kv.1 = k)).map (·.2)
def putK (kvs : List (κ × V)) (k : κ) (v : V) : List (κ × V) :=
  if (kvs.any fun kv => decide (kv.1 = k)) = true then kvs.map (fun kv => if kv.1 = k then (kv.1, v) else kv) else kvs ++ [(k, v)]
theorem KV.any {kvs : List (κ × V)} {vs : List (κ × Value)} (r : KV kvs vs) (k : κ) : (kvs.any fun kv => decide (kv.1 = k)) = vs.any fun kv => decide (kv.1 = k) := by
  unfold KV at r
  induction r with
  | nil => rfl
  | cons h t ih => rw [List.any_cons, List.any_cons, ih, h.1]
theorem KV.length {kvs : List (κ × V)} {vs : List (κ × Value)} (r : KV kvs vs) : kvs.length = vs.length := Paired.length r
end
section
variable {P : Program} {w : World} {H : Hp} {h : Heap} {a : Addr}
end
def DGet (H : Hp) (a : Addr) (y : V) (r : Option V) : Prop :=
  (∃ kvs k, Rd H a (.dK kvs) ∧ y = kV k ∧ r = valV kvs k) ∨ ∃ kvs k b, Rd H a (.dT kvs) ∧ y = .ref b ∧ H b = some (.tup (k.map kV)) ∧ r = valV kvs k
def DPut (H : Hp) (a : Addr) (y v : V) (H' : Hp) : Prop :=
  (∃ kvs k, H a = some (.dK kvs) ∧ y = kV k ∧ kvs.length < sizeLine ∧ H' = upd H a (.dK (putK kvs k v))) ∨
  ∃ kvs k b, H a = some (.dT kvs) ∧ y = .ref b ∧ H b = some (.tup (k.map kV)) ∧ kvs.length < sizeLine ∧ H' = upd H a (.dT (putK kvs k v))
theorem DGet.k {H : Hp} {a : Addr} {kvs : List (Key × V)} {k : Key} (e : H a = some (.dK kvs)) : DGet H a (kV k) (valV kvs k) := .inl ⟨kvs, k, .inl e, rfl, rfl⟩
theorem DGet.t {H : Hp} {a b : Addr} {kvs : List (List Key × V)} {k : List Key} (e : H a = some (.dT kvs)) (eb : H b = some (.tup (k.map kV))) : DGet H a (.ref b) (valV kvs k) := .inr ⟨kvs, k, b, .inl e, rfl, eb, rfl⟩
theorem DPut.k {H : Hp} {a : Addr} {kvs : List (Key × V)} {k : Key} {v : V} (e : H a = some (.dK kvs)) (hl : kvs.length < sizeLine) : DPut H a (kV k) v (upd H a (.dK (putK kvs k v))) := .inl ⟨kvs, k, e, rfl, hl, rfl⟩
theorem DPut.t {H : Hp} {a b : Addr} {kvs : List (List Key × V)} {k : List Key} {v : V} (e : H a = some (.dT kvs)) (eb : H b = some (.tup (k.map kV))) (hl : kvs.length < sizeLine) :
    DPut H a (.ref b) v (upd H a (.dT (putK kvs k v))) := .inr ⟨kvs, k, b, e, rfl, eb, hl, rfl⟩
section
variable {X : Cx} {pins : List (Addr × Obj)} {σ : St} {H : Hp} {s : Shared} {a : Addr} {y v : V} {u r : Value} {o : Option V} {A : Around} {E : Value → Shared → Prop}
theorem Inv.big (I : Inv X pins σ H s) : sysModules < s.heap.objs.size := by
  have h : mainGlobals < s.heap.objs.size := (I.mod.glob.keeps I.bk).lt
  exact Nat.lt_trans (by decide) h
end
section
variable {X : Cx} {pins : List (Addr × Obj)} {σ : St} {H : Hp} {s : Shared} {a : Addr} {kvs : List (Key × V)} {k : Key} {u : Value} {A : Around} {E : Value → Shared → Prop}
end
section
variable {X : Cx} {o i e value : Expr} {pos pos' tpos : Pos} {td ty tv : TE}
end
theorem dk_empty {P : Program} {w : World} {H : Hp} (h : Heap) (hb : sysModules < h.objs.size) : ObjOk P w H (h.push { cls := .type "dict", data := .dict #[] }) h.objs.size (.dK []) :=
  ⟨Nat.zero_le _, beq_eq_false_iff_ne.mpr (Ne.symm (Nat.ne_of_lt hb)), [], .nil, Heap.DictOf.new h⟩
def tDNewK : TE := fun _ H Q => ∀ p, H p = none → Q (.ref p) (upd H p (.dK []))
section
variable {X : Cx} {pos : Pos}
theorem pe_dnewK : PE X (.Dict [] [] pos) tDNewK := fun pins s σ H Q I h =>
  wpAny_Dict_empty ⟨.ref s.heap.objs.size, _, I.laid (a := s.heap.objs.size) (o := .dK []) (t' := s.toks) (fun _ _ q => Heap.get?_push_of_some _ q) (Nat.le_refl _) (dk_empty s.heap I.big), rfl, h _ (I.hok.fresh (Nat.le_refl _))⟩
end
structure M1 (X : Cx) (o : Expr) (m : Str) (apos : Pos) (e : Expr) (cpos : Pos) : Prop where
  base : attributeBase o m X.env (eval o X.env) = eval o X.env
  few : ((backTo cpos (starEach [e] X.env)).all (fun x => !x.1) && (backToKw cpos (keywordEach [] X.env)).all (fun x => x.1.isSome)
    && decide (([e] : List Expr).length + ([] : List Keyword).length + (if ([] : List Keyword).isEmpty then 0 else 1) < 30)) = true
  line : (apos.endLine == cpos.line) = true
  trees : backTo cpos (starEach [e] X.env) = [(false, eval e X.env)]
structure M2 (X : Cx) (o : Expr) (m : Str) (apos : Pos) (e f : Expr) (cpos : Pos) : Prop where
  base : attributeBase o m X.env (eval o X.env) = eval o X.env
  few : ((backTo cpos (starEach [e, f] X.env)).all (fun x => !x.1) && (backToKw cpos (keywordEach [] X.env)).all (fun x => x.1.isSome)
    && decide (([e, f] : List Expr).length + ([] : List Keyword).length + (if ([] : List Keyword).isEmpty then 0 else 1) < 30)) = true
  line : (apos.endLine == cpos.line) = true
  trees : backTo cpos (starEach [e, f] X.env) = [(false, eval e X.env), (false, eval f X.env)]
section
variable {X : Cx} {pins : List (Addr × Obj)} {σ : St} {H : Hp} {s : Shared} {a : Addr} {y d : V} {u r : Value} {o : Option V} {A : Around} {E : Value → Shared → Prop}
end
section
variable {X : Cx} {o e f : Expr} {apos cpos : Pos} {td ty tx : TE}
end
section
variable {X : Cx} {pins : List (Addr × Obj)} {σ : St} {H : Hp} {s : Shared} {a : Addr} {kvs : List (Key × V)} {A : Around} {E : Value → Shared → Prop}
end
section
variable {X : Cx} {pins : List (Addr × Obj)} {σ : St} {H : Hp} {s : Shared} {a : Addr} {y : V} {u : Value} {A : Around} {E : Value → Shared → Prop}
end
end L2
set_option Elab.async false
set_option linter.all false
set_option maxRecDepth 100000
set_option maxHeartbeats 4000000
namespace L2
open PySem PySem.Spec PyProof.Rows
section
variable {P : Program} {w : World} {H : Hp} {h : Heap} {a : Addr}
end
section
variable {X : Cx} {o i e value : Expr} {pos pos' tpos : Pos} {td ty tv : TE}
end
section
variable {X : Cx} {P : Program} {w : World} {o i : Expr} {pos : Pos} {td ty : TE}
end
end L2
set_option Elab.async false
set_option linter.all false
set_option maxRecDepth 100000
set_option maxHeartbeats 4000000
namespace L2
open PySem PySem.Spec PyProof.Rows
section
variable {X : Cx} {K : PySem.W.Frag} {o : Expr} {to : TE} {apos cpos : Pos}
def mBitlen : V → List V → Hp → VK → Prop := fun x vs H Q => match x, vs with
  | .int i, [] => Q (.int (Builtin.Int.intBits i : Nat)) H
  | _, _ => False
theorem mm_bitlen : MtR X "int.bit_length" mBitlen := by
  intro pins s σ H x vs v us Q I rx rv q
  match x, vs, q with
  | .int i, [], q =>
    cases rv
    obtain ⟨t, rfl⟩ := (show ∃ t, v = Value.int i t from rx)
    exact PyProof.Rows.call_int_bit_length ⟨.int (Builtin.Int.intBits i : Nat), H, I.tok _, ⟨_, rfl⟩, q⟩
theorem kBitlen (ho : PE X o to) (hbase : attributeBase o "bit_length" X.env (eval o X.env) = eval o X.env := by rfl) (hline : (apos.endLine == cpos.line) = true := by rfl) (hK : X.K = K := by rfl) :
    PE X (.Call (.Attribute o "bit_length" apos) [] [] cpos) (tBM0 K "int" mBitlen to) := hK ▸ pe_bm0 PySem.F.plainAttrs_int PySem.F.slot_int_bit_length PySem.F.type_int_bit_length mm_bitlen ho hbase hline
end
section
variable {X : Cx}
end
theorem bits_pow : ∀ m < 7, (Builtin.Int.intBits ((2 ^ m : Nat) : Int) : Nat) = m + 1 := by decide +kernel
end L2
set_option Elab.async false
set_option linter.all false
set_option maxRecDepth 100000
set_option maxHeartbeats 4000000
namespace L2
open PySem PySem.Spec PyProof.Rows
section
variable {X : Cx} {K : PySem.W.Frag}
end
end L2
set_option Elab.async false
set_option linter.all false
set_option maxRecDepth 100000
set_option maxHeartbeats 4000000
namespace L2
open PySem PySem.Spec PyProof.Rows
mutual
def pyD : Dv → PyData
  | .non => .none
  | .bl b => .bool b
  | .int i => .int i
  | .str x => .str x
  | .tup ds => .tuple (pyDs ds)
  | .lst ds => .list (pyDs ds)
def pyDs : List Dv → List PyData
  | [] => []
  | d :: ds => pyD d :: pyDs ds
end
def shortI (i : Int) : Bool := decide (i.natAbs.log2 < 1900)
mutual
def niceD : Dv → Bool
  | .non => true
  | .bl _ => true
  | .int i => shortI i
  | .str _ => false
  | .tup ds => niceDs ds
  | .lst ds => niceDs ds
def niceDs : List Dv → Bool
  | [] => true
  | d :: ds => niceD d && niceDs ds
end
mutual
def bulkD : Dv → Nat
  | .tup ds => bulkDs ds
  | .lst ds => bulkDs ds
  | _ => 0
def bulkDs : List Dv → Nat
  | [] => 0
  | d :: ds => bulkD d + 1 + bulkDs ds
end
mutual
theorem pyD_dep : ∀ d : Dv, (pyD d).depth = depD d
  | .non => by simp [pyD, depD, PyData.depth]
  | .bl _ => by simp [pyD, depD, PyData.depth]
  | .int _ => by simp [pyD, depD, PyData.depth]
  | .str _ => by simp [pyD, depD, PyData.depth]
  | .tup ds => by simp [pyD, depD, PyData.depth, pyDs_dep ds]
  | .lst ds => by simp [pyD, depD, PyData.depth, pyDs_dep ds]
theorem pyDs_dep : ∀ ds : List Dv, PyData.depthAll (pyDs ds) = depDs ds
  | [] => by simp [pyDs, depDs, PyData.depthAll]
  | d :: ds => by simp [pyDs, depDs, PyData.depthAll, pyD_dep d, pyDs_dep ds]
end
mutual
theorem pyD_nodict : ∀ d : Dv, (pyD d).hasDict = false
  | .non => by simp [pyD, PyData.hasDict]
  | .bl _ => by simp [pyD, PyData.hasDict]
  | .int _ => by simp [pyD, PyData.hasDict]
  | .str _ => by simp [pyD, PyData.hasDict]
  | .tup ds => by simp [pyD, PyData.hasDict, pyDs_nodict ds]
  | .lst ds => by simp [pyD, PyData.hasDict, pyDs_nodict ds]
theorem pyDs_nodict : ∀ ds : List Dv, PyData.hasDictAll (pyDs ds) = false
  | [] => by simp [pyDs, PyData.hasDictAll]
  | d :: ds => by simp [pyDs, PyData.hasDictAll, pyD_nodict d, pyDs_nodict ds]
end
mutual
theorem pyD_bulk : ∀ d : Dv, niceD d = true → (pyD d).bulk = bulkD d
  | .non, _ => by simp [pyD, PyData.bulk, bulkD]
  | .bl _, _ => by simp [pyD, PyData.bulk, bulkD]
  | .int _, _ => by simp [pyD, PyData.bulk, bulkD]
  | .str _, h => by simp [niceD] at h
  | .tup ds, h => by simp [pyD, PyData.bulk, bulkD, pyDs_bulk ds (by simpa [niceD] using h)]
  | .lst ds, h => by simp [pyD, PyData.bulk, bulkD, pyDs_bulk ds (by simpa [niceD] using h)]
theorem pyDs_bulk : ∀ ds : List Dv, niceDs ds = true → PyData.bulkAll (pyDs ds) = bulkDs ds
  | [], _ => by simp [pyDs, PyData.bulkAll, bulkDs]
  | d :: ds, h => by
    have h' : niceD d = true ∧ niceDs ds = true := by simpa [niceDs] using h
    simp [pyDs, PyData.bulkAll, bulkDs, pyD_bulk d h'.1, pyDs_bulk ds h'.2]
end
mutual
theorem pyD_show : ∀ d : Dv, niceD d = true → (pyD d).showable = true ∧ (pyD d).leavesShort 1921 = true
  | .non, _ => by simp [pyD, PyData.showable, PyData.leavesShort]
  | .bl _, _ => by simp [pyD, PyData.showable, PyData.leavesShort]
  | .int i, h => by
    have h1 : i.natAbs.log2 < 1900 := by simpa [niceD, shortI] using h
    have h2 : i.natAbs.log2 < 1920 := by omega
    refine ⟨by simpa [pyD, PyData.showable] using h2, ?_⟩
    simp only [pyD, PyData.leavesShort, decide_eq_true_eq, PyData.shown]
    exact decide_eq_true (PyProof.Rows.int_text_len_1921 h2)
  | .str _, h => by simp [niceD] at h
  | .tup ds, h => by
    have h' := pyDs_show ds (by simpa [niceD] using h)
    simpa [pyD, PyData.showable, PyData.leavesShort] using h'
  | .lst ds, h => by
    have h' := pyDs_show ds (by simpa [niceD] using h)
    simpa [pyD, PyData.showable, PyData.leavesShort] using h'
theorem pyDs_show : ∀ ds : List Dv, niceDs ds = true → PyData.showableAll (pyDs ds) = true ∧ PyData.leavesShortAll 1921 (pyDs ds) = true
  | [], _ => by simp [pyDs, PyData.showableAll, PyData.leavesShortAll]
  | d :: ds, h => by
    have h' : niceD d = true ∧ niceDs ds = true := by simpa [niceDs] using h
    have h1 := pyD_show d h'.1
    have h2 := pyDs_show ds h'.2
    simp [pyDs, PyData.showableAll, PyData.leavesShortAll, h1, h2]
end
def shownD (d : Dv) : Str := (pyD d).shown
theorem shownD_fits {d : Dv} (h : niceD d = true) (hb : bulkD d ≤ 8000) : (shownD d).length ≤ sizeLine := by
  have h1 := PyData.shown_le_bulk 1921 (by decide) (pyD d) (pyD_show d h).2
  rw [pyD_bulk d h] at h1
  have e : sizeLine = 16777216 := by decide
  unfold shownD
  rw [e]
  omega
section
variable {X : Cx} {pins : List (Addr × Obj)} {σ : St} {H : Hp} {s : Shared}
mutual
theorem rep_reads (I : Inv X pins σ H s) : ∀ (d : Dv) (x : V) (u : Value), Rep X.K H d x → RelV x u → ∃ as, Reads s.heap u (pyD d) as
  | .non, x, u, h, r => by unfold Rep at h; subst h; cases r; exact ⟨_, by rw [pyD]; exact .none⟩
  | .bl b, x, u, h, r => by unfold Rep at h; subst h; cases r; exact ⟨_, by rw [pyD]; exact .bool b⟩
  | .int i, x, u, h, r => by unfold Rep at h; subst h; obtain ⟨t, rfl⟩ := r; exact ⟨_, by rw [pyD]; exact .int i t⟩
  | .str y, x, u, h, r => by unfold Rep at h; subst h; obtain ⟨t, rfl⟩ := r; exact ⟨_, by rw [pyD]; exact .str y t⟩
  | .tup ds, x, u, h, r => by
    unfold Rep at h
    obtain ⟨a, xs, rfl, hs, hr⟩ := h
    cases r
    obtain ⟨its, rv, ⟨o, h1, h2, n, h3⟩, _⟩ := I.tuple hs
    obtain ⟨as, ha⟩ := reps_reads I ds xs its hr rv
    exact ⟨as, by rw [pyD]; exact .tuple h1 h2 h3 ha⟩
  | .lst ds, x, u, h, r => by
    unfold Rep at h
    obtain ⟨a, xs, rfl, hs, hr⟩ := h
    cases r
    obtain ⟨its, rv, p, _⟩ := I.list hs
    obtain ⟨o, h1, h2, n, h3⟩ := p.isList
    obtain ⟨as, ha⟩ := reps_reads I ds xs its hr rv
    exact ⟨_, by rw [pyD]; exact .list h1 h2 h3 ha⟩
theorem reps_reads (I : Inv X pins σ H s) : ∀ (ds : List Dv) (xs : List V) (us : List Value), Reps X.K H ds xs → Vals xs us → ∃ as, ReadsAll s.heap us (pyDs ds) as
  | [], xs, us, h, r => by unfold Reps at h; subst h; cases r; exact ⟨_, by rw [pyDs]; exact .nil⟩
  | d :: ds, xs, us, h, r => by
    unfold Reps at h
    obtain ⟨x, l, rfl, h1, h2⟩ := h
    cases r with
    | cons r1 r2 =>
    obtain ⟨as, ha⟩ := rep_reads I d x _ h1 r1
    obtain ⟨bs, hb⟩ := reps_reads I ds l _ h2 r2
    exact ⟨_, by rw [pyDs]; exact .cons ha hb⟩
end
end
def mRepr (K : PySem.W.Frag) : List V → Hp → VK → Prop := fun xs H Q => match xs with
  | [x] => ∃ d, Rep K H d x ∧ niceD d = true ∧ bulkD d ≤ 8000 ∧ depD d ≤ 60 ∧ Q (.str (shownD d)) H
  | _ => False
section
variable {X : Cx} {K : PySem.W.Frag}
theorem cm_repr0 (hg : X.A.guards = some []) (hu : X.A.units + 62 < cLine) : CallR X (.builtin "repr") (mRepr X.K) := by
  intro pins s σ H xs us Q I r q
  match xs, q with
  | [x], ⟨d, hd, hn, hb, hp, q⟩ =>
    cases r with
    | cons r1 r2 =>
    cases r2
    rename_i u
    have fits := shownD_fits hn hb
    have shw := (pyD_show d hn).1
    have done : ∀ (h' : Heap) (t tk : Nat), (∀ b o, s.heap.get? b = some o → h'.get? b = some o) → EP X pins σ Q (.str (shownD d) t) { s with heap := h', toks := tk } := fun h' t tk hk =>
      ⟨.str (shownD d), H, I.kept (t' := tk) hk, ⟨t, rfl⟩, q⟩
    obtain ⟨as, hr⟩ := rep_reads I d x u hd r1
    cases hx : u with
    | ref a =>
      rw [hx] at hr
      refine PySem.repr_of_reads' hr shw (PyData.noDict_hsm (pyD_nodict d)) hg ?_ (fun _ _ e => e) (fun h' t tk hk => done h' t tk hk) fits
      rw [pyD_dep]; omega
    | none =>
      rw [hx] at hr
      generalize hp : pyD d = p at hr
      cases hr
      have e : shownD d = ("None" : Str) := by unfold shownD; rw [hp, PyData.shown_none]
      refine PySem.P.repr_of_none ?_
      rw [← e]; exact done s.heap _ _ (fun _ _ e => e)
    | bool b =>
      rw [hx] at hr
      generalize hp : pyD d = p at hr
      cases hr
      have e : shownD d = ((if b then "True" else "False" : Str)) := by unfold shownD; rw [hp, PyData.shown_bool]
      refine PySem.P.repr_of_bool ?_
      rw [← e]; exact done s.heap _ _ (fun _ _ e => e)
    | int i t =>
      rw [hx] at hr
      generalize hp : pyD d = p at hr
      cases hr
      have e : shownD d = ((toString i : String) : Str) := by unfold shownD; rw [hp, PyData.shown_int]
      rw [hp] at shw
      refine PySem.P.repr_of_int (by simpa [PyData.showable] using shw) ?_
      rw [← e]; exact done s.heap _ _ (fun _ _ e => e)
    | str y t =>
      rw [hx] at hr
      generalize hp : pyD d = p at hr
      cases hr
      cases d <;> simp [pyD, niceD] at hp hn
    | _ => rw [hx] at hr; cases hr
theorem kRepr {k : Nat} (hr : Room k X.A) (hK : X.K = K := by rfl) : CallR X (.builtin "repr") (mRepr K) := hK ▸ cm_repr0 hr.gd (by have := hr.un; omega)
end
theorem cm_repr_ {K} : CMono (mRepr K) := fun xs H Q Q' h q => by
  unfold mRepr at *
  split at q
  · obtain ⟨d, a, b, c, e, q⟩ := q; exact ⟨d, a, b, c, e, h _ _ q⟩
  · exact q.elim
end L2
set_option Elab.async false
set_option linter.all false
set_option maxRecDepth 100000
set_option maxHeartbeats 4000000
namespace L2
open PySem PySem.Spec PyProof.Rows
open AutoSeq1 (wpAny_loadPart')
section
variable {prog : Program} {w : World} {A : Around} {E : Value → Shared → Prop} {s : Shared}
end
section
variable {X : Cx}
end
structure Feed (H : Hp) (t : Addr) : Prop where
  at_ : ∃ a b k c : Int, 0 ≤ a ∧ H t = some (.lst [.int a, .int b, .int k, .int c])
theorem Feed.same {H H' : Hp} {t : Addr} (F : Feed H t) (h : Same H H') : Feed H' t := by
  obtain ⟨a, b, k, c, h1, h2⟩ := F.at_
  exact ⟨a, b, k, c, h1, h _ _ h2⟩
theorem Feed.upd {H : Hp} {t p : Addr} {o : HO} (F : Feed H t) (h : H p = none) : Feed (L2.upd H p o) t := F.same (Same.upd h)
end L2
set_option Elab.async false
set_option linter.all false
set_option maxRecDepth 100000
set_option maxHeartbeats 4000000
namespace L2
open PySem PySem.Spec PyProof.Rows
end L2
set_option Elab.async false
set_option linter.all false
set_option maxRecDepth 100000
set_option maxHeartbeats 4000000
namespace L2
open PySem PySem.Spec PyProof.Rows
end L2
set_option Elab.async false
set_option linter.all false
set_option maxRecDepth 100000
set_option maxHeartbeats 4000000
namespace L2
open PySem PySem.Spec PyProof.Rows
def sumTo (f : Nat → Int) : Nat → Int
  | 0 => 0
  | n + 1 => sumTo f n + f n
def chi : Nat → Nat → Nat → Int
  | 0, _, _ => 1
  | n + 1, a, b => (if a % 2 = 1 ∧ b % 2 = 1 then -1 else 1) * chi n (a / 2) (b / 2)
def hs (v : Nat → Int) (s k : Nat) : Int := sumTo (fun j => chi s (k % 2 ^ s) j * v (k / 2 ^ s * 2 ^ s + j)) (2 ^ s)
def manyF : Nat → Nat → Nat
  | 0, _ => 0
  | f + 1, x => x % 2 + manyF f (x / 2)
@[irreducible] def many (x : Nat) : Nat := manyF 64 x
def termD (q : Nat × Int) : Dv := .tup [.int q.1, .int q.2]
def sumD (m : Nat) (ts : List (Nat × Int)) : Dv := .tup [.int m, .tup (ts.map termD)]
structure SumAt (K : PySem.W.Frag) (H : Hp) (v : V) (m : Nat) (ts : List (Nat × Int)) : Prop where
  at_ : ∃ (a b : Addr) (vs : List V), v = .ref a ∧ SqT K H a [.int m, .ref b] ∧ SqT K H b vs ∧ Reps K H (ts.map termD) vs
theorem SumAt.of {K : PySem.W.Frag} {H : Hp} {v : V} {m : Nat} {ts : List (Nat × Int)} (h : Rep K H (sumD m ts) v) : SumAt K H v m ts := by
  unfold sumD Rep at h
  obtain ⟨a, xs, rfl, ha, hr⟩ := h
  unfold Reps at hr
  obtain ⟨x, r, rfl, h1, hr⟩ := hr
  unfold Rep at h1; subst h1
  unfold Reps at hr
  obtain ⟨x, r, rfl, h2, hr⟩ := hr
  unfold Reps at hr; subst hr
  unfold Rep at h2
  obtain ⟨b, vs, rfl, hb, hr⟩ := h2
  exact ⟨a, b, vs, rfl, ha, hb, hr⟩
theorem SumAt.rep {K : PySem.W.Frag} {H : Hp} {v : V} {m : Nat} {ts : List (Nat × Int)} (h : SumAt K H v m ts) : Rep K H (sumD m ts) v := by
  obtain ⟨a, b, vs, rfl, ha, hb, hr⟩ := h.at_
  unfold sumD Rep
  refine ⟨a, _, rfl, ha, reps_cons rep_int (reps_cons ?_ reps_nil)⟩
  unfold Rep
  exact ⟨b, vs, rfl, hb, hr⟩
theorem SumAt.same {K : PySem.W.Frag} {H H' : Hp} {v : V} {m : Nat} {ts : List (Nat × Int)} (h : SumAt K H v m ts) (s : Same H H') : SumAt K H' v m ts := .of (Rep.same s _ _ h.rep)
end L2
set_option Elab.async false
set_option linter.all false
set_option maxRecDepth 100000
set_option maxHeartbeats 4000000
namespace L2
open PySem PySem.Spec PyProof.Rows
end L2
set_option Elab.async false
set_option linter.all false
set_option maxRecDepth 100000
set_option maxHeartbeats 4000000
namespace L2
open PySem PySem.Spec PyProof.Rows
end L2
set_option Elab.async false
set_option linter.all false
set_option maxRecDepth 100000
set_option maxHeartbeats 4000000
namespace L2
open PySem PySem.Spec PyProof.Rows
theorem Feed.lst {H : Hp} {t : Addr} (F : Feed H t) : ∃ zs, H t = some (.lst zs) := by
  obtain ⟨a, b, k, c, _, h⟩ := F.at_
  exact ⟨_, h⟩
end L2
set_option Elab.async false
set_option linter.all false
set_option maxRecDepth 100000
set_option maxHeartbeats 4000000
namespace L2
open PySem PySem.Spec PyProof.Rows
end L2
set_option Elab.async false
set_option linter.all false
set_option maxRecDepth 100000
set_option maxHeartbeats 4000000
namespace L2
open PySem PySem.Spec PyProof.Rows
section
variable {X : Cx} {K : PySem.W.Frag}
end
end L2
set_option Elab.async false
set_option linter.all false
set_option maxRecDepth 100000
set_option maxHeartbeats 4000000
namespace L2
open PySem PySem.Spec PyProof.Rows
def Nb (x : Int) (k : Nat) : Prop := x.natAbs < 2 ^ k
theorem Nb.mul {x y : Int} {a b : Nat} (hx : Nb x a) (hy : Nb y b) : Nb (x * y) (a + b) := by
  unfold Nb at *
  rw [Int.natAbs_mul, Nat.pow_add]
  exact Nat.mul_lt_mul'' hx hy
theorem Nb.up {x : Int} {a b : Nat} (hx : Nb x a) (h : a ≤ b) : Nb x b := Nat.lt_of_lt_of_le hx (Nat.pow_le_pow_right (by decide) h)
theorem Nb.pow {x : Int} {a : Nat} (hx : Nb x a) : ∀ i, Nb (x ^ i) (a * i + 1)
  | 0 => by unfold Nb; rw [Int.pow_zero]; show 1 < 2 ^ (a * 0 + 1); rw [Nat.mul_zero]; decide
  | i + 1 => by
    rw [Int.pow_succ]
    have := (hx.pow i).mul hx
    rw [show a * (i + 1) + 1 = a * i + 1 + a by rw [Nat.mul_succ]; omega]
    exact this
theorem Nb.okMul {x y : Int} (hx : Nb x 4000) (hy : Nb y 4000) : okMul x y := .inl ⟨hx.up (by decide), hy.up (by decide)⟩
end L2
set_option Elab.async false
set_option linter.all false
set_option maxRecDepth 100000
set_option maxHeartbeats 4000000
namespace L2
open PySem PySem.Spec PyProof.Rows
end L2
set_option Elab.async false
set_option linter.all false
set_option maxRecDepth 100000
set_option maxHeartbeats 4000000
namespace L2
open PySem PySem.Spec PyProof.Rows
end L2
set_option Elab.async false
set_option linter.all false
set_option maxRecDepth 100000
set_option maxHeartbeats 4000000
namespace L2
open PySem PySem.Spec PyProof.Rows
end L2
set_option Elab.async false
set_option linter.all false
set_option maxRecDepth 100000
set_option maxHeartbeats 4000000
namespace HT
open PySem PyProof.Rows
section
variable {prog : Program} {w : World} {A : Around} {E : Value → Shared → Prop} {s : Shared}
end
end HT
namespace L2
open PySem PySem.Spec PyProof.Rows
section
variable {X : Cx} {K : PySem.W.Frag} {e sx : Expr} {te ts : TE} {lo hi : Option Expr} {tl th : TO} {pos p2 : Pos}
end
structure GFeed (H : Hp) (t : Addr) (N : Nat) : Prop where
  at_ : ∃ (l : Addr) (i g c : Int) (ns : List Int), 0 ≤ i ∧ 0 ≤ g ∧ 0 ≤ c ∧ c ≤ N ∧ H t = some (.lst [.ref l, .int i, .int g, .int c]) ∧ l ≠ t ∧ H l = some (.lst (ns.map V.int)) ∧ ns.length ≠ 0
theorem GFeed.same {H H' : Hp} {t : Addr} {N : Nat} (F : GFeed H t N) (h : Same H H') : GFeed H' t N := by
  obtain ⟨l, i, g, c, ns, h1, h2, h3, h4, h5, h6, h7, h8⟩ := F.at_
  exact ⟨l, i, g, c, ns, h1, h2, h3, h4, h _ _ h5, h6, h _ _ h7, h8⟩
theorem GFeed.upd {H : Hp} {t p : Addr} {o : HO} {N : Nat} (F : GFeed H t N) (h : H p = none) : GFeed (L2.upd H p o) t N := F.same (Same.upd h)
theorem GFeed.lst {H : Hp} {t : Addr} {N : Nat} (F : GFeed H t N) : ∃ zs, H t = some (.lst zs) := by
  obtain ⟨l, i, g, c, ns, h1, h2, h3, h4, h5, _⟩ := F.at_
  exact ⟨_, h5⟩
theorem reps_bl {K : PySem.W.Frag} {H : Hp} : ∀ bs : List Bool, Reps K H (bs.map Dv.bl) (bs.map V.bl)
  | [] => reps_nil
  | b :: bs => reps_cons rep_bl (reps_bl bs)
theorem niceDs_bl : ∀ bs : List Bool, niceDs (bs.map Dv.bl) = true ∧ bulkDs (bs.map Dv.bl) = bs.length ∧ depDs (bs.map Dv.bl) = 0
  | [] => by simp [niceDs, bulkDs, depDs]
  | b :: bs => by
    obtain ⟨h1, h2, h3⟩ := niceDs_bl bs
    rw [List.map_cons]
    unfold niceDs bulkDs depDs
    rw [h1, h2, h3, List.length_cons]
    unfold niceD bulkD depD
    exact ⟨rfl, by omega, rfl⟩
end L2
set_option Elab.async false
set_option linter.all false
set_option maxRecDepth 100000
set_option maxHeartbeats 4000000
namespace L2
open PySem PySem.Spec PyProof.Rows
section
variable {X : Cx} {pins : List (Addr × Obj)} {σ : St} {H : Hp} {s : Shared}
theorem KV.get {kvs : List (Key × V)} {vs : List (Key × Value)} (r : KV kvs vs) : ∀ {i : Nat} {q : Key × V}, kvs[i]? = some q → ∃ v, vs[i]? = some (q.1, v) ∧ RelV q.2 v := by
  induction r with
  | nil => intro i q e; simp at e
  | @cons a b l1 l2 h t ih =>
    intro i q e
    cases i with
    | zero =>
      simp at e; subst e
      obtain ⟨b1, b2⟩ := b
      obtain ⟨h1, h2⟩ := h
      exact ⟨b2, by simp; exact h1.symm, h2⟩
    | succ i =>
      obtain ⟨v, h1, h2⟩ := ih (i := i) (q := q) (by simpa using e)
      exact ⟨v, by simpa using h1, h2⟩
end
section
variable {X : Cx} {K : PySem.W.Frag} {tg oe : Expr} {to : TE} {ts : List Expr} {kt : Nat} {tpos apos cpos : Pos}
end
end L2
set_option Elab.async false
set_option linter.all false
set_option maxRecDepth 100000
set_option maxHeartbeats 4000000
namespace L2
open PySem PyProof.Rows
section
variable {prog : Program} {w : World} {A : Around} {E : Value → Shared → Prop} {s : Shared}
end
section
variable {X : Cx}
end
end L2
set_option Elab.async false
set_option linter.all false
set_option maxRecDepth 100000
set_option maxHeartbeats 4000000
namespace L2
open PySem PySem.Spec PyProof.Rows
end L2
set_option Elab.async false
set_option linter.all false
set_option maxRecDepth 100000
set_option maxHeartbeats 4000000
namespace L2
open PySem PySem.Spec PyProof.Rows PySem.W
open Att (noObjs noObjs_get fr_all)
def CdO (a : Addr) (q : Str) : HO := .ext fun h => h.CodeRec (.ref a) q
def Lam (Pt : Addr) (pos : Pos) (q : Str) (H : Hp) : Prop :=
  ∃ ps : Array Value, H Pt = some (.tbl ps) ∧ TriplesOk ps.toList ∧ (codeAmong pos ps.toList = none ∨ ∃ c', codeAmong pos ps.toList = some (.ref c') ∧ H c' = some (CdO c' q))
def Grow (Pt : Addr) (H H' : Hp) : Prop := ∀ b o, b ≠ Pt → H b = some o → H' b = some o
theorem Grow.same {Pt : Addr} {H H' : Hp} (h : Same H H') : Grow Pt H H' := fun b o _ e => h b o e
theorem Lam.same {Pt : Addr} {pos : Pos} {q : Str} {H H' : Hp} (l : Lam Pt pos q H) (h : Same H H') : Lam Pt pos q H' := by
  obtain ⟨ps, a, b, c⟩ := l
  refine ⟨ps, h _ _ a, b, ?_⟩
  rcases c with c | ⟨c', c, d⟩
  · exact .inl c
  · exact .inr ⟨c', c, h _ _ d⟩
section
variable {X : Cx} {pins : List (Addr × Obj)} {σ : List (Option V)} {H : Hp} {s : Shared} {h' : Heap}
end
section
variable {prog : Program} {w : World} {A : Around} {s : Shared}
end
section
variable {X : Cx} {Pt c : Addr} {e : Expr} {te : TE} {p pos kpos lpos np cp sp : Pos} {x qual : Str} {params : Arguments} {scope : Scope} {kd : Nat} {i : Int} {K : PySem.W.Frag}
end
end L2
set_option Elab.async false
set_option linter.all false
set_option maxRecDepth 100000
set_option maxHeartbeats 4000000
namespace L2
open PySem PySem.Spec PyProof.Rows PySem.W
end L2
namespace L2
open PySem
end L2
set_option Elab.async false
set_option linter.all false
set_option maxRecDepth 100000
set_option maxHeartbeats 4000000
namespace L2
open PySem PySem.Spec PyProof.Rows
section
variable {X : Cx} {tg oe : Expr} {to : TE} {apos cpos : Pos}
end
def mIn (K : PySem.W.Frag) (neg : Bool) : R2 := fun x y H Q => match y with
  | .ref p => ∃ xs, (SqL K H p xs ∨ SqT K H p xs) ∧ flatV x = true ∧ xs.all flatV = true ∧ Q (.bl (neg ^^ inV x xs)) H
  | _ => False
section
variable {X : Cx} {K : PySem.W.Frag}
theorem kIn (hK : X.K = K := by rfl) : OpR X (compareOp .In) (mIn K false) := by
  subst hK
  intro pins s σ H x y v u Q I rx ry h
  cases y with
  | ref p =>
    obtain ⟨xs, h1, h2, h3, q⟩ := h
    exact op_in_seq pins s σ H x _ v u Q I rx ry ⟨p, xs, rfl, h1, h2, h3, by simpa using q⟩
  | _ => exact False.elim h
theorem kNotIn (hK : X.K = K := by rfl) : OpR X (compareOp .NotIn) (mIn K true) := by
  subst hK
  intro pins s σ H x y v u Q I rx ry h
  cases y with
  | ref p =>
    obtain ⟨xs, h1, h2, h3, q⟩ := h
    exact op_notIn_seq pins s σ H x _ v u Q I rx ry ⟨p, xs, rfl, h1, h2, h3, by simpa using q⟩
  | _ => exact False.elim h
end
theorem rm_in {K : PySem.W.Frag} {neg : Bool} : RMono (mIn K neg) := fun x y H Q Q' h q => by
  cases y with
  | ref p => obtain ⟨xs, h1, h2, h3, q⟩ := q; exact ⟨xs, h1, h2, h3, h _ _ q⟩
  | _ => exact False.elim q
end L2
set_option Elab.async false
set_option linter.all false
set_option maxRecDepth 100000
set_option maxHeartbeats 4000000
namespace L2
open PySem PySem.Spec PyProof.Rows
section
variable {X : Cx} {K : PySem.W.Frag}
end
end L2
set_option Elab.async false
set_option linter.all false
namespace L2
theorem on1 {α : Type} {P : List α → Prop} (h : ∀ a, P [a]) : ∀ us : List α, us.length = 1 → P us
  | [a], _ => h a
theorem on2 {α : Type} {P : List α → Prop} (h : ∀ a b, P [a, b]) : ∀ us : List α, us.length = 2 → P us
  | [a, b], _ => h a b
open PySem in
theorem star_lst {xs es : List PySem.Expr} {p : Pos} {env : Env} : starEach (.List xs p :: es) env = (false, eval (.List xs p) env) :: starEach es env := by rfl
end L2
set_option Elab.async false
set_option linter.all false
set_option maxRecDepth 100000
set_option maxHeartbeats 4000000
namespace L2
open PySem
def isComp : Expr → Bool
  | .ListComp .. => true
  | .SetComp .. => true
  | .DictComp .. => true
  | _ => false
theorem swaps_not {e : Expr} {t : Option Expr} {l : Nat} {env : Env} (h : isComp e = false) : swapsWith e t l env = pure false := by
  cases e <;> first | rfl | cases h
theorem ps_setN {X : Cx} {pos : Pos} {i : Nat} {x : Str} {e : Expr} {te : TE} {pos' : Pos} (hN : X.N.Nodup) (hi : X.N[i]? = some x) (hx : Loc X.env.scope x) (he : PE X e te) (hs : isComp e = false) (hf : X.fn x = true ∨ X.env.scope.names.lookup x = some .local) :
    PS X (.Assign [.Name x pos'] e pos) (tAsg te (gName i)) := ps_set hN hi hx he (swaps_not hs) hf
end L2
set_option Elab.async false
set_option linter.all false
set_option maxRecDepth 100000
set_option maxHeartbeats 4000000
namespace L2
open PySem PyProof.Rows
section
variable {prog : Program} {w : World} {A : Around} {E : Value → Shared → Prop} {s : Shared}
end
end L2
set_option Elab.async false
set_option linter.all false
set_option maxRecDepth 100000
set_option maxHeartbeats 4000000
namespace L2
open PySem PyProof.Rows
section
variable {X : Cx}
end
end L2
set_option Elab.async false
set_option linter.all false
set_option maxRecDepth 100000
set_option maxHeartbeats 4000000
namespace L2
open PySem PyProof.Rows
abbrev IsZp (h : Heap) (z TI TO : Addr) (f0 bb : Value) : Prop :=
  h.get? z = some { cls := .type "zip", dict := none, data := .fields #[f0, bb, .bool false, .ref TI, .ref TO], slots := #[] }
section
variable {prog : Program} {w : World} {A : Around} {E : Value → Shared → Prop} {s : Shared}
theorem wp_alive {a : Addr} {Q : Option Obj → Shared → Prop} (h : Q (s.heap.get? a) s) : wpAny (model prog w) A (loadIfAlive a) Q E s := fun Γ p hΓ => h
end
end L2
set_option Elab.async false
set_option linter.all false
set_option maxRecDepth 100000
set_option maxHeartbeats 4000000
namespace L2
open PySem PyProof.Rows
section
variable {prog : Program} {w : World} {A : Around} {E : Value → Shared → Prop} {s : Shared}
structure ZS (z TI TO i1 i2 l1 l2 T0 : Addr) (xs ys : Array Value) (i : Nat) (h : Heap) : Prop where
  zp : (i = 0 ∧ IsZip h z TI TO .none) ∨ (0 < i ∧ (∃ b, IsZp h z TI TO (rawInt T0) b) ∧ ∃ a b, IsPair h T0 a b)
  ti : IsPair h TI (.ref i1) (.ref i2)
  to : ∃ a b, IsPair h TO a b
  a1 : h.IsTupleIter i1 l1 i
  a2 : h.IsTupleIter i2 l2 i
  t1 : h.IsTuple l1 xs
  t2 : h.IsTuple l2 ys
end
end L2
set_option Elab.async false
set_option linter.all false
set_option maxRecDepth 100000
set_option maxHeartbeats 4000000
namespace L2
open PySem PyProof.Rows
section
variable {prog : Program} {w : World} {A : Around} {R : Result → Shared → Prop}
end
end L2
set_option Elab.async false
set_option linter.all false
set_option maxRecDepth 100000
set_option maxHeartbeats 4000000
namespace L2
open PySem PyProof.Rows
section
variable {prog : Program} {w : World} {A : Around} {R : Result → Shared → Prop} {s : Shared}
end
section
variable {prog : Program} {w : World} {A : Around} {E : Value → Shared → Prop} {s : Shared}
end
section
variable {X : Cx}
end
end L2
set_option Elab.async false
set_option linter.all false
set_option maxRecDepth 100000
set_option maxHeartbeats 4000000
namespace L2
open PySem
def ins : Nat → Nat → Nat → Nat
  | 0, b, q => 2 * q + b
  | i + 1, b, q => 2 * ins i b (q / 2) + q % 2
end L2
set_option Elab.async false
set_option linter.all false
set_option maxRecDepth 100000
set_option maxHeartbeats 4000000
namespace L2
open PySem PyProof.Rows
section
variable {prog : Program} {w : World} {A : Around} {E : Value → Shared → Prop} {s : Shared}
theorem entry_upd_loop : entryFor table "dict.update.loop" = some Builtin.«dict.update.loop» := entryFor_of_tree (by kernel_rfl)
theorem plain_upd_loop : plainId "dict.update.loop" = true := by decide +kernel
end
section
variable {prog : Program} {w : World} {K : Type} [DecidableEq K] {knd : KeyKind prog w K} {A : Around} {R : Result → Shared → Prop}
theorem set_pairs {E : Value → Shared → Prop} {s : Shared} {d : Addr} {kvs : List (K × Value)} {k : K} {key v : Value} {Q : Unit → Shared → Prop} (hkey : knd.is k key = true) (hm : s.heap.DictOf knd d kvs)
    (hQ : ∀ h' tk, h'.DictOf knd d (stored kvs k v) → Heap.SameBut d s.heap h' → Q () { s with heap := h', toks := tk }) (hsz : kvs.length ≤ sizeLine) :
    wpAny (model prog w) A (dictSet d key v) Q E s := by
  unfold dictSet
  refine wpAny_holding (wpAny_bind (knd.pyHash hkey ?_))
  exact wpAny_dictSetHashed_pairs (s := { s with toks := s.toks + 1 }) hkey hm (fun h' a b => hQ h' _ a b) hsz
end
section
variable {prog : Program} {w : World} {K : Type} [DecidableEq K] {knd : KeyKind prog w K} {A : Around} {E : Value → Shared → Prop} {s : Shared}
end
end L2
set_option Elab.async false
set_option linter.all false
set_option maxRecDepth 100000
set_option maxHeartbeats 4000000
namespace L2
open PySem PyProof.Rows
section
variable {X : Cx}
end
end L2
set_option Elab.async false
set_option linter.all false
set_option maxRecDepth 100000
set_option maxHeartbeats 4000000
namespace L2
open PySem PyProof.Rows
abbrev EnB (h : Heap) (e it : Addr) (i : Int) (f0 bb old : Value) : Prop :=
  h.get? e = some { cls := .type "enumerate", dict := none, data := .fields #[f0, bb, .ref it, rawInt i, .none, old], slots := #[] }
section
variable {prog : Program} {w : World} {A : Around} {E : Value → Shared → Prop} {s : Shared}
theorem not_freeE {e it T0 : Addr} {i : Int} {bb old a b : Value} {Q : Bool → Shared → Prop} (hz : EnB s.heap e it i (rawInt T0) bb old) (hT : IsPair s.heap T0 a b)
    (hQ : ∀ h' b', EnB h' e it i (rawInt T0) b' old → Heap.SameBut e s.heap h' → Q false { s with heap := h' }) :
    wpAny (model prog w) A (Builtin.SmallTypes.ownedTupleIsFree (.ref e)) Q E s := by
  unfold Builtin.SmallTypes.ownedTupleIsFree
  refine wpAny_bind (wpAny_field hz rfl (x := rawInt T0) rfl ?_)
  show wpAny _ _ (loadIfAlive ((T0 : Int).toNat) >>= _) _ _ _
  rw [Int.toNat_natCast]
  refine wpAny_bind (wp_alive ?_)
  rw [hT]
  simp only [Option.isNone_some, Bool.false_eq_true, if_false]
  refine wpAny_bind (wpAny_field hz rfl (x := bb) rfl ?_)
  refine wpAny_ite_split (fun _ => ?_) (fun _ => ?_)
  · refine wpAny_bind (wpAny_setField_rec hz (by simp) fun h₁ hz₁ hs₁ => wpAny_pure ?_)
    exact hQ h₁ _ hz₁ hs₁
  · exact wpAny_pure (hQ s.heap bb hz ⟨rfl, fun _ _ => rfl⟩)
theorem enb_item {e it T0 : Addr} {fp : List Addr} {n i : Nat} {P : Nat → Value → Prop} {St : Nat → Heap → Prop} {bb old ta tb : Value} {Q : Value → Shared → Prop}
    (D : Draws prog w A it fp n P St) (he : EnB s.heap e it i (rawInt T0) bb old) (hT : IsPair s.heap T0 ta tb) (hTe : T0 ≠ e) (hTi : T0 ≠ it) (hst : St i s.heap) (hlt : i < n) (hne : e ≠ it) (hef : e ∉ fp)
    (hQ : ∀ x h' tk b', P i x → EnB h' e it ((i : Int) + 1) (rawInt T0) b' old → St (i + 1) h' →
      h'.get? s.heap.objs.size = some { cls := .type "tuple", data := .seq #[.int i tk, x] } → h'.objs.size = s.heap.objs.size + 1 →
      (∀ b o, b ≠ e → b ≠ it → s.heap.get? b = some o → h'.get? b = some o) → Q (.ref s.heap.objs.size) { s with heap := h', toks := tk + 1 }) :
    wpAny (model prog w) A (Builtin.«enumerate.__next__» ⟨[.ref e], []⟩) (fun fin s' => ∃ v, fin = .done (.ret v) ∧ Q v s') E s := by
  obtain ⟨hp, g, d, tk₀, os⟩ := s
  show wpAny _ _ (field (.ref e) 2 >>= _) _ _ _
  refine wpAny_bind (wpAny_field he rfl (x := .ref it) rfl ?_)
  refine wpAny_bind (D.item i _ _ _ hlt hst fun x h₁ tk hPx hit₁ hs₁ => ?_)
  replace hs₁ : Heap.SameBut it hp h₁ := hs₁
  have he₁ : EnB h₁ e it i (rawInt T0) bb old := (hs₁.2 e hne).trans he
  show wpAny _ _ (field (.ref e) 3 >>= _) _ _ ⟨h₁, g, d, tk, os⟩
  refine wpAny_bind (wpAny_field he₁ rfl (x := rawInt i) rfl ?_)
  show wpAny _ _ (field (.ref e) 4 >>= _) _ _ ⟨h₁, g, d, tk, os⟩
  refine wpAny_bind (wpAny_field he₁ rfl (x := .none) rfl ?_)
  show wpAny _ _ (mkInt i >>= _) _ _ ⟨h₁, g, d, tk, os⟩
  refine wpAny_bind (wpAny_mkInt ?_)
  show wpAny _ _ (setField (.ref e) 3 (rawInt ((i : Int) + 1)) >>= _) _ _ ⟨h₁, g, d, tk + 1, os⟩
  refine wpAny_bind (wpAny_setField_rec he₁ (by simp) fun h₂ he₂ hs₂ => ?_)
  replace hs₂ : Heap.SameBut e h₁ h₂ := hs₂
  replace he₂ : EnB h₂ e it ((i : Int) + 1) (rawInt T0) bb old := he₂
  show wpAny _ _ (setField (.ref e) 4 .none >>= _) _ _ ⟨h₂, g, d, tk + 1, os⟩
  refine wpAny_bind (wpAny_setField_rec he₂ (by simp) fun h₃ he₃ hs₃ => ?_)
  replace hs₃ : Heap.SameBut e h₂ h₃ := hs₃
  replace he₃ : EnB h₃ e it ((i : Int) + 1) (rawInt T0) bb old := he₃
  show wpAny _ _ (newTuple [.int i tk, x] >>= _) _ _ ⟨h₃, g, d, tk + 1, os⟩
  refine wpAny_bind (wpAny_newTuple ?_)
  have hsz : h₃.objs.size = hp.objs.size := by rw [hs₃.1, hs₂.1, hs₁.1]
  have hT3 : IsPair h₃ T0 ta tb := hs₃.extBut _ _ hTe (hs₂.extBut _ _ hTe (hs₁.extBut _ _ hTi hT))
  have hel : e < hp.objs.size := Heap.lt_size he
  show wpAny _ _ (Builtin.SmallTypes.ownedTupleIsFree (.ref e) >>= _) _ _ ⟨h₃.push { cls := .type "tuple", data := .seq #[.int i tk, x] }, g, d, tk + 1, os⟩
  refine wpAny_bind (not_freeE (s := ⟨h₃.push { cls := .type "tuple", data := .seq #[.int i tk, x] }, g, d, tk + 1, os⟩) (Heap.get?_push_of_some _ he₃) (Heap.get?_push_of_some _ hT3) fun h₅ b' he₅ hs₅ => ?_)
  replace hs₅ : Heap.SameBut e (h₃.push { cls := .type "tuple", data := .seq #[.int i tk, x] }) h₅ := hs₅
  simp only [Bool.false_eq_true, if_false]
  refine wpAny_pure ⟨_, rfl, ?_⟩
  show Q (.ref h₃.objs.size) _
  rw [hsz]
  refine hQ x h₅ tk b' hPx he₅ ?_ ?_ ?_ ?_
  · exact D.frame _ _ _ hit₁ fun b hb o y => by
      have hbe : b ≠ e := fun q => hef (q ▸ hb)
      exact hs₅.extBut b o hbe (Heap.get?_push_of_some _ (hs₃.extBut b o hbe (hs₂.extBut b o hbe y)))
  · show h₅.get? hp.objs.size = _
    refine hs₅.extBut _ _ (Nat.ne_of_gt hel) ?_
    rw [← hsz]; exact Heap.get?_push_size _ rfl
  · show h₅.objs.size = hp.objs.size + 1
    rw [hs₅.1, Heap.size_push, hsz]
  · exact fun b o hbe hbi hb => hs₅.extBut b o hbe (Heap.get?_push_of_some _ (hs₃.extBut b o hbe (hs₂.extBut b o hbe (hs₁.extBut b o hbi hb))))
end
end L2
set_option Elab.async false
set_option linter.all false
set_option maxRecDepth 100000
set_option maxHeartbeats 4000000
namespace L2
open PySem PyProof.Rows
theorem keys_noneE : typeLookup (.type "enumerate") "keys" = pure none := by rw [typeLookup_type, builtinLookup_eq_fast]; kernel_rfl
theorem am_enum_getattr_none : typeLookup (.type "enumerate") "__getattr__" = pure none := by rw [typeLookup_type, builtinLookup_eq_fast]; kernel_rfl
theorem am_entry_enum_getattribute : entryFor table "enumerate.__getattribute__" = some Builtin.«object.__getattribute__» :=
  entryFor_alias (id' := "object.__getattribute__") (by kernel_rfl) (by decide +kernel) (by decide +kernel) (by kernel_rfl)
theorem meets_miss_enum (a : Addr) (xs : Array Value) (sl : Array (Option Value)) (name : Str) (u : Tok) (hmiss : typeLookup (.type "enumerate") name = pure none) (hname : (["__module__", "__name__", "__qualname__", "__doc__", "__annotations__"] : List Str).contains name = false) (hsz : name.length + 100 ≤ sizeLine := by size_fits) :
    Meets (Builtin.«object.__getattribute__» ⟨[.ref a, .str name u], []⟩) (fun A R s => s.heap.get? a = some { cls := .type "enumerate", dict := none, data := .fields xs, slots := sl } ∧ raisesAttr (.ref a) name A R s) :=
  Meets.of_wp fun prog w A R s hs => by
    obtain ⟨hp, g, d, tk, os⟩ := s
    obtain ⟨hx, hs⟩ := hs
    have hT : (⟨hp, g, d, tk, os⟩ : Shared).TypeIs (.ref a) "enumerate" := ⟨_, hx, rfl⟩
    unfold Builtin.«object.__getattribute__»
    repeat (any_goals (first | assumption | wp_step))
    simp only [hname, Bool.false_eq_true, if_false]
    repeat (any_goals (first | assumption | wp_step))
    exact wpAny_raiseAttrError hs.1 hs.2 (attrMsg_fits (by decide +kernel) hsz)
section
variable {prog : Program} {w : World} {A : Around} {E : Value → Shared → Prop} {s : Shared}
set_option maxRecDepth 8000 in
theorem no_keysE {a : Addr} {xs : Array Value} {sl : Array (Option Value)} {Q : Option Value → Shared → Prop}
    (hx : s.heap.get? a = some { cls := .type "enumerate", dict := none, data := .fields xs, slots := sl }) (hA : A.handled = none)
    (h : ∀ h' tk e, Heap.NewExcOf s.heap h' e "AttributeError" → Q none { s with heap := h', toks := tk }) :
    wpAny (model prog w) A (getAttr? (.ref a) "keys") Q E s := by
  obtain ⟨hp, g, d, tk, os⟩ := s
  have hT : ∀ tk', (⟨hp, g, d, tk', os⟩ : Shared).TypeIs (.ref a) "enumerate" := fun _ => ⟨_, hx, rfl⟩
  have f1 := sub_AttributeError
  have f3 := F.slot_enumerate_getattribute.lookup
  have f4 := F.slot_enumerate_getattribute.bind (.ref a)
  have f5 := am_enum_getattr_none
  unfold getAttr? getAttrBy? getAttrBy
  repeat (any_goals (first | assumption | exact hT _ | ((with_reducible show wpAny _ _ (call (Value.builtin "enumerate.__getattribute__") _ _) _ _ _); refine call_meets F.slot_enumerate_getattribute (hT _) am_entry_enum_getattribute (F.args_enumerate_getattribute_2 _ _) (meets_miss_enum a xs sl "keys" _ keys_noneE (by decide +kernel) (by size_fits)) ⟨hx, hA, fun h' tk' e hx' => ?_⟩) | wp_step))
  obtain ⟨t', u', he⟩ := hx'.there
  show wpAny _ _ (getattributeRaised _ _ _ _ _ _ _) _ _ _
  unfold getattributeRaised
  repeat (any_goals (first | assumption | wp_step))
  exact h _ _ _ hx'.of
theorem enb_end {e it : Addr} {fp : List Addr} {n : Nat} {P : Nat → Value → Prop} {St : Nat → Heap → Prop} {i : Int} {f0 bb old : Value} {Q : Option Value → Shared → Prop}
    (D : Draws prog w A.in1 it fp n P St) (he : EnB s.heap e it i f0 bb old) (hst : St n s.heap)
    (hQ : ∀ h', Heap.ExtBut it s.heap h' → Q none { s with heap := h' }) : wpAny (model prog w) A (pyNext (.ref e)) Q E s := by
  have hT : s.TypeIs (.ref e) "enumerate" := ⟨_, he, rfl⟩
  unfold pyNext
  refine wpAny_bind (wpAny_attempt (wpAny_callSpecial?_slot (name := Str.ofString "__next__") hT F.slot_enumerate_next
    (wpAny_call_entry F.slot_enumerate_next hT F.entry_enumerate_next ?_ (F.args_enumerate_next_1 _))))
  show wpAny _ _ (field (.ref e) 2 >>= _) _ _ _
  refine wpAny_bind (wpAny_field he rfl (x := .ref it) rfl ?_)
  refine wpAny_bind (D.done _ _ _ hst fun h' x he' hx' => ?_)
  obtain ⟨o, ho, hc⟩ := hx'
  refine wpAny_bind (wpAny_isInstance (T := "StopIteration") (b := true) ⟨o, ho, hc⟩ isSubtype_stop ?_)
  exact wpAny_pure (hQ _ he')
def ES (e it : Addr) (i : Nat) (h : Heap) : Prop := (∃ old, IsEnum h e it i old) ∨ ∃ (T0 : Addr) (bb old a b : Value), EnB h e it i (rawInt T0) bb old ∧ IsPair h T0 a b
theorem es_item {e it l : Addr} {items : Array Value} {i : Nat} {x : Value} {Q : Option Value → Shared → Prop} (hh : A.handled = none) (hne : e ≠ it) (Z : ES e it i s.heap) (hit : s.heap.IsListIter it l i) (hl : s.heap.IsList l items) (hx : items[i]? = some x)
    (hQ : ∀ h' tk, ES e it (i + 1) h' → h'.IsListIter it l (i + 1) → h'.IsList l items → h'.get? s.heap.objs.size = some { cls := .type "tuple", data := .seq #[.int i tk, x] } →
      (∀ b o, b ≠ e → b ≠ it → s.heap.get? b = some o → h'.get? b = some o) → Q (some (.ref s.heap.objs.size)) { s with heap := h', toks := tk + 1 }) :
    wpAny (model prog w) A (pyNext (.ref e)) Q E s := by
  obtain ⟨oi, hoi, hci, _⟩ := id hit
  obtain ⟨ol, hol, hcl, _⟩ := id hl
  have cls : ∀ {b c : Addr} {o o' : Obj}, s.heap.get? b = some o → s.heap.get? c = some o' → o.cls ≠ o'.cls → b ≠ c := fun {b c o o'} x y n q => by subst q; rw [x] at y; cases y; exact n rfl
  have hli : l ≠ it := cls hol hoi (by rw [hcl, hci]; simp)
  have D := Draws.list (prog := prog) (w := w) (A := A.in1) hh it l hli items
  have hlt : i < items.size := (Array.getElem?_eq_some_iff.mp hx).1
  have hoe : ∃ o, s.heap.get? e = some o ∧ o.cls = .type "enumerate" := by
    rcases Z with ⟨old, q⟩ | ⟨T0, bb, old, a, b, q, _⟩
    · exact ⟨_, q, rfl⟩
    · exact ⟨_, q, rfl⟩
  obtain ⟨oe, hoe, hce⟩ := hoe
  have hle : l ≠ e := cls hol hoe (by rw [hcl, hce]; simp)
  have hef : e ∉ [it, l] := by
    simp only [List.mem_cons, List.mem_nil_iff, or_false, not_or]
    exact ⟨hne, hle.symm⟩
  have fin : ∀ {y : Value}, items[i]? = some y → y = x := fun h => Option.some.inj (h.symm.trans hx)
  rcases Z with ⟨old, q⟩ | ⟨T0, bb, old, a, b, q, hT⟩
  · refine wpAny_pyNext_enum_itemD D q ⟨hit, hl⟩ hlt hne hef fun y h' tk py z1 z2 z3 z4 z5 => ?_
    cases fin py
    exact hQ h' tk (.inr ⟨_, _, _, _, _, z1, z3⟩) z2.1 z2.2 z3 z5
  · have hTy : s.TypeIs (.ref e) "enumerate" := ⟨_, q, rfl⟩
    have hTe : T0 ≠ e := cls hT q (by simp)
    have hTi : T0 ≠ it := cls hT hoi (by rw [hci]; simp)
    unfold pyNext
    refine wpAny_bind (wpAny_attempt (wpAny_callSpecial?_slot (name := Str.ofString "__next__") hTy F.slot_enumerate_next
      (wpAny_call_entry F.slot_enumerate_next hTy F.entry_enumerate_next
        (enb_item D q hT hTe hTi ⟨hit, hl⟩ hlt hne hef fun y h' tk b' py z1 z2 z3 z4 z5 => wpAny_pure ?_) (F.args_enumerate_next_1 _))))
    cases fin py
    exact hQ h' tk (.inr ⟨T0, b', _, _, _, z1, z5 _ _ hTe hTi hT⟩) z2.1 z2.2 z3 z5
end
section
variable {prog : Program} {w : World} {K : Type} [DecidableEq K] {knd : KeyKind prog w K} {A : Around} {R : Result → Shared → Prop}
theorem ES.keep {e it d : Addr} {i : Nat} {h h' : Heap} {od : Obj} (Z : ES e it i h) (hd : h.get? d = some od) (hc : od.cls = .type "dict") (k : ∀ b o, b ≠ d → h.get? b = some o → h'.get? b = some o) : ES e it i h' := by
  have kk : ∀ b o, h.get? b = some o → o.cls ≠ .type "dict" → h'.get? b = some o := fun b o e n => k b o (fun q => by subst q; rw [hd] at e; cases e; exact n hc) e
  rcases Z with ⟨old, q⟩ | ⟨T0, bb, old, a, b, q, hT⟩
  · exact .inl ⟨old, kk _ _ q (by simp)⟩
  · exact .inr ⟨T0, bb, old, a, b, kk _ _ q (by simp), kk _ _ hT (by simp)⟩
theorem enum_loop {d e it l : Addr} {items : Array Value} {n : Nat} {res : Value} (hh : A.handled = none) (hne : e ≠ it) (kf : Nat → K) (hkf : ∀ j t, knd.is (kf j) (.int (j : Nat) t) = true) (vf : Nat → Value) (hn1 : n ≤ 1000) (his : items.size = n) (hvf : ∀ j, j < n → items[j]? = some (vf j)) :
    ∀ (k i : Nat) (s : Shared), n - i = k → i ≤ n → ES e it i s.heap → s.heap.IsListIter it l i → s.heap.IsList l items → s.heap.DictOf knd d (merged [] ((List.range i).map fun j => (kf j, vf j))) →
    (∀ h' tk, h'.DictOf knd d (merged [] ((List.range n).map fun j => (kf j, vf j))) → (∀ b o, b ≠ d → b ≠ it → b ≠ e → s.heap.get? b = some o → h'.get? b = some o) → R (.ok (.ret res)) { s with heap := h', toks := tk }) →
    codeAny (model prog w) A (.builtin "dict.update.loop" ⟨[.ref d, .ref e, rawInt i, res], []⟩) R s := by
  have hsl : sizeLine = 2 ^ 24 := by rw [sizeLine_eq]
  intro k
  induction k with
  | zero =>
    intro i s hk hi Z hit hl hd hR
    have hin : i = n := by omega
    subst hin
    refine codeAny_builtin entry_upd_loop ?_
    rw [Around.under_plainId plain_upd_loop _]
    show wpAny _ A.in1 (pyNext (.ref e) >>= _) _ _ s
    obtain ⟨od, _, _, hod, hcd, _⟩ := id hd
    obtain ⟨oi, hoi, hci, _⟩ := id hit
    obtain ⟨ol, hol, hcl, _⟩ := id hl
    have cls : ∀ {b c : Addr} {o o' : Obj}, s.heap.get? b = some o → s.heap.get? c = some o' → o.cls ≠ o'.cls → b ≠ c := fun {b c o o'} x y n q => by subst q; rw [x] at y; cases y; exact n rfl
    have hdi : d ≠ it := cls hod hoi (by rw [hcd.1, hci]; simp)
    have hli : l ≠ it := cls hol hoi (by rw [hcl, hci]; simp)
    have D := Draws.list (prog := prog) (w := w) (A := A.in1.in1) hh it l hli items
    obtain ⟨f0, bb, old, q⟩ : ∃ f0 bb old, EnB s.heap e it i f0 bb old := by
      rcases Z with ⟨old, q⟩ | ⟨T0, bb, old, a, b, q, hT⟩
      · exact ⟨_, _, _, q⟩
      · exact ⟨_, _, _, q⟩
    refine wpAny_bind (enb_end (A := A.in1) D q ⟨by rw [his]; exact hit, hl⟩ fun h' hk' => ?_)
    show wpAny _ _ (Builtin.Dict.addKeywords d [] >>= fun _ => ret res) _ _ _
    refine wpAny_bind (wpAny_pure (wpAny_pure ?_))
    exact hR h' s.toks (Heap.DictOf.at hd fun o e => hk' _ _ hdi e) fun b o _ hb _ e => hk' b o hb e
  | succ k ih =>
    intro i s hk hi Z hit hl hd hR
    have hlt : i < n := by omega
    refine codeAny_builtin entry_upd_loop ?_
    rw [Around.under_plainId plain_upd_loop _]
    show wpAny _ A.in1 (pyNext (.ref e) >>= _) _ _ s
    obtain ⟨od, _, _, hod, hcd, _⟩ := id hd
    have hcd1 := hcd.1
    obtain ⟨oi, hoi, hci, _⟩ := id hit
    obtain ⟨ol, hol, hcl, _⟩ := id hl
    have cls : ∀ {b c : Addr} {o o' : Obj}, s.heap.get? b = some o → s.heap.get? c = some o' → o.cls ≠ o'.cls → b ≠ c := fun {b c o o'} x y n q => by subst q; rw [x] at y; cases y; exact n rfl
    have hoe : ∃ o, s.heap.get? e = some o ∧ o.cls = .type "enumerate" := by
      rcases Z with ⟨old, q⟩ | ⟨T0, bb, old, a, b, q, _⟩
      · exact ⟨_, q, rfl⟩
      · exact ⟨_, q, rfl⟩
    obtain ⟨oe, hoe, hce⟩ := hoe
    have hdi : d ≠ it := cls hod hoi (by rw [hcd1, hci]; simp)
    have hde : d ≠ e := cls hod hoe (by rw [hcd1, hce]; simp)
    have hld : l ≠ d := cls hol hod (by rw [hcl, hcd1]; simp)
    refine wpAny_bind (es_item (A := A.in1) hh hne Z hit hl (hvf i hlt) fun h₁ tk Z1 hit1 hl1 hp hk1 => ?_)
    have hd1 : h₁.DictOf knd d (merged [] ((List.range i).map fun j => (kf j, vf j))) := Heap.DictOf.at hd fun o q => hk1 _ _ hde hdi q
    have hod1 := hk1 _ _ hde hdi hod
    show wpAny _ A.in1 (holding [Value.ref s.heap.objs.size] _ >>= _) _ _ _
    refine wpAny_bind (wpAny_holding ?_)
    refine wpAny_bind (wpAny_tryCatch ?_)
    unfold Builtin.Dict.pairItems
    refine wpAny_bind (wpAny_typeOf (s := { s with heap := h₁, toks := tk + 1 }) (T := "tuple") ⟨_, hp, rfl⟩ ?_)
    have e1 : (Value.type "tuple" == Value.type "list" || Value.type "tuple" == Value.type "tuple") = true := by decide
    rw [if_pos e1]
    refine wpAny_bind (wpAny_seqItems hp rfl (wpAny_pure ?_))
    show wpAny _ A.in1 (holding [.int i tk, vf i] (dictSet d (.int i tk) (vf i))) _ _ _
    refine wpAny_holding (set_pairs (s := { s with heap := h₁, toks := tk + 1 }) (hkf i tk) hd1 (fun h₂ tk2 hd₂ hs₂ => ?_) ?_)
    · refine wpAny_pure ⟨plainId_quiet plain_upd_loop _, ?_⟩
      replace hs₂ : Heap.SameBut d h₁ h₂ := hs₂
      have hd₂' : h₂.DictOf knd d (merged [] ((List.range (i + 1)).map fun j => (kf j, vf j))) := by
        rw [List.range_succ, List.map_append]
        have : merged [] ((List.range i).map (fun j => (kf j, vf j)) ++ [(kf i, vf i)]) = stored (merged [] ((List.range i).map fun j => (kf j, vf j))) (kf i) (vf i) := by
          unfold merged
          rw [List.foldl_append]
          rfl
        rw [show [i].map (fun j => (kf j, vf j)) = [(kf i, vf i)] from rfl, this]
        exact hd₂
      have hod2 := hod1
      obtain ⟨oi1, hoi1, hci1, _⟩ := id hit1
      have hdi1 : it ≠ d := fun q => hdi q.symm
      have := ih (i + 1) { s with heap := h₂, toks := tk2 } (by omega) hlt (Z1.keep hod1 hcd1 fun b o hb q => hs₂.extBut _ _ hb q) (hit1.extBut hs₂.extBut hdi1) (hl1.extBut hs₂.extBut hld) hd₂' fun h' tk' a1 a2 => hR h' tk' a1 fun b o b1 b2 b3 q => a2 b o b1 b2 b3 (hs₂.extBut _ _ b1 (hk1 b o b3 b2 q))
      exact this
    · have := merged_length_le [] ((List.range i).map fun j => (kf j, vf j))
      rw [List.length_map, List.length_range] at this
      simp only [List.length_nil] at this
      omega
end
end L2
set_option Elab.async false
set_option linter.all false
set_option maxRecDepth 100000
set_option maxHeartbeats 4000000
namespace L2
open PySem PyProof.Rows
section
variable {prog : Program} {w : World} {K : Type} [DecidableEq K] {knd : KeyKind prog w K} {A : Around} {E : Value → Shared → Prop} {s : Shared}
theorem call_dict_enum {e it l : Addr} {items : Array Value} {n : Nat} {old : Value} {Q : Value → Shared → Prop} (hh : A.handled = none) (hne : e ≠ it) (kf : Nat → K) (hkf : ∀ j t, knd.is (kf j) (.int (j : Nat) t) = true) (vf : Nat → Value) (hn1 : n ≤ 1000) (his : items.size = n) (hvf : ∀ j, j < n → items[j]? = some (vf j))
    (he : IsEnum s.heap e it (0 : Nat) old) (hit : s.heap.IsListIter it l 0) (hl : s.heap.IsList l items) (hnd : (((List.range n).map fun j => (kf j, vf j)).map (·.1)).Nodup)
    (h : ∀ h' tk, h'.DictOf knd s.heap.objs.size ((List.range n).map fun j => (kf j, vf j)) → (∀ b o, b ≠ it → b ≠ e → s.heap.get? b = some o → h'.get? b = some o) → Q (.ref s.heap.objs.size) { s with heap := h', toks := tk }) :
    wpAny (model prog w) A (call (.type "dict") [.ref e]) Q E s := by
  refine callType_codes (Q₁ := fun obj s₁ => obj = .ref s.heap.objs.size ∧ s₁ = { s with heap := s.heap.push { cls := .type "dict", data := .dict #[] } }) F.kt_called_dict (F.kt_typeCall_dict_1 _) F.entry_dict_init (kt_code_dict_new _ ⟨rfl, rfl⟩) ?_
  rintro obj s₁ ⟨rfl, rfl⟩
  have hnew : (s.heap.push { cls := .type "dict", data := .dict #[] }).DictOf knd s.heap.objs.size [] := Heap.DictOf.new s.heap
  have he1 : IsEnum (s.heap.push { cls := .type "dict", data := .dict #[] }) e it (0 : Nat) old := Heap.get?_push_of_some _ he
  refine ⟨hnew.typeIs, F.args_dict_init_2 _ _, ?_⟩
  unfold Builtin.«dict.__init__»
  refine wpAny_bind ?_
  unfold Builtin.Dict.selfAndRest
  refine wpAny_bind (wpAny_notOrdered_dict hnew.typeIs ?_)
  show wpAny _ _ (pure (s.heap.objs.size, [Value.ref e])) _ _ _
  refine wpAny_pure ?_
  show wpAny _ _ (Builtin.Dict.updateFrom "dict.__init__" s.heap.objs.size (.ref e) [] .none) _ _ _
  unfold Builtin.Dict.updateFrom
  refine wpAny_bind (wpAny_typeOf (T := "enumerate") ⟨_, he1, rfl⟩ ?_)
  rw [if_pos (by decide)]
  refine wpAny_bind (no_keysE (A := A.in1.in1) he1 hh fun h₁ tk₁ ex hex => ?_)
  simp only [Option.isNone_none, if_true]
  refine wpAny_bind (wpAny_rule ?_)
  have keep1 : ∀ b o, s.heap.get? b = some o → h₁.get? b = some o := fun b o q => hex.keeps _ _ (Heap.get?_push_of_some _ q)
  refine wpAny_bind (wpAny_pyIter_enum (s := { s with heap := h₁, toks := tk₁ }) (hex.keeps _ _ he1) ?_)
  refine wpAny_pure ⟨plainId_quiet plain_upd_loop _, enum_loop (A := A.in1) (knd := knd) (e := e) (it := it) (l := l) hh hne kf hkf vf hn1 his hvf n 0 _ (Nat.sub_zero _) (Nat.zero_le _) (.inl ⟨old, hex.keeps _ _ he1⟩) ?_ ?_ ?_ fun h' tk a1 a2 => ?_⟩
  · exact hit.at fun o q => keep1 _ _ q
  · exact hl.at fun o q => keep1 _ _ q
  · exact Heap.DictOf.at hnew fun o q => hex.keeps _ _ q
  · rw [merged_nil_of_nodup _ hnd] at a1
    exact ⟨rfl, h h' tk a1 fun b o b1 b2 q => a2 b o (Nat.ne_of_lt (Heap.lt_size q)) b1 b2 (keep1 _ _ q)⟩
end
section
variable {X : Cx}
def enK (xs : List V) : List (Key × V) := (List.range xs.length).map fun (j : Nat) => ((Sum.inl ((j : Nat) : Int) : Key), xs.getD j .non)
def tDE (K : PySem.W.Frag) (ta : TA) : TE := fun σ H Q => ta σ H fun vs H1 => match vs with
  | [.ref a] => ∃ xs, SqL K H1 a xs ∧ xs.length ≤ 1000 ∧ ∀ d, H1 d = none → Q (.ref d) (upd H1 d (.dK (enK xs)))
  | _ => False
theorem em_de {K : PySem.W.Frag} {ta : TA} (h : AMono ta) : EMono (tDE K ta) := fun σ H Q Q' k q => h _ _ _ _ (fun vs _ q => by
  match vs, q with
  | [.ref a], ⟨xs, h1, h2, q⟩ => exact ⟨xs, h1, h2, fun d hd => k _ _ (q d hd)⟩) q
theorem kDictEnum {K : PySem.W.Frag} {a : Expr} {ta : TA} {p pos p2 pos2 : Pos} (hc : X.calm = true) (hg : Gl X "dict") (hm : X.mg "dict" = none) (hg2 : Gl X "enumerate") (hm2 : X.mg "enumerate" = none) (ha : PA X [a] ta)
    (hs : starEach [a] X.env = [(false, eval a X.env)] := by rfl)
    (hs3 : starEach [.Call (.Name "enumerate" p2) [a] [] pos2] X.env = [(false, eval (.Call (.Name "enumerate" p2) [a] [] pos2) X.env)] := by rfl) (hK : X.K = K := by rfl) :
    PE X (.Call (.Name "dict" p) [.Call (.Name "enumerate" p2) [a] [] pos2] [] pos) (tDE K ta) := by
  subst hK
  intro pins s σ H Q I h
  refine Call_ (ld_blt I hg hm (by rfl : bootBuiltins "dict" = some (.type "dict")) (PyProof.Rows.callWith_type1 ?_ (by rw [hs3]; rfl) (by rfl)))
  rw [hs3]
  show wpAny _ _ (spliced ((false, eval (.Call (.Name "enumerate" p2) [a] [] pos2) X.env) :: [])) _ _ s
  refine Calls.spliced_cons ?_
  refine Call_ (ld_blt I hg2 hm2 (by rfl : bootBuiltins "enumerate" = some (.type "enumerate")) (PyProof.Rows.callWith_type1 (thn (ha pos2 pins s σ H _ I h) fun us s1 ⟨vs, H1, I1, r1, q1⟩ => ?_) (by rw [hs]; rfl) (by rfl)))
  match vs, q1, r1 with
  | [.ref l1], ⟨xs, hx, hn, q⟩, r1 =>
  cases r1 with
  | cons r rr =>
  cases rr
  cases r
  obtain ⟨its, rv, p1, _⟩ := I1.list hx
  have e1 := rv.length
  refine call_enumerate_list p1.isList fun h' z1 z2 z3 z4 => ?_
  refine Calls.spliced_nil ?_
  have hfx : ∀ j, j < xs.length → its.toArray[j]? = some (its.getD j .none) := fun j hj => by
    have : j < its.length := by omega
    simp [List.getD_eq_getElem?_getD, this]
  have nd : (((List.range xs.length).map fun (j : Nat) => ((Sum.inl ((j : Nat) : Int) : Key), its.getD j .none)).map (·.1)).Nodup := by
    rw [List.map_map]
    have : ∀ L : List Nat, L.Nodup → (L.map ((·.1) ∘ fun (j : Nat) => ((Sum.inl ((j : Nat) : Int) : Key), its.getD j .none))).Nodup := fun L => by
      induction L with
      | nil => intro _; exact List.nodup_nil
      | cons x L ih =>
        intro h
        rw [List.nodup_cons] at h
        rw [List.map_cons, List.nodup_cons]
        refine ⟨fun hm => ?_, ih h.2⟩
        obtain ⟨y, hy, e⟩ := List.mem_map.mp hm
        have h2 : ((y : Nat) : Int) = ((x : Nat) : Int) := by simpa using e
        have : y = x := by omega
        exact h.1 (this ▸ hy)
    exact this _ List.nodup_range
  refine call_dict_enum (knd := mixKind X.prog X.w) (s := { s1 with heap := h' }) (n := xs.length) (l := l1) (I.ok.hd hc) (Nat.ne_of_gt (Nat.lt_succ_self _)) (fun (j : Nat) => (Sum.inl ((j : Nat) : Int) : Key)) (fun j t => mixKind_int _ _ _ _) (fun j => its.getD j .none) hn (by simp; omega) hfx z1 z2 (p1.isList.at fun o q => z4 _ _ q) nd fun h2 tk a1 a2 => ?_
  have keep : ∀ b u, s1.heap.get? b = some u → h2.get? b = some u := fun b u e => by
    have := Heap.lt_size e
    exact a2 b u (Nat.ne_of_lt this) (Nat.ne_of_lt (Nat.lt_succ_of_lt this)) (z4 b u e)
  have hle : s1.heap.objs.size ≤ h'.objs.size := by rw [z3]; exact Nat.le_add_right _ _
  have hbig : sysModules < h'.objs.size := Nat.lt_of_lt_of_le I1.big hle
  refine ⟨.ref h'.objs.size, _, I1.laid (t' := tk) (a := h'.objs.size) (o := .dK (enK xs)) keep hle ?_, rfl, q _ (I1.hok.fresh hle)⟩
  refine ⟨by unfold enK; rw [List.length_map, List.length_range]; exact small_le hn, beq_eq_false_iff_ne.mpr (Ne.symm (Nat.ne_of_lt hbig)), _, ?_, a1⟩
  unfold enK
  have rel : ∀ L : List Nat, (∀ j ∈ L, j < xs.length) → KV (L.map fun (j : Nat) => ((Sum.inl ((j : Nat) : Int) : Key), xs.getD j .non)) (L.map fun (j : Nat) => ((Sum.inl ((j : Nat) : Int) : Key), its.getD j .none)) := fun L => by
    induction L with
    | nil => intro _; exact .nil
    | cons j L ih =>
      intro hj
      have hjl := hj j List.mem_cons_self
      have hg : xs[j]? = some (xs.getD j .non) := by simp [List.getD_eq_getElem?_getD, hjl]
      obtain ⟨u, hu, ru⟩ := rv.get hg
      have eu : its.getD j .none = u := by rw [List.getD_eq_getElem?_getD, hu]; rfl
      rw [List.map_cons, List.map_cons, eu]
      exact .cons ⟨rfl, ru⟩ (ih fun i hi => hj i (List.mem_cons_of_mem _ hi))
  exact rel _ fun j hj => List.mem_range.mp hj
end
end L2
set_option Elab.async false
set_option linter.all false
set_option maxRecDepth 100000
set_option maxHeartbeats 4000000
namespace L2
open PySem PyProof.Rows
theorem noFill_tuple_mul : fillsNumberSlot (.type "tuple") "mul" = pure false :=
  PySem.fillsNumberSlot_seq (id := "tuple.__mul__") (r := some (.builtin "tuple.__rmul__")) F.slot_tuple_mul.lookup (by decide +kernel) F.slot_tuple_rmul.lookup (by decide +kernel)
theorem repeat_tuple : seqRepeat? (.type "tuple") = pure (some (.builtin "tuple.__mul__")) := by
  unfold seqRepeat?
  rw [PySem.seqSlot_of (T := "tuple") (name := "__mul__") (id := "tuple.__mul__") F.slot_tuple_mul.lookup (by decide +kernel), PySem.seqSlot_of (T := "tuple") (name := "__rmul__") (id := "tuple.__rmul__") F.slot_tuple_rmul.lookup (by decide +kernel)]
  rfl
theorem int_rmul_tup (a : Int) (t : Tok) (l : Addr) (items : Array Value) (n : Nat) (sl : Array (Option Value)) :
    Meets (Builtin.«int.__rmul__» ⟨[.int a t, .ref l], []⟩) (fun _ R s => s.heap.get? l = some { cls := .type "tuple", dict := none, data := .seq items n, slots := sl } ∧ R (.ok (.ret Value.notImplemented)) s) :=
  .of_wp fun prog w A R s h => by obtain ⟨hp, g, d, tk, os⟩ := s; obtain ⟨hl, h⟩ := h; wp_walk; exact ⟨_, rfl, h⟩
theorem tup_mul (l : Addr) (items : Array Value) (n : Nat) (sl : Array (Option Value)) (x : Int) (u : Tok) (h0 : items.isEmpty = false) (h1 : 2 ≤ x) (h2 : x < 2 ^ 63) (h3 : items.size * x.toNat ≤ sizeLine) :
    Meets (Builtin.«tuple.__mul__» ⟨[.ref l, .int x u], []⟩) (fun _ R s => s.heap.get? l = some { cls := .type "tuple", dict := none, data := .seq items n, slots := sl } ∧ R (.ok (.ret (Value.ref s.heap.objs.size))) { s with heap := s.heap.push { cls := Value.type "tuple", data := Data.seq (List.foldl (fun x1 x2 => x1 ++ x2) #[] (List.replicate x.toNat items)) }, toks := s.toks }) :=
  .of_wp fun prog w A R s h => by
    obtain ⟨hp, g, d, tk, os⟩ := s; obtain ⟨hl, h⟩ := h
    have hx : ((x.toNat : Nat) : Int) = x := Int.toNat_of_nonneg (by omega)
    have hm : (items.size : Int) * x = ((items.size * x.toNat : Nat) : Int) := by rw [Int.natCast_mul, hx]
    have hs : (items.size : Int) * x ≤ (sizeLine : Int) := by rw [hm]; exact Int.ofNat_le.mpr h3
    have hl8 : (sizeLine : Int) ≤ (2 ^ 63 - 1) / 8 := by decide
    have hsz : (List.foldl (fun x1 x2 => x1 ++ x2) #[] (List.replicate x.toNat items)).size ≤ sizeLine := by
      rw [AutoListH.size_joined]; simp only [Array.size_empty]; rw [Nat.mul_comm] at h3; omega
    have c1 : (decide (x < -(2 ^ 63)) || decide (x ≥ 2 ^ 63)) = false := by simp; omega
    have c2 : (items.isEmpty || x == 1) = false := by rw [h0]; simp; omega
    have c3 : (decide (x ≤ 0) || items.isEmpty) = false := by rw [h0]; simp; omega
    have c4 : ¬ ((items.size : Int) * x > (2 ^ 63 - 1) / 8) := by omega
    have c5 : Builtin.Tuple.tupleTooMany ((items.size : Int) * x) = false := by unfold Builtin.Tuple.tupleTooMany; simp; exact hs
    wp_walk
    refine wpAny_ite_false (decide_eq_false (by rw [c1]; exact Bool.false_ne_true)) ?_
    wp_walk
    refine wpAny_ite_false (decide_eq_false (by rw [c2]; exact Bool.false_ne_true)) ?_
    wp_walk
    refine wpAny_ite_false (decide_eq_false (by rw [c3]; exact Bool.false_ne_true)) ?_
    refine wpAny_ite_false (decide_eq_false c4) ?_
    refine wpAny_ite_false (decide_eq_false (by rw [c5]; exact Bool.false_ne_true)) ?_
    clear c1 c2 c3 c4 c5 hs hm hx hl8
    wp_walk
    exact ⟨_, rfl, h⟩
theorem foldl_rep' (its : List Value) (k : Nat) : List.foldl (fun x1 x2 => x1 ++ x2) #[] (List.replicate k its.toArray) = (List.replicate k its).flatten.toArray := by
  have := foldl_rep its k []
  rw [List.nil_append] at this
  exact this
section
variable {X : Cx}
def rRepT (K : PySem.W.Frag) : R2 := fun x y H Q => ∃ a k xs, x = .ref a ∧ y = .int k ∧ SqT K H a xs ∧ xs ≠ [] ∧ 2 ≤ k ∧ k < 2 ^ 63 ∧ xs.length * k.toNat ≤ sizeLine ∧
  ∀ p, H p = none → Q (.ref p) (upd H p (.tup (List.replicate k.toNat xs).flatten))
theorem op_repT : OpR X (binaryOp .Mult) (rRepT X.K) := by
  intro pins s σ H x y v u Q I rx ry h
  obtain ⟨l, k, xs, rfl, rfl, hH, hx, h1, h2, hz, q⟩ := h
  cases rx
  obtain ⟨t, rfl⟩ := ry
  obtain ⟨its, r, ⟨o, e, hc, ⟨n, hd⟩, hn⟩, _⟩ := I.tupleN hH
  obtain ⟨c, dd, da, sl⟩ := o
  cases hc
  cases hd
  cases hn
  have h0 : its.toArray.isEmpty = false := by
    cases its with
    | nil => exact absurd (r.nil_iff.mp rfl) hx
    | cons _ _ => rfl
  have hlen : its.toArray.size * k.toNat ≤ sizeLine := by rw [List.size_toArray, ← r.length]; exact hz
  refine wpAny_binaryOp_repeat_ref (T := "tuple") (U := "int") (by decide) ⟨_, e, rfl⟩ (fun s' => typeIs_int s' k t) noFill_tuple_mul F.fills_int_mul F.slot_int_rmul repeat_tuple F.slot_int_index.lookup
    (call_meets F.slot_int_rmul (typeIs_int s k t) F.entry_int_rmul (F.args_int_rmul_2 _ _) (int_rmul_tup k t l its.toArray n sl)
      ⟨e, rfl, ⟨_, e, rfl⟩, call_meets F.slot_tuple_mul ⟨_, e, rfl⟩ F.entry_tuple_mul (F.args_tuple_mul_2 _ _) (tup_mul l its.toArray n sl k t h0 h1 h2 hlen) ⟨e, ?_⟩⟩)
  rw [foldl_rep']
  refine ⟨.ref s.heap.objs.size, _, I.laid (t' := s.toks) (o := .tup (List.replicate k.toNat xs).flatten) (fun b ob q => Heap.get?_push_of_some _ q) (Nat.le_refl _) ?_, rfl, q _ (I.hok.fresh (Nat.le_refl _))⟩
  exact ⟨by rw [len_rep, Nat.mul_comm]; exact hz, _, r.rep k.toNat, IsTupN.new _ _⟩
def mMulT (K : PySem.W.Frag) : R2 := fun x y H Q => match x, y with
  | .ref a, .int k => rRepT K (.ref a) (.int k) H Q
  | _, _ => False
theorem om_mulT : OpR X (binaryOp .Mult) (mMulT X.K) := by
  intro pins s σ H x y v u Q I rx ry q
  cases x <;> cases y <;> first
    | exact False.elim q
    | exact op_repT pins s σ H _ _ v u Q I rx ry q
theorem kMulT {K : PySem.W.Frag} (hK : X.K = K := by rfl) : OpR X (binaryOp .Mult) (mMulT K) := hK ▸ om_mulT
end
end L2
set_option Elab.async false
set_option linter.all false
set_option maxRecDepth 100000
set_option maxHeartbeats 4000000
namespace Mine
open PySem L2
def top (i : Nat) : Stmt := PySem.Challenge.pw_flips_k01_places_and_tables.main.body.getD i (.Pass ⟨0, 0, 0, 0⟩)
abbrev s_is_whole : Stmt := top 1
abbrev s_is_below : Stmt := top 2
abbrev s_two_to : Stmt := top 3
abbrev s_power_of : Stmt := top 4
abbrev s_is_place : Stmt := top 7
abbrev s_is_table : Stmt := top 8
abbrev s_switches_of : Stmt := top 9
abbrev s__law_tape : Stmt := top 11
abbrev s__law_next : Stmt := top 12
abbrev s__law_two : Stmt := top 13
abbrev s__law_odd : Stmt := top 14
abbrev s__law_is_number : Stmt := top 15
abbrev s__law_truth : Stmt := top 16
abbrev s__law_tables_right : Stmt := top 17
abbrev s_law : Stmt := top 18
theorem sc_is_whole : FnScope ["thing"] ["thing"] (defScope s_is_whole) := ⟨rfl, rfl, rfl, by decide +kernel, rfl, by decide +kernel, by decide +kernel⟩
theorem sc_is_below : FnScope ["bound", "thing"] ["bound", "thing"] (defScope s_is_below) := ⟨rfl, rfl, rfl, by decide +kernel, rfl, by decide +kernel, by decide +kernel⟩
theorem sc_two_to : FnScope ["n"] ["n"] (defScope s_two_to) := ⟨rfl, rfl, rfl, by decide +kernel, rfl, by decide +kernel, by decide +kernel⟩
theorem sc_power_of : FnScope ["base", "times", "power", "step"] ["base", "times"] (defScope s_power_of) := ⟨rfl, rfl, rfl, by decide +kernel, rfl, by decide +kernel, by decide +kernel⟩
theorem sc_is_place : FnScope ["n", "thing"] ["n", "thing"] (defScope s_is_place) := ⟨rfl, rfl, rfl, by decide +kernel, rfl, by decide +kernel, by decide +kernel⟩
theorem sc_is_table : FnScope ["thing"] ["thing"] (defScope s_is_table) := ⟨rfl, rfl, rfl, by decide +kernel, rfl, by decide +kernel, by decide +kernel⟩
theorem sc_switches_of : FnScope ["table"] ["table"] (defScope s_switches_of) := ⟨rfl, rfl, rfl, by decide +kernel, rfl, by decide +kernel, by decide +kernel⟩
theorem sc__law_tape : FnScope ["_law_script"] ["_law_script"] (defScope s__law_tape) := ⟨rfl, rfl, rfl, by decide +kernel, rfl, by decide +kernel, by decide +kernel⟩
theorem sc__law_next : FnScope ["_law_tape_here", "_law_many", "_law_script", "_law_digit", "_law_cell", "_law_seed"] ["_law_tape_here", "_law_many"] (defScope s__law_next) := ⟨rfl, rfl, rfl, by decide +kernel, rfl, by decide +kernel, by decide +kernel⟩
theorem sc__law_two : FnScope ["_law_k"] ["_law_k"] (defScope s__law_two) := ⟨rfl, rfl, rfl, by decide +kernel, rfl, by decide +kernel, by decide +kernel⟩
theorem sc__law_odd : FnScope ["_law_tape_here", "_law_some"] ["_law_tape_here"] (defScope s__law_odd) := ⟨rfl, rfl, rfl, by decide +kernel, rfl, by decide +kernel, by decide +kernel⟩
theorem sc__law_is_number : FnScope ["_law_thing"] ["_law_thing"] (defScope s__law_is_number) := ⟨rfl, rfl, rfl, by decide +kernel, rfl, by decide +kernel, by decide +kernel⟩
theorem sc__law_truth : FnScope ["_law_found", "_law_due"] ["_law_found", "_law_due"] (defScope s__law_truth) := ⟨rfl, rfl, rfl, by decide +kernel, rfl, by decide +kernel, by decide +kernel⟩
theorem sc__law_tables_right : FnScope ["_law_tape_here", "_law_n", "_law_answers", "_law_bent", "_law_more", "_law_thing", "_law_good"] ["_law_tape_here"] (defScope s__law_tables_right) := ⟨rfl, rfl, rfl, by decide +kernel, rfl, by decide +kernel, by decide +kernel⟩
theorem sc_law : FnScope ["_law_script", "_law_tape_here", "_law_turn", "_law_n", "_law_thing", "_law_due"] ["_law_script"] (defScope s_law) := ⟨rfl, rfl, rfl, by decide +kernel, rfl, by decide +kernel, by decide +kernel⟩
set_option genInjectivity false
set_option genSizeOf false
structure Txt (K : PySem.W.Frag) (mg : Str → Option Value) where
  f_is_whole : Addr
  d_is_whole : FuncData
  F_is_whole : Fun K "is_whole" "is_whole" s_is_whole f_is_whole d_is_whole
  b_is_whole : Binds K d_is_whole ["thing"] []
  m_is_whole : mg "is_whole" = some (.ref f_is_whole)
  f_is_below : Addr
  d_is_below : FuncData
  F_is_below : Fun K "is_below" "is_below" s_is_below f_is_below d_is_below
  b_is_below : Binds K d_is_below ["bound", "thing"] []
  m_is_below : mg "is_below" = some (.ref f_is_below)
  f_two_to : Addr
  d_two_to : FuncData
  F_two_to : Fun K "two_to" "two_to" s_two_to f_two_to d_two_to
  b_two_to : Binds K d_two_to ["n"] []
  m_two_to : mg "two_to" = some (.ref f_two_to)
  f_power_of : Addr
  d_power_of : FuncData
  F_power_of : Fun K "power_of" "power_of" s_power_of f_power_of d_power_of
  b_power_of : Binds K d_power_of ["base", "times"] []
  m_power_of : mg "power_of" = some (.ref f_power_of)
  f_is_place : Addr
  d_is_place : FuncData
  F_is_place : Fun K "is_place" "is_place" s_is_place f_is_place d_is_place
  b_is_place : Binds K d_is_place ["n", "thing"] []
  m_is_place : mg "is_place" = some (.ref f_is_place)
  f_is_table : Addr
  d_is_table : FuncData
  F_is_table : Fun K "is_table" "is_table" s_is_table f_is_table d_is_table
  b_is_table : Binds K d_is_table ["thing"] []
  m_is_table : mg "is_table" = some (.ref f_is_table)
  f_switches_of : Addr
  d_switches_of : FuncData
  F_switches_of : Fun K "switches_of" "switches_of" s_switches_of f_switches_of d_switches_of
  b_switches_of : Binds K d_switches_of ["table"] []
  m_switches_of : mg "switches_of" = some (.ref f_switches_of)
  f__law_tape : Addr
  d__law_tape : FuncData
  F__law_tape : Fun K "_law_tape" "_law_tape" s__law_tape f__law_tape d__law_tape
  b__law_tape : Binds K d__law_tape ["_law_script"] []
  m__law_tape : mg "_law_tape" = some (.ref f__law_tape)
  f__law_next : Addr
  d__law_next : FuncData
  F__law_next : Fun K "_law_next" "_law_next" s__law_next f__law_next d__law_next
  b__law_next : Binds K d__law_next ["_law_tape_here", "_law_many"] []
  m__law_next : mg "_law_next" = some (.ref f__law_next)
  f__law_two : Addr
  d__law_two : FuncData
  F__law_two : Fun K "_law_two" "_law_two" s__law_two f__law_two d__law_two
  b__law_two : Binds K d__law_two ["_law_k"] []
  m__law_two : mg "_law_two" = some (.ref f__law_two)
  f__law_odd : Addr
  d__law_odd : FuncData
  F__law_odd : Fun K "_law_odd" "_law_odd" s__law_odd f__law_odd d__law_odd
  b__law_odd : Binds K d__law_odd ["_law_tape_here"] []
  m__law_odd : mg "_law_odd" = some (.ref f__law_odd)
  f__law_is_number : Addr
  d__law_is_number : FuncData
  F__law_is_number : Fun K "_law_is_number" "_law_is_number" s__law_is_number f__law_is_number d__law_is_number
  b__law_is_number : Binds K d__law_is_number ["_law_thing"] []
  m__law_is_number : mg "_law_is_number" = some (.ref f__law_is_number)
  f__law_truth : Addr
  d__law_truth : FuncData
  F__law_truth : Fun K "_law_truth" "_law_truth" s__law_truth f__law_truth d__law_truth
  b__law_truth : Binds K d__law_truth ["_law_found", "_law_due"] []
  m__law_truth : mg "_law_truth" = some (.ref f__law_truth)
  f__law_tables_right : Addr
  d__law_tables_right : FuncData
  F__law_tables_right : Fun K "_law_tables_right" "_law_tables_right" s__law_tables_right f__law_tables_right d__law_tables_right
  b__law_tables_right : Binds K d__law_tables_right ["_law_tape_here"] []
  m__law_tables_right : mg "_law_tables_right" = some (.ref f__law_tables_right)
  f_law : Addr
  d_law : FuncData
  F_law : Fun K "law" "law" s_law f_law d_law
  b_law : Binds K d_law ["_law_script"] []
  m_law : mg "law" = some (.ref f_law)
  z_all : mg "all" = none
  z_bool : mg "bool" = none
  z_dict : mg "dict" = none
  z_enumerate : mg "enumerate" = none
  z_int : mg "int" = none
  z_isinstance : mg "isinstance" = none
  z_len : mg "len" = none
  z_list : mg "list" = none
  z_max : mg "max" = none
  z_range : mg "range" = none
  z_repr : mg "repr" = none
  z_tuple : mg "tuple" = none
  a_TABLE_LENGTHS : Addr
  c_TABLE_LENGTHS : mg "TABLE_LENGTHS" = some (.ref a_TABLE_LENGTHS)
  q_TABLE_LENGTHS : ∀ H : Hp, SqT K H a_TABLE_LENGTHS [.int 2, .int 4, .int 8, .int 16, .int 32, .int 64]
set_option genInjectivity true
set_option genSizeOf true
section
variable {P : Program} {w : World} {K : PySem.W.Frag} {mg : Str → Option Value} {base : Heap} (T : Txt K mg)
local macro_rules | `(tactic| walk_at "sm") => `(tactic| repeat' with_reducible first | exact sm_next | apply sm_seq | apply sm_asg | apply sm_ret | apply sm_if | apply sm_for | exact em_var | exact em_c | apply em_op | apply em_un | apply em_chain | apply em_and | apply em_if | apply em_cb | apply em_call | apply em_tup | apply em_lst | apply em_comp | exact rm_add | exact rm_sub | exact rm_mul | exact rm_div | exact rm_mod | exact rm_pow | exact um_neg_ | exact rm_cmp | exact rm_eq | exact rm_ix | apply tm_b | apply tm_and | apply tm_or | apply tm_not | exact am_nil | apply am_cons | exact cm_len_ | exact cm_max_ | exact cm_tuple_ | exact cm_isi_ | apply im_seq | apply im_rng1 | apply gm_sub | exact gm_name | exact sm_set | exact spNext_mono | exact cm_repr_ | apply em_de | exact rm_in | apply em_cut | exact om_none | apply om_some | assumption)
theorem ok__law_tape : FnOk P w K mg base CX0 1 T.f__law_tape T.d__law_tape ["_law_script"] (spTape K) := by
  refine T.F__law_tape.ok sc__law_tape (fun vs H Q E h => by unfold spTape at h; split at h <;> first | rfl | exact h.elim) (fun cdv A outer s H vs Q E hr h => ?_)
  match vs, h with
  | [.ref a], k =>
  refine ⟨_, (@pss_one _ _ _ (@ps_ret _ _ _ _ (@pe_lst _ _ _ _ (@pa_cons _ _ _ _ _ (@vv _ 0 _ _ (by rfl) (by first | exact Or.inl rfl | exact Or.inr (Or.inl rfl) | exact Or.inr (Or.inr rfl)) (by decide) (by decide)) (@pa_cons _ _ _ _ _ (@pe_int _ _ _ _) (@pa_cons _ _ _ _ _ (@pe_int _ _ _ _) (@pa_cons _ _ _ _ _ (@pe_int _ _ _ _) (@pa_nil _) (by rfl)) (by rfl)) (by rfl)) (by rfl))))), ?_⟩
  exact ⟨by show 4 ≤ sizeLine; rw [sizeLine_eq]; decide, k⟩
theorem ok__law_next : FnOk P w K mg base CX0 1 T.f__law_next T.d__law_next ["_law_tape_here", "_law_many"] (spNext K) := by
  refine T.F__law_next.ok sc__law_next (fun vs H Q E h => by unfold spNext at h; split at h <;> first | rfl | exact h.elim) (fun cdv A outer s H vs Q E hr h => ?_)
  have hu := hu60 hr
  match vs, h with
  | [.ref t, .int m], ⟨a, ns, TP, hm, k⟩ =>
  obtain ⟨⟨i, r, c, hi, hr0, ht⟩, hscr⟩ := id TP
  refine ⟨_, (@pss_cons _ _ _ _ _ (@ps_set _ _ 2 _ _ _ _ sc__law_next.nd rfl (by first | exact Or.inl rfl | exact Or.inr rfl) (@kIx _ K _ _ _ _ _ (@vv _ 0 _ _ (by rfl) (by first | exact Or.inl rfl | exact Or.inr (Or.inl rfl) | exact Or.inr (Or.inr rfl)) (by decide) (by decide)) (@pe_int _ _ _ _) (by intro _ _; rfl) (by rfl)) (by rfl) (by first | exact .inl rfl | exact .inr rfl | assumption)) (@pss_cons _ _ _ _ _ (@ps_asg _ _ _ _ _ _ (@pe_op _ _ _ _ _ _ _ _ (kAdd (K := K)) (@kIx _ K _ _ _ _ _ (@vv _ 0 _ _ (by rfl) (by first | exact Or.inl rfl | exact Or.inr (Or.inl rfl) | exact Or.inr (Or.inr rfl)) (by decide) (by decide)) (@pe_int _ _ _ _) (by intro _ _; rfl) (by rfl)) (@pe_int _ _ _ _)) (@pg_sub _ _ _ _ _ _ _ (@vv _ 0 _ _ (by rfl) (by first | exact Or.inl rfl | exact Or.inr (Or.inl rfl) | exact Or.inr (Or.inr rfl)) (by decide) (by decide)) (@pe_int _ _ _ _) set_any (by intro _; rfl)) (by rfl) (by rfl) (by rfl)) (@pss_cons _ _ _ _ _ (@ps_if _ _ _ _ _ _ _ _ (PW.pt (@pw_and _ _ _ _ _ _ _ (@tu_cmp _ _ _ _ _ _ _ _ (kEq (K := K) hu) (@kIx _ K _ _ _ _ _ (@vv _ 0 _ _ (by rfl) (by first | exact Or.inl rfl | exact Or.inr (Or.inl rfl) | exact Or.inr (Or.inr rfl)) (by decide) (by decide)) (@pe_int _ _ _ _) (by intro _ _; rfl) (by rfl)) (@pe_int _ _ _ _) (by first | exact nobehind _ (by decide) (by decide) | rfl)) (@pw_and1 _ _ _ _ (@tu_cmp _ _ _ _ _ _ _ _ om_lt (@kIx _ K _ _ _ _ _ (@vv _ 0 _ _ (by rfl) (by first | exact Or.inl rfl | exact Or.inr (Or.inl rfl) | exact Or.inr (Or.inr rfl)) (by decide) (by decide)) (@pe_int _ _ _ _) (by intro _ _; rfl) (by rfl)) (@pe_callB _ _ _ _ _ _ _ _ _ (kLen (K := K)) rfl T.z_len (by rfl) (@pa_cons _ _ _ _ _ (@vv _ 2 _ _ (by rfl) (by first | exact Or.inl rfl | exact Or.inr (Or.inl rfl) | exact Or.inr (Or.inr rfl)) (by decide) (by decide)) (@pa_nil _) (by rfl)) (by decide) (by decide) (by rfl) (by rfl)) (by first | exact nobehind _ (by decide) (by decide) | rfl))))) (@pss_cons _ _ _ _ _ (@ps_asg _ _ _ _ _ _ (@pe_callB _ _ _ _ _ _ _ _ _ (cm_max rfl) rfl T.z_max (by rfl) (@pa_cons _ _ _ _ _ (@pe_int _ _ _ _) (@pa_cons _ _ _ _ _ (@pe_op _ _ _ _ _ _ _ _ om_div (@kIx _ K _ _ _ _ _ (@vv _ 2 _ _ (by rfl) (by first | exact Or.inl rfl | exact Or.inr (Or.inl rfl) | exact Or.inr (Or.inr rfl)) (by decide) (by decide)) (@kIx _ K _ _ _ _ _ (@vv _ 0 _ _ (by rfl) (by first | exact Or.inl rfl | exact Or.inr (Or.inl rfl) | exact Or.inr (Or.inr rfl)) (by decide) (by decide)) (@pe_int _ _ _ _) (by intro _ _; rfl) (by rfl)) (by intro _ _; rfl) (by rfl)) (@pe_op _ _ _ _ _ _ _ _ om_pow (@pe_int _ _ _ _) (@pe_int _ _ _ _))) (@pa_nil _) (by rfl)) (by rfl)) (by decide) (by decide) (by rfl) (by rfl)) (@pg_sub _ _ _ _ _ _ _ (@vv _ 0 _ _ (by rfl) (by first | exact Or.inl rfl | exact Or.inr (Or.inl rfl) | exact Or.inr (Or.inr rfl)) (by decide) (by decide)) (@pe_int _ _ _ _) set_any (by intro _; rfl)) (by rfl) (by rfl) (by rfl)) (@pss_one _ _ _ (@ps_asg _ _ _ _ _ _ (@pe_op _ _ _ _ _ _ _ _ (kAdd (K := K)) (@kIx _ K _ _ _ _ _ (@vv _ 0 _ _ (by rfl) (by first | exact Or.inl rfl | exact Or.inr (Or.inl rfl) | exact Or.inr (Or.inr rfl)) (by decide) (by decide)) (@pe_int _ _ _ _) (by intro _ _; rfl) (by rfl)) (@pe_int _ _ _ _)) (@pg_sub _ _ _ _ _ _ _ (@vv _ 0 _ _ (by rfl) (by first | exact Or.inl rfl | exact Or.inr (Or.inl rfl) | exact Or.inr (Or.inr rfl)) (by decide) (by decide)) (@pe_int _ _ _ _) set_any (by intro _; rfl)) (by rfl) (by rfl) (by rfl)))) (@pss_nil _)) (@pss_cons _ _ _ _ _ (@ps_if _ _ _ _ _ _ _ _ (@tu_cmp _ _ _ _ _ _ _ _ om_gt (@kIx _ K _ _ _ _ _ (@vv _ 0 _ _ (by rfl) (by first | exact Or.inl rfl | exact Or.inr (Or.inl rfl) | exact Or.inr (Or.inr rfl)) (by decide) (by decide)) (@pe_int _ _ _ _) (by intro _ _; rfl) (by rfl)) (@pe_int _ _ _ _) (by first | exact nobehind _ (by decide) (by decide) | rfl)) (@pss_cons _ _ _ _ _ (@ps_set _ _ 3 _ _ _ _ sc__law_next.nd rfl (by first | exact Or.inl rfl | exact Or.inr rfl) (@pe_op _ _ _ _ _ _ _ _ om_mod (@kIx _ K _ _ _ _ _ (@vv _ 0 _ _ (by rfl) (by first | exact Or.inl rfl | exact Or.inr (Or.inl rfl) | exact Or.inr (Or.inr rfl)) (by decide) (by decide)) (@pe_int _ _ _ _) (by intro _ _; rfl) (by rfl)) (@vv _ 1 _ _ (by rfl) (by first | exact Or.inl rfl | exact Or.inr (Or.inl rfl) | exact Or.inr (Or.inr rfl)) (by decide) (by decide))) (by rfl) (by first | exact .inl rfl | exact .inr rfl | assumption)) (@pss_cons _ _ _ _ _ (@ps_asg _ _ _ _ _ _ (@pe_op _ _ _ _ _ _ _ _ om_div (@kIx _ K _ _ _ _ _ (@vv _ 0 _ _ (by rfl) (by first | exact Or.inl rfl | exact Or.inr (Or.inl rfl) | exact Or.inr (Or.inr rfl)) (by decide) (by decide)) (@pe_int _ _ _ _) (by intro _ _; rfl) (by rfl)) (@vv _ 1 _ _ (by rfl) (by first | exact Or.inl rfl | exact Or.inr (Or.inl rfl) | exact Or.inr (Or.inr rfl)) (by decide) (by decide))) (@pg_sub _ _ _ _ _ _ _ (@vv _ 0 _ _ (by rfl) (by first | exact Or.inl rfl | exact Or.inr (Or.inl rfl) | exact Or.inr (Or.inr rfl)) (by decide) (by decide)) (@pe_int _ _ _ _) set_any (by intro _; rfl)) (by rfl) (by rfl) (by rfl)) (@pss_one _ _ _ (@ps_ret _ _ _ _ (@vv _ 3 _ _ (by rfl) (by first | exact Or.inl rfl | exact Or.inr (Or.inl rfl) | exact Or.inr (Or.inr rfl)) (by decide) (by decide)))))) (@pss_nil _)) (@pss_cons _ _ _ _ _ (@ps_set _ _ 4 _ _ _ _ sc__law_next.nd rfl (by first | exact Or.inl rfl | exact Or.inr rfl) (@pe_ifExp _ _ _ _ _ _ _ _ (@tu_cmp _ _ _ _ _ _ _ _ om_gt (@pe_callB _ _ _ _ _ _ _ _ _ (kLen (K := K)) rfl T.z_len (by rfl) (@pa_cons _ _ _ _ _ (@vv _ 2 _ _ (by rfl) (by first | exact Or.inl rfl | exact Or.inr (Or.inl rfl) | exact Or.inr (Or.inr rfl)) (by decide) (by decide)) (@pa_nil _) (by rfl)) (by decide) (by decide) (by rfl) (by rfl)) (@pe_int _ _ _ _) (by first | exact nobehind _ (by decide) (by decide) | rfl)) (@kIx _ K _ _ _ _ _ (@vv _ 2 _ _ (by rfl) (by first | exact Or.inl rfl | exact Or.inr (Or.inl rfl) | exact Or.inr (Or.inr rfl)) (by decide) (by decide)) (@pe_op _ _ _ _ _ _ _ _ om_mod (@kIx _ K _ _ _ _ _ (@vv _ 0 _ _ (by rfl) (by first | exact Or.inl rfl | exact Or.inr (Or.inl rfl) | exact Or.inr (Or.inr rfl)) (by decide) (by decide)) (@pe_int _ _ _ _) (by intro _ _; rfl) (by rfl)) (@pe_callB _ _ _ _ _ _ _ _ _ (kLen (K := K)) rfl T.z_len (by rfl) (@pa_cons _ _ _ _ _ (@vv _ 2 _ _ (by rfl) (by first | exact Or.inl rfl | exact Or.inr (Or.inl rfl) | exact Or.inr (Or.inr rfl)) (by decide) (by decide)) (@pa_nil _) (by rfl)) (by decide) (by decide) (by rfl) (by rfl))) (by intro _ _; rfl) (by rfl)) (@pe_int _ _ _ _)) (by rfl) (by first | exact .inl rfl | exact .inr rfl | assumption)) (@pss_cons _ _ _ _ _ (@ps_set _ _ 5 _ _ _ _ sc__law_next.nd rfl (by first | exact Or.inl rfl | exact Or.inr rfl) (@pe_op _ _ _ _ _ _ _ _ om_mod (@pe_op _ _ _ _ _ _ _ _ om_mul (@pe_op _ _ _ _ _ _ _ _ (kAdd (K := K)) (@pe_op _ _ _ _ _ _ _ _ (kAdd (K := K)) (@pe_op _ _ _ _ _ _ _ _ om_mod (@vv _ 4 _ _ (by rfl) (by first | exact Or.inl rfl | exact Or.inr (Or.inl rfl) | exact Or.inr (Or.inr rfl)) (by decide) (by decide)) (@pe_int _ _ _ _)) (@pe_op _ _ _ _ _ _ _ _ om_mul (@pe_int _ _ _ _) (@kIx _ K _ _ _ _ _ (@vv _ 0 _ _ (by rfl) (by first | exact Or.inl rfl | exact Or.inr (Or.inl rfl) | exact Or.inr (Or.inr rfl)) (by decide) (by decide)) (@pe_int _ _ _ _) (by intro _ _; rfl) (by rfl)))) (@pe_int _ _ _ _)) (@pe_int _ _ _ _)) (@pe_int _ _ _ _)) (by rfl) (by first | exact .inl rfl | exact .inr rfl | assumption)) (@pss_one _ _ _ (@ps_ret _ _ _ _ (@pe_op _ _ _ _ _ _ _ _ om_mod (@pe_op _ _ _ _ _ _ _ _ om_mod (@pe_op _ _ _ _ _ _ _ _ om_mul (@pe_op _ _ _ _ _ _ _ _ om_mod (@pe_op _ _ _ _ _ _ _ _ (kAdd (K := K)) (@pe_op _ _ _ _ _ _ _ _ om_mul (@vv _ 5 _ _ (by rfl) (by first | exact Or.inl rfl | exact Or.inr (Or.inl rfl) | exact Or.inr (Or.inr rfl)) (by decide) (by decide)) (@pe_int _ _ _ _)) (@kIx _ K _ _ _ _ _ (@vv _ 0 _ _ (by rfl) (by first | exact Or.inl rfl | exact Or.inr (Or.inl rfl) | exact Or.inr (Or.inr rfl)) (by decide) (by decide)) (@pe_int _ _ _ _) (by intro _ _; rfl) (by rfl))) (@pe_int _ _ _ _)) (@pe_int _ _ _ _)) (@pe_int _ _ _ _)) (@vv _ 1 _ _ (by rfl) (by first | exact Or.inl rfl | exact Or.inr (Or.inl rfl) | exact Or.inr (Or.inr rfl)) (by decide) (by decide))))))))))), ?_⟩
  -- script = tape[0]; tape[3] = tape[3] + 1
  refine ⟨_, _, .inl (.of ht), rfl, _, _, .inl (.of ht), rfl, _, _, ht, rfl, ?_⟩
  have sc0 : ∀ {H1 : Hp}, (∀ b, b ≠ t → H1 b = H b) → ScrAt K H1 t a ns := fun h => hscr.stay fun o n e => by rw [h a n]; exact e
  have sc1 : ∀ {H1 : Hp}, (∀ b, b ≠ t → H1 b = H b) → SqL K H1 a (ns.map V.int) := fun h => (sc0 h).sq
  have f1 : ∀ {o : HO} {H1 : Hp}, (∀ b, b ≠ t → H1 b = H b) → ∀ b, b ≠ t → upd H1 t o b = H b := fun h b n => by rw [upd_ne n]; exact h b n
  dsimp only
  refine seq_at (fun σ' H1 => σ' = [some (.ref t), some (.int m), some (.ref a), none, none, none] ∧ (∀ b, b ≠ t → H1 b = H b) ∧ ∃ i r c : Int, 0 ≤ i ∧ 0 ≤ r ∧ H1 t = some (.lst [.ref a, .int i, .int r, .int c])) ?_ ?_ (by walk_at "sm")
  · -- the next number of the script, where the last one is used up
    have h1 : ∀ {o : HO} (b : Addr), b ≠ t → upd H t o b = H b := fun b n => upd_ne n
    refine ⟨_, _, .inl (.of upd_same), rfl, ?_⟩
    refine ite2 (fun e => ?_) (fun e => ?_)
    · refine ⟨_, _, .inl (.of upd_same), rfl, ns.length, .inl ⟨_, sc1 h1, by rw [List.length_map]⟩, ?_⟩
      refine ite2 (fun e => ?_) (fun e => ?_)
      · have hlt : i < ns.length := of_decide_eq_true e
        obtain ⟨z, hz⟩ := atI_int hi hlt
        refine ⟨_, _, .inl (.of upd_same), rfl, _, _, .inl (sc1 h1), hz, ⟨by decide, by decide, by decide⟩, ⟨by decide, by decide⟩, ?_⟩
        refine ⟨_, _, upd_same, rfl, _, _, .inl (.of upd_same), rfl, _, _, upd_same, rfl, rfl, ?_, i + 1, max 0 (z / 10 ^ 18), c + 1, by omega, by omega, upd_same⟩
        exact f1 (f1 h1)
      · exact ⟨rfl, h1, i, r, c + 1, hi, hr0, upd_same⟩
    · exact ⟨rfl, h1, i, r, c + 1, hi, hr0, upd_same⟩
  rintro σ' H1 ⟨rfl, h1, i, r, c, hi, hr0, ht⟩
  have T1 : ∀ {H2 : Hp} {i r c : Int}, (∀ b, b ≠ t → H2 b = H b) → 0 ≤ i → 0 ≤ r → H2 t = some (.lst [.ref a, .int i, .int r, .int c]) → Tape K H2 t a ns := fun h h1 h2 h3 => ⟨⟨_, _, _, h1, h2, h3⟩, sc0 h⟩
  -- a digit of it
  refine ⟨_, _, .inl (.of ht), rfl, ?_⟩
  have hm0 : 0 < m := hm.1
  refine ite2 (fun e => ?_) (fun e => ?_)
  · refine ⟨_, _, .inl (.of ht), rfl, hm0, _, _, .inl (.of ht), rfl, hm, _, _, ht, rfl, ?_⟩
    exact k _ _ (Int.emod_nonneg _ (by omega)) (Int.emod_lt_of_pos _ hm0) (T1 (f1 h1) hi (Int.ediv_nonneg hr0 (by omega)) upd_same) (f1 h1)
  -- else a number made of the cell
  dsimp only [tNext]
  refine seq_at (fun σ' H2 => H2 = H1 ∧ ∃ z : Int, σ' = [some (.ref t), some (.int m), some (.ref a), none, some (.int z), none]) ?_ ?_ (by walk_at "sm")
  · refine ⟨ns.length, .inl ⟨_, sc1 h1, by rw [List.length_map]⟩, ?_⟩
    refine ite2 (fun e => ?_) (fun e => ?_)
    · have hlt : (0 : Int) < ns.length := of_decide_eq_true e
      obtain ⟨z, hz⟩ := atI_int (ns := ns) (Int.emod_nonneg c (show (ns.length : Int) ≠ 0 by omega)) (Int.emod_lt_of_pos c hlt)
      exact ⟨_, _, .inl (.of ht), rfl, ns.length, .inl ⟨_, sc1 h1, by rw [List.length_map]⟩, hlt, _, _, .inl (sc1 h1), hz, rfl, z, rfl⟩
    · exact ⟨rfl, 0, rfl⟩
  rintro σ' H2 ⟨rfl, z, rfl⟩
  refine ⟨by decide, _, _, .inl (.of ht), rfl, .inr (.inl ⟨by decide, by decide⟩), .inr (.inr ⟨by decide, by decide⟩), by decide, ?_⟩
  refine ⟨.inr (.inr ⟨by decide, by decide⟩), _, _, .inl (.of ht), rfl, by decide, .inr (.inr ⟨by decide, by decide⟩), by decide, hm0, ?_⟩
  exact k _ _ (Int.emod_nonneg _ (by omega)) (Int.emod_lt_of_pos _ hm0) (T1 h1 hi hr0 ht) h1
def out (H : Hp) (Q : VK) (v : V) : Prop := ∀ H', Same H H' → Q v H'
theorem out_mono {H : Hp} {Q Q' : VK} {v : V} (h : ∀ v H, Q v H → Q' v H) (q : out H Q v) : out H Q' v := fun H' s => h _ _ (q H' s)
def sp_two : Sp := fun vs H Q _ => match vs with
  | [.int k] => 0 ≤ k ∧ k ≤ 6 ∧ out H Q (.int (2 ^ k.toNat))
  | _ => False
theorem sp_two_mono : SpMono sp_two := fun vs H Q Q' E h q => by
  unfold sp_two at *
  split at q
  · exact ⟨q.1, q.2.1, out_mono h q.2.2⟩
  · exact q.elim
theorem ok__law_two : FnOk P w K mg base CX0 1 T.f__law_two T.d__law_two ["_law_k"] sp_two := by
  refine T.F__law_two.ok sc__law_two (fun vs H Q E h => by unfold sp_two at h; split at h <;> first | rfl | exact h.elim) (fun cdv A outer s H vs Q E hr h => ?_)
  match vs, h with
  | [.int k], ⟨h1, h2, q⟩ =>
  refine ⟨_, (@pss_one _ _ _ (@ps_ret _ _ _ _ (@kIx _ K _ _ _ _ _ (@pe_lst _ _ _ _ (@pa_cons _ _ _ _ _ (@pe_int _ _ _ _) (@pa_cons _ _ _ _ _ (@pe_int _ _ _ _) (@pa_cons _ _ _ _ _ (@pe_int _ _ _ _) (@pa_cons _ _ _ _ _ (@pe_int _ _ _ _) (@pa_cons _ _ _ _ _ (@pe_int _ _ _ _) (@pa_cons _ _ _ _ _ (@pe_int _ _ _ _) (@pa_cons _ _ _ _ _ (@pe_int _ _ _ _) (@pa_nil _) (by rfl)) (by rfl)) (by rfl)) (by rfl)) (by rfl)) (by rfl)) (by rfl))) (@vv _ 0 _ _ (by rfl) (by first | exact Or.inl rfl | exact Or.inr (Or.inl rfl) | exact Or.inr (Or.inr rfl)) (by decide) (by decide)) (by intro _ _; rfl) (by rfl)))), ?_⟩
  refine ⟨small_le (show 7 ≤ 1000 by decide), fun p hp => ?_⟩
  have e : atI [V.int 1, .int 2, .int 4, .int 8, .int 16, .int 32, .int 64] k = some (.int (2 ^ k.toNat)) := by
    have : k = 0 ∨ k = 1 ∨ k = 2 ∨ k = 3 ∨ k = 4 ∨ k = 5 ∨ k = 6 := by omega
    rcases this with e | e | e | e | e | e | e <;> subst e <;> rfl
  exact ⟨_, _, .inl (.of upd_same), e, q _ (Same.upd hp)⟩
def sp_power : Sp := fun vs H Q _ => match vs with
  | [.int b, .int t] => ∃ m : Nat, t = m ∧ m ≤ 64 ∧ ((-(2 ^ 64) < b ∧ b < 2 ^ 64) ∨ (Nb b 100 ∧ m ≤ 12)) ∧ Q (.int (b ^ m)) H
  | _ => False
theorem ok_power_of : FnOk P w K mg base CX0 1 T.f_power_of T.d_power_of ["base", "times"] sp_power := by
  refine T.F_power_of.ok sc_power_of (fun vs H Q E h => by unfold sp_power at h; split at h <;> first | rfl | exact h.elim) (fun cdv A outer s H vs Q E hr h => ?_)
  have hu := hu60 hr
  match vs, h with
  | [.int b, .int t], ⟨m, e1, h1, b1, q⟩ =>
  subst e1
  refine ⟨_, (@pss_cons _ _ _ _ _ (@ps_set _ _ 2 _ _ _ _ sc_power_of.nd rfl (by first | exact Or.inl rfl | exact Or.inr rfl) (@pe_int _ _ _ _) (by rfl) (by first | exact .inl rfl | exact .inr rfl | assumption)) (@pss_cons _ _ _ _ _ (@ps_for _ _ _ _ _ _ _ _ PassesOwn.never rfl (@pi_range1 _ _ _ _ _ _ rfl T.z_range (@pa_cons _ _ _ _ _ (@vv _ 1 _ _ (by rfl) (by first | exact Or.inl rfl | exact Or.inr (Or.inl rfl) | exact Or.inr (Or.inr rfl)) (by decide) (by decide)) (@pa_nil _) (by rfl)) (by rfl)) (@pg_name _ _ 3 _ sc_power_of.nd rfl (by first | exact Or.inl rfl | exact Or.inr rfl) (by first | exact .inl rfl | exact .inr rfl | assumption)) (@pss_one _ _ _ (@ps_set _ _ 2 _ _ _ _ sc_power_of.nd rfl (by first | exact Or.inl rfl | exact Or.inr rfl) (@pe_op _ _ _ _ _ _ _ _ om_mul (@vv _ 2 _ _ (by rfl) (by first | exact Or.inl rfl | exact Or.inr (Or.inl rfl) | exact Or.inr (Or.inr rfl)) (by decide) (by decide)) (@vv _ 0 _ _ (by rfl) (by first | exact Or.inl rfl | exact Or.inr (Or.inl rfl) | exact Or.inr (Or.inr rfl)) (by decide) (by decide))) (by rfl) (by first | exact .inl rfl | exact .inr rfl | assumption))) (by intro _; rfl)) (@pss_one _ _ _ (@ps_ret _ _ _ _ (@vv _ 2 _ _ (by rfl) (by first | exact Or.inl rfl | exact Or.inr (Or.inl rfl) | exact Or.inr (Or.inr rfl)) (by decide) (by decide)))))), ?_⟩
  refine ⟨m, rfl, by omega, by omega, ?_⟩
  refine for_range (fun i σ H' => H' = H ∧ ∃ z : Option V, σ = [some (.int b), some (.int m), some (.int (b ^ i)), z]) ⟨rfl, none, by rw [Int.pow_zero]; rfl⟩ ?_ ?_
  · rintro i σ H' hi ⟨rfl, z, rfl⟩
    have hi' : i < m := by omega
    have okm : okMul (b ^ i) b := by
      rcases b1 with b1 | ⟨b1, b2⟩
      · exact .inr (.inr b1)
      · exact Nb.okMul ((b1.pow i).up (by omega)) (b1.up (by omega))
    refine ⟨okm, rfl, some (.int (0 + (i : Int))), ?_⟩
    rw [Int.pow_succ]
    rfl
  · rintro σ H' ⟨rfl, z, rfl⟩
    have : (m : Int).toNat = m := by omega
    rw [this]
    exact q
def sp_two_to : Sp := fun vs H Q _ => match vs with
  | [.int n] => ∃ m : Nat, n = m ∧ m ≤ 64 ∧ Q (.int (2 ^ m : Nat)) H
  | _ => False
theorem ok_two_to : FnOk P w K mg base CX0 2 T.f_two_to T.d_two_to ["n"] sp_two_to := by
  have G_power_of := ok_power_of (P := P) (w := w) (base := base) T
  refine T.F_two_to.ok sc_two_to (fun vs H Q E h => by unfold sp_two_to at h; split at h <;> first | rfl | exact h.elim) (fun cdv A outer s H vs Q E hr h => ?_)
  have hu := hu60 hr
  have hr_power_of := hr.mono (show 1 ≤ _ by decide)
  match vs, h with
  | [.int n], ⟨m, e1, h1, q⟩ =>
  subst e1
  refine ⟨_, (@pss_one _ _ _ (@ps_ret _ _ _ _ (@pe_call _ _ _ _ _ _ _ _ _ _ _ _ _ _ _ _ G_power_of hr_power_of rfl T.m_power_of T.F_power_of.kp T.b_power_of .nil pass0 (@pa_cons _ _ _ _ _ (@pe_int _ _ _ _) (@pa_cons _ _ _ _ _ (@vv _ 0 _ _ (by rfl) (by first | exact Or.inl rfl | exact Or.inr (Or.inl rfl) | exact Or.inr (Or.inr rfl)) (by decide) (by decide)) (@pa_nil _) (by rfl)) (by rfl)) (by decide) (by rfl) (by rfl)))), ?_⟩
  refine ⟨m, rfl, h1, .inl ⟨by decide, by decide⟩, ?_⟩
  have e : (2 : Int) ^ m = ((2 ^ m : Nat) : Int) := by rw [Int.natCast_pow]; rfl
  rw [e]
  exact q
def sp_switches (K : PySem.W.Frag) : Sp := fun vs H Q _ => match vs with
  | [.ref p] => ∃ (m : Nat) (xs : List V), SqT K H p xs ∧ xs.length = 2 ^ m ∧ m ≤ 6 ∧ Q (.int m) H
  | _ => False
theorem sp_switches_mono : SpMono (sp_switches K) := fun vs H Q Q' E h q => by
  unfold sp_switches at *
  split at q
  · obtain ⟨m, xs, h1, h2, h3, q⟩ := q; exact ⟨m, xs, h1, h2, h3, h _ _ q⟩
  · exact q.elim
theorem ok_switches_of : FnOk P w K mg base CX0 1 T.f_switches_of T.d_switches_of ["table"] (sp_switches K) := by
  refine T.F_switches_of.ok sc_switches_of (fun vs H Q E h => by unfold sp_switches at h; split at h <;> first | rfl | exact h.elim) (fun cdv A outer s H vs Q E hr h => ?_)
  have hu := hu60 hr
  match vs, h with
  | [.ref p], ⟨m, xs, hp, hl, m6, q⟩ =>
  refine ⟨_, (@pss_one _ _ _ (@ps_ret _ _ _ _ (@pe_op _ _ _ _ _ _ _ _ om_sub (@kBitlen _ K _ _ _ _ (@pe_callB _ _ _ _ _ _ _ _ _ (kLen (K := K)) rfl T.z_len (by rfl) (@pa_cons _ _ _ _ _ (@vv _ 0 _ _ (by rfl) (by first | exact Or.inl rfl | exact Or.inr (Or.inl rfl) | exact Or.inr (Or.inr rfl)) (by decide) (by decide)) (@pa_nil _) (by rfl)) (by decide) (by decide) (by rfl) (by rfl)) (by rfl) (by rfl) (by rfl)) (@pe_int _ _ _ _)))), ?_⟩
  have hb := bits_pow m (by omega)
  refine ⟨2 ^ m, .inr ⟨_, hp, hl.symm⟩, rfl, ?_⟩
  dsimp only [mBitlen, tC, mSub]
  rw [hb]
  have : ((m + 1 : Nat) : Int) - 1 = (m : Int) := by omega
  rw [this]
  exact q
theorem if_same {c : TT} {t u : TS} {D : Ends} {σ : St} {H : Hp} (b : Bool) (hc : ∀ Q : Bool → Hp → Prop, (∀ H', Same H H' → Q b H') → c σ H Q) (h : ∀ H', Same H H' → if b = true then t D σ H' else u D σ H') : tIfS c t u D σ H := hc _ h
theorem ixN_nat {n i : Nat} (h : i < n) : ixN n ((i : Nat) : Int) = some i := by
  unfold ixN
  rw [if_pos (Int.natCast_nonneg i), if_pos (by omega)]
  simp
def Knd (H : Hp) (v : V) (k : String) : Prop := match v with
  | .non => k = "NoneType"
  | .bl _ => k = "bool"
  | .int _ => k = "int"
  | .str _ => k = "str"
  | .ref a => ((∃ xs, H a = some (.lst xs)) ∧ k = "list") ∨ ((∃ xs, H a = some (.tup xs)) ∧ k = "tuple") ∨ ((∃ kvs, H a = some (.dK kvs)) ∧ k = "dict")
  | _ => False
def isK (k c : String) : Bool := c == k || (k == "bool" && c == "int")
theorem knd_isi {H : Hp} {v : V} {k : String} (h : Knd H v k) (c : String) : isiT K c v H (isK k c) := by
  cases v with
  | non => cases h; simp [isiT, isK]
  | bl b => cases h; simp [isiT, isK]
  | int i => cases h; simp [isiT, isK]
  | str x => cases h; simp [isiT, isK]
  | ref a =>
    rcases h with ⟨⟨xs, h⟩, rfl⟩ | ⟨⟨xs, h⟩, rfl⟩ | ⟨⟨xs, h⟩, rfl⟩
    · exact .inl ⟨xs, .inl h, by simp [isK]⟩
    · exact .inr (.inl ⟨xs, h, by simp [isK]⟩)
    · exact .inr (.inr (.inl ⟨⟨xs, h⟩, by simp [isK]⟩))
  | _ => exact False.elim h
theorem Knd.frm {t : Addr} {H H' : Hp} {v : V} {k : String} (h : Knd H v k) (f : Frm t H H') (n : v ≠ .ref t) : Knd H' v k := by
  cases v with
  | ref a =>
    have n' : a ≠ t := fun e => n (by rw [e])
    rcases h with ⟨⟨xs, h⟩, e⟩ | ⟨⟨xs, h⟩, e⟩ | ⟨⟨xs, h⟩, e⟩
    · exact .inl ⟨⟨xs, f _ _ n' h⟩, e⟩
    · exact .inr (.inl ⟨⟨xs, f _ _ n' h⟩, e⟩)
    · exact .inr (.inr ⟨⟨xs, f _ _ n' h⟩, e⟩)
  | _ => exact h
theorem Knd.same {H H' : Hp} {v : V} {k : String} (h : Knd H v k) (f : Same H H') : Knd H' v k := by
  cases v with
  | ref a =>
    rcases h with ⟨⟨xs, h⟩, e⟩ | ⟨⟨xs, h⟩, e⟩ | ⟨⟨xs, h⟩, e⟩
    · exact .inl ⟨⟨xs, f _ _ h⟩, e⟩
    · exact .inr (.inl ⟨⟨xs, f _ _ h⟩, e⟩)
    · exact .inr (.inr ⟨⟨xs, f _ _ h⟩, e⟩)
  | _ => exact h
def sp_whole : Sp := fun vs H Q _ => match vs with
  | [v] => ∃ k, Knd H v k ∧ Q (.bl (k == "int")) H
  | _ => False
theorem sp_whole_mono : SpMono sp_whole := fun vs H Q Q' E h q => by
  unfold sp_whole at *
  split at q
  · obtain ⟨k, h1, q⟩ := q; exact ⟨k, h1, h _ _ q⟩
  · exact q.elim
theorem isK_int {k : String} (e : isK k "int" = true) : (k == "int") = !isK k "bool" := by
  unfold isK at *
  rcases (Bool.or_eq_true _ _).mp e with e | e
  · have : "int" = k := by simpa using e
    subst this; rfl
  · have : k = "bool" := by simpa using e
    subst this; rfl
theorem isK_int' {k : String} (e : ¬ isK k "int" = true) : (k == "int") = false := by
  cases h : (k == "int") with
  | false => rfl
  | true =>
    have : k = "int" := by simpa using h
    subst this
    exact absurd rfl e
theorem ok_is_whole : FnOk P w K mg base CX0 1 T.f_is_whole T.d_is_whole ["thing"] sp_whole := by
  refine T.F_is_whole.ok sc_is_whole (fun vs H Q E h => by unfold sp_whole at h; split at h <;> first | rfl | exact h.elim) (fun cdv A outer s H vs Q E hr h => ?_)
  match vs, h with
  | [v], ⟨k, hk, q⟩ =>
  refine ⟨_, (@pss_one _ _ _ (@ps_ret _ _ _ _ (@pe_andM _ _ _ _ _ _ _ (@pe_callB _ _ _ _ _ _ _ _ _ (kIsi (K := K)) rfl T.z_isinstance (by rfl) (@pa_cons _ _ _ _ _ (@vv _ 0 _ _ (by rfl) (by first | exact Or.inl rfl | exact Or.inr (Or.inl rfl) | exact Or.inr (Or.inr rfl)) (by decide) (by decide)) (@pa_cons _ _ _ _ _ (@pe_bltn _ _ (.ty "int") _ _ rfl T.z_int (by rfl) rfl (by decide) (by decide)) (@pa_nil _) (by rfl)) (by rfl)) (by decide) (by decide) (by rfl) (by rfl)) (@pe_one _ _ _ _ _ (@pe_notM _ _ _ _ (@pe_callB _ _ _ _ _ _ _ _ _ (kIsi (K := K)) rfl T.z_isinstance (by rfl) (@pa_cons _ _ _ _ _ (@vv _ 0 _ _ (by rfl) (by first | exact Or.inl rfl | exact Or.inr (Or.inl rfl) | exact Or.inr (Or.inr rfl)) (by decide) (by decide)) (@pa_cons _ _ _ _ _ (@pe_bltn _ _ (.ty "bool") _ _ rfl T.z_bool (by rfl) rfl (by decide) (by decide)) (@pa_nil _) (by rfl)) (by rfl)) (by decide) (by decide) (by rfl) (by rfl))))))), ?_⟩
  refine ⟨by decide, _, knd_isi hk _, ?_⟩
  refine ite2 (fun e => ⟨by decide, _, knd_isi hk _, ?_⟩) (fun e => ?_)
  · rw [isK_int e] at q
    exact q
  · rw [isK_int' e] at q
    exact q
theorem ok__law_is_number : FnOk P w K mg base CX0 1 T.f__law_is_number T.d__law_is_number ["_law_thing"] sp_whole := by
  refine T.F__law_is_number.ok sc__law_is_number (fun vs H Q E h => by unfold sp_whole at h; split at h <;> first | rfl | exact h.elim) (fun cdv A outer s H vs Q E hr h => ?_)
  match vs, h with
  | [v], ⟨k, hk, q⟩ =>
  refine ⟨_, (@pss_one _ _ _ (@ps_ret _ _ _ _ (@pe_andM _ _ _ _ _ _ _ (@pe_callB _ _ _ _ _ _ _ _ _ (kIsi (K := K)) rfl T.z_isinstance (by rfl) (@pa_cons _ _ _ _ _ (@vv _ 0 _ _ (by rfl) (by first | exact Or.inl rfl | exact Or.inr (Or.inl rfl) | exact Or.inr (Or.inr rfl)) (by decide) (by decide)) (@pa_cons _ _ _ _ _ (@pe_bltn _ _ (.ty "int") _ _ rfl T.z_int (by rfl) rfl (by decide) (by decide)) (@pa_nil _) (by rfl)) (by rfl)) (by decide) (by decide) (by rfl) (by rfl)) (@pe_one _ _ _ _ _ (@pe_notM _ _ _ _ (@pe_callB _ _ _ _ _ _ _ _ _ (kIsi (K := K)) rfl T.z_isinstance (by rfl) (@pa_cons _ _ _ _ _ (@vv _ 0 _ _ (by rfl) (by first | exact Or.inl rfl | exact Or.inr (Or.inl rfl) | exact Or.inr (Or.inr rfl)) (by decide) (by decide)) (@pa_cons _ _ _ _ _ (@pe_bltn _ _ (.ty "bool") _ _ rfl T.z_bool (by rfl) rfl (by decide) (by decide)) (@pa_nil _) (by rfl)) (by rfl)) (by decide) (by decide) (by rfl) (by rfl))))))), ?_⟩
  refine ⟨by decide, _, knd_isi hk _, ?_⟩
  refine ite2 (fun e => ⟨by decide, _, knd_isi hk _, ?_⟩) (fun e => ?_)
  · rw [isK_int e] at q
    exact q
  · rw [isK_int' e] at q
    exact q
def sp_truth : Sp := fun vs H Q _ => match vs with
  | [.bl a, .bl b] => Q (.bl (a == b)) H
  | _ => False
theorem sp_truth_mono : SpMono sp_truth := fun vs H Q Q' E h q => by
  unfold sp_truth at *
  split at q
  · exact h _ _ q
  · exact q.elim
theorem ok__law_truth : FnOk P w K mg base CX0 1 T.f__law_truth T.d__law_truth ["_law_found", "_law_due"] sp_truth := by
  refine T.F__law_truth.ok sc__law_truth (fun vs H Q E h => by unfold sp_truth at h; split at h <;> first | rfl | exact h.elim) (fun cdv A outer s H vs Q E hr h => ?_)
  match vs, h with
  | [.bl a, .bl b], q =>
  have hu := hu60 hr
  have q : Q (.bl (a == b)) H := q
  refine ⟨_, (@pss_one _ _ _ (@ps_ret _ _ _ _ (@pe_andM _ _ _ _ _ _ _ (@pe_callB _ _ _ _ _ _ _ _ _ (kIsi (K := K)) rfl T.z_isinstance (by rfl) (@pa_cons _ _ _ _ _ (@vv _ 0 _ _ (by rfl) (by first | exact Or.inl rfl | exact Or.inr (Or.inl rfl) | exact Or.inr (Or.inr rfl)) (by decide) (by decide)) (@pa_cons _ _ _ _ _ (@pe_bltn _ _ (.ty "bool") _ _ rfl T.z_bool (by rfl) rfl (by decide) (by decide)) (@pa_nil _) (by rfl)) (by rfl)) (by decide) (by decide) (by rfl) (by rfl)) (@pe_one _ _ _ _ _ (@pe_cmpM _ _ _ _ _ _ _ _ (kEq (K := K) hu) (@vv _ 0 _ _ (by rfl) (by first | exact Or.inl rfl | exact Or.inr (Or.inl rfl) | exact Or.inr (Or.inr rfl)) (by decide) (by decide)) (@vv _ 1 _ _ (by rfl) (by first | exact Or.inl rfl | exact Or.inr (Or.inl rfl) | exact Or.inr (Or.inr rfl)) (by decide) (by decide)) (by first | exact nobehind _ (by decide) (by decide) | rfl)))))), ?_⟩
  refine ⟨by decide, true, rfl, ?_⟩
  cases a <;> cases b <;> exact q
def belowV (n : Int) : V → Bool
  | .int i => decide (0 ≤ i) && decide (i < n)
  | _ => false
def sp_below : Sp := fun vs H Q _ => match vs with
  | [.int n, v] => ∃ k, Knd H v k ∧ Q (.bl (belowV n v)) H
  | _ => False
theorem knd_not_int {H : Hp} {v : V} {k : String} (h : Knd H v k) (n : ∀ i, v ≠ .int i) : (k == "int") = false := by
  cases v with
  | non => cases h; rfl
  | bl b => cases h; rfl
  | int i => exact absurd rfl (n i)
  | str x => cases h; rfl
  | ref a => rcases h with ⟨_, rfl⟩ | ⟨_, rfl⟩ | ⟨_, rfl⟩ <;> rfl
  | _ => exact False.elim h
theorem belowV_not {n : Int} {v : V} (h : ∀ i, v ≠ .int i) : belowV n v = false := by
  cases v with
  | int i => exact absurd rfl (h i)
  | _ => rfl
theorem ok_is_below : FnOk P w K mg base CX0 2 T.f_is_below T.d_is_below ["bound", "thing"] sp_below := by
  have G_is_whole := ok_is_whole (P := P) (w := w) (base := base) T
  refine T.F_is_below.ok sc_is_below (fun vs H Q E h => by unfold sp_below at h; split at h <;> first | rfl | exact h.elim) (fun cdv A outer s H vs Q E hr h => ?_)
  have hu := hu60 hr
  have hr_is_whole := hr.mono (show 1 ≤ _ by decide)
  match vs, h with
  | [.int n, v], ⟨k, hk, q⟩ =>
  refine ⟨_, (@pss_one _ _ _ (@ps_ret _ _ _ _ (@pe_andM _ _ _ _ _ _ _ (@pe_call _ _ _ _ _ _ _ _ _ _ _ _ _ _ _ _ G_is_whole hr_is_whole rfl T.m_is_whole T.F_is_whole.kp T.b_is_whole .nil pass0 (@pa_cons _ _ _ _ _ (@vv _ 1 _ _ (by rfl) (by first | exact Or.inl rfl | exact Or.inr (Or.inl rfl) | exact Or.inr (Or.inr rfl)) (by decide) (by decide)) (@pa_nil _) (by rfl)) (by decide) (by rfl) (by rfl)) (@pe_one _ _ _ _ _ (@pe_chainM _ _ _ _ _ _ _ _ _ _ _ _ om_le om_lt (@pe_int _ _ _ _) (@vv _ 1 _ _ (by rfl) (by first | exact Or.inl rfl | exact Or.inr (Or.inl rfl) | exact Or.inr (Or.inr rfl)) (by decide) (by decide)) (@vv _ 0 _ _ (by rfl) (by first | exact Or.inl rfl | exact Or.inr (Or.inl rfl) | exact Or.inr (Or.inr rfl)) (by decide) (by decide)) (by with_unfolding_all rfl)))))), ?_⟩
  refine ⟨k, hk, ?_⟩
  by_cases hv : ∃ i, v = .int i
  · obtain ⟨i, rfl⟩ := hv
    cases hk
    have q : Q (.bl (decide (0 ≤ i) && decide (i < n))) H := q
    refine ite2 (fun e => ?_) (fun e => ?_)
    · have e' : 0 ≤ i := of_decide_eq_true e
      rw [decide_eq_true e', Bool.true_and] at q
      exact q
    · rw [decide_eq_false (fun z => e (decide_eq_true z)), Bool.false_and] at q
      exact q
  · have hn : ∀ i, v ≠ .int i := fun i e => hv ⟨i, e⟩
    rw [belowV_not hn] at q
    have e0 := knd_not_int hk hn
    refine ite2 (fun e => ?_) (fun e => ?_)
    · rw [e0] at e; exact absurd e Bool.false_ne_true
    · exact q
def sp_place : Sp := fun vs H Q _ => match vs with
  | [.int x, v] => ∃ (m : Nat) (k : String), x = m ∧ m ≤ 6 ∧ Knd H v k ∧ Q (.bl (belowV ((2 ^ m : Nat) : Int) v)) H
  | _ => False
theorem sp_place_mono : SpMono sp_place := fun vs H Q Q' E h q => by
  unfold sp_place at *
  split at q
  · obtain ⟨m, k, h1, h2, h3, q⟩ := q; exact ⟨m, k, h1, h2, h3, h _ _ q⟩
  · exact q.elim
theorem ok_is_place : FnOk P w K mg base CX0 3 T.f_is_place T.d_is_place ["n", "thing"] sp_place := by
  have G_is_below := ok_is_below (P := P) (w := w) (base := base) T; have G_two_to := ok_two_to (P := P) (w := w) (base := base) T
  refine T.F_is_place.ok sc_is_place (fun vs H Q E h => by unfold sp_place at h; split at h <;> first | rfl | exact h.elim) (fun cdv A outer s H vs Q E hr h => ?_)
  have hu := hu60 hr
  have hr_is_below := hr.mono (show 2 ≤ _ by decide); have hr_two_to := hr.mono (show 2 ≤ _ by decide)
  match vs, h with
  | [.int x, v], ⟨m, k, e1, m6, hk, q⟩ =>
  subst e1
  refine ⟨_, (@pss_one _ _ _ (@ps_ret _ _ _ _ (@pe_call _ _ _ _ _ _ _ _ _ _ _ _ _ _ _ _ G_is_below hr_is_below rfl T.m_is_below T.F_is_below.kp T.b_is_below .nil pass0 (@pa_cons _ _ _ _ _ (@pe_call _ _ _ _ _ _ _ _ _ _ _ _ _ _ _ _ G_two_to hr_two_to rfl T.m_two_to T.F_two_to.kp T.b_two_to .nil pass0 (@pa_cons _ _ _ _ _ (@vv _ 0 _ _ (by rfl) (by first | exact Or.inl rfl | exact Or.inr (Or.inl rfl) | exact Or.inr (Or.inr rfl)) (by decide) (by decide)) (@pa_nil _) (by rfl)) (by decide) (by rfl) (by rfl)) (@pa_cons _ _ _ _ _ (@vv _ 1 _ _ (by rfl) (by first | exact Or.inl rfl | exact Or.inr (Or.inl rfl) | exact Or.inr (Or.inr rfl)) (by decide) (by decide)) (@pa_nil _) (by rfl)) (by rfl)) (by decide) (by rfl) (by rfl)))), ?_⟩
  exact ⟨m, rfl, by omega, k, hk, q⟩
def isBl : V → Bool
  | .bl _ => true
  | _ => false
theorem isK_bl {H : Hp} {v : V} {k : String} (h : Knd H v k) : isK k "bool" = isBl v := by
  cases v with
  | non => cases h; rfl
  | bl b => cases h; rfl
  | int i => cases h; rfl
  | str x => cases h; rfl
  | ref a => rcases h with ⟨_, rfl⟩ | ⟨_, rfl⟩ | ⟨_, rfl⟩ <;> rfl
  | _ => exact False.elim h
def goodLen (n : Nat) : Bool := inV (.int ((n : Nat) : Int)) [.int 2, .int 4, .int 8, .int 16, .int 32, .int 64]
def IsTab (K : PySem.W.Frag) (H : Hp) (v : V) (b : Bool) : Prop := (b = false ∧ ∃ k, Knd H v k ∧ k ≠ "tuple") ∨
  ∃ a xs, v = .ref a ∧ H a = some (.tup xs) ∧ xs.length ≤ 200 ∧ (∀ x ∈ xs, ∃ k, Knd H x k) ∧ b = (goodLen xs.length && xs.all isBl)
def sp_istab (K : PySem.W.Frag) : Sp := fun vs H Q _ => match vs with
  | [v] => ∃ b, IsTab K H v b ∧ ∀ H', Same H H' → Q (.bl b) H'
  | _ => False
theorem sp_istab_mono : SpMono (sp_istab K) := fun vs H Q Q' E h q => by
  unfold sp_istab at *
  split at q
  · obtain ⟨b, h1, q⟩ := q; exact ⟨b, h1, fun H' x1 => h _ _ (q H' x1)⟩
  · exact q.elim
theorem same_self (H : Hp) : Same H H := fun _ _ h => h
theorem ok_is_table : FnOk P w K mg base CX0 1 T.f_is_table T.d_is_table ["thing"] (sp_istab K) := by
  refine T.F_is_table.ok sc_is_table (fun vs H Q E h => by unfold sp_istab at h; split at h <;> first | rfl | exact h.elim) (fun cdv A outer s H vs Q E hr h => ?_)
  have hu := hu60 hr
  match vs, h with
  | [v], ⟨b, hv, q⟩ =>
  refine ⟨_, (@pss_cons _ _ _ _ _ (@ps_if _ _ _ _ _ _ _ _ (PW.pt (@pw_or _ _ _ _ _ _ _ (@pt_not _ _ _ _ (@tu_val _ _ _ (@pe_callB _ _ _ _ _ _ _ _ _ (kIsi (K := K)) rfl T.z_isinstance (by rfl) (@pa_cons _ _ _ _ _ (@vv _ 0 _ _ (by rfl) (by first | exact Or.inl rfl | exact Or.inr (Or.inl rfl) | exact Or.inr (Or.inr rfl)) (by decide) (by decide)) (@pa_cons _ _ _ _ _ (@pe_bltn _ _ (.ty "tuple") _ _ rfl T.z_tuple (by rfl) rfl (by decide) (by decide)) (@pa_nil _) (by rfl)) (by rfl)) (by decide) (by decide) (by rfl) (by rfl)) (by intro _; rfl))) (@pw_or1 _ _ _ _ (@tu_cmp _ _ _ _ _ _ _ _ (kNotIn (K := K)) (@pe_callB _ _ _ _ _ _ _ _ _ (kLen (K := K)) rfl T.z_len (by rfl) (@pa_cons _ _ _ _ _ (@vv _ 0 _ _ (by rfl) (by first | exact Or.inl rfl | exact Or.inr (Or.inl rfl) | exact Or.inr (Or.inr rfl)) (by decide) (by decide)) (@pa_nil _) (by rfl)) (by decide) (by decide) (by rfl) (by rfl)) (@pe_glob _ _ (.ref T.a_TABLE_LENGTHS) _ _ rfl T.c_TABLE_LENGTHS rfl (by decide)) (by first | exact nobehind _ (by decide) (by decide) | rfl))))) (@pss_one _ _ _ (@ps_ret _ _ _ _ (@pe_bl _ _ _ _))) (@pss_nil _)) (@pss_one _ _ _ (@ps_ret _ _ _ _ (@pe_callB _ _ _ _ _ _ _ _ _ (kAll (K := K) rfl) rfl T.z_all (by rfl) (@pa_cons _ _ _ _ _ (@pe_compB _ _ _ _ _ _ _ ["answer"] 1 [] _ _ _ _ rfl (@kSeq _ K _ _ _ (@vv _ 0 _ _ (by rfl) (by first | exact Or.inl rfl | exact Or.inr (Or.inl rfl) | exact Or.inr (Or.inr rfl)) (by decide) (by decide)) (by rfl)) (by kernel_rfl) rfl rfl (by kernel_rfl) (fun c => @pg_name _ _ 0 _ (show (["answer"] : List Str).Nodup by decide +kernel) rfl (by first | exact Or.inl rfl | exact Or.inr rfl) (by first | exact .inl rfl | exact .inr rfl | assumption)) (go_name (by decide)) (fun c => @pts_nil _) (fun c => (@pe_callB _ _ _ _ _ _ _ _ _ (kIsi (K := K)) rfl T.z_isinstance (by rfl) (@pa_cons _ _ _ _ _ (@vv _ 0 _ _ (by rfl) (by first | exact Or.inl rfl | exact Or.inr (Or.inl rfl) | exact Or.inr (Or.inr rfl)) (by decide) (by decide)) (@pa_cons _ _ _ _ _ (@pe_bltn _ _ (.ty "bool") _ _ rfl T.z_bool (by rfl) rfl (by decide) (by decide)) (@pa_nil _) (by rfl)) (by rfl)) (by decide) (by decide) (by rfl) (by rfl))) (by intro _; rfl)) (@pa_nil _) (by rfl)) (by decide) (by decide) (by rfl) (by rfl))))), ?_⟩
  rcases hv with ⟨rfl, k, hk, hn⟩ | ⟨tp, xs, rfl, ht, hl, hx, rfl⟩
  · refine if_val true ?_ ?_
    · intro Q q
      refine ⟨by decide, _, knd_isi hk _, ?_⟩
      have e0 : isK k "tuple" = false := by
        unfold isK
        have : ("tuple" == k) = false := by simpa using fun e => hn (Eq.symm e)
        rw [this]
        simp
      rw [e0]
      exact q
    · exact iteT (q _ (same_self H))
  · have hk : Knd H (.ref tp) "tuple" := .inr (.inl ⟨⟨xs, ht⟩, rfl⟩)
    cases hg : goodLen xs.length with
    | false =>
      rw [hg, Bool.false_and] at q
      refine if_val true ?_ ?_
      · intro Q q
        refine ⟨by decide, _, knd_isi hk _, xs.length, .inr ⟨_, .of ht, rfl⟩, _, .inr (T.q_TABLE_LENGTHS H), rfl, rfl, ?_⟩
        have e0 : (true ^^ goodLen xs.length) = true := by rw [hg]; rfl
        rw [← e0] at q
        exact q
      · exact iteT (q _ (same_self H))
    | true =>
      rw [hg, Bool.true_and] at q
      refine seq_at (fun σ H' => σ = [some (.ref tp)] ∧ H = H') ?_ ?_ (by walk_at "sm")
      · refine if_val false ?_ ?_
        · intro Q q
          refine ⟨by decide, _, knd_isi hk _, xs.length, .inr ⟨_, .of ht, rfl⟩, _, .inr (T.q_TABLE_LENGTHS H), rfl, rfl, ?_⟩
          have e0 : (true ^^ goodLen xs.length) = false := by rw [hg]; rfl
          rw [← e0] at q
          exact q
        · exact iteF ⟨rfl, rfl⟩
      rintro σ _ ⟨rfl, rfl⟩
      refine .inr ⟨⟨_, .of ht⟩, ?_⟩
      refine comp_tup (xs := xs) (fun i ys H' => H' = H ∧ ys = ((xs.take i).map isBl).map V.bl) ⟨rfl, rfl⟩ (fun i ys H' _ ⟨e, _⟩ => by rw [e]; exact .of ht) (fun i ys H' hi ⟨_, e⟩ => by
        rw [e, List.length_map, List.length_map, List.length_take]; exact small1000 (by omega)) ?_ ?_
      · rintro i w zs H' hx' ⟨rfl, rfl⟩
        obtain ⟨k, hk⟩ := hx w (List.mem_of_getElem? hx')
        refine ⟨by decide, _, knd_isi hk _, rfl, ?_⟩
        rw [isK_bl hk, List.take_succ, hx', List.map_append, List.map_append]
        rfl
      · rintro zs H' ⟨rfl, rfl⟩ l hl
        refine ⟨_, .of upd_same, ?_⟩
        have e0 : (((xs.take xs.length).map isBl)).all id = xs.all isBl := by rw [List.take_length, List.all_map]; rfl
        show Q (.bl (((xs.take xs.length).map isBl).all id)) _
        rw [e0]
        exact q _ (Same.upd hl)
theorem IsTab.knd {H : Hp} {v : V} {b : Bool} (h : IsTab K H v b) : ∃ k, Knd H v k := by
  rcases h with ⟨_, k, hk, _⟩ | ⟨a, xs, rfl, ht, _⟩
  · exact ⟨k, hk⟩
  · exact ⟨"tuple", .inr (.inl ⟨⟨xs, ht⟩, rfl⟩)⟩
theorem atI_mem {xs : List V} {i : Int} (h0 : 0 ≤ i) (h1 : i < xs.length) : ∃ z, atI xs i = some z ∧ z ∈ xs := by
  obtain ⟨n, rfl⟩ := Int.eq_ofNat_of_zero_le h0
  have hn : n < xs.length := by omega
  exact ⟨xs[n], atI_of rfl (List.getElem?_eq_getElem hn), List.getElem_mem hn⟩
theorem st {A B C : Hp} (x : Same A B) (y : Same B C) : Same A C := fun b o e => y b o (x b o e)
theorem odd_all {H6 : Hp} {t p1 p2 p3 p4 p5 : Addr} (i j : Int) (x1 x2 x3 : Str) (k1 : H6 p1 = some (.tup [])) (k2 : H6 p2 = some (.lst [])) (k3 : H6 p3 = some (.dK [])) (k4 : H6 p4 = some (.tup [.int 1])) (k5 : H6 p5 = some (.tup [.bl true]))
    (m1 : p1 ≠ t) (m2 : p2 ≠ t) (m3 : p3 ≠ t) (m4 : p4 ≠ t) (m5 : p5 ≠ t) :
    ∀ v ∈ [V.non, .bl true, .bl false, .int (-1), .str x1, .str x2, .str x3, .ref p1, .ref p2, .ref p3, .ref p4, .int i, .int j, .int 64, .int 63, .ref p5], v ≠ .ref t ∧ IsTab K H6 v false := by
  have rn : ∀ {p : Addr}, p ≠ t → V.ref p ≠ .ref t := fun n e => n (by injection e)
  intro v hv
  simp only [List.mem_cons, List.not_mem_nil, or_false] at hv
  rcases hv with rfl | rfl | rfl | rfl | rfl | rfl | rfl | rfl | rfl | rfl | rfl | rfl | rfl | rfl | rfl | rfl
  · exact ⟨(fun e => nomatch e), .inl ⟨rfl, _, rfl, by decide⟩⟩
  · exact ⟨(fun e => nomatch e), .inl ⟨rfl, _, rfl, by decide⟩⟩
  · exact ⟨(fun e => nomatch e), .inl ⟨rfl, _, rfl, by decide⟩⟩
  · exact ⟨(fun e => nomatch e), .inl ⟨rfl, _, rfl, by decide⟩⟩
  · exact ⟨(fun e => nomatch e), .inl ⟨rfl, _, rfl, by decide⟩⟩
  · exact ⟨(fun e => nomatch e), .inl ⟨rfl, _, rfl, by decide⟩⟩
  · exact ⟨(fun e => nomatch e), .inl ⟨rfl, _, rfl, by decide⟩⟩
  · exact ⟨rn m1, .inr ⟨_, _, rfl, k1, by decide, (fun x hx => by cases hx), rfl⟩⟩
  · exact ⟨rn m2, .inl ⟨rfl, "list", .inl ⟨⟨_, k2⟩, rfl⟩, by decide⟩⟩
  · exact ⟨rn m3, .inl ⟨rfl, "dict", .inr (.inr ⟨⟨_, k3⟩, rfl⟩), by decide⟩⟩
  · exact ⟨rn m4, .inr ⟨_, _, rfl, k4, by simp, (fun x hx => by rw [List.mem_singleton] at hx; subst hx; exact ⟨_, rfl⟩), rfl⟩⟩
  · exact ⟨(fun e => nomatch e), .inl ⟨rfl, _, rfl, by decide⟩⟩
  · exact ⟨(fun e => nomatch e), .inl ⟨rfl, _, rfl, by decide⟩⟩
  · exact ⟨(fun e => nomatch e), .inl ⟨rfl, _, rfl, by decide⟩⟩
  · exact ⟨(fun e => nomatch e), .inl ⟨rfl, _, rfl, by decide⟩⟩
  · exact ⟨rn m5, .inr ⟨_, _, rfl, k5, by simp, (fun x hx => by rw [List.mem_singleton] at hx; subst hx; exact ⟨_, rfl⟩), rfl⟩⟩
def sp_odd (K : PySem.W.Frag) : Sp := fun vs H Q _ => match vs with
  | [.ref t] => ∃ (a : Addr) (ns : List Int), Tape K H t a ns ∧ ∀ v H', Tape K H' t a ns → Frm t H H' → v ≠ .ref t → IsTab K H' v false → Q v H'
  | _ => False
theorem sp_odd_mono : SpMono (sp_odd K) := fun vs H Q Q' E h q => by
  unfold sp_odd at *
  split at q
  · obtain ⟨a, ns, h1, q⟩ := q; exact ⟨a, ns, h1, fun v H' x1 x2 x3 x4 => h _ _ (q v H' x1 x2 x3 x4)⟩
  · exact q.elim
theorem ok__law_odd : FnOk P w K mg base CX0 2 T.f__law_odd T.d__law_odd ["_law_tape_here"] (sp_odd K) := by
  have G__law_next := ok__law_next (P := P) (w := w) (base := base) T
  refine T.F__law_odd.ok sc__law_odd (fun vs H Q E h => by unfold sp_odd at h; split at h <;> first | rfl | exact h.elim) (fun cdv A outer s H vs Q E hr h => ?_)
  have hu := hu60 hr
  have hr__law_next := hr.mono (show 1 ≤ _ by decide)
  match vs, h with
  | [.ref t], ⟨a, ns, TP, q⟩ =>
  refine ⟨_, (@pss_cons _ _ _ _ _ (@ps_setN _ _ 1 _ _ _ _ sc__law_odd.nd rfl (by first | exact Or.inl rfl | exact Or.inr rfl) (@pe_lst _ _ _ _ (@pa_cons _ _ _ _ _ (@pe_non _ _ _) (@pa_cons _ _ _ _ _ (@pe_bl _ _ _ _) (@pa_cons _ _ _ _ _ (@pe_bl _ _ _ _) (@pa_cons _ _ _ _ _ (@pe_un _ _ _ _ _ _ um_neg (@pe_int _ _ _ _)) (@pa_cons _ _ _ _ _ (@pe_str _ _ _ _) (@pa_cons _ _ _ _ _ (@pe_str _ _ _ _) (@pa_cons _ _ _ _ _ (@pe_str _ _ _ _) (@pa_cons _ _ _ _ _ (@pe_tup _ _ _ _ _ (@pa_nil _)) (@pa_cons _ _ _ _ _ (@pe_lst _ _ _ _ (@pa_nil _)) (@pa_cons _ _ _ _ _ (@pe_dnewK _ _) (@pa_cons _ _ _ _ _ (@pe_tup _ _ _ _ _ (@pa_cons _ _ _ _ _ (@pe_int _ _ _ _) (@pa_nil _) (by rfl))) (@pa_cons _ _ _ _ _ (@pe_op _ _ _ _ _ _ _ _ om_pow (@pe_int _ _ _ _) (@pe_int _ _ _ _)) (@pa_cons _ _ _ _ _ (@pe_un _ _ _ _ _ _ um_neg (@pe_op _ _ _ _ _ _ _ _ om_pow (@pe_int _ _ _ _) (@pe_int _ _ _ _))) (@pa_cons _ _ _ _ _ (@pe_int _ _ _ _) (@pa_cons _ _ _ _ _ (@pe_int _ _ _ _) (@pa_cons _ _ _ _ _ (@pe_tup _ _ _ _ _ (@pa_cons _ _ _ _ _ (@pe_bl _ _ _ _) (@pa_nil _) (by rfl))) (@pa_nil _) (by rfl)) (by rfl)) (by rfl)) (by rfl)) (by rfl)) (by rfl)) (by rfl)) (by rfl)) (by rfl)) (by rfl)) (by rfl)) (by rfl)) (by rfl)) (by rfl)) (by rfl)) (by rfl))) rfl (by first | exact .inl rfl | exact .inr rfl)) (@pss_one _ _ _ (@ps_ret _ _ _ _ (@kIx _ K _ _ _ _ _ (@vv _ 1 _ _ (by rfl) (by first | exact Or.inl rfl | exact Or.inr (Or.inl rfl) | exact Or.inr (Or.inr rfl)) (by decide) (by decide)) (@pe_call _ _ _ _ _ _ _ _ _ _ _ _ _ _ _ _ G__law_next hr__law_next rfl T.m__law_next T.F__law_next.kp T.b__law_next .nil pass0 (@pa_cons _ _ _ _ _ (@vv _ 0 _ _ (by rfl) (by first | exact Or.inl rfl | exact Or.inr (Or.inl rfl) | exact Or.inr (Or.inr rfl)) (by decide) (by decide)) (@pa_cons _ _ _ _ _ (@pe_int _ _ _ _) (@pa_nil _) (by rfl)) (by rfl)) (by decide) (by rfl) (by rfl)) (by intro _ _; rfl) (by rfl))))), ?_⟩
  have s0 : (0 : Nat) ≤ sizeLine := Nat.zero_le _
  have s1 : (1 : Nat) ≤ sizeLine := small_le (by decide)
  refine ⟨s0, fun p1 n1 => ⟨s0, fun p2 n2 => fun p3 n3 => ⟨s1, fun p4 n4 => ?_⟩⟩⟩
  refine ⟨⟨by decide, by decide, by decide⟩, ⟨by decide, by decide, by decide⟩, s1, fun p5 n5 => ⟨small_le (show 16 ≤ 1000 by decide), fun p6 n6 => ?_⟩⟩
  have f1 : Same H (upd H p1 (.tup [])) := Same.upd n1
  have f2 := Same.upd (o := .lst []) n2
  have f3 := Same.upd (o := .dK []) n3
  have f4 := Same.upd (o := .tup [.int 1]) n4
  have f5 := Same.upd (o := .tup [.bl true]) n5
  have t1 := TP.same f1
  have t2 := t1.same f2
  have t3 := t2.same f3
  have t4 := t3.same f4
  have t5 := t4.same f5
  have m1 := TP.neT n1
  have m2 := t1.neT n2
  have m3 := t2.neT n3
  have m4 := t3.neT n4
  have m5 := t4.neT n5
  have m6 := t5.neT n6
  have k1 := st f2 (st f3 (st f4 f5)) p1 _ upd_same
  have k2 := st f3 (st f4 f5) p2 _ upd_same
  have k3 := st f4 f5 p3 _ upd_same
  have k4 := f5 p4 _ upd_same
  have k5 : _ = some (HO.tup [.bl true]) := upd_same (H := upd (upd (upd (upd H p1 (HO.tup [])) p2 (HO.lst [])) p3 (HO.dK [])) p4 (HO.tup [V.int 1])) (a := p5)
  have F5 := st f1 (st f2 (st f3 (st f4 f5)))
  generalize (upd (upd (upd (upd (upd H p1 (HO.tup [])) p2 (HO.lst [])) p3 (HO.dK [])) p4 (HO.tup [V.int 1])) p5 (HO.tup [V.bl true])) = H5 at *
  refine ⟨a, ns, t5.same (Same.upd n6), ⟨by decide, by decide⟩, fun d H' d0 d1 T' f' => ?_⟩
  have F6 : ∀ (o : HO) b x, H5 b = some x → b ≠ t → upd H5 p6 o b = some x := fun o b x e _ => Same.upd n6 b x e
  obtain ⟨z, hz, hm⟩ := atI_mem (xs := [V.non, .bl true, .bl false, .int (-1), .str (Str.ofString "a"), .str (Str.ofString "1"), .str (Str.ofString ""), .ref p1, .ref p2, .ref p3, .ref p4, .int (10 ^ Int.toNat 39), .int (-10 ^ Int.toNat 39), .int 64, .int 63, .ref p5]) d0 d1
  have al := odd_all (K := K) (H6 := H') (t := t) (10 ^ Int.toNat 39) (-10 ^ Int.toNat 39) (Str.ofString "a") (Str.ofString "1") (Str.ofString "") (by rw [f' p1 m1]; exact F6 _ _ _ k1 m1) (by rw [f' p2 m2]; exact F6 _ _ _ k2 m2) (by rw [f' p3 m3]; exact F6 _ _ _ k3 m3) (by rw [f' p4 m4]; exact F6 _ _ _ k4 m4) (by rw [f' p5 m5]; exact F6 _ _ _ k5 m5) m1 m2 m3 m4 m5 z hm
  refine ⟨_, _, .inl (.of (by rw [f' p6 m6]; exact upd_same)), hz, q _ _ T' ?_ al.1 al.2⟩
  exact (st F5 (Same.upd n6)).frm.trans (frm_of f')
def sp_tr (K : PySem.W.Frag) : Sp := fun vs H Q _ => match vs with
  | [.ref t] => ∃ (a : Addr) (ns : List Int), Tape K H t a ns ∧ ∀ H', Tape K H' t a ns → Frm t H H' → Q (.bl true) H'
  | _ => False
theorem sp_tr_mono : SpMono (sp_tr K) := fun vs H Q Q' E h q => by
  unfold sp_tr at *
  split at q
  · obtain ⟨a, ns, h1, q⟩ := q; exact ⟨a, ns, h1, fun H' x1 x2 => h _ _ (q H' x1 x2)⟩
  · exact q.elim
theorem tape_put {H0 H : Hp} {t a p : Addr} {ns : List Int} {o : HO} (T0 : Tape K H0 t a ns) (T1 : Tape K H t a ns) (F : Frm t H0 (upd H p o)) (n : p ≠ t) : Tape K (upd H p o) t a ns := by
  obtain ⟨i, r, c, h1, h2, h3⟩ := T1.at_
  exact ⟨⟨i, r, c, h1, h2, by rw [upd_ne (Ne.symm n)]; exact h3⟩, T0.scr.stay fun o n e => F a o n e⟩
theorem frm_new {t p : Addr} {H0 H : Hp} {o : HO} (f : Frm t H0 H) (hp : H0 p = none) : Frm t H0 (upd H p o) := fun b u n e => by
  rw [upd_ne (ne_of_none e hp)]; exact f b u n e
theorem all_bl (bs : List Bool) : (bs.map V.bl).all isBl = true := by
  rw [List.all_eq_true]
  intro x hx
  obtain ⟨b, _, rfl⟩ := List.mem_map.mp hx
  rfl
theorem knd_bl {H : Hp} (bs : List Bool) : ∀ x ∈ bs.map V.bl, ∃ k, Knd H x k := by
  intro x hx
  obtain ⟨b, _, rfl⟩ := List.mem_map.mp hx
  exact ⟨_, rfl⟩
theorem good_pow {m : Nat} (h : m < 6) : goodLen (2 ^ (m + 1)) = true := by
  have : m = 0 ∨ m = 1 ∨ m = 2 ∨ m = 3 ∨ m = 4 ∨ m = 5 := by omega
  rcases this with rfl | rfl | rfl | rfl | rfl | rfl <;> rfl
theorem rep_true (k : Nat) : (List.replicate k [V.bl true]).flatten = (List.replicate k true).map V.bl := by
  induction k with
  | zero => rfl
  | succ k ih => rw [List.replicate_succ, List.flatten_cons, ih, List.replicate_succ]; rfl
theorem IsTab.same {H H' : Hp} {v : V} {b : Bool} (h : IsTab K H v b) (f : Same H H') : IsTab K H' v b := by
  rcases h with ⟨e, k, hk, hn⟩ | ⟨a, xs, rfl, ht, hz, hx, e⟩
  · exact .inl ⟨e, k, hk.same f, hn⟩
  · exact .inr ⟨a, xs, rfl, f _ _ ht, hz, fun x hm => by obtain ⟨k, hk⟩ := hx x hm; exact ⟨k, hk.same f⟩, e⟩
def Odd1 (t : Addr) (H : Hp) (z : V) : Prop := isBl z = false ∧ z ≠ .ref t ∧ ∃ k, Knd H z k
theorem odd1_all {H : Hp} {t p : Addr} (x : Str) (i : Int) (k1 : H p = some (.tup [.bl true])) (m1 : p ≠ t) : ∀ v ∈ [V.int 1, .int 0, .non, .str x, .ref p, .int i], Odd1 t H v := by
  intro v hv
  simp only [List.mem_cons, List.not_mem_nil, or_false] at hv
  rcases hv with rfl | rfl | rfl | rfl | rfl | rfl
  · exact ⟨rfl, (fun e => nomatch e), _, rfl⟩
  · exact ⟨rfl, (fun e => nomatch e), _, rfl⟩
  · exact ⟨rfl, (fun e => nomatch e), _, rfl⟩
  · exact ⟨rfl, (fun e => nomatch e), _, rfl⟩
  · exact ⟨rfl, (fun e => m1 (by injection e)), "tuple", .inr (.inl ⟨⟨_, k1⟩, rfl⟩)⟩
  · exact ⟨rfl, (fun e => nomatch e), _, rfl⟩
theorem five_all {H : Hp} {p1 l p2 p3 : Addr} {bs : List Bool} {z : V} {j N : Nat} (x : Str) (lb : (bs.map V.bl).length = N) (hN : N ≤ 64) (hj : j < N) (k1 : H p1 = some (.tup ((bs.map V.bl).set j z))) (kl : H l = some (.lst (bs.map V.bl))) (k2 : ∃ xs, H p2 = some (.lst xs)) (k3 : ∃ kvs, H p3 = some (.dK kvs)) (oz : isBl z = false) (hz : ∃ k, Knd H z k) :
    ∀ v ∈ [V.ref p1, .ref l, .ref p2, .ref p3, .str x], IsTab K H v false := by
  intro v hv
  simp only [List.mem_cons, List.not_mem_nil, or_false] at hv
  rcases hv with rfl | rfl | rfl | rfl | rfl
  · refine .inr ⟨p1, _, rfl, k1, by rw [List.length_set, lb]; omega, fun x hx => ?_, ?_⟩
    · rcases List.mem_or_eq_of_mem_set hx with hx | rfl
      · exact knd_bl bs x hx
      · exact hz
    · have : ((bs.map V.bl).set j z).all isBl = false := List.all_eq_false.mpr ⟨z, List.mem_set (by rw [lb]; exact hj) z, by rw [oz]; decide⟩
      rw [this, Bool.and_false]
  · exact .inl ⟨rfl, "list", .inl ⟨⟨_, kl⟩, rfl⟩, by decide⟩
  · exact .inl ⟨rfl, "list", .inl ⟨k2, rfl⟩, by decide⟩
  · exact .inl ⟨rfl, "dict", .inr (.inr ⟨k3, rfl⟩), by decide⟩
  · exact .inl ⟨rfl, _, rfl, by decide⟩
theorem ok__law_tables_right : FnOk P w K mg base CX0 2 T.f__law_tables_right T.d__law_tables_right ["_law_tape_here"] (sp_tr K) := by
  have G__law_truth := ok__law_truth (P := P) (w := w) (base := base) T; have G__law_next := ok__law_next (P := P) (w := w) (base := base) T; have G_is_table := ok_is_table (P := P) (w := w) (base := base) T; have G_switches_of := ok_switches_of (P := P) (w := w) (base := base) T; have G__law_two := ok__law_two (P := P) (w := w) (base := base) T
  refine T.F__law_tables_right.ok sc__law_tables_right (fun vs H Q E h => by unfold sp_tr at h; split at h <;> first | rfl | exact h.elim) (fun cdv A outer s H vs Q E hr h => ?_)
  have hu := hu60 hr
  have hr__law_truth := hr.mono (show 1 ≤ _ by decide); have hr__law_next := hr.mono (show 1 ≤ _ by decide); have hr_is_table := hr.mono (show 1 ≤ _ by decide); have hr_switches_of := hr.mono (show 1 ≤ _ by decide); have hr__law_two := hr.mono (show 1 ≤ _ by decide)
  match vs, h with
  | [.ref t], ⟨a, ns, TP, q⟩ =>
  refine ⟨_, (@pss_cons _ _ _ _ _ (@ps_set _ _ 1 _ _ _ _ sc__law_tables_right.nd rfl (by first | exact Or.inl rfl | exact Or.inr rfl) (@pe_op _ _ _ _ _ _ _ _ (kAdd (K := K)) (@pe_int _ _ _ _) (@pe_call _ _ _ _ _ _ _ _ _ _ _ _ _ _ _ _ G__law_next hr__law_next rfl T.m__law_next T.F__law_next.kp T.b__law_next .nil pass0 (@pa_cons _ _ _ _ _ (@vv _ 0 _ _ (by rfl) (by first | exact Or.inl rfl | exact Or.inr (Or.inl rfl) | exact Or.inr (Or.inr rfl)) (by decide) (by decide)) (@pa_cons _ _ _ _ _ (@pe_int _ _ _ _) (@pa_nil _) (by rfl)) (by rfl)) (by decide) (by rfl) (by rfl))) (by rfl) (by first | exact .inl rfl | exact .inr rfl | assumption)) (@pss_cons _ _ _ _ _ (@ps_compB _ _ _ _ _ _ _ (["_law_k", "_law_tape_here"]) 1 [0] _ _ _ _ 2 _ _ _ rfl sc__law_tables_right.nd rfl rfl (@pi_range1 _ _ _ _ _ _ rfl T.z_range (@pa_cons _ _ _ _ _ (@pe_call _ _ _ _ _ _ _ _ _ _ _ _ _ _ _ _ G__law_two hr__law_two rfl T.m__law_two T.F__law_two.kp T.b__law_two .nil pass0 (@pa_cons _ _ _ _ _ (@vv _ 1 _ _ (by rfl) (by first | exact Or.inl rfl | exact Or.inr (Or.inl rfl) | exact Or.inr (Or.inr rfl)) (by decide) (by decide)) (@pa_nil _) (by rfl)) (by decide) (by rfl) (by rfl)) (@pa_nil _) (by rfl)) (by rfl)) (by kernel_rfl) rfl rfl (by kernel_rfl) (fun c => @pg_name _ _ 0 _ (show (["_law_k", "_law_tape_here"] : List Str).Nodup by decide +kernel) rfl (by first | exact Or.inl rfl | exact Or.inr rfl) (by first | exact .inl rfl | exact .inr rfl | assumption)) (go_name (by decide)) (fun c => @pts_nil _) (fun c => (@pe_cmpM _ _ _ _ _ _ _ _ (kEq (K := K) hu) (@pe_call _ _ _ _ _ _ _ _ _ _ _ _ _ _ _ _ G__law_next hr__law_next rfl T.m__law_next T.F__law_next.kp T.b__law_next .nil pass0 (@pa_cons _ _ _ _ _ (@vv _ 1 _ _ (by rfl) (by first | exact Or.inl rfl | exact Or.inr (Or.inl rfl) | exact Or.inr (Or.inr rfl)) (by decide) (by decide)) (@pa_cons _ _ _ _ _ (@pe_int _ _ _ _) (@pa_nil _) (by rfl)) (by rfl)) (by decide) (by rfl) (by rfl)) (@pe_int _ _ _ _) (by first | exact nobehind _ (by decide) (by decide) | rfl))) (by rfl) (by intro _; rfl)) (@pss_cons _ _ _ _ _ (@ps_if _ _ _ _ _ _ _ _ (PW.pt (@pw_or _ _ _ _ _ _ _ (@pt_not _ _ _ _ (@tu_val _ _ _ (@pe_call _ _ _ _ _ _ _ _ _ _ _ _ _ _ _ _ G__law_truth hr__law_truth rfl T.m__law_truth T.F__law_truth.kp T.b__law_truth .nil pass0 (@pa_cons _ _ _ _ _ (@pe_call _ _ _ _ _ _ _ _ _ _ _ _ _ _ _ _ G_is_table hr_is_table rfl T.m_is_table T.F_is_table.kp T.b_is_table .nil pass0 (@pa_cons _ _ _ _ _ (@pe_callTy _ _ _ _ _ _ _ _ _ (kTuple (K := K)) rfl T.z_tuple (by rfl) (@pa_cons _ _ _ _ _ (@vv _ 2 _ _ (by rfl) (by first | exact Or.inl rfl | exact Or.inr (Or.inl rfl) | exact Or.inr (Or.inr rfl)) (by decide) (by decide)) (@pa_nil _) (by rfl)) (by decide) (by decide) (by rfl) (by rfl)) (@pa_nil _) (by rfl)) (by decide) (by rfl) (by rfl)) (@pa_cons _ _ _ _ _ (@pe_bl _ _ _ _) (@pa_nil _) (by rfl)) (by rfl)) (by decide) (by rfl) (by rfl)) (by intro _; rfl))) (@pw_or1 _ _ _ _ (@tu_cmp _ _ _ _ _ _ _ _ (kNe (K := K) hu) (@pe_call _ _ _ _ _ _ _ _ _ _ _ _ _ _ _ _ G_switches_of hr_switches_of rfl T.m_switches_of T.F_switches_of.kp T.b_switches_of .nil pass0 (@pa_cons _ _ _ _ _ (@pe_callTy _ _ _ _ _ _ _ _ _ (kTuple (K := K)) rfl T.z_tuple (by rfl) (@pa_cons _ _ _ _ _ (@vv _ 2 _ _ (by rfl) (by first | exact Or.inl rfl | exact Or.inr (Or.inl rfl) | exact Or.inr (Or.inr rfl)) (by decide) (by decide)) (@pa_nil _) (by rfl)) (by decide) (by decide) (by rfl) (by rfl)) (@pa_nil _) (by rfl)) (by decide) (by rfl) (by rfl)) (@vv _ 1 _ _ (by rfl) (by first | exact Or.inl rfl | exact Or.inr (Or.inl rfl) | exact Or.inr (Or.inr rfl)) (by decide) (by decide)) (by first | exact nobehind _ (by decide) (by decide) | rfl))))) (@pss_one _ _ _ (@ps_ret _ _ _ _ (@pe_bl _ _ _ _))) (@pss_nil _)) (@pss_cons _ _ _ _ _ (@ps_set _ _ 3 _ _ _ _ sc__law_tables_right.nd rfl (by first | exact Or.inl rfl | exact Or.inr rfl) (@pe_callTy _ _ _ _ _ _ _ _ _ (kList (K := K)) rfl T.z_list (by rfl) (@pa_cons _ _ _ _ _ (@vv _ 2 _ _ (by rfl) (by first | exact Or.inl rfl | exact Or.inr (Or.inl rfl) | exact Or.inr (Or.inr rfl)) (by decide) (by decide)) (@pa_nil _) (by rfl)) (by decide) (by decide) (by rfl) (by rfl)) (by rfl) (by first | exact .inl rfl | exact .inr rfl | assumption)) (@pss_cons _ _ _ _ _ (@ps_asg _ _ _ _ _ _ (@kIx _ K _ _ _ _ _ (@pe_lst _ _ _ _ (@pa_cons _ _ _ _ _ (@pe_int _ _ _ _) (@pa_cons _ _ _ _ _ (@pe_int _ _ _ _) (@pa_cons _ _ _ _ _ (@pe_non _ _ _) (@pa_cons _ _ _ _ _ (@pe_str _ _ _ _) (@pa_cons _ _ _ _ _ (@pe_tup _ _ _ _ _ (@pa_cons _ _ _ _ _ (@pe_bl _ _ _ _) (@pa_nil _) (by rfl))) (@pa_cons _ _ _ _ _ (@pe_un _ _ _ _ _ _ um_neg (@pe_int _ _ _ _)) (@pa_nil _) (by rfl)) (by rfl)) (by rfl)) (by rfl)) (by rfl)) (by rfl))) (@pe_call _ _ _ _ _ _ _ _ _ _ _ _ _ _ _ _ G__law_next hr__law_next rfl T.m__law_next T.F__law_next.kp T.b__law_next .nil pass0 (@pa_cons _ _ _ _ _ (@vv _ 0 _ _ (by rfl) (by first | exact Or.inl rfl | exact Or.inr (Or.inl rfl) | exact Or.inr (Or.inr rfl)) (by decide) (by decide)) (@pa_cons _ _ _ _ _ (@pe_int _ _ _ _) (@pa_nil _) (by rfl)) (by rfl)) (by decide) (by rfl) (by rfl)) (by intro _ _; rfl) (by rfl)) (@pg_sub _ _ _ _ _ _ _ (@vv _ 3 _ _ (by rfl) (by first | exact Or.inl rfl | exact Or.inr (Or.inl rfl) | exact Or.inr (Or.inr rfl)) (by decide) (by decide)) (@pe_call _ _ _ _ _ _ _ _ _ _ _ _ _ _ _ _ G__law_next hr__law_next rfl T.m__law_next T.F__law_next.kp T.b__law_next .nil pass0 (@pa_cons _ _ _ _ _ (@vv _ 0 _ _ (by rfl) (by first | exact Or.inl rfl | exact Or.inr (Or.inl rfl) | exact Or.inr (Or.inr rfl)) (by decide) (by decide)) (@pa_cons _ _ _ _ _ (@pe_callB _ _ _ _ _ _ _ _ _ (kLen (K := K)) rfl T.z_len (by rfl) (@pa_cons _ _ _ _ _ (@vv _ 3 _ _ (by rfl) (by first | exact Or.inl rfl | exact Or.inr (Or.inl rfl) | exact Or.inr (Or.inr rfl)) (by decide) (by decide)) (@pa_nil _) (by rfl)) (by decide) (by decide) (by rfl) (by rfl)) (@pa_nil _) (by rfl)) (by rfl)) (by decide) (by rfl) (by rfl)) set_any (by intro _; rfl)) (by rfl) (by rfl) (by rfl)) (@pss_cons _ _ _ _ _ (@ps_set _ _ 4 _ _ _ _ sc__law_tables_right.nd rfl (by first | exact Or.inl rfl | exact Or.inr rfl) (@pe_op _ _ _ _ _ _ _ _ (kAdd (K := K)) (@vv _ 2 _ _ (by rfl) (by first | exact Or.inl rfl | exact Or.inr (Or.inl rfl) | exact Or.inr (Or.inr rfl)) (by decide) (by decide)) (@pe_op _ _ _ _ _ _ _ _ om_mul (@pe_lst _ _ _ _ (@pa_cons _ _ _ _ _ (@pe_bl _ _ _ _) (@pa_nil _) (by rfl))) (@pe_op _ _ _ _ _ _ _ _ (kAdd (K := K)) (@pe_int _ _ _ _) (@pe_call _ _ _ _ _ _ _ _ _ _ _ _ _ _ _ _ G__law_next hr__law_next rfl T.m__law_next T.F__law_next.kp T.b__law_next .nil pass0 (@pa_cons _ _ _ _ _ (@vv _ 0 _ _ (by rfl) (by first | exact Or.inl rfl | exact Or.inr (Or.inl rfl) | exact Or.inr (Or.inr rfl)) (by decide) (by decide)) (@pa_cons _ _ _ _ _ (@pe_int _ _ _ _) (@pa_nil _) (by rfl)) (by rfl)) (by decide) (by rfl) (by rfl))))) (by rfl) (by first | exact .inl rfl | exact .inr rfl | assumption)) (@pss_cons _ _ _ _ _ (@ps_for _ _ _ _ _ _ _ _ PassesOwn.never rfl (@kSeq _ K _ _ _ (@pe_lst _ _ _ _ (@pa_cons _ _ _ _ _ (@pe_callTy _ _ _ _ _ _ _ _ _ (kTuple (K := K)) rfl T.z_tuple (by rfl) (@pa_cons _ _ _ _ _ (@vv _ 3 _ _ (by rfl) (by first | exact Or.inl rfl | exact Or.inr (Or.inl rfl) | exact Or.inr (Or.inr rfl)) (by decide) (by decide)) (@pa_nil _) (by rfl)) (by decide) (by decide) (by rfl) (by rfl)) (@pa_cons _ _ _ _ _ (@vv _ 2 _ _ (by rfl) (by first | exact Or.inl rfl | exact Or.inr (Or.inl rfl) | exact Or.inr (Or.inr rfl)) (by decide) (by decide)) (@pa_cons _ _ _ _ _ (@kCut _ K _ _ _ _ _ _ _ _ (@vv _ 2 _ _ (by rfl) (by first | exact Or.inl rfl | exact Or.inr (Or.inl rfl) | exact Or.inr (Or.inr rfl)) (by decide) (by decide)) (@po_some _ _ _ (@pe_int _ _ _ _)) (@po_none _) (by rfl)) (@pa_cons _ _ _ _ _ (@kDictEnum _ K _ _ _ _ _ _ rfl rfl T.z_dict rfl T.z_enumerate (@pa_cons _ _ _ _ _ (@vv _ 2 _ _ (by rfl) (by first | exact Or.inl rfl | exact Or.inr (Or.inl rfl) | exact Or.inr (Or.inr rfl)) (by decide) (by decide)) (@pa_nil _) (by rfl)) (by rfl) (by rfl) (by rfl)) (@pa_cons _ _ _ _ _ (@pe_callB _ _ _ _ _ _ _ _ _ (kRepr (K := K) hr) rfl T.z_repr (by rfl) (@pa_cons _ _ _ _ _ (@vv _ 2 _ _ (by rfl) (by first | exact Or.inl rfl | exact Or.inr (Or.inl rfl) | exact Or.inr (Or.inr rfl)) (by decide) (by decide)) (@pa_nil _) (by rfl)) (by decide) (by decide) (by rfl) (by rfl)) (@pa_nil _) (by rfl)) (by rfl)) (by rfl)) (by rfl)) (by rfl))) (by rfl)) (@pg_name _ _ 5 _ sc__law_tables_right.nd rfl (by first | exact Or.inl rfl | exact Or.inr rfl) (by first | exact .inl rfl | exact .inr rfl | assumption)) (@pss_one _ _ _ (@ps_if _ _ _ _ _ _ _ _ (@pt_not _ _ _ _ (@tu_val _ _ _ (@pe_call _ _ _ _ _ _ _ _ _ _ _ _ _ _ _ _ G__law_truth hr__law_truth rfl T.m__law_truth T.F__law_truth.kp T.b__law_truth .nil pass0 (@pa_cons _ _ _ _ _ (@pe_call _ _ _ _ _ _ _ _ _ _ _ _ _ _ _ _ G_is_table hr_is_table rfl T.m_is_table T.F_is_table.kp T.b_is_table .nil pass0 (@pa_cons _ _ _ _ _ (@vv _ 5 _ _ (by rfl) (by first | exact Or.inl rfl | exact Or.inr (Or.inl rfl) | exact Or.inr (Or.inr rfl)) (by decide) (by decide)) (@pa_nil _) (by rfl)) (by decide) (by rfl) (by rfl)) (@pa_cons _ _ _ _ _ (@pe_bl _ _ _ _) (@pa_nil _) (by rfl)) (by rfl)) (by decide) (by rfl) (by rfl)) (by intro _; rfl))) (@pss_one _ _ _ (@ps_ret _ _ _ _ (@pe_bl _ _ _ _))) (@pss_nil _))) (by intro _; rfl)) (@pss_cons _ _ _ _ _ (@ps_set _ _ 6 _ _ _ _ sc__law_tables_right.nd rfl (by first | exact Or.inl rfl | exact Or.inr rfl) (@pe_cmpM _ _ _ _ _ _ _ _ (kIn (K := K)) (@pe_callB _ _ _ _ _ _ _ _ _ (kLen (K := K)) rfl T.z_len (by rfl) (@pa_cons _ _ _ _ _ (@vv _ 4 _ _ (by rfl) (by first | exact Or.inl rfl | exact Or.inr (Or.inl rfl) | exact Or.inr (Or.inr rfl)) (by decide) (by decide)) (@pa_nil _) (by rfl)) (by decide) (by decide) (by rfl) (by rfl)) (@pe_tup _ _ _ _ _ (@pa_cons _ _ _ _ _ (@pe_int _ _ _ _) (@pa_cons _ _ _ _ _ (@pe_int _ _ _ _) (@pa_cons _ _ _ _ _ (@pe_int _ _ _ _) (@pa_cons _ _ _ _ _ (@pe_int _ _ _ _) (@pa_cons _ _ _ _ _ (@pe_int _ _ _ _) (@pa_cons _ _ _ _ _ (@pe_int _ _ _ _) (@pa_nil _) (by rfl)) (by rfl)) (by rfl)) (by rfl)) (by rfl)) (by rfl))) (by first | exact nobehind _ (by decide) (by decide) | rfl)) (by rfl) (by first | exact .inl rfl | exact .inr rfl | assumption)) (@pss_one _ _ _ (@ps_ret _ _ _ _ (@pe_call _ _ _ _ _ _ _ _ _ _ _ _ _ _ _ _ G__law_truth hr__law_truth rfl T.m__law_truth T.F__law_truth.kp T.b__law_truth .nil pass0 (@pa_cons _ _ _ _ _ (@pe_call _ _ _ _ _ _ _ _ _ _ _ _ _ _ _ _ G_is_table hr_is_table rfl T.m_is_table T.F_is_table.kp T.b_is_table .nil pass0 (@pa_cons _ _ _ _ _ (@pe_callTy _ _ _ _ _ _ _ _ _ (kTuple (K := K)) rfl T.z_tuple (by rfl) (@pa_cons _ _ _ _ _ (@vv _ 4 _ _ (by rfl) (by first | exact Or.inl rfl | exact Or.inr (Or.inl rfl) | exact Or.inr (Or.inr rfl)) (by decide) (by decide)) (@pa_nil _) (by rfl)) (by decide) (by decide) (by rfl) (by rfl)) (@pa_nil _) (by rfl)) (by decide) (by rfl) (by rfl)) (@pa_cons _ _ _ _ _ (@vv _ 6 _ _ (by rfl) (by first | exact Or.inl rfl | exact Or.inr (Or.inl rfl) | exact Or.inr (Or.inr rfl)) (by decide) (by decide)) (@pa_nil _) (by rfl)) (by rfl)) (by decide) (by rfl) (by rfl)))))))))))), ?_⟩
  refine ⟨a, ns, TP, ⟨by decide, by decide⟩, fun d H1 d0 d1 T1 f1 => ?_⟩
  obtain ⟨m, rfl⟩ := Int.eq_ofNat_of_zero_le d0
  have m6 : m < 6 := by omega
  have em : (1 : Int) + (m : Int) = ((m + 1 : Nat) : Int) := by omega
  have M1 : SpMono sp_two := sp_two_mono
  have M2 : SpMono sp_truth := sp_truth_mono
  have M3 : SpMono (sp_istab K) := sp_istab_mono
  have M4 : SpMono (sp_switches K) := sp_switches_mono
  dsimp only [tC, mAdd, gName]
  rw [em]
  refine seq_at (fun σ H' => ∃ (l : Addr) (bs : List Bool), σ = [some (.ref t), some (.int ((m + 1 : Nat) : Int)), some (.ref l), none, none, none, none] ∧ Tape K H' t a ns ∧ Frm t H H' ∧ l ≠ t ∧ H' l = some (.lst (bs.map V.bl)) ∧ bs.length = 2 ^ (m + 1)) ?_ ?_ (by walk_at "sm")
  · refine ⟨by omega, by omega, fun H2 s2 => ?_⟩
    have e2 : ((2 : Int) ^ ((m + 1 : Nat) : Int).toNat) = ((2 ^ (m + 1) : Nat) : Int) := by rw [Int.toNat_natCast, Int.natCast_pow]; rfl
    have e64 : 2 ^ (m + 1) ≤ 64 := Nat.pow_le_pow_right (n := 2) (by decide) (show m + 1 ≤ 6 by omega)
    rw [e2]
    refine ⟨_, rfl, Int.le_trans (by decide) (Int.natCast_nonneg _), by omega, ?_⟩
    refine comp_range (n := ((2 ^ (m + 1) : Nat) : Int).toNat) (fun i ys H' => Tape K H' t a ns ∧ (∀ b, b ≠ t → H' b = H2 b) ∧ ∃ bs : List Bool, ys = bs.map V.bl ∧ bs.length = i) ⟨T1.same s2, fun b _ => rfl, [], rfl, rfl⟩ (fun i ys H' hi ⟨_, _, bs, e, e'⟩ => by
      rw [e, List.length_map, e']; exact small1000 (by omega)) ?_ ?_
    · rintro i ys H' hi ⟨T', g', bs, rfl, rfl⟩
      refine ⟨a, ns, T', ⟨by decide, by decide⟩, fun d H3 d0 d1 T3 f3 => ⟨T3, fun b n => by rw [f3 b n, g' b n], bs ++ [false ^^ (d == 1)], ?_, by simp⟩⟩
      rw [List.map_append]
      rfl
    · rintro ys H' ⟨T', g', bs, rfl, hb⟩ p hp
      refine ⟨p, bs, rfl, T'.upd hp, (((frm_of f1).trans s2.frm).trans (frm_of g')).trans (Same.upd hp).frm, T'.neT hp, upd_same, ?_⟩
      rw [hb]; exact Int.toNat_natCast _
  rintro σ H2 ⟨l, bs, rfl, T2, F2, ml, hl, hb⟩
  have e64 : 2 ^ (m + 1) ≤ 64 := Nat.pow_le_pow_right (n := 2) (by decide) (show m + 1 ≤ 6 by omega)
  have gl := good_pow m6
  have lb : (bs.map V.bl).length = 2 ^ (m + 1) := by rw [List.length_map, hb]
  refine seq_at (fun σ H' => σ = [some (.ref t), some (.int ((m + 1 : Nat) : Int)), some (.ref l), none, none, none, none] ∧ Same H2 H') ?_ ?_ (by walk_at "sm")
  · refine if_same false ?_ ?_
    · intro Q q
      refine ⟨bs.map V.bl, .inl ⟨.inl (.of hl), fun p1 n1 => ?_⟩⟩
      refine ⟨true, .inr ⟨p1, _, rfl, upd_same, by rw [lb]; omega, knd_bl bs, by rw [lb, gl, all_bl]; rfl⟩, fun H3 s3 => ?_⟩
      refine ⟨bs.map V.bl, .inl ⟨.inl (.of (s3 _ _ (Same.upd n1 _ _ hl))), fun p2 n2 => ?_⟩⟩
      refine ⟨m + 1, _, .of upd_same, lb, by omega, ?_⟩
      have e0 : (true ^^ (((m + 1 : Nat) : Int) == ((m + 1 : Nat) : Int))) = false := by simp
      have q' := q _ (st (Same.upd n1) (st s3 (Same.upd (o := .tup (bs.map V.bl)) n2)))
      rw [← e0] at q'
      exact q'
    · exact fun H' s' => iteF ⟨rfl, s'⟩
  rintro σ H3 ⟨rfl, s3⟩
  have T3 := T2.same s3
  have hl3 := s3 _ _ hl
  have F3 := F2.trans s3.frm
  -- bent
  refine ⟨bs.map V.bl, .inl (.inl (.of hl3)), fun lc nc => ?_⟩
  have mc := T3.neT nc
  have lc0 : l ≠ lc := ne_of_none hl3 nc
  dsimp only [gName]
  refine seq_at (fun σ H' => ∃ (z : V) (j : Nat), σ = [some (.ref t), some (.int ((m + 1 : Nat) : Int)), some (.ref l), some (.ref lc), none, none, none] ∧ Tape K H' t a ns ∧ Frm t H3 H' ∧ H' lc = some (.lst ((bs.map V.bl).set j z)) ∧ j < 2 ^ (m + 1) ∧ Odd1 t H' z) ?_ ?_ (by walk_at "sm")
  · refine ⟨small_le (show 1 ≤ 1000 by decide), fun p1 n1 => ⟨small_le (show 6 ≤ 1000 by decide), fun p2 n2 => ?_⟩⟩
    have T4 := ((T3.upd (o := .lst (bs.map V.bl)) nc).upd (o := .tup [.bl true]) n1)
    have m1 := (T3.upd (o := .lst (bs.map V.bl)) nc).neT n1
    have m2 := T4.neT n2
    refine ⟨a, ns, T4.upd n2, ⟨by decide, by decide⟩, fun d H5 d0 d1 T5 f5 => ?_⟩
    obtain ⟨z, hz, hm⟩ := atI_mem (xs := [V.int 1, .int 0, .non, .str (Str.ofString "True"), .ref p1, .int (-1)]) d0 d1
    refine ⟨_, _, .inl (.inl (.of (by rw [f5 p2 m2]; exact upd_same))), hz, ?_⟩
    have hc5 : H5 lc = some (.lst (bs.map V.bl)) := by rw [f5 lc mc]; exact Same.upd n2 _ _ (Same.upd n1 _ _ upd_same)
    have h15 : H5 p1 = some (.tup [.bl true]) := by rw [f5 p1 m1]; exact Same.upd n2 _ _ upd_same
    refine ⟨2 ^ (m + 1), .inl ⟨_, .inl (.of hc5), lb.symm⟩, a, ns, T5, ⟨?_, ?_⟩, fun e H6 e0 e1 T6 f6 => ?_⟩
    · exact Int.ofNat_lt.mpr (Nat.two_pow_pos (m + 1))
    · exact Int.lt_of_le_of_lt (Int.ofNat_le.mpr e64) (by decide)
    obtain ⟨j, rfl⟩ := Int.eq_ofNat_of_zero_le e0
    have hj : j < 2 ^ (m + 1) := Int.ofNat_lt.mp e1
    have hc6 : H6 lc = some (.lst (bs.map V.bl)) := by rw [f6 lc mc]; exact hc5
    have h16 : H6 p1 = some (.tup [.bl true]) := by rw [f6 p1 m1]; exact h15
    have F6 : Frm t H3 H6 := (((Same.upd nc).frm.trans (Same.upd n1).frm).trans (Same.upd n2).frm).trans ((frm_of f5).trans (frm_of f6))
    have F7 : Frm t H3 (upd H6 lc (.lst ((bs.map V.bl).set j z))) := frm_new F6 nc
    have n1c : p1 ≠ lc := fun e => by rw [e, hc6] at h16; cases h16
    refine ⟨_, j, hc6, by rw [lb]; exact ixN_nat hj, z, j, rfl, tape_put T3 T6 F7 mc, F7, upd_same, hj, ?_⟩
    exact odd1_all _ _ (by rw [upd_ne n1c]; exact h16) m1 z hm
  rintro σ H4 ⟨z, j, rfl, T4, F4, hc4, hj, oz⟩
  have hl4 := F4 _ _ ml hl3
  -- more
  refine seq_at (fun σ H' => ∃ (ms : List Bool) (lm : Addr), σ = [some (.ref t), some (.int ((m + 1 : Nat) : Int)), some (.ref l), some (.ref lc), some (.ref lm), none, none] ∧ Tape K H' t a ns ∧ Frm t H4 H' ∧ H' lm = some (.lst (ms.map V.bl)) ∧ ms.length ≤ 66) ?_ ?_ (by walk_at "sm")
  · refine ⟨small_le (show 1 ≤ 1000 by decide), fun p1 n1 => ?_⟩
    have m1 := T4.neT n1
    refine ⟨a, ns, T4.upd n1, ⟨by decide, by decide⟩, fun d H5 d0 d1 T5 f5 => ?_⟩
    have h15 : H5 p1 = some (.lst [.bl true]) := by rw [f5 p1 m1]; exact upd_same
    have hl5 : H5 l = some (.lst (bs.map V.bl)) := by rw [f5 l ml]; exact Same.upd n1 _ _ hl4
    refine ⟨p1, 1 + d, [.bl true], rfl, rfl, h15, by omega, by omega, small_le (by show 1 * (1 + d).toNat ≤ 1000; omega), fun p2 n2 => ?_⟩
    rw [rep_true]
    refine .inl ⟨l, p2, _, _, rfl, rfl, Same.upd n2 _ _ hl5, upd_same, small_le (by rw [List.length_map, List.length_map, List.length_replicate]; omega), fun p3 n3 => ?_⟩
    refine ⟨bs ++ List.replicate (1 + d).toNat true, p3, rfl, (T5.upd n2).upd n3, ((Same.upd n1).frm.trans (frm_of f5)).trans ((Same.upd n2).frm.trans (Same.upd n3).frm), ?_, by rw [List.length_append, List.length_replicate]; omega⟩
    rw [List.map_append]
    exact upd_same
  rintro σ H5 ⟨ms, lm, rfl, T5, F5, hm5, hms⟩
  have hl5 := F5 _ _ ml hl4
  have hc5 := F5 _ _ mc hc4
  have oz5 : ∃ k, Knd H5 z k := by obtain ⟨k, hk⟩ := oz.2.2; exact ⟨k, hk.frm F5 oz.2.1⟩
  -- five things that are no tables
  refine seq_at (fun σ H' => (∃ y : Option V, σ = [some (.ref t), some (.int ((m + 1 : Nat) : Int)), some (.ref l), some (.ref lc), some (.ref lm), y, none]) ∧ Same H5 H') ?_ ?_ (by walk_at "sm")
  · refine ⟨(bs.map V.bl).set j z, .inl ⟨.inl (.of hc5), fun p1 n1 => ?_⟩⟩
    have f1 := Same.upd (o := .tup ((bs.map V.bl).set j z)) n1
    refine ⟨1, rfl, bs.map V.bl, .inl ⟨.inl (.of (f1 _ _ hl5)), fun p2 n2 => ?_⟩⟩
    have f2 := Same.upd (o := .lst (cutV (bs.map V.bl) (some 1) none)) n2
    refine ⟨bs.map V.bl, .inl (.of (f2 _ _ (f1 _ _ hl5))), by rw [lb]; omega, fun p3 n3 => ?_⟩
    have f3 := Same.upd (o := .dK (enK (bs.map V.bl))) n3
    have hl8 := f3 _ _ (f2 _ _ (f1 _ _ hl5))
    have k1 := f3 _ _ (f2 _ _ (upd_same (H := H5) (a := p1) (o := .tup ((bs.map V.bl).set j z))))
    have k2 := f3 _ _ (upd_same (H := upd H5 p1 (.tup ((bs.map V.bl).set j z))) (a := p2) (o := .lst (cutV (bs.map V.bl) (some 1) none)))
    have k3 : upd (upd (upd H5 p1 (.tup ((bs.map V.bl).set j z))) p2 (.lst (cutV (bs.map V.bl) (some 1) none))) p3 (.dK (enK (bs.map V.bl))) p3 = some (.dK (enK (bs.map V.bl))) := upd_same
    have s8 := st f1 (st f2 f3)
    generalize upd (upd (upd H5 p1 (.tup ((bs.map V.bl).set j z))) p2 (.lst (cutV (bs.map V.bl) (some 1) none))) p3 (.dK (enK (bs.map V.bl))) = H8 at *
    refine ⟨.lst (bs.map Dv.bl), by unfold Rep; exact ⟨l, _, rfl, .inl (.of hl8), reps_bl bs⟩, by unfold niceD; exact (L2.niceDs_bl bs).1, by unfold bulkD; rw [(L2.niceDs_bl bs).2.1, hb]; omega, by unfold depD; rw [(L2.niceDs_bl bs).2.2]; decide, ?_⟩
    generalize shownD (.lst (bs.map Dv.bl)) = tx
    refine ⟨small_le (show 5 ≤ 1000 by decide), fun p4 n4 => .inl ⟨⟨_, .inl (.of upd_same)⟩, ?_⟩⟩
    have al := five_all (K := K) (H := H8) (l := l) (z := z) tx lb e64 hj k1 hl8 ⟨_, k2⟩ ⟨_, k3⟩ oz.1 (by obtain ⟨k, hk⟩ := oz5; exact ⟨k, hk.same s8⟩)
    have f4 := Same.upd (o := .lst [V.ref p1, .ref l, .ref p2, .ref p3, .str tx]) n4
    refine for_list (xs := [V.ref p1, .ref l, .ref p2, .ref p3, .str tx]) (fun i σ H' => (∃ y : Option V, σ = [some (.ref t), some (.int ((m + 1 : Nat) : Int)), some (.ref l), some (.ref lc), some (.ref lm), y, none]) ∧ Same (upd H8 p4 (.lst [V.ref p1, .ref l, .ref p2, .ref p3, .str tx])) H') ⟨⟨none, rfl⟩, same_self _⟩ (fun i σ H' _ ⟨_, e⟩ => .inl (.of (e _ _ upd_same))) ?_ ?_
    · rintro i x σ H' hx ⟨⟨y, rfl⟩, s'⟩
      have ix := (al x (List.mem_of_getElem? hx)).same (st f4 s')
      exact ⟨false, ix, fun H'' s'' => ⟨⟨some x, rfl⟩, st s' s''⟩⟩
    · rintro σ H' ⟨⟨y, rfl⟩, s'⟩
      exact ⟨⟨y, rfl⟩, st s8 (st f4 s')⟩
  rintro σ H6 ⟨⟨y, rfl⟩, s6⟩
  have hm6 := s6 _ _ hm5
  refine ⟨ms.length, .inl ⟨_, .inl (.of hm6), by rw [List.length_map]⟩, small_le (show 6 ≤ 1000 by decide), fun p1 n1 => ⟨_, .inr (.inl (.of upd_same)), rfl, rfl, ?_⟩⟩
  refine ⟨ms.map V.bl, .inl ⟨.inl (.of (Same.upd n1 _ _ hm6)), fun p2 n2 => ?_⟩⟩
  refine ⟨goodLen ms.length, .inr ⟨p2, _, rfl, upd_same, by rw [List.length_map]; omega, knd_bl ms, by rw [List.length_map, all_bl, Bool.and_true]⟩, fun H7 s7 => ?_⟩
  have e0 : (goodLen ms.length == (false ^^ goodLen ms.length)) = true := by rw [Bool.false_xor]; exact beq_self_eq_true _
  show Q (.bl (goodLen ms.length == (false ^^ goodLen ms.length))) H7
  rw [e0]
  have s67 := st s6 (st (Same.upd n1) (st (Same.upd n2) s7))
  exact q _ (T5.same s67) (((F3.trans F4).trans F5).trans s67.frm)
theorem eight_all {H : Hp} {t : Addr} {v : V} (i1 i2 i3 : Int) (hv : ∃ k, Knd H v k) : ∀ x ∈ [v, .int i1, .int i2, .int i3, .int 0, .int (-1), .bl true, .bl false], ∃ k, Knd H x k := by
  intro x hx
  simp only [List.mem_cons, List.not_mem_nil, or_false] at hx
  rcases hx with rfl | rfl | rfl | rfl | rfl | rfl | rfl | rfl
  · exact hv
  all_goals exact ⟨_, rfl⟩
theorem ok_law : FnOk P w K mg base CX0 4 T.f_law T.d_law ["_law_script"] (spLaw K) := by
  have G__law_tape := ok__law_tape (P := P) (w := w) (base := base) T; have G_is_table := ok_is_table (P := P) (w := w) (base := base) T; have G__law_next := ok__law_next (P := P) (w := w) (base := base) T; have G__law_odd := ok__law_odd (P := P) (w := w) (base := base) T; have G__law_two := ok__law_two (P := P) (w := w) (base := base) T; have G__law_is_number := ok__law_is_number (P := P) (w := w) (base := base) T; have G__law_truth := ok__law_truth (P := P) (w := w) (base := base) T; have G__law_tables_right := ok__law_tables_right (P := P) (w := w) (base := base) T; have G_is_place := ok_is_place (P := P) (w := w) (base := base) T
  refine T.F_law.ok sc_law (fun vs H Q E h => by obtain ⟨a, ns, rfl, _⟩ := h; rfl) (fun cdv A outer s H vs Q E hr h => ?_)
  have hu := hu60 hr
  have hr__law_tape := hr.mono (show 1 ≤ _ by decide); have hr_is_table := hr.mono (show 1 ≤ _ by decide); have hr__law_next := hr.mono (show 1 ≤ _ by decide); have hr__law_odd := hr.mono (show 2 ≤ _ by decide); have hr__law_two := hr.mono (show 1 ≤ _ by decide); have hr__law_is_number := hr.mono (show 1 ≤ _ by decide); have hr__law_truth := hr.mono (show 1 ≤ _ by decide); have hr__law_tables_right := hr.mono (show 2 ≤ _ by decide); have hr_is_place := hr.mono (show 3 ≤ _ by decide)
  obtain ⟨a, ns, rfl, hsq, hlen, q⟩ := h
  refine ⟨_, (@pss_cons _ _ _ _ _ (@ps_set _ _ 1 _ _ _ _ sc_law.nd rfl (by first | exact Or.inl rfl | exact Or.inr rfl) (@pe_call _ _ _ _ _ _ _ _ _ _ _ _ _ _ _ _ G__law_tape hr__law_tape rfl T.m__law_tape T.F__law_tape.kp T.b__law_tape .nil pass0 (@pa_cons _ _ _ _ _ (@vv _ 0 _ _ (by rfl) (by first | exact Or.inl rfl | exact Or.inr (Or.inl rfl) | exact Or.inr (Or.inr rfl)) (by decide) (by decide)) (@pa_nil _) (by rfl)) (by decide) (by rfl) (by rfl)) (by rfl) (by first | exact .inl rfl | exact .inr rfl | assumption)) (@pss_cons _ _ _ _ _ (@ps_for _ _ _ _ _ _ _ _ PassesOwn.never rfl (@pi_range1 _ _ _ _ _ _ rfl T.z_range (@pa_cons _ _ _ _ _ (@pe_int _ _ _ _) (@pa_nil _) (by rfl)) (by rfl)) (@pg_name _ _ 2 _ sc_law.nd rfl (by first | exact Or.inl rfl | exact Or.inr rfl) (by first | exact .inl rfl | exact .inr rfl | assumption)) (@pss_cons _ _ _ _ _ (@ps_set _ _ 3 _ _ _ _ sc_law.nd rfl (by first | exact Or.inl rfl | exact Or.inr rfl) (@pe_op _ _ _ _ _ _ _ _ (kAdd (K := K)) (@pe_int _ _ _ _) (@pe_call _ _ _ _ _ _ _ _ _ _ _ _ _ _ _ _ G__law_next hr__law_next rfl T.m__law_next T.F__law_next.kp T.b__law_next .nil pass0 (@pa_cons _ _ _ _ _ (@vv _ 1 _ _ (by rfl) (by first | exact Or.inl rfl | exact Or.inr (Or.inl rfl) | exact Or.inr (Or.inr rfl)) (by decide) (by decide)) (@pa_cons _ _ _ _ _ (@pe_int _ _ _ _) (@pa_nil _) (by rfl)) (by rfl)) (by decide) (by rfl) (by rfl))) (by rfl) (by first | exact .inl rfl | exact .inr rfl | assumption)) (@pss_cons _ _ _ _ _ (@ps_for _ _ _ _ _ _ _ _ PassesOwn.never rfl (@kSeq _ K _ _ _ (@pe_lst _ _ _ _ (@pa_cons _ _ _ _ _ (@pe_call _ _ _ _ _ _ _ _ _ _ _ _ _ _ _ _ G__law_odd hr__law_odd rfl T.m__law_odd T.F__law_odd.kp T.b__law_odd .nil pass0 (@pa_cons _ _ _ _ _ (@vv _ 1 _ _ (by rfl) (by first | exact Or.inl rfl | exact Or.inr (Or.inl rfl) | exact Or.inr (Or.inr rfl)) (by decide) (by decide)) (@pa_nil _) (by rfl)) (by decide) (by rfl) (by rfl)) (@pa_cons _ _ _ _ _ (@pe_op _ _ _ _ _ _ _ _ om_sub (@pe_call _ _ _ _ _ _ _ _ _ _ _ _ _ _ _ _ G__law_next hr__law_next rfl T.m__law_next T.F__law_next.kp T.b__law_next .nil pass0 (@pa_cons _ _ _ _ _ (@vv _ 1 _ _ (by rfl) (by first | exact Or.inl rfl | exact Or.inr (Or.inl rfl) | exact Or.inr (Or.inr rfl)) (by decide) (by decide)) (@pa_cons _ _ _ _ _ (@pe_int _ _ _ _) (@pa_nil _) (by rfl)) (by rfl)) (by decide) (by rfl) (by rfl)) (@pe_int _ _ _ _)) (@pa_cons _ _ _ _ _ (@pe_call _ _ _ _ _ _ _ _ _ _ _ _ _ _ _ _ G__law_two hr__law_two rfl T.m__law_two T.F__law_two.kp T.b__law_two .nil pass0 (@pa_cons _ _ _ _ _ (@vv _ 3 _ _ (by rfl) (by first | exact Or.inl rfl | exact Or.inr (Or.inl rfl) | exact Or.inr (Or.inr rfl)) (by decide) (by decide)) (@pa_nil _) (by rfl)) (by decide) (by rfl) (by rfl)) (@pa_cons _ _ _ _ _ (@pe_op _ _ _ _ _ _ _ _ om_sub (@pe_call _ _ _ _ _ _ _ _ _ _ _ _ _ _ _ _ G__law_two hr__law_two rfl T.m__law_two T.F__law_two.kp T.b__law_two .nil pass0 (@pa_cons _ _ _ _ _ (@vv _ 3 _ _ (by rfl) (by first | exact Or.inl rfl | exact Or.inr (Or.inl rfl) | exact Or.inr (Or.inr rfl)) (by decide) (by decide)) (@pa_nil _) (by rfl)) (by decide) (by rfl) (by rfl)) (@pe_int _ _ _ _)) (@pa_cons _ _ _ _ _ (@pe_int _ _ _ _) (@pa_cons _ _ _ _ _ (@pe_un _ _ _ _ _ _ um_neg (@pe_int _ _ _ _)) (@pa_cons _ _ _ _ _ (@pe_bl _ _ _ _) (@pa_cons _ _ _ _ _ (@pe_bl _ _ _ _) (@pa_nil _) (by rfl)) (by rfl)) (by rfl)) (by rfl)) (by rfl)) (by rfl)) (by rfl)) (by rfl))) (by rfl)) (@pg_name _ _ 4 _ sc_law.nd rfl (by first | exact Or.inl rfl | exact Or.inr rfl) (by first | exact .inl rfl | exact .inr rfl | assumption)) (@pss_cons _ _ _ _ _ (@ps_set _ _ 5 _ _ _ _ sc_law.nd rfl (by first | exact Or.inl rfl | exact Or.inr rfl) (@pe_andM _ _ _ _ _ _ _ (@pe_call _ _ _ _ _ _ _ _ _ _ _ _ _ _ _ _ G__law_is_number hr__law_is_number rfl T.m__law_is_number T.F__law_is_number.kp T.b__law_is_number .nil pass0 (@pa_cons _ _ _ _ _ (@vv _ 4 _ _ (by rfl) (by first | exact Or.inl rfl | exact Or.inr (Or.inl rfl) | exact Or.inr (Or.inr rfl)) (by decide) (by decide)) (@pa_nil _) (by rfl)) (by decide) (by rfl) (by rfl)) (@pe_one _ _ _ _ _ (@pe_chainM _ _ _ _ _ _ _ _ _ _ _ _ om_le om_lt (@pe_int _ _ _ _) (@vv _ 4 _ _ (by rfl) (by first | exact Or.inl rfl | exact Or.inr (Or.inl rfl) | exact Or.inr (Or.inr rfl)) (by decide) (by decide)) (@pe_call _ _ _ _ _ _ _ _ _ _ _ _ _ _ _ _ G__law_two hr__law_two rfl T.m__law_two T.F__law_two.kp T.b__law_two .nil pass0 (@pa_cons _ _ _ _ _ (@vv _ 3 _ _ (by rfl) (by first | exact Or.inl rfl | exact Or.inr (Or.inl rfl) | exact Or.inr (Or.inr rfl)) (by decide) (by decide)) (@pa_nil _) (by rfl)) (by decide) (by rfl) (by rfl)) (by with_unfolding_all rfl)))) (by rfl) (by first | exact .inl rfl | exact .inr rfl | assumption)) (@pss_one _ _ _ (@ps_if _ _ _ _ _ _ _ _ (@pt_not _ _ _ _ (@tu_val _ _ _ (@pe_call _ _ _ _ _ _ _ _ _ _ _ _ _ _ _ _ G__law_truth hr__law_truth rfl T.m__law_truth T.F__law_truth.kp T.b__law_truth .nil pass0 (@pa_cons _ _ _ _ _ (@pe_call _ _ _ _ _ _ _ _ _ _ _ _ _ _ _ _ G_is_place hr_is_place rfl T.m_is_place T.F_is_place.kp T.b_is_place .nil pass0 (@pa_cons _ _ _ _ _ (@vv _ 3 _ _ (by rfl) (by first | exact Or.inl rfl | exact Or.inr (Or.inl rfl) | exact Or.inr (Or.inr rfl)) (by decide) (by decide)) (@pa_cons _ _ _ _ _ (@vv _ 4 _ _ (by rfl) (by first | exact Or.inl rfl | exact Or.inr (Or.inl rfl) | exact Or.inr (Or.inr rfl)) (by decide) (by decide)) (@pa_nil _) (by rfl)) (by rfl)) (by decide) (by rfl) (by rfl)) (@pa_cons _ _ _ _ _ (@vv _ 5 _ _ (by rfl) (by first | exact Or.inl rfl | exact Or.inr (Or.inl rfl) | exact Or.inr (Or.inr rfl)) (by decide) (by decide)) (@pa_nil _) (by rfl)) (by rfl)) (by decide) (by rfl) (by rfl)) (by intro _; rfl))) (@pss_one _ _ _ (@ps_ret _ _ _ _ (@pe_bl _ _ _ _))) (@pss_nil _)))) (by intro _; rfl)) (@pss_one _ _ _ (@ps_if _ _ _ _ _ _ _ _ (PW.pt (@pw_or _ _ _ _ _ _ _ (@pt_not _ _ _ _ (@tu_val _ _ _ (@pe_call _ _ _ _ _ _ _ _ _ _ _ _ _ _ _ _ G__law_truth hr__law_truth rfl T.m__law_truth T.F__law_truth.kp T.b__law_truth .nil pass0 (@pa_cons _ _ _ _ _ (@pe_call _ _ _ _ _ _ _ _ _ _ _ _ _ _ _ _ G_is_table hr_is_table rfl T.m_is_table T.F_is_table.kp T.b_is_table .nil pass0 (@pa_cons _ _ _ _ _ (@pe_call _ _ _ _ _ _ _ _ _ _ _ _ _ _ _ _ G__law_odd hr__law_odd rfl T.m__law_odd T.F__law_odd.kp T.b__law_odd .nil pass0 (@pa_cons _ _ _ _ _ (@vv _ 1 _ _ (by rfl) (by first | exact Or.inl rfl | exact Or.inr (Or.inl rfl) | exact Or.inr (Or.inr rfl)) (by decide) (by decide)) (@pa_nil _) (by rfl)) (by decide) (by rfl) (by rfl)) (@pa_nil _) (by rfl)) (by decide) (by rfl) (by rfl)) (@pa_cons _ _ _ _ _ (@pe_bl _ _ _ _) (@pa_nil _) (by rfl)) (by rfl)) (by decide) (by rfl) (by rfl)) (by intro _; rfl))) (@pw_or1 _ _ _ _ (@pt_not _ _ _ _ (@tu_val _ _ _ (@pe_call _ _ _ _ _ _ _ _ _ _ _ _ _ _ _ _ G__law_tables_right hr__law_tables_right rfl T.m__law_tables_right T.F__law_tables_right.kp T.b__law_tables_right .nil pass0 (@pa_cons _ _ _ _ _ (@vv _ 1 _ _ (by rfl) (by first | exact Or.inl rfl | exact Or.inr (Or.inl rfl) | exact Or.inr (Or.inr rfl)) (by decide) (by decide)) (@pa_nil _) (by rfl)) (by decide) (by rfl) (by rfl)) (by intro _; rfl)))))) (@pss_one _ _ _ (@ps_ret _ _ _ _ (@pe_bl _ _ _ _))) (@pss_nil _))))) (by intro _; rfl)) (@pss_one _ _ _ (@ps_ret _ _ _ _ (@pe_andM _ _ _ _ _ _ _ (@pe_notM _ _ _ _ (@pe_call _ _ _ _ _ _ _ _ _ _ _ _ _ _ _ _ G_is_table hr_is_table rfl T.m_is_table T.F_is_table.kp T.b_is_table .nil pass0 (@pa_cons _ _ _ _ _ (@pe_tup _ _ _ _ _ (@pa_cons _ _ _ _ _ (@pe_bl _ _ _ _) (@pa_nil _) (by rfl))) (@pa_nil _) (by rfl)) (by decide) (by rfl) (by rfl))) (@pe_andM _ _ _ _ _ _ _ (@pe_notM _ _ _ _ (@pe_call _ _ _ _ _ _ _ _ _ _ _ _ _ _ _ _ G_is_table hr_is_table rfl T.m_is_table T.F_is_table.kp T.b_is_table .nil pass0 (@pa_cons _ _ _ _ _ (@pe_op _ _ _ _ _ _ _ _ (kMulT (K := K)) (@pe_tup _ _ _ _ _ (@pa_cons _ _ _ _ _ (@pe_bl _ _ _ _) (@pa_nil _) (by rfl))) (@pe_int _ _ _ _)) (@pa_nil _) (by rfl)) (by decide) (by rfl) (by rfl))) (@pe_one _ _ _ _ _ (@pe_call _ _ _ _ _ _ _ _ _ _ _ _ _ _ _ _ G_is_table hr_is_table rfl T.m_is_table T.F_is_table.kp T.b_is_table .nil pass0 (@pa_cons _ _ _ _ _ (@pe_tup _ _ _ _ _ (@pa_cons _ _ _ _ _ (@pe_bl _ _ _ _) (@pa_cons _ _ _ _ _ (@pe_bl _ _ _ _) (@pa_nil _) (by rfl)) (by rfl))) (@pa_nil _) (by rfl)) (by decide) (by rfl) (by rfl))))))))), ?_⟩
  refine fun t ht => ?_
  refine ⟨12, rfl, by decide, by decide, ?_⟩
  have M1 : SpMono sp_two := sp_two_mono
  have M2 : SpMono sp_truth := sp_truth_mono
  have M3 : SpMono (sp_istab K) := sp_istab_mono
  have M4 : SpMono sp_whole := sp_whole_mono
  have M5 : SpMono sp_place := sp_place_mono
  have M6 : SpMono (sp_odd K) := sp_odd_mono
  have M7 : SpMono (sp_tr K) := sp_tr_mono
  refine for_range (fun i σ H' => ∃ z1 z2 z3 z4 : Option V, σ = [some (.ref a), some (.ref t), z1, z2, z3, z4] ∧ Tape K H' t a ns) ⟨none, none, none, none, rfl, newTape ht hsq⟩ ?_ ?_
  · rintro i σ H1 hi ⟨z1, z2, z3, z4, rfl, T1⟩
    refine ⟨a, ns, T1, ⟨by decide, by decide⟩, fun d H2 d0 d1 T2 f2 => ?_⟩
    obtain ⟨m, rfl⟩ := Int.eq_ofNat_of_zero_le d0
    have m6 : m < 6 := by omega
    have em : (1 : Int) + (m : Int) = ((m + 1 : Nat) : Int) := by omega
    dsimp only [tC, mAdd, gName]
    rw [em]
    have e2 : ((2 : Int) ^ ((m + 1 : Nat) : Int).toNat) = ((2 ^ (m + 1) : Nat) : Int) := by rw [Int.toNat_natCast, Int.natCast_pow]; rfl
    refine seq_at (fun σ H' => ∃ z1 z2 : Option V, σ = [some (.ref a), some (.ref t), some (.int (0 + (i : Int))), some (.int ((m + 1 : Nat) : Int)), z1, z2] ∧ Tape K H' t a ns) ?_ ?_ (by walk_at "sm")
    · refine ⟨a, ns, T2, fun v H3 T3 F3 nv iv => ⟨a, ns, T3, ⟨by decide, by decide⟩, fun d' H4 d0' d1' T4 f4 => ⟨by omega, by omega, fun H5 s5 => ⟨by omega, by omega, fun H6 s6 => ⟨small_le (show 8 ≤ 1000 by decide), fun p np => .inl ⟨⟨_, .inl (.of upd_same)⟩, ?_⟩⟩⟩⟩⟩⟩
      obtain ⟨k, hk⟩ := iv.knd
      have hk6 : Knd H6 v k := ((hk.frm (frm_of f4) nv).same s5).same s6
      have al := eight_all (H := H6) (t := t) (d' - 3) (2 ^ ((m + 1 : Nat) : Int).toNat) (2 ^ ((m + 1 : Nat) : Int).toNat - 1) ⟨k, hk6⟩
      refine for_list (xs := [v, .int (d' - 3), .int (2 ^ ((m + 1 : Nat) : Int).toNat), .int (2 ^ ((m + 1 : Nat) : Int).toNat - 1), .int 0, .int (-1), .bl true, .bl false]) (fun i' σ H' => (∃ y1 y2 : Option V, σ = [some (.ref a), some (.ref t), some (.int (0 + (i : Int))), some (.int ((m + 1 : Nat) : Int)), y1, y2]) ∧ Same (upd H6 p (.lst [v, .int (d' - 3), .int (2 ^ ((m + 1 : Nat) : Int).toNat), .int (2 ^ ((m + 1 : Nat) : Int).toNat - 1), .int 0, .int (-1), .bl true, .bl false])) H') ⟨⟨z3, z4, rfl⟩, same_self _⟩ (fun i σ H' _ ⟨_, e⟩ => .inl (.of (e _ _ upd_same))) ?_ ?_
      · rintro i' x σ H' hx ⟨⟨y1, y2, rfl⟩, s'⟩
        obtain ⟨k, hk⟩ := al x (List.mem_of_getElem? hx)
        have hk' := hk.same (st (Same.upd np) s')
        dsimp only [gName]
        refine seq_at (fun σ H'' => σ = [some (.ref a), some (.ref t), some (.int (0 + (i : Int))), some (.int ((m + 1 : Nat) : Int)), some x, some (.bl (belowV ((2 ^ (m + 1) : Nat) : Int) x))] ∧ Same H' H'') ?_ ?_ (by walk_at "sm")
        · refine ⟨k, hk', ?_⟩
          by_cases hv : ∃ i, x = .int i
          · obtain ⟨i0, rfl⟩ := hv
            cases hk'
            refine ite2 (fun e => ?_) (fun e => ?_)
            · have e' : 0 ≤ i0 := of_decide_eq_true e
              refine ⟨by omega, by omega, fun H'' s'' => ⟨?_, s''⟩⟩
              show _ = ([some (.ref a), some (.ref t), some (.int (0 + (i : Int))), some (.int ((m + 1 : Nat) : Int)), some (.int i0), some (.bl (decide (0 ≤ i0) && decide (i0 < ((2 ^ (m + 1) : Nat) : Int))))] : St)
              rw [decide_eq_true e', Bool.true_and, ← e2]
              rfl
            · refine ⟨?_, same_self _⟩
              show _ = ([some (.ref a), some (.ref t), some (.int (0 + (i : Int))), some (.int ((m + 1 : Nat) : Int)), some (.int i0), some (.bl (decide (0 ≤ i0) && decide (i0 < ((2 ^ (m + 1) : Nat) : Int))))] : St)
              rw [decide_eq_false (fun z => e (decide_eq_true z)), Bool.false_and]
              rfl
          · have hn : ∀ i, x ≠ .int i := fun i e => hv ⟨i, e⟩
            have e0 := knd_not_int hk' hn
            refine ite2 (fun e => ?_) (fun e => ?_)
            · rw [e0] at e; exact absurd e Bool.false_ne_true
            · exact ⟨by rw [belowV_not hn]; rfl, same_self _⟩
        · rintro σ H'' ⟨rfl, s''⟩
          refine ⟨m + 1, k, rfl, by omega, hk'.same s'', ?_⟩
          generalize belowV ((2 ^ (m + 1) : Nat) : Int) x = b
          cases b <;> exact ⟨⟨_, _, rfl⟩, st s' s''⟩
      · rintro σ H' ⟨⟨y1, y2, rfl⟩, s'⟩
        exact ⟨y1, y2, rfl, (((T4.same s5).same s6).upd np).same s'⟩
    rintro σ H3 ⟨y1, y2, rfl, T3⟩
    exact ⟨a, ns, T3, fun v H4 T4 F4 nv iv => ⟨false, iv, fun H5 s5 => ⟨a, ns, T4.same s5, fun H6 T6 F6 => ⟨_, _, _, _, rfl, T6⟩⟩⟩⟩
  · rintro σ H1 ⟨z1, z2, z3, z4, rfl, T1⟩
    refine ⟨small_le (show 1 ≤ 1000 by decide), fun p1 n1 => ⟨false, .inr ⟨p1, _, rfl, upd_same, by decide, knd_bl [true], rfl⟩, fun H2 s2 => ?_⟩⟩
    refine ⟨small_le (show 1 ≤ 1000 by decide), fun p2 n2 => ⟨p2, 128, [.bl true], rfl, rfl, .inl (.of upd_same), by simp, by decide, by decide, small_le (by decide), fun p3 n3 => ?_⟩⟩
    rw [rep_true]
    refine ⟨false, .inr ⟨p3, _, rfl, upd_same, by rw [List.length_map, List.length_replicate]; decide, knd_bl _, by rw [List.length_map, List.length_replicate]; rfl⟩, fun H3 s3 => ?_⟩
    refine ⟨small_le (show 2 ≤ 1000 by decide), fun p4 n4 => ⟨true, .inr ⟨p4, _, rfl, upd_same, by decide, knd_bl [false, false], rfl⟩, fun H4 s4 => q _⟩⟩
end
theorem all_mk {l : PySem.W.OpenLaw} {w : World} {K : PySem.W.Frag} {h : Heap} {mg : Str → Option Value} {fa : Addr} (X : K.In h) (G : h.Ns mainGlobals mg) (hfa : mg "law" = some (.ref fa))
    {f0 : Addr} {oc0 kV0 dc0 pm0 cd0 ct0 : Value} {od0 an0 : Option Addr} {sl0 : Array (Option Value)}
    {f1 : Addr} {oc1 kV1 dc1 pm1 cd1 ct1 : Value} {od1 an1 : Option Addr} {sl1 : Array (Option Value)}
    {f2 : Addr} {oc2 kV2 dc2 pm2 cd2 ct2 : Value} {od2 an2 : Option Addr} {sl2 : Array (Option Value)}
    {f3 : Addr} {oc3 kV3 dc3 pm3 cd3 ct3 : Value} {od3 an3 : Option Addr} {sl3 : Array (Option Value)}
    {f4 : Addr} {oc4 kV4 dc4 pm4 cd4 ct4 : Value} {od4 an4 : Option Addr} {sl4 : Array (Option Value)}
    {f5 : Addr} {oc5 kV5 dc5 pm5 cd5 ct5 : Value} {od5 an5 : Option Addr} {sl5 : Array (Option Value)}
    {f6 : Addr} {oc6 kV6 dc6 pm6 cd6 ct6 : Value} {od6 an6 : Option Addr} {sl6 : Array (Option Value)}
    {f7 : Addr} {oc7 kV7 dc7 pm7 cd7 ct7 : Value} {od7 an7 : Option Addr} {sl7 : Array (Option Value)}
    {f8 : Addr} {oc8 kV8 dc8 pm8 cd8 ct8 : Value} {od8 an8 : Option Addr} {sl8 : Array (Option Value)}
    {f9 : Addr} {oc9 kV9 dc9 pm9 cd9 ct9 : Value} {od9 an9 : Option Addr} {sl9 : Array (Option Value)}
    {f10 : Addr} {oc10 kV10 dc10 pm10 cd10 ct10 : Value} {od10 an10 : Option Addr} {sl10 : Array (Option Value)}
    {f11 : Addr} {oc11 kV11 dc11 pm11 cd11 ct11 : Value} {od11 an11 : Option Addr} {sl11 : Array (Option Value)}
    {f12 : Addr} {oc12 kV12 dc12 pm12 cd12 ct12 : Value} {od12 an12 : Option Addr} {sl12 : Array (Option Value)}
    {f13 : Addr} {oc13 kV13 dc13 pm13 cd13 ct13 : Value} {od13 an13 : Option Addr} {sl13 : Array (Option Value)}
    {f14 : Addr} {oc14 kV14 dc14 pm14 cd14 ct14 : Value} {od14 an14 : Option Addr} {sl14 : Array (Option Value)}
    {ac_TABLE_LENGTHS : Addr} {sl_TABLE_LENGTHS : Array (Option Value)} {nc_TABLE_LENGTHS : Nat} {t_TABLE_LENGTHS_0 t_TABLE_LENGTHS_1 t_TABLE_LENGTHS_2 t_TABLE_LENGTHS_3 t_TABLE_LENGTHS_4 t_TABLE_LENGTHS_5 : Tok}
    (a0 : PySem.W.nsIn K mainGlobals "is_whole" = some (some (.ref f0)))
    (l0 : K.lookup f0 = some ⟨oc0, od0, .func (PySem.W.fnOf "is_whole" "is_whole" (defArgs s_is_whole) (defBody s_is_whole) (defScope s_is_whole) .none kV0 dc0 pm0 an0 cd0 ct0), sl0⟩)
    (c0 : PySem.W.codeIn K cd0 "is_whole" = true)
    (k0 : PySem.W.keepIn K (.ref f0) = true)
    (a1 : PySem.W.nsIn K mainGlobals "is_below" = some (some (.ref f1)))
    (l1 : K.lookup f1 = some ⟨oc1, od1, .func (PySem.W.fnOf "is_below" "is_below" (defArgs s_is_below) (defBody s_is_below) (defScope s_is_below) .none kV1 dc1 pm1 an1 cd1 ct1), sl1⟩)
    (c1 : PySem.W.codeIn K cd1 "is_below" = true)
    (k1 : PySem.W.keepIn K (.ref f1) = true)
    (a2 : PySem.W.nsIn K mainGlobals "two_to" = some (some (.ref f2)))
    (l2 : K.lookup f2 = some ⟨oc2, od2, .func (PySem.W.fnOf "two_to" "two_to" (defArgs s_two_to) (defBody s_two_to) (defScope s_two_to) .none kV2 dc2 pm2 an2 cd2 ct2), sl2⟩)
    (c2 : PySem.W.codeIn K cd2 "two_to" = true)
    (k2 : PySem.W.keepIn K (.ref f2) = true)
    (a3 : PySem.W.nsIn K mainGlobals "power_of" = some (some (.ref f3)))
    (l3 : K.lookup f3 = some ⟨oc3, od3, .func (PySem.W.fnOf "power_of" "power_of" (defArgs s_power_of) (defBody s_power_of) (defScope s_power_of) .none kV3 dc3 pm3 an3 cd3 ct3), sl3⟩)
    (c3 : PySem.W.codeIn K cd3 "power_of" = true)
    (k3 : PySem.W.keepIn K (.ref f3) = true)
    (a4 : PySem.W.nsIn K mainGlobals "is_place" = some (some (.ref f4)))
    (l4 : K.lookup f4 = some ⟨oc4, od4, .func (PySem.W.fnOf "is_place" "is_place" (defArgs s_is_place) (defBody s_is_place) (defScope s_is_place) .none kV4 dc4 pm4 an4 cd4 ct4), sl4⟩)
    (c4 : PySem.W.codeIn K cd4 "is_place" = true)
    (k4 : PySem.W.keepIn K (.ref f4) = true)
    (a5 : PySem.W.nsIn K mainGlobals "is_table" = some (some (.ref f5)))
    (l5 : K.lookup f5 = some ⟨oc5, od5, .func (PySem.W.fnOf "is_table" "is_table" (defArgs s_is_table) (defBody s_is_table) (defScope s_is_table) .none kV5 dc5 pm5 an5 cd5 ct5), sl5⟩)
    (c5 : PySem.W.codeIn K cd5 "is_table" = true)
    (k5 : PySem.W.keepIn K (.ref f5) = true)
    (a6 : PySem.W.nsIn K mainGlobals "switches_of" = some (some (.ref f6)))
    (l6 : K.lookup f6 = some ⟨oc6, od6, .func (PySem.W.fnOf "switches_of" "switches_of" (defArgs s_switches_of) (defBody s_switches_of) (defScope s_switches_of) .none kV6 dc6 pm6 an6 cd6 ct6), sl6⟩)
    (c6 : PySem.W.codeIn K cd6 "switches_of" = true)
    (k6 : PySem.W.keepIn K (.ref f6) = true)
    (a7 : PySem.W.nsIn K mainGlobals "_law_tape" = some (some (.ref f7)))
    (l7 : K.lookup f7 = some ⟨oc7, od7, .func (PySem.W.fnOf "_law_tape" "_law_tape" (defArgs s__law_tape) (defBody s__law_tape) (defScope s__law_tape) .none kV7 dc7 pm7 an7 cd7 ct7), sl7⟩)
    (c7 : PySem.W.codeIn K cd7 "_law_tape" = true)
    (k7 : PySem.W.keepIn K (.ref f7) = true)
    (a8 : PySem.W.nsIn K mainGlobals "_law_next" = some (some (.ref f8)))
    (l8 : K.lookup f8 = some ⟨oc8, od8, .func (PySem.W.fnOf "_law_next" "_law_next" (defArgs s__law_next) (defBody s__law_next) (defScope s__law_next) .none kV8 dc8 pm8 an8 cd8 ct8), sl8⟩)
    (c8 : PySem.W.codeIn K cd8 "_law_next" = true)
    (k8 : PySem.W.keepIn K (.ref f8) = true)
    (a9 : PySem.W.nsIn K mainGlobals "_law_two" = some (some (.ref f9)))
    (l9 : K.lookup f9 = some ⟨oc9, od9, .func (PySem.W.fnOf "_law_two" "_law_two" (defArgs s__law_two) (defBody s__law_two) (defScope s__law_two) .none kV9 dc9 pm9 an9 cd9 ct9), sl9⟩)
    (c9 : PySem.W.codeIn K cd9 "_law_two" = true)
    (k9 : PySem.W.keepIn K (.ref f9) = true)
    (a10 : PySem.W.nsIn K mainGlobals "_law_odd" = some (some (.ref f10)))
    (l10 : K.lookup f10 = some ⟨oc10, od10, .func (PySem.W.fnOf "_law_odd" "_law_odd" (defArgs s__law_odd) (defBody s__law_odd) (defScope s__law_odd) .none kV10 dc10 pm10 an10 cd10 ct10), sl10⟩)
    (c10 : PySem.W.codeIn K cd10 "_law_odd" = true)
    (k10 : PySem.W.keepIn K (.ref f10) = true)
    (a11 : PySem.W.nsIn K mainGlobals "_law_is_number" = some (some (.ref f11)))
    (l11 : K.lookup f11 = some ⟨oc11, od11, .func (PySem.W.fnOf "_law_is_number" "_law_is_number" (defArgs s__law_is_number) (defBody s__law_is_number) (defScope s__law_is_number) .none kV11 dc11 pm11 an11 cd11 ct11), sl11⟩)
    (c11 : PySem.W.codeIn K cd11 "_law_is_number" = true)
    (k11 : PySem.W.keepIn K (.ref f11) = true)
    (a12 : PySem.W.nsIn K mainGlobals "_law_truth" = some (some (.ref f12)))
    (l12 : K.lookup f12 = some ⟨oc12, od12, .func (PySem.W.fnOf "_law_truth" "_law_truth" (defArgs s__law_truth) (defBody s__law_truth) (defScope s__law_truth) .none kV12 dc12 pm12 an12 cd12 ct12), sl12⟩)
    (c12 : PySem.W.codeIn K cd12 "_law_truth" = true)
    (k12 : PySem.W.keepIn K (.ref f12) = true)
    (a13 : PySem.W.nsIn K mainGlobals "_law_tables_right" = some (some (.ref f13)))
    (l13 : K.lookup f13 = some ⟨oc13, od13, .func (PySem.W.fnOf "_law_tables_right" "_law_tables_right" (defArgs s__law_tables_right) (defBody s__law_tables_right) (defScope s__law_tables_right) .none kV13 dc13 pm13 an13 cd13 ct13), sl13⟩)
    (c13 : PySem.W.codeIn K cd13 "_law_tables_right" = true)
    (k13 : PySem.W.keepIn K (.ref f13) = true)
    (a14 : PySem.W.nsIn K mainGlobals "law" = some (some (.ref f14)))
    (l14 : K.lookup f14 = some ⟨oc14, od14, .func (PySem.W.fnOf "law" "law" (defArgs s_law) (defBody s_law) (defScope s_law) .none kV14 dc14 pm14 an14 cd14 ct14), sl14⟩)
    (c14 : PySem.W.codeIn K cd14 "law" = true)
    (k14 : PySem.W.keepIn K (.ref f14) = true)
    (z_all : PySem.W.nsIn K mainGlobals "all" = some none)
    (z_bool : PySem.W.nsIn K mainGlobals "bool" = some none)
    (z_dict : PySem.W.nsIn K mainGlobals "dict" = some none)
    (z_enumerate : PySem.W.nsIn K mainGlobals "enumerate" = some none)
    (z_int : PySem.W.nsIn K mainGlobals "int" = some none)
    (z_isinstance : PySem.W.nsIn K mainGlobals "isinstance" = some none)
    (z_len : PySem.W.nsIn K mainGlobals "len" = some none)
    (z_list : PySem.W.nsIn K mainGlobals "list" = some none)
    (z_max : PySem.W.nsIn K mainGlobals "max" = some none)
    (z_range : PySem.W.nsIn K mainGlobals "range" = some none)
    (z_repr : PySem.W.nsIn K mainGlobals "repr" = some none)
    (z_tuple : PySem.W.nsIn K mainGlobals "tuple" = some none)
    (c_TABLE_LENGTHS : PySem.W.nsIn K mainGlobals "TABLE_LENGTHS" = some (some (.ref ac_TABLE_LENGTHS)))
    (q_TABLE_LENGTHS : K.lookup ac_TABLE_LENGTHS = some ⟨.type "tuple", none, .seq #[.int 2 t_TABLE_LENGTHS_0, .int 4 t_TABLE_LENGTHS_1, .int 8 t_TABLE_LENGTHS_2, .int 16 t_TABLE_LENGTHS_3, .int 32 t_TABLE_LENGTHS_4, .int 64 t_TABLE_LENGTHS_5] nc_TABLE_LENGTHS, sl_TABLE_LENGTHS⟩) :
    ∃ fd : FuncData, (∀ (s : Shared) (v : Value), BindsTo s fd ⟨[v], []⟩ [("_law_script", v)]) ∧ ∀ base : Heap, K.In base → base.Ns mainGlobals mg → FnOk l.prog w K mg base CX0 4 fa fd ["_law_script"] (spLaw K) := by
  have e := hfa.symm.trans (PySem.W.mg_of X G a14)
  cases e
  have F0 := fun_mk (st := s_is_whole) l0 c0 k0
  have b0 := F0.binds (ps := ["thing"]) fun _ _ _ _ _ _ => L2.on1 (fun _ => rfl)
  have F1 := fun_mk (st := s_is_below) l1 c1 k1
  have b1 := F1.binds (ps := ["bound", "thing"]) fun _ _ _ _ _ _ => L2.on2 (fun _ _ => rfl)
  have F2 := fun_mk (st := s_two_to) l2 c2 k2
  have b2 := F2.binds (ps := ["n"]) fun _ _ _ _ _ _ => L2.on1 (fun _ => rfl)
  have F3 := fun_mk (st := s_power_of) l3 c3 k3
  have b3 := F3.binds (ps := ["base", "times"]) fun _ _ _ _ _ _ => L2.on2 (fun _ _ => rfl)
  have F4 := fun_mk (st := s_is_place) l4 c4 k4
  have b4 := F4.binds (ps := ["n", "thing"]) fun _ _ _ _ _ _ => L2.on2 (fun _ _ => rfl)
  have F5 := fun_mk (st := s_is_table) l5 c5 k5
  have b5 := F5.binds (ps := ["thing"]) fun _ _ _ _ _ _ => L2.on1 (fun _ => rfl)
  have F6 := fun_mk (st := s_switches_of) l6 c6 k6
  have b6 := F6.binds (ps := ["table"]) fun _ _ _ _ _ _ => L2.on1 (fun _ => rfl)
  have F7 := fun_mk (st := s__law_tape) l7 c7 k7
  have b7 := F7.binds (ps := ["_law_script"]) fun _ _ _ _ _ _ => L2.on1 (fun _ => rfl)
  have F8 := fun_mk (st := s__law_next) l8 c8 k8
  have b8 := F8.binds (ps := ["_law_tape_here", "_law_many"]) fun _ _ _ _ _ _ => L2.on2 (fun _ _ => rfl)
  have F9 := fun_mk (st := s__law_two) l9 c9 k9
  have b9 := F9.binds (ps := ["_law_k"]) fun _ _ _ _ _ _ => L2.on1 (fun _ => rfl)
  have F10 := fun_mk (st := s__law_odd) l10 c10 k10
  have b10 := F10.binds (ps := ["_law_tape_here"]) fun _ _ _ _ _ _ => L2.on1 (fun _ => rfl)
  have F11 := fun_mk (st := s__law_is_number) l11 c11 k11
  have b11 := F11.binds (ps := ["_law_thing"]) fun _ _ _ _ _ _ => L2.on1 (fun _ => rfl)
  have F12 := fun_mk (st := s__law_truth) l12 c12 k12
  have b12 := F12.binds (ps := ["_law_found", "_law_due"]) fun _ _ _ _ _ _ => L2.on2 (fun _ _ => rfl)
  have F13 := fun_mk (st := s__law_tables_right) l13 c13 k13
  have b13 := F13.binds (ps := ["_law_tape_here"]) fun _ _ _ _ _ _ => L2.on1 (fun _ => rfl)
  have F14 := fun_mk (st := s_law) l14 c14 k14
  have b14 := F14.binds (ps := ["_law_script"]) fun _ _ _ _ _ _ => L2.on1 (fun _ => rfl)
  let T : Txt K mg := { f_is_whole := f0, d_is_whole := _, F_is_whole := F0, b_is_whole := b0, m_is_whole := PySem.W.mg_of X G a0, f_is_below := f1, d_is_below := _, F_is_below := F1, b_is_below := b1, m_is_below := PySem.W.mg_of X G a1, f_two_to := f2, d_two_to := _, F_two_to := F2, b_two_to := b2, m_two_to := PySem.W.mg_of X G a2, f_power_of := f3, d_power_of := _, F_power_of := F3, b_power_of := b3, m_power_of := PySem.W.mg_of X G a3, f_is_place := f4, d_is_place := _, F_is_place := F4, b_is_place := b4, m_is_place := PySem.W.mg_of X G a4, f_is_table := f5, d_is_table := _, F_is_table := F5, b_is_table := b5, m_is_table := PySem.W.mg_of X G a5, f_switches_of := f6, d_switches_of := _, F_switches_of := F6, b_switches_of := b6, m_switches_of := PySem.W.mg_of X G a6, f__law_tape := f7, d__law_tape := _, F__law_tape := F7, b__law_tape := b7, m__law_tape := PySem.W.mg_of X G a7, f__law_next := f8, d__law_next := _, F__law_next := F8, b__law_next := b8, m__law_next := PySem.W.mg_of X G a8, f__law_two := f9, d__law_two := _, F__law_two := F9, b__law_two := b9, m__law_two := PySem.W.mg_of X G a9, f__law_odd := f10, d__law_odd := _, F__law_odd := F10, b__law_odd := b10, m__law_odd := PySem.W.mg_of X G a10, f__law_is_number := f11, d__law_is_number := _, F__law_is_number := F11, b__law_is_number := b11, m__law_is_number := PySem.W.mg_of X G a11, f__law_truth := f12, d__law_truth := _, F__law_truth := F12, b__law_truth := b12, m__law_truth := PySem.W.mg_of X G a12, f__law_tables_right := f13, d__law_tables_right := _, F__law_tables_right := F13, b__law_tables_right := b13, m__law_tables_right := PySem.W.mg_of X G a13, f_law := fa, d_law := _, F_law := F14, b_law := b14, m_law := PySem.W.mg_of X G a14, z_all := PySem.W.mg_none_of X G z_all, z_bool := PySem.W.mg_none_of X G z_bool, z_dict := PySem.W.mg_none_of X G z_dict, z_enumerate := PySem.W.mg_none_of X G z_enumerate, z_int := PySem.W.mg_none_of X G z_int, z_isinstance := PySem.W.mg_none_of X G z_isinstance, z_len := PySem.W.mg_none_of X G z_len, z_list := PySem.W.mg_none_of X G z_list, z_max := PySem.W.mg_none_of X G z_max, z_range := PySem.W.mg_none_of X G z_range, z_repr := PySem.W.mg_none_of X G z_repr, z_tuple := PySem.W.mg_none_of X G z_tuple, a_TABLE_LENGTHS := ac_TABLE_LENGTHS, c_TABLE_LENGTHS := PySem.W.mg_of X G c_TABLE_LENGTHS, q_TABLE_LENGTHS := fun H => .inr ⟨_, _, _, q_TABLE_LENGTHS, rfl, rfl, rfl, (show 6 ≤ sizeLine by decide), (.cons ⟨_, rfl⟩ (.cons ⟨_, rfl⟩ (.cons ⟨_, rfl⟩ (.cons ⟨_, rfl⟩ (.cons ⟨_, rfl⟩ (.cons ⟨_, rfl⟩ .nil))))))⟩ }
  exact ⟨PySem.W.fnOf "law" "law" (defArgs s_law) (defBody s_law) (defScope s_law) .none kV14 dc14 pm14 an14 cd14 ct14, fun s v => .of_eq rfl, fun base _ _ => ok_law T⟩
theorem walk {l : PySem.W.OpenLaw} {q : Program} {loose : List Str} {XP : (Str → Option Value) → Heap → Prop} {YP : World → Heap → Prop} {d : DefRec} {K : Params → PySem.W.Frag} (hn : l.most = some 63) (hdf : d.params.defaults = [])
    (hY : ∀ (w : World) (h : Heap), YP w h → (K w.params).In h)
    (F : ∀ (w : World) (mg : Str → Option Value) (fa : Addr) (h : Heap), (K w.params).In h → h.Ns mainGlobals mg → mg d.name = some (.ref fa) →
      ∃ fd : FuncData, (∀ (s : Shared) (u : Value), BindsTo s fd ⟨[u], []⟩ [("_law_script", u)]) ∧ ∀ base : Heap, (K w.params).In base → base.Ns mainGlobals mg → FnOk l.prog w (K w.params) mg base CX0 4 fa fd ["_law_script"] (spLaw (K w.params))) :
    PySem.W.WalkO q loose XP YP l.row.toRowW d [] (fun f vs => PySem.call f vs) :=
  L2.walk_of (n := 63) (k := 4) (x := "_law_script") (CX := fun _ => CX0) (sp := fun w => spLaw (K w.params)) hn (by decide) hdf ⟨rfl, by decide, by decide, rfl⟩ hY F (fun _ _ a ns hl _ hS => ⟨a, ns, rfl, hS, hl, fun _ => rfl⟩) fun _ _ _ _ _ z => z
end Mine
open PySem PySem.W PyProof.Rows
set_option maxRecDepth 100000 in
set_option maxHeartbeats 0 in
theorem PySem.Challenge.cw_flips_k01_places_and_tables_holds : PySem.Challenge.rw_flips_k01_places_and_tables.Holds := by
  w_on; o_law; k_head; (case hw => w_witness2)
  k_fill
  refine Mine.walk (l := PySem.Challenge.rw_flips_k01_places_and_tables) rfl rfl (fun w h Y => PySem.W.kIn_of Y) ?F
  case F =>
    intro w mg fa h KX G hmg
    refine' Mine.all_mk KX G hmg ?a0 ?l0 ?c0 ?k0 ?a1 ?l1 ?c1 ?k1 ?a2 ?l2 ?c2 ?k2 ?a3 ?l3 ?c3 ?k3 ?a4 ?l4 ?c4 ?k4 ?a5 ?l5 ?c5 ?k5 ?a6 ?l6 ?c6 ?k6 ?a7 ?l7 ?c7 ?k7 ?a8 ?l8 ?c8 ?k8 ?a9 ?l9 ?c9 ?k9 ?a10 ?l10 ?c10 ?k10 ?a11 ?l11 ?c11 ?k11 ?a12 ?l12 ?c12 ?k12 ?a13 ?l13 ?c13 ?k13 ?a14 ?l14 ?c14 ?k14 ?z_all ?z_bool ?z_dict ?z_enumerate ?z_int ?z_isinstance ?z_len ?z_list ?z_max ?z_range ?z_repr ?z_tuple ?c_TABLE_LENGTHS ?q_TABLE_LENGTHS
    (case a0 => k_is)
    (case l0 => k_is)
    (case c0 => k_is)
    (case k0 => k_is)
    (case a1 => k_is)
    (case l1 => k_is)
    (case c1 => k_is)
    (case k1 => k_is)
    (case a2 => k_is)
    (case l2 => k_is)
    (case c2 => k_is)
    (case k2 => k_is)
    (case a3 => k_is)
    (case l3 => k_is)
    (case c3 => k_is)
    (case k3 => k_is)
    (case a4 => k_is)
    (case l4 => k_is)
    (case c4 => k_is)
    (case k4 => k_is)
    (case a5 => k_is)
    (case l5 => k_is)
    (case c5 => k_is)
    (case k5 => k_is)
    (case a6 => k_is)
    (case l6 => k_is)
    (case c6 => k_is)
    (case k6 => k_is)
    (case a7 => k_is)
    (case l7 => k_is)
    (case c7 => k_is)
    (case k7 => k_is)
    (case a8 => k_is)
    (case l8 => k_is)
    (case c8 => k_is)
    (case k8 => k_is)
    (case a9 => k_is)
    (case l9 => k_is)
    (case c9 => k_is)
    (case k9 => k_is)
    (case a10 => k_is)
    (case l10 => k_is)
    (case c10 => k_is)
    (case k10 => k_is)
    (case a11 => k_is)
    (case l11 => k_is)
    (case c11 => k_is)
    (case k11 => k_is)
    (case a12 => k_is)
    (case l12 => k_is)
    (case c12 => k_is)
    (case k12 => k_is)
    (case a13 => k_is)
    (case l13 => k_is)
    (case c13 => k_is)
    (case k13 => k_is)
    (case a14 => k_is)
    (case l14 => k_is)
    (case c14 => k_is)
    (case k14 => k_is)
    (case z_all => k_is)
    (case z_bool => k_is)
    (case z_dict => k_is)
    (case z_enumerate => k_is)
    (case z_int => k_is)
    (case z_isinstance => k_is)
    (case z_len => k_is)
    (case z_list => k_is)
    (case z_max => k_is)
    (case z_range => k_is)
    (case z_repr => k_is)
    (case z_tuple => k_is)
    (case c_TABLE_LENGTHS => k_is)
    (case q_TABLE_LENGTHS => k_is)
