import PyProof.Rows.All
import Wide.All
import OpenK.AllK
import Wide.FinOn
import PyProof.EqAt
import PyProof.EqKinds
import PyProof.NeKinds
import PyProof.TupleCall
import PyProof.StrLawsRepr
import KE.KIsAll
import KE.KItem
import KE.KDictOf
import KE.KBytesAny
import Lean
import PySem.Challenge.RW_gapwork_k02_parts_of_any_term
set_option Elab.async false
set_option linter.all false
set_option maxRecDepth 100000
/-! THE HAND LAYER, for ints, bools, texts, own classes, LISTS and tuples (index, slices, in, append, pop ..), calls, loops. Paste it whole ahead of your own text; what your proof does not reach may be deleted. -/
namespace L2
open PySem PySem.Spec PyProof.Rows

/-- a key: an int or a str -/
abbrev Key := Sum Int Str
def keyIs : Key → Value → Bool
  | .inl k, v => Value.isInt k v
  | .inr x, v => Value.isStrOf x v
def keyH (w : World) : Key → Int
  | .inl k => hashInt k
  | .inr x => hashStr w x
theorem keyIs_shape : ∀ {k : Key} {v : Value}, keyIs k v = true → (∃ i t, k = Sum.inl i ∧ v = Value.int i t) ∨ (∃ x t, k = Sum.inr x ∧ v = Value.str x t)
  | .inl i, v, h => by
    obtain ⟨t, e⟩ := Value.isInt_shape (k := i) (v := v) h
    exact .inl ⟨i, t, rfl, e⟩
  | .inr x, v, h => by
    obtain ⟨t, e⟩ := Value.isStrOf_shape (x := x) (v := v) h
    exact .inr ⟨x, t, rfl, e⟩
theorem keyIs_int (i : Int) (t : Tok) : keyIs (.inl i) (.int i t) = true := by simp [keyIs, Value.isInt]
theorem keyIs_str (x : Str) (t : Tok) : keyIs (.inr x) (.str x t) = true := by simp [keyIs, Value.isStrOf]
theorem key_ll (a b : Int) : decide ((Sum.inl a : Key) = Sum.inl b) = (a == b) := by
  by_cases e : a = b
  · subst e; simp
  · have h : ¬ (Sum.inl a : Key) = Sum.inl b := fun q => e (Sum.inl.inj q)
    rw [decide_eq_false h]
    exact (beq_eq_false_iff_ne.mpr e).symm
theorem key_rr (a b : Str) : decide ((Sum.inr a : Key) = Sum.inr b) = decide (a = b) := by
  by_cases e : a = b
  · subst e; simp
  · have h : ¬ (Sum.inr a : Key) = Sum.inr b := fun q => e (Sum.inr.inj q)
    rw [decide_eq_false h, decide_eq_false e]
theorem key_lr (a : Int) (b : Str) : decide ((Sum.inl a : Key) = Sum.inr b) = false := decide_eq_false (fun q => nomatch q)
theorem key_rl (a : Str) (b : Int) : decide ((Sum.inr a : Key) = Sum.inl b) = false := decide_eq_false (fun q => nomatch q)

def mixKind (prog : Program) (w : World) : PySem.KeyKind prog w Key where
  is := keyIs
  hash := keyH w
  inj := fun v a b ha hb => by
    rcases keyIs_shape ha with ⟨i, t, rfl, rfl⟩ | ⟨x, t, rfl, rfl⟩
    · rcases keyIs_shape hb with ⟨j, u, rfl, e⟩ | ⟨y, u, rfl, e⟩
      · injection e with e1 _; rw [e1]
      · exact nomatch e
    · rcases keyIs_shape hb with ⟨j, u, rfl, e⟩ | ⟨y, u, rfl, e⟩
      · exact nomatch e
      · injection e with e1 _; rw [e1]
  byValue := fun k v h => by
    rcases keyIs_shape h with ⟨i, t, rfl, rfl⟩ | ⟨x, t, rfl, rfl⟩ <;> rfl
  pyHash := fun hv h => by
    rcases keyIs_shape hv with ⟨i, t, rfl, rfl⟩ | ⟨x, t, rfl, rfl⟩
    · exact wpAny_pyHash_int h
    · exact wpAny_pyHash_str h
  eqBool := fun hu hv h => by
    rcases keyIs_shape hu with ⟨i, t, rfl, rfl⟩ | ⟨x, t, rfl, rfl⟩
    · rcases keyIs_shape hv with ⟨j, u, rfl, rfl⟩ | ⟨y, u, rfl, rfl⟩
      · rw [key_ll] at h; exact wpAny_eqBool_int h
      · rw [key_lr] at h; exact SeqAt.EqAt.int_str i t y u _ _ _ _ h
    · rcases keyIs_shape hv with ⟨j, u, rfl, rfl⟩ | ⟨y, u, rfl, rfl⟩
      · rw [key_rl] at h; exact SeqAt.EqAt.str_int x t j u _ _ _ _ h
      · rw [key_rr] at h; exact wpAny_eqBool_str h
  «strs» := fun k x t v h => by
    rcases keyIs_shape h with ⟨i, u, rfl, e⟩ | ⟨y, u, rfl, e⟩
    · exact nomatch e
    · injection e with e1 _
      subst e1
      cases v <;> rfl

theorem mixKind_is (prog : Program) (w : World) (k : Key) (v : Value) : (mixKind prog w).is k v = keyIs k v := rfl
theorem mixKind_int (prog : Program) (w : World) (i : Int) (t : Tok) : (mixKind prog w).is (.inl i) (.int i t) = true := keyIs_int i t
theorem mixKind_str (prog : Program) (w : World) (x : Str) (t : Tok) : (mixKind prog w).is (.inr x) (.str x t) = true := keyIs_str x t
end L2

namespace L2
open PySem PySem.Spec PyProof.Rows

/-- a value, without the heap -/
inductive V where
  | non | bl (b : Bool) | int (i : Int) | str (x : Str) | byt (b : Array UInt8) | flt (b : UInt64) | ref (a : Addr) | ty (n : String)
  deriving DecidableEq

def RelV : V → Value → Prop
  | .non, u => u = Value.none
  | .bl b, u => u = Value.bool b
  | .int i, u => ∃ t, u = Value.int i t
  | .str x, u => ∃ t, u = Value.str x t
  | .byt b, u => ∃ t, u = Value.bytes b t
  | .flt b, u => ∃ t, u = Value.float b t
  | .ref a, u => u = Value.ref a
  | .ty n, u => u = Value.type n

abbrev Vals : List V → List Value → Prop := Paired RelV
theorem Vals.length {xs : List V} {us : List Value} (r : Vals xs us) : xs.length = us.length := Paired.length r
theorem Vals.get : ∀ {xs : List V} {us : List Value} {i : Nat} {x : V}, Vals xs us → xs[i]? = some x → ∃ u, us[i]? = some u ∧ RelV x u
  | _, _, _, _, .nil, e => by simp at e
  | _, _, 0, _, .cons r _, e => by simp at e; subst e; exact ⟨_, rfl, r⟩
  | _, _, i + 1, x, .cons _ t, e => by
    obtain ⟨u, h1, h2⟩ := Vals.get (i := i) (x := x) t (by simpa using e)
    exact ⟨u, by simpa using h1, h2⟩
theorem Vals.set {x : V} {u : Value} (r : RelV x u) : ∀ {xs : List V} {us : List Value} (i : Nat), Vals xs us → Vals (xs.set i x) (us.set i u)
  | _, _, _, .nil => .nil
  | _, _, 0, .cons _ t => .cons r t
  | _, _, i + 1, .cons q t => .cons q (Vals.set r i t)
theorem Vals.append : ∀ {xs ys : List V} {us ws : List Value}, Vals xs us → Vals ys ws → Vals (xs ++ ys) (us ++ ws)
  | _, _, _, _, .nil, s => s
  | _, _, _, _, .cons r t, s => .cons r (Vals.append t s)
theorem Vals.take : ∀ {xs : List V} {us : List Value} (n : Nat), Vals xs us → Vals (xs.take n) (us.take n)
  | _, _, 0, _ => .nil
  | _, _, _ + 1, .nil => .nil
  | _, _, n + 1, .cons r t => .cons r (Vals.take n t)
theorem Vals.drop : ∀ {xs : List V} {us : List Value} (n : Nat), Vals xs us → Vals (xs.drop n) (us.drop n)
  | _, _, 0, r => r
  | _, _, _ + 1, .nil => .nil
  | _, _, n + 1, .cons _ t => Vals.drop n t
theorem Vals.none_of : ∀ {xs : List V} {us : List Value} {i : Nat}, Vals xs us → xs[i]? = none → us[i]? = none := fun {xs us i} r e => by
  have h1 := r.length
  have h2 : xs.length ≤ i := List.getElem?_eq_none_iff.mp e
  exact List.getElem?_eq_none_iff.mpr (by omega)

def RelO : Option V → Option Value → Prop
  | some v, some u => RelV v u
  | none, none => True
  | _, _ => False
def KV {κ : Type} : List (κ × V) → List (κ × Value) → Prop := Paired fun (p : κ × V) (q : κ × Value) => p.1 = q.1 ∧ RelV p.2 q.2

/-- a key of a dict (00_mix): an int or a text -/
def kV : Key → V
  | .inl i => .int i
  | .inr x => .str x

/-- what stands at a tracked address -/
inductive HO where
  /-- a list -/
  | lst (xs : List V)
  /-- a tuple (never changes) -/
  | tup (xs : List V)
  /-- a dict whose keys are ints and texts; one whose keys are tuples of ints and texts (the empty one is both) -/
  | dK (kvs : List (Key × V)) | dT (kvs : List (List Key × V))
  /-- a set of ints: its members, its size -/
  | set (S : Int → Bool) (n : Nat)
  /-- an instance of the class at C, its dict at dx, its attributes -/
  | ins (C dx : Addr) (fs : List (Str × V))
  /-- the dict of the instance at x -/
  | own (x : Addr)
  /-- the dict of an exception -/
  | xd (fs : List (Str × V))
  /-- a bound method, f of x -/
  | met (f x : Addr)
  /-- a range object lo, lo + 1, .. below hi -/
  | rng (lo hi : Int)
  /-- a thing that is known to the object (the script; a dict while a loop walks it): read, never written while it is so -/
  | frz (o : Obj) (u : HO)
  /-- a code object's table -/
  | tbl (ps : Array Value)
  /-- any other thing, by what is true of its one object (a def of one's own: SetO a S n := HO.ext fun h => ..) -/
  | ext (φ : Heap → Prop)

abbrev Hp := Addr → Option HO
def upd (H : Hp) (a : Addr) (o : HO) : Hp := fun b => if b = a then some o else H b
theorem upd_same {H : Hp} {a : Addr} {o : HO} : upd H a o a = some o := by unfold upd; rw [if_pos rfl]
theorem upd_ne {H : Hp} {a b : Addr} {o : HO} (h : b ≠ a) : upd H a o b = H b := by unfold upd; rw [if_neg h]
theorem upd_upd {H : Hp} {a : Addr} {o u : HO} : upd (upd H a o) a u = upd H a u := by
  funext b; unfold upd; split <;> rfl
/-- two objects of different content stand apart -/
theorem ne_of {H : Hp} {a b : Addr} {o u : HO} (h : H a = some o) (h' : H b = some u) (d : o ≠ u) : a ≠ b := by
  intro e; subst e; rw [h] at h'; exact d (Option.some.inj h')
theorem ne_of_none {H : Hp} {a b : Addr} {o : HO} (h : H a = some o) (h' : H b = none) : a ≠ b := by
  intro e; subst e; rw [h] at h'; cases h'

section
variable (P : Program) (w : World)
def ObjOk (H : Hp) (h : Heap) (a : Addr) : HO → Prop
  | .lst xs => xs.length ≤ sizeLine ∧ ∃ (its : List Value) (n : Nat), Vals xs its ∧ h.get? a = some { cls := .type "list", data := .seq its.toArray n }
  | .tup xs => xs.length ≤ sizeLine ∧ ∃ its : List Value, Vals xs its ∧ IsTup h a its.toArray
  | .dK kvs => kvs.length ≤ sizeLine ∧ (a == sysModules) = false ∧ ∃ vs, KV kvs vs ∧ h.DictOf (mixKind P w) a vs
  | .dT kvs => kvs.length ≤ sizeLine ∧ (a == sysModules) = false ∧ ∃ xs : List (List Key × Addr × Value),
      Paired (fun (p : List Key × V) (q : List Key × Addr × Value) => p.1 = q.1 ∧ H q.2.1 = some (.tup (p.1.map kV)) ∧ RelV p.2 q.2.2) kvs xs ∧
      ∃ o es ep, h.get? a = some o ∧ o.ExactDict ∧ o.data = .dict es ep ∧ es.toList = xs.map (entryOfKey (tupleKind (mixKind P w))) ∧ (xs.map (·.1)).Nodup
  | .set S n => h.SetOf (intKind P w) a S n
  | .ins C dx fs => H dx = some (.own a) ∧ fs.length ≤ 1000 ∧ dx ≠ a ∧ h.get? a = some (PySem.W.instObj C dx) ∧
      ∃ mA, h.Ns1 dx mA ∧ (∀ f, RelO (fs.lookup f) (mA f)) ∧ PySem.Within mA (fs.map (·.1))
  | .own _ => ∃ o, h.get? a = some o
  | .xd fs => ∃ mA, h.Ns1 a mA ∧ ∀ f, RelO (fs.lookup f) (mA f)
  | .rng lo hi => ∃ t u v, h.get? a = some { cls := .type "range", data := .fields #[.int lo t, .int hi u, .int 1 v] }
  | .frz o u => h.get? a = some o ∧ ObjOk H h a u
  | .tbl ps => h.get? a = some { cls := .none, data := .fields ps }
  | .met f x => h.get? a = some (PySem.W.methodObj (.ref f) (.ref x))
  | .ext φ => φ h ∧ (∃ o, h.get? a = some o) ∧ ∀ h1 h2 : Heap, φ h1 → (∀ o, h1.get? a = some o → h2.get? a = some o) → φ h2
/-- the abstract heap is held -/
def HOk (H : Hp) (h : Heap) : Prop := ∀ a o, H a = some o → ObjOk P w H h a o
end

section
variable {P : Program} {w : World} {H H' : Hp} {h h' : Heap} {a : Addr} {o : HO}
theorem ObjOk.lt (x : ObjOk P w H h a o) : a < h.objs.size := by
  cases o with
  | lst xs => obtain ⟨_, _, _, _, e⟩ := x; exact Heap.lt_size e
  | tup xs => obtain ⟨_, _, _, p⟩ := x; exact p.lt
  | dK kvs => obtain ⟨_, _, _, _, o, _, _, e, _⟩ := x; exact Heap.lt_size e
  | dT kvs => obtain ⟨_, _, _, _, o, _, _, e, _⟩ := x; exact Heap.lt_size e
  | set S n => obtain ⟨o, _, _, _, e, _⟩ := x; exact Heap.lt_size e
  | ins C dx fs => obtain ⟨_, _, _, e, _⟩ := x; exact Heap.lt_size e
  | own y => obtain ⟨_, e⟩ := x; exact Heap.lt_size e
  | xd fs => obtain ⟨_, ⟨_, _, _, e, _⟩, _⟩ := x; exact Heap.lt_size e
  | rng lo hi => obtain ⟨_, _, _, e⟩ := x; exact Heap.lt_size e
  | frz ob u => obtain ⟨e, _⟩ := x; exact Heap.lt_size e
  | tbl ps => exact Heap.lt_size (show h.get? a = some _ from x)
  | met f y => exact Heap.lt_size (show h.get? a = some _ from x)
  | ext φ => obtain ⟨_, ⟨_, e⟩, _⟩ := x; exact Heap.lt_size e
theorem Paired.mapP {α β : Type} {F G : α → β → Prop} : ∀ {l₁ : List α} {l₂ : List β}, Paired F l₁ l₂ → (∀ a b, F a b → G a b) → Paired G l₁ l₂
  | _, _, .nil, _ => .nil
  | _, _, .cons r t, f => .cons (f _ _ r) (Paired.mapP t f)
theorem Paired.imp' {α β : Type} {F G : α → β → Prop} (f : ∀ a b, F a b → G a b) {l₁ : List α} {l₂ : List β} (r : Paired F l₁ l₂) : Paired G l₁ l₂ := Paired.mapP r f
/-- what an object's description leans on: its own object, its own dict, the tuples -/
theorem ObjOk.stay (x : ObjOk P w H h a o) (k : ∀ b u, (b = a ∨ H b = some (.own a)) → h.get? b = some u → h'.get? b = some u)
    (ho : ∀ b, H b = some (.own a) → H' b = some (.own a)) (ht : ∀ b xs, H b = some (.tup xs) → H' b = some (.tup xs)) : ObjOk P w H' h' a o := by
  induction o with
  | lst xs => obtain ⟨z, its, n, r, e⟩ := x; exact ⟨z, its, n, r, k _ _ (.inl rfl) e⟩
  | tup xs => obtain ⟨z, its, r, ob, e, c⟩ := x; exact ⟨z, its, r, ob, k _ _ (.inl rfl) e, c⟩
  | dK kvs => obtain ⟨z, y, vs, r, ob, es, ep, e, c⟩ := x; exact ⟨z, y, vs, r, ob, es, ep, k _ _ (.inl rfl) e, c⟩
  | dT kvs =>
    obtain ⟨z, y, xs, r, ob, es, ep, e, c⟩ := x
    exact ⟨z, y, xs, Paired.mapP r fun p q z => ⟨z.1, ht _ _ z.2.1, z.2.2⟩, ob, es, ep, k _ _ (.inl rfl) e, c⟩
  | set S n => obtain ⟨ob, es, ep, t, e, c⟩ := x; exact ⟨ob, es, ep, t, k _ _ (.inl rfl) e, c⟩
  | ins C dx fs =>
    obtain ⟨d, z, ne, e, mA, ⟨od, es, ep, e2, c⟩, r⟩ := x
    exact ⟨ho _ d, z, ne, k _ _ (.inl rfl) e, mA, ⟨od, es, ep, k _ _ (.inr d) e2, c⟩, r⟩
  | own y => obtain ⟨ob, e⟩ := x; exact ⟨ob, k _ _ (.inl rfl) e⟩
  | xd fs => obtain ⟨mA, ⟨od, es, ep, e, c⟩, r⟩ := x; exact ⟨mA, ⟨od, es, ep, k _ _ (.inl rfl) e, c⟩, r⟩
  | rng lo hi => obtain ⟨t, u, v, e⟩ := x; exact ⟨t, u, v, k _ _ (.inl rfl) e⟩
  | frz ob u ih => obtain ⟨e, q⟩ := x; exact ⟨k _ _ (.inl rfl) e, ih q⟩
  | tbl ps =>
    have e : h.get? a = some { cls := .none, data := .fields ps } := x
    show h'.get? a = some { cls := .none, data := .fields ps }
    exact k a _ (.inl rfl) e
  | met f y =>
    have e : h.get? a = some (PySem.W.methodObj (.ref f) (.ref y)) := x
    show h'.get? a = some (PySem.W.methodObj (.ref f) (.ref y))
    exact k a _ (.inl rfl) e
  | ext φ => obtain ⟨p, ⟨o, e⟩, st⟩ := x; exact ⟨st _ _ p fun o q => k _ _ (.inl rfl) q, ⟨o, k _ _ (.inl rfl) e⟩, st⟩
theorem HOk.lt (x : HOk P w H h) (e : H a = some o) : a < h.objs.size := (x a o e).lt
theorem HOk.fresh (x : HOk P w H h) (e : h.objs.size ≤ a) : H a = none := by
  cases q : H a with
  | none => rfl
  | some u => exact absurd (Nat.lt_of_lt_of_le (x.lt q) e) (Nat.lt_irrefl _)
/-- every object of the heap is kept -/
theorem HOk.kept (x : HOk P w H h) (k : ∀ b u, h.get? b = some u → h'.get? b = some u) : HOk P w H h' := fun a o e =>
  (x a o e).stay (fun b u _ q => k b u q) (fun _ q => q) fun _ _ q => q
/-- a new object is laid and tracked -/
theorem HOk.laid (x : HOk P w H h) (k : ∀ b u, h.get? b = some u → h'.get? b = some u) (hp : h.objs.size ≤ a) (new : ObjOk P w (upd H a o) h' a o) : HOk P w (upd H a o) h' := fun b u e => by
  have hn := x.fresh hp
  by_cases hb : b = a
  · subst hb; rw [upd_same] at e; cases e; exact new
  · rw [upd_ne hb] at e
    exact (x b u e).stay (fun c v _ q => k c v q) (fun c q => by rw [upd_ne (ne_of_none q hn)]; exact q) fun c xs q => by rw [upd_ne (ne_of_none q hn)]; exact q
end

/-- what may be read as u: it is u, or a known u -/
def Rd (H : Hp) (a : Addr) (u : HO) : Prop := H a = some u ∨ ∃ o, H a = some (.frz o u)
theorem Rd.of {H : Hp} {a : Addr} {u : HO} (h : H a = some u) : Rd H a u := .inl h
theorem Rd.ok {P : Program} {w : World} {H : Hp} {h : Heap} {a : Addr} {u : HO} (r : Rd H a u) (x : HOk P w H h) : ObjOk P w H h a u := by
  rcases r with r | ⟨o, r⟩
  · exact x a u r
  · obtain ⟨_, q⟩ := x a _ r
    exact q
/-- what may be written -/
def Mut : Option HO → Prop
  | some (.lst _) => True
  | some (.dK _) => True
  | some (.dT _) => True
  | some (.set _ _) => True
  | some (.ins _ _ _) => True
  | some (.ext _) => True
  | _ => False
section
variable {P : Program} {w : World} {H : Hp} {h h' : Heap} {x e : Addr} {o' : HO}
/-- the object at e is changed: x itself, or the dict of the instance x -/
theorem HOk.write (ok : HOk P w H h) (mu : Mut (H x)) (he : e = x ∨ H e = some (.own x)) (k : ∀ b u, b ≠ e → h.get? b = some u → h'.get? b = some u) (heo : ∃ u, h'.get? e = some u)
    (new : ObjOk P w (upd H x o') h' x o') : HOk P w (upd H x o') h' := fun b u q => by
  have nown : ∀ c y, H c = some (.own y) → c ≠ x := fun c y r z => by subst z; rw [r] at mu; exact mu
  have ntup : ∀ c xs, H c = some (.tup xs) → c ≠ x := fun c xs r z => by subst z; rw [r] at mu; exact mu
  by_cases hb : b = x
  · subst hb; rw [upd_same] at q; cases q; exact new
  · rw [upd_ne hb] at q
    by_cases hbe : b = e
    · have q' : H b = some (.own x) := by
        rcases he with z | z
        · exact absurd (hbe.trans z) hb
        · rw [hbe]; exact z
      rw [q] at q'; cases q'
      obtain ⟨v, hv⟩ := heo
      exact ⟨v, by rw [hbe]; exact hv⟩
    · refine (ok b u q).stay (fun c v hc r => k c v ?_ r) (fun c r => by rw [upd_ne (nown c b r)]; exact r) fun c xs r => by rw [upd_ne (ntup c xs r)]; exact r
      rcases hc with rfl | hc
      · exact hbe
      · rintro rfl
        rcases he with z | z
        · exact nown c b hc z
        · rw [hc] at z; cases z; exact hb rfl
end

/-! ### kept unless tracked; of the frames at fs (the callers') the slots may change (an exception that passes writes there); of the records at ex (iterators) nothing is said -/
structure Un (fs ex : List Addr) (H H' : Hp) (h h' : Heap) : Prop where
  keep : ∀ b o, h.get? b = some o → H b = none → b ∉ fs → b ∉ ex → h'.get? b = some o
  slot : ∀ b o, h.get? b = some o → H b = none → b ∈ fs → b ∉ ex → ∃ sl, h'.get? b = some { o with slots := sl }
  free : ∀ b o, h.get? b = some o → H b = none → b ∉ ex → H' b = none
  there : ∀ b o, h.get? b = some o → b ∉ ex → ∃ o', h'.get? b = some o'
  tups : ∀ b xs, H b = some (.tup xs) → H' b = some (.tup xs)
  frzs : ∀ b o u, H b = some (.frz o u) → H' b = some (.frz o u)
  tbls : ∀ b ps, H b = some (.tbl ps) → ∃ more, H' b = some (.tbl (ps ++ more))
section
variable {fs fs' ex ex' : List Addr} {H H1 H2 : Hp} {h h1 h2 h' : Heap} {a x e : Addr} {o : HO}
theorem Un.any (u : Un fs ex H H1 h h1) {b : Addr} {ob : Obj} (q : h.get? b = some ob) (n : H b = none) (hx : b ∉ ex) : ∃ sl, h1.get? b = some { ob with slots := sl } := by
  by_cases hb : b ∈ fs
  · exact u.slot b ob q n hb hx
  · exact ⟨ob.slots, u.keep b ob q n hb hx⟩
theorem Un.trans (a : Un fs ex H H1 h h1) (b : Un fs ex H1 H2 h1 h2) : Un fs ex H H2 h h2 where
  keep := fun c ob q n hc hx => b.keep c ob (a.keep c ob q n hc hx) (a.free c ob q n hx) hc hx
  slot := fun c ob q n hc hx => by
    obtain ⟨sl, e1⟩ := a.slot c ob q n hc hx
    obtain ⟨sl', e2⟩ := b.slot c _ e1 (a.free c ob q n hx) hc hx
    exact ⟨sl', e2⟩
  free := fun c ob q n hx => by
    obtain ⟨o', e1⟩ := a.there c ob q hx
    exact b.free c o' e1 (a.free c ob q n hx) hx
  there := fun c ob q hx => by
    obtain ⟨o', e1⟩ := a.there c ob q hx
    exact b.there c o' e1 hx
  tups := fun c xs q => b.tups c xs (a.tups c xs q)
  frzs := fun c ob xs q => b.frzs c ob xs (a.frzs c ob xs q)
  tbls := fun c ps q => by
    obtain ⟨m1, e1⟩ := a.tbls c ps q
    obtain ⟨m2, e2⟩ := b.tbls c _ e1
    exact ⟨m1 ++ m2, by rw [e2, Array.append_assoc]⟩
theorem Un.kept (k : ∀ b u, h.get? b = some u → h'.get? b = some u) : Un fs ex H H h h' :=
  ⟨fun b ob q _ _ _ => k b ob q, fun b ob q _ _ _ => ⟨ob.slots, k b ob q⟩, fun _ _ _ n _ => n, fun b ob q _ => ⟨ob, k b ob q⟩, fun _ _ q => q, fun _ _ _ q => q, fun _ ps q => ⟨#[], by rw [q]; simp⟩⟩
theorem Un.refl : Un fs ex H H h h := Un.kept fun _ _ q => q
theorem Un.laid (k : ∀ b u, h.get? b = some u → h'.get? b = some u) (hp : h.objs.size ≤ a) (hn : H a = none) : Un fs ex H (upd H a o) h h' where
  keep := fun b u q _ _ _ => k b u q
  slot := fun b u q _ _ _ => ⟨u.slots, k b u q⟩
  free := fun b u q n _ => by rw [upd_ne (Nat.ne_of_lt (Nat.lt_of_lt_of_le (Heap.lt_size q) hp))]; exact n
  there := fun b u q _ => ⟨u, k b u q⟩
  tups := fun b xs q => by rw [upd_ne (ne_of_none q hn)]; exact q
  frzs := fun b u xs q => by rw [upd_ne (ne_of_none q hn)]; exact q
  tbls := fun b ps q => ⟨#[], by rw [upd_ne (ne_of_none q hn), q]; simp⟩
theorem Un.write (mu : Mut (H x)) (he : e = x ∨ H e = some (.own x)) (k : ∀ b u, b ≠ e → h.get? b = some u → h'.get? b = some u) (heo : ∃ u, h'.get? e = some u) : Un fs ex H (upd H x o) h h' := by
  have hx : ∀ b, H b = none → b ≠ x := fun b n z => by subst z; rw [n] at mu; exact mu
  have hb : ∀ b, H b = none → b ≠ e := fun b n z => by
    subst z
    rcases he with r | r
    · exact hx b n r
    · rw [n] at r; cases r
  have hm : ∀ b u, H b = some u → ¬ Mut (some u) → b ≠ x := fun b u q nm z => by subst z; rw [q] at mu; exact nm mu
  refine ⟨fun b u q n _ _ => k b u (hb b n) q, fun b u q n _ _ => ⟨u.slots, k b u (hb b n) q⟩, fun b u q n _ => by rw [upd_ne (hx b n)]; exact n, fun b u q _ => ?_,
    fun b xs q => by rw [upd_ne (hm b _ q fun z => z)]; exact q, fun b u xs q => by rw [upd_ne (hm b _ q fun z => z)]; exact q, fun b ps q => ⟨#[], by rw [upd_ne (hm b _ q fun z => z), q]; simp⟩⟩
  by_cases hbe : b = e
  · subst hbe; exact heo
  · exact ⟨u, k b u hbe q⟩
theorem Un.mono (u : Un fs ex H H1 h h1) (hs : ∀ b ∈ fs, b ∈ fs') (hx : ∀ b ∈ ex, b ∈ ex') : Un fs' ex' H H1 h h1 :=
  ⟨fun b ob q n hb he => u.keep b ob q n (fun z => hb (hs b z)) fun z => he (hx b z), fun _ _ q n _ he => u.any q n fun z => he (hx _ z), fun b ob q n he => u.free b ob q n fun z => he (hx b z), fun b ob q he => u.there b ob q fun z => he (hx b z), u.tups, u.frzs, u.tbls⟩
end

/-! ### the heap without what is tracked -/
def trk (h : Heap) (H : Hp) : List Addr := (List.range h.objs.size).filter fun a => (H a).isSome
def hidT (h : Heap) (H : Hp) : Heap := PySem.W.hideAll h (trk h H)
theorem hidT_size (h : Heap) (H : Hp) : (hidT h H).objs.size = h.objs.size := PySem.W.hideAll_size _ _
theorem hidT_get {h : Heap} {H : Hp} {b : Addr} {o : Obj} (e : h.get? b = some o) (n : H b = none) : (hidT h H).get? b = some o :=
  PySem.W.hideAll_get _ e fun hm => by
    have q : (H b).isSome = true := (List.mem_filter.mp hm).2
    rw [n] at q; simp at q
theorem of_hidT {h : Heap} {H : Hp} {b : Addr} {o : Obj} (e : (hidT h H).get? b = some o) : h.get? b = some o ∧ H b = none := by
  have e' : h.get? b = some o := PySem.W.of_hideAll (trk h H) e
  refine ⟨e', ?_⟩
  cases q : H b with
  | none => rfl
  | some x =>
    have hm : b ∈ trk h H := List.mem_filter.mpr ⟨List.mem_range.mpr (Heap.lt_size e'), by simp [q]⟩
    have z : (hidT h H).get? b = none := PySem.W.hideAll_none (trk h H) hm
    rw [z] at e; cases e

/-! ### OpenK's ledger, filled with every new object but one -/
def allNews (g h : Heap) (L : Addr) : List (Addr × Obj) := (List.range h.objs.size).filterMap fun a => if a = L ∨ (g.get? a).isSome = true then none else (h.get? a).map fun o => (a, o)
theorem mem_allNews {g h : Heap} {L a : Addr} {o : Obj} (h1 : a ≠ L) (h2 : g.get? a = none) (h3 : h.get? a = some o) : (a, o) ∈ allNews g h L :=
  List.mem_filterMap.mpr ⟨a, List.mem_range.mpr (Heap.lt_size h3), by simp [h1, h2, h3]⟩
theorem of_mem_allNews {g h : Heap} {L : Addr} {p : Addr × Obj} (hp : p ∈ allNews g h L) : p.1 ≠ L ∧ g.get? p.1 = none ∧ h.get? p.1 = some p.2 := by
  obtain ⟨b, _, e⟩ := List.mem_filterMap.mp hp
  split at e
  · cases e
  · rename_i hn
    cases q : h.get? b with
    | none => rw [q] at e; simp at e
    | some u =>
      rw [q] at e
      simp only [Option.map_some, Option.some.injEq] at e
      subst e
      refine ⟨fun z => hn (.inl z), ?_, q⟩
      show g.get? b = none
      cases r : g.get? b with
      | none => rfl
      | some v => exact (hn (.inr (by simp [r]))).elim
def rest (g h : Heap) (L d : Addr) : List (Addr × Obj) := (allNews g h L).filter fun p => decide (p.1 ≠ d)
theorem rest_ne {g h : Heap} {L d : Addr} : ∀ p ∈ rest g h L d, p.1 ≠ d := fun p hp => of_decide_eq_true (List.mem_filter.mp hp).2
theorem mem_rest {g h : Heap} {L d a : Addr} {o : Obj} (h1 : a ≠ L) (h2 : g.get? a = none) (h3 : h.get? a = some o) (h4 : a ≠ d) : (a, o) ∈ rest g h L d :=
  List.mem_filter.mpr ⟨mem_allNews h1 h2 h3, decide_eq_true h4⟩
theorem news_all {g h : Heap} {L : Addr} : News g L h (allNews g h L) := fun p hp => let ⟨a, b, c⟩ := of_mem_allNews hp; ⟨c, a, b⟩
theorem news_at {g h : Heap} {L d : Addr} {o : Obj} (h1 : d ≠ L) (h2 : g.get? d = none) (h3 : h.get? d = some o) : News g L h ((d, o) :: rest g h L d) := fun p hp => by
  rcases List.mem_cons.mp hp with rfl | hp
  · exact ⟨h3, h1, h2⟩
  · exact news_all p (List.mem_filter.mp hp).1
/-- behind a rule that changed d alone: all else but the frame is kept -/
theorem kept_of_news {g h h' : Heap} {L d : Addr} {m : Str → Option Value} (k : ∀ b o, g.get? b = some o → h.get? b = some o) (F : Fr g L h' m) (N : News g L h' (rest g h L d)) :
    ∀ b o, b ≠ L → b ≠ d → h.get? b = some o → h'.get? b = some o := fun b o h1 h2 e => by
  cases q : g.get? b with
  | some u =>
    have := k b u q
    rw [e] at this; cases this
    exact F.keep b _ q
  | none => exact (N (b, o) (mem_rest h1 q e h2)).1
end L2

namespace L2
open PySem PySem.Spec PyProof.Rows

/-- the module's facts, over the base: the heap at the law's entry without what is tracked there -/
structure Mod (K : PySem.W.Frag) (mg : Str → Option Value) (base : Heap) : Prop where
  kin : K.In base
  glob : base.Ns mainGlobals mg
  blt : ∃ mb, base.Ns builtinsNs mb ∧ ∀ x : Str, x ≠ "__name__" → mb x = bootBuiltins x
  nolimit : base.NoLimit

/-- the context: a def's body (or a comprehension's block) running. base: fixed through the whole law; s₀, H₀: the entry; outer: the frames whose slots others may change (a def's callers); stack: all frames that run;
   ex: iterators that were made ahead of the entry and are walked here (a comprehension's); fn: the names whose cells were made at the entry (a def: all; a comprehension's block: its own); calm: not within an except suite; pn: pins that every state bears; xe: what is wanted of an exception that leaves the code -/
structure Cx where
  prog : Program
  w : World
  K : PySem.W.Frag
  mg : Str → Option Value
  base : Heap
  A : Around
  N : List Str
  s₀ : Shared
  H₀ : Hp
  env : Env
  outer : List Env
  stack : List Env
  ex : List Addr
  fn : Str → Bool
  calm : Bool
  pn : List (Addr × Obj)
  xe : Value → Shared → Prop
/-- the callers' frames -/
def frs (l : List Env) : List Addr := l.filterMap (·.frame)
abbrev Cx.fs (X : Cx) : List Addr := frs X.outer

def Vis (sc : Scope) (x : Str) : Prop := sc.names.lookup x = some .local ∨ sc.names.lookup x = some .cell ∨ sc.names.lookup x = some .free
def Loc (sc : Scope) (x : Str) : Prop := sc.names.lookup x = some .local ∨ sc.names.lookup x = some .cell
def Look (env : Env) (h : Heap) (m : Str → Option Value) (x : Str) (u : Value) : Prop :=
  (env.kindOf x = some .local ∧ m x = some u) ∨ ((env.kindOf x = some .cell ∨ env.kindOf x = some .free) ∧ ∃ c, env.cells.lookup x = some c ∧ h.IsCell c (some u))

structure Cx.Ok (X : Cx) : Prop where
  mod : Mod X.K X.mg X.base
  kind : X.env.scope.kind = .function
  glob : X.env.globals = mainGlobals
  blt : X.env.builtins = builtinsNs
  above : X.s₀.heap.objs.size ≤ X.env.locals
  inj : ∀ x y c, X.env.cells.lookup x = some c → X.env.cells.lookup y = some c → x = y
  has : ∀ x, (X.env.kindOf x = some .cell ∨ X.env.kindOf x = some .free) → ∃ c, X.env.cells.lookup x = some c
  cab : ∀ x c, X.fn x = true → X.env.cells.lookup x = some c → X.s₀.heap.objs.size ≤ c
  hd : X.calm = true → X.A.handled = none
  frames : X.A.frames = some X.stack
  stk : X.stack = X.outer ∨ (X.stack = X.env :: X.outer ∧ X.env.frame = some X.env.locals)
  exf : ∀ b ∈ X.ex, b ≠ X.env.locals ∧ ∀ x c, X.env.cells.lookup x = some c → c ≠ b
  bs : ∀ b o, X.base.get? b = some o → X.s₀.heap.get? b = some o ∧ X.H₀ b = none
  bsz : X.base.objs.size ≤ X.s₀.heap.objs.size
  noex : ∀ b o, X.base.get? b = some o → b ∉ X.ex
  exfs : ∀ b ∈ X.ex, b ∉ X.fs
  funs : X.s₀.heap.FunFrames X.base X.outer
  frf : ∀ b ∈ X.fs, X.H₀ b = none

structure Inv (X : Cx) (pins : List (Addr × Obj)) (σ : List (Option V)) (H : Hp) (s : Shared) : Prop where
  ok : X.Ok
  os : s.os = X.s₀.os
  bare : AllBare s.gens
  base : Un X.fs X.ex X.H₀ H X.s₀.heap s.heap
  loc : ∃ m, s.heap.Ns X.env.locals m ∧ ∀ (i : Nat) (x : Str) (v : V), X.N[i]? = some x → σ[i]? = some (some v) → Vis X.env.scope x → ∃ u, RelV v u ∧ Look X.env s.heap m x u
  cell : ∀ x c, X.env.cells.lookup x = some c → ∃ v, s.heap.IsCell c v
  free : H X.env.locals = none
  freeC : ∀ x c, X.env.cells.lookup x = some c → H c = none
  pin : ∀ p ∈ X.pn ++ pins, s.heap.get? p.1 = some p.2 ∧ H p.1 = none ∧ p.1 ≠ X.env.locals ∧ p.1 ∉ X.fs ∧ ∀ v, p.2.data ≠ .cell v
  hok : HOk X.prog X.w H s.heap
  len : σ.length = X.N.length

section
variable {X : Cx} {pins : List (Addr × Obj)} {σ : List (Option V)} {H H' : Hp} {s : Shared} {h' : Heap}

theorem Cx.Ok.nofr (ok : X.Ok) {b : Addr} {o : Obj} (e : X.base.get? b = some o) : b ∉ X.fs := fun hb => by
  have := (ok.funs.mem hb).1
  rw [e] at this; cases this
theorem Inv.bs (I : Inv X pins σ H s) : ∀ b o, X.base.get? b = some o → s.heap.get? b = some o ∧ H b = none := fun b o e =>
  ⟨I.base.keep b o (I.ok.bs b o e).1 (I.ok.bs b o e).2 (I.ok.nofr e) (I.ok.noex b o e), I.base.free b o (I.ok.bs b o e).1 (I.ok.bs b o e).2 (I.ok.noex b o e)⟩
theorem Inv.bk (I : Inv X pins σ H s) : ∀ b o, X.base.get? b = some o → s.heap.get? b = some o := fun b o e => (I.bs b o e).1
theorem Inv.mod (I : Inv X pins σ H s) : Mod X.K X.mg X.base := I.ok.mod
theorem Inv.kIn (I : Inv X pins σ H s) : X.K.In s.heap := I.ok.mod.kin.keeps I.bk
theorem Inv.nolimit (I : Inv X pins σ H s) : s.heap.NoLimit := I.ok.mod.nolimit.keeps I.bk
/-- the frame over the base: for OpenK's rules (K.In X.base is I.mod.kin) -/
theorem Inv.fr (I : Inv X pins σ H s) : ∃ m, Fr X.base X.env.locals s.heap m :=
  let ⟨m, hn, _⟩ := I.loc
  ⟨m, hn, I.bk, Nat.le_trans I.ok.bsz I.ok.above⟩
theorem Inv.lt (I : Inv X pins σ H s) : X.env.locals < s.heap.objs.size := let ⟨_, hn, _⟩ := I.loc; hn.lt
theorem Inv.sz (I : Inv X pins σ H s) : X.s₀.heap.objs.size ≤ s.heap.objs.size := Nat.le_trans I.ok.above (Nat.le_of_lt I.lt)
theorem Inv.nofs (I : Inv X pins σ H s) {a : Addr} (h : s.heap.objs.size ≤ a) : a ∉ X.fs := fun hb => by
  obtain ⟨_, o, ho, _⟩ := I.ok.funs.mem hb
  exact absurd (Nat.lt_of_lt_of_le (Heap.lt_size ho) (Nat.le_trans I.sz h)) (Nat.lt_irrefl _)
theorem Inv.cne (I : Inv X pins σ H s) : ∀ x c, X.env.cells.lookup x = some c → c ≠ X.env.locals := fun x c e z => by
  obtain ⟨v, o, ho, hd⟩ := I.cell x c e
  obtain ⟨m, ⟨o', es, ep, ho', hd', _⟩, _⟩ := I.loc
  rw [z, ho'] at ho; cases ho; rw [hd'] at hd; cases hd
theorem Inv.funs (I : Inv X pins σ H s) : s.heap.FunFrames X.base X.outer := by
  have all : ∀ (l : List Env), (∀ b ∈ frs l, b ∈ X.fs) → X.s₀.heap.FunFrames X.base l → s.heap.FunFrames X.base l := by
    intro l
    induction l with
    | nil => intro _ _; trivial
    | cons env r ih =>
      intro hs hl
      obtain ⟨hk, ⟨L, o, hf, hn, ho, hd⟩, hr⟩ := hl
      have hL : L ∈ X.fs := hs L (by unfold frs; rw [List.filterMap_cons, hf]; exact List.mem_cons_self)
      obtain ⟨sl, e⟩ := I.base.slot L o ho (I.ok.frf L hL) hL fun z => I.ok.exfs L z hL
      exact ⟨hk, ⟨L, _, hf, hn, e, hd⟩, ih (fun b hb => hs b (by unfold frs; rw [List.filterMap_cons, hf]; exact List.mem_cons_of_mem _ hb)) hr⟩
  exact all X.outer (fun _ hb => hb) I.ok.funs

/-- the frames that run, for a call -/
theorem Inv.stack (I : Inv X pins σ H s) : s.heap.FunFrames X.base X.stack := by
  rcases I.ok.stk with e | ⟨e, hf⟩
  · rw [e]; exact I.funs
  · rw [e]
    obtain ⟨m, hn, _⟩ := I.loc
    refine .cons (by rw [I.ok.kind]; decide) hf hn ?_ I.funs
    exact Heap.get?_none_of_le (Nat.le_trans I.ok.bsz I.ok.above)
theorem Inv.stkSub (I : Inv X pins σ H s) : ∀ b ∈ frs X.stack, b ∈ X.env.locals :: X.fs := fun b hb => by
  rcases I.ok.stk with e | ⟨e, hf⟩
  · rw [e] at hb; exact List.mem_cons_of_mem _ hb
  · rw [e] at hb
    unfold frs at hb
    rw [List.filterMap_cons, hf] at hb
    exact hb
theorem Inv.stkFree (I : Inv X pins σ H s) : ∀ b ∈ frs X.stack, H b = none := fun b hb => by
  rcases List.mem_cons.mp (I.stkSub b hb) with e | hb
  · rw [e]; exact I.free
  · obtain ⟨_, o, ho, _⟩ := I.ok.funs.mem hb
    exact I.base.free b o ho (I.ok.frf b hb) fun z => I.ok.exfs b z hb

/-- THE STEP: the untracked objects but the frame and the records at ch are kept (the callers' frames up to slots), the frame's map is kept, the new abstract heap is held -/
theorem Inv.step {g' : Array GenState} {t' : Nat} {d' : Drawn} {ch : List Addr} (I : Inv X pins σ H s)
    (hch : ∀ b ∈ ch, (b ∈ X.ex ∨ X.s₀.heap.objs.size ≤ b) ∧ b ≠ X.env.locals ∧ (∀ x c, X.env.cells.lookup x = some c → c ≠ b) ∧ ∀ p ∈ X.pn ++ pins, p.1 ≠ b)
    (keep : ∀ b o, b ≠ X.env.locals → b ∉ X.fs → b ∉ ch → s.heap.get? b = some o → H b = none → h'.get? b = some o)
    (slot : ∀ b o, b ≠ X.env.locals → b ∈ X.fs → b ∉ ch → s.heap.get? b = some o → H b = none → ∃ sl, h'.get? b = some { o with slots := sl }) (free : ∀ b o, b ∉ ch → s.heap.get? b = some o → H b = none → H' b = none)
    (there : ∀ b o, b ∉ ch → s.heap.get? b = some o → ∃ o', h'.get? b = some o')
    (tups : ∀ b xs, H b = some (.tup xs) → H' b = some (.tup xs)) (frzs : ∀ b o u, H b = some (.frz o u) → H' b = some (.frz o u)) (tbls : ∀ b ps, H b = some (.tbl ps) → ∃ more, H' b = some (.tbl (ps ++ more)))
    (ns : ∀ m, s.heap.Ns X.env.locals m → h'.Ns X.env.locals m) (hok : HOk X.prog X.w H' h') (hg : AllBare g') :
    Inv X pins σ H' { s with heap := h', gens := g', drawn := d', toks := t' } := by
  have neL : ∀ b o, X.s₀.heap.get? b = some o → b ≠ X.env.locals := fun b o e => Nat.ne_of_lt (Nat.lt_of_lt_of_le (Heap.lt_size e) I.ok.above)
  have neC : ∀ b o, X.s₀.heap.get? b = some o → b ∉ X.ex → b ∉ ch := fun b o e hx hb => by
    rcases (hch b hb).1 with z | z
    · exact hx z
    · exact absurd (Nat.lt_of_lt_of_le (Heap.lt_size e) z) (Nat.lt_irrefl _)
  have cellK : ∀ x c, X.env.cells.lookup x = some c → ∀ v, s.heap.IsCell c v → h'.IsCell c v := fun x c e v ⟨o, ho, hd⟩ => by
    have nch : c ∉ ch := fun z => (hch c z).2.2.1 x c e rfl
    by_cases hc : c ∈ X.fs
    · obtain ⟨sl, q⟩ := slot c o (I.cne x c e) hc nch ho (I.freeC x c e)
      exact ⟨_, q, hd⟩
    · exact ⟨o, keep c o (I.cne x c e) hc nch ho (I.freeC x c e), hd⟩
  refine ⟨I.ok, I.os, hg, ⟨fun b o e n hb hx => ?_, fun b o e n hb hx => ?_, fun b o e n hx => ?_, fun b o e hx => ?_, fun b xs e => tups b xs (I.base.tups b xs e), fun b o xs e => frzs b o xs (I.base.frzs b o xs e), fun b ps e => ?_⟩, ?_, fun x c e => ?_, ?_, fun x c e => ?_, fun p hp => ?_, hok, I.len⟩
  · exact keep b o (neL b o e) hb (neC b o e hx) (I.base.keep b o e n hb hx) (I.base.free b o e n hx)
  · obtain ⟨sl, e1⟩ := I.base.slot b o e n hb hx
    obtain ⟨sl', e2⟩ := slot b _ (neL b o e) hb (neC b o e hx) e1 (I.base.free b o e n hx)
    exact ⟨sl', e2⟩
  · obtain ⟨o', e1⟩ := I.base.there b o e hx
    exact free b o' (neC b o e hx) e1 (I.base.free b o e n hx)
  · obtain ⟨o', e1⟩ := I.base.there b o e hx
    exact there b o' (neC b o e hx) e1
  · obtain ⟨m1, e1⟩ := I.base.tbls b ps e
    obtain ⟨m2, e2⟩ := tbls b _ e1
    exact ⟨m1 ++ m2, by rw [e2, Array.append_assoc]⟩
  · obtain ⟨m, hn, hl⟩ := I.loc
    refine ⟨m, ns m hn, fun i x v e1 e2 e3 => ?_⟩
    obtain ⟨u, r, l⟩ := hl i x v e1 e2 e3
    refine ⟨u, r, ?_⟩
    rcases l with l | ⟨k, c, e, z⟩
    · exact .inl l
    · exact .inr ⟨k, c, e, cellK x c e _ z⟩
  · obtain ⟨v, z⟩ := I.cell x c e
    exact ⟨v, cellK x c e v z⟩
  · obtain ⟨m, ⟨o, _, _, ho, _⟩, _⟩ := I.loc
    exact free _ o (fun z => (hch _ z).2.1 rfl) ho I.free
  · obtain ⟨v, o, ho, hd⟩ := I.cell x c e
    exact free c o (fun z => (hch c z).2.2.1 x c e rfl) ho (I.freeC x c e)
  · obtain ⟨e, n, ne, nf, d⟩ := I.pin p hp
    have nch : p.1 ∉ ch := fun z => (hch p.1 z).2.2.2 p hp rfl
    exact ⟨keep p.1 p.2 ne nf nch e n, free p.1 p.2 nch e n, ne, nf, d⟩
/-- .. where the frame's own object is kept too -/
theorem Inv.un {t' : Nat} (I : Inv X pins σ H s) (u : Un X.fs [] H H' s.heap h') (hok : HOk X.prog X.w H' h') : Inv X pins σ H' { s with heap := h', toks := t' } := by
  obtain ⟨m, ⟨o, es, ep, ho, r⟩, _⟩ := id I.loc
  obtain ⟨sl, hL⟩ := u.any ho I.free (by simp)
  exact I.step (g' := s.gens) (d' := s.drawn) (ch := []) (fun _ z => nomatch z) (fun b o _ hb _ e n => u.keep b o e n hb (by simp)) (fun b o _ hb _ e n => u.slot b o e n hb (by simp)) (fun b o _ e n => u.free b o e n (by simp)) (fun b o _ e => u.there b o e (by simp)) u.tups u.frzs u.tbls (fun m' hm => by
    obtain ⟨o', es', ep', ho', r'⟩ := hm
    rw [ho] at ho'; cases ho'
    exact ⟨_, es', ep', hL, r'⟩) hok I.bare
/-- behind a call (or a comprehension's block): the slots of this frame may have changed too, the records at ch may have turned -/
theorem Inv.call {g' : Array GenState} {t' : Nat} {d' : Drawn} {ch : List Addr} (I : Inv X pins σ H s) (u : Un (frs X.stack) ch H H' s.heap h') (hok : HOk X.prog X.w H' h') (hg : AllBare g')
    (hch : ∀ b ∈ ch, (b ∈ X.ex ∨ X.s₀.heap.objs.size ≤ b) ∧ b ≠ X.env.locals ∧ (∀ x c, X.env.cells.lookup x = some c → c ≠ b) ∧ ∀ p ∈ X.pn ++ pins, p.1 ≠ b) :
    Inv X pins σ H' { s with heap := h', gens := g', drawn := d', toks := t' } := by
  obtain ⟨m, ⟨o, es, ep, ho, r⟩, _⟩ := id I.loc
  obtain ⟨sl, hL⟩ := u.any ho I.free fun z => (hch _ z).2.1 rfl
  exact I.step (ch := ch) hch (fun b o hL hb hc e n => u.keep b o e n (fun z => (List.mem_cons.mp (I.stkSub b z)).elim hL hb) hc) (fun b o _ _ hc e n => u.any e n hc) (fun b o hc e n => u.free b o e n hc) (fun b o hc e => u.there b o e hc) u.tups u.frzs u.tbls (fun m' hm => by
    obtain ⟨o', es', ep', ho', r'⟩ := hm
    rw [ho] at ho'; cases ho'
    exact ⟨_, es', ep', hL, r'⟩) hok hg
/-- an untracked record of ours (an iterator) has turned -/
theorem Inv.turned {t' : Nat} {it : Addr} (I : Inv X pins σ H s) (k : ∀ b o, b ≠ it → s.heap.get? b = some o → h'.get? b = some o) (hn : H it = none) (hL : it ≠ X.env.locals)
    (h1 : it ∈ X.ex ∨ X.s₀.heap.objs.size ≤ it) (h2 : ∀ x c, X.env.cells.lookup x = some c → c ≠ it) (h3 : ∀ p ∈ X.pn ++ pins, p.1 ≠ it) : Inv X pins σ H { s with heap := h', toks := t' } := by
  have nit : ∀ b u, H b = some u → b ≠ it := fun b u e z => by rw [z, hn] at e; cases e
  refine I.step (g' := s.gens) (d' := s.drawn) (ch := [it]) (fun b hb => ?_) (fun b o _ _ hc e _ => k b o (fun z => hc (by simp [z])) e) (fun b o _ _ hc e _ => ⟨o.slots, k b o (fun z => hc (by simp [z])) e⟩) (fun _ _ _ _ n => n)
    (fun b o hc e => ⟨o, k b o (fun z => hc (by simp [z])) e⟩) (fun _ _ e => e) (fun _ _ _ e => e) (fun b ps e => ⟨#[], by rw [e]; simp⟩) (fun m hm => ?_) (fun b u e => ?_) I.bare
  · have e : b = it := by simpa using hb
    subst e
    exact ⟨h1, hL, h2, h3⟩
  · obtain ⟨o, es, ep, ho, r⟩ := hm
    exact ⟨o, es, ep, k _ o (Ne.symm hL) ho, r⟩
  · refine (I.hok b u e).stay (fun c v hc q => k c v ?_ q) (fun _ q => q) fun _ _ q => q
    rcases hc with z | z
    · rw [z]; exact nit b u e
    · exact nit c _ z
theorem Inv.tok (I : Inv X pins σ H s) (t : Nat) : Inv X pins σ H { s with toks := t } := I.un (h' := s.heap) (t' := t) Un.refl I.hok
/-- all objects kept -/
theorem Inv.kept {t' : Nat} (I : Inv X pins σ H s) (k : ∀ b u, s.heap.get? b = some u → h'.get? b = some u) : Inv X pins σ H { s with heap := h', toks := t' } := I.un (Un.kept k) (I.hok.kept k)
/-- a new object laid and tracked -/
theorem Inv.laid {a : Addr} {o : HO} {t' : Nat} (I : Inv X pins σ H s) (k : ∀ b u, s.heap.get? b = some u → h'.get? b = some u) (hp : s.heap.objs.size ≤ a) (new : ObjOk X.prog X.w (upd H a o) h' a o) :
    Inv X pins σ (upd H a o) { s with heap := h', toks := t' } := I.un (Un.laid k hp (I.hok.fresh hp)) (I.hok.laid k hp new)
/-- an object written -/
theorem Inv.write {x e : Addr} {o : HO} {t' : Nat} (I : Inv X pins σ H s) (mu : Mut (H x)) (he : e = x ∨ H e = some (.own x)) (k : ∀ b u, b ≠ e → s.heap.get? b = some u → h'.get? b = some u) (heo : ∃ u, h'.get? e = some u)
    (new : ObjOk X.prog X.w (upd H x o) h' x o) : Inv X pins σ (upd H x o) { s with heap := h', toks := t' } := I.un (Un.write mu he k heo) (I.hok.write mu he k heo new)
/-- forgetting slots, pins -/
theorem Inv.weak {σ' : List (Option V)} (I : Inv X pins σ H s) (hl : σ'.length = σ.length) (w : ∀ (i : Nat) v, σ'[i]? = some (some v) → σ[i]? = some (some v)) : Inv X pins σ' H s :=
  ⟨I.ok, I.os, I.bare, I.base, let ⟨m, hn, hl'⟩ := I.loc; ⟨m, hn, fun i x v e1 e2 e3 => hl' i x v e1 (w i v e2) e3⟩, I.cell, I.free, I.freeC, I.pin, I.hok, hl.trans I.len⟩
theorem Inv.pins_of {pins' : List (Addr × Obj)} (I : Inv X pins σ H s) (h : ∀ p ∈ pins', s.heap.get? p.1 = some p.2 ∧ H p.1 = none ∧ p.1 ≠ X.env.locals ∧ p.1 ∉ X.fs ∧ ∀ v, p.2.data ≠ .cell v) : Inv X pins' σ H s :=
  ⟨I.ok, I.os, I.bare, I.base, I.loc, I.cell, I.free, I.freeC, fun p hp => (List.mem_append.mp hp).elim (fun z => I.pin p (List.mem_append_left _ z)) (h p), I.hok, I.len⟩

theorem nodup_ix {N : List Str} (hN : N.Nodup) {i j : Nat} {x : Str} (a : N[i]? = some x) (b : N[j]? = some x) : i = j := by
  obtain ⟨h1, e1⟩ := List.getElem?_eq_some_iff.mp a
  obtain ⟨h2, e2⟩ := List.getElem?_eq_some_iff.mp b
  exact (List.getElem_inj hN).mp (e1.trans e2.symm)

/-- a name is stored; what changed -/
theorem store_ok2 {M : Model} {A : Around} {E : Value → Shared → Prop} {i : Nat} {x : Str} {v : V} {u : Value} {Q : Unit → Shared → Prop} (I : Inv X pins σ H s) (hN : X.N.Nodup) (hi : X.N[i]? = some x) (hx : Loc X.env.scope x) (r : RelV v u)
    (h : ∀ s', Inv X pins (σ.set i (some v)) H s' → (∃ a, Heap.SameBut a s.heap s'.heap ∧ (a = X.env.locals ∨ X.env.cells.lookup x = some a)) → Q () s') (hf : X.fn x = true ∨ X.env.scope.names.lookup x = some .local := by first | exact .inl rfl | exact .inr rfl | assumption) : wpAny M A (storeName X.env x u) Q E s := by
  obtain ⟨m, hn, hl⟩ := id I.loc
  have hcls : (X.env.scope.kind == .class || (X.env.scope.kind == .module && X.env.locals != X.env.globals)) = false := by rw [I.ok.kind]; rfl
  have hiσ : i < σ.length := by rw [I.len]; exact (List.getElem?_eq_some_iff.mp hi).1
  have cne := I.cne
  have tracked : ∀ {a : Addr} {h' : Heap}, (∃ o, s.heap.get? a = some o ∧ H a = none) → Heap.SameBut a s.heap h' → HOk X.prog X.w H h' := fun {a h'} ha hs b ob e => by
    obtain ⟨_, _, hfree⟩ := ha
    refine (I.hok b ob e).stay (fun c w' hc q => (hs.2 c ?_).trans q) (fun _ q => q) fun _ _ q => q
    rintro rfl
    rcases hc with rfl | hc
    · rw [hfree] at e; cases e
    · rw [hfree] at hc; cases hc
  rcases hx with hk | hk
  · refine wpAny_storeName_local hk hn (fun h' hn' hs => ?_) hcls
    obtain ⟨oL, _, _, hoL, _⟩ := id hn
    refine h _ ⟨I.ok, I.os, I.bare, ⟨fun b o e n hb hx => ?_, fun b o e n hb hx => ?_, I.base.free, fun b o e hx => ?_, I.base.tups, I.base.frzs, I.base.tbls⟩, ⟨_, hn', fun j y v' e1 e2 e3 => ?_⟩, fun y c e => ?_, I.free, I.freeC, fun p hp => ?_, tracked ⟨oL, hoL, I.free⟩ hs, by simpa using I.len⟩ ⟨_, hs, .inl rfl⟩
    · exact (hs.2 b (Nat.ne_of_lt (Nat.lt_of_lt_of_le (Heap.lt_size e) I.ok.above))).trans (I.base.keep b o e n hb hx)
    · obtain ⟨sl, e1⟩ := I.base.slot b o e n hb hx
      exact ⟨sl, (hs.2 b (Nat.ne_of_lt (Nat.lt_of_lt_of_le (Heap.lt_size e) I.ok.above))).trans e1⟩
    · obtain ⟨o', e1⟩ := I.base.there b o e hx
      exact ⟨o', (hs.2 b (Nat.ne_of_lt (Nat.lt_of_lt_of_le (Heap.lt_size e) I.ok.above))).trans e1⟩
    · by_cases hj : j = i
      · subst hj
        rw [hi] at e1; cases e1
        rw [List.getElem?_set_self hiσ] at e2
        cases e2
        exact ⟨u, r, .inl ⟨hk, by simp⟩⟩
      · rw [List.getElem?_set_ne (Ne.symm hj)] at e2
        obtain ⟨u', r', q⟩ := hl j y v' e1 e2 e3
        refine ⟨u', r', ?_⟩
        rcases q with ⟨k, e⟩ | ⟨k, c, e, z⟩
        · refine .inl ⟨k, ?_⟩
          have : y ≠ x := fun e => hj (nodup_ix hN e1 (e ▸ hi))
          simp [this, e]
        · exact .inr ⟨k, c, e, z.sameBut hs (cne y c e)⟩
    · obtain ⟨w', z⟩ := I.cell y c e
      exact ⟨w', z.sameBut hs (cne y c e)⟩
    · obtain ⟨e, n, ne, nf, d⟩ := I.pin p hp
      exact ⟨(hs.2 p.1 ne).trans e, n, ne, nf, d⟩
  · have hfn : X.fn x = true := by
      rcases hf with z | z
      · exact z
      · rw [z] at hk; cases hk
    obtain ⟨c, hc⟩ := I.ok.has x (.inl hk)
    obtain ⟨w', z⟩ := I.cell x c hc
    refine wpAny_storeName_cell I.ok.kind hk hc z (fun h' hc' hs => ?_)
    obtain ⟨oc, hoc, hocd⟩ := id z
    refine h { s with heap := h' } ⟨I.ok, I.os, I.bare, ⟨fun b o e n hb hx => ?_, fun b o e n hb hx => ?_, I.base.free, fun b o e hx => ?_, I.base.tups, I.base.frzs, I.base.tbls⟩, ⟨m, hn.sameBut hs (Ne.symm (cne x c hc)), fun j y v' e1 e2 e3 => ?_⟩, fun y c' e => ?_, I.free, I.freeC, fun p hp => ?_, tracked ⟨oc, hoc, I.freeC x c hc⟩ hs, by simpa using I.len⟩ ⟨c, hs, .inr hc⟩
    · exact (hs.2 b (Nat.ne_of_lt (Nat.lt_of_lt_of_le (Heap.lt_size e) (I.ok.cab x c hfn hc)))).trans (I.base.keep b o e n hb hx)
    · obtain ⟨sl, e1⟩ := I.base.slot b o e n hb hx
      exact ⟨sl, (hs.2 b (Nat.ne_of_lt (Nat.lt_of_lt_of_le (Heap.lt_size e) (I.ok.cab x c hfn hc)))).trans e1⟩
    · obtain ⟨o', e1⟩ := I.base.there b o e hx
      exact ⟨o', (hs.2 b (Nat.ne_of_lt (Nat.lt_of_lt_of_le (Heap.lt_size e) (I.ok.cab x c hfn hc)))).trans e1⟩
    · by_cases hj : j = i
      · subst hj
        rw [hi] at e1; cases e1
        rw [List.getElem?_set_self hiσ] at e2
        cases e2
        exact ⟨u, r, .inr ⟨.inl hk, c, hc, hc'⟩⟩
      · rw [List.getElem?_set_ne (Ne.symm hj)] at e2
        obtain ⟨u', r', q⟩ := hl j y v' e1 e2 e3
        refine ⟨u', r', ?_⟩
        rcases q with q | ⟨k, c', e, z'⟩
        · exact .inl q
        · refine .inr ⟨k, c', e, z'.sameBut hs ?_⟩
          rintro rfl
          exact hj (nodup_ix hN e1 (I.ok.inj _ _ _ e hc ▸ hi))
    · by_cases hcc : c' = c
      · subst hcc; exact ⟨_, hc'⟩
      · obtain ⟨w2, z2⟩ := I.cell y c' e
        exact ⟨w2, z2.sameBut hs hcc⟩
    · obtain ⟨e, n, ne, nf, d⟩ := I.pin p hp
      refine ⟨(hs.2 p.1 ?_).trans e, n, ne, nf, d⟩
      intro q
      rw [q, hoc] at e
      have q' : oc = p.2 := Option.some.inj e
      exact d w' (by rw [← q']; exact hocd)
theorem store_ok {M : Model} {A : Around} {E : Value → Shared → Prop} {i : Nat} {x : Str} {v : V} {u : Value} {Q : Unit → Shared → Prop} (I : Inv X pins σ H s) (hN : X.N.Nodup) (hi : X.N[i]? = some x) (hx : Loc X.env.scope x) (r : RelV v u)
    (h : ∀ s', Inv X pins (σ.set i (some v)) H s' → Q () s') (hf : X.fn x = true ∨ X.env.scope.names.lookup x = some .local := by first | exact .inl rfl | exact .inr rfl | assumption) : wpAny M A (storeName X.env x u) Q E s :=
  store_ok2 I hN hi hx r (fun s' I' _ => h s' I') hf
/-- behind a call or a block, the state as it is -/
theorem Inv.call' {s' : Shared} {ch : List Addr} (I : Inv X pins σ H s) (ho : s'.os = s.os) (u : Un (frs X.stack) ch H H' s.heap s'.heap) (hok : HOk X.prog X.w H' s'.heap) (hg : AllBare s'.gens)
    (hch : ∀ b ∈ ch, (b ∈ X.ex ∨ X.s₀.heap.objs.size ≤ b) ∧ b ≠ X.env.locals ∧ (∀ x c, X.env.cells.lookup x = some c → c ≠ b) ∧ ∀ p ∈ X.pn ++ pins, p.1 ≠ b) : Inv X pins σ H' s' := by
  obtain ⟨h', g', d', t', o'⟩ := s'
  have e : o' = s.os := ho
  subst e
  exact I.call (g' := g') (t' := t') (d' := d') u hok hg hch
end

/-! ### the judgements -/
/-- an exception: its class, its own dict's address (where it has one), the abstract heap behind it -/
abbrev XK := Value → Option Addr → Hp → Prop
abbrev St := List (Option V)
abbrev VK := V → Hp → Prop
/-- an expression's reading; a test's; an argument list's -/
abbrev TE := St → Hp → VK → Prop
abbrev TT := St → Hp → (Bool → Hp → Prop) → Prop
abbrev TA := St → Hp → (List V → Hp → Prop) → Prop
/-- what is wanted behind a statement -/
structure Ends where
  nx : St → Hp → Prop
  rt : VK
  bk : St → Hp → Prop := fun _ _ => False
  ct : St → Hp → Prop := fun _ _ => False
abbrev TS := Ends → St → Hp → Prop

def EP (X : Cx) (pins : List (Addr × Obj)) (σ : St) (Q : VK) (u : Value) (s' : Shared) : Prop := ∃ v H', Inv X pins σ H' s' ∧ RelV v u ∧ Q v H'
def TP (X : Cx) (pins : List (Addr × Obj)) (σ : St) (Q : Bool → Hp → Prop) (b : Bool) (s' : Shared) : Prop := ∃ H', Inv X pins σ H' s' ∧ Q b H'
def AP (X : Cx) (pins : List (Addr × Obj)) (σ : St) (Q : List V → Hp → Prop) (us : List Value) (s' : Shared) : Prop := ∃ vs H', Inv X pins σ H' s' ∧ Vals vs us ∧ Q vs H'
def SP (X : Cx) (pins : List (Addr × Obj)) (D : Ends) (f : Flow) (s' : Shared) : Prop :=
  match f with
  | .next => ∃ σ' H', Inv X pins σ' H' s' ∧ D.nx σ' H'
  | .brk => ∃ σ' H', Inv X pins σ' H' s' ∧ D.bk σ' H'
  | .cont => ∃ σ' H', Inv X pins σ' H' s' ∧ D.ct σ' H'
  | .ret u => ∃ v σ' H', Inv X pins σ' H' s' ∧ RelV v u ∧ D.rt v H'

def PE (X : Cx) (e : Expr) (t : TE) : Prop :=
  ∀ (pins : List (Addr × Obj)) (s : Shared) (σ : St) (H : Hp) (Q : VK), Inv X pins σ H s → t σ H Q → wpAny (model X.prog X.w) X.A (eval e X.env) (EP X pins σ Q) X.xe s
def PT (X : Cx) (e : Expr) (t : TT) : Prop :=
  ∀ (pins : List (Addr × Obj)) (s : Shared) (σ : St) (H : Hp) (Q : Bool → Hp → Prop), Inv X pins σ H s → t σ H Q → wpAny (model X.prog X.w) X.A (isTrue e X.env (eval e X.env)) (TP X pins σ Q) X.xe s
/-- a test whatever its 'whole' is (and, or) -/
def PW (X : Cx) (e : Expr) (t : TT) : Prop :=
  ∀ (whole : Sem Value) (pins : List (Addr × Obj)) (s : Shared) (σ : St) (H : Hp) (Q : Bool → Hp → Prop), Inv X pins σ H s → t σ H Q → wpAny (model X.prog X.w) X.A (isTrue e X.env whole) (TP X pins σ Q) X.xe s
theorem PW.pt {X : Cx} {e : Expr} {t : TT} (h : PW X e t) : PT X e t := h _
/-- an argument list (no star), from the left -/
def PA (X : Cx) (es : List Expr) (t : TA) : Prop :=
  ∀ (pos : Pos) (pins : List (Addr × Obj)) (s : Shared) (σ : St) (H : Hp) (Q : List V → Hp → Prop), Inv X pins σ H s → t σ H Q → wpAny (model X.prog X.w) X.A (spliced (backTo pos (starEach es X.env))) (AP X pins σ Q) X.xe s
def PS (X : Cx) (st : Stmt) (t : TS) : Prop :=
  ∀ (pins : List (Addr × Obj)) (s : Shared) (σ : St) (H : Hp) (D : Ends), Inv X pins σ H s → t D σ H → wpAny (model X.prog X.w) X.A (exec st X.env) (SP X pins D) X.xe s
def PSs (X : Cx) (st : List Stmt) (t : TS) : Prop :=
  ∀ (pins : List (Addr × Obj)) (s : Shared) (σ : St) (H : Hp) (D : Ends), Inv X pins σ H s → t D σ H → wpAny (model X.prog X.w) X.A (execs st X.env) (SP X pins D) X.xe s
/-- weaken the end -/
theorem thn {α : Type} {t : Sem α} {Q Q' : α → Shared → Prop} {M : Model} {A : Around} {E : Value → Shared → Prop} {s : Shared} (h : wpAny M A t Q E s) (hQ : ∀ a s, Q a s → Q' a s) : wpAny M A t Q' E s := wpAny_mono h hQ fun _ _ x => x
end L2

namespace L2
open PySem PySem.Spec PyProof.Rows
section
variable {X : Cx}

/-- two expressions in a row -/
theorem bin {a b : Expr} {ta tb : TE} (ha : PE X a ta) (hb : PE X b tb) {pins : List (Addr × Obj)} {s : Shared} {σ : St} {H : Hp} {R : V → V → Hp → Prop} (I : Inv X pins σ H s) (h : ta σ H fun x H1 => tb σ H1 fun y H2 => R x y H2)
    {α : Type} {Q : α → Shared → Prop} {f : Value → Value → Sem α}
    (hf : ∀ v u s2 x y H2, Inv X pins σ H2 s2 → RelV x v → RelV y u → R x y H2 → wpAny (model X.prog X.w) X.A (f v u) Q X.xe s2) :
    wpAny (model X.prog X.w) X.A (eval a X.env) (fun v s₁ => wpAny (model X.prog X.w) X.A (eval b X.env) (fun u s₂ => wpAny (model X.prog X.w) X.A (f v u) Q X.xe s₂) X.xe s₁) X.xe s := by
  refine thn (ha pins s σ H _ I h) fun v s1 ⟨x, H1, I1, r1, q1⟩ => ?_
  refine thn (hb pins s1 σ H1 _ I1 q1) fun u s2 ⟨y, H2, I2, r2, q2⟩ => ?_
  exact hf v u s2 x y H2 I2 r1 r2 q2

/-! ### names and constants -/
def tVar (i : Nat) : TE := fun σ H Q => ∃ v, σ[i]? = some (some v) ∧ Q v H
def tC (v : V) : TE := fun _ H Q => Q v H
theorem pe_var {i : Nat} {x : Str} {pos : Pos} (hN : X.N[i]? = some x) (hv : Vis X.env.scope x) (hd : (x == ("__debug__" : Str)) = false := by decide) (hcd : (x == ("__classdict__" : Str)) = false := by decide) : PE X (.Name x pos) (tVar i) := by
  intro pins s σ H Q I h
  obtain ⟨v, e, h⟩ := h
  obtain ⟨m, hn, hl⟩ := I.loc
  obtain ⟨u, r, l⟩ := hl i x v hN e hv
  have fin : EP X pins σ Q u s := ⟨v, H, I, r, h⟩
  rcases l with ⟨hk, hm⟩ | ⟨hk, c, hc, hcell⟩
  · exact wpAny_Name (wpAny_loadName_local I.ok.kind hk hn hm fin) hd
  · rcases hk with hk | hk
    · exact wpAny_Name (wpAny_loadName_cell I.ok.kind hk hc hcell fin) hd
    · exact wpAny_Name (wpAny_loadName_free I.ok.kind hk hc hcell fin hcd) hd
theorem pe_int {i j pos} : PE X (.Constant (.int i) j pos) (tC (.int i)) := fun _ _ _ H _ I h => wpAny_Constant_int ⟨.int i, H, I.tok _, ⟨_, rfl⟩, h⟩
theorem pe_bl {b j pos} : PE X (.Constant (.bool b) j pos) (tC (.bl b)) := fun _ _ _ H _ I h => Constant_bool ⟨.bl b, H, I, rfl, h⟩
theorem pe_non {j pos} : PE X (.Constant .none j pos) (tC .non) := fun _ _ _ H _ I h => Constant_none ⟨.non, H, I, rfl, h⟩
theorem pe_str {x j pos} : PE X (.Constant (.str x) j pos) (tC (.str x)) := fun _ _ _ H _ I h => Calls.Constant_str ⟨.str x, H, I.tok _, ⟨_, rfl⟩, h⟩

/-- a global name of the def -/
def Gl (X : Cx) (x : Str) : Prop := X.env.kindOf x = some .globalImplicit
theorem ld_glob {E : Value → Shared → Prop} {pins : List (Addr × Obj)} {s : Shared} {σ : St} {H : Hp} {x : Str} {u : Value} {pos : Pos} {Q : Value → Shared → Prop} (I : Inv X pins σ H s) (hg : Gl X x) (hm : X.mg x = some u) (h : Q u s)
    (hd : (x == ("__debug__" : Str)) = false := by decide) : wpAny (model X.prog X.w) X.A (eval (.Name x pos) X.env) Q E s :=
  Calls.Name_function_global I.ok.kind hg (Calls.loadGlobal_global (by rw [I.ok.glob]; exact I.mod.glob.keeps I.bk) hm h) hd
theorem ld_blt {E : Value → Shared → Prop} {pins : List (Addr × Obj)} {s : Shared} {σ : St} {H : Hp} {x : Str} {u : Value} {pos : Pos} {Q : Value → Shared → Prop} (I : Inv X pins σ H s) (hg : Gl X x) (hm : X.mg x = none) (hv : bootBuiltins x = some u) (h : Q u s)
    (hn : x ≠ "__name__" := by decide) (hd : (x == ("__debug__" : Str)) = false := by decide) : wpAny (model X.prog X.w) X.A (eval (.Name x pos) X.env) Q E s := by
  obtain ⟨mb, h1, h2⟩ := I.mod.blt
  exact Calls.Name_function_global I.ok.kind hg (Calls.loadGlobal_builtin (by rw [I.ok.glob]; exact I.mod.glob.keeps I.bk) hm (by rw [I.ok.blt]; exact h1.keeps I.bk) ((h2 x hn).trans hv) h) hd
/-- a module's constant, a class, a function, as a value -/
theorem pe_glob {x : Str} {v : V} {u : Value} {pos : Pos} (hg : Gl X x) (hm : X.mg x = some u) (r : RelV v u) (hd : (x == ("__debug__" : Str)) = false := by decide) : PE X (.Name x pos) (tC v) :=
  fun _ _ _ H _ I h => ld_glob I hg hm ⟨v, H, I, r, h⟩ hd
theorem pe_bltn {x : Str} {v : V} {u : Value} {pos : Pos} (hg : Gl X x) (hm : X.mg x = none) (hv : bootBuiltins x = some u) (r : RelV v u) (hn : x ≠ "__name__" := by decide) (hd : (x == ("__debug__" : Str)) = false := by decide) : PE X (.Name x pos) (tC v) :=
  fun _ _ _ H _ I h => ld_blt I hg hm hv ⟨v, H, I, r, h⟩ hn hd

/-! ### arithmetic -/
/-- two ints -/
def t2I (ta tb : TE) (k : Int → Int → Hp → Prop) : St → Hp → Prop := fun σ H => ta σ H fun x H1 => tb σ H1 fun y H2 => ∃ i j, x = .int i ∧ y = .int j ∧ k i j H2
def tAdd (ta tb : TE) : TE := fun σ H Q => t2I ta tb (fun i j H2 => Q (.int (i + j)) H2) σ H
def tSub (ta tb : TE) : TE := fun σ H Q => t2I ta tb (fun i j H2 => Q (.int (i - j)) H2) σ H
/-- the left factor below 2^64 -/
def tMul (ta tb : TE) : TE := fun σ H Q => t2I ta tb (fun i j H2 => (-(2 ^ 64) < i ∧ i < 2 ^ 64) ∧ Q (.int (i * j)) H2) σ H
variable {a b : Expr} {ta tb : TE} {pos : Pos}
theorem pe_add (ha : PE X a ta) (hb : PE X b tb) : PE X (.BinOp a .Add b pos) (tAdd ta tb) := by
  intro pins s σ H Q I h
  refine wpAny_BinOp (bin ha hb I h fun v u s2 x y H2 I2 rx ry q => ?_)
  obtain ⟨i, j, rfl, rfl, q⟩ := q
  obtain ⟨t, rfl⟩ := rx
  obtain ⟨t', rfl⟩ := ry
  exact add_int ⟨.int _, H2, I2.tok _, ⟨_, rfl⟩, q⟩
theorem pe_sub (ha : PE X a ta) (hb : PE X b tb) : PE X (.BinOp a .Sub b pos) (tSub ta tb) := by
  intro pins s σ H Q I h
  refine wpAny_BinOp (bin ha hb I h fun v u s2 x y H2 I2 rx ry q => ?_)
  obtain ⟨i, j, rfl, rfl, q⟩ := q
  obtain ⟨t, rfl⟩ := rx
  obtain ⟨t', rfl⟩ := ry
  exact sub_int ⟨.int _, H2, I2.tok _, ⟨_, rfl⟩, q⟩
theorem pe_mul (ha : PE X a ta) (hb : PE X b tb) : PE X (.BinOp a .Mult b pos) (tMul ta tb) := by
  intro pins s σ H Q I h
  refine wpAny_BinOp (bin ha hb I h fun v u s2 x y H2 I2 rx ry q => ?_)
  obtain ⟨i, j, rfl, rfl, ⟨q1, q2⟩, q⟩ := q
  obtain ⟨t, rfl⟩ := rx
  obtain ⟨t', rfl⟩ := ry
  exact mul_int ⟨.int _, H2, I2.tok _, ⟨_, rfl⟩, q⟩ (.of_left (intBits_le_64 q1 q2))

/-! ### comparisons -/
def PC (X : Cx) (op : CmpOp) (a b : Expr) (t : TE) : Prop :=
  ∀ (pins : List (Addr × Obj)) (s : Shared) (σ : St) (H : Hp) (Q : VK), Inv X pins σ H s → t σ H Q →
    wpAny (model X.prog X.w) X.A (eval a X.env) (fun v s₁ => wpAny (model X.prog X.w) X.A (eval b X.env) (fun u s₂ => wpAny (model X.prog X.w) X.A (compareOp op v u) (EP X pins σ Q) X.xe s₂) X.xe s₁) X.xe s
theorem nobehind (b : Expr) {op : CmpOp} (h : op ≠ .In) (h2 : op ≠ .NotIn) : behindInMarks op b = false := by
  have e1 : (op == CmpOp.In) = false := by cases op <;> first | rfl | exact absurd rfl h
  have e2 : (op == CmpOp.NotIn) = false := by cases op <;> first | rfl | exact absurd rfl h2
  cases b <;> simp [behindInMarks, e1, e2]
def tCmp (p : Int → Int → Bool) (ta tb : TE) : TE := fun σ H Q => t2I ta tb (fun i j H2 => Q (.bl (p i j)) H2) σ H
abbrev tLt : TE → TE → TE := tCmp fun i j => decide (i < j)
abbrev tLe : TE → TE → TE := tCmp fun i j => decide (i ≤ j)
abbrev tGt : TE → TE → TE := tCmp fun i j => decide (j < i)
abbrev tGe : TE → TE → TE := tCmp fun i j => decide (j ≤ i)
abbrev tEqI : TE → TE → TE := tCmp fun i j => decide (i = j)
abbrev tNeI : TE → TE → TE := tCmp fun i j => !decide (i = j)
/-- a comparison of two ints, by its rule -/
theorem pc_int {op : CmpOp} {p : Int → Int → Bool} (ha : PE X a ta) (hb : PE X b tb)
    (rule : ∀ (i j : Int) (t u : Tok) (Q : Value → Shared → Prop) (s : Shared), Q (.bool (p i j)) s → wpAny (model X.prog X.w) X.A (compareOp op (.int i t) (.int j u)) Q X.xe s) : PC X op a b (tCmp p ta tb) := by
  intro pins s σ H Q I h
  refine bin ha hb I h fun v u s2 x y H2 I2 rx ry q => ?_
  obtain ⟨i, j, rfl, rfl, q⟩ := q
  obtain ⟨t, rfl⟩ := rx
  obtain ⟨t', rfl⟩ := ry
  exact rule i j t t' _ s2 ⟨.bl _, H2, I2, rfl, q⟩
theorem pc_lt (ha : PE X a ta) (hb : PE X b tb) : PC X .Lt a b (tLt ta tb) := pc_int ha hb fun _ _ _ _ _ _ h => lt_int h
theorem pc_le (ha : PE X a ta) (hb : PE X b tb) : PC X .LtE a b (tLe ta tb) := pc_int ha hb fun _ _ _ _ _ _ h => le_int h
theorem pc_gt (ha : PE X a ta) (hb : PE X b tb) : PC X .Gt a b (tGt ta tb) := pc_int ha hb fun _ _ _ _ _ _ h => gt_int h
theorem pc_ge (ha : PE X a ta) (hb : PE X b tb) : PC X .GtE a b (tGe ta tb) := pc_int ha hb fun _ _ _ _ _ _ h => ge_int h
theorem pc_eqI (ha : PE X a ta) (hb : PE X b tb) : PC X .Eq a b (tEqI ta tb) := pc_int ha hb fun _ _ _ _ _ _ h => eq_int (by rw [Bool.beq_eq_decide_eq]; exact h)
theorem pc_neI (ha : PE X a ta) (hb : PE X b tb) : PC X .NotEq a b (tNeI ta tb) := pc_int ha hb fun _ _ _ _ _ _ h => ne_int (by rw [bne, Bool.beq_eq_decide_eq]; exact h)
/-- is None -/
def tIsN (ta : TE) : TE := fun σ H Q => ta σ H fun x H1 => Q (.bl (decide (x = .non))) H1
def tNotN (ta : TE) : TE := fun σ H Q => ta σ H fun x H1 => Q (.bl (!decide (x = .non))) H1
theorem RelV.none_iff {x : V} {v : Value} (r : RelV x v) : (v == Value.none) = decide (x = .non) := by
  cases x with
  | non => cases r; rfl
  | bl _ => cases r; rfl
  | int _ => obtain ⟨t, rfl⟩ := r; rfl
  | str _ => obtain ⟨t, rfl⟩ := r; rfl
  | byt _ => obtain ⟨t, rfl⟩ := r; rfl
  | flt _ => obtain ⟨t, rfl⟩ := r; rfl
  | ref _ => cases r; rfl
  | ty _ => cases r; rfl
theorem pc_isN {j pos'} (ha : PE X a ta) : PC X .Is a (.Constant .none j pos') (tIsN ta) := by
  intro pins s σ H Q I h
  refine thn (ha pins s σ H _ I h) fun v s1 ⟨x, H1, I1, r1, q1⟩ => ?_
  exact Constant_none (is_none_gen ⟨.bl _, H1, I1, by rw [r1.none_iff]; rfl, q1⟩)
theorem pc_notN {j pos'} (ha : PE X a ta) : PC X .IsNot a (.Constant .none j pos') (tNotN ta) := by
  intro pins s σ H Q I h
  refine thn (ha pins s σ H _ I h) fun v s1 ⟨x, H1, I1, r1, q1⟩ => ?_
  exact Constant_none (isnot_none_gen ⟨.bl _, H1, I1, by rw [r1.none_iff]; rfl, q1⟩)
/-- a comparison as a value, as a test -/
def tB (t : TE) : TT := fun σ H Q => t σ H fun x H1 => ∃ c, x = .bl c ∧ Q c H1
theorem pe_cmp {op : CmpOp} {t : TE} (h : PC X op a b t) (h1 : behindInMarks op b = false := by first | exact nobehind _ (by decide) (by decide) | rfl) : PE X (.Compare a [op] [b] pos) t := fun pins s σ H Q I hw => wpAny_Compare1 (h pins s σ H Q I hw) h1
theorem pt_cmp {op : CmpOp} {t : TE} (h : PC X op a b t) (h1 : behindInMarks op b = false := by first | exact nobehind _ (by decide) (by decide) | rfl) : PT X (.Compare a [op] [b] pos) (tB t) := by
  intro pins s σ H Q I hw
  refine wpAny_isTrue_Compare1 (thn (h pins s σ H _ I hw) fun v s1 h1 => thn h1 fun u s2 h2 => thn h2 fun c s3 ⟨x, H1, I1, r1, q1⟩ => ?_) h1
  obtain ⟨d, rfl, q⟩ := q1
  cases r1
  exact wpAny_truthy_bool ⟨H1, I1, q⟩
/-- an expression whose value is a bool, as a test -/
theorem pt_val {e : Expr} {t : TE} (h : PE X e t) (he : ∀ whole, isTrue e X.env whole = (do let v ← whole; standAt e.pos; holding [v] (truthy v)) := by intro _; rfl) : PT X e (tB t) := by
  intro pins s σ H Q I hw
  refine isTrue_plain (thn (h pins s σ H _ I hw) fun v s1 ⟨x, H1, I1, r1, q1⟩ => ?_) (he _)
  obtain ⟨d, rfl, q⟩ := q1
  cases r1
  exact wpAny_truthy_bool ⟨H1, I1, q⟩

/-! ### and, or, not -/
variable {tA tB' : TT} {rest : List Expr}
def tAnd (t u : TT) : TT := fun σ H Q => t σ H fun c H1 => if c = true then u σ H1 Q else Q false H1
def tOr (t u : TT) : TT := fun σ H Q => t σ H fun c H1 => if c = true then Q true H1 else u σ H1 Q
def tNot (t : TT) : TT := fun σ H Q => t σ H fun c H1 => Q (!c) H1
theorem pw_and1 (ha : PT X a tA) : PW X (.BoolOp .And [a] pos) tA := by
  intro wh pins s σ H Q I h
  refine isTrue_and (thn (ha pins s σ H Q I h) fun c s1 e => ?_)
  cases c with
  | true => exact isTrue_and_nil e
  | false => exact e
theorem pw_or1 (ha : PT X a tA) : PW X (.BoolOp .Or [a] pos) tA := by
  intro wh pins s σ H Q I h
  refine isTrue_or (thn (ha pins s σ H Q I h) fun c s1 e => ?_)
  cases c with
  | false => exact isTrue_or_nil e
  | true => exact e
theorem pw_and (ha : PT X a tA) (hb : PW X (.BoolOp .And (b :: rest) pos) tB') : PW X (.BoolOp .And (a :: b :: rest) pos) (tAnd tA tB') := by
  intro wh pins s σ H Q I h
  refine isTrue_and (thn (ha pins s σ H _ I h) fun c s1 ⟨H1, I1, q1⟩ => ?_)
  cases c with
  | true => exact hb wh pins s1 σ H1 Q I1 q1
  | false => exact ⟨H1, I1, q1⟩
theorem pw_or (ha : PT X a tA) (hb : PW X (.BoolOp .Or (b :: rest) pos) tB') : PW X (.BoolOp .Or (a :: b :: rest) pos) (tOr tA tB') := by
  intro wh pins s σ H Q I h
  refine isTrue_or (thn (ha pins s σ H _ I h) fun c s1 ⟨H1, I1, q1⟩ => ?_)
  cases c with
  | true => exact ⟨H1, I1, q1⟩
  | false => exact hb wh pins s1 σ H1 Q I1 q1
theorem pt_not (ha : PT X a tA) : PT X (.UnaryOp .Not a pos) (tNot tA) := by
  intro pins s σ H Q I h
  exact isTrue_not (ha pins s σ H (fun c H1 => Q (!c) H1) I h)
/-- .. as values (bools) -/
def tAndV (ta tb : TE) : TE := fun σ H Q => ta σ H fun x H1 => ∃ c, x = .bl c ∧ if c = true then tb σ H1 Q else Q (.bl false) H1
def tOrV (ta tb : TE) : TE := fun σ H Q => ta σ H fun x H1 => ∃ c, x = .bl c ∧ if c = true then Q (.bl true) H1 else tb σ H1 Q
def tNotV (ta : TE) : TE := fun σ H Q => ta σ H fun x H1 => ∃ c, x = .bl c ∧ Q (.bl (!c)) H1
theorem pe_one {op} {t : TE} (h : PE X a t) : PE X (.BoolOp op [a] pos) t := fun pins s σ H Q I hw => BoolOp_one (h pins s σ H Q I hw)
theorem pe_and (ha : PE X a ta) (hb : PE X (.BoolOp .And (b :: rest) pos) tb) : PE X (.BoolOp .And (a :: b :: rest) pos) (tAndV ta tb) := by
  intro pins s σ H Q I h
  refine BoolOp_and (thn (ha pins s σ H _ I h) fun v s1 ⟨x, H1, I1, r1, q1⟩ => ?_)
  obtain ⟨c, rfl, q1⟩ := q1
  cases r1
  refine wpAny_truthy_bool ?_
  cases c with
  | true => exact hb pins s1 σ H1 Q I1 q1
  | false => exact ⟨.bl false, H1, I1, rfl, q1⟩
theorem pe_or (ha : PE X a ta) (hb : PE X (.BoolOp .Or (b :: rest) pos) tb) : PE X (.BoolOp .Or (a :: b :: rest) pos) (tOrV ta tb) := by
  intro pins s σ H Q I h
  refine BoolOp_or (thn (ha pins s σ H _ I h) fun v s1 ⟨x, H1, I1, r1, q1⟩ => ?_)
  obtain ⟨c, rfl, q1⟩ := q1
  cases r1
  refine wpAny_truthy_bool ?_
  cases c with
  | false => exact hb pins s1 σ H1 Q I1 q1
  | true => exact ⟨.bl true, H1, I1, rfl, q1⟩
theorem pe_not (ha : PE X a ta) : PE X (.UnaryOp .Not a pos) (tNotV ta) := by
  intro pins s σ H Q I h
  refine UnaryOp_ (thn (ha pins s σ H _ I h) fun v s1 ⟨x, H1, I1, r1, q1⟩ => ?_)
  obtain ⟨c, rfl, q1⟩ := q1
  cases r1
  exact not_of (wpAny_truthy_bool ⟨.bl (!c), H1, I1, rfl, q1⟩)
/-- a if t else b -/
def tIf (t : TT) (ta tb : TE) : TE := fun σ H Q => t σ H fun c H1 => if c = true then ta σ H1 Q else tb σ H1 Q
theorem pe_ifExp {c : Expr} (hc : PT X c tA) (ha : PE X a ta) (hb : PE X b tb) : PE X (.IfExp c a b pos) (tIf tA ta tb) := by
  intro pins s σ H Q I h
  refine wpAny_IfExp (thn (hc pins s σ H _ I h) fun d s1 ⟨H1, I1, q1⟩ => ?_)
  cases d with
  | true => exact ha pins s1 σ H1 Q I1 q1
  | false => exact hb pins s1 σ H1 Q I1 q1
end
end L2

namespace L2
open PySem PySem.Spec PyProof.Rows

/-! ### a list, a tuple that is read: tracked, frozen, or an object of the module -/
def SqL (K : PySem.W.Frag) (H : Hp) (a : Addr) (xs : List V) : Prop :=
  Rd H a (.lst xs) ∨
    ∃ (o : Obj) (its : Array Value) (n : Nat), K.lookup a = some o ∧ o.cls = .type "list" ∧ o.dict = none ∧ o.data = .seq its n ∧ its.size ≤ sizeLine ∧ Vals xs its.toList
def SqT (K : PySem.W.Frag) (H : Hp) (a : Addr) (xs : List V) : Prop :=
  Rd H a (.tup xs) ∨
    ∃ (o : Obj) (its : Array Value) (n : Nat), K.lookup a = some o ∧ o.cls = .type "tuple" ∧ o.data = .seq its n ∧ its.size ≤ sizeLine ∧ Vals xs its.toList
def absV : Value → Option V
  | .none => some .non
  | .bool b => some (.bl b)
  | .int i _ => some (.int i)
  | .str x _ => some (.str x)
  | .bytes b _ => some (.byt b)
  | .float b _ => some (.flt b)
  | .ref a => some (.ref a)
  | .type n => some (.ty n)
  | _ => none
theorem RelV.abs {x : V} {u : Value} (r : RelV x u) : absV u = some x := by
  cases x with
  | non => cases r; rfl
  | bl _ => cases r; rfl
  | int _ => obtain ⟨t, rfl⟩ := r; rfl
  | str _ => obtain ⟨t, rfl⟩ := r; rfl
  | byt _ => obtain ⟨t, rfl⟩ := r; rfl
  | flt _ => obtain ⟨t, rfl⟩ := r; rfl
  | ref _ => cases r; rfl
  | ty _ => cases r; rfl
theorem RelV.inj {x y : V} {u : Value} (r : RelV x u) (q : RelV y u) : x = y := Option.some.inj (r.abs.symm.trans q.abs)
theorem Vals.inj : ∀ {xs ys : List V} {us : List Value}, Vals xs us → Vals ys us → xs = ys
  | _, _, _, .nil, .nil => rfl
  | _, _, _, .cons r t, .cons r' t' => by rw [r.inj r', Vals.inj t t']
section
variable {X : Cx} {pins : List (Addr × Obj)} {σ : St} {H : Hp} {s : Shared} {a : Addr} {xs ys : List V}
theorem SqL.of {K : PySem.W.Frag} (h : H a = some (.lst xs)) : SqL K H a xs := .inl (.inl h)
theorem SqT.of {K : PySem.W.Frag} (h : H a = some (.tup xs)) : SqT K H a xs := .inl (.inl h)
theorem Inv.list (I : Inv X pins σ H s) (h : SqL X.K H a xs) : ∃ its : List Value, Vals xs its ∧ PlainL s.heap a its.toArray ∧ xs.length ≤ sizeLine := by
  rcases h with h | ⟨o, its, n, hk, hc, hd, hs, hz, r⟩
  · obtain ⟨z, its, n, r, e⟩ := h.ok I.hok
    exact ⟨its, r, ⟨_, n, e, rfl, rfl, rfl⟩, z⟩
  · refine ⟨its.toList, r, ⟨o, n, I.kIn a o hk, hc, hd, by simpa using hs⟩, ?_⟩
    have e := r.length
    simp only [Array.length_toList] at e
    omega
theorem Inv.tuple (I : Inv X pins σ H s) (h : SqT X.K H a xs) : ∃ its : List Value, Vals xs its ∧ IsTup s.heap a its.toArray ∧ xs.length ≤ sizeLine := by
  rcases h with h | ⟨o, its, n, hk, hc, hs, hz, r⟩
  · obtain ⟨z, its, r, p⟩ := h.ok I.hok
    exact ⟨its, r, p, z⟩
  · refine ⟨its.toList, r, ⟨o, I.kIn a o hk, hc, n, by simpa using hs⟩, ?_⟩
    have e := r.length
    simp only [Array.length_toList] at e
    omega
theorem Inv.list_inj (I : Inv X pins σ H s) (h : SqL X.K H a xs) (h' : SqL X.K H a ys) : xs = ys := by
  obtain ⟨its, r, ⟨o, n, e, _, _, d⟩, _⟩ := I.list h
  obtain ⟨its', r', ⟨o', n', e', _, _, d'⟩, _⟩ := I.list h'
  rw [e] at e'; cases e'
  rw [d] at d'
  injection d' with d1 _
  have : its = its' := by simpa using congrArg Array.toList d1
  subst this
  exact r.inj r'
theorem Inv.tuple_inj (I : Inv X pins σ H s) (h : SqT X.K H a xs) (h' : SqT X.K H a ys) : xs = ys := by
  obtain ⟨its, r, ⟨o, e, _, n, d⟩, _⟩ := I.tuple h
  obtain ⟨its', r', ⟨o', e', _, n', d'⟩, _⟩ := I.tuple h'
  rw [e] at e'; cases e'
  rw [d] at d'
  injection d' with d1 _
  have : its = its' := by simpa using congrArg Array.toList d1
  subst this
  exact r.inj r'
end

/-! ### another wish about exceptions -/
abbrev Cx.wish (X : Cx) (E : Value → Shared → Prop) : Cx := { X with xe := E }
/-- no exception leaves -/
abbrev Cx.nox (X : Cx) : Cx := X.wish fun _ _ => False
theorem Cx.Ok.wish {X : Cx} (ok : X.Ok) (E : Value → Shared → Prop) : (X.wish E).Ok :=
  ⟨ok.mod, ok.kind, ok.glob, ok.blt, ok.above, ok.inj, ok.has, ok.cab, ok.hd, ok.frames, ok.stk, ok.exf, ok.bs, ok.bsz, ok.noex, ok.exfs, ok.funs, ok.frf⟩
theorem Cx.Ok.unwish {X : Cx} {E : Value → Shared → Prop} (ok : (X.wish E).Ok) : X.Ok :=
  ⟨ok.mod, ok.kind, ok.glob, ok.blt, ok.above, ok.inj, ok.has, ok.cab, ok.hd, ok.frames, ok.stk, ok.exf, ok.bs, ok.bsz, ok.noex, ok.exfs, ok.funs, ok.frf⟩
section
variable {X : Cx} {pins : List (Addr × Obj)} {σ : St} {H : Hp} {s : Shared} {E : Value → Shared → Prop}
theorem Inv.wish (I : Inv X pins σ H s) (E : Value → Shared → Prop) : Inv (X.wish E) pins σ H s := ⟨I.ok.wish E, I.os, I.bare, I.base, I.loc, I.cell, I.free, I.freeC, I.pin, I.hok, I.len⟩
theorem Inv.unwish (I : Inv (X.wish E) pins σ H s) : Inv X pins σ H s := ⟨I.ok.unwish, I.os, I.bare, I.base, I.loc, I.cell, I.free, I.freeC, I.pin, I.hok, I.len⟩
theorem SP.unwish {D : Ends} {f : Flow} {s' : Shared} (h : SP (X.wish E) pins D f s') : SP X pins D f s' := by
  cases f with
  | next => obtain ⟨σ', H', I, q⟩ := h; exact ⟨σ', H', I.unwish, q⟩
  | brk => obtain ⟨σ', H', I, q⟩ := h; exact ⟨σ', H', I.unwish, q⟩
  | cont => obtain ⟨σ', H', I, q⟩ := h; exact ⟨σ', H', I.unwish, q⟩
  | ret u => obtain ⟨v, σ', H', I, r, q⟩ := h; exact ⟨v, σ', H', I.unwish, r, q⟩
theorem PE.nox {e : Expr} {t : TE} (h : PE X.nox e t) : PE X e t := fun pins s σ H Q I hw =>
  wpAny_mono (h pins s σ H Q (I.wish _) hw) (fun _ _ ⟨v, H', I', r, q⟩ => ⟨v, H', I'.unwish, r, q⟩) fun _ _ z => False.elim z
theorem PT.nox {e : Expr} {t : TT} (h : PT X.nox e t) : PT X e t := fun pins s σ H Q I hw =>
  wpAny_mono (h pins s σ H Q (I.wish _) hw) (fun _ _ ⟨H', I', q⟩ => ⟨H', I'.unwish, q⟩) fun _ _ z => False.elim z
theorem PSs.nox {st : List Stmt} {t : TS} (h : PSs X.nox st t) : PSs X st t := fun pins s σ H D I hw =>
  wpAny_mono (h pins s σ H D (I.wish _) hw) (fun _ _ q => q.unwish) fun _ _ z => False.elim z
end

/-! ### blocks and small statements -/
section
variable {X : Cx} {st : Stmt} {rest : List Stmt} {t u : TS} {e : Expr} {te : TE} {pos : Pos}
def tNext : TS := fun D σ H => D.nx σ H
def tSeq (t u : TS) : TS := fun D σ H => t { D with nx := u D } σ H
theorem pss_nil : PSs X [] tNext := fun _ _ σ H _ I h => wpAny_execs_nil ⟨σ, H, I, h⟩
theorem pss_cons (h1 : PS X st t) (h2 : PSs X rest u) : PSs X (st :: rest) (tSeq t u) := by
  intro pins s σ H D I h
  refine wpAny_execs_cons (thn (h1 pins s σ H { D with nx := u D } I h) fun f s1 q => ?_)
  cases f with
  | next =>
    obtain ⟨σ', H', I', q⟩ := q
    exact h2 pins s1 σ' H' D I' q
  | ret v => exact q
  | brk => exact q
  | cont => exact q
theorem pss_one (h1 : PS X st t) : PSs X [st] t := by
  intro pins s σ H D I h
  refine wpAny_execs_cons (thn (h1 pins s σ H D I h) fun f s1 q => ?_)
  cases f with
  | next => exact wpAny_execs_nil q
  | ret v => exact q
  | brk => exact q
  | cont => exact q
def tBreak : TS := fun D σ H => D.bk σ H
def tCont : TS := fun D σ H => D.ct σ H
theorem ps_pass : PS X (.Pass pos) tNext := fun _ _ σ H _ I h => wpAny_Pass ⟨σ, H, I, h⟩
theorem ps_break : PS X (.Break pos) tBreak := fun _ _ σ H _ I h => wpAny_Break ⟨σ, H, I, h⟩
theorem ps_continue : PS X (.Continue pos) tCont := fun _ _ σ H _ I h => wpAny_Continue ⟨σ, H, I, h⟩
/-- in a def's body nothing is shown -/
theorem Inv.quiet {pins : List (Addr × Obj)} {σ : St} {H : Hp} {s : Shared} (I : Inv X pins σ H s) : interactive X.env = false := by simp [interactive, I.ok.kind]
/-- a docstring -/
theorem ps_doc {x j pos pos'} : PS X (.Expr (.Constant (.str x) j pos) pos') tNext := fun _ s σ H _ I h => wpAny_Expr (Calls.Constant_str (show SP X _ _ .next { s with toks := s.toks + 1 } from ⟨σ, H, I.tok _, h⟩)) I.quiet
/-- an expression whose value is dropped -/
def tDrop (te : TE) : TS := fun D σ H => te σ H fun _ H1 => D.nx σ H1
theorem ps_expr (he : PE X e te) (hs : swapsWith e none pos.line X.env = pure false := by rfl) : PS X (.Expr e pos) (tDrop te) := by
  intro pins s σ H D I h
  exact wpAny_Expr_any (thn (he pins s σ H _ I h) fun v s1 ⟨x, H1, I1, r1, q1⟩ => ⟨σ, H1, I1, q1⟩) I.quiet hs
def tRet (te : TE) : TS := fun D σ H => te σ H D.rt
theorem ps_ret (he : PE X e te) : PS X (.Return (some e) pos) (tRet te) := by
  intro pins s σ H D I h
  exact wpAny_Return_some (thn (he pins s σ H _ I h) fun v s1 ⟨x, H1, I1, r1, q1⟩ => ⟨x, σ, H1, I1, r1, q1⟩)
def tRetN : TS := fun D _ H => D.rt .non H
theorem ps_retN : PS X (.Return none pos) tRetN := fun _ _ σ H _ I h => wpAny_Return_none ⟨.non, σ, H, I, rfl, h⟩
def tIfS (c : TT) (t u : TS) : TS := fun D σ H => c σ H fun b H1 => if b = true then t D σ H1 else u D σ H1
theorem ps_if {c : Expr} {a b : List Stmt} {tc : TT} (hc : PT X c tc) (ha : PSs X a t) (hb : PSs X b u) : PS X (.If c a b pos) (tIfS tc t u) := by
  intro pins s σ H D I h
  refine wpAny_If (thn (hc pins s σ H _ I h) fun d s1 ⟨H1, I1, q1⟩ => ?_)
  cases d with
  | true => exact ha pins s1 σ H1 D I1 q1
  | false => exact hb pins s1 σ H1 D I1 q1
/-- code that the proof never comes to -/
def tNever : TS := fun _ _ _ => False
theorem ps_never : PS X st tNever := fun _ _ _ _ _ _ h => h.elim
theorem pss_never {sts : List Stmt} : PSs X sts tNever := fun _ _ _ _ _ _ h => h.elim
end

/-! ### targets -/
abbrev TG := V → St → Hp → (St → Hp → Prop) → Prop
abbrev TGs := List V → St → Hp → (St → Hp → Prop) → Prop
def PG (X : Cx) (target : Expr) (t : TG) : Prop :=
  ∀ (pins : List (Addr × Obj)) (s : Shared) (σ : St) (H : Hp) (v : V) (u : Value) (Q : St → Hp → Prop), Inv X pins σ H s → RelV v u → t v σ H Q →
    wpAny (model X.prog X.w) X.A (assign target X.env u) (fun _ s' => ∃ σ' H', Inv X pins σ' H' s' ∧ Q σ' H') X.xe s
/-- several targets, one after another -/
def PGs (X : Cx) (ts : List Expr) (t : TGs) : Prop :=
  ∀ (pins : List (Addr × Obj)) (s : Shared) (σ : St) (H : Hp) (vs : List V) (us : List Value) (Q : St → Hp → Prop), Inv X pins σ H s → Vals vs us → t vs σ H Q →
    wpAny (model X.prog X.w) X.A (assignInOrder ((assignEach ts X.env).map (·.2)) us) (fun _ s' => ∃ σ' H', Inv X pins σ' H' s' ∧ Q σ' H') X.xe s
/-- o[i] = v, by values -/
abbrev TSet := V → V → V → Hp → (Hp → Prop) → Prop
def PSet (X : Cx) (t : TSet) : Prop :=
  ∀ (pins : List (Addr × Obj)) (s : Shared) (σ : St) (H : Hp) (o i v : V) (ov iv u : Value) (Q : Hp → Prop), Inv X pins σ H s → RelV o ov → RelV i iv → RelV v u → t o i v H Q →
    wpAny (model X.prog X.w) X.A (setItem ov iv u) (fun _ s' => ∃ H', Inv X pins σ H' s' ∧ Q H') X.xe s
/-- a op= b, by values -/
abbrev TIp := V → V → Hp → VK → Prop
def PIp (X : Cx) (op : Operator) (t : TIp) : Prop :=
  ∀ (pins : List (Addr × Obj)) (s : Shared) (σ : St) (H : Hp) (x y : V) (v u : Value) (Q : VK), Inv X pins σ H s → RelV x v → RelV y u → t x y H Q →
    wpAny (model X.prog X.w) X.A (inplaceOp op v u) (EP X pins σ Q) X.xe s
section
variable {X : Cx} {pos : Pos}
def gName (i : Nat) : TG := fun v σ H Q => Q (σ.set i (some v)) H
theorem pg_name {i : Nat} {x : Str} (hN : X.N.Nodup) (hi : X.N[i]? = some x) (hx : Loc X.env.scope x) (hf : X.fn x = true ∨ X.env.scope.names.lookup x = some .local := by first | exact .inl rfl | exact .inr rfl | assumption) : PG X (.Name x pos) (gName i) := by
  intro pins s σ H v u Q I r h
  exact wpAny_assign_Name (store_ok I hN hi hx r (fun s' I' => ⟨_, H, I', h⟩) hf)
def gNil : TGs := fun vs σ H Q => vs = [] ∧ Q σ H
def gCons (t : TG) (u : TGs) : TGs := fun vs σ H Q => ∃ v r, vs = v :: r ∧ t v σ H fun σ' H' => u r σ' H' Q
theorem pgs_nil : PGs X [] gNil := by
  intro pins s σ H vs us Q I r h
  obtain ⟨e, h⟩ := h
  subst e
  cases r
  exact assignInOrder_nil ⟨σ, H, I, h⟩
theorem pgs_cons {e : Expr} {es : List Expr} {t : TG} {u : TGs} (h1 : PG X e t) (h2 : PGs X es u)
    (hs : (assignEach (e :: es) X.env).map (·.2) = assign e X.env :: (assignEach es X.env).map (·.2) := by rfl) : PGs X (e :: es) (gCons t u) := by
  intro pins s σ H vs us Q I r h
  obtain ⟨v, vr, e1, h⟩ := h
  subst e1
  cases r with
  | cons r rr =>
    rw [hs]
    refine assignInOrder_cons (thn (h1 pins s σ H _ _ _ I r h) fun _ s1 ⟨σ1, H1, I1, q1⟩ => ?_)
    exact h2 pins s1 σ1 H1 _ _ Q I1 rr q1
/-- (a, b, ..) = a tuple of that length -/
def gTup (K : PySem.W.Frag) (n : Nat) (t : TGs) : TG := fun v σ H Q => ∃ a xs, v = .ref a ∧ SqT K H a xs ∧ xs.length = n ∧ t xs σ H Q
theorem pg_tup {es : List Expr} {k : Nat} {t : TGs} {n : Nat} (hc : X.calm = true) (h : PGs X es t)
    (hn : (assignEach es X.env).length = n := by rfl) (hst : (assignEach es X.env).findIdx? (·.1) = none := by rfl) : PG X (.Tuple es k pos) (gTup X.K n t) := by
  intro pins s σ H v u Q I r hw
  obtain ⟨a, xs, e1, hq, hl, hw⟩ := hw
  subst e1
  cases r
  obtain ⟨its, rv, ht, hz⟩ := I.tuple hq
  refine assign_Tuple_tuple (I.ok.hd hc) ht (by simp [hn, ← hl, rv.length]) hst fun h' hx => ?_
  have I1 : Inv X pins σ H { s with heap := h' } := I.kept (t' := s.toks) fun b o e => hx b o (Nat.ne_of_lt (Heap.lt_size e)) e
  exact h pins _ σ H xs _ Q I1 (by simpa using rv) hw
/-- o[i] = .. -/
def gSub (to ti : TE) (t : TSet) : TG := fun v σ H Q => to σ H fun o H1 => ti σ H1 fun i H2 => t o i v H2 fun H3 => Q σ H3
theorem pg_sub {o i : Expr} {to ti : TE} {t : TSet} (ho : PE X o to) (hi : PE X i ti) (hs : PSet X t)
    (ha : ∀ v, assign (.Subscript o i pos) X.env v = (do
      let ov ← holding [v] (eval o X.env)
      let iv ← holding [v, ov] (eval i X.env)
      standAt pos
      holding [v, ov, iv] (setItem ov iv v)
      release [v, ov, iv] []) := by intro _; rfl) : PG X (.Subscript o i pos) (gSub to ti t) := by
  intro pins s σ H v u Q I r h
  rw [ha]
  refine wpAny_bind (wpAny_holding (thn (ho pins s σ H _ I h) fun ov s1 ⟨x, H1, I1, r1, q1⟩ => ?_))
  refine wpAny_bind (wpAny_holding (thn (hi pins s1 σ H1 _ I1 q1) fun iv s2 ⟨y, H2, I2, r2, q2⟩ => ?_))
  refine wpAny_bind (wpAny_standAt (wpAny_bind (wpAny_holding (thn (hs pins s2 σ H2 x y v ov iv u _ I2 r1 r2 r q2) fun _ s3 ⟨H3, I3, q3⟩ => ?_))))
  exact wpAny_release ⟨σ, H3, I3, q3⟩
/-- target = value -/
def tAsg (te : TE) (g : TG) : TS := fun D σ H => te σ H fun x H1 => g x σ H1 D.nx
theorem ps_asg {tg e : Expr} {te : TE} {g : TG} (he : PE X e te) (hg : PG X tg g) (hs : swapsWithSole [tg] e pos.line X.env = pure false := by rfl) (hw : swappedStores [tg] e X.env = pure none := by rfl)
    (h1 : (assignEach [tg] X.env).map (·.2) = [assign tg X.env] := by rfl) : PS X (.Assign [tg] e pos) (tAsg te g) := by
  intro pins s σ H D I h
  refine wpAny_Assign_stores (thn (he pins s σ H _ I h) fun v s1 ⟨x, H1, I1, r1, q1⟩ => ?_) hs hw
  rw [h1]
  exact thn (hg pins s1 σ H1 x v _ I1 r1 q1) fun _ s2 q => q
/-- name = value -/
theorem ps_set {i : Nat} {x : Str} {e : Expr} {te : TE} {pos' : Pos} (hN : X.N.Nodup) (hi : X.N[i]? = some x) (hx : Loc X.env.scope x) (he : PE X e te) (hs : swapsWith e (some (.Name x pos')) pos.line X.env = pure false := by rfl) (hf : X.fn x = true ∨ X.env.scope.names.lookup x = some .local := by first | exact .inl rfl | exact .inr rfl | assumption) :
    PS X (.Assign [.Name x pos'] e pos) (tAsg te (gName i)) := by
  intro pins s σ H D I h
  refine wpAny_Assign_Name (thn (he pins s σ H _ I h) fun v s1 ⟨y, H1, I1, r1, q1⟩ => ?_) hs
  exact store_ok I1 hN hi hx r1 (fun s2 I2 => ⟨_, H1, I2, q1⟩) hf
/-- a, b = x, y with plain local names: stored from the right; the pair itself is not tracked (the opening rows as in PyProof/Rows/TupAssign.lean:23) -/
def tPar (i j : Nat) (ta : TA) : TS := fun D σ H => ta σ H fun vs H1 => ∃ v w, vs = [v, w] ∧ D.nx ((σ.set i (some v)).set j (some w)) H1
theorem ps_par {i j : Nat} {x y : Str} {a b : Expr} {ta : TA} {px py pt : Pos} {kt k2 pt2} (hc : X.calm = true) (hN : X.N.Nodup) (hi : X.N[i]? = some x) (hj : X.N[j]? = some y) (hij : i ≠ j)
    (hx : X.env.scope.names.lookup x = some .local) (hy : X.env.scope.names.lookup y = some .local) (ha : PA X [a, b] ta)
    (hw : swappedStores [.Tuple [.Name x px, .Name y py] kt pt] (.Tuple [a, b] k2 pt2) X.env = pure (some [x, y]))
    (hs : swapsWithSole [.Tuple [.Name x px, .Name y py] kt pt] (.Tuple [a, b] k2 pt2) pos.line X.env = pure false := by rfl) :
    PS X (.Assign [.Tuple [.Name x px, .Name y py] kt pt] (.Tuple [a, b] k2 pt2) pos) (tPar i j ta) := by
  intro pins s σ H D I h
  rw [exec_Assign_arm]
  refine wpAny_bind (wpAny_standAt ?_)
  rw [hs]
  refine wpAny_bind (wpAny_pure ?_)
  rw [if_neg (by decide)]
  refine wpAny_bind (Tuple_ (thn (ha _ pins s σ H _ I h) fun us s1 ⟨vs, H1, I1, r1, q1⟩ => ?_))
  obtain ⟨v, w, e1, q1⟩ := q1
  subst e1
  obtain ⟨u1, u2, rfl, rv, rw'⟩ : ∃ u1 u2, us = [u1, u2] ∧ RelV v u1 ∧ RelV w u2 := by
    cases r1 with
    | cons p q =>
      cases q with
      | cons p' q' =>
        cases q'
        exact ⟨_, _, rfl, p, p'⟩
  refine wpAny_newObj_type ?_ (by show 2 ≤ sizeLine; decide)
  have I2 : Inv X pins σ H1 { s1 with heap := s1.heap.push { cls := .type "tuple", data := .seq [u1, u2].toArray } } := I1.kept (t' := s1.toks) fun b o e => Heap.get?_push_of_some _ e
  rw [hw]
  refine wpAny_bind (wpAny_pure ?_)
  show wpAny (model X.prog X.w) X.A (do rule "assign.swapped-stores"; let items ← unpackItems (.ref s1.heap.objs.size) 2 none; assignInOrder [fun v => bindName X.env y v, fun v => bindName X.env x v] items.reverse; pure Flow.next) _ _ _
  refine wpAny_bind (wpAny_rule (wpAny_bind (unpackItems_tuple (items := #[u1, u2]) (I.ok.hd hc) (IsTup.new s1.heap _) fun h' hx' => ?_)))
  have I3 := I2.kept (h' := h') (t' := s1.toks) fun b o e => hx' b o (Nat.ne_of_lt (Heap.lt_size e)) e
  show wpAny _ _ (assignInOrder [fun v => bindName X.env y v, fun v => bindName X.env x v] [u2, u1] >>= fun _ => pure Flow.next) _ _ _
  refine wpAny_bind (assignInOrder_cons (wpAny_bindName (store_ok I3 hN hj (.inl hy) rw' (fun s2 I4 => ?_) (.inr hy))))
  refine assignInOrder_cons (wpAny_bindName (store_ok I4 hN hi (.inl hx) rv (fun s3 I5 => assignInOrder_nil (wpAny_pure ?_)) (.inr hx)))
  rw [List.set_comm _ _ (Ne.symm hij)] at I5
  exact ⟨_, H1, I5, q1⟩
/-- name op= e -/
def tAug (i : Nat) (te : TE) (ti : TIp) : TS := fun D σ H => ∃ x, σ[i]? = some (some x) ∧ te σ H fun y H1 => ti x y H1 fun z H2 => D.nx (σ.set i (some z)) H2
theorem ps_aug {i : Nat} {x : Str} {e : Expr} {te : TE} {op : Operator} {ti : TIp} {pos' : Pos} (hN : X.N.Nodup) (hi : X.N[i]? = some x) (hx : Loc X.env.scope x) (he : PE X e te) (ho : PIp X op ti) (hf : X.fn x = true ∨ X.env.scope.names.lookup x = some .local := by first | exact .inl rfl | exact .inr rfl | assumption) :
    PS X (.AugAssign (.Name x pos') op e pos) (tAug i te ti) := by
  intro pins s σ H D I h
  obtain ⟨v, e1, h⟩ := h
  obtain ⟨m, hn, hl⟩ := I.loc
  have vis : Vis X.env.scope x := by rcases hx with k | k; exact .inl k; exact .inr (.inl k)
  obtain ⟨u, r, l⟩ := hl i x v hi e1 vis
  refine wpAny_AugAssign_Name ?_
  have go : wpAny (model X.prog X.w) X.A (eval e X.env) (fun w s₂ => wpAny (model X.prog X.w) X.A (inplaceOp op u w) (fun r s₃ => wpAny (model X.prog X.w) X.A (storeName X.env x r) (fun _ => SP X pins D .next) X.xe s₃) X.xe s₂) X.xe s := by
    refine thn (he pins s σ H _ I h) fun w s1 ⟨y, H1, I1, r1, q1⟩ => ?_
    refine thn (ho pins s1 σ H1 v y u w _ I1 r r1 q1) fun z s2 ⟨zv, H2, I2, r2, q2⟩ => ?_
    exact store_ok I2 hN hi hx r2 (fun s3 I3 => ⟨_, H2, I3, q2⟩) hf
  rcases l with ⟨hk, hm⟩ | ⟨hk, c, hc, hcell⟩
  · exact wpAny_loadName_local I.ok.kind hk hn hm go
  · rcases hk with hk | hk
    · exact wpAny_loadName_cell I.ok.kind hk hc hcell go
    · rcases hx with k | k
      · have : X.env.scope.names.lookup x = some .free := hk
        rw [k] at this; cases this
      · have : X.env.scope.names.lookup x = some .free := hk
        rw [k] at this; cases this
/-- o[i] op= e -/
def tAugS (to ti te : TE) (tget : V → V → Hp → VK → Prop) (tip : TIp) (tset : TSet) : TS := fun D σ H => to σ H fun o H1 => ti σ H1 fun i H2 => tget o i H2 fun x H3 => te σ H3 fun y H4 => tip x y H4 fun z H5 => tset o i z H5 fun H6 => D.nx σ H6
/-- o[i], by values -/
def PGet (X : Cx) (t : V → V → Hp → VK → Prop) : Prop :=
  ∀ (pins : List (Addr × Obj)) (s : Shared) (σ : St) (H : Hp) (o i : V) (ov iv : Value) (Q : VK), Inv X pins σ H s → RelV o ov → RelV i iv → t o i H Q →
    wpAny (model X.prog X.w) X.A (getItem ov iv) (EP X pins σ Q) X.xe s
theorem ps_augS {o i e : Expr} {to ti te : TE} {tget : V → V → Hp → VK → Prop} {tip : TIp} {tset : TSet} {op : Operator} {tpos : Pos} (ho : PE X o to) (hi : PE X i ti) (hg : PGet X tget) (he : PE X e te) (hp : PIp X op tip) (hs : PSet X tset)
    (ha : ∀ ov iv new, augStore i ov iv new = (do holding [new, ov, iv] (setItem ov iv new); release [new, ov, iv] []; pure .next) := by intros; rfl) : PS X (.AugAssign (.Subscript o i tpos) op e pos) (tAugS to ti te tget tip tset) := by
  intro pins s σ H D I h
  refine wpAny_AugAssign_SubscriptAny (thn (ho pins s σ H _ I h) fun ov s1 ⟨x1, H1, I1, r1, q1⟩ => ?_) ha
  refine thn (hi pins s1 σ H1 _ I1 q1) fun iv s2 ⟨x2, H2, I2, r2, q2⟩ => ?_
  refine thn (hg pins s2 σ H2 x1 x2 ov iv _ I2 r1 r2 q2) fun old s3 ⟨x3, H3, I3, r3, q3⟩ => ?_
  refine thn (he pins s3 σ H3 _ I3 q3) fun v s4 ⟨x4, H4, I4, r4, q4⟩ => ?_
  refine thn (hp pins s4 σ H4 x3 x4 old v _ I4 r3 r4 q4) fun new s5 ⟨x5, H5, I5, r5, q5⟩ => ?_
  exact thn (hs pins s5 σ H5 x1 x2 x5 ov iv new _ I5 r1 r2 r5 q5) fun _ s6 ⟨H6, I6, q6⟩ => ⟨σ, H6, I6, q6⟩
/-- ints -/
def ipI (f : Int → Int → Int) : TIp := fun x y H Q => ∃ i j, x = .int i ∧ y = .int j ∧ Q (.int (f i j)) H
theorem ip_add : PIp X .Add (ipI fun i j => i + j) := by
  intro pins s σ H x y v u Q I r1 r2 h
  obtain ⟨i, j, e1, e2, q⟩ := h
  subst e1; subst e2
  obtain ⟨t, rfl⟩ := r1
  obtain ⟨t', rfl⟩ := r2
  exact iadd_int ⟨.int _, H, I.tok _, ⟨_, rfl⟩, q⟩
theorem ip_sub : PIp X .Sub (ipI fun i j => i - j) := by
  intro pins s σ H x y v u Q I r1 r2 h
  obtain ⟨i, j, e1, e2, q⟩ := h
  subst e1; subst e2
  obtain ⟨t, rfl⟩ := r1
  obtain ⟨t', rfl⟩ := r2
  exact isub_int ⟨.int _, H, I.tok _, ⟨_, rfl⟩, q⟩
end

/-! ### while -/
section
variable {X : Cx} {pos : Pos}
/-- the invariant W with its measure -/
def tWhile (c : TT) (tb : TS) : TS := fun D σ H => ∃ W : Nat → St → Hp → Prop, (∃ m, W m σ H) ∧ ∀ m σ H, W m σ H →
  c σ H fun b H1 => if b = true then ∃ N : St → Hp → Prop, (∀ σ' H', N σ' H' → ∃ m', m' < m ∧ W m' σ' H') ∧ tb { D with nx := N, ct := N, bk := D.nx } σ H1 else D.nx σ H1
theorem ps_while {c : Expr} {body : List Stmt} {tc : TT} {tb : TS} (hp : PassesOwn (model X.prog X.w) X.A X.env X.xe) (hc : PT X c tc) (hb : PSs X body tb) : PS X (.While c body [] pos) (tWhile tc tb) := by
  intro pins s σ H D I h
  obtain ⟨W, ⟨m0, w0⟩, turn⟩ := h
  refine wpAny_While (codeAny_whileLoop (fun n s' => ∃ σ' H', Inv X pins σ' H' s' ∧ W n σ' H') ?_ m0 ⟨σ, H, I, w0⟩)
  rintro n s1 ⟨σ1, H1, I1, w1⟩
  refine wpAny_passesOwn hp (thn (hc pins s1 σ1 H1 _ I1 (turn n σ1 H1 w1)) fun b s2 ⟨H2, I2, q2⟩ => ?_)
  cases b with
  | true =>
    obtain ⟨N, hN, q2⟩ := q2
    rw [if_pos rfl]
    refine wpAny_passesOwn hp (thn (hb pins s2 σ1 H2 _ I2 q2) fun f s3 q3 => ?_)
    cases f with
    | next =>
      obtain ⟨σ3, H3, I3, n3⟩ := q3
      obtain ⟨m', hm, w3⟩ := hN σ3 H3 n3
      exact ⟨m', hm, σ3, H3, I3, w3⟩
    | cont =>
      obtain ⟨σ3, H3, I3, n3⟩ := q3
      obtain ⟨m', hm, w3⟩ := hN σ3 H3 n3
      exact ⟨m', hm, σ3, H3, I3, w3⟩
    | brk => exact q3
    | ret v => exact q3
  | false =>
    rw [if_neg Bool.false_ne_true]
    exact wpAny_execs_nil ⟨σ1, H2, I2, q2⟩
end

/-! ### what a loop or a comprehension walks -/
/-- at turn i: it yields x (the heap may grow), or it stops -/
structure It where
  go : Nat → Hp → Prop
  yld : Nat → Hp → V → Hp → Prop
  stop : Nat → Hp → Prop
/-- the iterator's own objects may turn: they are not the frame's, not pinned, younger than the entry (or a comprehension's own) -/
def FpOk (X : Cx) (pins : List (Addr × Obj)) (H : Hp) (b : Addr) : Prop :=
  H b = none ∧ b ≠ X.env.locals ∧ b ∉ X.fs ∧ (b ∈ X.ex ∨ X.s₀.heap.objs.size ≤ b) ∧ (∀ x c, X.env.cells.lookup x = some c → c ≠ b) ∧ ∀ p ∈ X.pn ++ pins, p.1 ≠ b
theorem Inv.fpOk {X : Cx} {pins : List (Addr × Obj)} {σ : St} {H H' : Hp} {s : Shared} {b : Addr} (I : Inv X pins σ H s) (hb : s.heap.objs.size ≤ b) (hn : H' b = none) : FpOk X pins H' b := by
  refine ⟨hn, Nat.ne_of_gt (Nat.lt_of_lt_of_le I.lt hb), I.nofs hb, .inr (Nat.le_trans I.sz hb), fun x c e z => ?_, fun p hp z => ?_⟩
  · obtain ⟨v, q⟩ := I.cell x c e
    exact absurd (Nat.lt_of_lt_of_le q.lt (by rw [z]; exact hb)) (Nat.lt_irrefl _)
  · exact absurd (Nat.lt_of_lt_of_le (Heap.lt_size (I.pin p hp).1) (by rw [z]; exact hb)) (Nat.lt_irrefl _)
structure Turn (P : Program) (w : World) (K : PySem.W.Frag) (tg : Expr) (J : It) (fp : List Addr) (it : Addr) (tn : Nat → Heap → Prop) : Prop where
  mem : it ∈ fp
  obj : ∀ i h, tn i h → ∀ b ∈ fp, ∃ o, h.get? b = some o ∧ ∀ v, o.data ≠ .cell v
  keep : ∀ i h h', tn i h → (∀ b ∈ fp, ∀ o, h.get? b = some o → h'.get? b = some o) → tn i h'
  item : ∀ (X : Cx), X.prog = P → X.w = w → X.K = K → X.calm = true → ∀ (i : Nat) (pins : List (Addr × Obj)) (s : Shared) (σ : St) (H : Hp) (E : Value → Shared → Prop), Inv X pins σ H s → (∀ b ∈ fp, FpOk X pins H b) → tn i s.heap → J.go i H →
    wpAny (model P w) X.A (pyNext (.ref it)) (fun r s1 => ∃ u, r = some u ∧
      wpAny (model P w) X.A (letOwnedTupleGo tg (.ref it) u) (fun _ s2 => ∃ x H', Inv X pins σ H' s2 ∧ RelV x u ∧ J.yld i H x H' ∧ tn (i + 1) s2.heap ∧ ∀ b ∈ fp, H' b = none) E s1) E s
  done : ∀ (X : Cx), X.prog = P → X.w = w → X.K = K → X.calm = true → ∀ (i : Nat) (pins : List (Addr × Obj)) (s : Shared) (σ : St) (H : Hp) (E : Value → Shared → Prop), Inv X pins σ H s → (∀ b ∈ fp, FpOk X pins H b) → tn i s.heap → J.stop i H →
    wpAny (model P w) X.A (pyNext (.ref it)) (fun r s1 => r = none ∧ Inv X pins σ H s1) E s
  self : ∀ (A : Around) (i : Nat) (s : Shared) (Q : Value → Shared → Prop) (E : Value → Shared → Prop), tn i s.heap → Q (.ref it) s → wpAny (model P w) A (pyIter (.ref it)) Q E s
abbrev TI := St → Hp → (It → Hp → Prop) → Prop
/-- an iterator has come -/
def PIE (X : Cx) (pins : List (Addr × Obj)) (σ : St) (tg : Expr) (R : It → Hp → Prop) (itv : Value) (s2 : Shared) : Prop :=
  ∃ (it : Addr) (fp : List Addr) (tn : Nat → Heap → Prop) (J : It) (H' : Hp), itv = .ref it ∧ Inv X pins σ H' s2 ∧ Turn X.prog X.w X.K tg J fp it tn ∧ tn 0 s2.heap ∧ (∀ b ∈ fp, FpOk X pins H' b) ∧ R J H'
def PI (X : Cx) (tg iter : Expr) (wi : TI) : Prop :=
  ∀ (pins : List (Addr × Obj)) (s : Shared) (σ : St) (H : Hp) (R : It → Hp → Prop), Inv X pins σ H s → wi σ H R →
    wpAny (model X.prog X.w) X.A (eval iter X.env) (fun v s1 => wpAny (model X.prog X.w) X.A (pyIter v) (PIE X pins σ tg R) X.xe s1) X.xe s

/-- the step ahead of the store is nothing for an iterator that keeps no tuple -/
theorem go_of {M : Model} {A : Around} {E : Value → Shared → Prop} {s : Shared} {tg : Expr} {it : Addr} {u : Value} {o : Obj} {n : String} {vs : Array Value} {Q : Unit → Shared → Prop} (ho : s.heap.get? it = some o) (hc : o.cls = .type n) (hd : o.data = .fields vs)
    (hn : ["enumerate", "zip", "dict_itemiterator", "dict_reverseitemiterator", "odict_iterator", "itertools.zip_longest", "itertools.pairwise"].contains n = false) (hQ : Q () s) : wpAny M A (letOwnedTupleGo tg (.ref it) u) Q E s := by
  unfold letOwnedTupleGo
  cases tg <;> first
    | exact wpAny_pure hQ
    | (cases u <;> first
        | exact wpAny_pure hQ
        | (refine wpAny_bind (wpAny_load ho ?_)
           rw [hc, hd]
           show wpAny M A (if (["enumerate", "zip", "dict_itemiterator", "dict_reverseitemiterator", "odict_iterator", "itertools.zip_longest", "itertools.pairwise"].contains n && vs[0]? == some (rawInt _)) = true then _ else _) Q E s
           rw [if_neg (by intro h; rw [hn, Bool.false_and] at h; cases h)]
           exact wpAny_pure hQ))

/-- the list at a, as it stands at each turn (a loop may append to it) -/
def Itl (K : PySem.W.Frag) (a : Addr) : It :=
  ⟨fun i H => ∃ xs x, SqL K H a xs ∧ xs[i]? = some x, fun i H x H' => H' = H ∧ ∀ xs, SqL K H a xs → xs[i]? = some x, fun i H => ∃ xs, SqL K H a xs ∧ xs.length ≤ i⟩
def Itt (K : PySem.W.Frag) (a : Addr) : It :=
  ⟨fun i H => ∃ xs x, SqT K H a xs ∧ xs[i]? = some x, fun i H x H' => H' = H ∧ ∀ xs, SqT K H a xs → xs[i]? = some x, fun i H => ∃ xs, SqT K H a xs ∧ xs.length ≤ i⟩
/-- lo, lo + 1, .. (n of them) -/
def Itr (lo : Int) (n : Nat) : It := ⟨fun i _ => i < n, fun i H x H' => H' = H ∧ x = .int (lo + i), fun i _ => n ≤ i⟩
theorem turn_list {P : Program} {w : World} {K : PySem.W.Frag} {tg : Expr} (a it : Addr) : Turn P w K tg (Itl K a) [it] it (fun i h => h.IsListIter it a i) where
  mem := by simp
  obj := fun i h st b hb => by
    have e : b = it := by simpa using hb
    subst e
    obtain ⟨o, e, c, d⟩ := st
    exact ⟨o, e, fun v z => by rw [d] at z; cases z⟩
  keep := fun i h h' st k => st.at fun o e => k it (by simp) o e
  item := by
    intro X hP hw hK hc i pins s σ H E I hf st hg
    subst hP hw hK
    obtain ⟨xs, x, hq, hx⟩ := hg
    obtain ⟨its, rv, p, hz⟩ := I.list hq
    obtain ⟨u, hu, ru⟩ := rv.get hx
    obtain ⟨f0, f1, f2, f3, f4, f5⟩ := hf it (by simp)
    refine wpAny_pyNext_list_item st p.isList (x := u) (by simpa using hu) fun h' st' sb => ?_
    have I1 : Inv X pins σ H { s with heap := h' } := I.turned (t' := s.toks) (fun b o hb e => (sb.2 b hb).trans e) f0 f1 f3 f4 f5
    obtain ⟨o, e, c, d⟩ := id st'
    exact ⟨u, rfl, go_of (s := { s with heap := h' }) e c d (by decide) ⟨x, H, I1, ru, ⟨rfl, fun ys hy => by rw [I.list_inj hy hq]; exact hx⟩, st', fun b hb => (hf b hb).1⟩⟩
  done := by
    intro X hP hw hK hc i pins s σ H E I hf st hg
    subst hP hw hK
    obtain ⟨xs, hq, hx⟩ := hg
    obtain ⟨its, rv, p, hz⟩ := I.list hq
    obtain ⟨f0, f1, f2, f3, f4, f5⟩ := hf it (by simp)
    have hl := rv.length
    exact wpAny_pyNext_list_end (I.ok.hd hc) st p.isList (by simp; omega) fun h' eb => ⟨rfl, I.turned (t' := s.toks) (fun b o hb e => eb b o hb e) f0 f1 f3 f4 f5⟩
  self := fun _ _ _ _ _ st h => wpAny_pyIter_listiter st h
theorem turn_tuple {P : Program} {w : World} {K : PySem.W.Frag} {tg : Expr} (a it : Addr) : Turn P w K tg (Itt K a) [it] it (fun i h => h.IsTupleIter it a i) where
  mem := by simp
  obj := fun i h st b hb => by
    have e : b = it := by simpa using hb
    subst e
    obtain ⟨o, e, c, d⟩ := st
    exact ⟨o, e, fun v z => by rw [d] at z; cases z⟩
  keep := fun i h h' st k => st.at fun o e => k it (by simp) o e
  item := by
    intro X hP hw hK hc i pins s σ H E I hf st hg
    subst hP hw hK
    obtain ⟨xs, x, hq, hx⟩ := hg
    obtain ⟨its, rv, p, hz⟩ := I.tuple hq
    obtain ⟨u, hu, ru⟩ := rv.get hx
    obtain ⟨f0, f1, f2, f3, f4, f5⟩ := hf it (by simp)
    refine wpAny_pyNext_tuple_item st (show s.heap.IsTuple a its.toArray from p) (x := u) (by simpa using hu) fun h' st' sb => ?_
    have I1 : Inv X pins σ H { s with heap := h' } := I.turned (t' := s.toks) (fun b o hb e => (sb.2 b hb).trans e) f0 f1 f3 f4 f5
    obtain ⟨o, e, c, d⟩ := id st'
    exact ⟨u, rfl, go_of (s := { s with heap := h' }) e c d (by decide) ⟨x, H, I1, ru, ⟨rfl, fun ys hy => by rw [I.tuple_inj hy hq]; exact hx⟩, st', fun b hb => (hf b hb).1⟩⟩
  done := by
    intro X hP hw hK hc i pins s σ H E I hf st hg
    subst hP hw hK
    obtain ⟨xs, hq, hx⟩ := hg
    obtain ⟨its, rv, p, hz⟩ := I.tuple hq
    obtain ⟨f0, f1, f2, f3, f4, f5⟩ := hf it (by simp)
    have hl := rv.length
    exact wpAny_pyNext_tuple_end (I.ok.hd hc) st (show s.heap.IsTuple a its.toArray from p) (by simp; omega) fun h' eb => ⟨rfl, I.turned (t' := s.toks) (fun b o hb e => eb b o hb e) f0 f1 f3 f4 f5⟩
  self := fun _ _ _ _ _ st h => wpAny_pyIter_tupleiter st h
theorem turn_range {P : Program} {w : World} {K : PySem.W.Frag} {tg : Expr} (it : Addr) (lo : Int) (n : Nat) : Turn P w K tg (Itr lo n) [it] it (fun i h => IsRangeIter h it (lo + (i : Nat) * 1) ((n : Int) - (i : Nat)) 1) where
  mem := by simp
  obj := fun i h st b hb => by
    have e : b = it := by simpa using hb
    subst e
    exact ⟨_, st, fun v z => by
      have z' : Data.fields _ = Data.cell v := z
      cases z'⟩
  keep := fun i h h' st k => k it (by simp) _ st
  item := by
    intro X hP hw hK hc i pins s σ H E I hf st hg
    subst hP hw hK
    obtain ⟨f0, f1, f2, f3, f4, f5⟩ := hf it (by simp)
    have W := Walks.range (prog := X.prog) (w := X.w) (I.ok.hd hc) it lo 1 n
    refine W.item i s _ _ hg st fun v h' tk hv st' kk => ?_
    obtain ⟨t, rfl⟩ := hv
    have I1 : Inv X pins σ H { s with heap := h', toks := tk } := I.turned (fun b o hb e => kk b o (by simpa using hb) e) f0 f1 f3 f4 f5
    refine ⟨_, rfl, go_of (s := { s with heap := h', toks := tk }) (n := "range_iterator") st' rfl rfl (by decide) ⟨.int (lo + i), H, I1, ⟨t, ?_⟩, ⟨rfl, rfl⟩, st', fun b hb => (hf b hb).1⟩⟩
    rw [Int.mul_one]
  done := by
    intro X hP hw hK hc i pins s σ H E I hf st hg
    subst hP hw hK
    obtain ⟨f0, f1, f2, f3, f4, f5⟩ := hf it (by simp)
    exact wpAny_pyNext_range_end (I.ok.hd hc) st (by have : n ≤ i := hg; omega) fun h' eb => ⟨rfl, I.turned (t' := s.toks) (fun b o hb e => eb b o hb e) f0 f1 f3 f4 f5⟩
  self := fun _ _ _ _ _ st h => wpAny_pyIter_rangeiter st h
end L2

namespace L2
open PySem PySem.Spec PyProof.Rows
section
variable {X : Cx} {tg : Expr}
def iList (K : PySem.W.Frag) (tl : TE) : TI := fun σ H R => tl σ H fun x H1 => ∃ a, x = .ref a ∧ (∃ xs, SqL K H1 a xs) ∧ R (Itl K a) H1
def iTup (K : PySem.W.Frag) (tl : TE) : TI := fun σ H R => tl σ H fun x H1 => ∃ a, x = .ref a ∧ (∃ xs, SqT K H1 a xs) ∧ R (Itt K a) H1
theorem pi_list {l : Expr} {tl : TE} (hl : PE X l tl) : PI X tg l (iList X.K tl) := by
  intro pins s σ H R I h
  refine thn (hl pins s σ H _ I h) fun v s1 ⟨x, H1, I1, r1, q1⟩ => ?_
  obtain ⟨a, e, ⟨xs, hq⟩, q⟩ := q1
  subst e
  cases r1
  obtain ⟨its, rv, p, hz⟩ := I1.list hq
  refine wpAny_pyIter_list p.isList ?_
  refine ⟨s1.heap.objs.size, [s1.heap.objs.size], _, _, H1, rfl, I1.kept (t' := s1.toks) fun b o e => Heap.get?_push_of_some _ e, turn_list a _, ⟨_, Heap.get?_push_size _ rfl, rfl, rfl⟩, fun b hb => ?_, q⟩
  have e : b = s1.heap.objs.size := by simpa using hb
  subst e
  exact I1.fpOk (Nat.le_refl _) (I1.hok.fresh (Nat.le_refl _))
theorem pi_tup {l : Expr} {tl : TE} (hl : PE X l tl) : PI X tg l (iTup X.K tl) := by
  intro pins s σ H R I h
  refine thn (hl pins s σ H _ I h) fun v s1 ⟨x, H1, I1, r1, q1⟩ => ?_
  obtain ⟨a, e, ⟨xs, hq⟩, q⟩ := q1
  subst e
  cases r1
  obtain ⟨its, rv, p, hz⟩ := I1.tuple hq
  refine wpAny_pyIter_tuple (show s1.heap.IsTuple a its.toArray from p) ?_
  refine ⟨s1.heap.objs.size, [s1.heap.objs.size], _, _, H1, rfl, I1.kept (t' := s1.toks) fun b o e => Heap.get?_push_of_some _ e, turn_tuple a _, ⟨_, Heap.get?_push_size _ rfl, rfl, rfl⟩, fun b hb => ?_, q⟩
  have e : b = s1.heap.objs.size := by simpa using hb
  subst e
  exact I1.fpOk (Nat.le_refl _) (I1.hok.fresh (Nat.le_refl _))
/-- a range object just made, walked -/
theorem range_it {pins : List (Addr × Obj)} {σ : St} {H : Hp} {s : Shared} {R : It → Hp → Prop} {E : Value → Shared → Prop} {lo hi : Int} {t u v : Tok} {tk : Nat} (I : Inv X pins σ H s) (h1 : -(2 ^ 62) ≤ lo) (h2 : lo < 2 ^ 62) (h3 : -(2 ^ 62) ≤ hi) (h4 : hi < 2 ^ 62)
    (q : R (Itr lo (hi - lo).toNat) H) : wpAny (model X.prog X.w) X.A (pyIter (.ref s.heap.objs.size)) (PIE X pins σ tg R) E { s with heap := s.heap.push { cls := .type "range", data := .fields #[.int lo t, .int hi u, .int 1 v] }, toks := tk } := by
  refine wpAny_pyIter_range (IsRange.new ..) (small_one h1 h2 h3 h4) ?_
  have I1 : Inv X pins σ H { s with heap := s.heap.push { cls := .type "range", data := .fields #[.int lo t, .int hi u, .int 1 v] }, toks := tk } := I.kept fun b o e => Heap.get?_push_of_some _ e
  refine ⟨(s.heap.push { cls := .type "range", data := .fields #[.int lo t, .int hi u, .int 1 v] }).objs.size, [(s.heap.push { cls := .type "range", data := .fields #[.int lo t, .int hi u, .int 1 v] }).objs.size], _, _, H, rfl,
    I1.kept (t' := tk) fun b o e => Heap.get?_push_of_some _ e, turn_range _ lo (hi - lo).toNat, ?_, fun b hb => ?_, q⟩
  · have e1 : lo + ((0 : Nat) : Int) * 1 = lo := by simp
    have e2 : (((hi - lo).toNat : Nat) : Int) - ((0 : Nat) : Int) = Builtin.Range.rangeSize lo hi 1 := by rw [rangeSize_one]; split <;> omega
    show IsRangeIter _ _ (lo + ((0 : Nat) : Int) * 1) ((((hi - lo).toNat : Nat) : Int) - ((0 : Nat) : Int)) 1
    rw [e1, e2]
    exact Heap.get?_push_size _ rfl
  · have e : b = (s.heap.push { cls := .type "range", data := .fields #[.int lo t, .int hi u, .int 1 v] }).objs.size := by simpa using hb
    subst e
    exact I1.fpOk (Nat.le_refl _) (I1.hok.fresh (Nat.le_refl _))
def iRng1 (ta : TA) : TI := fun σ H R => ta σ H fun vs H1 => ∃ j : Int, vs = [.int j] ∧ -(2 ^ 62) ≤ j ∧ j < 2 ^ 62 ∧ R (Itr 0 j.toNat) H1
def iRng2 (ta : TA) : TI := fun σ H R => ta σ H fun vs H1 => ∃ i j : Int, vs = [.int i, .int j] ∧ (-(2 ^ 62) ≤ i ∧ i < 2 ^ 62 ∧ -(2 ^ 62) ≤ j ∧ j < 2 ^ 62) ∧ R (Itr i (j - i).toNat) H1
theorem pi_range1 {a : Expr} {ta : TA} {p pos : Pos} (hg : Gl X "range") (hm : X.mg "range" = none) (ha : PA X [a] ta) (hs : starEach [a] X.env = [(false, eval a X.env)] := by rfl) : PI X tg (.Call (.Name "range" p) [a] [] pos) (iRng1 ta) := by
  intro pins s σ H R I h
  refine Call_ (ld_blt I hg hm boot_range (PyProof.Rows.callWith_type1 (thn (ha pos pins s σ H _ I h) fun us s1 ⟨vs, H1, I1, r1, q1⟩ => ?_) hs rfl))
  obtain ⟨j, e, q1, q2, q⟩ := q1
  subst e
  cases r1 with
  | cons r rr =>
    cases rr
    obtain ⟨t, rfl⟩ := r
    exact call_range_1 (range_it I1 (by omega) (by omega) q1 q2 (by simpa using q))
theorem pi_range2 {a b : Expr} {ta : TA} {p pos : Pos} (hg : Gl X "range") (hm : X.mg "range" = none) (ha : PA X [a, b] ta) (hs : starEach [a, b] X.env = [(false, eval a X.env), (false, eval b X.env)] := by rfl) (hs2 : starEach [b] X.env = [(false, eval b X.env)] := by rfl) :
    PI X tg (.Call (.Name "range" p) [a, b] [] pos) (iRng2 ta) := by
  intro pins s σ H R I h
  refine Call_ (ld_blt I hg hm boot_range (PyProof.Rows.callWith_type1 (thn (ha pos pins s σ H _ I h) fun us s1 ⟨vs, H1, I1, r1, q1⟩ => ?_) (by rw [hs, hs2]) (by rw [hs2]; rfl)))
  obtain ⟨i, j, e, ⟨q1, q2, q3, q4⟩, q⟩ := q1
  subst e
  cases r1 with
  | cons r rr =>
    cases rr with
    | cons r' rr =>
      cases rr
      obtain ⟨t, rfl⟩ := r
      obtain ⟨t', rfl⟩ := r'
      exact call_range_2 (range_it I1 q1 q2 q3 q4 q)

/-! ### for -/
/-- W: the invariant by the turn and a measure; N: what the body is to reach -/
def tFor (wi : TI) (g : TG) (tb : TS) : TS := fun D σ H => wi σ H fun J H1 => ∃ W : Nat → Nat → St → Hp → Prop, (∃ m, W 0 m σ H1) ∧ ∀ i m σ H, W i m σ H →
  (J.stop i H ∧ D.nx σ H) ∨ (J.go i H ∧ ∃ N : St → Hp → Prop, (∀ σ' H', N σ' H' → ∃ m', m' < m ∧ W (i + 1) m' σ' H') ∧ ∀ x H', J.yld i H x H' → g x σ H' fun σ2 H2 => tb { D with nx := N, ct := N, bk := D.nx } σ2 H2)
/-- the records at fp as they stand -/
def pinsAt (fp : List Addr) (h : Heap) : List (Addr × Obj) := fp.filterMap fun b => (h.get? b).map fun o => (b, o)
theorem mem_pinsAt {fp : List Addr} {h : Heap} {b : Addr} {o : Obj} (hb : b ∈ fp) (e : h.get? b = some o) : (b, o) ∈ pinsAt fp h := List.mem_filterMap.mpr ⟨b, hb, by rw [e]; rfl⟩
theorem of_pinsAt {fp : List Addr} {h : Heap} {p : Addr × Obj} (hp : p ∈ pinsAt fp h) : p.1 ∈ fp ∧ h.get? p.1 = some p.2 := by
  obtain ⟨b, hb, e⟩ := List.mem_filterMap.mp hp
  cases q : h.get? b with
  | none => rw [q] at e; cases e
  | some o =>
    rw [q] at e
    have e' : (b, o) = p := Option.some.inj e
    subst e'
    exact ⟨hb, q⟩
theorem Inv.pinned {pins : List (Addr × Obj)} {σ : St} {H : Hp} {s : Shared} {fp : List Addr} (I : Inv X pins σ H s) (hf : ∀ b ∈ fp, FpOk X pins H b) (ho : ∀ b ∈ fp, ∃ o, s.heap.get? b = some o ∧ ∀ v, o.data ≠ .cell v) : Inv X (pins ++ pinsAt fp s.heap) σ H s :=
  I.pins_of fun p hp => (List.mem_append.mp hp).elim (fun z => I.pin p (List.mem_append_right _ z)) fun z => by
    obtain ⟨hb, e⟩ := of_pinsAt z
    obtain ⟨f0, f1, f2, _⟩ := hf p.1 hb
    obtain ⟨o, e', d⟩ := ho p.1 hb
    rw [e] at e'; cases e'
    exact ⟨e, f0, f1, f2, d⟩
theorem Inv.unpinned {pins pl : List (Addr × Obj)} {σ : St} {H : Hp} {s : Shared} (I : Inv X (pins ++ pl) σ H s) : Inv X pins σ H s := I.pins_of fun p hp => I.pin p (List.mem_append_right _ (List.mem_append_left _ hp))
theorem ps_for {iter : Expr} {body : List Stmt} {wi : TI} {g : TG} {tb : TS} {pos : Pos} (hp : PassesOwn (model X.prog X.w) X.A X.env X.xe) (hc : X.calm = true) (hi : PI X tg iter wi) (hg : PG X tg g) (hb : PSs X body tb)
    (hs : ∀ x, foldedSetIterable iter X.env x = pure x := by intro _; rfl) : PS X (.For tg iter body [] pos) (tFor wi g tb) := by
  intro pins s σ H D I h
  refine wpAny_For (thn (hi pins s σ H _ I h) fun v s1 h1 => thn h1 fun itv s2 h2 => ?_) hs
  obtain ⟨it, fp, tn, J, H2, e, I2, T, st2, f2, W, ⟨m0, w0⟩, turn⟩ := h2
  subst e
  -- what stays true of the iterator's objects through the loop
  have stat : ∀ {H' : Hp}, (∀ b ∈ fp, H' b = none) → ∀ b ∈ fp, FpOk X pins H' b := fun hn b hb => ⟨hn b hb, (f2 b hb).2⟩
  refine codeAny_forLoop_any (fun n s' => ∃ i σ' H', Inv X pins σ' H' s' ∧ tn i s'.heap ∧ (∀ b ∈ fp, H' b = none) ∧ W i n σ' H') ?_ m0 ⟨0, σ, H2, I2, st2, fun b hb => (f2 b hb).1, w0⟩
  rintro n s3 ⟨i, σ3, H3, I3, st3, fr3, w3⟩
  rcases turn i n σ3 H3 w3 with ⟨stop, qn⟩ | ⟨go, N, hN, step⟩
  · refine wpAny_passesOwn hp (thn (T.done X rfl rfl rfl hc i pins s3 σ3 H3 X.xe I3 (stat fr3) st3 stop) fun r s4 ⟨hr, I4⟩ => ?_)
    subst hr
    exact wpAny_execs_nil ⟨σ3, H3, I4, qn⟩
  · refine wpAny_passesOwn hp (thn (T.item X rfl rfl rfl hc i pins s3 σ3 H3 X.xe I3 (stat fr3) st3 go) fun r s4 ⟨u, hr, h4⟩ => ?_)
    subst hr
    refine wpAny_passesOwn hp (thn h4 fun _ s5 ⟨x, H5, I5, r5, y5, st5, fr5⟩ => ?_)
    have I5' := I5.pinned (stat fr5) (T.obj _ _ st5)
    refine wpAny_passesOwn hp (thn (hg _ s5 σ3 H5 x u _ I5' r5 (step x H5 y5)) fun _ s6 ⟨σ6, H6, I6, q6⟩ => ?_)
    refine wpAny_passesOwn hp (thn (hb _ s6 σ6 H6 _ I6 q6) fun f s7 q7 => ?_)
    have again : ∀ {σ7 : St} {H7 : Hp}, Inv X (pins ++ pinsAt fp s5.heap) σ7 H7 s7 → N σ7 H7 → ∃ m, m < n ∧ ∃ i σ' H', Inv X pins σ' H' s7 ∧ tn i s7.heap ∧ (∀ b ∈ fp, H' b = none) ∧ W i m σ' H' := fun {σ7 H7} I7 n7 => by
      obtain ⟨m', hm, w7⟩ := hN σ7 H7 n7
      refine ⟨m', hm, i + 1, σ7, H7, I7.unpinned, T.keep _ _ _ st5 fun b hb o e => (I7.pin (b, o) (List.mem_append_right _ (List.mem_append_right _ (mem_pinsAt hb e)))).1, fun b hb => ?_, w7⟩
      obtain ⟨o, e, d⟩ := T.obj _ _ st5 b hb
      exact (I7.pin (b, o) (List.mem_append_right _ (List.mem_append_right _ (mem_pinsAt hb e)))).2.1
    cases f with
    | next => obtain ⟨σ7, H7, I7, n7⟩ := q7; exact again I7 n7
    | cont => obtain ⟨σ7, H7, I7, n7⟩ := q7; exact again I7 n7
    | brk => obtain ⟨σ7, H7, I7, q7⟩ := q7; exact ⟨σ7, H7, I7.unpinned, q7⟩
    | ret v => obtain ⟨x7, σ7, H7, I7, r7, q7⟩ := q7; exact ⟨x7, σ7, H7, I7.unpinned, r7, q7⟩
end

/-! ### the forms one uses -/
/-- over a list that the body leaves as it is -/
theorem for_list {K : PySem.W.Frag} {a : Addr} {xs : List V} {g : TG} {tb : TS} {D : Ends} {σ : St} {H : Hp} (Pv : Nat → St → Hp → Prop) (h0 : Pv 0 σ H) (hl : ∀ i σ H, i ≤ xs.length → Pv i σ H → SqL K H a xs)
    (hs : ∀ i x σ H, xs[i]? = some x → Pv i σ H → g x σ H fun σ2 H2 => tb { D with nx := Pv (i + 1), ct := Pv (i + 1), bk := D.nx } σ2 H2) (hd : ∀ σ H, Pv xs.length σ H → D.nx σ H) :
    ∃ W : Nat → Nat → St → Hp → Prop, (∃ m, W 0 m σ H) ∧ ∀ i m σ H, W i m σ H →
      ((Itl K a).stop i H ∧ D.nx σ H) ∨ ((Itl K a).go i H ∧ ∃ N : St → Hp → Prop, (∀ σ' H', N σ' H' → ∃ m', m' < m ∧ W (i + 1) m' σ' H') ∧ ∀ x H', (Itl K a).yld i H x H' → g x σ H' fun σ2 H2 => tb { D with nx := N, ct := N, bk := D.nx } σ2 H2) := by
  refine ⟨fun i m σ H => m = xs.length - i ∧ i ≤ xs.length ∧ Pv i σ H, ⟨xs.length, by simp, Nat.zero_le _, h0⟩, ?_⟩
  rintro i m σ H ⟨rfl, hi, p⟩
  have q := hl i σ H hi p
  by_cases hlt : i < xs.length
  · refine .inr ⟨⟨xs, xs[i], q, by simp [hlt]⟩, Pv (i + 1), fun σ' H' p' => ⟨xs.length - (i + 1), by omega, rfl, hlt, p'⟩, fun x H' y => ?_⟩
    obtain ⟨e, y⟩ := y
    subst e
    exact hs i x σ _ (y xs q) p
  · have e : i = xs.length := by omega
    subst e
    exact .inl ⟨⟨xs, q, Nat.le_refl _⟩, hd σ H p⟩
theorem for_tup {K : PySem.W.Frag} {a : Addr} {xs : List V} {g : TG} {tb : TS} {D : Ends} {σ : St} {H : Hp} (Pv : Nat → St → Hp → Prop) (h0 : Pv 0 σ H) (hl : ∀ i σ H, i ≤ xs.length → Pv i σ H → SqT K H a xs)
    (hs : ∀ i x σ H, xs[i]? = some x → Pv i σ H → g x σ H fun σ2 H2 => tb { D with nx := Pv (i + 1), ct := Pv (i + 1), bk := D.nx } σ2 H2) (hd : ∀ σ H, Pv xs.length σ H → D.nx σ H) :
    ∃ W : Nat → Nat → St → Hp → Prop, (∃ m, W 0 m σ H) ∧ ∀ i m σ H, W i m σ H →
      ((Itt K a).stop i H ∧ D.nx σ H) ∨ ((Itt K a).go i H ∧ ∃ N : St → Hp → Prop, (∀ σ' H', N σ' H' → ∃ m', m' < m ∧ W (i + 1) m' σ' H') ∧ ∀ x H', (Itt K a).yld i H x H' → g x σ H' fun σ2 H2 => tb { D with nx := N, ct := N, bk := D.nx } σ2 H2) := by
  refine ⟨fun i m σ H => m = xs.length - i ∧ i ≤ xs.length ∧ Pv i σ H, ⟨xs.length, by simp, Nat.zero_le _, h0⟩, ?_⟩
  rintro i m σ H ⟨rfl, hi, p⟩
  have q := hl i σ H hi p
  by_cases hlt : i < xs.length
  · refine .inr ⟨⟨xs, xs[i], q, by simp [hlt]⟩, Pv (i + 1), fun σ' H' p' => ⟨xs.length - (i + 1), by omega, rfl, hlt, p'⟩, fun x H' y => ?_⟩
    obtain ⟨e, y⟩ := y
    subst e
    exact hs i x σ _ (y xs q) p
  · have e : i = xs.length := by omega
    subst e
    exact .inl ⟨⟨xs, q, Nat.le_refl _⟩, hd σ H p⟩
theorem for_range {lo : Int} {n : Nat} {g : TG} {tb : TS} {D : Ends} {σ : St} {H : Hp} (Pv : Nat → St → Hp → Prop) (h0 : Pv 0 σ H)
    (hs : ∀ i σ H, i < n → Pv i σ H → g (.int (lo + i)) σ H fun σ2 H2 => tb { D with nx := Pv (i + 1), ct := Pv (i + 1), bk := D.nx } σ2 H2) (hd : ∀ σ H, Pv n σ H → D.nx σ H) :
    ∃ W : Nat → Nat → St → Hp → Prop, (∃ m, W 0 m σ H) ∧ ∀ i m σ H, W i m σ H →
      ((Itr lo n).stop i H ∧ D.nx σ H) ∨ ((Itr lo n).go i H ∧ ∃ N : St → Hp → Prop, (∀ σ' H', N σ' H' → ∃ m', m' < m ∧ W (i + 1) m' σ' H') ∧ ∀ x H', (Itr lo n).yld i H x H' → g x σ H' fun σ2 H2 => tb { D with nx := N, ct := N, bk := D.nx } σ2 H2) := by
  refine ⟨fun i m σ H => m = n - i ∧ i ≤ n ∧ Pv i σ H, ⟨n, by simp, Nat.zero_le _, h0⟩, ?_⟩
  rintro i m σ H ⟨rfl, hi, p⟩
  by_cases hlt : i < n
  · refine .inr ⟨hlt, Pv (i + 1), fun σ' H' p' => ⟨n - (i + 1), by omega, rfl, hlt, p'⟩, fun x H' y => ?_⟩
    obtain ⟨e, y⟩ := y
    subst e y
    exact hs i σ _ hlt p
  · have e : i = n := by omega
    subst e
    exact .inl ⟨Nat.le_refl _, hd σ H p⟩
/-- while, by a word and a measure of the state -/
theorem while_by {c : TT} {tb : TS} {D : Ends} {σ : St} {H : Hp} (Pv : St → Hp → Prop) (μ : St → Hp → Nat) (h0 : Pv σ H)
    (hs : ∀ σ H, Pv σ H → c σ H fun b H1 => if b = true then tb { D with nx := fun σ' H' => Pv σ' H' ∧ μ σ' H' < μ σ H, ct := fun σ' H' => Pv σ' H' ∧ μ σ' H' < μ σ H, bk := D.nx } σ H1 else D.nx σ H1)
    (mono : ∀ σ H Q Q', (∀ b H1, Q b H1 → Q' b H1) → c σ H Q → c σ H Q') : tWhile c tb D σ H := by
  refine ⟨fun m σ H => m = μ σ H ∧ Pv σ H, ⟨_, rfl, h0⟩, ?_⟩
  rintro m σ H ⟨rfl, p⟩
  refine mono σ H _ _ (fun b H1 q => ?_) (hs σ H p)
  cases b with
  | true => exact ⟨_, fun σ' H' ⟨p', l⟩ => ⟨_, l, rfl, p'⟩, q⟩
  | false => exact q
end L2

namespace L2
open PySem PySem.Spec PyProof.Rows

abbrev R2 := V → V → Hp → VK → Prop
/-- a two-place operation on values: f is binaryOp op, inplaceOp op or compareOp op -/
def OpR (X : Cx) (f : Value → Value → Sem Value) (r : R2) : Prop :=
  ∀ (pins : List (Addr × Obj)) (s : Shared) (σ : St) (H : Hp) (x y : V) (v u : Value) (Q : VK), Inv X pins σ H s → RelV x v → RelV y u → r x y H Q →
    wpAny (model X.prog X.w) X.A (f v u) (EP X pins σ Q) X.xe s
/-- a one-place operation -/
def UnR (X : Cx) (f : Value → Sem Value) (r : V → Hp → VK → Prop) : Prop :=
  ∀ (pins : List (Addr × Obj)) (s : Shared) (σ : St) (H : Hp) (x : V) (v : Value) (Q : VK), Inv X pins σ H s → RelV x v → r x H Q →
    wpAny (model X.prog X.w) X.A (f v) (EP X pins σ Q) X.xe s
/-- a call of a value that is known (a builtin, a type) with values -/
def CallR (X : Cx) (f : Value) (r : List V → Hp → VK → Prop) : Prop :=
  ∀ (pins : List (Addr × Obj)) (s : Shared) (σ : St) (H : Hp) (xs : List V) (us : List Value) (Q : VK), Inv X pins σ H s → Vals xs us → r xs H Q →
    wpAny (model X.prog X.w) X.A (call f us) (EP X pins σ Q) X.xe s
/-- a value's truth -/
def TruR (X : Cx) (r : V → Hp → (Bool → Hp → Prop) → Prop) : Prop :=
  ∀ (pins : List (Addr × Obj)) (s : Shared) (σ : St) (H : Hp) (x : V) (v : Value) (Q : Bool → Hp → Prop), Inv X pins σ H s → RelV x v → r x H Q →
    wpAny (model X.prog X.w) X.A (truthy v) (TP X pins σ Q) X.xe s

def tOp (r : R2) (ta tb : TE) : TE := fun σ H Q => ta σ H fun x H1 => tb σ H1 fun y H2 => r x y H2 Q
def tUn (r : V → Hp → VK → Prop) (ta : TE) : TE := fun σ H Q => ta σ H fun x H1 => r x H1 Q
/-- ints in, under C, and a value out -/
def rI (C : Int → Int → Prop) (g : Int → Int → V) : R2 := fun x y H Q => ∃ i j, x = .int i ∧ y = .int j ∧ C i j ∧ Q (g i j) H
def rI0 (g : Int → Int → V) : R2 := fun x y H Q => ∃ i j, x = .int i ∧ y = .int j ∧ Q (g i j) H
def rU (g : Int → V) : V → Hp → VK → Prop := fun x H Q => ∃ i, x = .int i ∧ Q (g i) H

section
variable {X : Cx} {a b c : Expr} {ta tb tc : TE} {pos : Pos}

theorem binT (ha : PE X a ta) (hb : PE X b tb) {pins : List (Addr × Obj)} {s : Shared} {σ : St} {H : Hp} {R : V → V → Hp → Prop} (I : Inv X pins σ H s)
    (h : ta σ H fun x H1 => tb σ H1 fun y H2 => R x y H2) {Q : Value → Shared → Prop} {f : Value → Value → Sem Value}
    (hf : ∀ v u s2 x y H2, Inv X pins σ H2 s2 → RelV x v → RelV y u → R x y H2 → wpAny (model X.prog X.w) X.A (f v u) Q X.xe s2) :
    wpAny (model X.prog X.w) X.A (eval a X.env) (fun v s₁ => wpAny (model X.prog X.w) X.A (eval b X.env) (fun u s₂ => wpAny (model X.prog X.w) X.A (f v u) Q X.xe s₂) X.xe s₁) X.xe s := by
  refine thn (ha pins s σ H _ I h) fun v s1 ⟨x, H1, I1, r1, q1⟩ => ?_
  refine thn (hb pins s1 σ H1 _ I1 q1) fun u s2 ⟨y, H2, I2, r2, q2⟩ => ?_
  exact hf v u s2 x y H2 I2 r1 r2 q2

theorem pe_op {op : Operator} {r : R2} (ho : OpR X (binaryOp op) r) (ha : PE X a ta) (hb : PE X b tb) : PE X (.BinOp a op b pos) (tOp r ta tb) := by
  intro pins s σ H Q I h
  exact wpAny_BinOp (binT ha hb I h fun v u s2 x y H2 I2 rx ry q => ho pins s2 σ H2 x y v u Q I2 rx ry q)
theorem pe_un {op : UnaryOp} {r : V → Hp → VK → Prop} (ho : UnR X (unaryOp op) r) (ha : PE X a ta) : PE X (.UnaryOp op a pos) (tUn r ta) := by
  intro pins s σ H Q I h
  exact UnaryOp_ (thn (ha pins s σ H _ I h) fun v s1 ⟨x, H1, I1, r1, q1⟩ => ho pins s1 σ H1 x v Q I1 r1 q1)
/-- a op= e at a name: the name's slot i -/
theorem augR {op : Operator} {r : R2} (ho : OpR X (inplaceOp op) r) {pins : List (Addr × Obj)} {s : Shared} {σ : St} {H : Hp} {x y : V} {v u : Value} {Q : VK} (I : Inv X pins σ H s)
    (rx : RelV x v) (ry : RelV y u) (q : r x y H Q) : wpAny (model X.prog X.w) X.A (inplaceOp op v u) (EP X pins σ Q) X.xe s := ho pins s σ H x y v u Q I rx ry q

/-! ### ints -/
theorem opI {f : Value → Value → Sem Value} {C : Int → Int → Prop} {g : Int → Int → Int}
    (rule : ∀ (i j : Int) (t u : Tok) (s : Shared) (Q : Value → Shared → Prop) (E : Value → Shared → Prop), C i j → Q (.int (g i j) s.toks) { s with toks := s.toks + 1 } → wpAny (model X.prog X.w) X.A (f (.int i t) (.int j u)) Q E s) :
    OpR X f (rI C fun i j => .int (g i j)) := by
  intro pins s σ H x y v u Q I rx ry h
  obtain ⟨i, j, rfl, rfl, hc, q⟩ := h
  obtain ⟨t, rfl⟩ := rx
  obtain ⟨t', rfl⟩ := ry
  exact rule i j t t' s _ _ hc ⟨.int (g i j), H, I.tok _, ⟨_, rfl⟩, q⟩
theorem opI0 {f : Value → Value → Sem Value} {g : Int → Int → Int}
    (rule : ∀ (i j : Int) (t u : Tok) (s : Shared) (Q : Value → Shared → Prop) (E : Value → Shared → Prop), Q (.int (g i j) s.toks) { s with toks := s.toks + 1 } → wpAny (model X.prog X.w) X.A (f (.int i t) (.int j u)) Q E s) :
    OpR X f (rI0 fun i j => .int (g i j)) := by
  intro pins s σ H x y v u Q I rx ry h
  obtain ⟨i, j, rfl, rfl, q⟩ := h
  obtain ⟨t, rfl⟩ := rx
  obtain ⟨t', rfl⟩ := ry
  exact rule i j t t' s _ _ ⟨.int (g i j), H, I.tok _, ⟨_, rfl⟩, q⟩
theorem opB0 {f : Value → Value → Sem Value} {g : Int → Int → Bool}
    (rule : ∀ (i j : Int) (t u : Tok) (s : Shared) (Q : Value → Shared → Prop) (E : Value → Shared → Prop), Q (.bool (g i j)) s → wpAny (model X.prog X.w) X.A (f (.int i t) (.int j u)) Q E s) :
    OpR X f (rI0 fun i j => .bl (g i j)) := by
  intro pins s σ H x y v u Q I rx ry h
  obtain ⟨i, j, rfl, rfl, q⟩ := h
  obtain ⟨t, rfl⟩ := rx
  obtain ⟨t', rfl⟩ := ry
  exact rule i j t t' s _ _ ⟨.bl (g i j), H, I, rfl, q⟩

def CDiv (i j : Int) : Prop := 0 < j ∧ j < 1073741824
def CDivN (i j : Int) : Prop := j ≠ 0 ∧ j.natAbs < 1073741824
def CPow (i j : Int) : Prop := 0 ≤ j ∧ j ≤ 1000000 ∧ i.natAbs < 2 ^ 64
def CMul (i j : Int) : Prop := (-(2 ^ 64) < i ∧ i < 2 ^ 64) ∨ (-(2 ^ 64) < j ∧ j < 2 ^ 64)
theorem CMul.ok {i j : Int} (h : CMul i j) : IntMulOk i j := by
  rcases h with ⟨h1, h2⟩ | ⟨h1, h2⟩
  · exact .of_left (intBits_le_64 h1 h2)
  · exact .of_right (intBits_le_64 h1 h2)
theorem two_pow_nn (k : Nat) : (0 : Int) ≤ 2 ^ k := by
  rw [two_pow_cast]
  exact Int.natCast_nonneg _

theorem op_add : OpR X (binaryOp .Add) (rI0 fun i j => .int (i + j)) := opI0 fun _ _ _ _ _ _ _ q => add_int q
theorem op_sub : OpR X (binaryOp .Sub) (rI0 fun i j => .int (i - j)) := opI0 fun _ _ _ _ _ _ _ q => sub_int q
theorem op_mul : OpR X (binaryOp .Mult) (rI CMul fun i j => .int (i * j)) := opI fun _ _ _ _ _ _ _ hc q => mul_int q hc.ok
/-- // by a positive divisor -/
theorem op_fdiv : OpR X (binaryOp .FloorDiv) (rI CDiv fun i j => .int (i / j)) := opI fun i j _ _ _ _ _ hc q => by
  have h1 : (0 : Int) < j := hc.1
  have h2 : j < 1073741824 := hc.2
  exact floordiv_int (by omega) (by rw [Int.fdiv_eq_ediv_of_nonneg i (by omega)]; exact q) (.inl (PyProof.noPylong_small (by omega)))
theorem op_fdivN : OpR X (binaryOp .FloorDiv) (rI CDivN fun i j => .int (i.fdiv j)) := opI fun _ _ _ _ _ _ _ hc q => floordiv_int hc.1 q (.inl (PyProof.noPylong_small hc.2))
/-- % by a positive divisor of any size -/
theorem op_mod : OpR X (binaryOp .Mod) (rI (fun _ j => 0 < j) fun i j => .int (i % j)) := opI fun i j _ _ _ _ _ hc q => by
  have h1 : (0 : Int) < j := hc
  exact mod_int' (by omega) (by rw [Int.fmod_eq_emod_of_nonneg i (by omega)]; exact q)
theorem op_modN : OpR X (binaryOp .Mod) (rI (fun _ j => j ≠ 0) fun i j => .int (i.fmod j)) := opI fun _ _ _ _ _ _ _ hc q => mod_int' hc q
theorem op_pow : OpR X (binaryOp .Pow) (rI CPow fun i j => .int (i ^ j.toNat)) := opI fun _ _ _ _ _ _ _ hc q => pow_int_small hc.1 hc.2.1 hc.2.2 q
theorem op_shl : OpR X (binaryOp .LShift) (rI CPow fun i j => .int (i * 2 ^ j.toNat)) := opI fun _ _ _ _ _ _ _ hc q => lshift_int_small hc.1 hc.2.1 hc.2.2 q
theorem op_shr : OpR X (binaryOp .RShift) (rI (fun _ j => 0 ≤ j) fun i j => .int (i / 2 ^ j.toNat)) := opI fun i j _ _ _ _ _ hc q =>
  rshift_int hc (by rw [Int.fdiv_eq_ediv_of_nonneg i (two_pow_nn _)]; exact q)
theorem op_and : OpR X (binaryOp .BitAnd) (rI0 fun i j => .int (Builtin.bitAnd i j)) := opI0 fun _ _ _ _ _ _ _ q => and_int q
theorem op_or : OpR X (binaryOp .BitOr) (rI0 fun i j => .int (Builtin.bitOr i j)) := opI0 fun _ _ _ _ _ _ _ q => or_int q
theorem op_xor : OpR X (binaryOp .BitXor) (rI0 fun i j => .int (Builtin.bitXor i j)) := opI0 fun _ _ _ _ _ _ _ q => xor_int q

theorem iop_add : OpR X (inplaceOp .Add) (rI0 fun i j => .int (i + j)) := opI0 fun _ _ _ _ _ _ _ q => iadd_int q
theorem iop_sub : OpR X (inplaceOp .Sub) (rI0 fun i j => .int (i - j)) := opI0 fun _ _ _ _ _ _ _ q => isub_int q
theorem iop_mul : OpR X (inplaceOp .Mult) (rI CMul fun i j => .int (i * j)) := opI fun _ _ _ _ _ _ _ hc q => imul_int q hc.ok
theorem iop_fdiv : OpR X (inplaceOp .FloorDiv) (rI CDiv fun i j => .int (i / j)) := opI fun i j _ _ _ _ _ hc q => by
  have h1 : (0 : Int) < j := hc.1
  have h2 : j < 1073741824 := hc.2
  exact ifloordiv_int (by omega) (by rw [Int.fdiv_eq_ediv_of_nonneg i (by omega)]; exact q) (.inl (PyProof.noPylong_small (by omega)))
theorem iop_mod : OpR X (inplaceOp .Mod) (rI (fun _ j => 0 < j) fun i j => .int (i % j)) := opI fun i j _ _ _ _ _ hc q => by
  have h1 : (0 : Int) < j := hc
  exact imod_int (by omega) (by rw [Int.fmod_eq_emod_of_nonneg i (by omega)]; exact q)
theorem iop_shl : OpR X (inplaceOp .LShift) (rI CPow fun i j => .int (i * 2 ^ j.toNat)) := opI fun _ _ _ _ _ _ _ hc q => ilshift_int_small hc.1 hc.2.1 hc.2.2 q
theorem iop_shr : OpR X (inplaceOp .RShift) (rI (fun _ j => 0 ≤ j) fun i j => .int (i / 2 ^ j.toNat)) := opI fun i j _ _ _ _ _ hc q =>
  irshift_int hc (by rw [Int.fdiv_eq_ediv_of_nonneg i (two_pow_nn _)]; exact q)
theorem iop_and : OpR X (inplaceOp .BitAnd) (rI0 fun i j => .int (Builtin.bitAnd i j)) := opI0 fun _ _ _ _ _ _ _ q => iand_int q
theorem iop_or : OpR X (inplaceOp .BitOr) (rI0 fun i j => .int (Builtin.bitOr i j)) := opI0 fun _ _ _ _ _ _ _ q => ior_int q
theorem iop_xor : OpR X (inplaceOp .BitXor) (rI0 fun i j => .int (Builtin.bitXor i j)) := opI0 fun _ _ _ _ _ _ _ q => ixor_int q

theorem unI {f : Value → Sem Value} {g : Int → Int}
    (rule : ∀ (i : Int) (t : Tok) (s : Shared) (Q : Value → Shared → Prop) (E : Value → Shared → Prop), Q (.int (g i) s.toks) { s with toks := s.toks + 1 } → wpAny (model X.prog X.w) X.A (f (.int i t)) Q E s) :
    UnR X f (rU fun i => .int (g i)) := by
  intro pins s σ H x v Q I rx h
  obtain ⟨i, rfl, q⟩ := h
  obtain ⟨t, rfl⟩ := rx
  exact rule i t s _ _ ⟨.int (g i), H, I.tok _, ⟨_, rfl⟩, q⟩
theorem un_neg : UnR X (unaryOp .USub) (rU fun i => .int (-i)) := unI fun _ _ _ _ _ q => neg_int q
theorem un_inv : UnR X (unaryOp .Invert) (rU fun i => .int (Builtin.bitNot i)) := unI fun _ _ _ _ _ q => invert_int q

/-! ### bools among ints: n += (a < b) -/
theorem op_add_ib : OpR X (binaryOp .Add) (fun x y H Q => ∃ i k, x = .int i ∧ y = .bl k ∧ Q (.int (i + b2i k)) H) := by
  intro pins s σ H x y v u Q I rx ry h
  obtain ⟨i, k, rfl, rfl, q⟩ := h
  obtain ⟨t, rfl⟩ := rx
  cases ry
  exact add_int_bool ⟨.int (i + b2i k), H, I.tok _, ⟨_, rfl⟩, q⟩
end

/-! ### comparisons -/
/-- the scalars that == tells apart as data does -/
def scal : V → V → Bool
  | .non, .non => true | .non, .int _ => true | .int _, .non => true | .non, .bl _ => true | .bl _, .non => true | .non, .str _ => true | .str _, .non => true
  | .int _, .int _ => true | .bl _, .bl _ => true | .str _, .str _ => true | .byt _, .byt _ => true
  | .int _, .str _ => true | .str _, .int _ => true | .bl _, .str _ => true | .str _, .bl _ => true
  | _, _ => false
def rEq : R2 := fun x y H Q => scal x y = true ∧ Q (.bl (decide (x = y))) H
def rNe : R2 := fun x y H Q => scal x y = true ∧ Q (.bl (!decide (x = y))) H

theorem dec_int {i j : Int} : decide (V.int i = V.int j) = (i == j) := by
  rw [Bool.eq_iff_iff]
  simp
theorem dec_bl {i j : Bool} : decide (V.bl i = V.bl j) = (i == j) := by
  rw [Bool.eq_iff_iff]
  simp
theorem dec_str {i j : Str} : decide (V.str i = V.str j) = (i == j) := by
  rw [Bool.eq_iff_iff]
  simp
theorem dec_byt {i j : Array UInt8} : decide (V.byt i = V.byt j) = (i.toList == j.toList) := by
  rw [Bool.eq_iff_iff]
  cases i
  cases j
  simp

section
variable {X : Cx} {a b c : Expr} {ta tb tc : TE} {pos : Pos}
theorem fin_bl {pins : List (Addr × Obj)} {σ : St} {H : Hp} {s : Shared} {Q : VK} {k k' : Bool} (I : Inv X pins σ H s) (q : Q (.bl k) H) (e : k = k') : EP X pins σ Q (.bool k') s := by
  subst e
  exact ⟨.bl k, H, I, rfl, q⟩
theorem op_eq : OpR X (compareOp .Eq) rEq := by
  intro pins s σ H x y v u Q I rx ry h
  obtain ⟨hs, q⟩ := h
  cases x with
  | non =>
    cases rx
    cases y with
    | non => cases ry; exact PySem.EqNone.eq_none_none (fin_bl I q (by simp))
    | bl j => cases ry; exact PySem.EqNone.eq_none_bool (fin_bl I q (by simp))
    | int j => obtain ⟨t', rfl⟩ := ry; exact PySem.EqNone.eq_none_int (fin_bl I q (by simp))
    | str j => obtain ⟨t', rfl⟩ := ry; exact PySem.EqNone.eq_none_str (fin_bl I q (by simp))
    | _ => exact absurd (show false = true from hs) Bool.false_ne_true
  | bl i =>
    cases rx
    cases y with
    | non => cases ry; exact PySem.EqNone.eq_bool_none (fin_bl I q (by simp))
    | bl j => cases ry; exact eq_bool (fin_bl I q dec_bl)
    | str j => obtain ⟨t', rfl⟩ := ry; exact PySem.EqMixed.eq_bool_str (fin_bl I q (by simp))
    | _ => exact absurd (show false = true from hs) Bool.false_ne_true
  | int i =>
    obtain ⟨t, rfl⟩ := rx
    cases y with
    | non => cases ry; exact PySem.EqNone.eq_int_none (fin_bl I q (by simp))
    | int j => obtain ⟨t', rfl⟩ := ry; exact eq_int (fin_bl I q dec_int)
    | str j => obtain ⟨t', rfl⟩ := ry; exact PySem.EqMixed.eq_int_str (fin_bl I q (by simp))
    | _ => exact absurd (show false = true from hs) Bool.false_ne_true
  | str i =>
    obtain ⟨t, rfl⟩ := rx
    cases y with
    | non => cases ry; exact PySem.EqNone.eq_str_none (fin_bl I q (by simp))
    | bl j => cases ry; exact PySem.EqMixed.eq_str_bool (fin_bl I q (by simp))
    | int j => obtain ⟨t', rfl⟩ := ry; exact PySem.EqMixed.eq_str_int (fin_bl I q (by simp))
    | str j => obtain ⟨t', rfl⟩ := ry; exact eq_str (fin_bl I q dec_str)
    | _ => exact absurd (show false = true from hs) Bool.false_ne_true
  | byt i =>
    obtain ⟨t, rfl⟩ := rx
    cases y with
    | byt j => obtain ⟨t', rfl⟩ := ry; exact PySem.W.eq_bytes (fin_bl I q dec_byt)
    | _ => exact absurd (show false = true from hs) Bool.false_ne_true
  | _ => cases y <;> exact absurd (show false = true from hs) Bool.false_ne_true
theorem op_ne : OpR X (compareOp .NotEq) rNe := by
  intro pins s σ H x y v u Q I rx ry h
  obtain ⟨hs, q⟩ := h
  cases x with
  | non =>
    cases rx
    cases y with
    | non => cases ry; exact PySem.EqNone.ne_none_none (fin_bl I q (by simp))
    | bl j => cases ry; exact PySem.EqNone.ne_none_bool (fin_bl I q (by simp))
    | int j => obtain ⟨t', rfl⟩ := ry; exact PySem.EqNone.ne_none_int (fin_bl I q (by simp))
    | str j => obtain ⟨t', rfl⟩ := ry; exact PySem.EqNone.ne_none_str (fin_bl I q (by simp))
    | _ => exact absurd (show false = true from hs) Bool.false_ne_true
  | bl i =>
    cases rx
    cases y with
    | non => cases ry; exact PySem.EqNone.ne_bool_none (fin_bl I q (by simp))
    | bl j => cases ry; exact ne_bool (fin_bl I q (congrArg not dec_bl))
    | str j => obtain ⟨t', rfl⟩ := ry; exact PySem.EqMixed.ne_bool_str (fin_bl I q (by simp))
    | _ => exact absurd (show false = true from hs) Bool.false_ne_true
  | int i =>
    obtain ⟨t, rfl⟩ := rx
    cases y with
    | non => cases ry; exact PySem.EqNone.ne_int_none (fin_bl I q (by simp))
    | int j => obtain ⟨t', rfl⟩ := ry; exact ne_int (fin_bl I q (congrArg not dec_int))
    | str j => obtain ⟨t', rfl⟩ := ry; exact PySem.EqMixed.ne_int_str (fin_bl I q (by simp))
    | _ => exact absurd (show false = true from hs) Bool.false_ne_true
  | str i =>
    obtain ⟨t, rfl⟩ := rx
    cases y with
    | non => cases ry; exact PySem.EqNone.ne_str_none (fin_bl I q (by simp))
    | bl j => cases ry; exact PySem.EqMixed.ne_str_bool (fin_bl I q (by simp))
    | int j => obtain ⟨t', rfl⟩ := ry; exact PySem.EqMixed.ne_str_int (fin_bl I q (by simp))
    | str j => obtain ⟨t', rfl⟩ := ry; exact ne_str (fin_bl I q (congrArg not dec_str))
    | _ => exact absurd (show false = true from hs) Bool.false_ne_true
  | byt i =>
    obtain ⟨t, rfl⟩ := rx
    cases y with
    | byt j => obtain ⟨t', rfl⟩ := ry; exact PySem.W.ne_bytes (fin_bl I q (congrArg not dec_byt))
    | _ => exact absurd (show false = true from hs) Bool.false_ne_true
  | _ => cases y <;> exact absurd (show false = true from hs) Bool.false_ne_true

theorem op_lt : OpR X (compareOp .Lt) (rI0 fun i j => .bl (decide (i < j))) := opB0 fun _ _ _ _ _ _ _ q => lt_int q
theorem op_le : OpR X (compareOp .LtE) (rI0 fun i j => .bl (decide (i ≤ j))) := opB0 fun _ _ _ _ _ _ _ q => le_int q
theorem op_gt : OpR X (compareOp .Gt) (rI0 fun i j => .bl (decide (j < i))) := opB0 fun _ _ _ _ _ _ _ q => gt_int q
theorem op_ge : OpR X (compareOp .GtE) (rI0 fun i j => .bl (decide (j ≤ i))) := opB0 fun _ _ _ _ _ _ _ q => ge_int q
theorem op_lt_str : OpR X (compareOp .Lt) (fun x y H Q => ∃ i j, x = .str i ∧ y = .str j ∧ Q (.bl (decide (i.cps.toList < j.cps.toList))) H) := by
  intro pins s σ H x y v u Q I rx ry h
  obtain ⟨i, j, rfl, rfl, q⟩ := h
  obtain ⟨t, rfl⟩ := rx
  obtain ⟨t', rfl⟩ := ry
  exact lt_str (fin_bl I q rfl)
/-- the one string within the other -/
theorem op_in_str : OpR X (compareOp .In) (fun x y H Q => ∃ i j, x = .str i ∧ y = .str j ∧ Q (.bl (!(Builtin.Str.occurrences j i 0 j.length 1).isEmpty)) H) := by
  intro pins s σ H x y v u Q I rx ry h
  obtain ⟨i, j, rfl, rfl, q⟩ := h
  obtain ⟨t, rfl⟩ := rx
  obtain ⟨t', rfl⟩ := ry
  exact in_str (fin_bl I q rfl)

/-- is None, is not None: the right side a value none -/
theorem op_isN : OpR X (compareOp .Is) (fun x y H Q => y = .non ∧ Q (.bl (decide (x = .non))) H) := by
  intro pins s σ H x y v u Q I rx ry h
  obtain ⟨rfl, q⟩ := h
  cases ry
  refine is_none_gen (fin_bl I q ?_)
  cases x <;> first
    | (cases rx; rfl)
    | (obtain ⟨t, rfl⟩ := rx; rfl)
theorem op_notN : OpR X (compareOp .IsNot) (fun x y H Q => y = .non ∧ Q (.bl (!decide (x = .non))) H) := by
  intro pins s σ H x y v u Q I rx ry h
  obtain ⟨rfl, q⟩ := h
  cases ry
  refine isnot_none_gen (fin_bl I q ?_)
  cases x <;> first
    | (cases rx; rfl)
    | (obtain ⟨t, rfl⟩ := rx; rfl)

theorem op_notin_str : OpR X (compareOp .NotIn) (fun x y H Q => ∃ i j, x = .str i ∧ y = .str j ∧ Q (.bl (!(!(Builtin.Str.occurrences j i 0 j.length 1).isEmpty))) H) := by
  intro pins s σ H x y v u Q I rx ry h
  obtain ⟨i, j, rfl, rfl, q⟩ := h
  obtain ⟨t, rfl⟩ := rx
  obtain ⟨t', rfl⟩ := ry
  exact notIn_str (fin_bl I q rfl)
/-- is, is not of two objects that are tracked lists or instances -/
def isObj : HO → Bool
  | .lst _ => true
  | .ins _ _ _ => true
  | _ => false
theorem obj_there {pins : List (Addr × Obj)} {s : Shared} {σ : St} {H : Hp} {a : Addr} {o : HO} (I : Inv X pins σ H s) (h : H a = some o) (p : isObj o = true) : ∃ ob, s.heap.get? a = some ob ∧ ob.cls ≠ .type "tuple" := by
  cases o with
  | lst xs =>
    obtain ⟨_, its, n, _, e⟩ : xs.length ≤ sizeLine ∧ ∃ (its : List Value) (n : Nat), Vals xs its ∧ s.heap.get? a = some { cls := .type "list", data := .seq its.toArray n } := I.hok a _ h
    exact ⟨_, e, (by show Value.type "list" ≠ .type "tuple"; decide +kernel)⟩
  | ins C dx fs =>
    have x := I.hok a _ h
    obtain ⟨_, _, _, e, _⟩ := x
    exact ⟨_, e, (by show Value.ref C ≠ .type "tuple"; exact fun z => by cases z)⟩
  | _ => exact absurd (show false = true from p) Bool.false_ne_true
theorem op_is_ref : OpR X (compareOp .Is) (fun x y H Q => ∃ a b oa ob, x = .ref a ∧ y = .ref b ∧ H a = some oa ∧ isObj oa = true ∧ H b = some ob ∧ isObj ob = true ∧ Q (.bl (decide (a = b))) H) := by
  intro pins s σ H x y v u Q I rx ry h
  obtain ⟨a, b, oa, ob, rfl, rfl, ha, pa, hb, pb, q⟩ := h
  cases rx
  cases ry
  obtain ⟨o1, e1, n1⟩ := obj_there I ha pa
  obtain ⟨o2, e2, _⟩ := obj_there I hb pb
  by_cases z : a = b
  · subst z
    exact wpAny_is_ref_self (fin_bl I q (by simp))
  · exact wpAny_is_ref_other z e1 e2 n1 (fin_bl I q (by simp [z]))
theorem op_isnot_ref : OpR X (compareOp .IsNot) (fun x y H Q => ∃ a b oa ob, x = .ref a ∧ y = .ref b ∧ H a = some oa ∧ isObj oa = true ∧ H b = some ob ∧ isObj ob = true ∧ Q (.bl (!decide (a = b))) H) := by
  intro pins s σ H x y v u Q I rx ry h
  obtain ⟨a, b, oa, ob, rfl, rfl, ha, pa, hb, pb, q⟩ := h
  cases rx
  cases ry
  obtain ⟨o1, e1, n1⟩ := obj_there I ha pa
  obtain ⟨o2, e2, _⟩ := obj_there I hb pb
  by_cases z : a = b
  · subst z
    exact wpAny_isNot_ref_self (fin_bl I q (by simp))
  · exact wpAny_isNot_ref_other z e1 e2 n1 (fin_bl I q (by simp [z]))

/-- two rules for one operation: by cases -/
theorem OpR.or {f : Value → Value → Sem Value} {r r' : R2} (h : OpR X f r) (h' : OpR X f r') : OpR X f (fun x y H Q => r x y H Q ∨ r' x y H Q) := by
  intro pins s σ H x y v u Q I rx ry q
  rcases q with q | q
  · exact h pins s σ H x y v u Q I rx ry q
  · exact h' pins s σ H x y v u Q I rx ry q

theorem nomark (b : Expr) {op : CmpOp} (h : op ≠ .In := by decide) (h2 : op ≠ .NotIn := by decide) : behindInMarks op b = false := by
  have e1 : (op == CmpOp.In) = false := by cases op <;> first | rfl | exact absurd rfl h
  have e2 : (op == CmpOp.NotIn) = false := by cases op <;> first | rfl | exact absurd rfl h2
  cases b <;> simp [behindInMarks, e1, e2]
/-- a comparison as a value; hm: nomark b, or (for in, not in) by with_unfolding_all rfl -/
theorem pe_cmpR {op : CmpOp} {r : R2} (ho : OpR X (compareOp op) r) (ha : PE X a ta) (hb : PE X b tb) (hm : behindInMarks op b = false) : PE X (.Compare a [op] [b] pos) (tOp r ta tb) := by
  intro pins s σ H Q I h
  exact wpAny_Compare1 (binT ha hb I h fun v u s2 x y H2 I2 rx ry q => ho pins s2 σ H2 x y v u Q I2 rx ry q) hm
/-- a reading of a value as a test -/
def tTest (t : TE) : TT := fun σ H Q => t σ H fun x H' => ∃ k, x = .bl k ∧ Q k H'
theorem pt_cmpR {op : CmpOp} {r : R2} (ho : OpR X (compareOp op) r) (ha : PE X a ta) (hb : PE X b tb) (hm : behindInMarks op b = false) : PT X (.Compare a [op] [b] pos) (tTest (tOp r ta tb)) := by
  intro pins s σ H Q I h
  refine wpAny_isTrue_Compare1 (thn (ha pins s σ H _ I h) fun v s1 ⟨x, H1, I1, r1, q1⟩ => thn (hb pins s1 σ H1 _ I1 q1) fun u s2 ⟨y, H2, I2, r2, q2⟩ =>
    thn (ho pins s2 σ H2 x y v u _ I2 r1 r2 q2) fun c s3 ⟨z, H3, I3, r3, k, e, q3⟩ => ?_) hm
  subst e
  cases r3
  exact wpAny_truthy_bool ⟨H3, I3, q3⟩
/-- a op1 b op2 c -/
def tChain (r r' : R2) (ta tb tc : TE) : TE := fun σ H Q => ta σ H fun x H1 => tb σ H1 fun y H2 => r x y H2 fun z H3 => ∃ k, z = .bl k ∧
  (if k = true then tc σ H3 fun w' H4 => r' y w' H4 Q else Q (.bl false) H3)
theorem pe_chain {op op' : CmpOp} {r r' : R2} (ho : OpR X (compareOp op) r) (ho' : OpR X (compareOp op') r') (ha : PE X a ta) (hb : PE X b tb) (hc : PE X c tc)
    (hm : lastMarks [op, op'] [b, c] = false := by with_unfolding_all rfl) : PE X (.Compare a [op, op'] [b, c] pos) (tChain r r' ta tb tc) := by
  intro pins s σ H Q I h
  refine Compare_chain (thn (ha pins s σ H _ I h) fun v s1 ⟨x, H1, I1, r1, q1⟩ => chain_link (thn (hb pins s1 σ H1 _ I1 q1) fun u s2 ⟨y, H2, I2, r2, q2⟩ =>
    thn (ho pins s2 σ H2 x y v u _ I2 r1 r2 q2) fun d s3 ⟨z, H3, I3, r3, k, e, q3⟩ => ?_)) hm
  subst e
  cases r3
  refine wpAny_truthy_bool ?_
  cases k with
  | false => exact ite_ff ⟨.bl false, H3, I3, rfl, q3⟩
  | true => exact ite_tt (chain_last (thn (hc pins s3 σ H3 _ I3 q3) fun w' s4 ⟨z', H4, I4, r4, q4⟩ => ho' pins s4 σ H4 y z' u w' Q I4 r2 r4 q4))
theorem pt_chain {op op' : CmpOp} {r r' : R2} (ho : OpR X (compareOp op) r) (ho' : OpR X (compareOp op') r') (ha : PE X a ta) (hb : PE X b tb) (hc : PE X c tc)
    (hm : lastMarks [op, op'] [b, c] = false := by with_unfolding_all rfl) : PT X (.Compare a [op, op'] [b, c] pos) (tTest (tChain r r' ta tb tc)) := by
  intro pins s σ H Q I h
  refine isTrue_chain (thn (ha pins s σ H _ I h) fun v s1 ⟨x, H1, I1, r1, q1⟩ => test_link (thn (hb pins s1 σ H1 _ I1 q1) fun u s2 ⟨y, H2, I2, r2, q2⟩ =>
    thn (ho pins s2 σ H2 x y v u _ I2 r1 r2 q2) fun d s3 ⟨z, H3, I3, r3, k, e, q3⟩ => ?_)) hm
  subst e
  cases r3
  refine wpAny_truthy_bool ?_
  cases k with
  | false =>
    obtain ⟨k', e', q'⟩ := q3
    cases e'
    exact ite_ff ⟨H3, I3, q'⟩
  | true =>
    refine ite_tt (test_last (thn (hc pins s3 σ H3 _ I3 q3) fun w' s4 ⟨z', H4, I4, r4, q4⟩ => thn (ho' pins s4 σ H4 y z' u w' _ I4 r2 r4 q4) fun d' s5 ⟨z2, H5, I5, r5, k2, e2, q5⟩ => ?_))
    subst e2
    cases r5
    exact wpAny_truthy_bool ⟨H5, I5, q5⟩

/-! ### truth -/
/-- a value's truth by the abstract heap -/
def TruV (K : PySem.W.Frag) (x : V) (H : Hp) (k : Bool) : Prop :=
  match x with
  | .non => k = false
  | .bl b => k = b
  | .int i => k = (i != 0)
  | .str y => y.length ≤ sizeLine ∧ k = ((y.length : Int) != 0)
  | .byt y => y.size ≤ sizeLine ∧ k = ((y.size : Int) != 0)
  | .ref p => (∃ xs, SqL K H p xs ∧ k = !xs.isEmpty) ∨ (∃ xs, SqT K H p xs ∧ k = !xs.isEmpty) ∨ ∃ kvs, H p = some (.dK kvs) ∧ k = !kvs.isEmpty
  | _ => False
theorem isEmpty_kv {κ : Type} {kvs : List (κ × V)} {vs : List (κ × Value)} (r : KV kvs vs) : (!vs.isEmpty) = !kvs.isEmpty := by
  cases r <;> rfl
theorem isEmpty_of {xs : List V} {its : List Value} (r : Vals xs its) : (!its.toArray.isEmpty) = !xs.isEmpty := by
  cases r <;> simp
theorem line63 : (sizeLine : Nat) < 2 ^ 63 := by rw [sizeLine_eq]; decide
theorem tru_ok : TruR X (fun x H Q => ∃ k, TruV X.K x H k ∧ Q k H) := by
  intro pins s σ H x v Q I rx h
  obtain ⟨k, e, q⟩ := h
  have hl := line63
  have hs : sizeLine = 16777216 := sizeLine_eq
  cases x with
  | non =>
    cases rx
    have e' : k = false := e
    subst e'
    exact truthy_none ⟨H, I, q⟩
  | bl b =>
    cases rx
    have e' : k = b := e
    subst e'
    exact wpAny_truthy_bool ⟨H, I, q⟩
  | int i =>
    obtain ⟨t, rfl⟩ := rx
    have e' : k = (i != 0) := e
    subst e'
    exact PySem.P.truthy_int ⟨H, I, q⟩
  | str y =>
    obtain ⟨t, rfl⟩ := rx
    obtain ⟨hy, e'⟩ : y.length ≤ sizeLine ∧ k = ((y.length : Int) != 0) := e
    subst e'
    exact PySem.P.truthy_str (by omega) ⟨H, I.tok _, q⟩
  | byt y =>
    obtain ⟨t, rfl⟩ := rx
    obtain ⟨hy, e'⟩ : y.size ≤ sizeLine ∧ k = ((y.size : Int) != 0) := e
    subst e'
    exact PySem.W.truthy_bytes (by omega) ⟨H, I.tok _, q⟩
  | ref p =>
    cases rx
    have e' : (∃ xs, SqL X.K H p xs ∧ k = !xs.isEmpty) ∨ (∃ xs, SqT X.K H p xs ∧ k = !xs.isEmpty) ∨ ∃ kvs, H p = some (.dK kvs) ∧ k = !kvs.isEmpty := e
    rcases e' with ⟨xs, hx, e'⟩ | ⟨xs, hx, e'⟩ | ⟨kvs, hx, e'⟩
    · subst e'
      obtain ⟨its, r, pl, hz⟩ := I.list hx
      have hlen := r.length
      exact wpAny_truthy_list pl.isList (by simp only [List.size_toArray]; omega) ⟨H, I.tok _, by rw [isEmpty_of r]; exact q⟩
    · subst e'
      obtain ⟨its, r, pl, hz⟩ := I.tuple hx
      have hlen := r.length
      exact truthy_tuple pl (by simp only [List.size_toArray]; omega) ⟨H, I.tok _, by rw [isEmpty_of r]; exact q⟩
    · subst e'
      obtain ⟨hz, hS, vs, r, m⟩ : kvs.length ≤ sizeLine ∧ (p == sysModules) = false ∧ ∃ vs, KV kvs vs ∧ s.heap.DictOf (mixKind X.prog X.w) p vs := I.hok p _ hx
      have hlen : kvs.length = vs.length := Paired.length r
      exact wpAny_truthy_dict hS m (by omega) ⟨H, I.tok _, by rw [isEmpty_kv r]; exact q⟩
  | _ => exact (show False from e).elim
/-- any expression whose test is its value's truth (a name, a call, a subscript, a field ..: he by fun _ => rfl) -/
theorem pt_truth (ha : PE X a ta) (he : ∀ whole, isTrue a X.env whole = (do let v ← whole; standAt a.pos; holding [v] (truthy v))) :
    PT X a (fun σ H Q => ta σ H fun x H' => ∃ k, TruV X.K x H' k ∧ Q k H') := by
  intro pins s σ H Q I h
  exact isTrue_plain (thn (ha pins s σ H _ I h) fun v s1 ⟨x, H1, I1, r1, q1⟩ => tru_ok pins s1 σ H1 x v Q I1 r1 q1) (he _)

/-! ### strs and bytes -/
theorem pe_byt {x : List UInt8} {k : Nat} : PE X (.Constant (.bytes x) k pos) (fun _ H Q => Q (.byt x.toArray) H) := fun _ _ _ H _ I h => PySem.W.Constant_bytes ⟨.byt x.toArray, H, I.tok _, ⟨_, rfl⟩, h⟩
theorem op_add_str : OpR X (binaryOp .Add) (fun x y H Q => ∃ i j, x = .str i ∧ y = .str j ∧ i.length + j.length ≤ sizeLine ∧ Q (.str (i ++ j)) H) := by
  intro pins s σ H x y v u Q I rx ry h
  obtain ⟨i, j, rfl, rfl, hz, q⟩ := h
  obtain ⟨t, rfl⟩ := rx
  obtain ⟨t', rfl⟩ := ry
  exact add_str (fun t' tk => ⟨.str (i ++ j), H, I.tok _, ⟨_, rfl⟩, q⟩) hz
theorem iop_add_str : OpR X (inplaceOp .Add) (fun x y H Q => ∃ i j, x = .str i ∧ y = .str j ∧ i.length + j.length ≤ sizeLine ∧ Q (.str (i ++ j)) H) := by
  intro pins s σ H x y v u Q I rx ry h
  obtain ⟨i, j, rfl, rfl, hz, q⟩ := h
  obtain ⟨t, rfl⟩ := rx
  obtain ⟨t', rfl⟩ := ry
  exact iadd_str (fun t' tk => ⟨.str (i ++ j), H, I.tok _, ⟨_, rfl⟩, q⟩) hz
theorem op_add_byt : OpR X (binaryOp .Add) (fun x y H Q => ∃ i j, x = .byt i ∧ y = .byt j ∧ i.size + j.size ≤ 16777216 ∧ Q (.byt (i ++ j)) H) := by
  intro pins s σ H x y v u Q I rx ry h
  obtain ⟨i, j, rfl, rfl, hz, q⟩ := h
  obtain ⟨t, rfl⟩ := rx
  obtain ⟨t', rfl⟩ := ry
  exact PySem.W.KBy.add_bytes hz (fun t' tk => ⟨.byt (i ++ j), H, I.tok _, ⟨_, rfl⟩, q⟩)

def PlainIxT (b : Expr) : Prop := ∀ o i, subscripted b false o i = operate [o, i] (getItem o i)
/-- s[i], 0 ≤ i < len -/
theorem pe_item_str (ha : PE X a ta) (hb : PE X b tb) (hs : PlainIxT b) :
    PE X (.Subscript a b pos) (tOp (fun x y H Q => ∃ z i c, x = .str z ∧ y = .int i ∧ 0 ≤ i ∧ i < 2 ^ 63 ∧ i < z.length ∧ z.cps[i.toNat]? = some c ∧ Q (.str ⟨#[c]⟩) H) ta tb) := by
  intro pins s σ H Q I h
  refine Subscript_ (binT ha hb I h fun v u s2 x y H2 I2 rx ry q => ?_)
  obtain ⟨z, i, c, rfl, rfl, h0, h63, h1, hc, q⟩ := q
  obtain ⟨t, rfl⟩ := rx
  obtain ⟨t', rfl⟩ := ry
  have e : seqIndex? i z.length = some i.toNat := PySem.StrLaws.seqIndex_nonneg h0 h1
  exact tail_any (typeIs_str s2 z t) slot_str_getitem.lookup (getItem_str (c := c) (by
    have e1 : decide (i < -(2 ^ 63 : Int)) = false := decide_eq_false (by omega)
    have e2 : decide (i ≥ 2 ^ 63) = false := decide_eq_false (by omega)
    rw [e1, e2] <;> rfl) (by rw [e]; exact hc) ⟨.str ⟨#[c]⟩, H2, I2.tok _, ⟨_, rfl⟩, q⟩) (hs _ _)
/-- b[i], 0 ≤ i < len -/
theorem pe_item_byt (ha : PE X a ta) (hb : PE X b tb) (hs : PlainIxT b) :
    PE X (.Subscript a b pos) (tOp (fun x y H Q => ∃ (z : List UInt8) (i : Int), x = .byt z.toArray ∧ y = .int i ∧ z.length ≤ sizeLine ∧ 0 ≤ i ∧ i < z.length ∧ Q (.int ((z.getD i.toNat 0).toNat : Nat)) H) ta tb) := by
  intro pins s σ H Q I h
  refine Subscript_ (binT ha hb I h fun v u s2 x y H2 I2 rx ry q => ?_)
  obtain ⟨z, i, rfl, rfl, hz, h0, h1, q⟩ := q
  obtain ⟨t, rfl⟩ := rx
  obtain ⟨t', rfl⟩ := ry
  have hl : sizeLine = 16777216 := sizeLine_eq
  exact tail_any (PySem.W.typeIs_bytes s2 z.toArray t) PySem.W.FB.slot_bytes_getitem.lookup (PySem.W.getItem_bytes (by omega) h0 h1 ⟨.int ((z.getD i.toNat 0).toNat : Nat), H2, I2.tok _, ⟨_, rfl⟩, q⟩) (hs _ _)

/-! ### scalar builtins, by CallR -/
theorem vals1 {x : V} {us : List Value} (r : Vals [x] us) : ∃ u, us = [u] ∧ RelV x u := by
  cases r with
  | cons r1 r2 => cases r2; exact ⟨_, rfl, r1⟩
theorem vals2 {x y : V} {us : List Value} (r : Vals [x, y] us) : ∃ u w', us = [u, w'] ∧ RelV x u ∧ RelV y w' := by
  cases r with
  | cons r1 r2 =>
    cases r2 with
    | cons r3 r4 => cases r4; exact ⟨_, _, rfl, r1, r3⟩
theorem call_abs : CallR X (.builtin "abs") (fun xs H Q => ∃ i, xs = [.int i] ∧ Q (.int (if i < 0 then -i else i)) H) := by
  intro pins s σ H xs us Q I r h
  obtain ⟨i, rfl, q⟩ := h
  obtain ⟨u, rfl, t, rfl⟩ := vals1 r
  exact call_abs_int fun u tk => ⟨.int (if i < 0 then -i else i), H, I.tok _, ⟨_, rfl⟩, q⟩
theorem call_max2 (hc : X.calm = true) : CallR X (.builtin "max") (fun xs H Q => ∃ i j, xs = [.int i, .int j] ∧ Q (.int (if j > i then j else i)) H) := by
  intro pins s σ H xs us Q I r h
  obtain ⟨i, j, rfl, q⟩ := h
  obtain ⟨u, w', rfl, ⟨t, rfl⟩, ⟨t', rfl⟩⟩ := vals2 r
  refine max_two_ints (I.ok.hd hc) fun h' tk k => ⟨_, H, I.kept k, ?_, q⟩
  by_cases hj : j > i
  · rw [if_pos hj, if_pos hj]; exact ⟨_, rfl⟩
  · rw [if_neg hj, if_neg hj]; exact ⟨_, rfl⟩
theorem call_min2 (hc : X.calm = true) : CallR X (.builtin "min") (fun xs H Q => ∃ i j, xs = [.int i, .int j] ∧ Q (.int (if j < i then j else i)) H) := by
  intro pins s σ H xs us Q I r h
  obtain ⟨i, j, rfl, q⟩ := h
  obtain ⟨u, w', rfl, ⟨t, rfl⟩, ⟨t', rfl⟩⟩ := vals2 r
  refine min_two_ints (I.ok.hd hc) fun h' tk k => ⟨_, H, I.kept k, ?_, q⟩
  by_cases hj : j < i
  · rw [if_pos hj, if_pos hj]; exact ⟨_, rfl⟩
  · rw [if_neg hj, if_neg hj]; exact ⟨_, rfl⟩
theorem call_int1 : CallR X (.type "int") (fun xs H Q => (∃ i, xs = [.int i] ∧ Q (.int i) H) ∨ ∃ k, xs = [.bl k] ∧ Q (.int (if k then 1 else 0)) H) := by
  intro pins s σ H xs us Q I r h
  rcases h with ⟨i, rfl, q⟩ | ⟨k, rfl, q⟩
  · obtain ⟨u, rfl, t, rfl⟩ := vals1 r
    exact call_int_int ⟨.int i, H, I, ⟨_, rfl⟩, q⟩
  · obtain ⟨u, rfl, r1⟩ := vals1 r
    cases r1
    exact call_int_bool ⟨.int (if k then 1 else 0), H, I.tok _, ⟨_, rfl⟩, q⟩
theorem call_bool1 : CallR X (.type "bool") (fun xs H Q => (∃ i, xs = [.int i] ∧ Q (.bl (i != 0)) H) ∨ ∃ k, xs = [.bl k] ∧ Q (.bl k) H) := by
  intro pins s σ H xs us Q I r h
  rcases h with ⟨i, rfl, q⟩ | ⟨k, rfl, q⟩
  · obtain ⟨u, rfl, t, rfl⟩ := vals1 r
    exact call_bool_int ⟨.bl (i != 0), H, I, rfl, q⟩
  · obtain ⟨u, rfl, r1⟩ := vals1 r
    cases r1
    exact call_bool_bool ⟨.bl k, H, I, rfl, q⟩
theorem call_str_int : CallR X (.type "str") (fun xs H Q => ∃ i, xs = [.int i] ∧ i.natAbs.log2 < 1920 ∧ Q (.str (toString i)) H) := by
  intro pins s σ H xs us Q I r h
  obtain ⟨i, rfl, hz, q⟩ := h
  obtain ⟨u, rfl, t, rfl⟩ := vals1 r
  exact PySem.P.str_of_int hz ⟨.str _, H, I.tok _, ⟨_, rfl⟩, q⟩
theorem call_ord : CallR X (.builtin "ord") (fun xs H Q => ∃ x, xs = [.str x] ∧ x.length = 1 ∧ Q (.int (x.cps.getD 0 0 : Nat)) H) := by
  intro pins s σ H xs us Q I r h
  obtain ⟨x, rfl, hz, q⟩ := h
  obtain ⟨u, rfl, t, rfl⟩ := vals1 r
  exact ord_of_one hz ⟨.int _, H, I.tok _, ⟨_, rfl⟩, q⟩
theorem call_chr : CallR X (.builtin "chr") (fun xs H Q => ∃ i, xs = [.int i] ∧ 0 ≤ i ∧ i ≤ 1114111 ∧ Q (.str ⟨#[i.toNat]⟩) H) := by
  intro pins s σ H xs us Q I r h
  obtain ⟨i, rfl, h0, h1, q⟩ := h
  obtain ⟨u, rfl, t, rfl⟩ := vals1 r
  exact chr_of_range h0 h1 ⟨.str _, H, I.tok _, ⟨_, rfl⟩, q⟩
/-- len of a str, a bytes, a list, a tuple -/
def LenV (K : PySem.W.Frag) (x : V) (H : Hp) (n : Nat) : Prop :=
  match x with
  | .str y => y.length ≤ sizeLine ∧ n = y.length
  | .byt y => y.size ≤ sizeLine ∧ n = y.size
  | .ref p => (∃ xs, SqL K H p xs ∧ n = xs.length) ∨ ∃ xs, SqT K H p xs ∧ n = xs.length
  | _ => False
theorem call_len : CallR X (.builtin "len") (fun xs H Q => ∃ x n, xs = [x] ∧ LenV X.K x H n ∧ Q (.int n) H) := by
  intro pins s σ H xs us Q I r h
  obtain ⟨x, n, rfl, e, q⟩ := h
  obtain ⟨u, rfl, rx⟩ := vals1 r
  have hl := line63
  have hs : sizeLine = 16777216 := sizeLine_eq
  cases x with
  | str y =>
    obtain ⟨t, rfl⟩ := rx
    obtain ⟨hy, e'⟩ : y.length ≤ sizeLine ∧ n = y.length := e
    subst e'
    exact len_str (by omega) ⟨.int _, H, I.tok _, ⟨_, rfl⟩, q⟩
  | byt y =>
    obtain ⟨t, rfl⟩ := rx
    obtain ⟨hy, e'⟩ : y.size ≤ sizeLine ∧ n = y.size := e
    subst e'
    exact PySem.W.len_bytes (by omega) ⟨.int _, H, I.tok _, ⟨_, rfl⟩, q⟩
  | ref p =>
    cases rx
    have e' : (∃ xs, SqL X.K H p xs ∧ n = xs.length) ∨ ∃ xs, SqT X.K H p xs ∧ n = xs.length := e
    rcases e' with ⟨xs, hx, e'⟩ | ⟨xs, hx, e'⟩
    · subst e'
      obtain ⟨its, r', pl, hz⟩ := I.list hx
      have hlen := r'.length
      exact Calls.call_len_list pl.isList (by simp only [List.size_toArray]; omega) ⟨.int xs.length, H, I.tok _, ⟨_, by simp only [List.size_toArray]; rw [hlen]⟩, q⟩
    · subst e'
      obtain ⟨its, r', pl, hz⟩ := I.tuple hx
      have hlen := r'.length
      exact len_tuple pl (by simp only [List.size_toArray]; omega) ⟨.int xs.length, H, I.tok _, ⟨_, by simp only [List.size_toArray]; rw [hlen]⟩, q⟩
  | _ => exact (show False from e).elim
/-- divmod: a new tuple -/
theorem call_divmod : CallR X (.builtin "divmod") (fun xs H Q => ∃ i j, xs = [.int i, .int j] ∧ CDiv i j ∧ ∀ p, H p = none → Q (.ref p) (upd H p (.tup [.int (i / j), .int (i % j)]))) := by
  intro pins s σ H xs us Q I r h
  obtain ⟨i, j, rfl, ⟨h1, h2⟩, q⟩ := h
  obtain ⟨u, w', rfl, ⟨t, rfl⟩, ⟨t', rfl⟩⟩ := vals2 r
  refine divmod_int (by omega) ?_ (.inl (PyProof.noPylong_small (by omega)))
  rw [Int.fdiv_eq_ediv_of_nonneg i (by omega), Int.fmod_eq_emod_of_nonneg i (by omega)]
  have hn : H s.heap.objs.size = none := I.hok.fresh (Nat.le_refl _)
  refine ⟨.ref s.heap.objs.size, _, ?_, rfl, q _ hn⟩
  refine I.laid (fun b o e => Heap.get?_push_of_some _ e) (Nat.le_refl _) ⟨by simp only [List.length_cons, List.length_nil]; rw [sizeLine_eq]; decide, [.int (i / j) s.toks, .int (i % j) (s.toks + 1)], .cons ⟨_, rfl⟩ (.cons ⟨_, rfl⟩ .nil), ?_⟩
  exact ⟨_, Heap.get?_push_size s.heap rfl, rfl, 0, rfl⟩
end
end L2

namespace L2
open PySem PySem.Spec PyProof.Rows

/-! ### an instance, its attributes a map -/
structure ObjM (h : Heap) (x dx C : Addr) (mA : Str → Option Value) : Prop where
  obj : h.get? x = some (PySem.W.instObj C dx)
  ns : h.Ns1 dx mA
  ne : dx ≠ x

theorem lookIn_ns {h : Heap} {dx : Addr} {mA : Str → Option Value} (n : h.Ns1 dx mA) : ∃ od, h.get? dx = some od ∧ ∀ name, PySem.W.lookIn name od = some (mA name) := by
  obtain ⟨o, es, ep, ho, hd, hk, _, hm⟩ := n
  refine ⟨o, ho, fun name => ?_⟩
  have e := hm name
  unfold nsFind findBy at e
  rw [← Array.find?_toList] at e
  unfold PySem.W.lookIn
  rw [hd]
  dsimp only
  split
  · rename_i y q
    rw [q] at e
    exact congrArg some e
  · rename_i q
    rw [q] at e
    have a : es.toList.any (·.refKey) = false := by
      rw [List.any_eq_false]
      intro y hy
      obtain ⟨z, t, hkey⟩ := hk y (Array.mem_toList_iff.mp hy)
      simp [DictEntry.refKey, hkey]
    have a' : ¬ es.toList.any (·.refKey) = true := by rw [a]; exact Bool.false_ne_true
    rw [if_neg a']
    exact congrArg some e

theorem ObjM.look {h : Heap} {x dx C : Addr} {mA : Str → Option Value} (I : ObjM h x dx C mA) : ∃ od, PySem.W.InstAt h x (PySem.W.instObj C dx) C (some od) ∧ ∀ name, PySem.W.lookIn name od = some (mA name) :=
  let ⟨od, ho, hl⟩ := lookIn_ns I.ns
  ⟨od, ⟨I.obj, rfl, rfl, ho⟩, hl⟩

section
variable {prog : Program} {w : World} {A : Around} {E : Value → Shared → Prop} {s : Shared} {K : PySem.W.Frag} {x dx C f : Addr} {mA : Str → Option Value} {name : Str} {v : Value}

theorem get_map {expr : Bool} {Q : Value → Shared → Prop} (X : K.In s.heap) (I : ObjM s.heap x dx C mA) (hg : PySem.W.plainGet K C name = true) (hh : PySem.W.hasDictIn K C = true)
    (ha : PySem.W.findIn K (.ref C) name = some none) (hv : mA name = some v) (hv' : PySem.W.handedIn v = true) (h : Q v { s with toks := s.toks + 1 }) :
    wpAny (model prog w) A (getAttr (.ref x) name expr) Q E s := by
  obtain ⟨od, J, hl⟩ := I.look
  exact PySem.W.get_value X J (PySem.W.plainGet_of hg).1 (PySem.W.findObj_own hh ha rfl (by rw [hl, hv])) hv' h

theorem get_const {expr : Bool} {a : Value} {Q : Value → Shared → Prop} (X : K.In s.heap) (I : ObjM s.heap x dx C mA) (hg : PySem.W.plainGet K C name = true) (hh : PySem.W.hasDictIn K C = true)
    (ha : PySem.W.findIn K (.ref C) name = some (some a)) (hn : PySem.W.specialIn K a "__get__" = some none) (hc : PySem.W.copiedNames.contains name = false) (hv : mA name = none) (hv' : PySem.W.handedIn a = true)
    (h : Q a { s with toks := s.toks + 1 }) : wpAny (model prog w) A (getAttr (.ref x) name expr) Q E s := by
  obtain ⟨od, J, hl⟩ := I.look
  exact PySem.W.get_value X J (PySem.W.plainGet_of hg).1 (PySem.W.findObj_cls hh ha hn hv' hc (by rw [hl, hv])) hv' h

theorem get_meth {pl : Sem Bool} {Q : Value × List Value → Shared → Prop} (X : K.In s.heap) (I : ObjM s.heap x dx C mA) (hg : PySem.W.plainGet K C name = true)
    (hf : PySem.W.findIn K (.ref C) name = some (some (.ref f))) (ht : PySem.W.isFn K (.ref f) = true) (hv : mA name = none) (h : Q (.ref f, [.ref x]) s) :
    wpAny (model prog w) A (getMethod (.ref x) name pl) Q E s := by
  obtain ⟨od, J, hl⟩ := I.look
  exact PySem.W.method_fn X J (PySem.W.plainGet_of hg).1 (PySem.W.plainGet_of hg).2 hf (beq_iff_eq.mp ht) (by show (PySem.W.lookIn name od).map (·.isSome) = some false; rw [hl, hv]; rfl) h

theorem set_map {ns : List Str} {Q : Unit → Shared → Prop} (X : K.In s.heap) (I : ObjM s.heap x dx C mA)
    (hs : PySem.W.findIn K (.ref C) "__setattr__" = some (some (.builtin "object.__setattr__"))) (hp : PySem.W.plainOver K C = true) (ht : PySem.W.takerIn K C name = some none) (hh : PySem.W.hasDictIn K C = true)
    (hw : PySem.Within mA ns) (hsz : ns.length ≤ sizeLine)
    (h : ∀ h', ObjM h' x dx C (fun y => if y = name then some v else mA y) → Heap.SameBut dx s.heap h' → Q () { s with heap := h', toks := s.toks + 2 }) :
    wpAny (model prog w) A (setAttr (.ref x) name v) Q E s := by
  obtain ⟨od, J, hl⟩ := I.look
  refine PySem.W.set_plain X J hs (PySem.W.osa_open (s := { s with toks := s.toks + 1 }) (r := none) X J hp ht fun b => ?_)
  obtain ⟨cd, hc, hd'⟩ := PySem.W.any_some hh
  have hx : s.heap.get? x = some ⟨.ref C, some dx, .plain, #[]⟩ := I.obj
  refine wpAny_bind (wpAny_pure (wpAny_bind (wpAny_bind (wpAny_loadPart hx (wpAny_bind (PySem.W.Looks.here (s := { s with toks := s.toks + 1 }) (PySem.W.looks_clsIn X hc) ?_))))))
  rw [hd']
  refine wpAny_pure (a := some dx) (wpAny_bind (wpAny_pure (wpAny_bind ?_)))
  refine wpAny_nsSet1 (s := { s with toks := s.toks + 1 }) I.ns fun h' hn2 hs2 => ?_
  obtain ⟨oD, esD, epD, hoD, hdD, hcD⟩ := hn2.count (PySem.Within.cons name v hw)
  refine wpAny_bind (wpAny_lookBehind hoD (by rw [hdD]; exact pastItsLine_dict (Nat.le_trans hcD (by rw [List.length_cons]; omega))) ?_)
  exact wpAny_pure (h _ ⟨(hs2.2 _ (Ne.symm I.ne)).trans I.obj, hn2, I.ne⟩ hs2)

/-- C(..): the dict at the heap's end, the instance behind it; then its __init__ -/
theorem make_map {R : Result → Shared → Prop} {vs : List Value} {kw : List (Str × Value)} (X : K.In s.heap) (hm : PySem.W.makesIn K C = true)
    (hi : PySem.W.findIn K (.ref C) "__init__" = some (some (.ref f))) (hf : PySem.W.typeIn K (.ref f) = some (.type "function"))
    (h : codeAny (model prog w) (A.under (.builtin "type.__call__" ⟨.ref C :: vs, kw⟩)) (.call (.ref f) ⟨.ref (s.heap.objs.size + 1) :: vs, kw⟩) (PySem.W.InitBack (s.heap.objs.size + 1) R)
      { s with heap := (s.heap.push PySem.W.emptyDict).push (PySem.W.instObj C s.heap.objs.size) }) :
    codeAny (model prog w) A (.call (.ref C) ⟨vs, kw⟩) R s := by
  obtain ⟨hh, g, d, t, os⟩ := s
  exact PySem.W.make_core (PySem.W.makes_of X hm) (PySem.W.looks_findIn X hi) (fun self => PySem.W.bind_fn X self hf) (.inl rfl) h
/-- C() where there is no __init__ but object's -/
theorem make_map0 {R : Result → Shared → Prop} (X : K.In s.heap) (hm : PySem.W.makesIn K C = true)
    (hi : PySem.W.findIn K (.ref C) "__init__" = some (some (.builtin "object.__init__")))
    (hb : ∀ self, PySem.W.Looks (model prog w) s.heap (bindSpecial (.builtin "object.__init__") self) (.builtin "object.__init__", [self]))
    (h : codeAny (model prog w) (A.under (.builtin "type.__call__" ⟨[.ref C], []⟩)) (.call (.builtin "object.__init__") ⟨[.ref (s.heap.objs.size + 1)], []⟩) (PySem.W.InitBack (s.heap.objs.size + 1) R)
      { s with heap := (s.heap.push PySem.W.emptyDict).push (PySem.W.instObj C s.heap.objs.size) }) :
    codeAny (model prog w) A (.call (.ref C) ⟨[], []⟩) R s := by
  obtain ⟨hh, g, d, t, os⟩ := s
  exact PySem.W.make_core (PySem.W.makes_of X hm) (PySem.W.looks_findIn X hi) hb (.inr ⟨rfl, rfl⟩) h
end

/-! ### the attributes as a list of pairs -/
def putF (f : Str) (v : V) : List (Str × V) → List (Str × V)
  | [] => [(f, v)]
  | (g, x) :: r => if g = f then (g, v) :: r else (g, x) :: putF f v r
theorem lookup_putF (f g : Str) (v : V) : ∀ fs : List (Str × V), (putF f v fs).lookup g = if g = f then some v else fs.lookup g
  | [] => by
    show List.lookup g [(f, v)] = _
    by_cases h : g = f
    · have hb : (g == f) = true := beq_iff_eq.mpr h
      simp only [List.lookup, hb, if_pos h]
    · have hb : (g == f) = false := beq_eq_false_iff_ne.mpr h
      simp only [List.lookup, hb, if_neg h]
  | (k, x) :: r => by
    have ih := lookup_putF f g v r
    rw [show putF f v ((k, x) :: r) = (if k = f then (k, v) :: r else (k, x) :: putF f v r) from rfl]
    by_cases hk : k = f
    · rw [if_pos hk]
      by_cases h : g = k
      · have hb : (g == k) = true := beq_iff_eq.mpr h
        simp only [List.lookup, hb, if_pos (h.trans hk)]
      · have hb : (g == k) = false := beq_eq_false_iff_ne.mpr h
        simp only [List.lookup, hb, if_neg (fun e : g = f => h (e.trans hk.symm))]
    · rw [if_neg hk]
      by_cases h : g = k
      · have hb : (g == k) = true := beq_iff_eq.mpr h
        simp only [List.lookup, hb, if_neg (fun e : g = f => hk (h.symm.trans e))]
      · have hb : (g == k) = false := beq_eq_false_iff_ne.mpr h
        simp only [List.lookup, hb]
        exact ih
theorem keys_putF (f : Str) (v : V) : ∀ fs : List (Str × V), f ∈ (putF f v fs).map (·.1) ∧ ∀ g, g ∈ fs.map (·.1) → g ∈ (putF f v fs).map (·.1)
  | [] => ⟨by simp [putF], fun g h => by simp at h⟩
  | (k, x) :: r => by
    obtain ⟨i1, i2⟩ := keys_putF f v r
    rw [show putF f v ((k, x) :: r) = (if k = f then (k, v) :: r else (k, x) :: putF f v r) from rfl]
    by_cases hk : k = f
    · rw [if_pos hk]
      subst hk
      exact ⟨by simp, fun g h => by simpa using h⟩
    · rw [if_neg hk]
      refine ⟨?_, fun g h => ?_⟩
      · rw [List.map_cons]
        exact List.mem_cons_of_mem _ i1
      · rw [List.map_cons] at h ⊢
        rcases List.mem_cons.mp h with e | e
        · exact List.mem_cons.mpr (.inl e)
        · exact List.mem_cons_of_mem _ (i2 g e)
theorem length_putF (f : Str) (v : V) : ∀ fs : List (Str × V), (putF f v fs).length ≤ fs.length + 1
  | [] => by simp [putF]
  | (k, x) :: r => by
    have ih := length_putF f v r
    rw [show putF f v ((k, x) :: r) = (if k = f then (k, v) :: r else (k, x) :: putF f v r) from rfl]
    by_cases hk : k = f
    · rw [if_pos hk, List.length_cons, List.length_cons]; omega
    · rw [if_neg hk, List.length_cons, List.length_cons]; omega

theorem RelO.some_of {v : V} {o : Option Value} (r : RelO (some v) o) : ∃ u, o = some u ∧ RelV v u := by
  cases o with
  | none => exact (show False from r).elim
  | some u => exact ⟨u, rfl, r⟩
theorem RelO.none_of {o : Option Value} (r : RelO none o) : o = none := by
  cases o with
  | none => rfl
  | some u => exact (show False from r).elim
theorem handed_of {v : V} {u : Value} (r : RelV v u) : PySem.W.handedIn u = true := by
  cases v with
  | non => cases (show u = Value.none from r); rfl
  | bl b => cases (show u = Value.bool b from r); rfl
  | int i => obtain ⟨t, e⟩ := (show ∃ t, u = Value.int i t from r); cases e; rfl
  | str x => obtain ⟨t, e⟩ := (show ∃ t, u = Value.str x t from r); cases e; rfl
  | byt b => obtain ⟨t, e⟩ := (show ∃ t, u = Value.bytes b t from r); cases e; rfl
  | flt b => obtain ⟨t, e⟩ := (show ∃ t, u = Value.float b t from r); cases e; rfl
  | ref a => cases (show u = Value.ref a from r); rfl
  | ty n => cases (show u = Value.type n from r); rfl

section
variable {P : Program} {w : World} {H H' : Hp} {h h' : Heap} {a C dx : Addr} {fs fs' : List (Str × V)}
theorem ins_get (hok : HOk P w H h) (e : H a = some (.ins C dx fs)) : ∃ mA, ObjM h a dx C mA ∧ (∀ f, RelO (fs.lookup f) (mA f)) ∧ PySem.Within mA (fs.map (·.1)) ∧ fs.length ≤ 1000 ∧ H dx = some (.own a) := by
  obtain ⟨d, z, ne, ob, mA, n, r, q⟩ := (show ObjOk P w H h a (.ins C dx fs) from hok a _ e)
  exact ⟨mA, ⟨ob, n, ne⟩, r, q, z, d⟩
end

/-! ### what of the text a class must have -/
structure Cls (K : PySem.W.Frag) (C : Addr) : Prop where
  pg : PySem.W.plainGet K C Str.empty = true
  hd : PySem.W.hasDictIn K C = true
  po : PySem.W.plainOver K C = true
  sa : PySem.W.findIn K (.ref C) "__setattr__" = some (some (.builtin "object.__setattr__"))
theorem Cls.get {K : PySem.W.Frag} {C : Addr} (c : Cls K C) (f : Str) : PySem.W.plainGet K C f = true := c.pg
/-- no class of it has the name -/
def NoAttr (K : PySem.W.Frag) (C : Addr) (f : Str) : Prop := PySem.W.findIn K (.ref C) f = some none
theorem NoAttr.taker {K : PySem.W.Frag} {C : Addr} {f : Str} (n : NoAttr K C f) : PySem.W.takerIn K C f = some none := by
  unfold PySem.W.takerIn
  rw [show PySem.W.findIn K (.ref C) f = some none from n]
  rfl
/-- a constant of the class -/
structure Con (K : PySem.W.Frag) (C : Addr) (f : Str) (v : V) (u : Value) : Prop where
  at_ : PySem.W.findIn K (.ref C) f = some (some u)
  rel : RelV v u
  get : PySem.W.specialIn K u "__get__" = some none
  cp : PySem.W.copiedNames.contains f = false
/-- a method: a plain def of the class or of one above it -/
structure Meth (K : PySem.W.Frag) (C : Addr) (m : Str) (f : Addr) : Prop where
  at_ : PySem.W.findIn K (.ref C) m = some (some (.ref f))
  fn : PySem.W.isFn K (.ref f) = true
  kp : PySem.W.keepIn K (.ref f) = true

section
variable {X : Cx} {pins : List (Addr × Obj)} {σ : St} {H : Hp} {s : Shared} {a C dx : Addr} {fs : List (Str × V)} {f : Str} {v : V} {A : Around} {E : Value → Shared → Prop}

theorem getattr_ok {b : Bool} {Q : Value → Shared → Prop} (I : Inv X pins σ H s) (e : H a = some (.ins C dx fs)) (c : Cls X.K C) (n : NoAttr X.K C f) (l : fs.lookup f = some v)
    (h : ∀ u s', Inv X pins σ H s' → RelV v u → Q u s') : wpAny (model X.prog X.w) A (getAttr (.ref a) f b) Q E s := by
  obtain ⟨mA, O, r, _, _, _⟩ := ins_get I.hok e
  obtain ⟨u, hu, ru⟩ := RelO.some_of (v := v) (o := mA f) (by rw [← l]; exact r f)
  exact get_map I.kIn O (c.get f) c.hd n hu (handed_of ru) (h u _ (I.tok _) ru)

theorem getcon_ok {b : Bool} {u : Value} {Q : Value → Shared → Prop} (I : Inv X pins σ H s) (e : H a = some (.ins C dx fs)) (c : Cls X.K C) (k : Con X.K C f v u) (l : fs.lookup f = none)
    (h : ∀ s', Inv X pins σ H s' → Q u s') : wpAny (model X.prog X.w) A (getAttr (.ref a) f b) Q E s := by
  obtain ⟨mA, O, r, _, _, _⟩ := ins_get I.hok e
  have hn : mA f = none := RelO.none_of (by rw [← l]; exact r f)
  exact get_const I.kIn O (c.get f) c.hd k.at_ k.get k.cp hn (handed_of k.rel) (h _ (I.tok _))

theorem getmeth_ok {m : Str} {g : Addr} {pl : Sem Bool} {Q : Value × List Value → Shared → Prop} (I : Inv X pins σ H s) (e : H a = some (.ins C dx fs)) (c : Cls X.K C) (k : Meth X.K C m g) (l : fs.lookup m = none)
    (h : Q (.ref g, [.ref a]) s) : wpAny (model X.prog X.w) A (getMethod (.ref a) m pl) Q E s := by
  obtain ⟨mA, O, r, _, _, _⟩ := ins_get I.hok e
  have hn : mA m = none := RelO.none_of (by rw [← l]; exact r m)
  exact get_meth I.kIn O (c.get m) k.at_ k.fn hn h

theorem setattr_ok {y : V} {u : Value} {Q : Unit → Shared → Prop} (I : Inv X pins σ H s) (e : H a = some (.ins C dx fs)) (c : Cls X.K C) (n : NoAttr X.K C f) (hl : fs.length < 1000) (ry : RelV y u)
    (h : ∀ s', Inv X pins σ (upd H a (.ins C dx (putF f y fs))) s' → Q () s') : wpAny (model X.prog X.w) A (setAttr (.ref a) f u) Q E s := by
  obtain ⟨mA, O, r, wi, _, ho⟩ := ins_get I.hok e
  have hz : (fs.map (·.1)).length ≤ sizeLine := by rw [List.length_map, sizeLine_eq]; omega
  refine set_map I.kIn O c.sa c.po n.taker c.hd wi hz fun h' O' sb => h _ ?_
  have hd : ∃ o, h'.get? dx = some o := let ⟨o, _, _, e', _⟩ := O'.ns; ⟨o, e'⟩
  refine I.write (x := a) (e := dx) (by rw [e]; exact True.intro) (.inr ho) (fun b q hb z => (sb.2 b hb).trans z) hd ?_
  refine ⟨by rw [upd_ne O.ne]; exact ho, ?_, O.ne, O'.obj, _, O'.ns, fun g => ?_, fun g hg => ?_⟩
  · have := length_putF f y fs; omega
  · show RelO ((putF f y fs).lookup g) (if g = f then some u else mA g)
    rw [lookup_putF]
    by_cases q : g = f
    · rw [if_pos q, if_pos q]; exact ry
    · rw [if_neg q, if_neg q]; exact r g
  · by_cases q : g = f
    · rw [q]; exact (keys_putF f y fs).1
    · refine (keys_putF f y fs).2 g (wi g fun z => hg ?_)
      show (if g = f then some u else mA g) = none
      rw [if_neg q]; exact z

/-- a new instance, tracked, without attributes -/
theorem Inv.made (I : Inv X pins σ H s) : Inv X pins σ (upd (upd H s.heap.objs.size (.own (s.heap.objs.size + 1))) (s.heap.objs.size + 1) (.ins C s.heap.objs.size []))
    { s with heap := (s.heap.push PySem.W.emptyDict).push (PySem.W.instObj C s.heap.objs.size) } := by
  have e1 : (s.heap.push PySem.W.emptyDict).get? s.heap.objs.size = some PySem.W.emptyDict := Heap.get?_push_size s.heap rfl
  have e2 : ((s.heap.push PySem.W.emptyDict).push (PySem.W.instObj C s.heap.objs.size)).get? (s.heap.objs.size + 1) = some (PySem.W.instObj C s.heap.objs.size) := by
    have := Heap.get?_push_size (s.heap.push PySem.W.emptyDict) (o := PySem.W.instObj C s.heap.objs.size) rfl
    rwa [Heap.size_push] at this
  have e3 : (s.heap.push PySem.W.emptyDict).Ns s.heap.objs.size (fun _ => none) := ⟨PySem.W.emptyDict, #[], _, e1, rfl, (fun e he => absurd he (by simp)), fun _ => rfl⟩
  have I1 := I.laid (a := s.heap.objs.size) (o := .own (s.heap.objs.size + 1)) (h' := s.heap.push PySem.W.emptyDict) (t' := s.toks) (fun b u q => Heap.get?_push_of_some _ q) (Nat.le_refl _) ⟨_, e1⟩
  refine I1.laid (a := s.heap.objs.size + 1) (o := .ins C s.heap.objs.size []) (t' := s.toks) (fun b u q => Heap.get?_push_of_some _ q) (Nat.le_of_eq (Heap.size_push _ _)) ?_
  have ne : s.heap.objs.size ≠ s.heap.objs.size + 1 := Nat.ne_of_lt (Nat.lt_succ_self _)
  refine ⟨by rw [upd_ne ne, upd_same], Nat.zero_le _, ne, e2, fun _ => none, (Heap.Ns1.of_empty e3).at fun o q => Heap.get?_push_of_some _ q, fun _ => True.intro, fun y hy => absurd rfl hy⟩

/-- e.f where nothing but the object is asked: through attributeBase (super) and the last hold -/
theorem attr_of {prog : Program} {w : World} {env : Env} {e : Expr} {f : Str} {pos : Pos} {s : Shared} {Q : Value → Shared → Prop} (hb : attributeBase e f env (eval e env) = eval e env)
    (h : wpAny (model prog w) A (eval e env) (fun o s₁ => wpAny (model prog w) A (getAttr o f true) Q E s₁) E s) : wpAny (model prog w) A (eval (.Attribute e f pos) env) Q E s :=
  Attribute_any_ h (by rw [arm_eval_Attribute, hb])
end

/-! ### readings and rules -/
/-- e.f, an attribute of the instance -/
def tFld (K : PySem.W.Frag) (ta : TE) (f : Str) : TE := fun σ H Q => ta σ H fun x H1 => ∃ a C dx fs v, x = .ref a ∧ H1 a = some (.ins C dx fs) ∧ Cls K C ∧ NoAttr K C f ∧ fs.lookup f = some v ∧ Q v H1
/-- e.f, a constant of the class -/
def tCon (K : PySem.W.Frag) (ta : TE) (f : Str) : TE := fun σ H Q => ta σ H fun x H1 => ∃ a C dx fs v u, x = .ref a ∧ H1 a = some (.ins C dx fs) ∧ Cls K C ∧ Con K C f v u ∧ fs.lookup f = none ∧ Q v H1
/-- e.f = value -/
def sFld (K : PySem.W.Frag) (ta tv : TE) (f : Str) : TS := fun D σ H => tv σ H fun y H1 => ta σ H1 fun x H2 => ∃ a C dx fs, x = .ref a ∧ H2 a = some (.ins C dx fs) ∧ Cls K C ∧ NoAttr K C f ∧ fs.length < 1000 ∧
  D.nx σ (upd H2 a (.ins C dx (putF f y fs)))
/-- an augmented operator on two values -/
def InOp (X : Cx) (op : Operator) (rd : V → V → Hp → VK → Prop) : Prop :=
  ∀ (pins : List (Addr × Obj)) (s : Shared) (σ : St) (H : Hp) (x y : V) (u v : Value) (Q : VK), Inv X pins σ H s → RelV x u → RelV y v → rd x y H Q → wpAny (model X.prog X.w) X.A (inplaceOp op u v) (EP X pins σ Q) X.xe s
/-- e.f op= value -/
def sFldAug (K : PySem.W.Frag) (ta tv : TE) (rd : V → V → Hp → VK → Prop) (f : Str) : TS := fun D σ H => ta σ H fun x H1 => ∃ a C dx fs v, x = .ref a ∧ H1 a = some (.ins C dx fs) ∧ Cls K C ∧ NoAttr K C f ∧ fs.lookup f = some v ∧
  tv σ H1 fun y H2 => rd v y H2 fun z H3 => ∃ dx' fs', H3 a = some (.ins C dx' fs') ∧ fs'.length < 1000 ∧ D.nx σ (upd H3 a (.ins C dx' (putF f z fs')))

section
variable {X : Cx} {o e value : Expr} {f : Str} {pos pos' tpos : Pos} {ta tv : TE}
theorem pe_fld (he : PE X e ta) (hb : attributeBase e f X.env (eval e X.env) = eval e X.env) : PE X (.Attribute e f pos) (tFld X.K ta f) := by
  intro pins s σ H Q I h
  refine attr_of hb (thn (he pins s σ H _ I h) fun u s1 ⟨x, H1, I1, rx, a, C, dx, fs, v, ex, ea, c, n, l, q⟩ => ?_)
  subst ex
  obtain rfl : u = Value.ref a := rx
  exact getattr_ok I1 ea c n l fun u' s2 I2 ru => ⟨v, H1, I2, ru, q⟩
theorem pe_con (he : PE X e ta) (hb : attributeBase e f X.env (eval e X.env) = eval e X.env) : PE X (.Attribute e f pos) (tCon X.K ta f) := by
  intro pins s σ H Q I h
  refine attr_of hb (thn (he pins s σ H _ I h) fun u s1 ⟨x, H1, I1, rx, a, C, dx, fs, v, u0, ex, ea, c, k, l, q⟩ => ?_)
  subst ex
  obtain rfl : u = Value.ref a := rx
  exact getcon_ok I1 ea c k l fun s2 I2 => ⟨v, H1, I2, k.rel, q⟩
theorem ps_fld (ha : PE X o ta) (hv : PE X value tv) (hs : swapsWith value (some (.Attribute o f pos')) pos.line X.env = pure false) : PS X (.Assign [.Attribute o f pos'] value pos) (sFld X.K ta tv f) := by
  intro pins s σ H D I h
  refine plainObj_wpAny_Assign_Attribute (thn (hv pins s σ H _ I h) fun u s1 ⟨y, H1, I1, ry, q⟩ => thn (ha pins s1 σ H1 _ I1 q) fun ov s2 ⟨x, H2, I2, rx, a, C, dx, fs, ex, ea, c, n, l, q2⟩ => ?_) hs
  subst ex
  obtain rfl : ov = Value.ref a := rx
  exact setattr_ok I2 ea c n l ry fun s3 I3 => ⟨σ, _, I3, q2⟩
theorem ps_fldaug {op : Operator} {rd : V → V → Hp → VK → Prop} (ha : PE X o ta) (hv : PE X value tv) (hop : InOp X op rd) : PS X (.AugAssign (.Attribute o f tpos) op value pos) (sFldAug X.K ta tv rd f) := by
  intro pins s σ H D I h
  refine wpAny_AugAssign_AttributeAny (thn (ha pins s σ H _ I h) fun ov s1 ⟨x, H1, I1, rx, a, C, dx, fs, v, ex, ea, c, n, l, q⟩ => ?_)
  subst ex
  obtain rfl : ov = Value.ref a := rx
  refine getattr_ok I1 ea c n l fun u s2 I2 ru => thn (hv pins s2 σ H1 _ I2 q) fun w3 s3 ⟨y, H2, I3, ry, q3⟩ => thn (hop pins s3 σ H2 v y u w3 _ I3 ru ry q3) fun w4 s4 ⟨z, H3, I4, rz, dx', fs', ea', l', q4⟩ => ?_
  exact setattr_ok I4 ea' c n l' rz fun s5 I5 => ⟨σ, _, I5, q4⟩
def rAdd : V → V → Hp → VK → Prop := fun x y H Q => ∃ i j, x = .int i ∧ y = .int j ∧ Q (.int (i + j)) H
def rSub : V → V → Hp → VK → Prop := fun x y H Q => ∃ i j, x = .int i ∧ y = .int j ∧ Q (.int (i - j)) H
theorem in_add : InOp X .Add rAdd := by
  rintro pins s σ H x y u v Q I rx ry ⟨i, j, rfl, rfl, q⟩
  obtain ⟨t, rfl⟩ := (show ∃ t, u = Value.int i t from rx)
  obtain ⟨t', rfl⟩ := (show ∃ t', v = Value.int j t' from ry)
  exact PyProof.Rows.iadd_int ⟨.int (i + j), H, I.tok _, ⟨_, rfl⟩, q⟩
theorem in_sub : InOp X .Sub rSub := by
  rintro pins s σ H x y u v Q I rx ry ⟨i, j, rfl, rfl, q⟩
  obtain ⟨t, rfl⟩ := (show ∃ t, u = Value.int i t from rx)
  obtain ⟨t', rfl⟩ := (show ∃ t', v = Value.int j t' from ry)
  exact PyProof.Rows.isub_int ⟨.int (i - j), H, I.tok _, ⟨_, rfl⟩, q⟩

/-- what is between an instance and its method: the tree of a method call -/
theorem methcall_of {pl : Sem Bool} {m : Str} {apos : Pos} {args : List Expr} {pins : List (Addr × Obj)} {s : Shared} {σ : St} {H : Hp} {Q : Value → Shared → Prop} {te : TE} (he : PE X e te) (I : Inv X pins σ H s)
    (h : te σ H fun x H1 => ∃ a C dx fs g, x = .ref a ∧ H1 a = some (.ins C dx fs) ∧ Cls X.K C ∧ Meth X.K C m g ∧ fs.lookup m = none ∧
      ∀ s1, Inv X pins σ H1 s1 → wpAny (model X.prog X.w) X.A (callWith pos (.ref g) [.ref a] (backTo pos (starEach args X.env)) (backToKw pos (keywordEach [] X.env))) Q X.xe s1)
    (ht : eval (.Call (.Attribute e m apos) args [] pos) X.env = (do
      let ov ← eval e X.env
      standAt apos.atName
      let (f, first) ← holding [ov] (getMethod ov m pl)
      callWith pos f first (backTo pos (starEach args X.env)) (backToKw pos (keywordEach [] X.env)))) :
    wpAny (model X.prog X.w) X.A (eval (.Call (.Attribute e m apos) args [] pos) X.env) Q X.xe s := by
  refine PySem.W.methodCall_KW (pl := pl) (thn (he pins s σ H _ I h) fun u s1 ⟨x, H1, I1, rx, a, C, dx, fs, g, ex, ea, c, k, l, q⟩ => ?_) ht
  subst ex
  obtain rfl : u = Value.ref a := rx
  exact getmeth_ok I1 ea c k l (q s1 I1)
end

/-! ### isinstance -/
section
variable {X : Cx} {pins : List (Addr × Obj)} {σ : St} {H : Hp} {s : Shared} {A : Around} {E : Value → Shared → Prop} {Q : Value → Shared → Prop} {c : Value} {b : Bool}
/-- the type of a value, as the fragment's deciders take it; for an instance its class -/
inductive TyOf (K : PySem.W.Frag) (H : Hp) : V → Value → Prop where
  | non : TyOf K H .non (.type "NoneType")
  | bl (x : Bool) : TyOf K H (.bl x) (.type "bool")
  | int (i : Int) : TyOf K H (.int i) (.type "int")
  | str (x : Str) : TyOf K H (.str x) (.type "str")
  | flt (x : UInt64) : TyOf K H (.flt x) (.type "float")
  | lst {a : Addr} {xs : List V} (e : H a = some (.lst xs)) : TyOf K H (.ref a) (.type "list")
  | frz {a : Addr} {o : Obj} {xs : List V} (e : H a = some (.frz o (.lst xs))) : TyOf K H (.ref a) (.type "list")
  | tup {a : Addr} {xs : List V} (e : H a = some (.tup xs)) : TyOf K H (.ref a) (.type "tuple")
  | dK {a : Addr} {kvs : List (Key × V)} (e : H a = some (.dK kvs)) : TyOf K H (.ref a) (.type "dict")
  | dT {a : Addr} {kvs : List (List Key × V)} (e : H a = some (.dT kvs)) : TyOf K H (.ref a) (.type "dict")
  | ins {a C dx : Addr} {fs : List (Str × V)} (e : H a = some (.ins C dx fs)) (cl : Cls K C) (ha : PySem.W.findIn K (.ref C) "__class__" = some (some (.builtin "object.__class__")))
      (hn : PySem.W.specialIn K (.builtin "object.__class__") "__get__" = some (some (.builtin "getset_descriptor.__get__"))) (htk : PySem.W.takesIn K (.builtin "object.__class__") = some true)
      (hm : PySem.W.mroIn K C (.type "object") = some true) : TyOf K H (.ref a) (.ref C)
/-- isinstance(x, c) for one class c, a built-in or an own one: kitOne's answer -/
theorem isinst_ok {x : V} {u t : Value} (I : Inv X pins σ H s) (rx : RelV x u) (ty : TyOf X.K H x t) (e : PySem.W.kitOne X.K t c = some b) (h : ∀ tk, Q (.bool b) { s with toks := tk }) :
    wpAny (model X.prog X.w) A (call (.builtin "isinstance") [u, c]) Q E s := by
  cases ty with
  | non => cases (show u = Value.none from rx); exact PySem.W.kia_one PySem.W.kitx_none I.kIn True.intro e (fun z => nomatch z) h
  | bl y => cases (show u = Value.bool y from rx); exact PySem.W.kia_one PySem.W.kitx_bool I.kIn True.intro e (fun z => nomatch z) h
  | int i => obtain ⟨t, q⟩ := (show ∃ t, u = Value.int i t from rx); cases q; exact PySem.W.kia_one PySem.W.kitx_int I.kIn True.intro e (fun z => nomatch z) h
  | str y => obtain ⟨t, q⟩ := (show ∃ t, u = Value.str y t from rx); cases q; exact PySem.W.kia_one PySem.W.kitx_str I.kIn True.intro e (fun z => nomatch z) h
  | flt y => obtain ⟨t, q⟩ := (show ∃ t, u = Value.float y t from rx); cases q; exact PySem.W.kia_one PySem.W.kitx_float I.kIn True.intro e (fun z => nomatch z) h
  | @lst a xs ea =>
    cases (show u = Value.ref a from rx)
    obtain ⟨_, _, n, _, h1⟩ := (show ObjOk X.prog X.w H s.heap a (.lst xs) from I.hok a _ ea)
    exact PySem.W.kia_one PySem.W.kitx_list I.kIn ⟨_, h1, rfl⟩ e (fun z => nomatch z) h
  | @frz a ob xs ea =>
    cases (show u = Value.ref a from rx)
    obtain ⟨_, _, _, n, _, h1⟩ := (show ObjOk X.prog X.w H s.heap a (.frz ob (.lst xs)) from I.hok a _ ea)
    exact PySem.W.kia_one PySem.W.kitx_list I.kIn ⟨_, h1, rfl⟩ e (fun z => nomatch z) h
  | @tup a xs ea =>
    cases (show u = Value.ref a from rx)
    obtain ⟨_, _, _, p⟩ := (show ObjOk X.prog X.w H s.heap a (.tup xs) from I.hok a _ ea)
    obtain ⟨o, h1, h2, _⟩ := p
    exact PySem.W.kia_one PySem.W.kitx_tuple I.kIn ⟨o, h1, h2⟩ e (fun z => nomatch z) h
  | @dK a kvs ea =>
    cases (show u = Value.ref a from rx)
    obtain ⟨_, _, vs, _, p⟩ := (show ObjOk X.prog X.w H s.heap a (.dK kvs) from I.hok a _ ea)
    obtain ⟨o, es, ep, h1, h2, _⟩ := p
    exact PySem.W.kia_one PySem.W.kitx_dict I.kIn ⟨o, h1, h2.1⟩ e (fun z => nomatch z) h
  | @dT a kvs ea =>
    cases (show u = Value.ref a from rx)
    obtain ⟨_, _, xs, _, o, es, ep, h1, h2, _⟩ := (show ObjOk X.prog X.w H s.heap a (.dT kvs) from I.hok a _ ea)
    exact PySem.W.kia_one PySem.W.kitx_dict I.kIn ⟨o, h1, h2.1⟩ e (fun z => nomatch z) h
  | @ins a C dx fs ea cl ha hn htk hm =>
    cases (show u = Value.ref a from rx)
    obtain ⟨mA, O, _⟩ := ins_get I.hok ea
    obtain ⟨od, J, _⟩ := O.look
    exact PySem.W.kia_one (PySem.W.kitx_own (cl.get _) cl.hd ha hn htk hm) I.kIn J e (fun z => nomatch z) h
end
end L2

namespace L2
open PySem PySem.Spec PyProof.Rows

/-! ### room -/
structure Room (k : Nat) (A : Around) : Prop where
  hd : A.handled = none
  dp : A.depth + 3 * k + 5 < recursionLimit
  un : A.units + 16 * k + 200 < cLine
  gd : A.guards = some []
theorem Room.mono {j k : Nat} {A : Around} (r : Room k A) (h : j ≤ k) : Room j A := ⟨r.hd, by have := r.dp; omega, by have := r.un; omega, r.gd⟩
theorem Room.deeper {k : Nat} {A : Around} (r : Room (k + 1) A) (env : Env) : Room k (A.deeper env) :=
  ⟨r.hd, by have := r.dp; show A.depth + 1 + 3 * k + 5 < _; omega, by have := r.un; show A.units + 3 + 16 * k + 200 < _; omega, r.gd⟩
theorem Room.in1 {k : Nat} {A : Around} (r : Room (k + 1) A) : Room k A.in1 :=
  ⟨r.hd, by have := r.dp; show A.depth + 3 * k + 5 < _; omega, by have := r.un; show A.units + 1 + 16 * k + 200 < _; omega, r.gd⟩
theorem make_depth {A : Around} {C : Addr} {us : List Value} {kw : List (Str × Value)} : (A.under (.builtin "type.__call__" ⟨.ref C :: us, kw⟩)).depth = A.depth + 1 := by
  first | rfl | simp [Around.under, Code.weight, Code.isCreation, Code.isGuard, Code.isCaller, Code.frames, Code.isFrame, guardIds]
theorem make_units {A : Around} {C : Addr} {us : List Value} {kw : List (Str × Value)} : (A.under (.builtin "type.__call__" ⟨.ref C :: us, kw⟩)).units = A.units + 1 := by
  first | rfl | simp [Around.under, Code.cUnits, Code.frames, Code.isFrame]
theorem make_guards {A : Around} {C : Addr} {us : List Value} {kw : List (Str × Value)} : (A.under (.builtin "type.__call__" ⟨.ref C :: us, kw⟩)).guards = A.guards := by
  first | rfl | simp [Around.under, pushGuards, Code.guards, Code.isGuard, guardIds]
theorem Room.make {k : Nat} {A : Around} (r : Room (k + 1) A) (C : Addr) (us : List Value) (kw : List (Str × Value)) : Room k (A.under (.builtin "type.__call__" ⟨.ref C :: us, kw⟩)) :=
  ⟨r.hd, by have := r.dp; rw [make_depth]; omega, by have := r.un; rw [make_units]; omega, by rw [make_guards]; exact r.gd⟩
theorem Room.depth {k : Nat} {A : Around} (r : Room k A) : A.depth < recursionLimit := by have := r.dp; omega
theorem Room.units {k : Nat} {A : Around} (r : Room k A) : A.units + 64 < cLine := by have := r.un; omega
theorem Room.units0 {k : Nat} {A : Around} (r : Room k A) : A.units < cLine := by have := r.un; omega

/-! ### argument lists and displays -/
def tNil : TA := fun _ H Q => Q [] H
def tCons (ta : TE) (tr : TA) : TA := fun σ H Q => ta σ H fun x H1 => tr σ H1 fun xs H2 => Q (x :: xs) H2
section
variable {X : Cx} {e : Expr} {es : List Expr} {te : TE} {t : TA} {pos : Pos}
theorem pa_nil : PA X [] tNil := fun _ _ _ _ H Q I h => Calls.spliced_nil ⟨[], H, I, .nil, h⟩
theorem pa_cons (ha : PE X e te) (hr : PA X es t) (hs : starEach (e :: es) X.env = (false, eval e X.env) :: starEach es X.env := by rfl) : PA X (e :: es) (tCons te t) := by
  intro pos pins s σ H Q I h
  rw [hs]
  show wpAny _ _ (spliced ((false, eval e X.env) :: backTo pos (starEach es X.env))) _ _ s
  refine Calls.spliced_cons (thn (ha pins s σ H _ I h) fun u s1 ⟨x, H1, I1, r1, q1⟩ => ?_)
  exact thn (hr pos pins s1 σ H1 _ I1 q1) fun us s2 ⟨xs, H2, I2, r2, q2⟩ => ⟨x :: xs, H2, I2, .cons r1 r2, q2⟩

/-- a tuple, a list of written items -/
def tTup (t : TA) : TE := fun σ H Q => t σ H fun xs H1 => xs.length ≤ sizeLine ∧ ∀ p, H1 p = none → Q (.ref p) (upd H1 p (.tup xs))
def tLst (t : TA) : TE := fun σ H Q => t σ H fun xs H1 => xs.length ≤ sizeLine ∧ ∀ p, H1 p = none → Q (.ref p) (upd H1 p (.lst xs))
theorem pe_tup {x1} (h : PA X es t) : PE X (.Tuple es x1 pos) (tTup t) := by
  intro pins s σ H Q I hq
  refine wpAny_Tuple_spliced (thn (h pos pins s σ H _ I hq) fun us s1 ⟨xs, H1, I1, r, z, q⟩ => ⟨by rw [← r.length]; exact z, ?_⟩)
  have hf : H1 s1.heap.objs.size = none := I1.hok.fresh (Nat.le_refl _)
  refine ⟨.ref s1.heap.objs.size, upd H1 s1.heap.objs.size (.tup xs), I1.laid (t' := s1.toks) (fun b u e => Heap.get?_push_of_some _ e) (Nat.le_refl _) ?_, rfl, q _ hf⟩
  exact ⟨z, us, r, ⟨_, Heap.get?_push_size _ rfl, rfl, _, rfl⟩⟩
theorem pe_lst (h : PA X es t) : PE X (.List es pos) (tLst t) := by
  intro pins s σ H Q I hq
  refine wpAny_List_spliced (thn (h pos pins s σ H _ I hq) fun us s1 ⟨xs, H1, I1, r, z, q⟩ => ⟨by rw [← r.length]; exact z, ?_⟩)
  have hf : H1 s1.heap.objs.size = none := I1.hok.fresh (Nat.le_refl _)
  refine ⟨.ref s1.heap.objs.size, upd H1 s1.heap.objs.size (.lst xs), I1.laid (t' := s1.toks) (fun b u e => Heap.get?_push_of_some _ e) (Nat.le_refl _) ?_, rfl, q _ hf⟩
  exact ⟨z, us, 0, r, Heap.get?_push_size _ rfl⟩
end

/-! ### what a def promises -/
/-- a def's promise: the bound arguments in the parameters' order, the heap, the wanted end, the wanted exception -/
abbrev Sp := List V → Hp → VK → XK → Prop
/-- how an exception lies behind a call (file 08 gives it): the callers' frames, abstract heap and state ahead of the call, the wish, the exception, the state -/
abbrev CXT := List Env → Hp → Shared → XK → Value → Shared → Prop

/-- the state at a call -/
structure Env0 (P : Program) (w : World) (K : PySem.W.Frag) (mg : Str → Option Value) (base : Heap) (A : Around) (outer : List Env) (s : Shared) (H : Hp) : Prop where
  frames : A.frames = some outer
  mod : Mod K mg base
  bs : ∀ b o, base.get? b = some o → s.heap.get? b = some o ∧ H b = none
  bsz : base.objs.size ≤ s.heap.objs.size
  funs : s.heap.FunFrames base outer
  frf : ∀ b ∈ frs outer, H b = none
  hok : HOk P w H s.heap
  bare : AllBare s.gens
/-- a call's end -/
def CE (outer : List Env) (P : Program) (w : World) (H : Hp) (s : Shared) (Q : VK) (u : Value) (s' : Shared) : Prop :=
  ∃ v H', s'.os = s.os ∧ AllBare s'.gens ∧ Un (frs outer) [] H H' s.heap s'.heap ∧ HOk P w H' s'.heap ∧ RelV v u ∧ Q v H'
def CR (CX : CXT) (outer : List Env) (P : Program) (w : World) (H : Hp) (s : Shared) (Q : VK) (E : XK) (r : Result) (s' : Shared) : Prop :=
  match r with
  | .ok (.ret u) => CE outer P w H s Q u s'
  | .ok _ => False
  | .error e => CX outer H s E e s'
structure FnOk (P : Program) (w : World) (K : PySem.W.Frag) (mg : Str → Option Value) (base : Heap) (CX : CXT) (k : Nat) (f : Addr) (fd : FuncData) (ps : List Str) (sp : Sp) : Prop where
  len : ∀ vs H Q E, sp vs H Q E → vs.length = ps.length
  run : ∀ (A : Around) (outer : List Env) (s : Shared) (H : Hp) (args : Args) (us : List Value) (vs : List V) (Q : VK) (E : XK), Room k A → Env0 P w K mg base A outer s H → BindsTo s fd args (ps.zip us) → Vals vs us → sp vs H Q E →
    codeAny (model P w) A (.call (.ref f) args) (CR CX outer P w H s Q E) s
theorem FnOk.mono {P : Program} {w : World} {K : PySem.W.Frag} {mg : Str → Option Value} {base : Heap} {CX : CXT} {j k : Nat} {f : Addr} {fd : FuncData} {ps : List Str} {sp : Sp} (F : FnOk P w K mg base CX j f fd ps sp) (h : j ≤ k) :
    FnOk P w K mg base CX k f fd ps sp := ⟨F.len, fun A outer s H args us vs Q E hr => F.run A outer s H args us vs Q E (hr.mono h)⟩
/-- a weaker promise -/
theorem FnOk.imp {P : Program} {w : World} {K : PySem.W.Frag} {mg : Str → Option Value} {base : Heap} {CX : CXT} {k : Nat} {f : Addr} {fd : FuncData} {ps : List Str} {sp sp' : Sp} (F : FnOk P w K mg base CX k f fd ps sp)
    (h : ∀ vs H Q E, sp' vs H Q E → sp vs H Q E) : FnOk P w K mg base CX k f fd ps sp' :=
  ⟨fun vs H Q E q => F.len vs H Q E (h _ _ _ _ q), fun A outer s H args us vs Q E hr he hb hv hs => F.run A outer s H args us vs Q E hr he hb hv (h _ _ _ _ hs)⟩

theorem Env0.make {P : Program} {w : World} {K : PySem.W.Frag} {mg : Str → Option Value} {base : Heap} {A : Around} {outer : List Env} {s : Shared} {H : Hp} (e : Env0 P w K mg base A outer s H) (C : Addr) (us : List Value) (kw : List (Str × Value)) :
    Env0 P w K mg base (A.under (.builtin "type.__call__" ⟨.ref C :: us, kw⟩)) outer s H := ⟨by first | exact e.frames | (simpa [Around.under, Code.envs, Code.isFrame, pushEnvs] using e.frames), e.mod, e.bs, e.bsz, e.funs, e.frf, e.hok, e.bare⟩
theorem Env0.in1 {P : Program} {w : World} {K : PySem.W.Frag} {mg : Str → Option Value} {base : Heap} {A : Around} {outer : List Env} {s : Shared} {H : Hp} (e : Env0 P w K mg base A outer s H) :
    Env0 P w K mg base A.in1 outer s H := ⟨e.frames, e.mod, e.bs, e.bsz, e.funs, e.frf, e.hok, e.bare⟩

section
variable {X : Cx} {pins : List (Addr × Obj)} {σ : St} {H : Hp} {s s' : Shared}
/-- from a body: what a callee wants -/
theorem Inv.env0 (I : Inv X pins σ H s) : Env0 X.prog X.w X.K X.mg X.base X.A X.stack s H :=
  ⟨I.ok.frames, I.ok.mod, I.bs, Nat.le_trans I.ok.bsz I.sz, I.stack, I.stkFree, I.hok, I.bare⟩
/-- behind a call -/
theorem Inv.after {Q : VK} {u : Value} (I : Inv X pins σ H s) (h : CE X.stack X.prog X.w H s Q u s') : EP X pins σ Q u s' := by
  obtain ⟨v, H', os, bare, un, hok, r, q⟩ := h
  obtain ⟨hh, g, d, t, os'⟩ := s'
  obtain rfl : os' = s.os := os
  exact ⟨v, H', I.call (h' := hh) (g' := g) (d' := d) (t' := t) (ch := []) un hok bare (fun b z => absurd z (by simp)), r, q⟩
end

/-! ### calls -/
/-- f(..): the written arguments, then the defaults dvs; E: what is wanted of an exception -/
def tCall (sp : Sp) (dvs : List V) (E : XK) (t : TA) : TE := fun σ H Q => t σ H fun vs H1 => sp (vs ++ dvs) H1 Q E
/-- o.m(..) of an instance of the class at C -/
def tMeth (C : Addr) (m : Str) (sp : Sp) (dvs : List V) (E : XK) (ta : TE) (t : TA) : TE := fun σ H Q => ta σ H fun x H1 => ∃ a dx fs, x = .ref a ∧ H1 a = some (.ins C dx fs) ∧ fs.lookup m = none ∧
  t σ H1 fun vs H2 => sp (x :: (vs ++ dvs)) H2 Q E
/-- C(..): a new instance and its dict, then __init__ -/
def tMake (C : Addr) (sp : Sp) (dvs : List V) (E : XK) (t : TA) : TE := fun σ H Q => t σ H fun vs H1 => ∀ x dx, H1 x = none → H1 dx = none → dx ≠ x →
  sp (.ref x :: (vs ++ dvs)) (upd (upd H1 dx (.own x)) x (.ins C dx [])) (fun v H2 => v = .non ∧ Q (.ref x) H2) E

/-- how the parameters are bound: us the positional arguments, kw the keywords' values by name, ds the defaults that fill up -/
def Binds (K : PySem.W.Frag) (fd : FuncData) (ps : List Str) (ds : List Value) : Prop :=
  ∀ (s : Shared) (us : List Value), K.In s.heap → (us ++ ds).length = ps.length → BindsTo s fd ⟨us, []⟩ (ps.zip (us ++ ds))
/-- every parameter is given -/
theorem Binds.all {K : PySem.W.Frag} {fd : FuncData} {ps : List Str} (h : ∀ us : List Value, us.length = ps.length → bindArgs fd ⟨us, []⟩ = pure (ps.zip us)) : Binds K fd ps [] := fun s us _ hl => by
  rw [List.append_nil] at hl ⊢
  exact .of_eq (h us hl)

/-- an exception of a callee reaches what this body wants of exceptions -/
def Passes (CX : CXT) (X : Cx) (E : XK) : Prop := ∀ (pins : List (Addr × Obj)) (σ : St) (H : Hp) (s : Shared) (e : Value) (s' : Shared), Inv X pins σ H s → CX X.stack H s E e s' → X.xe e s'

section
variable {X : Cx} {CX : CXT} {k : Nat} {f C : Addr} {fd : FuncData} {ps : List Str} {sp : Sp} {dvs : List V} {ds : List Value} {E : XK} {x m : Str} {p pos apos : Pos} {e o : Expr} {es : List Expr} {ta : TE} {t : TA}

/-- the callee runs -/
theorem run_fn {pins : List (Addr × Obj)} {σ : St} {H : Hp} {s : Shared} {Q : VK} {us : List Value} {vs : List V} (F : FnOk X.prog X.w X.K X.mg X.base CX k f fd ps sp) (hr : Room k X.A) (hb : Binds X.K fd ps ds) (hd : Vals dvs ds) (hx : Passes CX X E)
    (I : Inv X pins σ H s) (r : Vals vs us) (h : sp (vs ++ dvs) H Q E) : wpAny (model X.prog X.w) X.A (call (.ref f) us) (EP X pins σ Q) X.xe s := by
  have r2 : Vals (vs ++ dvs) (us ++ ds) := r.append hd
  have hl : (us ++ ds).length = ps.length := by rw [← r2.length]; exact F.len _ _ _ _ h
  refine wpAny_call (codeAny_mono (F.run X.A X.stack s H ⟨us, []⟩ (us ++ ds) (vs ++ dvs) Q E hr I.env0 (hb s us I.kIn hl) r2 h) fun r s' hq => ?_)
  cases r with
  | error e => exact hx pins σ H s e s' I hq
  | ok fl =>
    cases fl with
    | ret u => exact I.after hq
    | next => exact False.elim hq
    | brk => exact False.elim hq
    | cont => exact False.elim hq

theorem pe_call (F : FnOk X.prog X.w X.K X.mg X.base CX k f fd ps sp) (hr : Room k X.A) (hg : Gl X x) (hm : X.mg x = some (.ref f)) (hk : PySem.W.keepIn X.K (.ref f) = true) (hb : Binds X.K fd ps ds) (hd : Vals dvs ds) (hx : Passes CX X E)
    (ha : PA X (e :: es) t) (hdb : (x == ("__debug__" : Str)) = false := by decide) (he : starEach (e :: es) X.env = (false, eval e X.env) :: starEach es X.env := by rfl) (hpl : (backTo pos (starEach es X.env)).any (·.1) = false := by rfl) :
    PE X (.Call (.Name x p) (e :: es) [] pos) (tCall sp dvs E t) := by
  intro pins s σ H Q I h
  refine wpAny_Call_Name_kw (ld_glob I hg hm ?_ hdb)
  refine PySem.W.callWith_K (h₀ := X.base) I.ok.mod.kin hk (thn (ha pos pins s σ H _ I h) fun us s1 ⟨vs, H1, I1, r, q⟩ => ⟨I1.kIn, ?_⟩) he hpl
  exact run_fn F hr hb hd hx I1 r q
theorem pe_call0 (F : FnOk X.prog X.w X.K X.mg X.base CX k f fd ps sp) (hr : Room k X.A) (hg : Gl X x) (hm : X.mg x = some (.ref f)) (hk : PySem.W.keepIn X.K (.ref f) = true) (hb : Binds X.K fd ps ds) (hd : Vals dvs ds) (hx : Passes CX X E)
    (hdb : (x == ("__debug__" : Str)) = false := by decide) : PE X (.Call (.Name x p) [] [] pos) (tCall sp dvs E tNil) := by
  intro pins s σ H Q I h
  refine wpAny_Call_Name_kw (ld_glob I hg hm ?_ hdb)
  exact PySem.W.callWith_K0 I.kIn hk (run_fn (us := []) F hr hb hd hx I .nil h)

/-- o.m(e, ..) -/
theorem pe_meth {pl : Sem Bool} (he : PE X o ta) (c : Cls X.K C) (hm : Meth X.K C m f) (F : FnOk X.prog X.w X.K X.mg X.base CX k f fd ps sp) (hr : Room k X.A) (hb : Binds X.K fd ps ds) (hd : Vals dvs ds) (hx : Passes CX X E) (ha : PA X (e :: es) t)
    (hst : starEach (e :: es) X.env = (false, eval e X.env) :: starEach es X.env := by rfl) (hpl : (backTo pos (starEach es X.env)).any (·.1) = false := by rfl)
    (ht : eval (.Call (.Attribute o m apos) (e :: es) [] pos) X.env = (do
      let ov ← eval o X.env
      standAt apos.atName
      let (f, first) ← holding [ov] (getMethod ov m pl)
      callWith pos f first (backTo pos (starEach (e :: es) X.env)) (backToKw pos (keywordEach [] X.env))) := by rfl) :
    PE X (.Call (.Attribute o m apos) (e :: es) [] pos) (tMeth C m sp dvs E ta t) := by
  intro pins s σ H Q I h
  refine PySem.W.methodCall_KW (pl := pl) (thn (he pins s σ H _ I h) fun u s1 ⟨x, H1, I1, rx, a, dx, fs, ex, ea, l, q⟩ => ?_) ht
  subst ex
  obtain rfl : u = Value.ref a := rx
  refine getmeth_ok I1 ea c hm l ?_
  refine PySem.W.callWith_K (first := [.ref a]) (h₀ := X.base) I.ok.mod.kin hm.kp (thn (ha pos pins s1 σ H1 _ I1 q) fun us s2 ⟨vs, H2, I2, r, q2⟩ => ⟨I2.kIn, ?_⟩) hst hpl
  exact run_fn (us := .ref a :: us) (vs := .ref a :: vs) F hr hb hd hx I2 (.cons rfl r) q2
/-- o.m() -/
theorem pe_meth0 {pl : Sem Bool} (he : PE X o ta) (c : Cls X.K C) (hm : Meth X.K C m f) (F : FnOk X.prog X.w X.K X.mg X.base CX k f fd ps sp) (hr : Room k X.A) (hb : Binds X.K fd ps ds) (hd : Vals dvs ds) (hx : Passes CX X E)
    (ht : eval (.Call (.Attribute o m apos) [] [] pos) X.env = (do
      let ov ← eval o X.env
      standAt apos.atName
      let (f, first) ← holding [ov] (getMethod ov m pl)
      callWith pos f first (backTo pos (starEach [] X.env)) (backToKw pos (keywordEach [] X.env))) := by rfl) :
    PE X (.Call (.Attribute o m apos) [] [] pos) (tMeth C m sp dvs E ta tNil) := by
  intro pins s σ H Q I h
  refine PySem.W.methodCall_KW (pl := pl) (thn (he pins s σ H _ I h) fun u s1 ⟨x, H1, I1, rx, a, dx, fs, ex, ea, l, q⟩ => ?_) ht
  subst ex
  obtain rfl : u = Value.ref a := rx
  refine getmeth_ok I1 ea c hm l ?_
  exact PySem.W.callWith_K0 (first := [.ref a]) I1.kIn hm.kp (run_fn (us := [.ref a]) (vs := [.ref a]) F hr hb hd hx I1 (.cons rfl .nil) q)

/-- what a class must have to be made -/
structure Mk (K : PySem.W.Frag) (C f : Addr) : Prop where
  makes : PySem.W.makesIn K C = true
  init : PySem.W.findIn K (.ref C) "__init__" = some (some (.ref f))
  fn : PySem.W.isFn K (.ref f) = true
  kp : PySem.W.keepIn K (.ref C) = true

theorem run_make {pins : List (Addr × Obj)} {σ : St} {H : Hp} {s : Shared} {Q : VK} {us : List Value} {vs : List V} (M : Mk X.K C f) (F : FnOk X.prog X.w X.K X.mg X.base CX k f fd ps sp) (hr : Room (k + 1) X.A) (hb : Binds X.K fd ps ds) (hd : Vals dvs ds)
    (hx : Passes CX X E) (I : Inv X pins σ H s) (r : Vals vs us)
    (h : ∀ x dx, H x = none → H dx = none → dx ≠ x → sp (.ref x :: (vs ++ dvs)) (upd (upd H dx (.own x)) x (.ins C dx [])) (fun v H2 => v = .non ∧ Q (.ref x) H2) E) :
    wpAny (model X.prog X.w) X.A (call (.ref C) us) (EP X pins σ Q) X.xe s := by
  have hq := h (s.heap.objs.size + 1) s.heap.objs.size (I.hok.fresh (Nat.le_succ _)) (I.hok.fresh (Nat.le_refl _)) (Nat.ne_of_lt (Nat.lt_succ_self _))
  have I2 := Inv.made (C := C) I
  have r2 : Vals (V.ref (s.heap.objs.size + 1) :: (vs ++ dvs)) (Value.ref (s.heap.objs.size + 1) :: (us ++ ds)) := .cons rfl (r.append hd)
  have hl : (Value.ref (s.heap.objs.size + 1) :: us ++ ds).length = ps.length := by
    have e := r2.length
    rw [F.len _ _ _ _ hq] at e
    exact e.symm
  refine wpAny_call (make_map (f := f) I.kIn M.makes M.init (beq_iff_eq.mp M.fn) (codeAny_mono (F.run _ X.stack _ _ ⟨Value.ref (s.heap.objs.size + 1) :: us, []⟩ (Value.ref (s.heap.objs.size + 1) :: (us ++ ds)) _ _ E (hr.make C us [])
    (I2.env0.make C us []) (hb _ (Value.ref (s.heap.objs.size + 1) :: us) I2.kIn hl) r2 hq) fun r s' hq' => ?_))
  cases r with
  | error e => exact hx pins σ _ _ e s' I2 hq'
  | ok fl =>
    cases fl with
    | ret u =>
      obtain ⟨v, H', I3, rv, ev, q3⟩ := I2.after hq'
      subst ev
      exact ⟨rv, ⟨V.ref (s.heap.objs.size + 1), H', I3, rfl, q3⟩⟩
    | next => exact False.elim hq'
    | brk => exact False.elim hq'
    | cont => exact False.elim hq'
theorem pe_make (M : Mk X.K C f) (F : FnOk X.prog X.w X.K X.mg X.base CX k f fd ps sp) (hr : Room (k + 1) X.A) (hg : Gl X x) (hm : X.mg x = some (.ref C)) (hb : Binds X.K fd ps ds) (hd : Vals dvs ds) (hx : Passes CX X E)
    (ha : PA X (e :: es) t) (hdb : (x == ("__debug__" : Str)) = false := by decide) (he : starEach (e :: es) X.env = (false, eval e X.env) :: starEach es X.env := by rfl) (hpl : (backTo pos (starEach es X.env)).any (·.1) = false := by rfl) :
    PE X (.Call (.Name x p) (e :: es) [] pos) (tMake C sp dvs E t) := by
  intro pins s σ H Q I h
  refine wpAny_Call_Name_kw (ld_glob I hg hm ?_ hdb)
  refine PySem.W.callWith_K (h₀ := X.base) I.ok.mod.kin M.kp (thn (ha pos pins s σ H _ I h) fun us s1 ⟨vs, H1, I1, r, q⟩ => ⟨I1.kIn, ?_⟩) he hpl
  exact run_make M F hr hb hd hx I1 r q
theorem pe_make0 (M : Mk X.K C f) (F : FnOk X.prog X.w X.K X.mg X.base CX k f fd ps sp) (hr : Room (k + 1) X.A) (hg : Gl X x) (hm : X.mg x = some (.ref C)) (hb : Binds X.K fd ps ds) (hd : Vals dvs ds) (hx : Passes CX X E)
    (hdb : (x == ("__debug__" : Str)) = false := by decide) : PE X (.Call (.Name x p) [] [] pos) (tMake C sp dvs E tNil) := by
  intro pins s σ H Q I h
  refine wpAny_Call_Name_kw (ld_glob I hg hm ?_ hdb)
  exact PySem.W.callWith_K0 I.kIn M.kp (run_make (us := []) M F hr hb hd hx I .nil h)
end

/-! ### keywords -/
/-- the values of the keywords, from the left -/
def PK (X : Cx) (kws : List Keyword) (t : TA) : Prop :=
  ∀ (pos : Pos) (pins : List (Addr × Obj)) (s : Shared) (σ : St) (H : Hp) (Q : List V → Hp → Prop), Inv X pins σ H s → t σ H Q → wpAny (model X.prog X.w) X.A (evalAll ((backToKw pos (keywordEach kws X.env)).map (·.2))) (AP X pins σ Q) X.xe s
section
variable {X : Cx} {CX : CXT} {k : Nat} {f C : Addr} {fd : FuncData} {ps ks : List Str} {sp : Sp} {E : XK} {x m : Str} {p pos apos kpos : Pos} {e o : Expr} {es : List Expr} {kws : List Keyword} {te ta : TE} {t tk : TA} {nm : Option Str}
theorem pk_nil : PK X [] tNil := fun _ _ _ _ H Q I h => wpAny_evalAll_nil ⟨[], H, I, .nil, h⟩
theorem pk_cons (ha : PE X e te) (hr : PK X kws t) : PK X (⟨nm, e, kpos⟩ :: kws) (tCons te t) := by
  intro pos pins s σ H Q I h
  show wpAny _ _ (evalAll ((do let v ← eval e X.env; standAt pos; pure v) :: (backToKw pos (keywordEach kws X.env)).map (·.2))) _ _ s
  refine wpAny_evalAll_cons (wpAny_bind (thn (ha pins s σ H _ I h) fun u s1 ⟨x, H1, I1, r1, q1⟩ => wpAny_bind (wpAny_standAt (wpAny_pure ?_))))
  exact thn (hr pos pins s1 σ H1 _ I1 q1) fun us s2 ⟨xs, H2, I2, r2, q2⟩ => ⟨x :: xs, H2, I2, .cons r1 r2, q2⟩

/-- how a call with keywords binds: g puts the positional values us and the keywords' values ws (names ks) in the parameters' order, defaults among them -/
structure KBinds (K : PySem.W.Frag) (fd : FuncData) (ps ks : List Str) (g : List Value → List Value → List Value) (gV : List V → List V → List V) : Prop where
  to : ∀ (s : Shared) (us ws : List Value), K.In s.heap → (g us ws).length = ps.length → BindsTo s fd ⟨us, ks.zip ws⟩ (ps.zip (g us ws))
  rel : ∀ {vs : List V} {us : List Value} {zs : List V} {ws : List Value}, Vals vs us → Vals zs ws → Vals (gV vs zs) (g us ws)
def tCallK (sp : Sp) (gV : List V → List V → List V) (E : XK) (t tk : TA) : TE := fun σ H Q => t σ H fun vs H1 => tk σ H1 fun zs H2 => sp (gV vs zs) H2 Q E
variable {g : List Value → List Value → List Value} {gV : List V → List V → List V}
theorem run_fnk {pins : List (Addr × Obj)} {σ : St} {H : Hp} {s : Shared} {Q : VK} {us ws : List Value} {vs zs : List V} (F : FnOk X.prog X.w X.K X.mg X.base CX k f fd ps sp) (hr : Room k X.A) (hb : KBinds X.K fd ps ks g gV) (hx : Passes CX X E)
    (I : Inv X pins σ H s) (r : Vals vs us) (rz : Vals zs ws) (h : sp (gV vs zs) H Q E) : wpAny (model X.prog X.w) X.A (call (.ref f) us (ks.zip ws)) (EP X pins σ Q) X.xe s := by
  have r2 := hb.rel r rz
  have hl : (g us ws).length = ps.length := by rw [← r2.length]; exact F.len _ _ _ _ h
  refine wpAny_call (codeAny_mono (F.run X.A X.stack s H ⟨us, ks.zip ws⟩ (g us ws) (gV vs zs) Q E hr I.env0 (hb.to s us ws I.kIn hl) r2 h) fun r s' hq => ?_)
  cases r with
  | error e => exact hx pins σ H s e s' I hq
  | ok fl =>
    cases fl with
    | ret u => exact I.after hq
    | next => exact False.elim hq
    | brk => exact False.elim hq
    | cont => exact False.elim hq
/-- f(e, .., k = v, ..) -/
theorem pe_callK (F : FnOk X.prog X.w X.K X.mg X.base CX k f fd ps sp) (hr : Room k X.A) (hg : Gl X x) (hm : X.mg x = some (.ref f)) (hk : PySem.W.keepIn X.K (.ref f) = true) (hb : KBinds X.K fd ps ks g gV) (hx : Passes CX X E)
    (ha : PA X (e :: es) t) (hkw : PK X kws tk) (hall : (backToKw pos (keywordEach kws X.env)).all (·.1.isSome) = true := by rfl) (hks : (backToKw pos (keywordEach kws X.env)).filterMap (·.1) = ks := by rfl)
    (hdb : (x == ("__debug__" : Str)) = false := by decide) (he : starEach (e :: es) X.env = (false, eval e X.env) :: starEach es X.env := by rfl)
    (hpl : ((backTo pos (starEach (e :: es) X.env)).any (·.1) || (backToKw pos (keywordEach kws X.env)).any (·.1.isNone)) = false := by rfl) :
    PE X (.Call (.Name x p) (e :: es) kws pos) (tCallK sp gV E t tk) := by
  intro pins s σ H Q I h
  refine wpAny_Call_Name_kw (ld_glob I hg hm ?_ hdb)
  refine PySem.W.callWith_KW (h₀ := X.base) I.ok.mod.kin hk hall (thn (ha pos pins s σ H _ I h) fun us s1 ⟨vs, H1, I1, r, q⟩ => ?_) hpl he
  refine thn (hkw pos pins s1 σ H1 _ I1 q) fun ws s2 ⟨zs, H2, I2, rz, q2⟩ => ⟨I2.kIn, ?_⟩
  rw [hks]
  exact run_fnk F hr hb hx I2 r rz q2
end

/-! ### a def's body keeps its promise -/
/-- names: the parameters first -/
structure FnScope (N P : List Str) (sc : Scope) : Prop where
  kind : sc.kind = .function
  co : sc.isCoroutine = false
  gen : sc.isGenerator = false
  nd : N.Nodup
  pre : N.take P.length = P
  par : ∀ x ∈ P, sc.names.lookup x = some .local ∨ sc.names.lookup x = some .cell
  nofree : ∀ y ∈ sc.names, y.2 ≠ .free

theorem bindL_out {kindOf : Str → Option NameKind} {x : Str} : ∀ {binds : List (Str × Value)} {m : Str → Option Value}, (∀ v, (x, v) ∉ binds) → bindL kindOf binds m x = m x
  | [], _, _ => rfl
  | (n, v) :: r, m, h => by
    unfold bindL
    rw [bindL_out fun w hw => h w (List.mem_cons_of_mem _ hw)]
    split
    · have : x ≠ n := by rintro rfl; exact h v List.mem_cons_self
      simp [this]
    · rfl
theorem bindC_out {kindOf : Str → Option NameKind} {x : Str} : ∀ {binds : List (Str × Value)} {m : Str → Option Value}, (∀ v, (x, v) ∉ binds) → bindC kindOf binds m x = m x
  | [], _, _ => rfl
  | (n, v) :: r, m, h => by
    unfold bindC
    rw [bindC_out fun w hw => h w (List.mem_cons_of_mem _ hw)]
    split
    · rfl
    · have : x ≠ n := by rintro rfl; exact h v List.mem_cons_self
      simp [this]
theorem bindL_get {kindOf : Str → Option NameKind} {x : Str} {v : Value} : ∀ {P : List Str} {vs : List Value} {i : Nat} {m : Str → Option Value}, P.Nodup → P[i]? = some x → vs[i]? = some v → kindOf x = some .local →
    bindL kindOf (P.zip vs) m x = some v
  | [], _, _, _, _, h, _, _ => by simp at h
  | _ :: _, [], _, _, _, _, h, _ => by simp at h
  | p :: P, w :: vs, 0, m, nd, h1, h2, hk => by
    simp at h1 h2; subst h1; subst h2
    show bindL kindOf ((p, w) :: P.zip vs) m p = _
    unfold bindL
    rw [bindL_out fun v hv => (List.nodup_cons.mp nd).1 (List.of_mem_zip hv).1, if_pos hk]
    simp
  | p :: P, w :: vs, i + 1, m, nd, h1, h2, hk => by
    show bindL kindOf ((p, w) :: P.zip vs) m x = _
    unfold bindL
    exact bindL_get (i := i) (List.nodup_cons.mp nd).2 (by simpa using h1) (by simpa using h2) hk
theorem bindC_get {kindOf : Str → Option NameKind} {x : Str} {v : Value} : ∀ {P : List Str} {vs : List Value} {i : Nat} {m : Str → Option Value}, P.Nodup → P[i]? = some x → vs[i]? = some v → kindOf x ≠ some .local →
    bindC kindOf (P.zip vs) m x = some v
  | [], _, _, _, _, h, _, _ => by simp at h
  | _ :: _, [], _, _, _, _, h, _ => by simp at h
  | p :: P, w :: vs, 0, m, nd, h1, h2, hk => by
    simp at h1 h2; subst h1; subst h2
    show bindC kindOf ((p, w) :: P.zip vs) m p = _
    unfold bindC
    rw [bindC_out fun v hv => (List.nodup_cons.mp nd).1 (List.of_mem_zip hv).1, if_neg hk]
    simp
  | p :: P, w :: vs, i + 1, m, nd, h1, h2, hk => by
    show bindC kindOf ((p, w) :: P.zip vs) m x = _
    unfold bindC
    exact bindC_get (i := i) (List.nodup_cons.mp nd).2 (by simpa using h1) (by simpa using h2) hk

/-- the names' values at the entry -/
def start (N : List Str) (vs : List V) : St := vs.map some ++ List.replicate (N.length - vs.length) none

/-- the context of a def's body, at its entry; an exception leaves the frame, then lies as CX says -/
def cxOf (CX : CXT) (P : Program) (w : World) (K : PySem.W.Frag) (mg : Str → Option Value) (base : Heap) (N : List Str) (qual : Str) (scope : Scope) (f : Addr) (cd : Value) (A : Around) (outer : List Env) (s : Shared) (H : Hp) (E : XK) : Cx where
  prog := P
  w := w
  K := K
  mg := mg
  base := base
  A := A.deeper (envOfC qual scope s.heap.objs.size f cd)
  N := N
  s₀ := s
  H₀ := H
  env := envOfC qual scope s.heap.objs.size f cd
  outer := outer
  stack := envOfC qual scope s.heap.objs.size f cd :: outer
  ex := []
  calm := true
  fn := fun _ => true
  pn := []
  xe := fun e s' => wpAny (model P w) (A.deeper (envOfC qual scope s.heap.objs.size f cd)) (leaving (envOfC qual scope s.heap.objs.size f cd) e) (fun _ s'' => CX outer H s E e s'') (fun e' s'' => CX outer H s E e' s'') s'

theorem cell_has {sc : Scope} {n : Nat} {x : Str} (h : sc.names.lookup x = some .cell) : ∃ c, (cellsFrom n sc.names []).lookup x = some c := by
  have q := PySem.W.cellsFrom_some sc.names n [] (.inl h)
  exact Option.isSome_iff_exists.mp q

theorem inv_start {CX : CXT} {P : Program} {w : World} {K : PySem.W.Frag} {mg : Str → Option Value} {base : Heap} {N ps : List Str} {qual : Str} {scope : Scope} {f : Addr} {cd : Value} {A : Around} {outer : List Env} {s s1 : Shared} {H : Hp} {E : XK} {us : List Value} {vs : List V}
    (S : FnScope N ps scope) (hd : A.handled = none) (e0 : Env0 P w K mg base A outer s H) (hl : vs.length = ps.length) (r : Vals vs us)
    (x : InCallC s s.heap.objs.size (bindL (envOfC qual scope s.heap.objs.size f cd).kindOf (ps.zip us) fun _ => none) (cellsFrom (s.heap.objs.size + 1) scope.names []) (bindC (envOfC qual scope s.heap.objs.size f cd).kindOf (ps.zip us) fun _ => none) s1) :
    Inv (cxOf CX P w K mg base N qual scope f cd A outer s H E) [] (start N vs) H s1 := by
  have hpl : ps.length ≤ N.length := by have := congrArg List.length S.pre; rw [List.length_take] at this; omega
  obtain ⟨h1, tk, rfl, hk⟩ := x.done
  have noA : ∀ b : Addr, b ∉ (cxOf CX P w K mg base N qual scope f cd A outer s H E).ex := fun b z => absurd (show b ∈ ([] : List Addr) from z) (by simp)
  refine ⟨⟨e0.mod, S.kind, rfl, rfl, Nat.le_refl _, fun y z c h1 h2 => ?_, fun y hy => ?_, fun y c _ h => ?_, fun _ => hd, Around.frames_deeper e0.frames, .inr ⟨rfl, rfl⟩, fun b z => absurd z (noA b), e0.bs, e0.bsz, fun b _ _ => noA b, fun b z => absurd z (noA b), e0.funs, e0.frf⟩,
    rfl, e0.bare, Un.kept hk, ⟨_, x.toInCall.ns, fun i y v h1 h2 h3 => ?_⟩, fun y c h => ⟨_, x.cell y c h⟩, e0.hok.fresh (Nat.le_refl _), fun y c h => ?_, fun p hp => absurd (show p ∈ ([] : List (Addr × Obj)) from hp) (by simp), e0.hok.kept hk, ?_⟩
  · exact name_of_addr x.apart (PySem.mem_of_lookup h1) (PySem.mem_of_lookup h2)
  · have hy : scope.names.lookup y = some .cell ∨ scope.names.lookup y = some .free := hy
    rcases hy with hy | hy
    · exact cell_has hy
    · exact absurd rfl (S.nofree _ (PySem.mem_of_lookup hy))
  · exact Nat.le_of_lt (x.above y c (PySem.mem_of_lookup h))
  · have hi : i < vs.length := by
      unfold start at h2
      by_cases hi : i < vs.length
      · exact hi
      · rw [List.getElem?_append_right (by simpa using hi)] at h2
        rw [List.getElem?_replicate] at h2
        split at h2 <;> cases h2
    have ha : vs[i]? = some v := by
      unfold start at h2
      rw [List.getElem?_append_left (by simpa using hi), List.getElem?_map] at h2
      cases e : vs[i]? with
      | none => rw [e] at h2; cases h2
      | some a => rw [e] at h2; cases h2; rfl
    obtain ⟨u, hu, rv⟩ := r.get ha
    have hp : ps[i]? = some y := by
      rw [← S.pre, List.getElem?_take_of_lt (by omega)]; exact h1
    have ndP : ps.Nodup := by rw [← S.pre]; exact S.nd.sublist (List.take_sublist _ _)
    refine ⟨u, rv, ?_⟩
    rcases S.par y (List.mem_of_getElem? hp) with k | k
    · exact .inl ⟨k, bindL_get ndP hp hu k⟩
    · obtain ⟨c, e⟩ := cell_has (n := s.heap.objs.size + 1) k
      refine .inr ⟨.inl k, c, e, ?_⟩
      have q := x.cell y c e
      rw [bindC_get ndP hp hu (by show scope.names.lookup y ≠ _; rw [k]; decide)] at q
      exact q
  · exact e0.hok.fresh (Nat.le_of_lt (x.above y c (PySem.mem_of_lookup h)))
  · unfold start
    show _ = N.length
    rw [List.length_append, List.length_map, List.length_replicate]
    omega

/-- THE RULE: a def (or a method) of the text, by its body. The body's reading t is chosen for each entry; it is run at the parameters' values -/
theorem fn_of {CX : CXT} {P : Program} {w : World} {K : PySem.W.Frag} {mg : Str → Option Value} {base : Heap} {k : Nat} {f : Addr} {name qual : Str} {params : Arguments} {body : List Stmt} {scope : Scope} {dV kV doc pm cdv ct oc : Value} {an od : Option Addr}
    {osl : Array (Option Value)} {N ps : List Str} {sp : Sp} (lk : K.lookup f = some ⟨oc, od, .func (PySem.W.fnOf name qual params body scope dV kV doc pm an cdv ct), osl⟩) (hcd : PySem.W.codeIn K cdv qual = true) (S : FnScope N ps scope)
    (len : ∀ vs H Q E, sp vs H Q E → vs.length = ps.length)
    (hbody : ∀ (A : Around) (outer : List Env) (s : Shared) (H : Hp) (vs : List V) (Q : VK) (E : XK), Room k (A.deeper (envOfC qual scope s.heap.objs.size f cdv)) → sp vs H Q E →
      ∃ t, PSs (cxOf CX P w K mg base N qual scope f cdv A outer s H E) body t ∧ t { nx := fun _ H' => Q .non H', rt := Q } (start N vs) H) :
    FnOk P w K mg base CX (k + 1) f (PySem.W.fnOf name qual params body scope dV kV doc pm an cdv ct) ps sp := by
  refine ⟨len, fun A outer s H args us vs Q E hr e0 hb r hsp => ?_⟩
  have hl := len _ _ _ _ hsp
  have KX : K.In s.heap := e0.mod.kin.keeps fun b o e => (e0.bs b o e).1
  have lim : s.heap.NoLimit := e0.mod.nolimit.keeps fun b o e => (e0.bs b o e).1
  have hkind : ∀ y ∈ ps.zip us, scope.names.lookup y.1 = some .local ∨ (scope.names.lookup y.1 = some .cell ∧ ((cellsFrom (s.heap.objs.size + 1) scope.names []).lookup y.1).isSome = true) := fun ⟨n, v⟩ hy => by
    rcases S.par n (List.of_mem_zip hy).1 with q | q
    · exact .inl q
    · exact .inr ⟨q, PySem.W.cellsFrom_some _ _ _ (.inl q)⟩
  refine codeAny_call_function hr.depth (KX _ _ lk) rfl S.co S.gen rfl (PySem.W.codeRec_of KX hcd) (hb _ _ _ _ ?_)
  refine wpAny_newFunctionEnv_cells S.kind hkind fun env he s1 x => ?_
  subst he
  refine ⟨lim.keeps x.toInCall.keep, codeAny_func ?_⟩
  obtain ⟨t, ht, hq⟩ := hbody A outer s H vs Q E (hr.deeper _) hsp
  have I : Inv (cxOf CX P w K mg base N qual scope f cdv A outer s H E) [] (start N vs) H s1 := inv_start S hr.hd e0 hl r x
  refine wpAny_mono (ht [] s1 (start N vs) H _ I hq) (fun fl s' hs => ?_) fun e s' hs => hs
  have fin : ∀ {σ' : St} {H' : Hp} {v : V} {u : Value}, Inv (cxOf CX P w K mg base N qual scope f cdv A outer s H E) [] σ' H' s' → RelV v u → Q v H' → CE outer P w H s Q u s' :=
    fun {σ' H' v u} J rv q => ⟨v, H', J.os, J.bare, J.base, J.hok, rv, q⟩
  cases fl with
  | ret u =>
    obtain ⟨v, σ', H', J, rv, q⟩ := hs
    exact fin J rv q
  | next =>
    obtain ⟨σ', H', J, q⟩ := hs
    exact fin (v := V.non) (u := Value.none) J rfl q
  | brk =>
    obtain ⟨_, _, _, q⟩ := hs
    exact False.elim q
  | cont =>
    obtain ⟨_, _, _, q⟩ := hs
    exact False.elim q
end L2

namespace L2
open PySem PySem.Spec PyProof.Rows
section
variable {X : Cx} {x : Str} {p pos : Pos} {e : Expr} {es : List Expr} {t : TA} {id T : String} {r : List V → Hp → VK → Prop}

def tCB (r : List V → Hp → VK → Prop) (t : TA) : TE := fun σ H Q => t σ H fun vs H1 => r vs H1 Q
/-- f(e, ..), f a built-in function -/
theorem pe_callB (hc : CallR X (.builtin id) r) (hg : Gl X x) (hm : X.mg x = none) (hv : bootBuiltins x = some (.builtin id)) (ha : PA X (e :: es) t) (hn : x ≠ "__name__" := by decide) (hdb : (x == ("__debug__" : Str)) = false := by decide)
    (he : starEach (e :: es) X.env = (false, eval e X.env) :: starEach es X.env := by rfl) (hpl : (backTo pos (starEach es X.env)).any (·.1) = false := by rfl) : PE X (.Call (.Name x p) (e :: es) [] pos) (tCB r t) := by
  intro pins s σ H Q I h
  refine wpAny_Call_Name_kw (ld_blt I hg hm hv ?_ hn hdb)
  exact PyProof.Rows.callWith_builtin1 (thn (ha pos pins s σ H _ I h) fun us s1 ⟨vs, H1, I1, r1, q1⟩ => hc pins s1 σ H1 vs us Q I1 r1 q1) he hpl
/-- T(e, ..), T a built-in type -/
theorem pe_callTy (hc : CallR X (.type T) r) (hg : Gl X x) (hm : X.mg x = none) (hv : bootBuiltins x = some (.type T)) (ha : PA X (e :: es) t) (hn : x ≠ "__name__" := by decide) (hdb : (x == ("__debug__" : Str)) = false := by decide)
    (he : starEach (e :: es) X.env = (false, eval e X.env) :: starEach es X.env := by rfl) (hpl : (backTo pos (starEach es X.env)).any (·.1) = false := by rfl) : PE X (.Call (.Name x p) (e :: es) [] pos) (tCB r t) := by
  intro pins s σ H Q I h
  refine wpAny_Call_Name_kw (ld_blt I hg hm hv ?_ hn hdb)
  exact PyProof.Rows.callWith_type1 (thn (ha pos pins s σ H _ I h) fun us s1 ⟨vs, H1, I1, r1, q1⟩ => hc pins s1 σ H1 vs us Q I1 r1 q1) he hpl
/-- T() -/
theorem pe_callTy0 (hc : CallR X (.type T) r) (hg : Gl X x) (hm : X.mg x = none) (hv : bootBuiltins x = some (.type T)) (hn : x ≠ "__name__" := by decide) (hdb : (x == ("__debug__" : Str)) = false := by decide) :
    PE X (.Call (.Name x p) [] [] pos) (tCB r tNil) := by
  intro pins s σ H Q I h
  refine wpAny_Call_Name_kw (ld_blt I hg hm hv ?_ hn hdb)
  exact PyProof.Rows.callWith_type0 (hc pins s σ H [] [] Q I .nil h)
end
end L2

namespace HT
open PySem PyProof.Rows

/-- t < u of tuples of ints -/
def lexLt : List Int → List Int → Bool
  | [], [] => false
  | [], _ :: _ => true
  | _ :: _, [] => false
  | x :: xs, y :: ys => if x = y then lexLt xs ys else decide (x < y)
theorem lexLt_cons (x y : Int) (xs ys : List Int) : lexLt (x :: xs) (y :: ys) = if x = y then lexLt xs ys else decide (x < y) := rfl
theorem lexLt_nil_nil : lexLt [] [] = false := rfl
theorem lexLt_nil_cons (y : Int) (ys : List Int) : lexLt [] (y :: ys) = true := rfl
theorem lexLt_cons_nil (x : Int) (xs : List Int) : lexLt (x :: xs) [] = false := rfl

theorem eqAt_int (A : Around) (s : Shared) (a : Int) (t : Tok) (c : Int) (u : Tok) : ∃ e, SeqAt.EqAt A s (.int a t) (.int c u) e ∧ (e = true ↔ a = c) :=
  ⟨(a == c), SeqAt.EqAt.int_int a t c u, by simp⟩
theorem rcLt_int (A : Around) (s : Shared) (a : Int) (t : Tok) (c : Int) (u : Tok) (prog : Program) (w : World) (E : Value → Shared → Prop) (Q : Value → Shared → Prop) (h : Q (.bool (decide (a < c))) s) :
    wpAny (model prog w) A (richCompare .Lt (.int a t) (.int c u)) Q E s :=
  (PyProof.Rows.lt_int h : wpAny (model prog w) A (compareOp .Lt (.int a t) (.int c u)) Q E s)

section
open PySem.SeqAt
open PySem.AutoSeq1 (wpAny_loadPart')
open PySem.MeetsSeq PySem.MeetsSeq2 PySem.MeetsSeq3

theorem tuple_lt_ints (l b : Addr) (items items2 : Array Value) (n n2 : Nat) (dd dd2 : Option Addr) (sl sl2 : Array (Option Value)) (ns ms : List Int) (hi : IntsAre items.toList ns) (hj : IntsAre items2.toList ms) :
    Meets (Builtin.«tuple.__lt__» ⟨[.ref l, .ref b], []⟩)
      (fun _ R s => s.heap.get? l = some { cls := .type "tuple", dict := dd, data := .seq items n, slots := sl } ∧ s.heap.get? b = some { cls := .type "tuple", dict := dd2, data := .seq items2 n2, slots := sl2 } ∧
        R (.ok (.ret (.bool (lexLt ns ms)))) s) :=
  .of_wp fun prog w A R s h => by
    obtain ⟨hp, g, d, tk, os⟩ := s; obtain ⟨hl, hb, h⟩ := h
    have f2 := AutoSeq1.sub_tuple_tuple
    have z1 : items.size = ns.length := by rw [← hi.length]; simp
    have z2 : items2.size = ms.length := by rw [← hj.length]; simp
    wp_walk using wpAny_loadPart' hl, wpAny_loadPart' hb, wpAny_forIn_list _ (fun rest b s' => b.1 = none ∧ s' = ⟨hp, g, d, tk, os⟩ ∧ ∃ (vs ws : List Value) (ns' ms' : List Int), rest = vs.zip ws ∧
      IntsAre vs ns' ∧ IntsAre ws ms' ∧ ns'.length + items2.size = ms'.length + items.size ∧ R (.ok (.ret (.bool (lexLt ns' ms')))) ⟨hp, g, d, tk, os⟩) _
    case turn =>
      rintro ⟨y, x⟩ rest b s' ⟨hb', rfl, vs, ws, ns', ms', hz, hvi, hwi, hlen, hR⟩
      cases hvi with
      | nil => rw [List.zip_nil_left] at hz; cases hz
      | cons a t hvi' =>
        cases hwi with
        | nil => rw [List.zip_nil_right] at hz; cases hz
        | cons c u hwi' =>
          rw [List.zip_cons_cons] at hz
          injection hz with hyx hrest
          injection hyx with hy hx
          subst hy hx
          rw [lexLt_cons] at hR
          simp only [List.length_cons] at hlen
          obtain ⟨e, he, hiff⟩ := eqAt_int A.in1 ⟨hp, g, d, tk, os⟩ a t c u
          refine wpAny_bind (he prog w _ _ ?_)
          cases e with
          | true =>
            rw [if_pos (hiff.mp rfl)] at hR
            wp_walk
            exact ⟨rfl, rfl, _, _, _, _, hrest, hvi', hwi', by omega, hR⟩
          | false =>
            rw [if_neg (fun q => absurd (hiff.mpr q) Bool.false_ne_true)] at hR
            have hri := rcLt_int A.in1 ⟨hp, g, d, tk, os⟩ a t c u prog w
            wp_walk using hri
            exact ⟨_, rfl, by simpa using hR⟩
    case fin =>
      rintro ⟨b1, b2⟩ s' ⟨hb', rfl, vs, ws, ns', ms', hz, hvi, hwi, hlen, hR⟩
      simp only at hb'
      subst hb'
      have hv : lexLt ns' ms' = decide (items.size < items2.size) := by
        cases hvi with
        | nil =>
          cases hwi with
          | nil =>
            simp only [List.length_nil] at hlen
            rw [lexLt_nil_nil]
            exact (decide_eq_false (by omega)).symm
          | cons c u hw =>
            simp only [List.length_nil, List.length_cons] at hlen
            rw [lexLt_nil_cons]
            exact (decide_eq_true (by omega)).symm
        | cons a t hv =>
          cases hwi with
          | nil =>
            simp only [List.length_nil, List.length_cons] at hlen
            rw [lexLt_cons_nil]
            exact (decide_eq_false (by omega)).symm
          | cons c u hw =>
            rw [List.zip_cons_cons] at hz
            cases hz
      rw [hv] at hR
      wp_walk
      exact ⟨_, rfl, by simpa [Builtin.Tuple.tupleCompareSizes] using hR⟩
    case h =>
      exact ⟨rfl, rfl, items.toList, items2.toList, ns, ms, rfl, hi, hj, by omega, h⟩
end

section
variable {prog : Program} {w : World} {A : Around} {E : Value → Shared → Prop} {s : Shared}

theorem lt_tupInts {l b : Addr} {items items2 : Array Value} {ns ms : List Int} {Q : Value → Shared → Prop} (hl : IsTup s.heap l items) (hb : IsTup s.heap b items2) (hi : IntsAre items.toList ns) (hj : IntsAre items2.toList ms)
    (hu : A.units < cLine) (h : Q (.bool (lexLt ns ms)) s) : wpAny (model prog w) A (compareOp .Lt (.ref l) (.ref b)) Q E s := by
  obtain ⟨⟨cls, dd, data, sl⟩, ho, hc, n, hd⟩ := id hl
  obtain ⟨⟨cls2, dd2, data2, sl2⟩, ho2, hc2, n2, hd2⟩ := id hb
  simp only at hc hd hc2 hd2
  subst hc hd hc2 hd2
  exact richCompare_meets_room (op := .Lt) ⟨_, ho, rfl⟩ ⟨_, ho2, rfl⟩ PySem.F.slot_tuple_lt PySem.F.entry_tuple_lt (PySem.F.args_tuple_lt_2 _ _) (tuple_lt_ints l b items items2 n n2 dd dd2 sl sl2 ns ms hi hj)
    ⟨ho, ho2, show Value.bool (lexLt ns ms) ≠ Value.notImplemented ∧ Q (.bool (lexLt ns ms)) s from ⟨(fun x => nomatch x), h⟩⟩ hu

/-- t + u, t not empty -/
theorem cat_tup {t b : Addr} {vs ws : List Value} {Q : Value → Shared → Prop} (ht : IsTup s.heap t vs.toArray) (hb : IsTup s.heap b ws.toArray) (hv : vs ≠ [])
    (h1 : ws = [] → Q (.ref t) s) (h2 : ws ≠ [] → Q (.ref s.heap.objs.size) { s with heap := s.heap.push { cls := .type "tuple", data := .seq (vs ++ ws).toArray } })
    (hsz : vs.length + ws.length ≤ sizeLine) : wpAny (model prog w) A (binaryOp .Add (.ref t) (.ref b)) Q E s := by
  obtain ⟨⟨cls, dd, data, sl⟩, ho, hc, n, hd⟩ := id ht
  obtain ⟨⟨cls2, dd2, data2, sl2⟩, ho2, hc2, n2, hd2⟩ := id hb
  simp only at hc hd hc2 hd2
  subst hc hd hc2 hd2
  have e : vs.toArray ++ ws.toArray = (vs ++ ws).toArray := by simp
  by_cases hw : ws = []
  · exact concat_meets ⟨_, ho, rfl⟩ ⟨_, ho2, rfl⟩ noFill_tuple_add seq_tuple_add PySem.F.slot_tuple_add PySem.F.entry_tuple_add (PySem.F.args_tuple_add_2 _ _)
      (tuple_addW1 t b vs.toArray ws.toArray n n2 dd dd2 sl sl2 (by simpa using hv) (by simp [hw])) ⟨ho, ho2, h1 hw⟩
  · refine concat_meets ⟨_, ho, rfl⟩ ⟨_, ho2, rfl⟩ noFill_tuple_add seq_tuple_add PySem.F.slot_tuple_add PySem.F.entry_tuple_add (PySem.F.args_tuple_add_2 _ _)
      (tuple_addW2 t b vs.toArray ws.toArray n n2 dd dd2 sl sl2 (by simpa using hv) (by simpa using hw) (by rw [List.size_toArray, List.size_toArray]; exact hsz)) ⟨ho, ho2, ?_⟩
    rw [e]
    exact h2 hw

/-! ### t[a:b], not the whole -/
/-- a slice's bound as a place among n (d where it is left out) -/
def sIx (n d : Nat) : Option Int → Nat
  | none => d
  | some v => if v < 0 then (v + (n : Int)).toNat else min v.toNat n
theorem sIx_none (n d : Nat) : sIx n d none = d := rfl
theorem sIx_nat (n d k : Nat) : sIx n d (some (k : Int)) = min k n := by
  show (if (k : Int) < 0 then ((k : Int) + (n : Int)).toNat else min (k : Int).toNat n) = min k n
  rw [if_neg (by omega), Int.toNat_natCast]
theorem sIx_le (n d : Nat) (hd : d ≤ n) (o : Option Int) : sIx n d o ≤ n := by
  cases o with
  | none => exact hd
  | some v =>
    show (if v < 0 then (v + (n : Int)).toNat else min v.toNat n) ≤ n
    by_cases hv : v < 0
    · rw [if_pos hv]; omega
    · rw [if_neg hv]; exact Nat.min_le_right _ _
theorem clip_eq (v : Int) (n d : Nat) : (if v < 0 then max (v + (n : Int)) 0 else min v (n : Int)) = ((sIx n d (some v) : Nat) : Int) := by
  show (if v < 0 then max (v + (n : Int)) 0 else min v (n : Int)) = (((if v < 0 then (v + (n : Int)).toNat else min v.toNat n) : Nat) : Int)
  by_cases hv : v < 0
  · simp only [if_pos hv]; omega
  · simp only [if_neg hv]; omega
theorem adjust_gen (lo hi : Option Int) (n : Nat) : Builtin.Slice.sliceAdjust lo hi 1 (n : Int) = (((sIx n 0 lo : Nat) : Int), ((sIx n n hi : Nat) : Int)) := by
  have h1 : ¬ ((1 : Int) < 0) := by omega
  unfold Builtin.Slice.sliceAdjust
  simp only [h1, if_false]
  refine Prod.ext ?_ ?_
  · cases lo with
    | none => rfl
    | some v => exact clip_eq v n 0
  · cases hi with
    | none => rfl
    | some v => exact clip_eq v n n
theorem places_gen (i j : Nat) : Builtin.Slice.slicePlaces (i : Int) (j : Int) 1 = j - i := by
  unfold Builtin.Slice.slicePlaces
  have h1 : (1 : Int) > 0 := by omega
  simp only [h1, if_true, Int.ediv_one]
  split <;> omega
theorem slicePart_ {v : Value} {o : Option Int} {Q : Option Int → Shared → Prop} (p : IsPart v o) (h : Q o s) : wpAny (model prog w) A (Builtin.Slice.slicePartIndex v) Q E s := by
  cases p with
  | none => exact slicePart_none h
  | int i t => exact slicePart_int h
theorem sliceApplied_gen {sl : Addr} {vl vu : Value} {lo hi : Option Int} {n : Nat} {Q : Int × Int × Nat → Shared → Prop} (hs : s.heap.IsSliceOf sl vl vu .none) (pl : IsPart vl lo) (pu : IsPart vu hi)
    (h : Q (((sIx n 0 lo : Nat) : Int), 1, sIx n n hi - sIx n 0 lo) s) : wpAny (model prog w) A (Builtin.Slice.sliceApplied (.ref sl) (pure (n : Int))) Q E s := by
  obtain ⟨os, hos, hcs, hds⟩ := id hs
  unfold Builtin.Slice.sliceApplied Builtin.Slice.sliceFields
  refine wpAny_bind (wpAny_bind (wpAny_field hos hds (x := vl) rfl (wpAny_bind (wpAny_field hos hds (x := vu) rfl (wpAny_bind (wpAny_field hos hds (x := .none) rfl (wpAny_pure ?_)))))))
  refine wpAny_bind (slicePart_none ?_)
  show wpAny _ _ (if ((1 : Int) == 0) = true then _ else _) _ _ s
  rw [if_neg (by decide)]
  refine wpAny_bind (slicePart_ pl (wpAny_bind (slicePart_ pu (wpAny_bind (wpAny_pure ?_)))))
  show wpAny _ _ (match Builtin.Slice.sliceAdjust lo hi 1 (n : Int) with | (lo, hi) => pure (lo, (1 : Int), Builtin.Slice.slicePlaces lo hi 1)) _ _ s
  rw [adjust_gen lo hi n]
  show wpAny _ _ (pure (((sIx n 0 lo : Nat) : Int), (1 : Int), Builtin.Slice.slicePlaces ((sIx n 0 lo : Nat) : Int) ((sIx n n hi : Nat) : Int) 1)) _ _ s
  rw [places_gen]
  exact wpAny_pure h
theorem pick_gen (xs : Array Value) (i k : Nat) : ((List.range k).filterMap fun (m : Nat) => xs[((i : Int) + (m : Int) * 1).toNat]?).toArray = ((xs.toList.drop i).take k).toArray := by
  have e : (fun (m : Nat) => xs[((i : Int) + (m : Int) * 1).toNat]?) = fun m => xs[i + m]? := by
    funext m
    have : ((i : Int) + (m : Int) * 1).toNat = i + m := by omega
    rw [this]
  rw [e]
  have := pick_run xs i k
  rw [List.filterMap_map] at this
  have e2 : ((fun x => xs[x]?) ∘ fun x => i + x) = fun m => xs[i + m]? := rfl
  rw [e2] at this
  rw [this]

theorem getItem_tuple_cut {t sl : Addr} {items : Array Value} {vl vu : Value} {lo hi : Option Int} {Q : Value → Shared → Prop} (ht : IsTup s.heap t items) (hs : s.heap.IsSliceOf sl vl vu .none) (pl : IsPart vl lo) (pu : IsPart vu hi)
    (hw : ¬ (sIx items.size 0 lo = 0 ∧ sIx items.size items.size hi = items.size))
    (h : Q (.ref s.heap.objs.size) { s with heap := s.heap.push { cls := .type "tuple", data := .seq ((items.toList.drop (sIx items.size 0 lo)).take (sIx items.size items.size hi - sIx items.size 0 lo)).toArray } })
    (hsz : items.size ≤ sizeLine) : wpAny (model prog w) A (getItem (.ref t) (.ref sl)) Q E s := by
  have htake : sizeOk (.seq ((items.toList.drop (sIx items.size 0 lo)).take (sIx items.size items.size hi - sIx items.size 0 lo)).toArray) := by
    show ((items.toList.drop (sIx items.size 0 lo)).take (sIx items.size items.size hi - sIx items.size 0 lo)).toArray.size ≤ sizeLine
    rw [List.size_toArray, List.length_take, List.length_drop, Array.length_toList]
    omega
  have hj : sIx items.size items.size hi ≤ items.size := sIx_le _ _ (Nat.le_refl _) hi
  obtain ⟨os, hos, hcs, hds⟩ := id hs
  have hTs : s.TypeIs (.ref sl) "slice" := ⟨os, hos, hcs⟩
  unfold getItem
  try with_reducible refine wpAny_holding ?_
  first | refine wpAny_bind (wpAny_pure ?_) | skip
  refine wpAny_bind (wpAny_sequenceKey ht.typeIs (by decide) ?_)
  refine wpAny_bind (wpAny_callSpecial?_slot (name := Str.ofString "__getitem__") ht.typeIs PyProof.Rows.slot_tuple_getitem
    (wpAny_call_entry PyProof.Rows.slot_tuple_getitem ht.typeIs entry_tuple_getitem ?_ (args_tuple_getitem _ _)))
  show wpAny _ _ (Builtin.Tuple.tupleItemsOf (.ref t) >>= _) _ _ s
  refine wpAny_bind (tupleItemsOf_ ht ?_)
  refine wpAny_bind (wpAny_typeOf hTs ?_)
  rw [if_pos (by decide)]
  refine wpAny_bind (sliceApplied_gen hs pl pu ?_)
  have hno : ¬ ((((sIx items.size 0 lo : Nat) : Int) == 0 && (1 : Int) == 1 && (sIx items.size items.size hi - sIx items.size 0 lo) == items.size) = true) := by
    intro q
    rw [Bool.and_eq_true, Bool.and_eq_true] at q
    have q1 : ((sIx items.size 0 lo : Nat) : Int) = 0 := eq_of_beq q.1.1
    have q2 : sIx items.size items.size hi - sIx items.size 0 lo = items.size := eq_of_beq q.2
    exact hw ⟨by omega, by omega⟩
  show wpAny _ _ (if (((sIx items.size 0 lo : Nat) : Int) == 0 && (1 : Int) == 1 && (sIx items.size items.size hi - sIx items.size 0 lo) == items.size) = true then _ else _) _ _ s
  rw [if_neg hno, pick_gen]
  first
    | exact wpAny_bind (m := Builtin.Tuple.tupleExact _) (wpAny_newObj_type (wpAny_pure ⟨_, rfl, wpAny_pure h⟩) htake)
    | exact wpAny_bind (m := Builtin.Tuple.tupleExact _) (wpAny_newObj_type (wpAny_bind (wpAny_pure (wpAny_pure ⟨_, rfl, wpAny_pure h⟩))) htake)
    | exact wpAny_bind (wpAny_bind (m := Builtin.Tuple.tupleExact _) (wpAny_newObj_type (wpAny_pure (wpAny_pure ⟨_, rfl, wpAny_pure h⟩)) htake))
    | exact wpAny_bind (wpAny_bind (m := Builtin.Tuple.tupleExact _) (wpAny_newObj_type (wpAny_pure ⟨_, rfl, wpAny_pure h⟩) htake))
end
end HT

namespace L2
open PySem PySem.Spec PyProof.Rows

/-! ### the parts of a slice -/
abbrev TO := St → Hp → (Option Int → Hp → Prop) → Prop
/-- a slice's part (left out, or an int) -/
def PO (X : Cx) (e : Option Expr) (t : TO) : Prop :=
  ∀ (pins : List (Addr × Obj)) (s : Shared) (σ : St) (H : Hp) (Q : Option Int → Hp → Prop), Inv X pins σ H s → t σ H Q →
    wpAny (model X.prog X.w) X.A (evalPart e X.env) (fun u s' => ∃ o H', Inv X pins σ H' s' ∧ IsPart u o ∧ Q o H') X.xe s
def tNoPart : TO := fun _ H Q => Q none H
def tPart (t : TE) : TO := fun σ H Q => t σ H fun x H1 => ∃ i, x = .int i ∧ Q (some i) H1

theorem intsAre_of {ns : List Int} : ∀ {us : List Value}, Vals (ns.map V.int) us → IntsAre us ns := by
  induction ns with
  | nil => intro us r; rw [List.map_nil] at r; cases r; exact .nil
  | cons n ns ih =>
    intro us r
    rw [List.map_cons] at r
    cases r with
    | cons r1 r2 =>
      obtain ⟨t, e⟩ := r1
      subst e
      exact .cons n t (ih r2)

section
variable {X : Cx} {e : Expr} {te : TE} {lo hi : Option Expr} {tl th : TO} {pos p2 : Pos}

theorem po_none : PO X none tNoPart := by
  intro pins s σ H Q I h
  rw [evalPart_none]
  exact wpAny_pure ⟨none, H, I, .none, h⟩
theorem po_some (h : PE X e te) : PO X (some e) (tPart te) := by
  intro pins s σ H Q I hw
  rw [evalPart_some]
  refine thn (h pins s σ H _ I hw) fun u s1 ⟨x, H1, I1, r1, q1⟩ => ?_
  obtain ⟨i, rfl, q⟩ := q1
  obtain ⟨t, rfl⟩ := r1
  exact ⟨some i, H1, I1, .int i t, q⟩

/-- what a slice of a value is, by values: the slice object stands at sl -/
def SlR (X : Cx) (r : V → Option Int → Option Int → Hp → VK → Prop) : Prop :=
  ∀ (pins : List (Addr × Obj)) (s : Shared) (σ : St) (H : Hp) (x : V) (v vl vu : Value) (lo hi : Option Int) (sl : Addr) (Q : VK), Inv X pins σ H s → RelV x v → s.heap.IsSliceOf sl vl vu .none → IsPart vl lo → IsPart vu hi → r x lo hi H Q →
    ∃ T id, typeLookup (.type T) "__getitem__" = pure (some (.builtin id)) ∧ s.TypeIs v T ∧ wpAny (model X.prog X.w) X.A (getItem v (.ref sl)) (EP X pins σ Q) X.xe s
theorem SlR.or {r r' : V → Option Int → Option Int → Hp → VK → Prop} (h : SlR X r) (h' : SlR X r') : SlR X (fun x lo hi H Q => r x lo hi H Q ∨ r' x lo hi H Q) := by
  intro pins s σ H x v vl vu lo hi sl Q I rx hs pl pu q
  rcases q with q | q
  · exact h pins s σ H x v vl vu lo hi sl Q I rx hs pl pu q
  · exact h' pins s σ H x v vl vu lo hi sl Q I rx hs pl pu q
def tSl (r : V → Option Int → Option Int → Hp → VK → Prop) (te : TE) (tl th : TO) : TE := fun σ H Q => te σ H fun x H1 => tl σ H1 fun l H2 => th σ H2 fun u H3 => r x l u H3 Q
/-- a[lo:hi], any a -/
theorem pe_slice {r : V → Option Int → Option Int → Hp → VK → Prop} (hr : SlR X r) (he : PE X e te) (hl : PO X lo tl) (hu : PO X hi th) : PE X (.Subscript e (.Slice lo hi none p2) pos) (tSl r te tl th) := by
  intro pins s σ H Q I h
  refine Subscript_ (thn (he pins s σ H _ I h) fun v s1 ⟨x, H1, I1, r1, q1⟩ => ?_)
  refine wpAny_Slice (thn (hl pins s1 σ H1 _ I1 q1) fun vl s2 ⟨l, H2, I2, pl, q2⟩ => thn (hu pins s2 σ H2 _ I2 q2) fun vu s3 ⟨u, H3, I3, pu, q3⟩ => ?_)
  rw [evalPart_none]
  refine wpAny_pure ?_
  have I4 : Inv X pins σ H3 { s3 with heap := s3.heap.push { cls := .type "slice", data := .fields #[vl, vu, .none] } } := I3.kept (t' := s3.toks) fun b ob q => Heap.get?_push_of_some _ q
  obtain ⟨T, id, hT, ht, hg⟩ := hr pins { s3 with heap := s3.heap.push { cls := .type "slice", data := .fields #[vl, vu, .none] } } σ H3 x v vl vu l u s3.heap.objs.size Q I4 r1 (Heap.IsSliceOf.new ..) pl pu q3
  show wpAny (model X.prog X.w) X.A (subscriptTail e (.Slice lo hi none p2) v (.ref s3.heap.objs.size)) (EP X pins σ Q) X.xe { s3 with heap := s3.heap.push { cls := .type "slice", data := .fields #[vl, vu, .none] } }
  exact tail_any (ops := [.ref s3.heap.objs.size, v]) ht hT hg (by with_unfolding_all rfl)

/-- the items of xs[lo:hi] -/
def cutV (xs : List V) (lo hi : Option Int) : List V := (xs.drop (HT.sIx xs.length 0 lo)).take (HT.sIx xs.length xs.length hi - HT.sIx xs.length 0 lo)
theorem cutV_length (xs : List V) (lo hi : Option Int) : (cutV xs lo hi).length ≤ xs.length := by
  unfold cutV
  rw [List.length_take, List.length_drop]
  omega
/-- t[lo:hi], not the whole of it (the whole would be t itself) -/
def rSlT (K : PySem.W.Frag) : V → Option Int → Option Int → Hp → VK → Prop := fun x lo hi H Q => ∃ a xs, x = .ref a ∧ SqT K H a xs ∧
  ¬ (HT.sIx xs.length 0 lo = 0 ∧ HT.sIx xs.length xs.length hi = xs.length) ∧ ∀ p, H p = none → Q (.ref p) (upd H p (.tup (cutV xs lo hi)))
theorem sl_tup : SlR X (rSlT X.K) := by
  intro pins s σ H x v vl vu lo hi sl Q I rx hs pl pu h
  obtain ⟨a, xs, rfl, hx, hw, q⟩ := h
  cases rx
  obtain ⟨its, r, ht, hz⟩ := I.tuple hx
  have hlen : its.toArray.size = xs.length := by rw [List.size_toArray]; exact r.length.symm
  refine ⟨"tuple", _, PyProof.Rows.slot_tuple_getitem.lookup, ht.typeIs, ?_⟩
  refine HT.getItem_tuple_cut ht hs pl pu (by rw [hlen]; exact hw) ?_ (by rw [hlen]; exact hz)
  rw [hlen]
  refine ⟨.ref s.heap.objs.size, _, I.laid (t' := s.toks) (o := .tup (cutV xs lo hi)) (fun b ob q => Heap.get?_push_of_some _ q) (Nat.le_refl _) ?_, rfl, q _ (I.hok.fresh (Nat.le_refl _))⟩
  exact ⟨Nat.le_trans (cutV_length xs lo hi) hz, _, (r.drop (HT.sIx xs.length 0 lo)).take (HT.sIx xs.length xs.length hi - HT.sIx xs.length 0 lo), IsTup.new _ _⟩

/-! ### t < u, t + u -/
def rLtT (K : PySem.W.Frag) : R2 := fun x y H Q => ∃ a b ns ms, x = .ref a ∧ y = .ref b ∧ SqT K H a (ns.map V.int) ∧ SqT K H b (ms.map V.int) ∧ Q (.bl (HT.lexLt ns ms)) H
theorem op_ltT (hu : X.A.units < cLine) : OpR X (compareOp .Lt) (rLtT X.K) := by
  intro pins s σ H x y v u Q I rx ry h
  obtain ⟨a, b, ns, ms, rfl, rfl, ha, hb, q⟩ := h
  cases rx
  cases ry
  obtain ⟨its, r1, p1, _⟩ := I.tuple ha
  obtain ⟨its2, r2, p2, _⟩ := I.tuple hb
  have i1 : IntsAre its.toArray.toList ns := intsAre_of r1
  have i2 : IntsAre its2.toArray.toList ms := intsAre_of r2
  exact HT.lt_tupInts p1 p2 i1 i2 hu ⟨.bl (HT.lexLt ns ms), H, I, rfl, q⟩
/-- t + u, t not empty: u empty gives t itself -/
def rCatT (K : PySem.W.Frag) : R2 := fun x y H Q => ∃ a b xs ys, x = .ref a ∧ y = .ref b ∧ SqT K H a xs ∧ SqT K H b ys ∧ xs ≠ [] ∧ xs.length + ys.length ≤ sizeLine ∧
  (ys = [] → Q (.ref a) H) ∧ (ys ≠ [] → ∀ p, H p = none → Q (.ref p) (upd H p (.tup (xs ++ ys))))
theorem Vals.nil_iff {xs : List V} {us : List Value} (r : Vals xs us) : us = [] ↔ xs = [] := by
  cases r with
  | nil => simp
  | cons _ _ => simp
theorem op_catT : OpR X (binaryOp .Add) (rCatT X.K) := by
  intro pins s σ H x y v u Q I rx ry h
  obtain ⟨a, b, xs, ys, rfl, rfl, ha, hb, hx, hz, q1, q2⟩ := h
  cases rx
  cases ry
  obtain ⟨its, r1, p1, _⟩ := I.tuple ha
  obtain ⟨its2, r2, p2, _⟩ := I.tuple hb
  refine HT.cat_tup p1 p2 (fun z => hx (r1.nil_iff.mp z)) (fun z => ⟨.ref a, H, I, rfl, q1 (r2.nil_iff.mp z)⟩) (fun z => ?_) (by rw [← r1.length, ← r2.length]; exact hz)
  refine ⟨.ref s.heap.objs.size, _, I.laid (t' := s.toks) (o := .tup (xs ++ ys)) (fun b ob q => Heap.get?_push_of_some _ q) (Nat.le_refl _) ?_, rfl, q2 (fun w => z (r2.nil_iff.mpr w)) _ (I.hok.fresh (Nat.le_refl _))⟩
  exact ⟨by rw [List.length_append]; exact hz, _, r1.append r2, IsTup.new _ _⟩
/-- tuple(t) -/
theorem call_tupleT : CallR X (.type "tuple") (fun xs H Q => ∃ a ys, xs = [.ref a] ∧ SqT X.K H a ys ∧ Q (.ref a) H) := by
  intro pins s σ H xs us Q I r h
  obtain ⟨a, ys, rfl, ha, q⟩ := h
  obtain ⟨u, rfl, ru⟩ := vals1 r
  cases ru
  obtain ⟨its, _, p1, _⟩ := I.tuple ha
  exact call_tuple_same (items := its.toArray) p1 ⟨.ref a, H, I, rfl, q⟩
end
end L2

namespace L2
open PySem PySem.Spec PyProof.Rows

/-! ### places -/
/-- the place that an index of any sign means -/
def ixN (n : Nat) (i : Int) : Option Nat := if 0 ≤ i then (if i < n then some i.toNat else none) else if -(n : Int) ≤ i then some (i + n).toNat else none
def atI {α : Type} (xs : List α) (i : Int) : Option α := (ixN xs.length i).bind fun j => xs[j]?
theorem ixN_seq {n : Nat} {i : Int} {j : Nat} (h : ixN n i = some j) : seqIndex? i n = some j ∧ j < n ∧ -(n : Int) ≤ i ∧ i < n := by
  unfold ixN at h
  by_cases h0 : 0 ≤ i
  · rw [if_pos h0] at h
    by_cases h1 : i < n
    · rw [if_pos h1] at h
      have e : i.toNat = j := Option.some.inj h
      exact ⟨by rw [seqIndex_of h0 h1, e], by omega, by omega, h1⟩
    · rw [if_neg h1] at h; cases h
  · rw [if_neg h0] at h
    by_cases h1 : -(n : Int) ≤ i
    · rw [if_pos h1] at h
      have e : (i + n).toNat = j := Option.some.inj h
      exact ⟨by rw [seqIndex_neg (by omega) h1, e], by omega, h1, by omega⟩
    · rw [if_neg h1] at h; cases h
theorem atI_get {α : Type} {xs : List α} {i : Int} {v : α} (h : atI xs i = some v) : ∃ j, seqIndex? i xs.length = some j ∧ xs[j]? = some v ∧ j < xs.length ∧ -(xs.length : Int) ≤ i ∧ i < xs.length := by
  unfold atI at h
  cases e : ixN xs.length i with
  | none => rw [e] at h; cases h
  | some j =>
    rw [e] at h
    obtain ⟨h1, h2, h3, h4⟩ := ixN_seq e
    exact ⟨j, h1, h, h2, h3, h4⟩
theorem atI_nat {α : Type} {xs : List α} {j : Nat} {v : α} (h : xs[j]? = some v) : atI xs (j : Int) = some v := by
  have hj : j < xs.length := (List.getElem?_eq_some_iff.mp h).1
  have e : ixN xs.length (j : Int) = some j := by
    unfold ixN
    rw [if_pos (by omega), if_pos (by omega)]; simp
  unfold atI; rw [e]; exact h
theorem atI_last {α : Type} (xs : List α) (v : α) : atI (xs ++ [v]) (-1) = some v := by
  have hl : (xs ++ [v]).length = xs.length + 1 := by simp
  have e : ixN (xs ++ [v]).length (-1) = some xs.length := by
    unfold ixN
    rw [hl, if_neg (by decide), if_pos (by omega)]
    congr 1
    omega
  unfold atI
  rw [e]
  show (xs ++ [v])[xs.length]? = some v
  simp

/-! ### what may be subscripted -/
/-- what stands as an index of a plain subscript -/
def PlainIx (b : Expr) : Prop := ∀ o i, subscripted b false o i = operate [o, i] (getItem o i)
/-- a subscript by values -/
def IxR (X : Cx) (r : R2) : Prop :=
  ∀ (value slice : Expr) (pins : List (Addr × Obj)) (s : Shared) (σ : St) (H : Hp) (x y : V) (v u : Value) (Q : VK), Inv X pins σ H s → RelV x v → RelV y u → r x y H Q →
    subscripted slice false v u = operate [v, u] (getItem v u) → wpAny (model X.prog X.w) X.A (subscriptTail value slice v u) (EP X pins σ Q) X.xe s
/-- a call of a builtin's method by values: the receiver, the arguments -/
def MtR (X : Cx) (id : String) (r : V → List V → Hp → VK → Prop) : Prop :=
  ∀ (pins : List (Addr × Obj)) (s : Shared) (σ : St) (H : Hp) (x : V) (xs : List V) (v : Value) (us : List Value) (Q : VK), Inv X pins σ H s → RelV x v → Vals xs us → r x xs H Q →
    wpAny (model X.prog X.w) X.A (call (.builtin id) (v :: us)) (EP X pins σ Q) X.xe s
section
variable {X : Cx} {a b : Expr} {ta tb : TE} {pos : Pos}
theorem IxR.or {r r' : R2} (h : IxR X r) (h' : IxR X r') : IxR X (fun x y H Q => r x y H Q ∨ r' x y H Q) := by
  intro value slice pins s σ H x y v u Q I rx ry q hs
  rcases q with q | q
  · exact h value slice pins s σ H x y v u Q I rx ry q hs
  · exact h' value slice pins s σ H x y v u Q I rx ry q hs
theorem MtR.or {id : String} {r r' : V → List V → Hp → VK → Prop} (h : MtR X id r) (h' : MtR X id r') : MtR X id (fun x xs H Q => r x xs H Q ∨ r' x xs H Q) := by
  intro pins s σ H x xs v us Q I rx rs q
  rcases q with q | q
  · exact h pins s σ H x xs v us Q I rx rs q
  · exact h' pins s σ H x xs v us Q I rx rs q
/-- a[b] -/
theorem pe_ix {r : R2} (hr : IxR X r) (ha : PE X a ta) (hb : PE X b tb) (hs : PlainIx b) : PE X (.Subscript a b pos) (tOp r ta tb) := by
  intro pins s σ H Q I h
  exact Subscript_ (binT ha hb I h fun v u s2 x y H2 I2 rx ry q => hr a b pins s2 σ H2 x y v u Q I2 rx ry q (hs _ _))

def rIxL (K : PySem.W.Frag) : R2 := fun x y H Q => ∃ p xs i v, x = .ref p ∧ y = .int i ∧ SqL K H p xs ∧ atI xs i = some v ∧ Q v H
def rIxT (K : PySem.W.Frag) : R2 := fun x y H Q => ∃ p xs i v, x = .ref p ∧ y = .int i ∧ SqT K H p xs ∧ atI xs i = some v ∧ Q v H
def rIxS : R2 := fun x y H Q => ∃ z i c, x = .str z ∧ y = .int i ∧ z.length ≤ sizeLine ∧ atI z.cps.toList i = some c ∧ Q (.str ⟨#[c]⟩) H
theorem ix_list : IxR X (rIxL X.K) := by
  intro value slice pins s σ H x y v u Q I rx ry h hs
  obtain ⟨p, xs, i, z, rfl, rfl, hq, he, q⟩ := h
  cases rx
  obtain ⟨t, rfl⟩ := ry
  obtain ⟨its, r, pl, hz⟩ := I.list hq
  obtain ⟨j, h1, h2, h3, h4, h5⟩ := atI_get he
  obtain ⟨w, ew, rw'⟩ := r.get h2
  have hl := r.length
  have hn := line63
  have fin : EP X pins σ Q w s := ⟨z, H, I, rw', q⟩
  by_cases h0 : 0 ≤ i
  · have hj : i.toNat = j := by
      rw [seqIndex_of h0 h5] at h1
      exact Option.some.inj h1
    exact item_listR pl.isList h0 (by omega) (by rw [hj]; simpa using ew) fin hs
  · have hj : (i + (its.toArray.size : Int)).toNat = j := by
      rw [seqIndex_neg (by omega) h4] at h1
      rw [List.size_toArray, ← hl]
      exact Option.some.inj h1
    exact subscriptTail_builtinR (x := w) pl.isList.typeIs slot_list_getitem.lookup
      (wpAny_getItem_list_neg (Q := fun r s' => r = w ∧ EP X pins σ Q r s') pl.isList (by omega) (by rw [List.size_toArray] <;> omega) (by omega) (by rw [hj]; simpa using ew) ⟨rfl, fin⟩) hs
theorem ix_tup : IxR X (rIxT X.K) := by
  intro value slice pins s σ H x y v u Q I rx ry h hs
  obtain ⟨p, xs, i, z, rfl, rfl, hq, he, q⟩ := h
  cases rx
  obtain ⟨t, rfl⟩ := ry
  obtain ⟨its, r, pl, hz⟩ := I.tuple hq
  obtain ⟨j, h1, h2, h3, h4, h5⟩ := atI_get he
  obtain ⟨w, ew, rw'⟩ := r.get h2
  have hl := r.length
  have hn := line63
  have fin : EP X pins σ Q w s := ⟨z, H, I, rw', q⟩
  exact subscriptTail_builtinR (x := w) pl.typeIs slot_tuple_getitem.lookup
    (getItem_tuple (j := j) (Q := fun r s' => r = w ∧ EP X pins σ Q r s') pl (by omega) (by omega) (by rw [List.size_toArray, ← hl]; exact h1) (by simpa using ew) ⟨rfl, fin⟩) hs
theorem ix_str : IxR X rIxS := by
  intro value slice pins s σ H x y v u Q I rx ry h hs
  obtain ⟨z, i, c, rfl, rfl, hz, he, q⟩ := h
  obtain ⟨t, rfl⟩ := rx
  obtain ⟨t', rfl⟩ := ry
  obtain ⟨j, h1, h2, h3, h4, h5⟩ := atI_get he
  have hl : z.cps.toList.length = z.length := by simp [Str.length]
  rw [hl] at h1 h4 h5
  have hn := line63
  exact tail_any (typeIs_str s z t) slot_str_getitem.lookup (getItem_str (c := c) (by
    have e1 : decide (i < -(2 ^ 63 : Int)) = false := decide_eq_false (by omega)
    have e2 : decide (i ≥ 2 ^ 63) = false := decide_eq_false (by omega)
    rw [e1, e2, Bool.or_false]) (by rw [h1]; simpa using h2) ⟨.str ⟨#[c]⟩, H, I.tok _, ⟨_, rfl⟩, q⟩) hs
/-- list, tuple or str -/
def rIx (K : PySem.W.Frag) : R2 := fun x y H Q => rIxL K x y H Q ∨ rIxT K x y H Q ∨ rIxS x y H Q
theorem ix_seq : IxR X (rIx X.K) := ix_list.or (ix_tup.or ix_str)

/-! ### xs[i] = v, any sign -/
/-- the list's object behind a store -/
theorem mapSeq_set (its : List Value) (n j : Nat) (u : Value) : Obj.mapSeq (·.setIfInBounds j u) { cls := .type "list", data := .seq its.toArray n } = { cls := .type "list", data := .seq (its.set j u).toArray n } := by
  simp [Obj.mapSeq]
theorem Inv.lst {pins : List (Addr × Obj)} {σ : St} {H : Hp} {s : Shared} {p : Addr} {xs : List V} (I : Inv X pins σ H s) (h : H p = some (.lst xs)) :
    ∃ (its : List Value) (n : Nat), Vals xs its ∧ s.heap.get? p = some { cls := .type "list", data := .seq its.toArray n } ∧ xs.length ≤ sizeLine := by
  obtain ⟨z, its, n, r, e⟩ := I.hok p _ h
  exact ⟨its, n, r, e, z⟩
/-- the list at p is written by an update of its object -/
theorem Inv.lstUpd {pins : List (Addr × Obj)} {σ : St} {H : Hp} {s : Shared} {p : Addr} {xs ys : List V} {its its' : List Value} {n n' : Nat} {f : Obj → Obj} (I : Inv X pins σ H s) (h : H p = some (.lst xs))
    (ho : s.heap.get? p = some { cls := .type "list", data := .seq its.toArray n }) (hf : f { cls := .type "list", data := .seq its.toArray n } = { cls := .type "list", data := .seq its'.toArray n' }) (r : Vals ys its') (hz : ys.length ≤ sizeLine) (t : Nat) :
    Inv X pins σ (upd H p (.lst ys)) { s with heap := s.heap.update p f, toks := t } := by
  have e : (s.heap.update p f).get? p = some { cls := .type "list", data := .seq its'.toArray n' } := by
    rw [Heap.get?_update_self f ho (by rw [hf] <;> rfl), hf]
  refine I.write (x := p) (e := p) (by rw [h]; trivial) (.inl rfl) (fun b u hb q => (Heap.get?_update_other _ _ (Ne.symm hb)).trans q) ⟨_, e⟩ ?_
  exact ⟨hz, its', n', r, e⟩
def rSetL : V → V → V → Hp → (Hp → Prop) → Prop := fun o i v H Q => ∃ p xs k j, o = .ref p ∧ i = .int k ∧ H p = some (.lst xs) ∧ ixN xs.length k = some j ∧ Q (upd H p (.lst (xs.set j v)))
theorem set_list : PSet X rSetL := by
  intro pins s σ H o i v ov iv u Q I ro ri rv h
  obtain ⟨p, xs, k, j, rfl, rfl, hp, hj, q⟩ := h
  cases ro
  obtain ⟨t, rfl⟩ := ri
  obtain ⟨its, n, r, ho, hz⟩ := I.lst hp
  obtain ⟨h1, h2, h3, h4⟩ := ixN_seq hj
  have hl := r.length
  have hn := line63
  have I' : Inv X pins σ (upd H p (.lst (xs.set j v))) { s with heap := s.heap.update p (Obj.mapSeq (·.setIfInBounds j u)) } :=
    I.lstUpd hp ho (mapSeq_set its n j u) (r.set rv j) (by rw [List.length_set]; exact hz) s.toks
  by_cases h0 : 0 ≤ k
  · have hk : k.toNat = j := by
      rw [seqIndex_of h0 h4] at h1
      exact Option.some.inj h1
    exact PySem.W.ki_setAt ho h0 (by omega) (by rw [List.size_toArray, ← hl]; exact h4) (by rw [hk]; exact ⟨_, I', q⟩)
  · have hk : (k + (its.toArray.size : Int)).toNat = j := by
      rw [seqIndex_neg (by omega) h3] at h1
      rw [List.size_toArray, ← hl]
      exact Option.some.inj h1
    exact PySem.W.ki_setBack ho (by omega) (by rw [List.size_toArray, ← hl]; exact h3) (by omega) (by rw [hk]; exact ⟨_, I', q⟩)

/-! ### slices -/
theorem slice_bounds (lo hi : Option Int) (n : Nat) : (sliceBounds lo hi none n).1 = ((HT.sIx n 0 lo : Nat) : Int) ∧ (sliceBounds lo hi none n).2.1 = ((HT.sIx n n hi : Nat) : Int) ∧ (sliceBounds lo hi none n).2.2 = 1 := by
  refine ⟨?_, ?_, rfl⟩
  · cases lo with
    | none => simp [sliceBounds, HT.sIx]
    | some i =>
      simp only [sliceBounds, HT.sIx, Option.getD_none, show (1 : Int) > 0 by decide, if_true]
      by_cases h : i < 0
      · simp only [h, if_true] <;> omega
      · simp only [h, if_false] <;> omega
  · cases hi with
    | none => simp [sliceBounds, HT.sIx]
    | some i =>
      simp only [sliceBounds, HT.sIx, Option.getD_none, show (1 : Int) > 0 by decide, if_true]
      by_cases h : i < 0
      · simp only [h, if_true] <;> omega
      · simp only [h, if_false] <;> omega
theorem slicePick_cut (its : List Value) (lo hi : Option Int) : slicePick its.toArray lo hi none = ((its.drop (HT.sIx its.length 0 lo)).take (HT.sIx its.length its.length hi - HT.sIx its.length 0 lo)).toArray := by
  obtain ⟨h1, h2, h3⟩ := slice_bounds lo hi its.toArray.size
  unfold slicePick
  rw [h1, h2, h3]
  simp only [sliceRange_one, pick_run, List.size_toArray] <;> rfl
/-- xs[lo:hi] of a list: a new list -/
def rSlL (K : PySem.W.Frag) : V → Option Int → Option Int → Hp → VK → Prop := fun x lo hi H Q => ∃ a xs, x = .ref a ∧ SqL K H a xs ∧ ∀ p, H p = none → Q (.ref p) (upd H p (.lst (cutV xs lo hi)))
theorem sl_list : SlR X (rSlL X.K) := by
  intro pins s σ H x v vl vu lo hi sl Q I rx hs pl pu h
  obtain ⟨a, xs, rfl, hx, q⟩ := h
  cases rx
  obtain ⟨its, r, ht, hz⟩ := I.list hx
  have hlen := r.length
  refine ⟨"list", _, slot_list_getitem.lookup, ht.isList.typeIs, ?_⟩
  refine wpAny_getItem_list_slice ht.isList hs pl pu .none (by simp) ?_ (by rw [List.size_toArray] <;> omega)
  rw [slicePick_cut, ← hlen]
  refine ⟨.ref s.heap.objs.size, _, I.laid (t' := s.toks) (o := .lst (cutV xs lo hi)) (fun b ob q => Heap.get?_push_of_some _ q) (Nat.le_refl _) ?_, rfl, q _ (I.hok.fresh (Nat.le_refl _))⟩
  exact ⟨Nat.le_trans (cutV_length xs lo hi) hz, _, 0, (r.drop (HT.sIx xs.length 0 lo)).take (HT.sIx xs.length xs.length hi - HT.sIx xs.length 0 lo), Heap.get?_push_size _ rfl⟩

/-! ### in, not in: flat items -/
def flatV : V → Bool
  | .non => true
  | .bl _ => true
  | .int _ => true
  | .str _ => true
  | _ => false
/-- == of flat values -/
def eqV : V → V → Bool
  | .non, .non => true
  | .bl a, .bl b => a == b
  | .bl a, .int b => (if a then 1 else 0) == b
  | .int a, .bl b => a == (if b then 1 else 0)
  | .int a, .int b => a == b
  | .str a, .str b => a == b
  | _, _ => false
theorem eqAt_V {A : Around} {s : Shared} {y x : V} {u v : Value} (ry : RelV y u) (rx : RelV x v) (fy : flatV y = true) (fx : flatV x = true) : SeqAt.EqAt A s u v (eqV y x) := by
  cases y with
  | non =>
    cases ry
    cases x with
    | non => cases rx; exact SeqAt.EqAt.same _
    | bl b => cases rx; exact SeqAt.EqAt.none_bool b
    | int b => obtain ⟨t, rfl⟩ := rx; exact SeqAt.EqAt.none_int b t
    | str b => obtain ⟨t, rfl⟩ := rx; exact SeqAt.EqAt.none_str b t
    | _ => exact absurd (show false = true from fx) Bool.false_ne_true
  | bl a =>
    cases ry
    cases x with
    | non => cases rx; exact SeqAt.EqAt.bool_none a
    | bl b => cases rx; exact SeqAt.EqAt.bool_bool a b
    | int b => obtain ⟨t, rfl⟩ := rx; exact SeqAt.EqAt.bool_int a b t
    | str b => obtain ⟨t, rfl⟩ := rx; exact SeqAt.EqAt.bool_str a b t
    | _ => exact absurd (show false = true from fx) Bool.false_ne_true
  | int a =>
    obtain ⟨t', rfl⟩ := ry
    cases x with
    | non => cases rx; exact SeqAt.EqAt.int_none a t'
    | bl b => cases rx; exact SeqAt.EqAt.int_bool a t' b
    | int b => obtain ⟨t, rfl⟩ := rx; exact SeqAt.EqAt.int_int a t' b t
    | str b => obtain ⟨t, rfl⟩ := rx; exact SeqAt.EqAt.int_str a t' b t
    | _ => exact absurd (show false = true from fx) Bool.false_ne_true
  | str a =>
    obtain ⟨t', rfl⟩ := ry
    cases x with
    | non => cases rx; exact SeqAt.EqAt.str_none a t'
    | bl b => cases rx; exact SeqAt.EqAt.str_bool a t' b
    | int b => obtain ⟨t, rfl⟩ := rx; exact SeqAt.EqAt.str_int a t' b t
    | str b => obtain ⟨t, rfl⟩ := rx; exact SeqAt.EqAt.str_str a t' b t
    | _ => exact absurd (show false = true from fx) Bool.false_ne_true
  | _ => exact absurd (show false = true from fy) Bool.false_ne_true
/-- the items' answers, read off the values (a value's own answer does not lean on its token) -/
def eqU (x : V) (u : Value) : Bool := match u with
  | .none => eqV .non x
  | .bool b => eqV (.bl b) x
  | .int i _ => eqV (.int i) x
  | .str z _ => eqV (.str z) x
  | _ => false
theorem eqU_of {x y : V} {u : Value} (r : RelV y u) (f : flatV y = true) : eqU x u = eqV y x := by
  cases y with
  | non => cases r; rfl
  | bl b => cases r; rfl
  | int i => obtain ⟨t, rfl⟩ := r; rfl
  | str z => obtain ⟨t, rfl⟩ := r; rfl
  | _ => exact absurd (show false = true from f) Bool.false_ne_true
theorem any_eqU {x : V} : ∀ {xs : List V} {us : List Value}, Vals xs us → xs.all flatV = true → us.any (eqU x) = xs.any fun y => eqV y x
  | _, _, .nil, _ => rfl
  | y :: xs, u :: us, .cons r t, f => by
    rw [List.all_cons, Bool.and_eq_true] at f
    rw [List.any_cons, List.any_cons, eqU_of r f.1, any_eqU t f.2]
theorem mem_eqAt {A : Around} {s : Shared} {x : V} {v : Value} (rx : RelV x v) (fx : flatV x = true) : ∀ {xs : List V} {us : List Value}, Vals xs us → xs.all flatV = true → ∀ u ∈ us, SeqAt.EqAt A s u v (eqU x u)
  | _, _, .nil, _ => fun u hu => by cases hu
  | y :: xs, u :: us, .cons r t, f => fun u' hu => by
    rw [List.all_cons, Bool.and_eq_true] at f
    rcases List.mem_cons.mp hu with rfl | hu
    · rw [eqU_of r f.1]; exact eqAt_V r rx f.1 fx
    · exact mem_eqAt rx fx t f.2 u' hu
def inV (x : V) (xs : List V) : Bool := xs.any fun y => eqV y x
/-- x in a list or tuple of flat items -/
def rIn (K : PySem.W.Frag) (neg : Bool) : R2 := fun x y H Q => ∃ p xs, y = .ref p ∧ (SqL K H p xs ∨ SqT K H p xs) ∧ flatV x = true ∧ xs.all flatV = true ∧ Q (.bl (if neg then !inV x xs else inV x xs)) H
theorem op_in_seq : OpR X (compareOp .In) (rIn X.K false) := by
  intro pins s σ H x y v u Q I rx ry h
  obtain ⟨p, xs, rfl, hq, fx, fs, q⟩ := h
  cases ry
  rcases hq with hq | hq
  · obtain ⟨its, r, pl, hz⟩ := I.list hq
    refine SeqAt.in_listAt (eqU x) pl.isList (fun w hw => mem_eqAt rx fx r fs w (by simpa using hw)) ⟨.bl _, H, I, rfl, ?_⟩
    rw [show its.toArray.any (eqU x) = its.any (eqU x) by simp, any_eqU r fs]
    exact q
  · obtain ⟨its, r, pl, hz⟩ := I.tuple hq
    refine SeqAt.in_tupleAt (eqU x) pl (fun w hw => mem_eqAt rx fx r fs w (by simpa using hw)) ⟨.bl _, H, I, rfl, ?_⟩
    rw [show its.toArray.any (eqU x) = its.any (eqU x) by simp, any_eqU r fs]
    exact q
theorem op_notIn_seq : OpR X (compareOp .NotIn) (rIn X.K true) := by
  intro pins s σ H x y v u Q I rx ry h
  obtain ⟨p, xs, rfl, hq, fx, fs, q⟩ := h
  cases ry
  rcases hq with hq | hq
  · obtain ⟨its, r, pl, hz⟩ := I.list hq
    refine SeqAt.notIn_listAt (eqU x) pl.isList (fun w hw => mem_eqAt rx fx r fs w (by simpa using hw)) ⟨.bl _, H, I, rfl, ?_⟩
    rw [show its.toArray.any (eqU x) = its.any (eqU x) by simp, any_eqU r fs]
    exact q
  · obtain ⟨its, r, pl, hz⟩ := I.tuple hq
    refine SeqAt.notIn_tupleAt (eqU x) pl (fun w hw => mem_eqAt rx fx r fs w (by simpa using hw)) ⟨.bl _, H, I, rfl, ?_⟩
    rw [show its.toArray.any (eqU x) = its.any (eqU x) by simp, any_eqU r fs]
    exact q
theorem op_notIn_str : OpR X (compareOp .NotIn) (fun x y H Q => ∃ i j, x = .str i ∧ y = .str j ∧ Q (.bl (!(!(Builtin.Str.occurrences j i 0 j.length 1).isEmpty))) H) := by
  intro pins s σ H x y v u Q I rx ry h
  obtain ⟨i, j, rfl, rfl, q⟩ := h
  obtain ⟨t, rfl⟩ := rx
  obtain ⟨t', rfl⟩ := ry
  exact notIn_str ⟨.bl _, H, I, rfl, q⟩

/-! ### len, list(x), tuple(x) of any list or tuple that is read -/
theorem call_len_seq : CallR X (.builtin "len") (fun xs H Q => ∃ p ys, xs = [.ref p] ∧ (SqL X.K H p ys ∨ SqT X.K H p ys) ∧ Q (.int ys.length) H) := by
  intro pins s σ H xs us Q I r h
  obtain ⟨p, ys, rfl, hq, q⟩ := h
  obtain ⟨u, rfl, rx⟩ := vals1 r
  cases rx
  have hn := line63
  rcases hq with hq | hq
  · obtain ⟨its, r', pl, hz⟩ := I.list hq
    have hlen := r'.length
    exact Calls.call_len_list pl.isList (by simp only [List.size_toArray] <;> omega) ⟨.int ys.length, H, I.tok _, ⟨s.toks + 1, by rw [List.size_toArray, hlen]⟩, q⟩
  · obtain ⟨its, r', pl, hz⟩ := I.tuple hq
    have hlen := r'.length
    exact len_tuple pl (by simp only [List.size_toArray] <;> omega) ⟨.int ys.length, H, I.tok _, ⟨s.toks + 1, by rw [List.size_toArray, hlen]⟩, q⟩
theorem call_len_str : CallR X (.builtin "len") (fun xs H Q => ∃ z, xs = [.str z] ∧ z.length ≤ sizeLine ∧ Q (.int z.length) H) := by
  intro pins s σ H xs us Q I r h
  obtain ⟨z, rfl, hz, q⟩ := h
  obtain ⟨u, rfl, t, rfl⟩ := vals1 r
  have hn := line63
  exact len_str (by omega) ⟨.int z.length, H, I.tok _, ⟨_, rfl⟩, q⟩
theorem CallR.or {f : Value} {r r' : List V → Hp → VK → Prop} (h : CallR X f r) (h' : CallR X f r') : CallR X f (fun xs H Q => r xs H Q ∨ r' xs H Q) := by
  intro pins s σ H xs us Q I rs q
  rcases q with q | q
  · exact h pins s σ H xs us Q I rs q
  · exact h' pins s σ H xs us Q I rs q
theorem call_list_of : CallR X (.type "list") (fun xs H Q => ∃ p ys, xs = [.ref p] ∧ (SqL X.K H p ys ∨ SqT X.K H p ys) ∧ ∀ l, H l = none → Q (.ref l) (upd H l (.lst ys))) := by
  intro pins s σ H xs us Q I r h
  obtain ⟨p, ys, rfl, hq, q⟩ := h
  obtain ⟨u, rfl, rx⟩ := vals1 r
  cases rx
  have fin : ∀ (its : List Value), Vals ys its → ys.length ≤ sizeLine → ∀ (h' : Heap) (c' : Nat), (∀ b o', s.heap.get? b = some o' → h'.get? b = some o') →
      h'.get? s.heap.objs.size = some { cls := .type "list", dict := none, data := .seq its.toArray c', slots := #[] } → EP X pins σ Q (.ref s.heap.objs.size) { s with heap := h' } := fun its r' hz h' c' kp e =>
    ⟨.ref s.heap.objs.size, _, I.laid (t' := s.toks) kp (Nat.le_refl _) (show ObjOk X.prog X.w _ h' _ (.lst ys) from ⟨hz, its, c', r', e⟩), rfl, q _ (I.hok.fresh (Nat.le_refl _))⟩
  rcases hq with hq | hq
  · obtain ⟨its, r', pl, hz⟩ := I.list hq
    have hlen := r'.length
    obtain ⟨o, ho, hc, n, hd⟩ := pl.isList
    exact call_list_seq p (.inl rfl) ho hc hd (fun h' c' kp e => fin its r' hz h' c' kp e) (by simp only [List.size_toArray] <;> omega)
  · obtain ⟨its, r', pl, hz⟩ := I.tuple hq
    have hlen := r'.length
    obtain ⟨o, ho, hc, n, hd⟩ := pl
    exact call_list_seq p (.inr rfl) ho hc hd (fun h' c' kp e => fin its r' hz h' c' kp e) (by simp only [List.size_toArray] <;> omega)
theorem call_tuple_of : CallR X (.type "tuple") (fun xs H Q => ∃ p ys, xs = [.ref p] ∧ ((SqL X.K H p ys ∧ ∀ l, H l = none → Q (.ref l) (upd H l (.tup ys))) ∨ (SqT X.K H p ys ∧ Q (.ref p) H))) := by
  intro pins s σ H xs us Q I r h
  obtain ⟨p, ys, rfl, h⟩ := h
  obtain ⟨u, rfl, rx⟩ := vals1 r
  cases rx
  rcases h with ⟨hq, q⟩ | ⟨hq, q⟩
  · obtain ⟨its, r', pl, hz⟩ := I.list hq
    have hlen := r'.length
    refine call_tuple_list pl.isList (fun h' kp => ?_) (by simp only [List.size_toArray] <;> omega)
    have I1 : Inv X pins σ H { s with heap := h' } := I.kept (t' := s.toks) kp
    have I2 : Inv X pins σ (upd H h'.objs.size (.tup ys)) { s with heap := h'.push { cls := .type "tuple", data := .seq its.toArray } } :=
      I1.laid (t' := s.toks) (fun b o e => Heap.get?_push_of_some _ e) (Nat.le_refl _) (show ObjOk X.prog X.w _ _ _ (.tup ys) from ⟨hz, its, r', IsTup.new _ _⟩)
    exact ⟨.ref h'.objs.size, _, I2, rfl, q _ (I1.hok.fresh (Nat.le_refl _))⟩
  · obtain ⟨its, r', pl, hz⟩ := I.tuple hq
    exact call_tuple_same pl ⟨.ref p, H, I, rfl, q⟩

/-! ### the call of a builtin's method: o.m(..) -/
/-- the value is of that builtin type -/
def tyV (K : PySem.W.Frag) (T : String) (x : V) (H : Hp) : Prop := match x with
  | .str _ => T = "str"
  | .int _ => T = "int"
  | .ref p => (T = "list" ∧ ∃ xs, SqL K H p xs) ∨ (T = "tuple" ∧ ∃ o, K.lookup p = some o ∧ o.cls = .type "tuple" ∧ o.dict = none) ∨
      (T = "dict" ∧ ((∃ kvs, H p = some (.dK kvs)) ∨ ∃ kvs, H p = some (.dT kvs))) ∨ (T = "set" ∧ ∃ S n, H p = some (.set S n))
  | _ => False
theorem tyV_is {pins : List (Addr × Obj)} {σ : St} {H : Hp} {s : Shared} {T : String} {x : V} {v : Value} (I : Inv X pins σ H s) (r : RelV x v) (ty : tyV X.K T x H) :
    s.TypeIs v T ∧ ∀ a, v = .ref a → ∃ ob, s.heap.get? a = some ob ∧ ob.dict = none := by
  cases x with
  | str z =>
    obtain ⟨t, rfl⟩ := r
    cases (show T = "str" from ty)
    exact ⟨typeIs_str s z t, fun _ e => nomatch e⟩
  | int i =>
    obtain ⟨t, rfl⟩ := r
    cases (show T = "int" from ty)
    exact ⟨typeIs_int s i t, fun _ e => nomatch e⟩
  | ref p =>
    cases r
    rcases ty with ⟨rfl, xs, hq⟩ | ⟨rfl, o, hk, hc, hd⟩ | ⟨rfl, hk⟩ | ⟨rfl, S, n, hk⟩
    · obtain ⟨its, _, pl, _⟩ := I.list hq
      refine ⟨pl.isList.typeIs, fun a e => ?_⟩
      cases e
      obtain ⟨o, n, e, c, hd, _⟩ := pl
      exact ⟨o, e, hd⟩
    · refine ⟨⟨o, I.kIn p o hk, hc⟩, fun a e => ?_⟩
      cases e
      exact ⟨o, I.kIn _ o hk, hd⟩
    · have z : ∃ o, s.heap.get? p = some o ∧ o.ExactDict := by
        rcases hk with ⟨kvs, hk⟩ | ⟨kvs, hk⟩
        · obtain ⟨_, _, _, _, o, _, _, e, ex, _⟩ := I.hok p _ hk
          exact ⟨o, e, ex⟩
        · obtain ⟨_, _, _, _, o, _, _, e, ex, _⟩ := I.hok p _ hk
          exact ⟨o, e, ex⟩
      obtain ⟨o, e, ex⟩ := z
      refine ⟨⟨o, e, ex.1⟩, fun a e2 => ?_⟩
      cases e2
      exact ⟨o, e, ex.2.1⟩
    · obtain ⟨o, _, _, _, e, ex, _⟩ := I.hok p _ hk
      refine ⟨⟨o, e, ex.1⟩, fun a e2 => ?_⟩
      cases e2
      exact ⟨o, e, ex.2.1⟩
  | _ => exact False.elim ty
def tBM0 (K : PySem.W.Frag) (T : String) (r : V → List V → Hp → VK → Prop) (to : TE) : TE := fun σ H Q => to σ H fun x H1 => tyV K T x H1 ∧ r x [] H1 Q
def tBM (K : PySem.W.Frag) (T : String) (r : V → List V → Hp → VK → Prop) (to : TE) (t : TA) : TE := fun σ H Q => to σ H fun x H1 => tyV K T x H1 ∧ t σ H1 fun xs H2 => r x xs H2 Q
variable {o e : Expr} {es : List Expr} {to : TE} {t : TA} {name : Str} {apos cpos : Pos} {T id : String} {r : V → List V → Hp → VK → Prop}
theorem pe_bm0 (pa : PlainAttrs T) (slot : Slot T name id) (hty : typeOf (.builtin id) = pure (.type "method_descriptor")) (hm : MtR X id r) (ho : PE X o to)
    (hbase : attributeBase o name X.env (eval o X.env) = eval o X.env := by rfl) (hline : (apos.endLine == cpos.line) = true := by rfl) : PE X (.Call (.Attribute o name apos) [] [] cpos) (tBM0 X.K T r to) := by
  intro pins s σ H Q I h
  refine wpAny_Call_method0_late hbase hline (thn (ho pins s σ H _ I h) fun v s1 ⟨x, H1, I1, r1, ty, q1⟩ => ?_)
  obtain ⟨h1, h2⟩ := tyV_is I1 r1 ty
  exact ⟨T, id, pa, slot, hty, h1, h2, Calls.callWith_builtin rfl (PySem.evalArgs_none (hm pins s1 σ H1 x [] v [] Q I1 r1 .nil q1))⟩
theorem pe_bm (pa : PlainAttrs T) (slot : Slot T name id) (hty : typeOf (.builtin id) = pure (.type "method_descriptor")) (hm : MtR X id r) (ho : PE X o to) (ha : PA X (e :: es) t)
    (hbase : attributeBase o name X.env (eval o X.env) = eval o X.env := by rfl)
    (hfew : ((backTo cpos (starEach (e :: es) X.env)).all (fun x => !x.1) && (backToKw cpos (keywordEach [] X.env)).all (fun x => x.1.isSome)
      && decide ((e :: es).length + ([] : List Keyword).length + (if ([] : List Keyword).isEmpty then 0 else 1) < 30)) = true := by rfl)
    (hline : (apos.endLine == cpos.line) = true := by rfl) (hs : starEach (e :: es) X.env = (false, eval e X.env) :: starEach es X.env := by rfl) (hplain : (backTo cpos (starEach es X.env)).any (·.1) = false := by rfl) :
    PE X (.Call (.Attribute o name apos) (e :: es) [] cpos) (tBM X.K T r to t) := by
  intro pins s σ H Q I h
  refine wpAny_Call_method_late hbase hfew hline rfl (thn (ho pins s σ H _ I h) fun v s1 ⟨x, H1, I1, r1, ty, q1⟩ => ?_)
  obtain ⟨h1, h2⟩ := tyV_is I1 r1 ty
  refine ⟨T, id, pa, slot, hty, h1, h2, ?_⟩
  have hA := ha cpos pins s1 σ H1 _ I1 q1
  rw [hs] at hA ⊢
  refine Calls.callWith_builtin (by show (false || (backTo cpos (starEach es X.env)).any (·.1)) = false; rw [hplain] <;> rfl) (Calls.evalArgs_plain ?_)
  exact thn hA fun us s2 ⟨vs, H2, I2, r2, q2⟩ => hm pins s2 σ H2 x vs v us Q I2 r1 r2 q2
/- xs.append(e), list.index on a module's tuple .. are MtR facts of 06m -/
end
end L2

namespace L2
open PySem PySem.Spec PyProof.Rows

def MtM (X : Cx) (id : String) (r : V → List V → Hp → VK → Prop) : Prop :=
  ∀ (pins : List (Addr × Obj)) (s : Shared) (σ : St) (H : Hp) (x : V) (xs : List V) (v : Value) (us : List Value) (Q : VK), Inv X pins σ H s → RelV x v → Vals xs us → r x xs H Q →
    wpAny (model X.prog X.w) X.A (call (.builtin id) (v :: us)) (EP X pins σ Q) X.xe s

/-! ### lists of values -/
theorem Vals.one : ∀ {x : V} {us : List Value}, Vals [x] us → ∃ u, us = [u] ∧ RelV x u
  | _, _, .cons r .nil => ⟨_, rfl, r⟩
theorem Vals.two : ∀ {x y : V} {us : List Value}, Vals [x, y] us → ∃ u v, us = [u, v] ∧ RelV x u ∧ RelV y v
  | _, _, _, .cons r (.cons q .nil) => ⟨_, _, rfl, r, q⟩
theorem Vals.zero : ∀ {us : List Value}, Vals [] us → us = []
  | _, .nil => rfl
theorem Vals.dropLast {xs : List V} {us : List Value} (h : Vals xs us) : Vals xs.dropLast us.dropLast := by
  induction h with
  | nil => exact .nil
  | cons r t ih =>
    cases t with
    | nil => exact .nil
    | cons q t' => exact .cons r ih
theorem Vals.eraseIdx : ∀ {xs : List V} {us : List Value} (i : Nat), Vals xs us → Vals (xs.eraseIdx i) (us.eraseIdx i)
  | _, _, _, .nil => .nil
  | _, _, 0, .cons _ t => t
  | _, _, i + 1, .cons r t => .cons r (Vals.eraseIdx i t)
theorem Vals.reverse {xs : List V} {us : List Value} (h : Vals xs us) : Vals xs.reverse us.reverse := by
  induction h with
  | nil => exact .nil
  | cons r t ih => rw [List.reverse_cons, List.reverse_cons]; exact Vals.append ih (.cons r .nil)
theorem Vals.rep {xs : List V} {us : List Value} (h : Vals xs us) : ∀ k : Nat, Vals (List.replicate k xs).flatten (List.replicate k us).flatten
  | 0 => .nil
  | k + 1 => by
    rw [List.replicate_succ, List.replicate_succ, List.flatten_cons, List.flatten_cons]
    exact Vals.append h (Vals.rep h k)
theorem erase_last {α : Type} (l : List α) : l.eraseIdx (l.length - 1) = l.dropLast := by
  induction l with
  | nil => rfl
  | cons a r ih =>
    cases r with
    | nil => rfl
    | cons b r =>
      have e : (a :: b :: r).length - 1 = ((b :: r).length - 1) + 1 := by
        have h1 : (a :: b :: r).length = r.length + 2 := rfl
        have h2 : (b :: r).length = r.length + 1 := rfl
        omega
      rw [e, List.eraseIdx_cons_succ, ih]
      all_goals rfl
theorem len_erase {α : Type} : ∀ (l : List α) (i : Nat), (l.eraseIdx i).length ≤ l.length
  | [], _ => Nat.le_refl _
  | _ :: _, 0 => Nat.le_succ _
  | _ :: r, i + 1 => Nat.succ_le_succ (len_erase r i)
theorem foldl_rep (its : List Value) : ∀ (k : Nat) (acc : List Value),
    List.foldl (fun x1 x2 => x1 ++ x2) acc.toArray (List.replicate k its.toArray) = (acc ++ (List.replicate k its).flatten).toArray
  | 0, acc => by simp
  | k + 1, acc => by
    have e : acc.toArray ++ its.toArray = (acc ++ its).toArray := by simp
    have e2 : (acc ++ its) ++ (List.replicate k its).flatten = acc ++ (List.replicate (k + 1) its).flatten := by
      rw [List.replicate_succ, List.flatten_cons, List.append_assoc]
    rw [← e2, ← foldl_rep its k (acc ++ its), ← e, List.replicate_succ, List.foldl_cons]

section
variable {X : Cx} {pins : List (Addr × Obj)} {σ : St} {H : Hp} {s : Shared} {l b : Addr} {xs ys zs : List V}

/-! ### the two steps: a tracked list is rewritten, a new list is laid -/
theorem Inv.lset {its its' : List Value} {n : Nat} {f : Array Value → Array Value} {t' : Nat} (I : Inv X pins σ H s) (hH : H l = some (.lst xs))
    (e : s.heap.get? l = some { cls := .type "list", data := .seq its.toArray n }) (hf : f its.toArray = its'.toArray) (hv : Vals ys its') (hz : ys.length ≤ sizeLine) :
    Inv X pins σ (upd H l (.lst ys)) { s with heap := s.heap.update l (Obj.mapSeq f), toks := t' } := by
  have q := PySem.IsL.update e f
  rw [hf] at q
  refine I.write (x := l) (e := l) (by rw [hH]; exact trivial) (.inl rfl) (fun b' u hb hu => (Heap.get?_update_other s.heap (Obj.mapSeq f) (Ne.symm hb)).trans hu) ⟨_, q⟩ ?_
  exact ⟨hz, its', _, hv, q⟩
theorem Inv.lnew {its : List Value} {t' : Nat} (I : Inv X pins σ H s) (hv : Vals ys its) (hz : ys.length ≤ sizeLine) :
    Inv X pins σ (upd H s.heap.objs.size (.lst ys)) { s with heap := s.heap.push { cls := .type "list", data := .seq its.toArray }, toks := t' } :=
  I.laid (fun _ _ q => Heap.get?_push_of_some _ q) (Nat.le_refl _) ⟨hz, its, 0, hv, Heap.get?_push_size _ rfl⟩
theorem Inv.fresh (I : Inv X pins σ H s) : H s.heap.objs.size = none := I.hok.fresh (Nat.le_refl _)
theorem Inv.lstM (I : Inv X pins σ H s) (hH : H l = some (.lst xs)) : xs.length ≤ sizeLine ∧ ∃ (its : List Value) (n : Nat), Vals xs its ∧ xs.length = its.length ∧ s.heap.get? l = some { cls := .type "list", data := .seq its.toArray n } := by
  obtain ⟨z, its, n, r, e⟩ := I.hok l _ hH
  exact ⟨z, its, n, r, r.length, e⟩

theorem notLongL {n : Nat} (h : n ≤ sizeLine) : Builtin.List.listTooLong n = false := by
  unfold Builtin.List.listTooLong
  exact decide_eq_false (by omega)
end

section
variable {X : Cx}

/-! ### methods -/
def rAppend : V → List V → Hp → VK → Prop := fun x vs H Q => ∃ l xs y, x = .ref l ∧ vs = [y] ∧ H l = some (.lst xs) ∧ xs.length < sizeLine ∧ Q .non (upd H l (.lst (xs ++ [y])))
theorem mt_append : MtM X "list.append" rAppend := by
  intro pins s σ H x vs v us Q I rx rv h
  obtain ⟨l, xs, y, rfl, rfl, hH, hz, q⟩ := h
  cases rx
  obtain ⟨u, rfl, ru⟩ := rv.one
  obtain ⟨z, its, n, r, hl, e⟩ := I.lstM hH
  refine call_meets F.slot_list_append ⟨_, e, rfl⟩ F.entry_list_append (F.args_list_append_2 _ _) (PySem.list_append l its.toArray n u (by rw [List.size_toArray]; omega)) ⟨e, ?_⟩
  refine ⟨.non, _, I.lset (its' := its ++ [u]) hH e (by simp) (r.append (.cons ru .nil)) ?_, rfl, q⟩
  rw [List.length_append, List.length_singleton]
  omega

def rExtend : V → List V → Hp → VK → Prop := fun x vs H Q => ∃ l b xs zs, x = .ref l ∧ vs = [.ref b] ∧ H l = some (.lst xs) ∧ H b = some (.lst zs) ∧ xs.length + zs.length ≤ sizeLine ∧ Q .non (upd H l (.lst (xs ++ zs)))
theorem mt_extend : MtM X "list.extend" rExtend := by
  intro pins s σ H x vs v us Q I rx rv h
  obtain ⟨l, b, xs, zs, rfl, rfl, hH, hB, hz, q⟩ := h
  cases rx
  obtain ⟨u, rfl, ru⟩ := rv.one
  cases ru
  obtain ⟨z, its, n, r, hl, e⟩ := I.lstM hH
  obtain ⟨z2, its2, n2, r2, hl2, e2⟩ := I.lstM hB
  have hsz : its.toArray.size + its2.toArray.size ≤ sizeLine := by rw [List.size_toArray, List.size_toArray]; omega
  have hlong : ¬ (!its.toArray.isEmpty && Builtin.List.listTooLong (its.toArray.size + its2.toArray.size)) = true := by
    rw [notLongL hsz, Bool.and_false]
    exact Bool.false_ne_true
  refine call_meets F.slot_list_extend ⟨_, e, rfl⟩ F.entry_list_extend (F.args_list_extend_2 _ _)
    (AutoSeq1.list_extend_list_list_0 l its.toArray n b its2.toArray n2 hlong (by rw [List.size_toArray]; omega) (by omega)) ⟨e, e2, ?_⟩
  refine ⟨.non, _, I.lset (its' := its ++ its2) hH e (by simp) (r.append r2) ?_, rfl, q⟩
  rw [List.length_append]
  omega

def rPop : V → List V → Hp → VK → Prop := fun x vs H Q => ∃ l xs y, x = .ref l ∧ vs = [] ∧ H l = some (.lst xs) ∧ xs[xs.length - 1]? = some y ∧ Q y (upd H l (.lst xs.dropLast))
theorem mt_pop : MtM X "list.pop" rPop := by
  intro pins s σ H x vs v us Q I rx rv h
  obtain ⟨l, xs, y, rfl, rfl, hH, hy, q⟩ := h
  cases rx
  have hus := rv.zero
  subst hus
  obtain ⟨z, its, n, r, hl, e⟩ := I.lstM hH
  obtain ⟨u, hu, ru⟩ := r.get hy
  have hy' : its.toArray[its.toArray.size - 1]? = some u := by
    show its.toArray[its.length - 1]? = some u
    rw [← Array.getElem?_toList, ← hl]
    exact hu
  refine call_meets F.slot_list_pop ⟨_, e, rfl⟩ F.entry_list_pop (F.args_list_pop_1 _) (MeetsSeq.list_pop_last l its.toArray n u hy' (by rw [List.size_toArray]; omega)) ⟨e, ?_⟩
  refine ⟨y, _, I.lset (its' := its.dropLast) hH e ?_ r.dropLast ?_, ru, q⟩
  · show its.toArray.eraseIdxIfInBounds (its.toArray.size - 1) = its.dropLast.toArray
    rw [List.size_toArray, List.eraseIdxIfInBounds_toArray, erase_last]
  · rw [List.length_dropLast]
    omega

def rPopAt : V → List V → Hp → VK → Prop := fun x vs H Q => ∃ l xs i k y, x = .ref l ∧ vs = [.int i] ∧ H l = some (.lst xs) ∧ -(2 ^ 63) ≤ i ∧ i < 2 ^ 63 ∧ seqIndex? i xs.length = some k ∧ xs[k]? = some y ∧ Q y (upd H l (.lst (xs.eraseIdx k)))
theorem mt_popAt : MtM X "list.pop" rPopAt := by
  intro pins s σ H x vs v us Q I rx rv h
  obtain ⟨l, xs, i, k, y, rfl, rfl, hH, h1, h2, hk, hy, q⟩ := h
  cases rx
  obtain ⟨u, rfl, ru⟩ := rv.one
  obtain ⟨t, rfl⟩ := ru
  obtain ⟨z, its, n, r, hl, e⟩ := I.lstM hH
  obtain ⟨w, hw, rw'⟩ := r.get hy
  refine call_meets F.slot_list_pop ⟨_, e, rfl⟩ F.entry_list_pop (F.args_list_pop_2 _ _)
    (MeetsSeq.list_pop_at l its.toArray n i t k w (fitsIndex_both h1 h2) (by rw [List.size_toArray, ← hl]; exact hk) (by rw [← Array.getElem?_toList]; exact hw) (by rw [List.size_toArray]; omega)) ⟨e, ?_⟩
  refine ⟨y, _, I.lset (its' := its.eraseIdx k) hH e ?_ (r.eraseIdx k) ?_, rw', q⟩
  · show its.toArray.eraseIdxIfInBounds k = (its.eraseIdx k).toArray
    rw [List.eraseIdxIfInBounds_toArray]
  · have := len_erase xs k
    omega

def rReverse : V → List V → Hp → VK → Prop := fun x vs H Q => ∃ l xs, x = .ref l ∧ vs = [] ∧ H l = some (.lst xs) ∧ Q .non (upd H l (.lst xs.reverse))
theorem mt_reverse : MtM X "list.reverse" rReverse := by
  intro pins s σ H x vs v us Q I rx rv h
  obtain ⟨l, xs, rfl, rfl, hH, q⟩ := h
  cases rx
  have hus := rv.zero
  subst hus
  obtain ⟨z, its, n, r, hl, e⟩ := I.lstM hH
  refine call_meets F.slot_list_reverse ⟨_, e, rfl⟩ F.entry_list_reverse (F.args_list_reverse_1 _) (AutoSeq1.list_reverse_list_0 l its.toArray n (by rw [List.size_toArray]; omega)) ⟨e, ?_⟩
  refine ⟨.non, _, I.lset (its' := its.reverse) hH e (by simp) r.reverse ?_, rfl, q⟩
  rw [List.length_reverse]
  omega

def rClear : V → List V → Hp → VK → Prop := fun x vs H Q => ∃ l xs, x = .ref l ∧ vs = [] ∧ H l = some (.lst xs) ∧ Q .non (upd H l (.lst []))
theorem mt_clear : MtM X "list.clear" rClear := by
  intro pins s σ H x vs v us Q I rx rv h
  obtain ⟨l, xs, rfl, rfl, hH, q⟩ := h
  cases rx
  have hus := rv.zero
  subst hus
  obtain ⟨z, its, n, r, hl, e⟩ := I.lstM hH
  refine call_meets F.slot_list_clear ⟨_, e, rfl⟩ F.entry_list_clear (F.args_list_clear_1 _) (AutoSeq1.list_clear_list_0 l its.toArray n (by rw [List.size_toArray]; omega)) ⟨e, ?_⟩
  exact ⟨.non, _, I.lset (its' := []) (ys := []) hH e rfl .nil (Nat.zero_le _), rfl, q⟩

/-! ### list + list, list += list, list * int -/
def rCat : R2 := fun x y H Q => ∃ l b xs zs, x = .ref l ∧ y = .ref b ∧ H l = some (.lst xs) ∧ H b = some (.lst zs) ∧ xs.length + zs.length ≤ sizeLine ∧ ∀ p, H p = none → Q (.ref p) (upd H p (.lst (xs ++ zs)))
theorem op_cat : OpR X (binaryOp .Add) rCat := by
  intro pins s σ H x y v u Q I rx ry h
  obtain ⟨l, b, xs, zs, rfl, rfl, hH, hB, hz, q⟩ := h
  cases rx
  cases ry
  obtain ⟨z, its, n, r, hl, e⟩ := I.lstM hH
  obtain ⟨z2, its2, n2, r2, hl2, e2⟩ := I.lstM hB
  refine PySem.P.add_list e e2 ?_ (by rw [List.size_toArray, List.size_toArray]; omega)
  have ea : its.toArray ++ its2.toArray = (its ++ its2).toArray := by simp
  rw [ea]
  exact ⟨.ref _, _, I.lnew (t' := s.toks) (r.append r2) (by rw [List.length_append]; omega), rfl, q _ I.fresh⟩
/-- a list times an int (a negative one is nothing) -/
def rRep : R2 := fun x y H Q => ∃ l k xs, x = .ref l ∧ y = .int k ∧ H l = some (.lst xs) ∧ -(2 ^ 63) ≤ k ∧ k < 2 ^ 63 ∧ xs.length * k.toNat ≤ sizeLine ∧
  ∀ p, H p = none → Q (.ref p) (upd H p (.lst (List.replicate k.toNat xs).flatten))
theorem len_rep {α : Type} (xs : List α) (k : Nat) : (List.replicate k xs).flatten.length = k * xs.length := by
  induction k with
  | zero => simp
  | succ k ih => rw [List.replicate_succ, List.flatten_cons, List.length_append, ih, Nat.succ_mul, Nat.add_comm]
theorem op_rep : OpR X (binaryOp .Mult) rRep := by
  intro pins s σ H x y v u Q I rx ry h
  obtain ⟨l, k, xs, rfl, rfl, hH, h1, h2, hz, q⟩ := h
  cases rx
  obtain ⟨t, rfl⟩ := ry
  obtain ⟨z, its, n, r, hl, e⟩ := I.lstM hH
  have hlen : its.toArray.size * k.toNat ≤ sizeLine := by rw [List.size_toArray, ← hl]; exact hz
  have hcap : ¬ its.toArray.size * k.toNat > (2 ^ 63 - 1) / 8 := by
    have : (sizeLine : Nat) ≤ (2 ^ 63 - 1) / 8 := by decide
    omega
  have hfit : ¬ (!Builtin.List.listFitsIndex k) = true := by
    rw [fitsIndex_both h1 h2]
    exact Bool.false_ne_true
  have hlong : ¬ Builtin.List.listTooLong (its.toArray.size * k.toNat) = true := by
    rw [notLongL hlen]
    exact Bool.false_ne_true
  have hnew : List.foldl (fun x1 x2 => x1 ++ x2) #[] (List.replicate (if its.toArray.isEmpty = true then 0 else k.toNat) its.toArray) = (List.replicate k.toNat its).flatten.toArray := by
    have f0 : ∀ m : Nat, List.foldl (fun x1 x2 => x1 ++ x2) #[] (List.replicate m its.toArray) = (List.replicate m its).flatten.toArray := fun m => by
      have := foldl_rep its m []
      rw [List.nil_append] at this
      exact this
    rw [f0]
    cases its with
    | nil => simp
    | cons a r' => rw [if_neg (by simp)]
  refine wpAny_binaryOp_repeat_ref (T := "list") (U := "int") (by decide) ⟨_, e, rfl⟩ (fun s' => typeIs_int s' k t) noFill_list_mul F.fills_int_mul F.slot_int_rmul repeat_list F.slot_int_index.lookup
    (call_meets F.slot_int_rmul (typeIs_int s k t) F.entry_int_rmul (F.args_int_rmul_2 _ _) (int___rmul___int_list k t l its.toArray n)
      ⟨e, rfl, ⟨_, e, rfl⟩, call_meets F.slot_list_mul ⟨_, e, rfl⟩ F.entry_list_mul (F.args_list_mul_2 _ _) (AutoListH.list___mul___list_int_3 l its.toArray n k t hfit hcap hlong) ⟨e, ?_⟩⟩)
  rw [hnew]
  exact ⟨.ref _, _, I.lnew (t' := s.toks) (r.rep k.toNat) (by rw [len_rep, Nat.mul_comm]; exact hz), rfl, q _ I.fresh⟩

/-! ### del xs[i] -/
theorem del_list {pins : List (Addr × Obj)} {s : Shared} {σ : St} {H : Hp} {l : Addr} {xs : List V} {i : Int} {t : Tok} {k : Nat} {Q : Unit → Shared → Prop} (I : Inv X pins σ H s) (hH : H l = some (.lst xs))
    (h1 : -(2 ^ 63) ≤ i) (h2 : i < 2 ^ 63) (hk : seqIndex? i xs.length = some k) (h : ∀ s', Inv X pins σ (upd H l (.lst (xs.eraseIdx k))) s' → Q () s') :
    wpAny (model X.prog X.w) X.A (delItem (.ref l) (.int i t)) Q X.xe s := by
  obtain ⟨z, its, n, r, hl, e⟩ := I.lstM hH
  refine PySem.P.delItem_list (k := k) e (fitsIndex_both h1 h2) (by rw [List.size_toArray, ← hl]; exact hk) (h _ ?_) (by rw [List.size_toArray]; omega)
  refine I.lset (its' := its.eraseIdx k) (t' := s.toks) hH e ?_ (r.eraseIdx k) ?_
  · show its.toArray.eraseIdxIfInBounds k = (its.eraseIdx k).toArray
    rw [List.eraseIdxIfInBounds_toArray]
  · have := len_erase xs k
    omega
end

/-! ### xs[a:b] = ys -/
section
variable {prog : Program} {w : World} {A : Around} {E : Value → Shared → Prop} {s : Shared}
theorem splice_eq (its its2 : List Value) (a c : Nat) : its.toArray.extract 0 a ++ its2.toArray ++ its.toArray.extract c its.toArray.size = (its.take a ++ its2 ++ its.drop c).toArray := by
  apply Array.toList_inj.mp
  first
    | (simp
       exact List.take_of_length_le (by simp))
    | simp [List.take_of_length_le]
    | simp
theorem bounds_run {a c n : Nat} (hac : a ≤ c) (hc : c ≤ n) : sliceBounds (some (a : Int)) (some (c : Int)) none n = ((a : Int), (c : Int), 1) := by
  simp only [sliceBounds, Option.getD_none]
  have h1 : ¬ ((a : Int) < 0) := by omega
  have h2 : ¬ ((c : Int) < 0) := by omega
  simp only [h1, h2, if_false, show (1 : Int) > 0 by decide, if_true]
  congr 1
  · omega
  · congr 1; omega
set_option maxRecDepth 100000 in
/-- list.__setitem__ with a slice of step one and another list -/
theorem setItem_slice {l b sl : Addr} {items new : Array Value} {n n2 : Nat} {vl vu : Value} {a c : Nat} {Q : Unit → Shared → Prop}
    (e : s.heap.get? l = some { cls := .type "list", data := .seq items n }) (e2 : s.heap.get? b = some { cls := .type "list", data := .seq new n2 }) (hne : l ≠ b)
    (hs : s.heap.IsSliceOf sl vl vu .none) (pl : IsPart vl (some (a : Int))) (pu : IsPart vu (some (c : Int))) (hac : a ≤ c) (hc : c ≤ items.size)
    (hsz : items.size + new.size ≤ sizeLine) (h : Q () { s with heap := s.heap.update l (Obj.mapSeq fun xs => xs.extract 0 a ++ new ++ xs.extract c xs.size) }) :
    wpAny (model prog w) A (setItem (.ref l) (.ref sl) (.ref b)) Q E s := by
  have hl : s.heap.IsList l items := PySem.IsL.isList e
  have hb : s.heap.IsList b new := PySem.IsL.isList e2
  obtain ⟨os, hos, hcs, hds⟩ := id hs
  have hTs : s.TypeIs (.ref sl) "slice" := ⟨os, hos, hcs⟩
  have hstep : ¬ ((rawPart none == rawInt 0) = true) := Bool.false_ne_true
  have hsame : Builtin.List.listSameRef (.ref l) (.ref b) = false := by
    unfold Builtin.List.listSameRef
    exact beq_eq_false_iff_ne.mpr hne
  have hmax : (max (a : Int) (c : Int)).toNat = c := by omega
  have hz' : ((fun xs : Array Value => xs.extract 0 a ++ new ++ xs.extract c xs.size) items).size ≤ sizeLine + 1 := by
    simp only [Array.size_append, Array.size_extract]
    omega
  unfold setItem
  try with_reducible refine wpAny_holding ?_
  first | refine wpAny_bind (wpAny_pure ?_) | skip
  refine wpAny_bind (wpAny_sequenceKey hl.typeIs (by decide) ?_)
  refine wpAny_bind (wpAny_callSpecial?_slot (name := Str.ofString "__setitem__") hl.typeIs slot_list_setitem
    (wpAny_call_entry slot_list_setitem hl.typeIs entry_list_setitem ?_ (args_list_setitem _ _ _)))
  show wpAny _ _ (Builtin.List.listSubscript? (.ref sl) >>= _) _ _ s
  refine wpAny_bind ?_
  unfold Builtin.List.listSubscript?
  refine wpAny_bind (wpAny_specialOf hTs slice_no_index ?_)
  simp only [Option.isNone_none, if_true]
  refine wpAny_pure ?_
  show wpAny _ _ (typeOf (.ref sl) >>= _) _ _ s
  refine wpAny_bind (wpAny_typeOf hTs ?_)
  first
    | rw [if_neg (by decide)]
    | refine PySem.W.KFB.if_not (by decide) ?_
  rw [listSliceParts_eq]
  refine wpAny_bind (wpAny_bind (wpAny_field hos hds (x := .none) rfl (wpAny_bind (wpAny_listPart .none ?_))))
  rw [if_neg hstep]
  refine wpAny_bind (wpAny_field hos hds (x := vl) rfl (wpAny_bind (wpAny_listPart pl ?_)))
  refine wpAny_bind (wpAny_field hos hds (x := vu) rfl (wpAny_bind (wpAny_listPart pu (wpAny_pure ?_))))
  first
    | simp only [hsame, Bool.false_eq_true, if_false]
    | refine PySem.W.KFB.if_not hsame ?_
    | (dsimp only
       rw [if_neg (by rw [hsame]; exact Bool.false_ne_true)])
  refine wpAny_bind (m := Builtin.List.listAllItems (.ref b) "must assign iterable to extended slice") ?_
  unfold Builtin.List.listAllItems
  refine wpAny_bind (wpAny_typeOf hb.typeIs ?_)
  first
    | refine PySem.W.KFB.if_so (by decide) ?_
    | rw [if_pos (by decide)]
    | simp only [beq_self_eq_true, Bool.true_or, if_true]
  unfold Builtin.List.listItems
  refine wpAny_bind (wpAny_seqItems e2 rfl (wpAny_pure ?_))
  refine wpAny_bind (wpAny_bind (wpAny_seqItems e rfl (wpAny_pure ?_)))
  refine wpAny_bind (wpAny_of_eq ((sliceIndices_raw (some (a : Int)) (some (c : Int)) none items.size (by simp)).trans (congrArg (pure : Int × Int × Int → Sem (Int × Int × Int)) (bounds_run hac hc))) ?_)
  show wpAny _ _ (if ((1 : Int) == 1) = true then _ else _) _ _ s
  rw [if_pos (by decide)]
  refine wpAny_bind (wpAny_rule ?_)
  first
    | simp only [notLongL hsz, Bool.false_eq_true, if_false]
    | refine PySem.W.KFB.if_not (notLongL hsz) ?_
  first | refine wpAny_bind (wpAny_pure ?_) | skip
  show wpAny _ _ (updateSeq l (fun xs => xs.extract 0 ((a : Int)).toNat ++ new ++ xs.extract (max (a : Int) (c : Int)).toNat xs.size) >>= _) _ _ s
  rw [hmax, Int.toNat_natCast]
  refine wpAny_bind (wpAny_updateSeq (hz := Nat.le_trans (Nat.le_add_right _ _) hsz) (_hz' := hz') e rfl ?_)
  refine wpAny_bind (wpAny_letGo ?_)
  first
    | exact wpAny_bind (wpAny_pure (wpAny_pure ⟨.none, rfl, wpAny_pure h⟩))
    | exact wpAny_pure ⟨.none, rfl, wpAny_pure h⟩
end

section
variable {X : Cx}
/-- xs[a:c] = ys of another list, at the value level: sl is the slice object that was just made -/
theorem set_slice {pins : List (Addr × Obj)} {s : Shared} {σ : St} {H : Hp} {l b sl : Addr} {xs ys : List V} {a c : Int} {vl vu : Value} {Q : Unit → Shared → Prop} (I : Inv X pins σ H s)
    (hH : H l = some (.lst xs)) (hB : H b = some (.lst ys)) (hne : l ≠ b) (hs : s.heap.IsSliceOf sl vl vu .none) (ra : RelV (.int a) vl) (rc : RelV (.int c) vu) (h0 : 0 ≤ a) (hac : a ≤ c) (hc : c ≤ xs.length)
    (hz : xs.length + ys.length ≤ sizeLine) (h : ∀ s', Inv X pins σ (upd H l (.lst (xs.take a.toNat ++ ys ++ xs.drop c.toNat))) s' → Q () s') :
    wpAny (model X.prog X.w) X.A (setItem (.ref l) (.ref sl) (.ref b)) Q X.xe s := by
  obtain ⟨ta, rfl⟩ := ra
  obtain ⟨tc, rfl⟩ := rc
  obtain ⟨z, its, n, r, hl, e⟩ := I.lstM hH
  obtain ⟨z2, its2, n2, r2, hl2, e2⟩ := I.lstM hB
  obtain ⟨a', rfl⟩ := Int.eq_ofNat_of_zero_le h0
  obtain ⟨c', rfl⟩ := Int.eq_ofNat_of_zero_le (Int.le_trans h0 hac)
  simp only [Int.toNat_natCast] at h
  refine setItem_slice (a := a') (c := c') e e2 hne hs (.int _ _) (.int _ _) (by omega) (by rw [List.size_toArray]; omega) (by rw [List.size_toArray, List.size_toArray]; omega) (h _ ?_)
  refine I.lset (its' := its.take a' ++ its2 ++ its.drop c') (t' := s.toks) hH e ?_ (Vals.append (Vals.append (r.take _) r2) (r.drop _)) ?_
  · exact splice_eq its its2 a' c'
  · rw [List.length_append, List.length_append, List.length_take, List.length_drop]
    omega
end
end L2

namespace Att
open PySem PySem.W PySem.Calls PyProof.Rows

/-! ### the script -/
theorem ints_of_wellAll {P : Params} {h : Heap} : ∀ (ns : List Int) (vs : List Value), WellAll P h vs (ns.map WData.int) → IntsAre vs ns := by
  intro ns
  induction ns with
  | nil =>
    intro vs w
    rw [List.map_nil] at w
    cases w
    exact .nil
  | cons n ns ih =>
    intro vs w
    rw [List.map_cons] at w
    cases w with
    | cons a b =>
      cases a
      exact .cons _ _ (ih _ b)

theorem script_of {l : OpenLaw} {n : Nat} (hn : l.most = some n) {P : Params} {h : Heap} {args : List WData} {vals : List Value}
    (hpre : l.row.toRowW.claim.pre args = true) (hwl : WellAll P h vals args) :
    ∃ a vs ns, vals = [Value.ref a] ∧ args = [WData.list (ns.map WData.int)] ∧ h.get? a = some { cls := .type "list", data := .seq vs.toArray } ∧ IntsAre vs ns ∧ ns.length ≤ n := by
  have hsh : WShape.hasAll [] args [.list .int] = true := (pre_splitW hpre).1
  have hc : l.pre.holds [] { args := args } = true := (pre_splitW hpre).2
  obtain ⟨d, r, rfl, h1, h2⟩ := hasAllW_cons hsh
  obtain rfl := hasAllW_nil h2
  obtain ⟨xs, rfl, h3⟩ := hasW_list h1
  obtain ⟨ns, rfl⟩ := items_int h3
  have hlen : ns.length ≤ n := by
    unfold OpenLaw.pre at hc
    have h4 : (WTm.not (.lt (.lit (.int (n : Int))) (.len (.arg 0)))).holds [] { args := [.list (ns.map .int)] } = true := by
      have h4 := (holds_andW hc).1
      rw [hn] at h4
      exact h4
    have h5 := condW_of h4 (w_not (w_lt w_lit (w_len_list (w_arg rfl))))
    rw [List.length_map] at h5
    refine Nat.le_of_not_lt fun q => ?_
    have q' : (n : Int) < ((ns.length : Nat) : Int) := by omega
    first
      | (rw [decide_eq_true q'] at h5; exact absurd h5 (by decide))
      | (simp at h5; omega)
  cases hwl with
  | cons w1 w2 =>
    cases w2
    cases w1 with
    | list ho hall => exact ⟨_, _, ns, rfl, rfl, ho, ints_of_wellAll ns _ hall, hlen⟩

theorem post_true (l : OpenLaw) (args : List WData) : l.row.toRowW.claim.post args (.bool true) args = true :=
  postW_of (r := l.row.toRowW) (X := (true == true))
    (show WShape.has [] (.bool true) .bool = true by first | rfl | decide | simp [WShape.has, WShape.arms, WShape.armsAll])
    (show (WTm.eq .res (.lit (.bool true))).value [] { args := args, res := some (.bool true), after := args } = some (.bool (true == true)) from w_eq_bool (w_res rfl) w_lit) rfl

/-! ### the attachment: holds_open's last premise (the goal 'hc' behind k_head) from a wpAny of the law's body -/
theorem attach {l : OpenLaw} {n : Nat} {q : Program} {loose : List Str} {XP : (Str → Option Value) → Heap → Prop} {YP : World → Heap → Prop} {d : DefRec} {x : Str}
    (hn : l.most = some n) (hdf : d.params.defaults = [])
    (hbind : ∀ pm cd doc v : Value, bindArgs (docDef d.name d.params d.body d.scope pm cd doc) ⟨[v], []⟩ = pure [(x, v)])
    (hx : d.scope.names.lookup x = some .local ∨ d.scope.names.lookup x = some .cell)
    (hk : d.scope.kind = .function) (hco : d.scope.isCoroutine = false) (hgen : d.scope.isGenerator = false)
    (body : ∀ (w : World) (s₀ s₁ s : Shared) (mg mb : Str → Option Value) (fa : Addr) (o : Obj) (pm cd doc : Value) (a : Addr) (vs : List Value) (ns : List Int),
      Ground q loose [] XP w s₀ mg mb s₁.heap → YP w s₁.heap →
      s₁.heap.get? fa = some o → o.data = .func (docDef d.name d.params d.body d.scope pm cd doc) → s₁.heap.CodeRec cd d.name → mg d.name = some (.ref fa) →
      s₁.heap.get? a = some { cls := .type "list", data := .seq vs.toArray } → IntsAre vs ns → ns.length ≤ n →
      s.gens = #[] → s.os = s₁.os →
      Fr s₁.heap s₁.heap.objs.size s.heap (bindL (envOfC d.name d.scope s₁.heap.objs.size fa cd).kindOf [(x, .ref a)] fun _ => none) →
      Cl s₁.heap.objs.size (cellsFrom (s₁.heap.objs.size + 1) d.scope.names []) s.heap (bindC (envOfC d.name d.scope s₁.heap.objs.size fa cd).kindOf [(x, .ref a)] fun _ => none) →
      wpAny (model l.prog w) (callerA.deeper (envOfC d.name d.scope s₁.heap.objs.size fa cd)) (execs d.body (envOfC d.name d.scope s₁.heap.objs.size fa cd))
        (fun f s' => f = .ret (.bool true) ∧ OldK s₁.heap s'.heap ∧ s'.os = s₁.os ∧ AllBare s'.gens) (fun _ _ => False) s) :
    WalkO q loose XP YP l.row.toRowW d [] (fun f vs => PySem.call f vs) := by
  intro w s₀ s₁ mg mb G Y fa o pm cd doc dV kV ho hd hcd hD hmg hg args vals as hpre hlay hrd hwl hlo
  obtain rfl : dV = .none := Dflts.none hD hdf
  obtain rfl : kV = .none := Dflts.noKw hD
  obtain ⟨a, vs, ns, rfl, rfl, hobj, hints, hlen⟩ := script_of hn hpre hwl
  refine enter_call ?_
  refine call_cells_ret (o := o) (by rw [depth_caller]; decide) ho (fd_plain hd) G.T.nolimit hcd (hbind pm cd doc (.ref a)) (fun y hy => ?_) (fun h₁ tk F X => ?_) hco hgen hk
  · obtain rfl : y = (x, Value.ref a) := List.mem_singleton.mp hy
    rcases hx with e | e
    · exact .inl e
    · exact .inr ⟨e, cellsFrom_some _ _ _ (.inl e)⟩
  · refine wpAny_mono (body w s₀ s₁ { s₁ with heap := h₁, toks := tk } mg mb fa o pm cd doc a vs ns G Y ho (fd_plain hd) hcd hmg hobj hints hlen hg rfl F X) (fun f s' hq => ?_) (fun _ _ hq => hq)
    obtain ⟨rfl, h2, h3, h4⟩ := hq
    exact ⟨.inl ⟨.bool true, .bool true, [], rfl, fun _ => rfl, .bool true, post_true l _, fun _ => ⟨List.Pairwise.nil, fun _ hm => (nomatch hm)⟩⟩, h2, h3, h4⟩

/-- the same from a codeAny of the CALL (for a layer whose function contracts speak of calls) -/
theorem attach_call {l : OpenLaw} {n : Nat} {q : Program} {loose : List Str} {XP : (Str → Option Value) → Heap → Prop} {YP : World → Heap → Prop} {d : DefRec}
    (hn : l.most = some n) (hdf : d.params.defaults = [])
    (call : ∀ (w : World) (s₀ s₁ : Shared) (mg mb : Str → Option Value) (fa : Addr) (o : Obj) (pm cd doc : Value) (a : Addr) (vs : List Value) (ns : List Int),
      Ground q loose [] XP w s₀ mg mb s₁.heap → YP w s₁.heap →
      s₁.heap.get? fa = some o → o.data = .func (docDef d.name d.params d.body d.scope pm cd doc) → s₁.heap.CodeRec cd d.name → mg d.name = some (.ref fa) →
      s₁.heap.get? a = some { cls := .type "list", data := .seq vs.toArray } → IntsAre vs ns → ns.length ≤ n → s₁.gens = #[] →
      codeAny (model l.prog w) callerA (.call (.ref fa) ⟨[.ref a], []⟩) (fun r s' => r = .ok (.ret (.bool true)) ∧ OldK s₁.heap s'.heap ∧ s'.os = s₁.os ∧ AllBare s'.gens) s₁) :
    WalkO q loose XP YP l.row.toRowW d [] (fun f vs => PySem.call f vs) := by
  intro w s₀ s₁ mg mb G Y fa o pm cd doc dV kV ho hd hcd hD hmg hg args vals as hpre hlay hrd hwl hlo
  obtain rfl : dV = .none := Dflts.none hD hdf
  obtain rfl : kV = .none := Dflts.noKw hD
  obtain ⟨a, vs, ns, rfl, rfl, hobj, hints, hlen⟩ := script_of hn hpre hwl
  refine enter_call (codeAny_mono (call w s₀ s₁ mg mb fa o pm cd doc a vs ns G Y ho (fd_plain hd) hcd hmg hobj hints hlen hg) fun r s' hq => ?_)
  obtain ⟨rfl, h2, h3, h4⟩ := hq
  exact ⟨.inl ⟨.bool true, .bool true, [], rfl, fun _ => rfl, .bool true, post_true l _, fun _ => ⟨List.Pairwise.nil, fun _ hm => (nomatch hm)⟩⟩, h2, h3, h4⟩

/-- the same where the top left finished generators (o_head chose holds_openN): nothing may have changed at all and no generator may be left -/
theorem attachN {l : OpenLaw} {n : Nat} {q : Program} {loose : List Str} {XP : (Str → Option Value) → Heap → Prop} {YP : World → Heap → Prop} {d : DefRec} {x : Str}
    (hn : l.most = some n) (hdf : d.params.defaults = [])
    (hbind : ∀ pm cd doc v : Value, bindArgs (docDef d.name d.params d.body d.scope pm cd doc) ⟨[v], []⟩ = pure [(x, v)])
    (hx : d.scope.names.lookup x = some .local ∨ d.scope.names.lookup x = some .cell)
    (hk : d.scope.kind = .function) (hco : d.scope.isCoroutine = false) (hgen : d.scope.isGenerator = false)
    (body : ∀ (w : World) (s₀ s₁ s : Shared) (mg mb : Str → Option Value) (fa : Addr) (o : Obj) (pm cd doc : Value) (a : Addr) (vs : List Value) (ns : List Int),
      Ground q loose [] XP w s₀ mg mb s₁.heap → YP w s₁.heap →
      s₁.heap.get? fa = some o → o.data = .func (docDef d.name d.params d.body d.scope pm cd doc) → s₁.heap.CodeRec cd d.name → mg d.name = some (.ref fa) →
      s₁.heap.get? a = some { cls := .type "list", data := .seq vs.toArray } → IntsAre vs ns → ns.length ≤ n →
      s.gens = #[] → s.os = s₁.os →
      Fr s₁.heap s₁.heap.objs.size s.heap (bindL (envOfC d.name d.scope s₁.heap.objs.size fa cd).kindOf [(x, .ref a)] fun _ => none) →
      Cl s₁.heap.objs.size (cellsFrom (s₁.heap.objs.size + 1) d.scope.names []) s.heap (bindC (envOfC d.name d.scope s₁.heap.objs.size fa cd).kindOf [(x, .ref a)] fun _ => none) →
      wpAny (model l.prog w) (callerA.deeper (envOfC d.name d.scope s₁.heap.objs.size fa cd)) (execs d.body (envOfC d.name d.scope s₁.heap.objs.size fa cd))
        (fun f s' => f = .ret (.bool true) ∧ (∀ b o, s₁.heap.get? b = some o → s'.heap.get? b = some o) ∧ s'.os = s₁.os ∧ s'.gens = #[]) (fun _ _ => False) s) :
    WalkN q loose XP YP l.row.toRowW d [] (fun f vs => PySem.call f vs) := by
  intro w s₀ s₁ mg mb G Y fa o pm cd doc dV kV ho hd hcd hD hmg hg args vals as hpre hlay hrd hwl hlo
  obtain rfl : dV = .none := Dflts.none hD hdf
  obtain rfl : kV = .none := Dflts.noKw hD
  obtain ⟨a, vs, ns, rfl, rfl, hobj, hints, hlen⟩ := script_of hn hpre hwl
  refine enter_callW ?_
  refine call_cells_ret (o := o) (by rw [depth_caller]; decide) ho (fd_plain hd) G.T.nolimit hcd (hbind pm cd doc (.ref a)) (fun y hy => ?_) (fun h₁ tk F X => ?_) hco hgen hk
  · obtain rfl : y = (x, Value.ref a) := List.mem_singleton.mp hy
    rcases hx with e | e
    · exact .inl e
    · exact .inr ⟨e, cellsFrom_some _ _ _ (.inl e)⟩
  · refine wpAny_mono (body w s₀ s₁ { s₁ with heap := h₁, toks := tk } mg mb fa o pm cd doc a vs ns G Y ho (fd_plain hd) hcd hmg hobj hints hlen hg rfl F X) (fun f s' hq => ?_) (fun _ _ hq => hq)
    obtain ⟨rfl, h2, h3, h4⟩ := hq
    exact ⟨.inl ⟨.bool true, .bool true, [], rfl, fun _ => rfl, .bool true, post_true l _, fun _ => ⟨List.Pairwise.nil, fun _ hm => (nomatch hm)⟩⟩, h2, h3, h4⟩

/-! ### rules over ANY heap (no ledger) from facts about the written part K: the library's own take a ledger (News) for what they write -/
section
variable {prog : Program} {w : World} {A : Around} {E : Value → Shared → Prop} {s : Shared} {K : Frag}

/-- a def of the module, or a method (qual 'C.m'), entered: the frame is the next address; cells behind it -/
theorem call_fn {R : Result → Shared → Prop} {name qual : Str} {params : Arguments} {body : List Stmt} {scope : Scope} {dV kV doc pm cdv ct oc : Value} {an od : Option Addr} {osl : Array (Option Value)} {f : Addr} {args : Args} {binds : List (Str × Value)}
    (X : K.In s.heap) (hlim : s.heap.NoLimit) (ho : K.lookup f = some ⟨oc, od, .func (fnOf name qual params body scope dV kV doc pm an cdv ct), osl⟩) (hcd : codeIn K cdv qual = true) (hroom : A.depth < recursionLimit)
    (hbind : BindsTo s (fnOf name qual params body scope dV kV doc pm an cdv ct) args binds)
    (hkind : (binds.all fun y => scope.names.lookup y.1 == some .local || scope.names.lookup y.1 == some .cell) = true)
    (h : ∀ s₁, InCallC s s.heap.objs.size (bindL (envOfC qual scope s.heap.objs.size f cdv).kindOf binds fun _ => none) (cellsFrom (s.heap.objs.size + 1) scope.names [])
        (bindC (envOfC qual scope s.heap.objs.size f cdv).kindOf binds fun _ => none) s₁ →
      wpAny (model prog w) (A.deeper (envOfC qual scope s.heap.objs.size f cdv)) (execs body (envOfC qual scope s.heap.objs.size f cdv))
        (fun fl s' => R (.ok (.ret (match fl with | .ret v => v | _ => .none))) s')
        (fun e s' => wpAny (model prog w) (A.deeper (envOfC qual scope s.heap.objs.size f cdv)) (leaving (envOfC qual scope s.heap.objs.size f cdv) e) (fun _ s'' => R (.error e) s'') (fun e' s'' => R (.error e') s'') s') s₁)
    (hco : scope.isCoroutine = false) (hgen : scope.isGenerator = false) (hk : scope.kind = .function) : codeAny (model prog w) A (.call (.ref f) args) R s := by
  refine codeAny_call_function hroom (X _ _ ho) rfl hco hgen rfl (codeRec_of X hcd) (hbind _ _ _ _ ?_)
  refine wpAny_newFunctionEnv_cells hk (kindsX hkind _) fun env he s₁ x => ?_
  subst he
  exact ⟨hlim.keeps x.toInCall.keep, codeAny_func (h s₁ x)⟩

/-- C(..): dict at size, instance at size + 1, then __init__ -/
theorem make_obj {R : Result → Shared → Prop} {C fI : Addr} {rest : List Value} {kw : List (Str × Value)}
    (X : K.In s.heap) (hm : makesIn K C = true) (hi : findIn K (.ref C) "__init__" = some (some (.ref fI))) (hf : isFn K (.ref fI) = true)
    (h : codeAny (model prog w) (A.under (.builtin "type.__call__" ⟨.ref C :: rest, kw⟩)) (.call (.ref fI) ⟨.ref (s.heap.objs.size + 1) :: rest, kw⟩) (InitBack (s.heap.objs.size + 1) R)
      { s with heap := (s.heap.push emptyDict).push (instObj C s.heap.objs.size) }) : codeAny (model prog w) A (.call (.ref C) ⟨rest, kw⟩) R s := by
  obtain ⟨hh, g, d, t, os⟩ := s
  exact make_core (makes_of X hm) (looks_findIn X hi) (fun self => bind_fn X self (beq_iff_eq.mp hf)) (.inl rfl) h

/-- x.name where the instance's dict holds the name and the class does not -/
theorem get_field {x C : Addr} {ox : Obj} {es : List DictEntry} {n : Nat} {name : Str} {expr : Bool} {v : Value} {Q : Value → Shared → Prop}
    (X : K.In s.heap) (I : PySem.W.InstAt s.heap x ox C (some (dictOf es n))) (hg : plainGet K C name = true) (hh : hasDictIn K C = true) (ha : findIn K (.ref C) name = some none)
    (hl : getL name es = some (some v)) (hv : handedIn v = true) (h : Q v { s with toks := s.toks + 1 }) : wpAny (model prog w) A (getAttr (.ref x) name expr) Q E s :=
  get_value X I (plainGet_of hg).1 (findObj_own hh ha rfl hl) hv h

/-- x.m(..): the method found in the class -/
theorem get_method {x C f : Addr} {ox : Obj} {es : List DictEntry} {n : Nat} {name : Str} {pl : Sem Bool} {Q : Value × List Value → Shared → Prop}
    (X : K.In s.heap) (I : PySem.W.InstAt s.heap x ox C (some (dictOf es n))) (hg : plainGet K C name = true) (hf : findIn K (.ref C) name = some (some (.ref f))) (ht : isFn K (.ref f) = true)
    (hl : getL name es = some none) (h : Q (.ref f, [.ref x]) s) : wpAny (model prog w) A (getMethod (.ref x) name pl) Q E s :=
  method_fn X I (plainGet_of hg).1 (plainGet_of hg).2 hf (beq_iff_eq.mp ht) (by show (lookIn name (dictOf es n)).map _ = _; rw [lookIn_dict, hl]; rfl) h

/-! the whole heap as the ledger: makes every rule that writes through a ledger a rule over any heap -/
def noObjs (h : Heap) : Heap := { h with objs := #[] }
theorem noObjs_get (h : Heap) (b : Addr) : (noObjs h).get? b = none := by
  cases e : (noObjs h).get? b with
  | none => rfl
  | some o => exact absurd (Heap.lt_size e) (Nat.not_lt_zero _)
def ledger (h : Heap) (L d : Addr) : List (Addr × Obj) := (List.range h.objs.size).filterMap fun a => if a = L ∨ a = d then none else (h.get? a).map fun o => (a, o)
theorem mem_ledger {h : Heap} {L d a : Addr} {o : Obj} : (a, o) ∈ ledger h L d ↔ a ≠ L ∧ a ≠ d ∧ h.get? a = some o := by
  unfold ledger
  rw [List.mem_filterMap]
  constructor
  · rintro ⟨b, _, e⟩
    split at e
    · cases e
    · rename_i hb
      obtain ⟨o', ho, e'⟩ := Option.map_eq_some_iff.mp e
      cases e'
      exact ⟨fun q => hb (.inl q), fun q => hb (.inr q), ho⟩
  · rintro ⟨n1, n2, ho⟩
    refine ⟨a, List.mem_range.mpr (Heap.lt_size ho), ?_⟩
    rw [if_neg (show ¬ (a = L ∨ a = d) from fun q => q.elim n1 n2), ho] <;> rfl
theorem news_ledger {h : Heap} {L d : Addr} {od : Obj} (hne : d ≠ L) (ho : h.get? d = some od) : News (noObjs h) L h ([] ++ (d, od) :: ledger h L d) := by
  rintro ⟨a, o⟩ hp
  rcases List.mem_cons.mp hp with e | hp
  · cases e
    exact ⟨ho, hne, noObjs_get _ _⟩
  · obtain ⟨n1, n2, e⟩ := mem_ledger.mp hp
    exact ⟨e, n1, noObjs_get _ _⟩
theorem fr_all {h : Heap} {L : Addr} {m : Str → Option Value} (n : h.Ns L m) : Fr (noObjs h) L h m :=
  ⟨n, fun b o e => (by rw [noObjs_get] at e; cases e), Nat.zero_le _⟩
/-- Upd of the head entry (for append_K, setItem_K ..) -/
theorem upd_ledger {h : Heap} {L d : Addr} {o o' : Obj} : Upd d o o' ((d, o) :: ledger h L d) ((d, o') :: ledger h L d) :=
  .head fun ⟨_, _⟩ hp => (mem_ledger.mp hp).2.1

/-- x.name = v over any heap: L is any namespace of the heap (the frame's, say): its map stays, its object is not told; all else but the dict stays -/
theorem set_field {x C dx L : Addr} {ox : Obj} {m : Str → Option Value} {es es' : List DictEntry} {n n' : Nat} {name : Str} {v : Value} {Q : Unit → Shared → Prop}
    (X : K.In s.heap) (I : PySem.W.InstAt s.heap x ox C (some (dictOf es n))) (hd : ox.dict = some dx) (hL : s.heap.Ns L m) (hne : dx ≠ L)
    (hs : findIn K (.ref C) "__setattr__" = some (some (.builtin "object.__setattr__"))) (hp : plainOver K C = true) (ht : takerIn K C name = some none) (hh : hasDictIn K C = true) (hl : (getL name es).isSome = true)
    (e : (putL name (PyData.keyHash w.params name) (.str name (s.toks + 1)) v es, putN name es n) = (es', n')) (hz : es'.length ≤ 1000)
    (h : ∀ h' : Heap, h'.Ns L m → h'.get? dx = some (dictOf es' n') → (∀ b o, b ≠ dx → b ≠ L → s.heap.get? b = some o → h'.get? b = some o) → Q () { s with heap := h', toks := s.toks + 2 }) :
    wpAny (model prog w) A (setAttr (.ref x) name v) Q E s := by
  obtain ⟨e1, e2⟩ := Prod.mk.inj e
  have hdx : s.heap.get? dx = some (dictOf es n) := by
    have := I.dict
    rw [hd] at this
    exact this
  refine set_plain X I hs (osa_dict (s := { s with toks := s.toks + 1 }) (h₀ := noObjs s.heap) (L := L) (m := m) (od := dictOf es n) (od' := dictOf es' n') (es := es') (n := n') (pre := []) (post := ledger s.heap L dx)
    (fr_all hL) (news_ledger hne hdx) X I hd hp ht hh hl (fun _ q => nomatch q) (fun ⟨_, _⟩ q => (mem_ledger.mp q).2.1) (by rw [putName_dict, e1, e2]) rfl hz fun h' F' N' => ?_)
  exact h h' F'.ns (N'.get (List.Mem.head _)) fun b o n1 n2 ho => N'.get (List.Mem.tail _ (mem_ledger.mpr ⟨n2, n1, ho⟩))
end
end Att

namespace L2
open PySem PySem.Spec PyProof.Rows

theorem vals_ints : ∀ {vs : List Value} {ns : List Int}, IntsAre vs ns → Vals (ns.map V.int) vs
  | _, _, .nil => .nil
  | _, _, .cons n t h => .cons ⟨t, rfl⟩ (vals_ints h)

/-- nothing is tracked but the script, known to the object (or it is an object of the module) -/
def Only (H : Hp) : Prop := ∀ b, H b = none ∨ ∃ o xs, H b = some (.frz o (.lst xs))

/-- THE HEAD: the law's promise, at the heap behind the top. F, the promise of the law's def, may use that base is part of the heap (so K.In base, base.Ns mainGlobals mg stand in Mod) -/
theorem law_call {P : Program} {w : World} {K : PySem.W.Frag} {mg mb : Str → Option Value} {CX : CXT} {k : Nat} {fa a : Addr} {fd : FuncData} {x : Str} {sp : Sp} {s₁ : Shared} {vs : List Value} {ns : List Int}
    (KX : K.In s₁.heap) (hns : s₁.heap.Ns mainGlobals mg) (hb : s₁.heap.Ns builtinsNs mb) (hbb : ∀ x : Str, x ≠ "__name__" → mb x = bootBuiltins x) (hlim : s₁.heap.NoLimit) (hg : s₁.gens = #[])
    (ha : s₁.heap.get? a = some { cls := .type "list", data := .seq vs.toArray }) (hi : IntsAre vs ns) (hl : ns.length ≤ sizeLine) (hr : Room k callerA)
    (F : ∀ base : Heap, K.In base → base.Ns mainGlobals mg → FnOk P w K mg base CX k fa fd [x] sp) (hbind : ∀ (s : Shared) (u : Value), BindsTo s fd ⟨[u], []⟩ [(x, u)])
    (hsp : ∀ H : Hp, Only H → SqL K H a (ns.map V.int) → sp [.ref a] H (fun v _ => v = .bl true) fun _ _ _ => False)
    (hCX : ∀ H e s', CX [] H s₁ (fun _ _ _ => False) e s' → False) :
    codeAny (model P w) callerA (.call (.ref fa) ⟨[.ref a], []⟩) (fun r s' => r = .ok (.ret (.bool true)) ∧ OldK s₁.heap s'.heap ∧ s'.os = s₁.os ∧ AllBare s'.gens) s₁ := by
  have rv := vals_ints hi
  have lenV := hi.length
  -- from an abstract heap in which nothing but the script may be tracked
  have core : ∀ H : Hp, Only H → SqL K H a (ns.map V.int) → HOk P w H s₁.heap → (∀ b, H b ≠ none → b = a) → (H a ≠ none → K.lookup a = none) →
      codeAny (model P w) callerA (.call (.ref fa) ⟨[.ref a], []⟩) (fun r s' => r = .ok (.ret (.bool true)) ∧ OldK s₁.heap s'.heap ∧ s'.os = s₁.os ∧ AllBare s'.gens) s₁ := by
    intro H hO hS hok hA hK
    have base_of : ∀ {b : Addr} {o : Obj}, s₁.heap.get? b = some o → H b = none → (hidT s₁.heap H).get? b = some o := fun e n => hidT_get e n
    have noA : ∀ {b : Addr} {o : Obj} {es : Array DictEntry} {ep : Nat}, s₁.heap.get? b = some o → o.data = .dict es ep → H b = none := fun {b o es ep} e d => by
      cases q : H b with
      | none => rfl
      | some u =>
        have e' : b = a := hA b (by rw [q]; simp)
        subst e'
        rw [ha] at e; cases e
        have d' : Data.seq vs.toArray _ = Data.dict es ep := d
        cases d'
    have nsK : ∀ {b : Addr} {m : Str → Option Value}, s₁.heap.Ns b m → (hidT s₁.heap H).Ns b m := fun {b m} ⟨o, es, ep, e, d, r⟩ => ⟨o, es, ep, base_of e (noA e d), d, r⟩
    have hKb : K.In (hidT s₁.heap H) := fun b o e => base_of (KX b o e) (by
      cases q : H b with
      | none => rfl
      | some u =>
        have e' : b = a := hA b (by rw [q]; simp)
        subst e'
        rw [hK (by rw [q]; simp)] at e; cases e)
    have hM : Mod K mg (hidT s₁.heap H) := ⟨hKb, nsK hns, ⟨mb, nsK hb, hbb⟩, let ⟨mc, h1, h2⟩ := hlim; ⟨mc, nsK h1, h2⟩⟩
    have e0 : Env0 P w K mg (hidT s₁.heap H) callerA [] s₁ H := ⟨rfl, hM, fun b o e => of_hidT e, Nat.le_of_eq (hidT_size _ _), trivial, fun b hb => absurd (show b ∈ ([] : List Addr) from hb) (by simp), hok, .of_eq hg⟩
    refine codeAny_mono ((F _ hKb (nsK hns)).run callerA [] s₁ H ⟨[.ref a], []⟩ [.ref a] [.ref a] _ _ hr e0 (hbind s₁ (.ref a)) (.cons rfl .nil) (hsp H hO hS)) fun r s' h => ?_
    cases r with
    | error e => exact (hCX H e s' h).elim
    | ok fl =>
      cases fl with
      | next => exact False.elim h
      | brk => exact False.elim h
      | cont => exact False.elim h
      | ret u =>
        obtain ⟨v, H', os, bare, un, hok', r', q⟩ := h
        have q' : v = .bl true := q
        subst q'
        obtain rfl : u = Value.bool true := r'
        refine ⟨rfl, OldK.of_keep fun b o e => ?_, os, bare⟩
        cases q : H b with
        | none => exact un.keep b o e q (by intro z; exact absurd (show b ∈ ([] : List Addr) from z) (by simp)) (by simp)
        | some u =>
          rcases hO b with z | ⟨ob, xs, z⟩
          · rw [q] at z; cases z
          · have z2 := un.frzs b ob _ z
            obtain ⟨e1, _⟩ := hok b _ z
            obtain ⟨e2, _⟩ := hok' b _ z2
            rw [e] at e1; cases e1
            exact e2
  cases hk : K.lookup a with
  | some o =>
    -- the script is one of the module's own objects
    have e := KX a o hk
    rw [ha] at e
    cases e
    refine core (fun _ => none) (fun _ => .inl rfl) (.inr ⟨_, vs.toArray, _, hk, rfl, rfl, rfl, by rw [List.size_toArray, lenV]; exact hl, by simpa using rv⟩) (fun b u z => by have z' : (none : Option HO) = some u := z; cases z') (fun b z => absurd rfl z) fun z => absurd rfl z
  | none =>
    refine core (fun b => if b = a then some (.frz { cls := .type "list", data := .seq vs.toArray } (.lst (ns.map V.int))) else none) (fun b => ?_) (.inl (.inr ⟨{ cls := .type "list", data := .seq vs.toArray }, if_pos rfl⟩)) (fun b u z => ?_) (fun b z => ?_) fun _ => hk
    · by_cases hb : b = a
      · exact .inr ⟨_, _, if_pos hb⟩
      · exact .inl (if_neg hb)
    · by_cases hb : b = a
      · have z' := (if_pos hb).symm.trans z
        cases z'
        subst hb
        exact ⟨ha, by rw [List.length_map]; exact hl, vs, _, rv, ha⟩
      · have z' := (if_neg hb).symm.trans z
        cases z'
    · by_cases hb : b = a
      · exact hb
      · exact absurd (if_neg hb) z
end L2

namespace L2
open PySem PySem.Spec PyProof.Rows

abbrev KOf {K : PySem.W.Frag} {h : Heap} (_ : K.In h) : PySem.W.Frag := K

/-- the goal that k_head leaves (case hc), from the law's promise. F gives the function object fd (K's own) once, then the promise over every base -/
theorem walk_of {l : PySem.W.OpenLaw} {n k : Nat} {q : Program} {loose : List Str} {XP : (Str → Option Value) → Heap → Prop} {YP : World → Heap → Prop} {d : DefRec} {K : Params → PySem.W.Frag} {CX : World → CXT} {sp : World → Sp} {x : Str}
    (hn : l.most = some n) (hn2 : n ≤ sizeLine) (hdf : d.params.defaults = []) (hr : Room k callerA)
    (hY : ∀ (w : World) (h : Heap), YP w h → (K w.params).In h)
    (F : ∀ (w : World) (mg : Str → Option Value) (fa : Addr) (h : Heap), (K w.params).In h → h.Ns mainGlobals mg → mg d.name = some (.ref fa) →
      ∃ fd : FuncData, (∀ (s : Shared) (u : Value), BindsTo s fd ⟨[u], []⟩ [(x, u)]) ∧
        ∀ base : Heap, (K w.params).In base → base.Ns mainGlobals mg → FnOk l.prog w (K w.params) mg base (CX w) k fa fd [x] (sp w))
    (hsp : ∀ (w : World) (H : Hp) (a : Addr) (ns : List Int), ns.length ≤ n → Only H → SqL (K w.params) H a (ns.map V.int) → sp w [.ref a] H (fun v _ => v = .bl true) fun _ _ _ => False)
    (hCX : ∀ (w : World) (H : Hp) (s : Shared) (e : Value) (s' : Shared), CX w [] H s (fun _ _ _ => False) e s' → False) :
    PySem.W.WalkO q loose XP YP l.row.toRowW d [] (fun f vs => PySem.call f vs) := by
  refine Att.attach_call hn hdf fun w s₀ s₁ mg mb fa o pm cd doc a vs ns G Y ho hd hcd hmg hobj hints hlen hg => ?_
  have KX := hY w _ Y
  obtain ⟨fd, hb, hF⟩ := F w mg fa _ KX G.T.g hmg
  exact law_call KX G.T.g G.T.b G.T.builtins G.T.nolimit hg hobj hints (Nat.le_trans hlen hn2) hr hF hb (fun H hO hS => hsp w H a ns hlen hO hS) fun H e s' => hCX w H s₁ e s'
/-- the same where the promise hangs on the written part alone: (sp := My.sp_law), no hole under a binder -/
theorem walk_ofK {l : PySem.W.OpenLaw} {n k : Nat} {q : Program} {loose : List Str} {XP : (Str → Option Value) → Heap → Prop} {YP : World → Heap → Prop} {d : DefRec} {K : Params → PySem.W.Frag} {CX : CXT} {sp : PySem.W.Frag → Sp} {x : Str}
    (hn : l.most = some n) (hn2 : n ≤ sizeLine) (hdf : d.params.defaults = []) (hr : Room k callerA)
    (hY : ∀ (w : World) (h : Heap), YP w h → (K w.params).In h)
    (F : ∀ (w : World) (mg : Str → Option Value) (fa : Addr) (h : Heap), (K w.params).In h → h.Ns mainGlobals mg → mg d.name = some (.ref fa) →
      ∃ fd : FuncData, (∀ (s : Shared) (u : Value), BindsTo s fd ⟨[u], []⟩ [(x, u)]) ∧
        ∀ base : Heap, (K w.params).In base → base.Ns mainGlobals mg → FnOk l.prog w (K w.params) mg base CX k fa fd [x] (sp (K w.params)))
    (hsp : ∀ (K : PySem.W.Frag) (H : Hp) (a : Addr) (ns : List Int), ns.length ≤ n → Only H → SqL K H a (ns.map V.int) → sp K [.ref a] H (fun v _ => v = .bl true) fun _ _ _ => False)
    (hCX : ∀ (H : Hp) (s : Shared) (e : Value) (s' : Shared), CX [] H s (fun _ _ _ => False) e s' → False) :
    PySem.W.WalkO q loose XP YP l.row.toRowW d [] (fun f vs => PySem.call f vs) :=
  walk_of (K := K) (CX := fun _ => CX) (sp := fun w => sp (K w.params)) hn hn2 hdf hr hY F (fun w H a ns h1 h2 h3 => hsp (K w.params) H a ns h1 h2 h3) fun _ H s e s' => hCX H s e s'
end L2



/-! SHORT WORDS over the layer: a def of the text, its body, what a loop and a test want. -/
namespace L2
open PySem PySem.Spec PyProof.Rows

/-! ### the text by places -/
/-- the j-th statement of a class's body -/
def inClass (s : Stmt) (j : Nat) : Stmt := match s with
  | .ClassDef _ _ _ body _ _ _ _ _ _ _ => body.getD j (.Pass ⟨0, 0, 0, 0⟩)
  | _ => .Pass ⟨0, 0, 0, 0⟩
def defArgs (s : Stmt) : Arguments := match s with
  | .FunctionDef _ a _ _ _ _ _ _ _ _ => a
  | _ => { posonlyargs := [], args := [], vararg := none, kwonlyargs := [], kw_defaults := [], kwarg := none, defaults := [] }
def defBody (s : Stmt) : List Stmt := match s with
  | .FunctionDef _ _ b _ _ _ _ _ _ _ => b
  | _ => []
def defScope (s : Stmt) : Scope := match s with
  | .FunctionDef _ _ _ _ _ _ sc _ _ _ => sc
  | _ => { kind := .function, names := [], isGenerator := false, isCoroutine := false }

/-! ### no exception leaves a def -/
abbrev CX0 : CXT := fun _ _ _ _ _ _ => False
abbrev E0 : XK := fun _ _ _ => False
theorem pass0 {X : Cx} : Passes CX0 X E0 := fun _ _ _ _ _ _ _ h => h.elim

/-! ### a def (or method) of the text as it stands behind the top -/
structure Fun (K : PySem.W.Frag) (x qual : Str) (st : Stmt) (f : Addr) (fd : FuncData) : Prop where
  ex : ∃ (oc : Value) (od : Option Addr) (kV doc pm : Value) (an : Option Addr) (cdv ct : Value) (osl : Array (Option Value)),
    fd = PySem.W.fnOf x qual (defArgs st) (defBody st) (defScope st) .none kV doc pm an cdv ct ∧ K.lookup f = some ⟨oc, od, .func fd, osl⟩ ∧ PySem.W.codeIn K cdv qual = true
  kp : PySem.W.keepIn K (.ref f) = true
section
variable {P : Program} {w : World} {K : PySem.W.Frag} {mg : Str → Option Value} {base : Heap}
/-- THE RULE for a def: its body as a term of rules, and the reading of that term -/
theorem Fun.ok {x qual : Str} {st : Stmt} {f : Addr} {fd : FuncData} {N ps : List Str} {k : Nat} {sp : Sp} (F : Fun K x qual st f fd) (S : FnScope N ps (defScope st)) (len : ∀ vs H Q E, sp vs H Q E → vs.length = ps.length)
    (hbody : ∀ (cdv : Value) (A : Around) (outer : List Env) (s : Shared) (H : Hp) (vs : List V) (Q : VK) (E : XK), Room k (A.deeper (envOfC qual (defScope st) s.heap.objs.size f cdv)) → sp vs H Q E →
      ∃ t, PSs (cxOf CX0 P w K mg base N qual (defScope st) f cdv A outer s H E).nox (defBody st) t ∧ t { nx := fun _ H' => Q .non H', rt := Q } (start N vs) H) : FnOk P w K mg base CX0 (k + 1) f fd ps sp := by
  obtain ⟨oc, od, kV, doc, pm, an, cdv, ct, osl, rfl, lk, hcd⟩ := F.ex
  refine fn_of lk hcd S len fun A outer s H vs Q E hr hsp => ?_
  obtain ⟨t, h, q⟩ := hbody cdv A outer s H vs Q E hr hsp
  exact ⟨t, h.nox, q⟩
/-- how its arguments bind (no defaults): h is «fun _ _ _ _ _ _ us hl => match us, hl with | [_, _], _ => rfl», one _ a parameter -/
theorem Fun.binds {x qual : Str} {st : Stmt} {f : Addr} {fd : FuncData} {ps : List Str} (F : Fun K x qual st f fd)
    (h : ∀ (kV doc pm : Value) (an : Option Addr) (cdv ct : Value) (us : List Value), us.length = ps.length → bindArgs (PySem.W.fnOf x qual (defArgs st) (defBody st) (defScope st) .none kV doc pm an cdv ct) ⟨us, []⟩ = pure (ps.zip us)) : Binds K fd ps [] := by
  obtain ⟨oc, od, kV, doc, pm, an, cdv, ct, osl, rfl, lk, hcd⟩ := F.ex
  exact .all (h kV doc pm an cdv ct)
theorem fun_mk {x qual : Str} {st : Stmt} {f : Addr} {oc : Value} {od an : Option Addr} {osl : Array (Option Value)} {kV doc pm cdv ct : Value} (l : K.lookup f = some ⟨oc, od, .func (PySem.W.fnOf x qual (defArgs st) (defBody st) (defScope st) .none kV doc pm an cdv ct), osl⟩)
    (c : PySem.W.codeIn K cdv qual = true) (k : PySem.W.keepIn K (.ref f) = true) : Fun K x qual st f (PySem.W.fnOf x qual (defArgs st) (defBody st) (defScope st) .none kV doc pm an cdv ct) := ⟨⟨oc, od, kV, doc, pm, an, cdv, ct, osl, rfl, l, c⟩, k⟩
end
theorem hu_of {A : Around} {k : Nat} (hr : Room k A) : A.units + 1 < cLine := Nat.lt_of_le_of_lt (Nat.add_le_add_left (by decide : 1 ≤ 64) _) hr.units
theorem small1000 {n : Nat} (h : n ≤ 1000) : n < sizeLine := Nat.lt_of_le_of_lt h (by decide)

/-! ### expressions in short: the name that stands in the i-th slot -/
section
variable {X : Cx}
theorem pv (i : Nat) {x : Str} {pos : Pos} (hN : X.N[i]? = some x := by rfl) (hv : Vis X.env.scope x := by first | exact Or.inl rfl | exact Or.inr (Or.inl rfl) | exact Or.inr (Or.inr rfl)) (hd : (x == ("__debug__" : Str)) = false := by decide)
    (hcd : (x == ("__classdict__" : Str)) = false := by decide) : PE X (.Name x pos) (tVar i) := pe_var hN hv hd hcd
end

/-! ### tests -/
theorem iteF {A B : Prop} (h : B) : if false = true then A else B := by
  rw [if_neg Bool.false_ne_true]
  exact h
theorem iteT {A B : Prop} (h : A) : if true = true then A else B := by
  rw [if_pos rfl]
  exact h
theorem ite2 {c A B : Prop} [Decidable c] (h1 : c → A) (h2 : ¬ c → B) : if c then A else B := by
  by_cases h : c
  · rw [if_pos h]
    exact h1 h
  · rw [if_neg h]
    exact h2 h
theorem iteNS {c A B : Prop} [Decidable c] (hc : c) (h : B) : if (!decide c) = true then A else B := by
  rw [decide_eq_true hc]
  exact iteF h

/-! ### heaps -/
/-- all that was tracked is as it was -/
def Same (H H' : Hp) : Prop := ∀ b o, H b = some o → H' b = some o
theorem Same.refl (H : Hp) : Same H H := fun _ _ h => h
theorem Same.trans {H H1 H2 : Hp} (a : Same H H1) (b : Same H1 H2) : Same H H2 := fun c o h => b c o (a c o h)
theorem Same.free {H H' : Hp} (e : Same H H') {l : Addr} (h : H' l = Option.none) : H l = Option.none := by
  cases q : H l with
  | none => rfl
  | some o =>
    rw [e l o q] at h
    cases h
theorem Same.seq {K : PySem.W.Frag} {H H' : Hp} {a : Addr} {xs : List V} (e : Same H H') (h : SqL K H a xs) : SqL K H' a xs := by
  rcases h with (h | ⟨o, h⟩) | h
  · exact .inl (.inl (e _ _ h))
  · exact .inl (.inr ⟨o, e _ _ h⟩)
  · exact .inr h

end L2

namespace L2
open PySem PySem.Spec PyProof.Rows

/-! ### lists of pairs as tables -/
section
variable {κ : Type} [DecidableEq κ]
def valV (kvs : List (κ × V)) (k : κ) : Option V := (kvs.find? fun kv => decide (kv.1 = k)).map (·.2)
/-- in its place, or at the end -/
def putK (kvs : List (κ × V)) (k : κ) (v : V) : List (κ × V) :=
  if (kvs.any fun kv => decide (kv.1 = k)) = true then kvs.map (fun kv => if kv.1 = k then (kv.1, v) else kv) else kvs ++ [(k, v)]
def dropK (kvs : List (κ × V)) (k : κ) : List (κ × V) := kvs.filter fun kv => decide (kv.1 ≠ k)

theorem valV_nil {k : κ} : valV ([] : List (κ × V)) k = none := rfl
theorem valV_pos {p : κ × V} {r : List (κ × V)} {k : κ} (e : p.1 = k) : valV (p :: r) k = some p.2 := by simp [valV, List.find?_cons, e]
theorem valV_neg {p : κ × V} {r : List (κ × V)} {k : κ} (e : ¬ p.1 = k) : valV (p :: r) k = valV r k := by simp [valV, List.find?_cons, e]
theorem valV_any (k : κ) : ∀ kvs : List (κ × V), (kvs.any fun kv => decide (kv.1 = k)) = (valV kvs k).isSome
  | [] => rfl
  | p :: r => by
    rw [List.any_cons]
    by_cases e : p.1 = k
    · simp only [valV_pos e, decide_eq_true e, Bool.true_or, Option.isSome_some]
    · rw [valV_neg e, decide_eq_false e, Bool.false_or]; exact valV_any k r
theorem valV_map (k j : κ) (y : V) : ∀ kvs : List (κ × V), valV (kvs.map fun kv => if kv.1 = k then (kv.1, y) else kv) j = (valV kvs j).map fun x => if j = k then y else x
  | [] => rfl
  | p :: r => by
    have ih := valV_map k j y r
    rw [List.map_cons]
    by_cases h : p.1 = k
    · rw [if_pos h]
      by_cases e : p.1 = j
      · rw [valV_pos (p := (p.1, y)) e, valV_pos e, Option.map_some, if_pos (e.symm.trans h)]
      · rw [valV_neg (p := (p.1, y)) e, valV_neg e, ih]
    · rw [if_neg h]
      by_cases e : p.1 = j
      · rw [valV_pos (p := p) e, valV_pos e, Option.map_some, if_neg (fun z => h (e.trans z))]
      · rw [valV_neg (p := p) e, valV_neg e, ih]
theorem valV_snoc (k j : κ) (y : V) : ∀ kvs : List (κ × V), valV kvs k = none → valV (kvs ++ [(k, y)]) j = if j = k then some y else valV kvs j
  | [], _ => by
    by_cases e : k = j
    · rw [if_pos e.symm]; exact valV_pos (p := (k, y)) e
    · rw [if_neg (fun z => e z.symm)]; exact valV_neg (p := (k, y)) e
  | p :: r, hn => by
    rw [List.cons_append]
    have hk : ¬ p.1 = k := fun z => by rw [valV_pos z] at hn; cases hn
    rw [valV_neg hk] at hn
    have ih := valV_snoc k j y r hn
    by_cases e : p.1 = j
    · rw [valV_pos e, valV_pos e, if_neg (fun z => hk (e.trans z))]
    · rw [valV_neg e, valV_neg e, ih]
theorem valV_put (kvs : List (κ × V)) (k j : κ) (y : V) : valV (putK kvs k y) j = if j = k then some y else valV kvs j := by
  unfold putK
  by_cases a : (kvs.any fun kv => decide (kv.1 = k)) = true
  · rw [if_pos a, valV_map]
    rw [valV_any] at a
    by_cases e : j = k
    · obtain ⟨x, hx⟩ := Option.isSome_iff_exists.mp a
      rw [if_pos e, e, hx, Option.map_some, if_pos rfl]
    · rw [if_neg e]
      cases valV kvs j with
      | none => rfl
      | some x => rw [Option.map_some, if_neg e]
  · rw [if_neg a]
    refine valV_snoc k j y kvs ?_
    rw [valV_any] at a
    cases q : valV kvs k with
    | none => rfl
    | some x => rw [q] at a; exact (a rfl).elim
theorem length_putK (kvs : List (κ × V)) (k : κ) (v : V) : (putK kvs k v).length ≤ kvs.length + 1 := by
  unfold putK
  split
  · rw [List.length_map]; omega
  · rw [List.length_append, List.length_cons, List.length_nil]; omega
theorem putK_new {kvs : List (κ × V)} {k : κ} (v : V) (h : valV kvs k = none) : putK kvs k v = kvs ++ [(k, v)] := by
  unfold putK
  rw [valV_any, h]
  exact if_neg (by decide)

theorem RelO.isSome_eq {o : Option V} {u : Option Value} (r : RelO o u) : o.isSome = u.isSome := by
  cases o with
  | none => cases u with
    | none => rfl
    | some _ => exact (show False from r).elim
  | some _ => cases u with
    | none => exact (show False from r).elim
    | some _ => rfl
theorem RelO.getD {o : Option V} {u : Option Value} {d : V} {d' : Value} (r : RelO o u) (rd : RelV d d') : RelV (o.getD d) (u.getD d') := by
  cases o with
  | none => cases u with
    | none => exact rd
    | some _ => exact (show False from r).elim
  | some _ => cases u with
    | none => exact (show False from r).elim
    | some _ => exact r

/-- raw tables of the same keys -/
theorem KV.val {kvs : List (κ × V)} {vs : List (κ × Value)} (r : KV kvs vs) (k : κ) : RelO (valV kvs k) (valueAt vs k) := by
  unfold KV at r
  induction r with
  | nil => exact True.intro
  | @cons p q ps qs h t ih =>
    obtain ⟨h1, h2⟩ := h
    by_cases e : p.1 = k
    · have e' : q.1 = k := h1.symm.trans e
      have b : valueAt (q :: qs) k = some q.2 := by simp [valueAt, List.find?_cons, e']
      rw [valV_pos e, b]; exact h2
    · have e' : ¬ q.1 = k := fun z => e (h1.trans z)
      have b : valueAt (q :: qs) k = valueAt qs k := by simp [valueAt, List.find?_cons, e']
      rw [valV_neg e, b]; exact ih
theorem KV.any {kvs : List (κ × V)} {vs : List (κ × Value)} (r : KV kvs vs) (k : κ) : (kvs.any fun kv => decide (kv.1 = k)) = vs.any fun kv => decide (kv.1 = k) := by
  unfold KV at r
  induction r with
  | nil => rfl
  | cons h t ih => rw [List.any_cons, List.any_cons, ih, h.1]
theorem KV.repl {kvs : List (κ × V)} {vs : List (κ × Value)} (r : KV kvs vs) (k : κ) {y : V} {u : Value} (ry : RelV y u) :
    KV (kvs.map fun kv => if kv.1 = k then (kv.1, y) else kv) (vs.map fun kv => if kv.1 = k then (kv.1, u) else kv) := by
  unfold KV at r ⊢
  induction r with
  | nil => exact .nil
  | @cons p q ps qs h t ih =>
    rw [List.map_cons, List.map_cons]
    refine .cons ?_ ih
    obtain ⟨h1, h2⟩ := h
    by_cases e : p.1 = k
    · rw [if_pos e, if_pos (h1.symm.trans e)]; exact ⟨h1, ry⟩
    · rw [if_neg e, if_neg (fun z => e (h1.trans z))]; exact ⟨h1, h2⟩
theorem KV.put {kvs : List (κ × V)} {vs : List (κ × Value)} (r : KV kvs vs) (k : κ) {y : V} {u : Value} (ry : RelV y u) : KV (putK kvs k y) (stored vs k u) := by
  unfold putK stored
  rw [r.any k]
  by_cases e : (vs.any fun kv => decide (kv.1 = k)) = true
  · rw [if_pos e, if_pos e]; exact r.repl k ry
  · rw [if_neg e, if_neg e]; exact Paired.snoc r ⟨rfl, ry⟩
theorem KV.drop {kvs : List (κ × V)} {vs : List (κ × Value)} (r : KV kvs vs) (k : κ) : KV (dropK kvs k) (without vs k) := by
  unfold KV at r ⊢
  unfold dropK without
  induction r with
  | nil => exact .nil
  | @cons p q ps qs h t ih =>
    obtain ⟨h1, h2⟩ := h
    rw [List.filter_cons, List.filter_cons]
    by_cases e : p.1 = k
    · have a : ¬ decide (p.1 ≠ k) = true := by simp [e]
      have b : ¬ decide (q.1 ≠ k) = true := by simp [h1.symm.trans e]
      rw [if_neg a, if_neg b]; exact ih
    · have e' : ¬ q.1 = k := fun z => e (h1.trans z)
      have a : decide (p.1 ≠ k) = true := by simp [e]
      have b : decide (q.1 ≠ k) = true := by simp [e']
      rw [if_pos a, if_pos b]; exact .cons ⟨h1, h2⟩ ih
theorem KV.keys {kvs : List (κ × V)} {vs : List (κ × Value)} (r : KV kvs vs) : kvs.map (·.1) = vs.map (·.1) := by
  unfold KV at r
  induction r with
  | nil => rfl
  | cons h t ih => rw [List.map_cons, List.map_cons, ih, h.1]
theorem KV.length {kvs : List (κ × V)} {vs : List (κ × Value)} (r : KV kvs vs) : kvs.length = vs.length := Paired.length r
theorem dropK_le (kvs : List (κ × V)) (k : κ) : (dropK kvs k).length ≤ kvs.length := List.length_filter_le _ _
end


/-! ### a tracked dict, its keys ints and texts or tuples of these -/
theorem kV_is {P : Program} {w : World} {k : Key} {u : Value} (r : RelV (kV k) u) : (mixKind P w).is k u = true := by
  cases k with
  | inl i => obtain ⟨t, e⟩ := (show ∃ t, u = Value.int i t from r); subst e; exact mixKind_int P w i t
  | inr x => obtain ⟨t, e⟩ := (show ∃ t, u = Value.str x t from r); subst e; exact mixKind_str P w x t
theorem kV_inj {a b : Key} (e : kV a = kV b) : a = b := by
  cases a with
  | inl i => cases b with
    | inl j => have e' : V.int i = V.int j := e; injection e' with e'; rw [e']
    | inr y => exact nomatch (show V.int i = V.str y from e)
  | inr x => cases b with
    | inl j => exact nomatch (show V.str x = V.int j from e)
    | inr y => have e' : V.str x = V.str y := e; injection e' with e'; rw [e']
theorem kVs_inj : ∀ {a b : List Key}, a.map kV = b.map kV → a = b
  | [], [], _ => rfl
  | [], _ :: _, e => by simp at e
  | _ :: _, [], e => by simp at e
  | x :: xs, y :: ys, e => by
    rw [List.map_cons, List.map_cons] at e
    injection e with e1 e2
    rw [kV_inj e1, kVs_inj e2]
theorem items_are {P : Program} {w : World} : ∀ {ks : List Key} {us : List Value}, Vals (ks.map kV) us → ItemsAre (mixKind P w) ks us
  | [], _, r => by rw [List.map_nil] at r; cases r; exact .nil
  | k :: ks, _, r => by
    rw [List.map_cons] at r
    cases r with
    | cons h t => exact .cons (kV_is h) (items_are t)

/-- raw entries of a dict with tuple keys -/
abbrev KT (H : Hp) : List (List Key × V) → List (List Key × Addr × Value) → Prop := Paired fun p q => p.1 = q.1 ∧ H q.2.1 = some (.tup (p.1.map kV)) ∧ RelV p.2 q.2.2
theorem KT.val {H : Hp} {kvs : List (List Key × V)} {xs : List (List Key × Addr × Value)} (r : KT H kvs xs) (k : List Key) : RelO (valV kvs k) ((atKey xs k).map (·.2)) := by
  induction r with
  | nil => exact True.intro
  | @cons p q ps qs h t ih =>
    obtain ⟨h1, _, h2⟩ := h
    by_cases e : p.1 = k
    · have e' : q.1 = k := h1.symm.trans e
      have b : atKey (q :: qs) k = some q.2 := by simp [atKey, List.find?_cons, e']
      rw [valV_pos e, b]; exact h2
    · have e' : ¬ q.1 = k := fun z => e (h1.trans z)
      have b : atKey (q :: qs) k = atKey qs k := by simp [atKey, List.find?_cons, e']
      rw [valV_neg e, b]; exact ih
theorem KT.repl {H : Hp} {kvs : List (List Key × V)} {xs : List (List Key × Addr × Value)} (r : KT H kvs xs) (k : List Key) {y : V} {u : Value} (ry : RelV y u) :
    KT H (kvs.map fun kv => if kv.1 = k then (kv.1, y) else kv) (xs.map (putAt k u)) := by
  induction r with
  | nil => exact .nil
  | @cons p q ps qs h t ih =>
    rw [List.map_cons, List.map_cons]
    refine .cons ?_ ih
    obtain ⟨h1, h2, h3⟩ := h
    unfold putAt
    by_cases e : p.1 = k
    · rw [if_pos e, if_pos (h1.symm.trans e)]; exact ⟨h1, h2, ry⟩
    · rw [if_neg e, if_neg (fun z => e (h1.trans z))]; exact ⟨h1, h2, h3⟩
theorem KT.put {H : Hp} {kvs : List (List Key × V)} {xs : List (List Key × Addr × Value)} (r : KT H kvs xs) (k : List Key) {b : Addr} {y : V} {u : Value} (hb : H b = some (.tup (k.map kV))) (ry : RelV y u) :
    KT H (putK kvs k y) (storedH xs k b u) := by
  have e : (kvs.any fun kv => decide (kv.1 = k)) = (atKey xs k).isSome := by
    rw [valV_any, (r.val k).isSome_eq, Option.isSome_map]
  unfold putK storedH
  rw [e]
  by_cases q : (atKey xs k).isSome = true
  · rw [if_pos q, if_pos q]; exact r.repl k ry
  · rw [if_neg q, if_neg q]; exact Paired.snoc r ⟨rfl, hb, ry⟩
theorem KT.keeps {H H' : Hp} {kvs : List (List Key × V)} {xs : List (List Key × Addr × Value)} (r : KT H kvs xs) (ht : ∀ b ys, H b = some (.tup ys) → H' b = some (.tup ys)) : KT H' kvs xs :=
  Paired.mapP r fun _ _ z => ⟨z.1, ht _ _ z.2.1, z.2.2⟩

section
variable {P : Program} {w : World} {H : Hp} {h : Heap} {a : Addr}
theorem rd_of {u : HO} (ok : HOk P w H h) (e : Rd H a u) : ObjOk P w H h a u := e.ok ok
theorem dk_rd {kvs : List (Key × V)} (ok : HOk P w H h) (e : Rd H a (.dK kvs)) : kvs.length ≤ sizeLine ∧ (a == sysModules) = false ∧ ∃ vs, KV kvs vs ∧ h.DictOf (mixKind P w) a vs :=
  show ObjOk P w H h a (.dK kvs) from rd_of ok e
theorem dk_of {kvs : List (Key × V)} (ok : HOk P w H h) (e : H a = some (.dK kvs)) : kvs.length ≤ sizeLine ∧ (a == sysModules) = false ∧ ∃ vs, KV kvs vs ∧ h.DictOf (mixKind P w) a vs := dk_rd ok (.inl e)
/-- a tracked tuple of ints and texts is a key -/
theorem key_of {ks : List Key} (ok : HOk P w H h) (e : H a = some (.tup (ks.map kV))) : (tupleKind (mixKind P w)).is h ks a := by
  obtain ⟨_, its, r, o, h1, h2, n, h3⟩ := (show ObjOk P w H h a (.tup (ks.map kV)) from ok a _ e)
  exact ⟨o, its.toArray, n, h1, h2, h3, by simpa using items_are r⟩
theorem dt_rd {kvs : List (List Key × V)} (ok : HOk P w H h) (e : Rd H a (.dT kvs)) : kvs.length ≤ sizeLine ∧ (a == sysModules) = false ∧
    ∃ xs, KT H kvs xs ∧ h.DictOfH (tupleKind (mixKind P w)) a xs := by
  obtain ⟨z, y, xs, r, o, es, ep, h1, h2, h3, h4, h5⟩ := (show ObjOk P w H h a (.dT kvs) from rd_of ok e)
  refine ⟨z, y, xs, r, o, es, ep, h1, h2, h3, h4, fun x hx => ?_, h5⟩
  have all : ∀ {l : List (List Key × V)} {m : List (List Key × Addr × Value)}, KT H l m → ∀ x ∈ m, (tupleKind (mixKind P w)).is h x.1 x.2.1 := by
    intro l m q
    induction q with
    | nil => intro x hx; exact nomatch hx
    | @cons p q ps qs hq t ih =>
      intro x hx
      rcases List.mem_cons.mp hx with e | hx
      · subst e
        exact key_of ok (by rw [← hq.1]; exact hq.2.1)
      · exact ih x hx
  exact all r x hx
theorem dt_of {kvs : List (List Key × V)} (ok : HOk P w H h) (e : H a = some (.dT kvs)) : kvs.length ≤ sizeLine ∧ (a == sysModules) = false ∧
    ∃ xs, KT H kvs xs ∧ h.DictOfH (tupleKind (mixKind P w)) a xs := dt_rd ok (.inl e)
end

/-- what the dict at a holds at the key y -/
def DGet (H : Hp) (a : Addr) (y : V) (r : Option V) : Prop :=
  (∃ kvs k, Rd H a (.dK kvs) ∧ y = kV k ∧ r = valV kvs k) ∨ ∃ kvs k b, Rd H a (.dT kvs) ∧ y = .ref b ∧ H b = some (.tup (k.map kV)) ∧ r = valV kvs k
/-- the heap behind a[y] = v -/
def DPut (H : Hp) (a : Addr) (y v : V) (H' : Hp) : Prop :=
  (∃ kvs k, H a = some (.dK kvs) ∧ y = kV k ∧ kvs.length < sizeLine ∧ H' = upd H a (.dK (putK kvs k v))) ∨
  ∃ kvs k b, H a = some (.dT kvs) ∧ y = .ref b ∧ H b = some (.tup (k.map kV)) ∧ kvs.length < sizeLine ∧ H' = upd H a (.dT (putK kvs k v))
theorem DGet.k {H : Hp} {a : Addr} {kvs : List (Key × V)} {k : Key} (e : H a = some (.dK kvs)) : DGet H a (kV k) (valV kvs k) := .inl ⟨kvs, k, .inl e, rfl, rfl⟩
theorem DGet.t {H : Hp} {a b : Addr} {kvs : List (List Key × V)} {k : List Key} (e : H a = some (.dT kvs)) (eb : H b = some (.tup (k.map kV))) : DGet H a (.ref b) (valV kvs k) := .inr ⟨kvs, k, b, .inl e, rfl, eb, rfl⟩
theorem DPut.k {H : Hp} {a : Addr} {kvs : List (Key × V)} {k : Key} {v : V} (e : H a = some (.dK kvs)) (hl : kvs.length < sizeLine) : DPut H a (kV k) v (upd H a (.dK (putK kvs k v))) := .inl ⟨kvs, k, e, rfl, hl, rfl⟩
theorem DPut.t {H : Hp} {a b : Addr} {kvs : List (List Key × V)} {k : List Key} {v : V} (e : H a = some (.dT kvs)) (eb : H b = some (.tup (k.map kV))) (hl : kvs.length < sizeLine) :
    DPut H a (.ref b) v (upd H a (.dT (putK kvs k v))) := .inr ⟨kvs, k, b, e, rfl, eb, hl, rfl⟩


section
variable {X : Cx} {pins : List (Addr × Obj)} {σ : St} {H : Hp} {s : Shared} {a : Addr} {y v : V} {u r : Value} {o : Option V} {A : Around} {E : Value → Shared → Prop}

theorem Inv.big (I : Inv X pins σ H s) : sysModules < s.heap.objs.size := by
  have h : mainGlobals < s.heap.objs.size := (I.mod.glob.keeps I.bk).lt
  exact Nat.lt_trans (by decide) h

/-- d[y], there -/
theorem d_getItem {Q : Value → Shared → Prop} (hu : A.units + 1 < cLine) (I : Inv X pins σ H s) (g : DGet H a y (some v)) (ry : RelV y u) (h : ∀ w' s', Inv X pins σ H s' → RelV v w' → Q w' s') :
    wpAny (model X.prog X.w) A (getItem (.ref a) u) Q E s := by
  rcases g with ⟨kvs, k, e, ey, l⟩ | ⟨kvs, k, b, e, ey, eb, l⟩
  · subst ey
    obtain ⟨z, hd, vs, rel, dd⟩ := dk_rd I.hok e
    obtain ⟨w', hw, rw'⟩ := RelO.some_of (v := v) (o := valueAt vs k) (by rw [l]; exact rel.val k)
    exact wpAny_getItem_of (kV_is ry) dd.mapOf hw (h w' _ (I.tok _) rw')
  · subst ey
    cases (show u = Value.ref b from ry)
    obtain ⟨z, hd, xs, rel, dd⟩ := dt_rd I.hok e
    obtain ⟨w', hw, rw'⟩ := RelO.some_of (v := v) (o := (atKey xs k).map (·.2)) (by rw [l]; exact rel.val k)
    obtain ⟨p, hp, hp2⟩ := Option.map_eq_some_iff.mp hw
    refine wpAny_getItem_heap (tupleKind_room_in1 hu) (key_of I.hok eb) dd hp ?_
    rw [hp2]
    exact h w' _ (I.tok _) rw'
/-- y in d -/
theorem d_in {Q : Value → Shared → Prop} (hu : A.units + 1 < cLine) (I : Inv X pins σ H s) (g : DGet H a y o) (ry : RelV y u) (h : ∀ s', Inv X pins σ H s' → Q (.bool o.isSome) s') :
    wpAny (model X.prog X.w) A (compareOp .In u (.ref a)) Q E s := by
  rcases g with ⟨kvs, k, e, ey, l⟩ | ⟨kvs, k, b, e, ey, eb, l⟩
  · subst ey
    obtain ⟨z, hd, vs, rel, dd⟩ := dk_rd I.hok e
    refine wpAny_in_of (kV_is ry) hd dd.mapOf ?_
    rw [← (rel.val k).isSome_eq, ← l]
    exact h _ (I.tok _)
  · subst ey
    cases (show u = Value.ref b from ry)
    obtain ⟨z, hd, xs, rel, dd⟩ := dt_rd I.hok e
    refine wpAny_in_heap (tupleKind_room_in1 hu) (key_of I.hok eb) hd dd ?_
    have q := (rel.val k).isSome_eq
    rw [Option.isSome_map] at q
    rw [← q, ← l]
    exact h _ (I.tok _)
theorem d_notIn {Q : Value → Shared → Prop} (hu : A.units + 1 < cLine) (I : Inv X pins σ H s) (g : DGet H a y o) (ry : RelV y u) (h : ∀ s', Inv X pins σ H s' → Q (.bool (!o.isSome)) s') :
    wpAny (model X.prog X.w) A (compareOp .NotIn u (.ref a)) Q E s := by
  rcases g with ⟨kvs, k, e, ey, l⟩ | ⟨kvs, k, b, e, ey, eb, l⟩
  · subst ey
    obtain ⟨z, hd, vs, rel, dd⟩ := dk_rd I.hok e
    refine wpAny_notIn_of (kV_is ry) hd dd.mapOf ?_
    rw [← (rel.val k).isSome_eq, ← l]
    exact h _ (I.tok _)
  · subst ey
    cases (show u = Value.ref b from ry)
    obtain ⟨z, hd, xs, rel, dd⟩ := dt_rd I.hok e
    refine wpAny_notIn_heap (tupleKind_room_in1 hu) (key_of I.hok eb) hd dd ?_
    have q := (rel.val k).isSome_eq
    rw [Option.isSome_map] at q
    rw [← q, ← l]
    exact h _ (I.tok _)
/-- a dict's object is replaced -/
theorem d_write {h' : Heap} {t' : Nat} {ob : HO} (I : Inv X pins σ H s) (mu : Mut (H a)) (hs : Heap.SameBut a s.heap h') (he : ∃ q, h'.get? a = some q) (new : ObjOk X.prog X.w (upd H a ob) h' a ob) :
    Inv X pins σ (upd H a ob) { s with heap := h', toks := t' } :=
  I.write (x := a) (e := a) mu (.inl rfl) (fun b q hb z => (hs.2 b hb).trans z) he new
theorem dk_new {P : Program} {w : World} {H' : Hp} {h' : Heap} {kvs : List (Key × V)} {vs : List (Key × Value)} (z : kvs.length ≤ sizeLine) (hd : (a == sysModules) = false) (rel : KV kvs vs) (dd : h'.DictOf (mixKind P w) a vs) :
    ObjOk P w H' h' a (.dK kvs) := ⟨z, hd, vs, rel, dd⟩
/-- d[y] = v -/
theorem d_setItem {H' : Hp} {Q : Unit → Shared → Prop} (hu : A.units + 1 < cLine) (I : Inv X pins σ H s) (g : DPut H a y v H') (ry : RelV y u) (rv : RelV v r) (h : ∀ s', Inv X pins σ H' s' → Q () s') :
    wpAny (model X.prog X.w) A (setItem (.ref a) u r) Q E s := by
  rcases g with ⟨kvs, k, e, ey, l, eH⟩ | ⟨kvs, k, b, e, ey, eb, l, eH⟩
  · subst ey eH
    obtain ⟨z, hd, vs, rel, dd⟩ := dk_of I.hok e
    have hz : vs.length ≤ sizeLine := by rw [← rel.length]; exact z
    have hl : (putK kvs k v).length ≤ sizeLine := by have := length_putK kvs k v; omega
    refine wpAny_setItem_pairs (hsz := hz) (kV_is ry) dd fun h' dd' hs => h _ ?_
    have he : ∃ q, h'.get? a = some q := let ⟨q, _, _, hq, _⟩ := dd'; ⟨q, hq⟩
    exact d_write I (by rw [e]; exact True.intro) hs he (dk_new hl hd (rel.put k rv) dd')
  · subst ey eH
    cases (show u = Value.ref b from ry)
    obtain ⟨z, hd, xs, rel, dd⟩ := dt_of I.hok e
    have hz : xs.length ≤ sizeLine := by rw [← Paired.length rel]; exact z
    have hl : (putK kvs k v).length ≤ sizeLine := by have := length_putK kvs k v; omega
    refine wpAny_setItem_heap (hsz := hz) (tupleKind_room_in1 hu) (key_of I.hok eb) dd fun h' dd' hs => h _ ?_
    obtain ⟨q, es, ep, hq, h2, h3, h4, _, h5⟩ := dd'
    refine d_write I (by rw [e]; exact True.intro) hs ⟨q, hq⟩ ⟨hl, hd, _, (rel.put k eb rv).keeps fun c ys ec => ?_, q, es, ep, hq, h2, h3, h4, h5⟩
    rw [upd_ne (ne_of ec e (fun z => nomatch z))]
    exact ec
end

section
variable {X : Cx} {pins : List (Addr × Obj)} {σ : St} {H : Hp} {s : Shared} {a : Addr} {kvs : List (Key × V)} {k : Key} {u : Value} {A : Around} {E : Value → Shared → Prop}
/-- del d[k] -/
theorem d_delItem {Q : Unit → Shared → Prop} (I : Inv X pins σ H s) (e : H a = some (.dK kvs)) (ry : RelV (kV k) u) (l : (valV kvs k).isSome = true) (h : ∀ s', Inv X pins σ (upd H a (.dK (dropK kvs k))) s' → Q () s') :
    wpAny (model X.prog X.w) A (delItem (.ref a) u) Q E s := by
  obtain ⟨z, hd, vs, rel, dd⟩ := dk_of I.hok e
  refine wpAny_delItem_slot dd.typeIs (by decide) PySem.F.slot_dict_delitem
    (call_meetsIn PySem.F.slot_dict_delitem dd.typeIs PySem.F.entry_dict_delitem (PySem.F.args_dict_delitem_2 _ _) (meets_dict_delitem_pairs (mixKind X.prog X.w) a (kV_is ry)) ⟨vs, dd, by rw [← rel.length]; exact z, by rw [← (rel.val k).isSome_eq]; exact l, fun h' dd' hs => h _ ?_⟩)
  have he : ∃ q, h'.get? a = some q := let ⟨q, _, _, hq, _⟩ := dd'; ⟨q, hq⟩
  exact d_write I (by rw [e]; exact True.intro) hs he (dk_new (Nat.le_trans (dropK_le kvs k) z) hd (rel.drop k) dd')
/-- d.pop(k[, x]), there -/
theorem d_pop {v : V} {more : List Value} {Q : Value → Shared → Prop} (I : Inv X pins σ H s) (e : H a = some (.dK kvs)) (ry : RelV (kV k) u) (l : valV kvs k = some v) (hm : more = [] ∨ ∃ x, more = [x])
    (h : ∀ w' s', Inv X pins σ (upd H a (.dK (dropK kvs k))) s' → RelV v w' → Q w' s') : wpAny (model X.prog X.w) A (call (.builtin "dict.pop") (.ref a :: u :: more)) Q E s := by
  obtain ⟨z, hd, vs, rel, dd⟩ := dk_of I.hok e
  obtain ⟨w', hw, rw'⟩ := RelO.some_of (v := v) (o := valueAt vs k) (by rw [← l]; exact rel.val k)
  have hp : (keyPart u).isSome = true := by
    cases k with
    | inl i => obtain ⟨t, q⟩ := (show ∃ t, u = Value.int i t from ry); subst q; rfl
    | inr x => obtain ⟨t, q⟩ := (show ∃ t, u = Value.str x t from ry); subst q; rfl
  have ha : argsOk "dict.pop" ⟨.ref a :: u :: more, []⟩ := by
    rcases hm with q | ⟨x, q⟩
    · subst q; exact PySem.F.args_dict_pop_2 _ _
    · subst q; exact PySem.F.args_dict_pop_3 _ _ _
  refine call_meetsIn PySem.F.slot_dict_pop dd.typeIs PySem.F.entry_dict_pop ha (meets_dict_pop_there (mixKind X.prog X.w) a (kV_is ry) more hm hp)
    ⟨vs, w', dd, by rw [← rel.length]; exact z, hw, fun h' dd' hs => h w' _ ?_ rw'⟩
  have he : ∃ q, h'.get? a = some q := let ⟨q, _, _, hq, _⟩ := dd'; ⟨q, hq⟩
  exact d_write I (by rw [e]; exact True.intro) hs he (dk_new (Nat.le_trans (dropK_le kvs k) z) hd (rel.drop k) dd')
/-- d.pop(k, x), not there -/
theorem d_popD {r : Value} {Q : Value → Shared → Prop} (I : Inv X pins σ H s) (e : H a = some (.dK kvs)) (ry : RelV (kV k) u) (l : valV kvs k = none) (h : ∀ s', Inv X pins σ H s' → Q r s') :
    wpAny (model X.prog X.w) A (call (.builtin "dict.pop") [.ref a, u, r]) Q E s := by
  obtain ⟨z, hd, vs, rel, dd⟩ := dk_of I.hok e
  have hn : valueAt vs k = none := RelO.none_of (by rw [← l]; exact rel.val k)
  have hp : (keyPart u).isSome = true := by
    cases k with
    | inl i => obtain ⟨t, q⟩ := (show ∃ t, u = Value.int i t from ry); subst q; rfl
    | inr x => obtain ⟨t, q⟩ := (show ∃ t, u = Value.str x t from ry); subst q; rfl
  exact call_meetsIn PySem.F.slot_dict_pop dd.typeIs PySem.F.entry_dict_pop (PySem.F.args_dict_pop_3 _ _ _) (meets_dict_pop_default (mixKind X.prog X.w) a (kV_is ry) hd hp r) ⟨vs, dd, hn, h _ (I.tok _)⟩
/-- d.clear() -/
theorem d_clear {Q : Value → Shared → Prop} (I : Inv X pins σ H s) (e : H a = some (.dK kvs)) (h : ∀ s', Inv X pins σ (upd H a (.dK [])) s' → Q .none s') : wpAny (model X.prog X.w) A (call (.builtin "dict.clear") [.ref a]) Q E s := by
  obtain ⟨z, hd, vs, rel, dd⟩ := dk_of I.hok e
  refine call_meetsIn PySem.F.slot_dict_clear dd.typeIs PySem.F.entry_dict_clear (PySem.F.args_dict_clear_1 _) (meets_dict_clear (mixKind X.prog X.w) a) ⟨vs, dd, by rw [← rel.length]; exact z, fun h' dd' hs => h _ ?_⟩
  have he : ∃ q, h'.get? a = some q := let ⟨q, _, _, hq, _⟩ := dd'; ⟨q, hq⟩
  exact d_write (t' := s.toks) I (by rw [e]; exact True.intro) hs he (dk_new (Nat.zero_le _) hd .nil dd')
/-- len(d) -/
theorem d_len {Q : Value → Shared → Prop} (I : Inv X pins σ H s) (e : Rd H a (.dK kvs)) (h : ∀ t s', Inv X pins σ H s' → Q (.int kvs.length t) s') : wpAny (model X.prog X.w) A (call (.builtin "len") [.ref a]) Q E s := by
  obtain ⟨z, hd, vs, rel, dd⟩ := dk_rd I.hok e
  refine call_len_dict hd dd (by rw [← rel.length]; rw [sizeLine_eq] at z; omega) ?_
  rw [← rel.length]
  exact h _ _ (I.tok _)
/-- if d -/
theorem d_truth {Q : Bool → Shared → Prop} (I : Inv X pins σ H s) (e : Rd H a (.dK kvs)) (h : ∀ s', Inv X pins σ H s' → Q (!kvs.isEmpty) s') : wpAny (model X.prog X.w) A (truthy (.ref a)) Q E s := by
  obtain ⟨z, hd, vs, rel, dd⟩ := dk_rd I.hok e
  refine wpAny_truthy_dict hd dd (by rw [← rel.length]; rw [sizeLine_eq] at z; omega) ?_
  have q : kvs.isEmpty = vs.isEmpty := by cases rel <;> rfl
  rw [← q]
  exact h _ (I.tok _)
end


/-! ### readings and rules -/
/-- the element of a subscription, not a slice -/
def NoSl (i : Expr) : Prop := ∀ ov iv, subscripted i false ov iv = operate [ov, iv] (getItem ov iv)
theorem subD_of {prog : Program} {w : World} {A : Around} {E : Value → Shared → Prop} {s : Shared} {env : Env} {value slice : Expr} {pos : Pos} {T id : String} {Q : Value → Shared → Prop}
    (hl : typeLookup (.type T) "__getitem__" = pure (some (.builtin id))) (hs : NoSl slice)
    (h : wpAny (model prog w) A (eval value env) (fun o s₁ => wpAny (model prog w) A (eval slice env) (fun i s₂ => s₂.TypeIs o T ∧ wpAny (model prog w) A (getItem o i) Q E s₂) E s₁) E s) :
    wpAny (model prog w) A (eval (.Subscript value slice pos) env) Q E s := by
  refine Subscript_ (wpAny_mono h (fun o s₁ h₁ => wpAny_mono h₁ (fun i s₂ h₂ => ?_) fun _ _ x => x) fun _ _ x => x)
  obtain ⟨hT, h₂⟩ := h₂
  unfold subscriptTail
  refine wpAny_bind ?_
  rw [getitemInPython_of_ne hT.not_modules]
  refine wpAny_bind (wpAny_specialOf hT hl ?_)
  have fin : wpAny (model prog w) A (subscripted slice false o i) (fun r s₃ => wpAny (model prog w) A (letTemporaryGo value o r >>= fun _ => pure r) Q E s₃) E s₂ := by
    rw [hs o i]
    exact wpAny_operating (wpAny_mono h₂ (fun r s₃ h₃ => wpAny_bind (wpAny_letTemporaryGo (wpAny_pure h₃))) fun _ _ x => x)
  first
    | exact wpAny_pure (wpAny_bind fin)
    | exact wpAny_bind (wpAny_pure (wpAny_bind fin))
    | exact wpAny_bind fin

theorem dict_typeIs {X : Cx} {pins : List (Addr × Obj)} {σ : St} {H : Hp} {s : Shared} {a : Addr} {y : V} {o : Option V} (I : Inv X pins σ H s) (g : DGet H a y o) : s.TypeIs (.ref a) "dict" := by
  rcases g with ⟨kvs, k, e, _, _⟩ | ⟨kvs, k, b, e, _, _, _⟩
  · obtain ⟨_, _, vs, _, dd⟩ := dk_rd I.hok e
    exact dd.typeIs
  · obtain ⟨_, _, xs, _, dd⟩ := dt_rd I.hok e
    exact dd.typeIs
theorem dict_noDict {X : Cx} {pins : List (Addr × Obj)} {σ : St} {H : Hp} {s : Shared} {a : Addr} {y : V} {o : Option V} (I : Inv X pins σ H s) (g : DGet H a y o) :
    ∀ b, Value.ref a = .ref b → ∃ ob, s.heap.get? b = some ob ∧ ob.dict = none := fun b q => by
  cases q
  rcases g with ⟨kvs, k, e, _, _⟩ | ⟨kvs, k, b, e, _, _, _⟩
  · obtain ⟨_, _, vs, _, ob, _, _, h1, h2, _⟩ := dk_rd I.hok e
    exact ⟨ob, h1, h2.2.1⟩
  · obtain ⟨_, _, xs, _, ob, _, _, h1, h2, _⟩ := dt_rd I.hok e
    exact ⟨ob, h1, h2.2.1⟩

/-- d[y] -/
def tDGet (td ty : TE) : TE := fun σ H Q => td σ H fun x H1 => ty σ H1 fun y H2 => ∃ a v, x = .ref a ∧ DGet H2 a y (some v) ∧ Q v H2
/-- y in d, y not in d -/
def tDIn (ty td : TE) : TE := fun σ H Q => ty σ H fun y H1 => td σ H1 fun x H2 => ∃ a o, x = .ref a ∧ DGet H2 a y o ∧ Q (.bl o.isSome) H2
def tDNotIn (ty td : TE) : TE := fun σ H Q => ty σ H fun y H1 => td σ H1 fun x H2 => ∃ a o, x = .ref a ∧ DGet H2 a y o ∧ Q (.bl (!o.isSome)) H2
/-- d[y] = v -/
def sDPut (td ty tv : TE) : TS := fun D σ H => tv σ H fun v H1 => td σ H1 fun x H2 => ty σ H2 fun y H3 => ∃ a H4, x = .ref a ∧ DPut H3 a y v H4 ∧ D.nx σ H4
/-- d[y] op= v -/
def sDAug (td ty tv : TE) (rd : V → V → Hp → VK → Prop) : TS := fun D σ H => td σ H fun x H1 => ty σ H1 fun y H2 => ∃ a v, x = .ref a ∧ DGet H2 a y (some v) ∧
  tv σ H2 fun y2 H3 => rd v y2 H3 fun z H4 => ∃ H5, DPut H4 a y z H5 ∧ D.nx σ H5
/-- del d[y] -/
def sDDel (td ty : TE) : TS := fun D σ H => td σ H fun x H1 => ty σ H1 fun y H2 => ∃ a kvs k, x = .ref a ∧ H2 a = some (.dK kvs) ∧ y = kV k ∧ (valV kvs k).isSome = true ∧ D.nx σ (upd H2 a (.dK (dropK kvs k)))

section
variable {X : Cx} {o i e value : Expr} {pos pos' tpos : Pos} {td ty tv : TE}
theorem pe_dget (hu : X.A.units + 1 < cLine) (ho : PE X o td) (hi : PE X i ty) (hs : NoSl i) : PE X (.Subscript o i pos) (tDGet td ty) := by
  intro pins s σ H Q I h
  refine subD_of PySem.F.slot_dict_getitem.lookup hs (thn (ho pins s σ H _ I h) fun u s1 ⟨x, H1, I1, rx, q1⟩ => thn (hi pins s1 σ H1 _ I1 q1) fun iv s2 ⟨y, H2, I2, ry, a, v, ex, g, q2⟩ => ?_)
  subst ex
  obtain rfl : u = Value.ref a := rx
  exact ⟨dict_typeIs I2 g, d_getItem hu I2 g ry fun w' s3 I3 rw' => ⟨v, H2, I3, rw', q2⟩⟩
theorem pc_din (hu : X.A.units + 1 < cLine) (hi : PE X i ty) (ho : PE X o td) : PC X .In i o (tDIn ty td) := by
  intro pins s σ H Q I h
  refine thn (hi pins s σ H _ I h) fun iv s1 ⟨y, H1, I1, ry, q1⟩ => thn (ho pins s1 σ H1 _ I1 q1) fun u s2 ⟨x, H2, I2, rx, a, ov, ex, g, q2⟩ => ?_
  subst ex
  obtain rfl : u = Value.ref a := rx
  exact d_in hu I2 g ry fun s3 I3 => ⟨.bl ov.isSome, H2, I3, rfl, q2⟩
theorem pc_dnotin (hu : X.A.units + 1 < cLine) (hi : PE X i ty) (ho : PE X o td) : PC X .NotIn i o (tDNotIn ty td) := by
  intro pins s σ H Q I h
  refine thn (hi pins s σ H _ I h) fun iv s1 ⟨y, H1, I1, ry, q1⟩ => thn (ho pins s1 σ H1 _ I1 q1) fun u s2 ⟨x, H2, I2, rx, a, ov, ex, g, q2⟩ => ?_
  subst ex
  obtain rfl : u = Value.ref a := rx
  exact d_notIn hu I2 g ry fun s3 I3 => ⟨.bl (!ov.isSome), H2, I3, rfl, q2⟩
theorem ps_dput (hu : X.A.units + 1 < cLine) (ho : PE X o td) (hi : PE X i ty) (hv : PE X value tv) (hs : swapsWith value (some (.Subscript o i pos')) pos.line X.env = pure false) :
    PS X (.Assign [.Subscript o i pos'] value pos) (sDPut td ty tv) := by
  intro pins s σ H D I h
  refine wpAny_Assign_Subscript (thn (hv pins s σ H _ I h) fun r s1 ⟨v, H1, I1, rv, q1⟩ => thn (ho pins s1 σ H1 _ I1 q1) fun u s2 ⟨x, H2, I2, rx, q2⟩ => thn (hi pins s2 σ H2 _ I2 q2) fun iv s3 ⟨y, H3, I3, ry, a, H4, ex, g, q3⟩ => ?_) hs
  subst ex
  obtain rfl : u = Value.ref a := rx
  exact d_setItem hu I3 g ry rv fun s4 I4 => ⟨σ, H4, I4, q3⟩
theorem ps_daug {op : Operator} {rd : V → V → Hp → VK → Prop} (hu : X.A.units + 1 < cLine) (ho : PE X o td) (hi : PE X i ty) (hv : PE X value tv) (hop : InOp X op rd)
    (ha : ∀ ov iv new, augStore i ov iv new = (do holding [new, ov, iv] (setItem ov iv new); release [new, ov, iv] []; pure .next)) : PS X (.AugAssign (.Subscript o i tpos) op value pos) (sDAug td ty tv rd) := by
  intro pins s σ H D I h
  refine wpAny_AugAssign_SubscriptAny (thn (ho pins s σ H _ I h) fun u s1 ⟨x, H1, I1, rx, q1⟩ => thn (hi pins s1 σ H1 _ I1 q1) fun iv s2 ⟨y, H2, I2, ry, a, v, ex, g, q2⟩ => ?_) ha
  subst ex
  obtain rfl : u = Value.ref a := rx
  refine d_getItem hu I2 g ry fun w' s3 I3 rw' => thn (hv pins s3 σ H2 _ I3 q2) fun w2 s4 ⟨y2, H3, I4, ry2, q3⟩ => thn (hop pins s4 σ H3 v y2 w' w2 _ I4 rw' ry2 q3) fun w3 s5 ⟨z, H4, I5, rz, H5, g5, q4⟩ => ?_
  exact d_setItem hu I5 g5 ry rz fun s6 I6 => ⟨σ, H5, I6, q4⟩
theorem ps_ddel (ho : PE X o td) (hi : PE X i ty) : PS X (.Delete [.Subscript o i tpos] pos) (sDDel td ty) := by
  intro pins s σ H D I h
  refine wpAny_Delete (wpAny_deleteEach_cons (wpAny_delete_Subscript (thn (ho pins s σ H _ I h) fun u s1 ⟨x, H1, I1, rx, q1⟩ => thn (hi pins s1 σ H1 _ I1 q1) fun iv s2 ⟨y, H2, I2, ry, a, kvs, k, ex, e, ey, l, q2⟩ => ?_)))
  subst ex ey
  obtain rfl : u = Value.ref a := rx
  exact d_delItem I2 e ry l fun s3 I3 => wpAny_deleteEach_nil ⟨σ, _, I3, q2⟩
end


/-! ### displays -/
theorem dk_empty {P : Program} {w : World} {H : Hp} (h : Heap) (hb : sysModules < h.objs.size) : ObjOk P w H (h.push { cls := .type "dict", data := .dict #[] }) h.objs.size (.dK []) :=
  ⟨Nat.zero_le _, beq_eq_false_iff_ne.mpr (Ne.symm (Nat.ne_of_lt hb)), [], .nil, Heap.DictOf.new h⟩
theorem dt_empty {P : Program} {w : World} {H : Hp} (h : Heap) (hb : sysModules < h.objs.size) : ObjOk P w H (h.push { cls := .type "dict", data := .dict #[] }) h.objs.size (.dT []) :=
  ⟨Nat.zero_le _, beq_eq_false_iff_ne.mpr (Ne.symm (Nat.ne_of_lt hb)), [], .nil, _, #[], 0, Heap.get?_push_size _ rfl, ⟨rfl, rfl, rfl⟩, rfl, rfl, List.nodup_nil⟩
/-- {}, to be a dict of the kind that is wanted -/
def tDNewK : TE := fun _ H Q => ∀ p, H p = none → Q (.ref p) (upd H p (.dK []))
def tDNewT : TE := fun _ H Q => ∀ p, H p = none → Q (.ref p) (upd H p (.dT []))
section
variable {X : Cx} {pos : Pos}
theorem pe_dnewK : PE X (.Dict [] [] pos) tDNewK := fun pins s σ H Q I h =>
  wpAny_Dict_empty ⟨.ref s.heap.objs.size, _, I.laid (a := s.heap.objs.size) (o := .dK []) (t' := s.toks) (fun _ _ q => Heap.get?_push_of_some _ q) (Nat.le_refl _) (dk_empty s.heap I.big), rfl, h _ (I.hok.fresh (Nat.le_refl _))⟩
theorem pe_dnewT : PE X (.Dict [] [] pos) tDNewT := fun pins s σ H Q I h =>
  wpAny_Dict_empty ⟨.ref s.heap.objs.size, _, I.laid (a := s.heap.objs.size) (o := .dT []) (t' := s.toks) (fun _ _ q => Heap.get?_push_of_some _ q) (Nat.le_refl _) (dt_empty s.heap I.big), rfl, h _ (I.hok.fresh (Nat.le_refl _))⟩
end

/-- the pairs of a display, from the left -/
def tPairs : List (TE × TE) → St → Hp → (List (V × V) → Hp → Prop) → Prop
  | [], _, H, Q => Q [] H
  | (tk, tv) :: r, σ, H, Q => tk σ H fun x H1 => tv σ H1 fun y H2 => tPairs r σ H2 fun ps H3 => Q ((x, y) :: ps) H3
abbrev VV : List (V × V) → List (Value × Value) → Prop := Paired fun p q => RelV p.1 q.1 ∧ RelV p.2 q.2
def PPs (X : Cx) (pos : Pos) (keys : List (Option Expr)) (values : List Expr) (trs : List (TE × TE)) : Prop :=
  ∀ (pins : List (Addr × Obj)) (s : Shared) (σ : St) (H : Hp) (Q : List (V × V) → Hp → Prop), Inv X pins σ H s → tPairs trs σ H Q →
    wpAny (model X.prog X.w) X.A (evalPairs (pairTrees keys values X.env pos)) (fun vs s' => ∃ ps H', Inv X pins σ H' s' ∧ VV ps vs ∧ Q ps H') X.xe s
theorem pps_nil {X : Cx} {pos : Pos} : PPs X pos [] [] [] := fun pins s σ H Q I h => pairTrees_nil_walk ⟨[], H, I, .nil, h⟩
theorem pps_cons {X : Cx} {pos : Pos} {k v : Expr} {ks : List (Option Expr)} {vs : List Expr} {tk tv : TE} {trs : List (TE × TE)} (hk : PE X k tk) (hv : PE X v tv) (hr : PPs X pos ks vs trs) :
    PPs X pos (some k :: ks) (v :: vs) ((tk, tv) :: trs) := fun pins s σ H Q I h =>
  pairTrees_cons_walk (thn (hk pins s σ H _ I h) fun u s1 ⟨x, H1, I1, rx, q1⟩ => thn (hv pins s1 σ H1 _ I1 q1) fun w2 s2 ⟨y, H2, I2, ry, q2⟩ =>
    thn (hr pins s2 σ H2 _ I2 q2) fun ws s3 ⟨ps, H3, I3, rel, q3⟩ => ⟨(x, y) :: ps, H3, I3, .cons ⟨rx, ry⟩ rel, q3⟩)

def mergeK (kvs more : List (Key × V)) : List (Key × V) := more.foldl (fun acc kv => putK acc kv.1 kv.2) kvs
theorem KV.merge : ∀ {more : List (Key × V)} {rs : List (Key × Value)} {kvs : List (Key × V)} {vs : List (Key × Value)}, KV more rs → KV kvs vs → KV (mergeK kvs more) (merged vs rs) := by
  intro more rs kvs vs r
  unfold KV at r
  induction r generalizing kvs vs with
  | nil => intro q; exact q
  | @cons p q ps qs h t ih =>
    intro r0
    have e : KV (putK kvs p.1 p.2) (stored vs q.1 q.2) := by
      have := r0.put p.1 h.2
      rw [← h.1]; exact this
    exact ih e
theorem length_mergeK : ∀ (more kvs : List (Key × V)), (mergeK kvs more).length ≤ kvs.length + more.length
  | [], kvs => by show kvs.length ≤ kvs.length + 0; omega
  | p :: r, kvs => by
    have h1 := length_mergeK r (putK kvs p.1 p.2)
    have h2 := length_putK kvs p.1 p.2
    show (mergeK (putK kvs p.1 p.2) r).length ≤ _
    rw [List.length_cons]; omega
theorem carries_of {P : Program} {w : World} : ∀ {kvs : List (Key × V)} {ws : List (Value × Value)}, VV (kvs.map fun kv => (kV kv.1, kv.2)) ws → ∃ rs, Carries (mixKind P w) ws rs ∧ KV kvs rs
  | [], _, r => by rw [List.map_nil] at r; cases r; exact ⟨[], True.intro, .nil⟩
  | p :: kvs, _, r => by
    rw [List.map_cons] at r
    cases r with
    | @cons a b as bs h t =>
      obtain ⟨rs, c, q⟩ := carries_of (P := P) (w := w) t
      obtain ⟨b1, b2⟩ := b
      exact ⟨(p.1, b2) :: rs, ⟨kV_is h.1, rfl, c⟩, .cons ⟨rfl, h.2⟩ q⟩
/-- {k: v, ..} with keys ints and texts; the new dict stands empty while the pairs are made -/
def tDisp (trs : List (TE × TE)) : TE := fun σ H Q => ∀ p, H p = none → tPairs trs σ (upd H p (.dK [])) fun ps H2 => H2 p = some (.dK []) ∧ ∃ kvs : List (Key × V), ps = kvs.map (fun kv => (kV kv.1, kv.2)) ∧ kvs.length ≤ 15 ∧ Q (.ref p) (upd H2 p (.dK (mergeK [] kvs)))
theorem pe_disp {X : Cx} {pos : Pos} {keys : List (Option Expr)} {values : List Expr} {trs : List (TE × TE)} (h : PPs X pos keys values trs) (hall : keys.all (·.isSome) = true) (hl : keys.length = values.length) (h0 : keys ≠ [])
    (h15 : keys.length ≤ 15) : PE X (.Dict keys values pos) (tDisp trs) := by
  intro pins s σ H Q I q
  have hn := I.hok.fresh (Nat.le_refl s.heap.objs.size)
  have I1 := I.laid (a := s.heap.objs.size) (o := .dK []) (h' := s.heap.push { cls := .type "dict", data := .dict #[] }) (t' := s.toks) (fun _ _ q => Heap.get?_push_of_some _ q) (Nat.le_refl _) (dk_empty s.heap I.big)
  refine wpAny_Dict_walk (knd := mixKind X.prog X.w) hall hl h0 h15 (thn (h pins _ σ _ _ I1 (q _ hn)) fun ws s2 ⟨ps, H2, I2, rel, e, kvs, ep, lk, q2⟩ => ?_)
  subst ep
  obtain ⟨rs, c, rk⟩ := carries_of (P := X.prog) (w := X.w) rel
  obtain ⟨z, hd, vs0, r0, dd⟩ := dk_of I2.hok e
  cases r0
  refine ⟨rs, c, dd, fun h' dd' hs => ⟨.ref s.heap.objs.size, _, ?_, rfl, q2⟩⟩
  have hz : (mergeK [] kvs).length ≤ sizeLine := by
    have h1 := length_mergeK kvs []
    rw [List.length_nil] at h1
    rw [sizeLine_eq]; omega
  have he : ∃ q, h'.get? s.heap.objs.size = some q := let ⟨q, _, _, hq, _⟩ := dd'; ⟨q, hq⟩
  exact d_write I2 (by rw [e]; exact True.intro) hs he (dk_new hz hd (rk.merge .nil) dd')


/-! ### methods -/
/-- a method call o.m(e) of a built-in, with one argument: what must be seen of the text -/
structure M1 (X : Cx) (o : Expr) (m : Str) (apos : Pos) (e : Expr) (cpos : Pos) : Prop where
  base : attributeBase o m X.env (eval o X.env) = eval o X.env
  few : ((backTo cpos (starEach [e] X.env)).all (fun x => !x.1) && (backToKw cpos (keywordEach [] X.env)).all (fun x => x.1.isSome)
    && decide (([e] : List Expr).length + ([] : List Keyword).length + (if ([] : List Keyword).isEmpty then 0 else 1) < 30)) = true
  line : (apos.endLine == cpos.line) = true
  trees : backTo cpos (starEach [e] X.env) = [(false, eval e X.env)]
structure M2 (X : Cx) (o : Expr) (m : Str) (apos : Pos) (e f : Expr) (cpos : Pos) : Prop where
  base : attributeBase o m X.env (eval o X.env) = eval o X.env
  few : ((backTo cpos (starEach [e, f] X.env)).all (fun x => !x.1) && (backToKw cpos (keywordEach [] X.env)).all (fun x => x.1.isSome)
    && decide (([e, f] : List Expr).length + ([] : List Keyword).length + (if ([] : List Keyword).isEmpty then 0 else 1) < 30)) = true
  line : (apos.endLine == cpos.line) = true
  trees : backTo cpos (starEach [e, f] X.env) = [(false, eval e X.env), (false, eval f X.env)]

/-- a is a dict, whatever its keys -/
def IsD (H : Hp) (a : Addr) : Prop := (∃ kvs, Rd H a (.dK kvs)) ∨ ∃ kvs, Rd H a (.dT kvs)
theorem isD_at {X : Cx} {pins : List (Addr × Obj)} {σ : St} {H : Hp} {s : Shared} {a : Addr} (I : Inv X pins σ H s) (d : IsD H a) :
    s.TypeIs (.ref a) "dict" ∧ (∀ b, Value.ref a = .ref b → ∃ ob, s.heap.get? b = some ob ∧ ob.dict = none) ∧ (a == sysModules) = false := by
  rcases d with ⟨kvs, e⟩ | ⟨kvs, e⟩
  · obtain ⟨_, hd, vs, _, dd⟩ := dk_rd I.hok e
    refine ⟨dd.typeIs, fun b q => ?_, hd⟩
    cases q
    obtain ⟨ob, _, _, h1, h2, _⟩ := dd
    exact ⟨ob, h1, h2.2.1⟩
  · obtain ⟨_, hd, xs, _, dd⟩ := dt_rd I.hok e
    refine ⟨dd.typeIs, fun b q => ?_, hd⟩
    cases q
    obtain ⟨ob, _, _, h1, h2, _⟩ := dd
    exact ⟨ob, h1, h2.2.1⟩

section
variable {X : Cx} {pins : List (Addr × Obj)} {σ : St} {H : Hp} {s : Shared} {a : Addr} {y d : V} {u r : Value} {o : Option V} {A : Around} {E : Value → Shared → Prop}
/-- d.get(y) -/
theorem d_get1 {Q : Value → Shared → Prop} (hu : A.units + 1 < cLine) (I : Inv X pins σ H s) (g : DGet H a y o) (ry : RelV y u) (h : ∀ w' s', Inv X pins σ H s' → RelV (o.getD .non) w' → Q w' s') :
    wpAny (model X.prog X.w) A (call (.builtin "dict.get") [.ref a, u]) Q E s := by
  rcases g with ⟨kvs, k, e, ey, l⟩ | ⟨kvs, k, b, e, ey, eb, l⟩
  · subst ey
    obtain ⟨z, hd, vs, rel, dd⟩ := dk_rd I.hok e
    refine call_meetsIn PySem.F.slot_dict_get dd.typeIs PySem.F.entry_dict_get (PySem.F.args_dict_get_2 _ _) (meets_dict_get (mixKind X.prog X.w) a (kV_is ry) hd) ⟨_, dd.mapOf, h _ _ (I.tok _) ?_⟩
    rw [l]
    exact (rel.val k).getD rfl
  · subst ey
    cases (show u = Value.ref b from ry)
    obtain ⟨z, hd, xs, rel, dd⟩ := dt_rd I.hok e
    refine call_meetsIn PySem.F.slot_dict_get dd.typeIs PySem.F.entry_dict_get (PySem.F.args_dict_get_2 _ _) (meetsH_dict_get (tupleKind (mixKind X.prog X.w)) a b hd) ⟨tupleKind_room_in1 hu, k, xs, key_of I.hok eb, dd, h _ _ (I.tok _) ?_⟩
    rw [l]
    exact (rel.val k).getD rfl
/-- d.get(y, x) -/
theorem d_get2 {Q : Value → Shared → Prop} (hu : A.units + 1 < cLine) (I : Inv X pins σ H s) (g : DGet H a y o) (ry : RelV y u) (rd : RelV d r) (h : ∀ w' s', Inv X pins σ H s' → RelV (o.getD d) w' → Q w' s') :
    wpAny (model X.prog X.w) A (call (.builtin "dict.get") [.ref a, u, r]) Q E s := by
  rcases g with ⟨kvs, k, e, ey, l⟩ | ⟨kvs, k, b, e, ey, eb, l⟩
  · subst ey
    obtain ⟨z, hd, vs, rel, dd⟩ := dk_rd I.hok e
    refine call_meetsIn PySem.F.slot_dict_get dd.typeIs PySem.F.entry_dict_get (PySem.F.args_dict_get_3 _ _ _) (meets_dict_get_default (mixKind X.prog X.w) a (kV_is ry) hd r) ⟨_, dd.mapOf, h _ _ (I.tok _) ?_⟩
    rw [l]
    exact (rel.val k).getD rd
  · subst ey
    cases (show u = Value.ref b from ry)
    obtain ⟨z, hd, xs, rel, dd⟩ := dt_rd I.hok e
    refine call_meetsIn PySem.F.slot_dict_get dd.typeIs PySem.F.entry_dict_get (PySem.F.args_dict_get_3 _ _ _) (meetsH_dict_get_default (tupleKind (mixKind X.prog X.w)) a b hd r) ⟨tupleKind_room_in1 hu, k, xs, key_of I.hok eb, dd, h _ _ (I.tok _) ?_⟩
    rw [l]
    exact (rel.val k).getD rd
end

def tDGet1 (td ty : TE) : TE := fun σ H Q => td σ H fun x H1 => ∃ a, x = .ref a ∧ IsD H1 a ∧ ty σ H1 fun y H2 => ∃ o, DGet H2 a y o ∧ Q (o.getD .non) H2
def tDGet2 (td ty tx : TE) : TE := fun σ H Q => td σ H fun x H1 => ∃ a, x = .ref a ∧ IsD H1 a ∧ ty σ H1 fun y H2 => tx σ H2 fun z H3 => ∃ o, DGet H3 a y o ∧ Q (o.getD z) H3
/-- d.pop(k): there; d.pop(k, x): there or not -/
def tDPop1 (td ty : TE) : TE := fun σ H Q => td σ H fun x H1 => ∃ a, x = .ref a ∧ IsD H1 a ∧ ty σ H1 fun y H2 => ∃ kvs k v, H2 a = some (.dK kvs) ∧ y = kV k ∧ valV kvs k = some v ∧ Q v (upd H2 a (.dK (dropK kvs k)))
def tDPop2 (td ty tx : TE) : TE := fun σ H Q => td σ H fun x H1 => ∃ a, x = .ref a ∧ IsD H1 a ∧ ty σ H1 fun y H2 => tx σ H2 fun z H3 => ∃ kvs k, H3 a = some (.dK kvs) ∧ y = kV k ∧
  (∀ v, valV kvs k = some v → Q v (upd H3 a (.dK (dropK kvs k)))) ∧ (valV kvs k = none → Q z H3)
section
variable {X : Cx} {o e f : Expr} {apos cpos : Pos} {td ty tx : TE}
theorem pe_dget1 (hu : X.A.units + 1 < cLine) (ho : PE X o td) (he : PE X e ty) (m : M1 X o "get" apos e cpos) : PE X (.Call (.Attribute o "get" apos) [e] [] cpos) (tDGet1 td ty) := by
  intro pins s σ H Q I h
  refine wpAny_Call_method m.base m.few m.line PySem.F.plainAttrs_dict PySem.F.slot_dict_get PySem.F.type_dict_get (thn (ho pins s σ H _ I h) fun u s1 ⟨x, H1, I1, rx, a, ex, d, q1⟩ => ?_)
  subst ex
  obtain rfl : u = Value.ref a := rx
  obtain ⟨t1, t2, _⟩ := isD_at I1 d
  refine ⟨t1, t2, ?_⟩
  rw [m.trees]
  refine Calls.callWith_builtin rfl (Calls.evalArgs_plain (Calls.spliced_cons (thn (he pins s1 σ H1 _ I1 q1) fun iv s2 ⟨y, H2, I2, ry, ov, g, q2⟩ => Calls.spliced_nil ?_)))
  exact d_get1 hu I2 g ry fun w' s3 I3 rw' => ⟨_, H2, I3, rw', q2⟩
theorem pe_dget2 (hu : X.A.units + 1 < cLine) (ho : PE X o td) (he : PE X e ty) (hf : PE X f tx) (m : M2 X o "get" apos e f cpos) : PE X (.Call (.Attribute o "get" apos) [e, f] [] cpos) (tDGet2 td ty tx) := by
  intro pins s σ H Q I h
  refine wpAny_Call_method m.base m.few m.line PySem.F.plainAttrs_dict PySem.F.slot_dict_get PySem.F.type_dict_get (thn (ho pins s σ H _ I h) fun u s1 ⟨x, H1, I1, rx, a, ex, d, q1⟩ => ?_)
  subst ex
  obtain rfl : u = Value.ref a := rx
  obtain ⟨t1, t2, _⟩ := isD_at I1 d
  refine ⟨t1, t2, ?_⟩
  rw [m.trees]
  refine Calls.callWith_builtin rfl (Calls.evalArgs_plain (Calls.spliced_cons (thn (he pins s1 σ H1 _ I1 q1) fun iv s2 ⟨y, H2, I2, ry, q2⟩ =>
    Calls.spliced_cons (thn (hf pins s2 σ H2 _ I2 q2) fun fv s3 ⟨z, H3, I3, rz, ov, g, q3⟩ => Calls.spliced_nil ?_))))
  exact d_get2 hu I3 g ry rz fun w' s4 I4 rw' => ⟨_, H3, I4, rw', q3⟩
theorem pe_dpop1 (ho : PE X o td) (he : PE X e ty) (m : M1 X o "pop" apos e cpos) : PE X (.Call (.Attribute o "pop" apos) [e] [] cpos) (tDPop1 td ty) := by
  intro pins s σ H Q I h
  refine wpAny_Call_method m.base m.few m.line PySem.F.plainAttrs_dict PySem.F.slot_dict_pop PySem.F.type_dict_pop (thn (ho pins s σ H _ I h) fun u s1 ⟨x, H1, I1, rx, a, ex, d, q1⟩ => ?_)
  subst ex
  obtain rfl : u = Value.ref a := rx
  obtain ⟨t1, t2, _⟩ := isD_at I1 d
  refine ⟨t1, t2, ?_⟩
  rw [m.trees]
  refine Calls.callWith_builtin rfl (Calls.evalArgs_plain (Calls.spliced_cons (thn (he pins s1 σ H1 _ I1 q1) fun iv s2 ⟨y, H2, I2, ry, kvs, k, v, ea, ey, l, q2⟩ => Calls.spliced_nil ?_)))
  subst ey
  exact d_pop I2 ea ry l (.inl rfl) fun w' s3 I3 rw' => ⟨v, _, I3, rw', q2⟩
theorem pe_dpop2 (ho : PE X o td) (he : PE X e ty) (hf : PE X f tx) (m : M2 X o "pop" apos e f cpos) : PE X (.Call (.Attribute o "pop" apos) [e, f] [] cpos) (tDPop2 td ty tx) := by
  intro pins s σ H Q I h
  refine wpAny_Call_method m.base m.few m.line PySem.F.plainAttrs_dict PySem.F.slot_dict_pop PySem.F.type_dict_pop (thn (ho pins s σ H _ I h) fun u s1 ⟨x, H1, I1, rx, a, ex, d, q1⟩ => ?_)
  subst ex
  obtain rfl : u = Value.ref a := rx
  obtain ⟨t1, t2, _⟩ := isD_at I1 d
  refine ⟨t1, t2, ?_⟩
  rw [m.trees]
  refine Calls.callWith_builtin rfl (Calls.evalArgs_plain (Calls.spliced_cons (thn (he pins s1 σ H1 _ I1 q1) fun iv s2 ⟨y, H2, I2, ry, q2⟩ =>
    Calls.spliced_cons (thn (hf pins s2 σ H2 _ I2 q2) fun fv s3 ⟨z, H3, I3, rz, kvs, k, ea, ey, q3, q4⟩ => Calls.spliced_nil ?_))))
  subst ey
  cases l : valV kvs k with
  | some v => exact d_pop I3 ea ry l (.inr ⟨fv, rfl⟩) fun w' s4 I4 rw' => ⟨v, _, I4, rw', q3 v l⟩
  | none => exact d_popD I3 ea ry l fun s4 I4 => ⟨z, H3, I4, rz, q4 l⟩
end

/-! ### dict(d): a copy -/
section
variable {X : Cx} {pins : List (Addr × Obj)} {σ : St} {H : Hp} {s : Shared} {a : Addr} {kvs : List (Key × V)} {A : Around} {E : Value → Shared → Prop}
theorem d_copyOf {Q : Value → Shared → Prop} (I : Inv X pins σ H s) (e : Rd H a (.dK kvs)) (h : ∀ p s', H p = none → Inv X pins σ (upd H p (.dK kvs)) s' → Q (.ref p) s') : wpAny (model X.prog X.w) A (call (.type "dict") [.ref a]) Q E s := by
  obtain ⟨z, hd, vs, rel, dd⟩ := dk_rd I.hok e
  refine kt_call_dict hd dd (by rw [← rel.length]; exact z) fun h' dd' hs => ?_
  refine h _ _ (I.hok.fresh (Nat.le_refl _)) (I.laid (a := s.heap.objs.size) (o := .dK kvs) (t' := s.toks) (fun b q hq => ?_) (Nat.le_refl _) (dk_new z (beq_eq_false_iff_ne.mpr (Ne.symm (Nat.ne_of_lt I.big))) rel dd'))
  exact (hs.2 b (Nat.ne_of_lt (Heap.lt_size hq))).trans (Heap.get?_push_of_some _ hq)
end


section
variable {X : Cx} {pins : List (Addr × Obj)} {σ : St} {H : Hp} {s : Shared} {a : Addr} {y : V} {u : Value} {A : Around} {E : Value → Shared → Prop}
/-- d[y], not there: a KeyError -/
theorem d_missing {Q : Value → Shared → Prop} (hu : A.units + 1 < cLine) (hh : A.handled = none) (I : Inv X pins σ H s) (g : DGet H a y none) (ry : RelV y u)
    (h : ∀ h' e t', Heap.NewExc s.heap h' e "KeyError" → E (.ref e) { s with heap := h', toks := t' }) : wpAny (model X.prog X.w) A (getItem (.ref a) u) Q E s := by
  rcases g with ⟨kvs, k, e, ey, l⟩ | ⟨kvs, k, b, e, ey, eb, l⟩
  · subst ey
    obtain ⟨z, hd, vs, rel, dd⟩ := dk_rd I.hok e
    have hn : valueAt vs k = none := RelO.none_of (by rw [l]; exact rel.val k)
    exact wpAny_getItem_missing_of (kV_is ry) hd hh dd.mapOf hn fun h' ex ne => h h' ex _ ne
  · subst ey
    cases (show u = Value.ref b from ry)
    obtain ⟨z, hd, xs, rel, dd⟩ := dt_rd I.hok e
    have hn : (atKey xs k).map (·.2) = none := RelO.none_of (by rw [l]; exact rel.val k)
    exact wpAny_getItem_missing_heap (tupleKind_room_in1 hu) (key_of I.hok eb) hd hh dd (Option.map_eq_none_iff.mp hn) fun h' ex ne => h h' ex _ ne
end
end L2

set_option maxHeartbeats 4000000
namespace L2
open PySem
/-! ### values without the heap: texts, numbers, None, tuples of such -/
inductive T where
  | s (x : Str) | i (n : Int) | n | t (xs : List T)
theorem T.induct {P : T → Prop} (hs : ∀ x, P (.s x)) (hi : ∀ n, P (.i n)) (hn : P .n) (ht : ∀ xs, (∀ x ∈ xs, P x) → P (.t xs)) (a : T) : P a :=
  T.rec (motive_1 := P) (motive_2 := fun xs => ∀ x ∈ xs, P x) hs hi hn ht (fun _ h => nomatch h) (fun _ _ h1 h2 y hy => by
    cases hy with
    | head => exact h1
    | tail _ h => exact h2 y h) a
mutual
def T.dep : T → Nat
  | .t xs => T.deps xs + 1
  | _ => 0
def T.deps : List T → Nat
  | [] => 0
  | x :: r => max x.dep (T.deps r)
end
theorem T.deps_mem {xs : List T} {x : T} (h : x ∈ xs) : x.dep ≤ T.deps xs := by
  induction xs with
  | nil => cases h
  | cons y r ih =>
    unfold T.deps
    cases h with
    | head => exact Nat.le_max_left _ _
    | tail _ h => exact Nat.le_trans (ih h) (Nat.le_max_right _ _)
theorem T.deps_le {xs : List T} {n : Nat} (h : ∀ x ∈ xs, x.dep ≤ n) : T.deps xs ≤ n := by
  induction xs with
  | nil => exact Nat.zero_le _
  | cons y r ih =>
    unfold T.deps
    exact Nat.max_le.mpr ⟨h y (.head _), ih fun x hx => h x (.tail _ hx)⟩
theorem T.dep_t {xs : List T} {n : Nat} (h : ∀ x ∈ xs, x.dep ≤ n) : (T.t xs).dep ≤ n + 1 := by
  unfold T.dep
  exact Nat.succ_le_succ (T.deps_le h)
mutual
def T.eqB : T → T → Bool
  | .s x, .s y => x == y
  | .i m, .i k => m == k
  | .n, .n => true
  | .t xs, .t ys => T.eqBs xs ys
  | _, _ => false
def T.eqBs : List T → List T → Bool
  | [], [] => true
  | x :: r, y :: q => x.eqB y && T.eqBs r q
  | _, _ => false
end
theorem T.eqBs_iff {xs : List T} (h : ∀ x ∈ xs, ∀ y, T.eqB x y = true ↔ x = y) : ∀ ys, T.eqBs xs ys = true ↔ xs = ys := by
  induction xs with
  | nil => intro ys; cases ys <;> simp [T.eqBs]
  | cons x r ih =>
    intro ys
    cases ys with
    | nil => simp [T.eqBs]
    | cons y q =>
      unfold T.eqBs
      rw [Bool.and_eq_true, h x (.head _) y, ih (fun z hz => h z (.tail _ hz)) q, List.cons.injEq]
theorem T.eqB_iff (a : T) : ∀ b, T.eqB a b = true ↔ a = b := by
  induction a using T.induct with
  | hs x => intro b; cases b <;> simp [T.eqB]
  | hi x => intro b; cases b <;> simp [T.eqB]
  | hn => intro b; cases b <;> simp [T.eqB]
  | ht xs ih =>
    intro b
    cases b with
    | t ys => unfold T.eqB; rw [T.eqBs_iff ih ys, T.t.injEq]
    | _ => simp [T.eqB]
theorem T.eqB_self (a : T) : T.eqB a a = true := (T.eqB_iff a a).mpr rfl
theorem T.eqBs_self (xs : List T) : T.eqBs xs xs = true := (T.eqBs_iff (fun x _ => T.eqB_iff x) xs).mpr rfl
theorem T.eqB_ne {a b : T} (h : a ≠ b) : T.eqB a b = false := Bool.eq_false_iff.mpr fun z => h ((T.eqB_iff a b).mp z)
theorem T.eqBs_ne {a b : List T} (h : a ≠ b) : T.eqBs a b = false := Bool.eq_false_iff.mpr fun z => h ((T.eqBs_iff (fun x _ => T.eqB_iff x) b).mp z)
instance : DecidableEq T := fun a b => if h : T.eqB a b = true then .isTrue ((T.eqB_iff a b).mp h) else .isFalse fun z => h ((T.eqB_iff a b).mpr z)
theorem T.eqB_dec (a b : T) : T.eqB a b = decide (a = b) := by rw [Bool.eq_iff_iff, decide_eq_true_iff, T.eqB_iff]
theorem T.eqBs_dec (a b : List T) : T.eqBs a b = decide (a = b) := by rw [Bool.eq_iff_iff, decide_eq_true_iff, T.eqBs_iff (fun x _ => T.eqB_iff x)]
theorem T.eqBs_range : ∀ (xs ys : List T), T.eqBs xs ys = ((List.range (min xs.length ys.length)).all (fun j => T.eqB (xs.getD j .n) (ys.getD j .n)) && xs.length == ys.length)
  | [], [] => rfl
  | [], y :: q => by simp [T.eqBs]
  | x :: r, [] => by simp [T.eqBs]
  | x :: r, y :: q => by
    unfold T.eqBs
    rw [T.eqBs_range r q, List.length_cons, List.length_cons, Nat.succ_min_succ, List.range_succ_eq_map, List.all_cons, List.all_map]
    have e : (r.length + 1 == q.length + 1) = (r.length == q.length) := by simp
    rw [e, Bool.and_assoc]
    rfl
end L2

namespace L2
open PySem
/-! ### terms (point 5) -/
inductive Hd where
  | num (n : Int) | name (x : Str) | gap (n : Int) | op (s : Str) | row | more | first | others | long | tag (t : Str) | call (f : Str) | mat (arms : List (Str × List Str)) | ife | lt (x : Str) | fold (x y : Str)
inductive Tm where
  | mk (h : Hd) (ks : List Tm)
def Tm.hd : Tm → Hd | .mk h _ => h
def Tm.ks : Tm → List Tm | .mk _ ks => ks
theorem Tm.induct {P : Tm → Prop} (hm : ∀ h ks, (∀ k ∈ ks, P k) → P (.mk h ks)) (a : Tm) : P a :=
  Tm.rec (motive_1 := P) (motive_2 := fun xs => ∀ x ∈ xs, P x) hm (fun _ h => nomatch h) (fun _ _ h1 h2 y hy => by
    cases hy with
    | head => exact h1
    | tail _ h => exact h2 y h) a
def arOk : Hd → Nat → Bool
  | .num _, n => n == 0
  | .name _, n => n == 0
  | .gap _, n => n == 0
  | .op _, n => n == 2
  | .row, _ => true
  | .more, n => n == 2
  | .first, n => n == 1
  | .others, n => n == 1
  | .long, n => n == 1
  | .tag _, _ => true
  | .call _, _ => true
  | .mat arms, n => n == arms.length + 1
  | .ife, n => n == 3
  | .lt _, n => n == 2
  | .fold _ _, n => n == 3
inductive Wf : Tm → Prop
  | mk {h : Hd} {ks : List Tm} : arOk h ks.length = true → (∀ k ∈ ks, Wf k) → Wf (.mk h ks)
/-- the names bound at each inner term -/
def bnd : Hd → Nat → List (List Str)
  | .mat arms, _ => [] :: arms.map (·.2)
  | .lt x, _ => [[], [x]]
  | .fold x y, _ => [[], [], [x, y]]
  | _, n => List.replicate n []
def armT (a : Str × List Str) (k : T) : T := .t [.s a.1, .t (a.2.map .s), k]
def encH : Hd → List T → T
  | .num n, _ => .t [.s "num", .i n]
  | .name x, _ => .t [.s "name", .s x]
  | .gap n, _ => .t [.s "gap", .i n]
  | .op s, ks => .t (.s "op" :: .s s :: ks)
  | .row, ks => .t [.s "row", .t ks]
  | .more, ks => .t (.s "more" :: ks)
  | .first, ks => .t (.s "first" :: ks)
  | .others, ks => .t (.s "others" :: ks)
  | .long, ks => .t (.s "long" :: ks)
  | .tag t, ks => .t [.s "tag", .s t, .t ks]
  | .call f, ks => .t [.s "call", .s f, .t ks]
  | .mat arms, ks => .t [.s "match", ks.headD .n, .t (List.zipWith armT arms ks.tail)]
  | .ife, ks => .t (.s "if" :: ks)
  | .lt x, ks => .t (.s "let" :: .s x :: ks)
  | .fold x y, ks => .t [.s "fold", ks.getD 0 .n, .s x, .s y, ks.getD 1 .n, ks.getD 2 .n]
mutual
def enc : Tm → T
  | .mk h ks => encH h (encs ks)
def encs : List Tm → List T
  | [] => []
  | k :: r => enc k :: encs r
end
theorem encs_map : ∀ ks : List Tm, encs ks = ks.map enc
  | [] => rfl
  | k :: r => by unfold encs; rw [encs_map r]; rfl
theorem enc_mk (h : Hd) (ks : List Tm) : enc (.mk h ks) = encH h (ks.map enc) := by unfold enc; rw [encs_map]
mutual
def Tm.size : Tm → Nat
  | .mk _ ks => Tm.sizes ks + 1
def Tm.sizes : List Tm → Nat
  | [] => 0
  | k :: r => k.size + Tm.sizes r
end
mutual
def Tm.depth : Tm → Nat
  | .mk _ [] => 0
  | .mk _ (k :: r) => Tm.depths (k :: r) + 1
def Tm.depths : List Tm → Nat
  | [] => 0
  | k :: r => max k.depth (Tm.depths r)
end
mutual
def Tm.parts : Tm → List Tm
  | .mk h ks => .mk h ks :: Tm.partss ks
def Tm.partss : List Tm → List Tm
  | [] => []
  | k :: r => k.parts ++ Tm.partss r
end
mutual
/-- each part with how deep it stands -/
def Tm.walk (d : Nat) : Tm → List (Tm × Nat)
  | .mk h ks => (.mk h ks, d) :: Tm.walks (d + 1) ks
def Tm.walks (d : Nat) : List Tm → List (Tm × Nat)
  | [] => []
  | k :: r => k.walk d ++ Tm.walks d r
end
theorem Tm.partss_cons (k : Tm) (r : List Tm) : Tm.partss (k :: r) = k.parts ++ Tm.partss r := by rw [Tm.partss]
theorem Tm.walks_cons (d : Nat) (k : Tm) (r : List Tm) : Tm.walks d (k :: r) = k.walk d ++ Tm.walks d r := by rw [Tm.walks]
theorem Tm.sizes_cons (k : Tm) (r : List Tm) : Tm.sizes (k :: r) = k.size + Tm.sizes r := by rw [Tm.sizes]
theorem Tm.size_mk (h : Hd) (ks : List Tm) : (Tm.mk h ks).size = Tm.sizes ks + 1 := by rw [Tm.size]
theorem Tm.depth_cons (h : Hd) (k : Tm) (r : List Tm) : (Tm.mk h (k :: r)).depth = Tm.depths (k :: r) + 1 := by rw [Tm.depth]
theorem Tm.parts_eq (h : Hd) (ks : List Tm) : (Tm.mk h ks).parts = .mk h ks :: Tm.partss ks := by unfold Tm.parts; rfl
theorem Tm.walk_eq (d : Nat) (h : Hd) (ks : List Tm) : (Tm.mk h ks).walk d = (.mk h ks, d) :: Tm.walks (d + 1) ks := by unfold Tm.walk; rfl
theorem Tm.partss_append : ∀ (a b : List Tm), Tm.partss (a ++ b) = Tm.partss a ++ Tm.partss b
  | [], b => by simp [Tm.partss]
  | k :: r, b => by rw [List.cons_append, Tm.partss_cons, Tm.partss_cons, Tm.partss_append r b, List.append_assoc]
theorem Tm.walks_append (d : Nat) : ∀ (a b : List Tm), Tm.walks d (a ++ b) = Tm.walks d a ++ Tm.walks d b
  | [], b => by simp [Tm.walks]
  | k :: r, b => by rw [List.cons_append, Tm.walks_cons, Tm.walks_cons, Tm.walks_append d r b, List.append_assoc]
theorem Tm.sizes_append : ∀ (a b : List Tm), Tm.sizes (a ++ b) = Tm.sizes a + Tm.sizes b
  | [], b => by simp [Tm.sizes]
  | k :: r, b => by rw [List.cons_append, Tm.sizes_cons, Tm.sizes_cons, Tm.sizes_append r b]; omega
theorem Tm.sizes_reverse : ∀ (a : List Tm), Tm.sizes a.reverse = Tm.sizes a
  | [] => rfl
  | k :: r => by rw [List.reverse_cons, Tm.sizes_append, Tm.sizes_reverse r]; simp only [Tm.sizes]; omega
theorem Tm.size_pos (a : Tm) : 0 < a.size := by cases a; unfold Tm.size; omega
theorem Tm.walks_parts_of {ks : List Tm} (ih : ∀ k ∈ ks, ∀ d, (k.walk d).map (·.1) = k.parts) : ∀ d, (Tm.walks d ks).map (·.1) = Tm.partss ks := by
  induction ks with
  | nil => intro d; rfl
  | cons k r ih2 =>
    intro d
    unfold Tm.walks Tm.partss
    rw [List.map_append, ih k (.head _) d, ih2 (fun x hx => ih x (.tail _ hx)) d]
theorem Tm.walk_parts (a : Tm) : ∀ d, (a.walk d).map (·.1) = a.parts := by
  induction a using Tm.induct with
  | hm h ks ih =>
    intro d
    rw [Tm.walk_eq, Tm.parts_eq, List.map_cons, Tm.walks_parts_of ih]
theorem Tm.parts_length (a : Tm) : a.parts.length = a.size := by
  induction a using Tm.induct with
  | hm h ks ih =>
    rw [Tm.parts_eq, List.length_cons]
    unfold Tm.size
    congr 1
    induction ks with
    | nil => rfl
    | cons k r ih2 =>
      unfold Tm.partss Tm.sizes
      rw [List.length_append, ih k (.head _), ih2 fun x hx => ih x (.tail _ hx)]
/-- the greatest depth in a walk -/
theorem Tm.walks_depth_of {ks : List Tm} (ih : ∀ k ∈ ks, ∀ d, (∃ p ∈ k.walk d, p.2 = d + k.depth) ∧ ∀ p ∈ k.walk d, p.2 ≤ d + k.depth) (ne : ks ≠ []) : ∀ d, (∃ p ∈ Tm.walks d ks, p.2 = d + Tm.depths ks) ∧ ∀ p ∈ Tm.walks d ks, p.2 ≤ d + Tm.depths ks := by
  induction ks with
  | nil => exact absurd rfl ne
  | cons k r ih2 =>
    intro d
    unfold Tm.walks Tm.depths
    obtain ⟨⟨p, hp, e⟩, le⟩ := ih k (.head _) d
    cases r with
    | nil =>
      simp only [Tm.walks, Tm.depths, List.append_nil]
      rw [Nat.max_eq_left (Nat.zero_le _)]
      exact ⟨⟨p, hp, e⟩, le⟩
    | cons k2 r2 =>
      obtain ⟨⟨q, hq, e2⟩, le2⟩ := ih2 (fun x hx => ih x (.tail _ hx)) (by simp) d
      constructor
      · rcases Nat.le_total k.depth (Tm.depths (k2 :: r2)) with z | z
        · exact ⟨q, List.mem_append_right _ hq, by rw [e2, Nat.max_eq_right z]⟩
        · exact ⟨p, List.mem_append_left _ hp, by rw [e, Nat.max_eq_left z]⟩
      · intro x hx
        rcases List.mem_append.mp hx with h | h
        · have := le x h; omega
        · have := le2 x h; omega
theorem Tm.walk_depth (a : Tm) : ∀ d, (∃ p ∈ a.walk d, p.2 = d + a.depth) ∧ ∀ p ∈ a.walk d, p.2 ≤ d + a.depth := by
  induction a using Tm.induct with
  | hm h ks ih =>
    intro d
    rw [Tm.walk_eq]
    cases ks with
    | nil => simp [Tm.walks, Tm.depth]
    | cons k r =>
      obtain ⟨⟨p, hp, e⟩, le⟩ := Tm.walks_depth_of ih (by simp) (d + 1)
      unfold Tm.depth
      refine ⟨⟨p, .tail _ hp, by omega⟩, fun x hx => ?_⟩
      cases hx with
      | head => show d ≤ _; omega
      | tail _ hx => have := le x hx; omega
theorem Tm.depths_mem {ks : List Tm} {k : Tm} (h : k ∈ ks) : k.depth ≤ Tm.depths ks := by
  induction ks with
  | nil => cases h
  | cons y r ih =>
    unfold Tm.depths
    cases h with
    | head => exact Nat.le_max_left _ _
    | tail _ h => exact Nat.le_trans (ih h) (Nat.le_max_right _ _)
theorem Tm.depth_mem {h : Hd} {ks : List Tm} {k : Tm} (m : k ∈ ks) : k.depth < (Tm.mk h ks).depth := by
  cases ks with
  | nil => cases m
  | cons y r => rw [Tm.depth_cons]; exact Nat.lt_succ_of_le (Tm.depths_mem m)
theorem Tm.depth_le {h : Hd} {ks : List Tm} {n : Nat} (a : ∀ k ∈ ks, k.depth ≤ n) : (Tm.mk h ks).depth ≤ n + 1 := by
  cases ks with
  | nil => unfold Tm.depth; omega
  | cons y r =>
    unfold Tm.depth
    refine Nat.succ_le_succ ?_
    generalize (y :: r) = l at a
    induction l with
    | nil => exact Nat.zero_le _
    | cons z q ih => unfold Tm.depths; exact Nat.max_le.mpr ⟨a z (.head _), ih fun k hk => a k (.tail _ hk)⟩
/-- how deep the tuple of a term is -/
theorem encH_dep (h : Hd) (ks : List T) {n : Nat} (a : ∀ k ∈ ks, k.dep ≤ n) : (encH h ks).dep ≤ n + 4 := by
  have big : ∀ xs : List T, (∀ x ∈ xs, x.dep ≤ n + 3) → (T.t xs).dep ≤ n + 4 := fun xs z => T.dep_t z
  have s0 : ∀ x : Str, (T.s x).dep ≤ n + 3 := fun _ => by unfold T.dep; omega
  have i0 : ∀ x : Int, (T.i x).dep ≤ n + 3 := fun _ => by unfold T.dep; omega
  have n0 : (T.n).dep ≤ n := by unfold T.dep; omega
  have k0 : ∀ x ∈ ks, x.dep ≤ n + 3 := fun x hx => Nat.le_trans (a x hx) (by omega)
  have t0 : (T.t ks).dep ≤ n + 3 := Nat.le_trans (T.dep_t a) (by omega)
  have g0 : ∀ i, (ks.getD i .n).dep ≤ n + 3 := fun i => by
    rw [List.getD_eq_getElem?_getD]
    cases e : ks[i]? with
    | none => exact Nat.le_trans n0 (by omega)
    | some x => exact k0 x (List.mem_of_getElem? e)
  have nms : ∀ xs : List Str, (T.t (xs.map .s)).dep ≤ 1 := fun xs => T.dep_t (n := 0) fun x hx => by
    obtain ⟨y, _, rfl⟩ := List.mem_map.mp hx
    unfold T.dep; omega
  have arm : ∀ (as : List (Str × List Str)) (q : List T), (∀ k ∈ q, k.dep ≤ n) → ∀ x ∈ List.zipWith armT as q, x.dep ≤ n + 2 := by
    intro as q hq x hx
    obtain ⟨i, hi⟩ := List.getElem?_of_mem hx
    rw [List.getElem?_zipWith] at hi
    split at hi
    · rename_i a' b' _ h2
      cases hi
      unfold armT
      have hb := hq b' (List.mem_of_getElem? h2)
      have e := nms a'.2
      refine T.dep_t fun y hy => ?_
      simp only [List.mem_cons, List.not_mem_nil, or_false] at hy
      rcases hy with rfl | rfl | rfl
      · unfold T.dep; omega
      · omega
      · omega
    · cases hi
  have mem2 : ∀ (x : T) (l : List T), x.dep ≤ n + 3 → (∀ y ∈ l, y.dep ≤ n + 3) → ∀ y ∈ x :: l, y.dep ≤ n + 3 := fun x l h1 h2 y hy => by
    cases hy with
    | head => exact h1
    | tail _ h => exact h2 y h
  have mem0 : ∀ y ∈ ([] : List T), y.dep ≤ n + 3 := fun _ h => nomatch h
  cases h <;> unfold encH <;> refine big _ ?_
  case num => exact mem2 _ _ (s0 _) (mem2 _ _ (i0 _) mem0)
  case name => exact mem2 _ _ (s0 _) (mem2 _ _ (s0 _) mem0)
  case gap => exact mem2 _ _ (s0 _) (mem2 _ _ (i0 _) mem0)
  case op => exact mem2 _ _ (s0 _) (mem2 _ _ (s0 _) k0)
  case row => exact mem2 _ _ (s0 _) (mem2 _ _ t0 mem0)
  case tag => exact mem2 _ _ (s0 _) (mem2 _ _ (s0 _) (mem2 _ _ t0 mem0))
  case call => exact mem2 _ _ (s0 _) (mem2 _ _ (s0 _) (mem2 _ _ t0 mem0))
  case mat arms =>
    refine mem2 _ _ (s0 _) (mem2 _ _ ?_ (mem2 _ _ (T.dep_t (arm arms ks.tail fun k hk => a k (List.mem_of_mem_tail hk))) mem0))
    cases ks with
    | nil => exact Nat.le_trans n0 (by omega)
    | cons k r => exact k0 k (.head _)
  case lt => exact mem2 _ _ (s0 _) (mem2 _ _ (s0 _) k0)
  case fold => exact mem2 _ _ (s0 _) (mem2 _ _ (g0 _) (mem2 _ _ (s0 _) (mem2 _ _ (s0 _) (mem2 _ _ (g0 _) (mem2 _ _ (g0 _) mem0)))))
  all_goals exact mem2 _ _ (s0 _) k0
theorem enc_dep (a : Tm) : (enc a).dep ≤ 4 * a.depth + 4 := by
  induction a using Tm.induct with
  | hm h ks ih =>
    rw [enc_mk]
    cases ks with
    | nil => exact Nat.le_trans (encH_dep h _ (n := 0) fun k hk => nomatch hk) (by omega)
    | cons k r =>
      refine encH_dep h _ (n := 4 * (Tm.mk h (k :: r)).depth) fun x hx => ?_
      obtain ⟨y, hy, rfl⟩ := List.mem_map.mp hx
      have z := Tm.depth_mem (h := h) hy
      have q := ih y hy
      omega
end L2

namespace L2
open PySem PySem.Spec PyProof.Rows
/-! ### comprehensions: one clause, tests or none, no error -/
def cellsFor (env : Env) : List (Str × NameKind) → List (Str × Addr) → List (Str × Addr)
  | [], cs => cs
  | (n, k) :: r, cs => cellsFor env r (if k == .free then (n, (env.cells.lookup n).getD 0) :: cs else cs)
theorem closureFor_eq {scope : Scope} {env : Env} (h : ∀ x ∈ scope.names, x.2 = .free → ∃ c, env.cells.lookup x.1 = some c) : closureFor scope env = pure (cellsFor env scope.names []) := by
  have go : ∀ (l : List (Str × NameKind)) (cs : List (Str × Addr)), (∀ x ∈ l, x.2 = .free → ∃ c, env.cells.lookup x.1 = some c) →
      (forIn l cs fun x r => if (x.2 == NameKind.free) = true then do let a ← cellOf env x.1; pure (ForInStep.yield ((x.1, a) :: r)) else pure (ForInStep.yield r) : Sem (List (Str × Addr))) = pure (cellsFor env l cs) := by
    intro l
    induction l with
    | nil => intro cs _; rfl
    | cons x r ih =>
      intro cs hx
      obtain ⟨n, k⟩ := x
      rw [List.forIn_cons]
      by_cases hk : k = .free
      · subst hk
        obtain ⟨c, hc⟩ := hx (n, .free) List.mem_cons_self rfl
        have e : cellOf env n = pure c := by unfold cellOf; rw [show env.cells.lookup n = some c from hc]
        simp only [beq_self_eq_true, if_true, e, pure_bind]
        rw [ih _ fun y hy => hx y (List.mem_cons_of_mem _ hy)]
        unfold cellsFor
        rw [show env.cells.lookup n = some c from hc]
        cases r <;> rfl
      · have hb : (k == NameKind.free) = false := by simpa using hk
        simp only [hb, Bool.false_eq_true, if_false, pure_bind]
        rw [ih _ fun y hy => hx y (List.mem_cons_of_mem _ hy)]
        conv => rhs; unfold cellsFor
        simp only [hb, Bool.false_eq_true, if_false]
  simp only [closureFor]
  have g := go scope.names [] h
  simp only [g]
  rfl
theorem cellsFor_sub {env : Env} : ∀ (l : List (Str × NameKind)) (cs : List (Str × Addr)), (∀ x ∈ l, x.2 = .free → ∃ c, env.cells.lookup x.1 = some c) → (∀ y c, cs.lookup y = some c → env.cells.lookup y = some c) →
    ∀ y c, (cellsFor env l cs).lookup y = some c → env.cells.lookup y = some c
  | [], _, _, hc => hc
  | (n, k) :: r, cs, hl, hc => by
    refine cellsFor_sub r _ (fun x hx => hl x (List.mem_cons_of_mem _ hx)) fun y c e => ?_
    by_cases hk : (k == NameKind.free) = true
    · rw [if_pos hk] at e
      rw [List.lookup_cons] at e
      by_cases hy : y = n
      · subst hy
        simp only [beq_self_eq_true] at e
        obtain ⟨c', hc'⟩ := hl (y, k) List.mem_cons_self (by simpa using hk)
        have hc'' : env.cells.lookup y = some c' := hc'
        rw [hc''] at e ⊢
        exact e
      · have hb : (y == n) = false := beq_eq_false_iff_ne.mpr hy
        rw [hb] at e
        exact hc y c e
    · rw [if_neg hk] at e
      exact hc y c e
theorem cellsFor_keep {env : Env} : ∀ (l : List (Str × NameKind)) (cs : List (Str × Addr)) (y : Str), (∃ c, cs.lookup y = some c) → ∃ c, (cellsFor env l cs).lookup y = some c
  | [], _, _, h => h
  | (n, k) :: r, cs, y, h => by
    refine cellsFor_keep r _ y ?_
    by_cases hk : (k == NameKind.free) = true
    · rw [if_pos hk, List.lookup_cons]
      cases hb : (y == n) with
      | true => exact ⟨_, rfl⟩
      | false => exact h
    · rw [if_neg hk]; exact h
theorem cellsFor_has {env : Env} : ∀ (l : List (Str × NameKind)) (cs : List (Str × Addr)) (y : Str), (y, NameKind.free) ∈ l → ∃ c, (cellsFor env l cs).lookup y = some c
  | [], _, _, h => nomatch h
  | (n, k) :: r, cs, y, h => by
    rcases List.mem_cons.mp h with e | h
    · have e1 : y = n := congrArg Prod.fst e
      have e2 : NameKind.free = k := congrArg Prod.snd e
      subst e1
      subst e2
      refine cellsFor_keep r _ y ⟨(env.cells.lookup y).getD 0, ?_⟩
      rw [if_pos (by rfl), List.lookup_cons, beq_self_eq_true]
    · exact cellsFor_has r _ y h
theorem relabel_shape {env : Env} : ∀ {names : List (Str × NameKind)} {x : Str} {k' : NameKind}, (names.map fun (n, k) => if (k == NameKind.free && env.scope.kind == .function && env.kindOf n == some .cell) then (n, NameKind.cell) else (n, k)).lookup x = some k' →
    names.lookup x = some k' ∨ (k' = .cell ∧ names.lookup x = some .free)
  | [], _, _, h => by simp at h
  | (n, k) :: r, x, k', h => by
    have ih := @relabel_shape env r x k'
    change List.lookup x ((if (k == NameKind.free && env.scope.kind == .function && env.kindOf n == some .cell) = true then (n, NameKind.cell) else (n, k)) :: _) = _ at h
    cases hx : x == n with
    | true =>
      by_cases hc : (k == NameKind.free && env.scope.kind == .function && env.kindOf n == some .cell) = true
      · rw [if_pos hc] at h
        simp only [List.lookup_cons, hx] at h
        cases h
        have hk : k = .free := by simp at hc; exact hc.1.1
        subst hk
        exact .inr ⟨rfl, by simp only [List.lookup_cons, hx]⟩
      · rw [if_neg hc] at h
        simp only [List.lookup_cons, hx] at h
        cases h
        exact .inl (by simp only [List.lookup_cons, hx])
    | false =>
      by_cases hc : (k == NameKind.free && env.scope.kind == .function && env.kindOf n == some .cell) = true
      · rw [if_pos hc] at h
        simp only [List.lookup_cons, hx] at h ⊢
        exact ih h
      · rw [if_neg hc] at h
        simp only [List.lookup_cons, hx] at h ⊢
        exact ih h
theorem relabel_free {env : Env} : ∀ {names : List (Str × NameKind)} {x : Str}, names.lookup x = some .free →
    (names.map fun (n, k) => if (k == NameKind.free && env.scope.kind == .function && env.kindOf n == some .cell) then (n, NameKind.cell) else (n, k)).lookup x = some .cell ∨
    (names.map fun (n, k) => if (k == NameKind.free && env.scope.kind == .function && env.kindOf n == some .cell) then (n, NameKind.cell) else (n, k)).lookup x = some .free
  | [], _, h => by simp at h
  | (n, k) :: r, x, h => by
    have ih := @relabel_free env r x
    show List.lookup x ((if (k == NameKind.free && env.scope.kind == .function && env.kindOf n == some .cell) = true then (n, NameKind.cell) else (n, k)) :: _) = _ ∨ List.lookup x ((if (k == NameKind.free && env.scope.kind == .function && env.kindOf n == some .cell) = true then (n, NameKind.cell) else (n, k)) :: _) = _
    cases hx : x == n with
    | true =>
      simp only [List.lookup_cons, hx] at h
      cases h
      by_cases hc : (NameKind.free == NameKind.free && env.scope.kind == .function && env.kindOf n == some .cell) = true
      · rw [if_pos hc]; exact .inl (by simp only [List.lookup_cons, hx])
      · rw [if_neg hc]; exact .inr (by simp only [List.lookup_cons, hx])
    | false =>
      simp only [List.lookup_cons, hx] at h
      by_cases hc : (k == NameKind.free && env.scope.kind == .function && env.kindOf n == some .cell) = true
      · rw [if_pos hc]; simp only [List.lookup_cons, hx]; exact ih h
      · rw [if_neg hc]; simp only [List.lookup_cons, hx]; exact ih h
section
variable {prog : Program} {w : World} {A : Around} {R : Result → Shared → Prop} {s : Shared}
theorem codeAny_compLoop_any {elt target iter : Expr} {ifs : List Expr} {scope : Scope} {pos : Pos} {it acc : Value} {env : Env} {E : Value → Shared → Prop} (I : Nat → Shared → Prop)
    (turn : ∀ n s, I n s → wpAny (model prog w) A (pyNext it) (fun r s₁ => match r with
      | none => R (.ok .next) s₁
      | some v => wpAny (model prog w) A (letOwnedTupleGo target it v) (fun _ s₁' => wpAny (model prog w) A (assign target env v) (fun _ s₂ =>
          wpAny (model prog w) A (forIn ifs true fun c r => if r = true then do let ok ← isTrue c env (eval c env); pure (ForInStep.yield ok) else pure (ForInStep.yield r)) (fun ok s₃ =>
            if ok = true then wpAny (model prog w) A (eval elt env) (fun x s₄ =>
              wpAny (model prog w) A (call (.builtin "list.append") [acc, x]) (fun _ s₅ => ∃ m, m < n ∧ I m s₅) E s₄) E s₃
            else ∃ m, m < n ∧ I m s₃) E s₂) E s₁') E s₁) E s)
    (hE : ∀ e s', E e s' → notedBy (model prog w) A env (fun e s' => R (.error e) s') e s')
    (n : Nat) (h : I n s) :
    codeAny (model prog w) A (.compLoop (.ListComp elt [⟨target, iter, ifs, 0⟩] scope pos) 0 it acc env) R s := by
  refine codeAny_loop rfl I (fun n s hI => ?_) n h
  show wpAny _ A ((compTurn (.ListComp elt [⟨target, iter, ifs, 0⟩] scope pos) 0 it acc env).onRaise (fun x => do noteFrame x env; theTreesLotGoes x)) _ _ s
  refine wpAny_noted ?_
  rw [compTurn_list]
  refine wpAny_bind (wpAny_standAt (wpAny_bind (wpAny_mono (turn n s hI) (fun r s₁ h₁ => ?_) hE)))
  cases r with
  | none => exact wpAny_pure h₁
  | some v =>
    refine wpAny_bind (wpAny_mono h₁ (fun _ s₁' h₁' => ?_) hE)
    refine wpAny_bind (wpAny_mono h₁' (fun _ s₂ h₂ => wpAny_bind (wpAny_mono h₂ (fun ok s₃ h₃ => ?_) hE)) hE)
    cases ok with
    | false => exact wpAny_pure ⟨rfl, h₃⟩
    | true =>
      exact wpAny_bind (wpAny_bind (wpAny_mono h₃ (fun x s₄ h₄ => wpAny_bind (wpAny_mono h₄ (fun _ s₅ h₅ => wpAny_pure (wpAny_pure ⟨rfl, h₅⟩)) hE)) hE))
end
/-- the block's own context: entered at s₂, H₂, the iterator's records fp, the block's names at C -/
def cxComp (X : Cx) (scope : Scope) (N' : List Str) (fp : List Addr) (C : Addr) (s₂ : Shared) (H₂ : Hp) : Cx where
  prog := X.prog
  w := X.w
  K := X.K
  mg := X.mg
  base := X.base
  A := X.A
  N := N'
  s₀ := s₂
  H₀ := H₂
  env := compEnvC scope (cellsFor X.env scope.names []) C X.env
  outer := X.stack
  stack := X.stack
  ex := fp
  fn := fun _ => false
  calm := X.calm
  pn := []
  xe := fun _ _ => False
/-- the tests of a clause -/
def PIfs (X : Cx) (ifs : List Expr) (t : TT) : Prop :=
  ∀ (pins : List (Addr × Obj)) (s : Shared) (σ : St) (H : Hp) (Q : Bool → Hp → Prop), Inv X pins σ H s → t σ H Q →
    wpAny (model X.prog X.w) X.A (forIn ifs true fun c r => if r = true then do let ok ← isTrue c X.env (eval c X.env); pure (ForInStep.yield ok) else pure (ForInStep.yield r)) (TP X pins σ Q) X.xe s
def tNoIf : TT := fun _ H Q => Q true H
theorem pifs_nil {X : Cx} : PIfs X [] tNoIf := fun pins s σ H Q I h => by
  rw [List.forIn_nil]
  exact wpAny_pure ⟨H, I, h⟩
theorem pifs_one {X : Cx} {c : Expr} {t : TT} (hc : PT X c t) : PIfs X [c] t := fun pins s σ H Q I h => by
  simp only [List.forIn_cons, List.forIn_nil, if_true]
  exact wpAny_bind (wpAny_bind (wpAny_mono (hc pins s σ H Q I h) (fun b s' hb => wpAny_pure (wpAny_pure hb)) fun _ _ x => x))
def innerSt (own : Nat) (fr : List Nat) (σ : St) : St := List.replicate own none ++ fr.map fun j => (σ[j]?).join
def CompW (J : It) (g : TG) (tt : TT) (te : TE) (Q : VK) (σ0 : St) (H0 : Hp) : Prop := ∃ W : Nat → Nat → St → List V → Hp → Prop, (∃ m, W 0 m σ0 [] H0) ∧ ∀ i m σ' vs H, W i m σ' vs H →
  (J.stop i H ∧ vs.length ≤ sizeLine ∧ ∀ p, H p = none → Q (.ref p) (upd H p (.lst vs))) ∨
  (J.go i H ∧ vs.length < sizeLine ∧ ∃ N : St → List V → Hp → Prop, (∀ σ2 vs2 H2, N σ2 vs2 H2 → ∃ m', m' < m ∧ W (i + 1) m' σ2 vs2 H2) ∧ ∀ x H', J.yld i H x H' → g x σ' H' fun σ2 H2 => tt σ2 H2 fun ok H3 =>
    if ok = true then te σ2 H3 fun v H4 => N σ2 (vs ++ [v]) H4 else N σ2 vs H3)
def tComp (own : Nat) (fr : List Nat) (wi : TI) (g : TG) (tt : TT) (te : TE) : TE := fun σ H Q => wi σ H fun J H1 => CompW J g tt te Q (innerSt own fr σ) H1
section
variable {X : Cx} {pins : List (Addr × Obj)} {σ : St} {H : Hp} {s : Shared}
theorem inner_ok {own : List Str} {fr : List Nat} (hl : σ.length = X.N.length) {i : Nat} {x : Str} {v : V} (h1 : (own ++ fr.map fun j => X.N.getD j Str.empty)[i]? = some x) (h2 : (innerSt own.length fr σ)[i]? = some (some v)) :
    ∃ j ∈ fr, X.N[j]? = some x ∧ X.N.getD j Str.empty = x ∧ σ[j]? = some (some v) := by
  unfold innerSt at h2
  by_cases hi : i < own.length
  · rw [List.getElem?_append_left (by simpa using hi), List.getElem?_replicate, if_pos hi] at h2
    cases h2
  · rw [List.getElem?_append_right (by simpa using hi), List.length_replicate, List.getElem?_map] at h2
    rw [List.getElem?_append_right (by omega), List.getElem?_map] at h1
    cases e : fr[i - own.length]? with
    | none => rw [e] at h2; cases h2
    | some j =>
      rw [e] at h1 h2
      simp only [Option.map_some, Option.some.injEq] at h1 h2
      have hj : σ[j]? = some (some v) := by
        cases q : σ[j]? with
        | none => rw [q] at h2; cases h2
        | some o => rw [q] at h2; exact congrArg some h2
      have hjl : j < X.N.length := by rw [← hl]; exact (List.getElem?_eq_some_iff.mp hj).1
      refine ⟨j, List.mem_of_getElem? e, ?_, h1, hj⟩
      rw [← h1, List.getD_eq_getElem?_getD, List.getElem?_eq_getElem hjl]
      rfl
/-- the block is entered -/
theorem comp_enter {scope : Scope} {own : List Str} {fr : List Nat} {fp : List Addr} {C : Addr} {h₁ : Heap} {tk : Nat} {m : Str → Option Value} (I : Inv X pins σ H s)
    (hkind : scope.kind = .function) (hcell : ∀ x ∈ scope.names, x.2 ≠ .cell) (hfr : ∀ x ∈ scope.names, x.2 = .free → X.env.scope.names.lookup x.1 = some .cell ∨ X.env.scope.names.lookup x.1 = some .free)
    (hin : ∀ j ∈ fr, scope.names.lookup (X.N.getD j Str.empty) = some .free) (hC : s.heap.objs.size ≤ C) (hf : ∀ b ∈ fp, FpOk X pins H b) (hfo : ∀ b ∈ fp, b < s.heap.objs.size)
    (old : ∀ b o, s.heap.get? b = some o → h₁.get? b = some o) (hn : h₁.Ns C m) :
    Inv (cxComp X scope (own ++ fr.map fun j => X.N.getD j Str.empty) fp C s H) [] (innerSt own.length fr σ) H { s with heap := h₁, toks := tk } := by
  have hfree : ∀ x ∈ scope.names, x.2 = .free → ∃ c, X.env.cells.lookup x.1 = some c := fun x hx e => I.ok.has x.1 (hfr x hx e)
  have sub : ∀ y c, (cellsFor X.env scope.names []).lookup y = some c → X.env.cells.lookup y = some c := cellsFor_sub _ _ hfree (by intro y c e; simp at e)
  have hasF : ∀ y, scope.names.lookup y = some .free → ∃ c, (cellsFor X.env scope.names []).lookup y = some c := fun y e => cellsFor_has _ _ _ (PySem.mem_of_lookup e)
  refine ⟨⟨I.ok.mod, ?_, I.ok.glob, I.ok.blt, hC, fun x y c h1 h2 => I.ok.inj x y c (sub x c h1) (sub y c h2), fun x hx => ?_, (fun x c hx => nomatch hx), I.ok.hd, I.ok.frames, .inl rfl, fun b hb => ?_, I.bs, Nat.le_trans I.ok.bsz I.sz, fun b o e hb => ?_, fun b hb z => ?_, I.stack, I.stkFree⟩,
    rfl, I.bare, Un.kept old, ⟨m, hn, fun i x v h1 h2 h3 => ?_⟩, fun x c e => ?_, I.hok.fresh hC, fun x c e => I.freeC x c (sub x c e), fun p hp => absurd (show p ∈ ([] : List (Addr × Obj)) from hp) (by simp), I.hok.kept old, ?_⟩
  · exact hkind
  · have hx' : (relabel scope X.env).names.lookup x = some .cell ∨ (relabel scope X.env).names.lookup x = some .free := hx
    have hx2 : scope.names.lookup x = some .free := by
      rcases hx' with e | e
      · rcases relabel_shape e with e | ⟨_, e⟩
        · exact absurd rfl (hcell _ (PySem.mem_of_lookup e))
        · exact e
      · rcases relabel_shape e with e | ⟨z, _⟩
        · exact e
        · cases z
    exact hasF x hx2
  · refine ⟨Nat.ne_of_lt (Nat.lt_of_lt_of_le (hfo b hb) hC), fun x c e => (hf b hb).2.2.2.2.1 x c (sub x c e)⟩
  · rcases (hf b hb).2.2.2.1 with z | z
    · exact I.ok.noex b o e z
    · exact absurd (Nat.lt_of_lt_of_le (Heap.lt_size e) (Nat.le_trans I.ok.bsz z)) (Nat.lt_irrefl _)
  · have hb' : b ∈ fp := hb
    have z' : b ∈ frs X.stack := z
    rcases List.mem_cons.mp (I.stkSub b z') with e | e
    · exact (hf b hb').2.1 e
    · exact (hf b hb').2.2.1 e
  · obtain ⟨j, hj, e1, e2, e3⟩ := inner_ok (own := own) I.len h1 h2
    have hxf : scope.names.lookup x = some .free := by rw [← e2]; exact hin j hj
    have hk := hfr _ (PySem.mem_of_lookup hxf) rfl
    obtain ⟨m0, hn0, hl0⟩ := I.loc
    obtain ⟨u, r, l⟩ := hl0 j x v e1 e3 (.inr hk)
    refine ⟨u, r, ?_⟩
    rcases l with ⟨k, _⟩ | ⟨_, c, ec, z⟩
    · have k' : X.env.scope.names.lookup x = some .local := k
      rcases hk with q | q <;> (rw [show X.env.scope.names.lookup x = _ from q] at k'; cases k')
    · obtain ⟨c', ec'⟩ := hasF x hxf
      have := sub x c' ec'
      rw [ec] at this
      cases this
      obtain ⟨o, ho, hd⟩ := z
      exact .inr ⟨relabel_free hxf, c, ec', o, old c o ho, hd⟩
  · obtain ⟨v, o, ho, hd⟩ := I.cell x c (sub x c e)
    exact ⟨v, o, old c o ho, hd⟩
  · show (innerSt own.length fr σ).length = (own ++ fr.map fun j => X.N.getD j Str.empty).length
    simp [innerSt]
/-- the block is left: what it told is laid -/
theorem comp_leave {scope : Scope} {N' : List Str} {fp : List Addr} {C D : Addr} {s' : Shared} {H' : Hp} {σ' : St} {pins' : List (Addr × Obj)} {vs : List V} {ys : Array Value} {h'' : Heap} (I : Inv X pins σ H s) (hf : ∀ b ∈ fp, FpOk X pins H b)
    (I' : Inv (cxComp X scope N' fp C s H) pins' σ' H' s') (hC : s.heap.objs.size ≤ C) (hD : s.heap.objs.size ≤ D) (hDC : D ≠ C) (hDn : H' D = none) (pl : s'.heap.PlainList D ys) (rv : Vals vs ys.toList) (hz : vs.length ≤ sizeLine) (hs : Heap.SameBut C s'.heap h'') :
    Inv X pins σ (upd H' D (.lst vs)) { s' with heap := h'' } := by
  have un : Un (frs X.stack) fp H H' s.heap s'.heap := I'.base
  have hCn : H' C = none := I'.free
  have at' : ∀ b, b ≠ C → h''.get? b = s'.heap.get? b := fun b hb => hs.2 b hb
  have neC : ∀ b o, s.heap.get? b = some o → b ≠ C := fun b o e => Nat.ne_of_lt (Nat.lt_of_lt_of_le (Heap.lt_size e) hC)
  have neD : ∀ b o, s.heap.get? b = some o → b ≠ D := fun b o e => Nat.ne_of_lt (Nat.lt_of_lt_of_le (Heap.lt_size e) hD)
  have okHD : ∀ b u, H b = some u → b ≠ D := fun b u e => Nat.ne_of_lt (Nat.lt_of_lt_of_le (I.hok.lt e) hD)
  have un' : Un (frs X.stack) fp H (upd H' D (.lst vs)) s.heap h'' := by
    refine ⟨fun b o e n h1 h2 => ?_, fun b o e n h1 h2 => ?_, fun b o e n h2 => ?_, fun b o e h2 => ?_, fun b xs e => ?_, fun b o u e => ?_, fun b ps e => ?_⟩
    · rw [at' b (neC b o e)]; exact un.keep b o e n h1 h2
    · rw [at' b (neC b o e)]; exact un.slot b o e n h1 h2
    · rw [upd_ne (neD b o e)]; exact un.free b o e n h2
    · rw [at' b (neC b o e)]; exact un.there b o e h2
    · rw [upd_ne (okHD b _ e)]; exact un.tups b xs e
    · rw [upd_ne (okHD b _ e)]; exact un.frzs b o u e
    · rw [upd_ne (okHD b _ e)]; exact un.tbls b ps e
  have hok : HOk X.prog X.w (upd H' D (.lst vs)) h'' := fun b u e => by
    by_cases hb : b = D
    · subst hb
      rw [upd_same] at e
      cases e
      obtain ⟨n, ho⟩ := pl
      refine ⟨hz, ys.toList, n, rv, ?_⟩
      rw [at' b hDC]
      simpa using ho
    · rw [upd_ne hb] at e
      refine (I'.hok b u e).stay (fun c v hc q => ?_) (fun c q => ?_) fun c xs q => ?_
      · rw [at' c ?_]; exact q
        rintro rfl
        rcases hc with z | z
        · rw [← z, hCn] at e; cases e
        · rw [hCn] at z; cases z
      · rw [upd_ne (fun z => by rw [z, hDn] at q; cases q)]; exact q
      · rw [upd_ne (fun z => by rw [z, hDn] at q; cases q)]; exact q
  exact I.call' (s' := { s' with heap := h'' }) (ch := fp) I'.os un' hok I'.bare fun b hb => ⟨(hf b hb).2.2.2.1, (hf b hb).2.1, (hf b hb).2.2.2.2.1, (hf b hb).2.2.2.2.2⟩
end
section
variable {X : Cx}
/-- [elt for tg in iter if ..]: own: the names that it binds, fr: the slots of the names around that it reads -/
theorem pe_comp {elt iter tg : Expr} {ifs : List Expr} {scope : Scope} {pos : Pos} {wi : TI} {g : TG} {tt : TT} {te : TE} (own : List Str) (fr : List Nat) (hc : X.calm = true)
    (hkind : scope.kind = .function) (hcell : ∀ x ∈ scope.names, x.2 ≠ .cell) (hnames : ∀ x ∈ scope.names, x.2 = .local → scope.names.lookup x.1 = some .local)
    (hfr : ∀ x ∈ scope.names, x.2 = .free → X.env.scope.names.lookup x.1 = some .cell ∨ X.env.scope.names.lookup x.1 = some .free)
    (hin : ∀ j ∈ fr, scope.names.lookup (X.N.getD j Str.empty) = some .free)
    (hi : PI X tg iter wi) (hg : ∀ fp C s H, PG (cxComp X scope (own ++ fr.map fun j => X.N.getD j Str.empty) fp C s H) tg g)
    (ht : ∀ fp C s H, PIfs (cxComp X scope (own ++ fr.map fun j => X.N.getD j Str.empty) fp C s H) ifs tt)
    (he : ∀ fp C s H, PE (cxComp X scope (own ++ fr.map fun j => X.N.getD j Str.empty) fp C s H) elt te)
    (hs : ∀ x, foldedSetIterable iter X.env x = pure x := by intro _; rfl) : PE X (.ListComp elt [⟨tg, iter, ifs, 0⟩] scope pos) (tComp own.length fr wi g tt te) := by
  intro pins s σ H Q I h
  rw [eval_ListComp]
  have hfree : ∀ x ∈ scope.names, x.2 = .free → ∃ c, X.env.cells.lookup x.1 = some c := fun x hx e => I.ok.has x.1 (hfr x hx e)
  refine wpAny_comprehension_free (use := none) rfl hs (closureFor_eq hfree) hkind hnames ?_
  refine thn (hi pins s σ H _ I h) fun v s1 h1 => thn h1 fun itv s2 h2 => ?_
  obtain ⟨it, fp, tn, J, H2, e, I2, T, st2, f2, W, ⟨m0, w0⟩, turn⟩ := h2
  subst e
  have hfo : ∀ b ∈ fp, b < s2.heap.objs.size := fun b hb => by obtain ⟨o, e, _⟩ := T.obj 0 _ st2 b hb; exact Heap.lt_size e
  refine wpAny_newObj_type (wpAny_newFunctionEnv hcell (by intro y hy; simp at hy) (fun h₁ hns₁ hsb₁ => ?_) hkind)
  dsimp only at hns₁ hsb₁ ⊢
  generalize hH2 : s2.heap.push { cls := .type "list", dict := none, data := .seq ([] : List Value).toArray } = G2 at hns₁ hsb₁ ⊢
  have hC : G2.objs.size = s2.heap.objs.size + 1 := by rw [← hH2, Heap.size_push]
  have hDC : s2.heap.objs.size ≠ G2.objs.size := by rw [hC]; exact Nat.ne_of_lt (Nat.lt_succ_self _)
  have hCle : s2.heap.objs.size ≤ G2.objs.size := by rw [hC]; exact Nat.le_succ _
  have old : ∀ b o, s2.heap.get? b = some o → h₁.get? b = some o := fun b o e => hsb₁.extBut b o (by rw [hC]; exact Nat.ne_of_lt (Nat.lt_succ_of_lt (Heap.lt_size e))) (Heap.get?_push_of_some _ (hH2 ▸ Heap.get?_push_of_some _ e))
  have hacc : h₁.PlainList s2.heap.objs.size #[] := ⟨_, hsb₁.extBut _ _ hDC (Heap.get?_push_of_some _ (hH2 ▸ Heap.get?_push_size _ rfl))⟩
  have I3 : Inv (cxComp X scope (own ++ fr.map fun j => X.N.getD j Str.empty) fp G2.objs.size s2 H2) [] (innerSt own.length fr σ) H2 { s2 with heap := h₁, toks := s2.toks + ([] : List (Str × Value)).length } :=
    comp_enter I2 hkind hcell hfr hin hCle f2 hfo old hns₁
  have st3 : tn 0 h₁ := T.keep 0 _ _ st2 fun b _ o e => old b o e
  have hDf : s2.heap.objs.size ∉ fp := fun hm => Nat.lt_irrefl _ (hfo _ hm)
  have hDn2 : H2 s2.heap.objs.size = none := I2.hok.fresh (Nat.le_refl _)
  have sub : ∀ y c, (cellsFor X.env scope.names []).lookup y = some c → X.env.cells.lookup y = some c := cellsFor_sub _ _ hfree (by intro y c e; simp at e)
  have cellD : ∀ y c, (cellsFor X.env scope.names []).lookup y = some c → c ≠ s2.heap.objs.size := fun y c e => by
    obtain ⟨_, o, ho, _⟩ := I2.cell y c (sub y c e)
    exact Nat.ne_of_lt (Heap.lt_size ho)
  have Dfs : s2.heap.objs.size ∉ frs X.stack := fun z => by
    rcases List.mem_cons.mp (I2.stkSub _ z) with e | e
    · exact absurd I2.lt (by rw [← e]; exact Nat.lt_irrefl _)
    · exact I2.nofs (Nat.le_refl _) e
  -- the iterator's records, in the block's context
  have stat : ∀ {H' : Hp} {pl : List (Addr × Obj)}, (∀ b ∈ fp, H' b = none) → (∀ p ∈ pl, p.1 = s2.heap.objs.size) → ∀ b ∈ fp, FpOk (cxComp X scope (own ++ fr.map fun j => X.N.getD j Str.empty) fp G2.objs.size s2 H2) pl H' b := fun {H' pl} hn hp b hb => by
    refine ⟨hn b hb, (I3.ok.exf b hb).1, I3.ok.exfs b hb, .inl hb, (I3.ok.exf b hb).2, fun p hpp z => ?_⟩
    have hpp' : p ∈ pl := by simpa [cxComp] using hpp
    exact hDf (by rw [← hp p hpp', z]; exact hb)
  have pinD : ∀ {σ' : St} {H' : Hp} {s' : Shared} {ys : Array Value} {n : Nat}, Inv (cxComp X scope (own ++ fr.map fun j => X.N.getD j Str.empty) fp G2.objs.size s2 H2) [] σ' H' s' → H' s2.heap.objs.size = none → s'.heap.get? s2.heap.objs.size = some { cls := .type "list", data := .seq ys n } →
      Inv (cxComp X scope (own ++ fr.map fun j => X.N.getD j Str.empty) fp G2.objs.size s2 H2) [(s2.heap.objs.size, { cls := .type "list", data := .seq ys n })] σ' H' s' := fun {σ' H' s' ys n} J hn e => J.pins_of fun p hp => by
    have e' : p = (s2.heap.objs.size, { cls := .type "list", data := .seq ys n }) := by simpa using hp
    subst e'
    exact ⟨e, hn, hDC, Dfs, fun v z => nomatch z⟩
  have loop : codeAny (model X.prog X.w) X.A (.compLoop (.ListComp elt [⟨tg, iter, ifs, 0⟩] scope pos) 0 (.ref it) (.ref s2.heap.objs.size) (compEnvC scope (cellsFor X.env scope.names []) G2.objs.size X.env))
      (compPost (model X.prog X.w) X.A X.xe none (EP X pins σ Q) (.ref s2.heap.objs.size) G2.objs.size) { s2 with heap := h₁, toks := s2.toks + ([] : List (Str × Value)).length } := by
    refine codeAny_compLoop_any (E := fun _ _ => False) (fun n s' => ∃ i σ' H' vs ys, Inv (cxComp X scope (own ++ fr.map fun j => X.N.getD j Str.empty) fp G2.objs.size s2 H2) [] σ' H' s' ∧ tn i s'.heap ∧ (∀ b ∈ fp, H' b = none) ∧ H' s2.heap.objs.size = none ∧ s'.heap.PlainList s2.heap.objs.size ys ∧ Vals vs ys.toList ∧ W i n σ' vs H')
      ?_ (fun _ _ z => z.elim) m0 ⟨0, _, H2, [], #[], I3, st3, fun b hb => (f2 b hb).1, hDn2, hacc, .nil, w0⟩
    rintro n s3 ⟨i, σ3, H3, vs, ys, J3, st3, fr3, dn3, ⟨pn, pl3⟩, rv, w3⟩
    have J3' := pinD J3 dn3 pl3
    have hpins : ∀ p ∈ [(s2.heap.objs.size, ({ cls := .type "list", data := .seq ys pn } : Obj))], p.1 = s2.heap.objs.size := fun p hp => by
      have e' : p = (s2.heap.objs.size, { cls := .type "list", data := .seq ys pn }) := by simpa using hp
      rw [e']
    rcases turn i n σ3 vs H3 w3 with ⟨stop, hz, q⟩ | ⟨go, hz, N, hN, step⟩
    · refine thn (T.done (cxComp X scope (own ++ fr.map fun j => X.N.getD j Str.empty) fp G2.objs.size s2 H2) rfl rfl rfl hc i _ s3 σ3 H3 (fun _ _ => False) J3' (stat fr3 hpins) st3 stop) fun r s4 ⟨hr, J4⟩ => ?_
      subst hr
      obtain ⟨m4, hn4, _⟩ := id J4.loc
      refine ⟨m4, hn4, fun h' hs' => ?_⟩
      have e4 : s4.heap.get? s2.heap.objs.size = some { cls := .type "list", data := .seq ys pn } := (J4.pin (s2.heap.objs.size, { cls := .type "list", data := .seq ys pn }) (List.mem_append_right _ (by simp))).1
      exact ⟨.ref s2.heap.objs.size, _, comp_leave I2 f2 J4 hCle (Nat.le_refl _) hDC dn3 ⟨pn, e4⟩ rv hz hs', rfl, q _ dn3⟩
    · refine thn (T.item (cxComp X scope (own ++ fr.map fun j => X.N.getD j Str.empty) fp G2.objs.size s2 H2) rfl rfl rfl hc i _ s3 σ3 H3 (fun _ _ => False) J3' (stat fr3 hpins) st3 go) fun r s4 ⟨u, hr, h4⟩ => ?_
      subst hr
      refine thn h4 fun _ s5 ⟨x, H5, J5, r5, y5, st5, fr5⟩ => ?_
      have J5' := J5.pinned (stat fr5 hpins) (T.obj _ _ st5)
      refine thn (hg fp _ s2 H2 _ s5 σ3 H5 x u _ J5' r5 (step x H5 y5)) fun _ s6 ⟨σ6, H6, J6, q6⟩ => ?_
      refine thn (ht fp _ s2 H2 _ s6 σ6 H6 _ J6 q6) fun ok s7 ⟨H7, J7, q7⟩ => ?_
      -- what stood pinned through the turn
      have after : ∀ {s8 : Shared} {H8 : Hp}, Inv (cxComp X scope (own ++ fr.map fun j => X.N.getD j Str.empty) fp G2.objs.size s2 H2) ([(s2.heap.objs.size, ({ cls := .type "list", data := .seq ys pn } : Obj))] ++ pinsAt fp s5.heap) σ6 H8 s8 →
          tn (i + 1) s8.heap ∧ (∀ b ∈ fp, H8 b = none) ∧ H8 s2.heap.objs.size = none ∧ s8.heap.get? s2.heap.objs.size = some { cls := .type "list", data := .seq ys pn } := fun {s8 H8} J8 => by
        refine ⟨T.keep _ _ _ st5 fun b hb o e => (J8.pin (b, o) (List.mem_append_right _ (List.mem_append_right _ (mem_pinsAt hb e)))).1, fun b hb => ?_, ?_, ?_⟩
        · obtain ⟨o, e, d⟩ := T.obj _ _ st5 b hb
          exact (J8.pin (b, o) (List.mem_append_right _ (List.mem_append_right _ (mem_pinsAt hb e)))).2.1
        · exact (J8.pin (s2.heap.objs.size, { cls := .type "list", data := .seq ys pn }) (List.mem_append_right _ (List.mem_append_left _ (by simp)))).2.1
        · exact (J8.pin (s2.heap.objs.size, { cls := .type "list", data := .seq ys pn }) (List.mem_append_right _ (List.mem_append_left _ (by simp)))).1
      cases ok with
      | false =>
        obtain ⟨m', hm, w7⟩ := hN _ _ _ q7
        obtain ⟨a1, a2, a3, a4⟩ := after J7
        exact ⟨m', hm, i + 1, σ6, H7, vs, ys, J7.pins_of (fun p hp => absurd hp (by simp)), a1, a2, a3, ⟨pn, a4⟩, rv, w7⟩
      | true =>
        refine thn (he fp _ s2 H2 _ s7 σ6 H7 _ J7 q7) fun y s8 ⟨v8, H8, J8, r8, n8⟩ => ?_
        obtain ⟨m', hm, w8⟩ := hN _ _ _ n8
        obtain ⟨a1, a2, a3, a4⟩ := after J8
        have J9 : Inv (cxComp X scope (own ++ fr.map fun j => X.N.getD j Str.empty) fp G2.objs.size s2 H2) [] σ6 H8 s8 := J8.pins_of (fun p hp => absurd hp (by simp))
        have hys : ys.size ≤ sizeLine := by
          have e1 : vs.length = ys.toList.length := rv.length
          have e2 : ys.toList.length = ys.size := by simp
          omega
        refine wpAny_list_append_plain (hsz := hys) ⟨pn, a4⟩ fun h₅ hl₅ hs₅ => ?_
        refine ⟨m', hm, i + 1, σ6, H8, vs ++ [v8], ys.push y, J9.turned (t' := s8.toks) (it := s2.heap.objs.size) (fun b o hb e => by rw [hs₅.2 b hb]; exact e) a3 hDC (.inr (Nat.le_refl _)) cellD (fun p hp => absurd (show p ∈ ([] : List (Addr × Obj)) from hp) (by simp)),
          T.keep _ _ _ a1 fun b hb o e => (hs₅.2 b (fun z => hDf (z ▸ hb))).trans e, a2, a3, hl₅, ?_, w8⟩
        have : Vals (vs ++ [v8]) (ys.toList ++ [y]) := rv.append (.cons r8 .nil)
        simpa using this
  exact codeAny_compStart_list loop (T.self X.A 0 _ _ _ st3 loop)
end
end L2
namespace L2
open PySem PySem.Spec PyProof.Rows
/-! ### the same with all that is asked of the scopes in one check -/
def compOk (scope sc : Scope) (N0 : List Str) (fr : List Nat) : Bool :=
  scope.kind == .function && scope.names.all (fun x => x.2 != .cell && (x.2 != .local || scope.names.lookup x.1 == some .local) && (x.2 != .free || sc.names.lookup x.1 == some .cell || sc.names.lookup x.1 == some .free)) &&
    fr.all (fun j => scope.names.lookup (N0.getD j Str.empty) == some .free)
theorem pe_compC {X : Cx} {elt iter tg : Expr} {ifs : List Expr} {scope : Scope} {pos : Pos} {wi : TI} {g : TG} {tt : TT} {te : TE} (sc : Scope) (N0 own : List Str) (fr : List Nat) (hc : X.calm = true) (hsc : X.env.scope = sc) (hN : X.N = N0)
    (ok : compOk scope sc N0 fr = true) (hi : PI X tg iter wi) (hg : ∀ fp C s H, PG (cxComp X scope (own ++ fr.map fun j => N0.getD j Str.empty) fp C s H) tg g)
    (ht : ∀ fp C s H, PIfs (cxComp X scope (own ++ fr.map fun j => N0.getD j Str.empty) fp C s H) ifs tt)
    (he : ∀ fp C s H, PE (cxComp X scope (own ++ fr.map fun j => N0.getD j Str.empty) fp C s H) elt te)
    (hs : ∀ x, foldedSetIterable iter X.env x = pure x := by intro _; rfl) : PE X (.ListComp elt [⟨tg, iter, ifs, 0⟩] scope pos) (tComp own.length fr wi g tt te) := by
  subst hsc hN
  unfold compOk at ok
  simp only [Bool.and_eq_true, List.all_eq_true, bne_iff_ne, beq_iff_eq, Bool.or_eq_true] at ok
  obtain ⟨⟨k1, k2⟩, k3⟩ := ok
  refine pe_comp own fr hc k1 (fun x hx => (k2 x hx).1.1) (fun x hx e => ?_) (fun x hx e => ?_) (fun j hj => k3 j hj) hi hg ht he hs
  · rcases (k2 x hx).1.2 with z | z
    · exact absurd e z
    · exact z
  · rcases (k2 x hx).2 with (z | z) | z
    · exact absurd e z
    · exact .inl z
    · exact .inr z
end L2
namespace L2
open PySem PySem.Spec PyProof.Rows
/-! ### the forms one uses -/
section
variable {g : TG} {tt : TT} {te : TE} {Q : VK} {σ0 : St} {H0 : Hp}
theorem comp_by {J : It} (n : Nat) (Pv : Nat → St → List V → Hp → Prop) (h0 : Pv 0 σ0 [] H0) (hlen : ∀ i σ vs H, i ≤ n → Pv i σ vs H → vs.length ≤ i) (hn : n ≤ sizeLine) (hgo : ∀ i σ vs H, i < n → Pv i σ vs H → J.go i H) (hst : ∀ σ vs H, Pv n σ vs H → J.stop n H)
    (hs : ∀ i σ vs H x H', i < n → Pv i σ vs H → J.yld i H x H' → g x σ H' fun σ2 H2 => tt σ2 H2 fun ok H3 => if ok = true then te σ2 H3 fun v H4 => Pv (i + 1) σ2 (vs ++ [v]) H4 else Pv (i + 1) σ2 vs H3)
    (hd : ∀ σ vs H, Pv n σ vs H → ∀ p, H p = none → Q (.ref p) (upd H p (.lst vs))) : CompW J g tt te Q σ0 H0 := by
  refine ⟨fun i m σ vs H => m = n - i ∧ i ≤ n ∧ Pv i σ vs H, ⟨n, by simp, Nat.zero_le _, h0⟩, ?_⟩
  rintro i m σ vs H ⟨rfl, hi, p⟩
  have hv := hlen i σ vs H hi p
  by_cases hlt : i < n
  · exact .inr ⟨hgo i σ vs H hlt p, by omega, Pv (i + 1), fun σ2 vs2 H2 q => ⟨n - (i + 1), by omega, rfl, hlt, q⟩, fun x H' y => hs i σ vs H x H' hlt p y⟩
  · have e : i = n := by omega
    subst e
    exact .inl ⟨hst σ vs H p, by omega, hd σ vs H p⟩
/-- over a range of n turns from lo -/
theorem comp_range {lo : Int} {n : Nat} (Pv : Nat → St → List V → Hp → Prop) (h0 : Pv 0 σ0 [] H0) (hlen : ∀ i σ vs H, i ≤ n → Pv i σ vs H → vs.length ≤ i) (hn : n ≤ sizeLine)
    (hs : ∀ i σ vs H, i < n → Pv i σ vs H → g (.int (lo + i)) σ H fun σ2 H2 => tt σ2 H2 fun ok H3 => if ok = true then te σ2 H3 fun v H4 => Pv (i + 1) σ2 (vs ++ [v]) H4 else Pv (i + 1) σ2 vs H3)
    (hd : ∀ σ vs H, Pv n σ vs H → ∀ p, H p = none → Q (.ref p) (upd H p (.lst vs))) : CompW (Itr lo n) g tt te Q σ0 H0 :=
  comp_by n Pv h0 hlen hn (fun _ _ _ _ h _ => h) (fun _ _ _ _ => Nat.le_refl _) (fun i σ vs H x H' hi p y => by obtain ⟨rfl, rfl⟩ := y; exact hs i σ vs _ hi p) hd
/-- over a list that stays -/
theorem comp_list {K : PySem.W.Frag} {a : Addr} {xs : List V} (Pv : Nat → St → List V → Hp → Prop) (h0 : Pv 0 σ0 [] H0) (hlen : ∀ i σ vs H, i ≤ xs.length → Pv i σ vs H → vs.length ≤ i) (hn : xs.length ≤ sizeLine) (hl : ∀ i σ vs H, i ≤ xs.length → Pv i σ vs H → SqL K H a xs)
    (hs : ∀ i x σ vs H, xs[i]? = some x → Pv i σ vs H → g x σ H fun σ2 H2 => tt σ2 H2 fun ok H3 => if ok = true then te σ2 H3 fun v H4 => Pv (i + 1) σ2 (vs ++ [v]) H4 else Pv (i + 1) σ2 vs H3)
    (hd : ∀ σ vs H, Pv xs.length σ vs H → ∀ p, H p = none → Q (.ref p) (upd H p (.lst vs))) : CompW (Itl K a) g tt te Q σ0 H0 := by
  refine comp_by xs.length Pv h0 hlen hn (fun i σ vs H hi p => ⟨xs, xs[i], hl i σ vs H (Nat.le_of_lt hi) p, by simp [hi]⟩) (fun σ vs H p => ⟨xs, hl _ σ vs H (Nat.le_refl _) p, Nat.le_refl _⟩) (fun i σ vs H x H' hi p y => ?_) hd
  obtain ⟨rfl, y⟩ := y
  exact hs i x σ vs _ (y xs (hl i σ vs _ (Nat.le_of_lt hi) p)) p
end
end L2

namespace L2
open PySem PySem.Spec PyProof.Rows
/-! ### list(zip(a, b)) -/
abbrev ZipN (h : Heap) (z TI TO T : Addr) (flag : Bool) : Prop :=
  h.get? z = some { cls := .type "zip", dict := none, data := .fields #[rawInt T, .bool flag, .bool false, .ref TI, .ref TO], slots := #[] }
section
variable {prog : Program} {w : World} {A : Around} {E : Value → Shared → Prop} {s : Shared}
theorem busy_free {z TI TO T : Addr} {flag : Bool} {oT : Obj} {Q : Bool → Shared → Prop} (hz : ZipN s.heap z TI TO T flag) (hT : s.heap.get? T = some oT)
    (hQ : ∀ h', ZipN h' z TI TO T true → Heap.SameBut z s.heap h' → Q false { s with heap := h' }) : wpAny (model prog w) A (Builtin.SmallTypes.ownedTupleIsFree (.ref z)) Q E s := by
  unfold Builtin.SmallTypes.ownedTupleIsFree
  refine wpAny_bind (wpAny_field hz rfl (x := rawInt T) rfl ?_)
  show wpAny _ _ (loadIfAlive ((T : Int).toNat) >>= _) _ _ _
  rw [Int.toNat_natCast]
  refine wpAny_bind (PySem.W.kdx_alive hT ?_)
  simp only [Option.isNone_some, Bool.false_eq_true, if_false]
  refine wpAny_bind (wpAny_field hz rfl (x := .bool flag) rfl ?_)
  cases flag with
  | true =>
    rw [if_neg (show ¬ ((Value.bool true != Value.bool true) = true) from Bool.false_ne_true)]
    exact wpAny_pure (hQ s.heap hz (Heap.SameBut.refl _ _))
  | false =>
    rw [if_pos (show (Value.bool false != Value.bool true) = true from rfl)]
    exact wpAny_bind (wpAny_setField_rec hz (by simp) fun h' hz' hs' => wpAny_pure (hQ h' hz' hs'))
theorem zip_busy_item {z TI TO i1 i2 l1 l2 T : Addr} {flag : Bool} {oT : Obj} {k1 k2 : Nat} {xs ys : Array Value} {x y : Value} {Q : Option Value → Shared → Prop} (D : ZipApart z TI TO i1 i2 l1 l2)
    (hz : ZipN s.heap z TI TO T flag) (hT : s.heap.get? T = some oT) (hTI : IsPair s.heap TI (.ref i1) (.ref i2))
    (h1 : s.heap.IsListIter i1 l1 k1) (h2 : s.heap.IsListIter i2 l2 k2) (hl1 : s.heap.IsList l1 xs) (hl2 : s.heap.IsList l2 ys) (hx : xs[k1]? = some x) (hy : ys[k2]? = some y)
    (hQ : ∀ h', ZipN h' z TI TO T true → h'.IsListIter i1 l1 (k1 + 1) → h'.IsListIter i2 l2 (k2 + 1) → IsPair h' s.heap.objs.size x y →
      (∀ c o, c ≠ z → c ≠ i1 → c ≠ i2 → s.heap.get? c = some o → h'.get? c = some o) → Q (some (.ref s.heap.objs.size)) { s with heap := h' }) :
    wpAny (model prog w) A (pyNext (.ref z)) Q E s := by
  have hTy : s.TypeIs (.ref z) "zip" := ⟨_, hz, rfl⟩
  unfold pyNext
  refine wpAny_bind (wpAny_attempt (wpAny_callSpecial?_slot (name := Str.ofString "__next__") hTy PySem.F.slot_zip_next
    (wpAny_call_entry PySem.F.slot_zip_next hTy PySem.F.entry_zip_next ?_ (PySem.F.args_zip_next_1 _))))
  show wpAny _ _ (field (.ref z) 2 >>= _) _ _ _
  refine wpAny_bind (wpAny_field hz rfl (x := .bool false) rfl ?_)
  show wpAny _ _ (field (.ref z) 3 >>= _) _ _ _
  refine wpAny_bind (wpAny_field hz rfl (x := .ref TI) rfl ?_)
  refine wpAny_bind (wpAny_seqItems hTI rfl ?_)
  show wpAny _ _ (Builtin.SmallTypes.ownedTupleIsFree (.ref z) >>= _) _ _ _
  refine wpAny_bind (busy_free hz hT fun h₁ hz₁ hs₁ => ?_)
  simp only [Bool.false_eq_true, if_false]
  refine wpAny_bind ?_
  simp only [← Array.forIn_toList, List.forIn_cons, List.forIn_nil]
  refine wpAny_bind (wpAny_bind (wpAny_holding ?_))
  show wpAny _ _ (Builtin.SmallTypes.nextOf (.ref i1) >>= _) _ _ _
  refine wpAny_bind (wpAny_nextOf_list_item (h1.extBut hs₁.extBut D.i1z) (hl1.extBut hs₁.extBut D.l1z) hx fun h₂ h1₂ hs₂ => wpAny_pure (wpAny_pure ?_))
  dsimp only
  refine wpAny_bind (wpAny_bind (wpAny_holding ?_))
  show wpAny _ _ (Builtin.SmallTypes.nextOf (.ref i2) >>= _) _ _ _
  refine wpAny_bind (wpAny_nextOf_list_item ((h2.extBut hs₁.extBut D.i2z).extBut hs₂.extBut D.i12.symm) ((hl2.extBut hs₁.extBut D.l2z).extBut hs₂.extBut D.l2i1) hy fun h₃ h2₃ hs₃ => wpAny_pure (wpAny_pure (wpAny_pure ?_)))
  dsimp only
  refine wpAny_bind (wpAny_newTuple (hsz := by show 2 ≤ sizeLine; decide) ?_)
  have hsz : h₃.objs.size = s.heap.objs.size := by rw [hs₃.1, hs₂.1, hs₁.1]
  have hz₃ : ZipN h₃ z TI TO T true := hs₃.extBut _ _ D.i2z.symm (hs₂.extBut _ _ D.i1z.symm hz₁)
  have hk : ∀ c o, c ≠ z → c ≠ i1 → c ≠ i2 → s.heap.get? c = some o → h₃.get? c = some o := fun c o c1 c3 c4 e => hs₃.extBut _ _ c4 (hs₂.extBut _ _ c3 (hs₁.extBut _ _ c1 e))
  have h1₃ : h₃.IsListIter i1 l1 (k1 + 1) := h1₂.extBut hs₃.extBut D.i12
  refine wpAny_pure ⟨_, rfl, wpAny_pure ?_⟩
  show Q (some (.ref h₃.objs.size)) _
  have hT3 : IsPair (h₃.push { cls := .type "tuple", data := .seq #[x, y] }) h₃.objs.size x y := Heap.get?_push_size _ rfl
  have fin := hQ (h₃.push { cls := .type "tuple", data := .seq #[x, y] }) (Heap.get?_push_of_some _ hz₃) (h1₃.at fun o e => Heap.get?_push_of_some _ e) (h2₃.at fun o e => Heap.get?_push_of_some _ e) (by rw [← hsz]; exact hT3) fun c o c1 c3 c4 e => Heap.get?_push_of_some _ (hk c o c1 c3 c4 e)
  rw [← hsz] at fin
  exact fin
theorem zip_busy_end {z TI TO i1 i2 l1 l2 T : Addr} {flag : Bool} {oT : Obj} {k1 : Nat} {xs : Array Value} {Q : Option Value → Shared → Prop} (hh : A.handled = none) (D : ZipApart z TI TO i1 i2 l1 l2)
    (hz : ZipN s.heap z TI TO T flag) (hT : s.heap.get? T = some oT) (hTI : IsPair s.heap TI (.ref i1) (.ref i2))
    (h1 : s.heap.IsListIter i1 l1 k1) (hl1 : s.heap.IsList l1 xs) (hx : xs[k1]? = none)
    (hQ : ∀ h', (∀ c o, c ≠ z → c ≠ i1 → c ≠ i2 → s.heap.get? c = some o → h'.get? c = some o) → Q none { s with heap := h' }) :
    wpAny (model prog w) A (pyNext (.ref z)) Q E s := by
  have hTy : s.TypeIs (.ref z) "zip" := ⟨_, hz, rfl⟩
  unfold pyNext
  refine wpAny_bind (wpAny_attempt (wpAny_callSpecial?_slot (name := Str.ofString "__next__") hTy PySem.F.slot_zip_next
    (wpAny_call_entry PySem.F.slot_zip_next hTy PySem.F.entry_zip_next ?_ (PySem.F.args_zip_next_1 _))))
  show wpAny _ _ (field (.ref z) 2 >>= _) _ _ _
  refine wpAny_bind (wpAny_field hz rfl (x := .bool false) rfl ?_)
  show wpAny _ _ (field (.ref z) 3 >>= _) _ _ _
  refine wpAny_bind (wpAny_field hz rfl (x := .ref TI) rfl ?_)
  refine wpAny_bind (wpAny_seqItems hTI rfl ?_)
  show wpAny _ _ (Builtin.SmallTypes.ownedTupleIsFree (.ref z) >>= _) _ _ _
  refine wpAny_bind (busy_free hz hT fun h₁ hz₁ hs₁ => ?_)
  simp only [Bool.false_eq_true, if_false]
  refine wpAny_bind ?_
  simp only [← Array.forIn_toList, List.forIn_cons, List.forIn_nil]
  refine wpAny_bind (wpAny_bind (wpAny_holding ?_))
  show wpAny _ _ (Builtin.SmallTypes.nextOf (.ref i1) >>= _) _ _ _
  refine wpAny_bind (wpAny_nextOf_list_end hh (h1.extBut hs₁.extBut D.i1z) (hl1.extBut hs₁.extBut D.l1z) hx fun h₂ e hs₂ he => ?_)
  obtain ⟨oe, hoe, hce⟩ := he
  refine wpAny_bind (wpAny_isInstance (T := "StopIteration") (b := true) ⟨oe, hoe, hce⟩ isSubtype_stop ?_)
  exact wpAny_pure (hQ _ fun c o c1 c2 _ e' => hs₂ _ _ c2 (hs₁.extBut _ _ c1 e'))
end
end L2
namespace L2
open PySem PySem.Spec PyProof.Rows
theorem zip_no_len : typeLookup (.type "zip") "__len__" = pure none := by rw [typeLookup_type, builtinLookup_eq_fast]; kernel_rfl
theorem zip_no_hint : typeLookup (.type "zip") "__length_hint__" = pure none := by rw [typeLookup_type, builtinLookup_eq_fast]; kernel_rfl
/-- the zip at its i-th turn while a list is filled; all of its own records lie below lo, the tuples that it tells above -/
structure ZAt (h : Heap) (z TI TO i1 i2 l1 l2 lo : Nat) (xs ys : Array Value) (i : Nat) : Prop where
  ti : IsPair h TI (.ref i1) (.ref i2)
  it1 : h.IsListIter i1 l1 i
  it2 : h.IsListIter i2 l2 i
  ls1 : h.IsList l1 xs
  ls2 : h.IsList l2 ys
  st : (i = 0 ∧ IsZip h z TI TO .none ∧ ∃ a b, IsPair h TO a b) ∨ ∃ (T : Nat) (flag : Bool) (oT : Obj), ZipN h z TI TO T flag ∧ h.get? T = some oT ∧ lo ≤ T
/-- the tuples told so far -/
structure ZTold (h : Heap) (lo : Nat) (xs ys : Array Value) (as : List Nat) : Prop where
  rise : as.Pairwise (· < ·)
  low : ∀ a ∈ as, lo ≤ a
  pairs : ∀ (j : Nat) (a : Nat), as[j]? = some a → ∃ x y, xs[j]? = some x ∧ ys[j]? = some y ∧ IsPair h a x y
theorem ZTold.lt {h : Heap} {lo : Nat} {xs ys : Array Value} {as : List Nat} (g : ZTold h lo xs ys as) {a : Nat} (ha : a ∈ as) : a < h.objs.size := by
  obtain ⟨j, hj⟩ := List.mem_iff_getElem?.mp ha
  obtain ⟨_, _, _, _, e⟩ := g.pairs j a hj
  exact Heap.lt_size e
theorem ZTold.keep {h h' : Heap} {lo : Nat} {xs ys : Array Value} {as : List Nat} (g : ZTold h lo xs ys as) (k : ∀ c o, lo ≤ c → h.get? c = some o → h'.get? c = some o) : ZTold h' lo xs ys as :=
  ⟨g.rise, g.low, fun j a e => by
    obtain ⟨x, y, e1, e2, e3⟩ := g.pairs j a e
    exact ⟨x, y, e1, e2, k a _ (g.low a (List.mem_of_getElem? e)) e3⟩⟩
theorem ZTold.snoc {h h' : Heap} {lo : Nat} {xs ys : Array Value} {as : List Nat} {n : Nat} {x y : Value} (g : ZTold h lo xs ys as) (k : ∀ c o, lo ≤ c → h.get? c = some o → h'.get? c = some o) (hn : lo ≤ n) (hn2 : h.objs.size ≤ n) (hx : xs[as.length]? = some x) (hy : ys[as.length]? = some y) (hp : IsPair h' n x y) :
    ZTold h' lo xs ys (as ++ [n]) := by
  have g' := g.keep k
  refine ⟨List.pairwise_append.mpr ⟨g.rise, List.pairwise_singleton _ _, fun a ha b hb => ?_⟩, fun a ha => ?_, fun j a e => ?_⟩
  · rw [List.mem_singleton.mp hb]; exact Nat.lt_of_lt_of_le (g.lt ha) hn2
  · rcases List.mem_append.mp ha with h | h
    · exact g.low a h
    · rw [List.mem_singleton.mp h]; exact hn
  · rcases Nat.lt_trichotomy j as.length with hj | hj | hj
    · rw [List.getElem?_append_left hj] at e; exact g'.pairs j a e
    · subst hj
      rw [List.getElem?_append_right (Nat.le_refl _), Nat.sub_self] at e
      cases e
      exact ⟨x, y, hx, hy, hp⟩
    · rw [List.getElem?_eq_none (by rw [List.length_append, List.length_singleton]; omega)] at e; cases e
section
variable {prog : Program} {w : World} {A : Around} {R : Result → Shared → Prop} {s : Shared}
theorem zip_loop {z TI TO i1 i2 l1 l2 S lo : Nat} {xs ys : Array Value} (hh : A.handled = none) (D : ZipApart z TI TO i1 i2 l1 l2) (hS : S ≠ z ∧ S ≠ TI ∧ S ≠ TO ∧ S ≠ i1 ∧ S ≠ i2 ∧ S ≠ l1 ∧ S ≠ l2)
    (hL : z < lo ∧ TO < lo ∧ i1 < lo ∧ i2 < lo ∧ S < lo) (hlen : xs.size = ys.size) (hn : xs.size ≤ sizeLine) (h0 : 0 < xs.size) (res : Value) {h₁ : Heap}
    (hR : ∀ h' tk acc c (as : List Nat), (∀ b o, b ≠ S → b ≠ z → b ≠ TO → b ≠ i1 → b ≠ i2 → h₁.get? b = some o → h'.get? b = some o) → h'.get? S = some { cls := .type "list", dict := none, data := .seq acc c, slots := #[] } → as.length = xs.size → ZTold h' lo xs ys as →
      acc.toList = as.map Value.ref → R (.ok (.ret res)) { s with heap := h', toks := tk }) :
    ∀ (k i : Nat) (h : Heap) (tk c : Nat) (acc : Array Value) (as : List Nat), xs.size - i = k → i ≤ xs.size → ZAt h z TI TO i1 i2 l1 l2 lo xs ys i →
      (∀ b o, b ≠ S → b ≠ z → b ≠ TO → b ≠ i1 → b ≠ i2 → h₁.get? b = some o → h.get? b = some o) → lo ≤ h.objs.size →
      h.get? S = some { cls := .type "list", dict := none, data := .seq acc c, slots := #[] } → acc.toList = as.map Value.ref → as.length = i → ZTold h lo xs ys as →
      codeAny (model prog w) A (.builtin "list.extend.loop" ⟨[.ref S, .ref z, res], []⟩) R { s with heap := h, toks := tk } := by
  obtain ⟨s1, s2, s3, s4, s5, s6, s7⟩ := hS
  obtain ⟨L1, L2, L3, L4, L5⟩ := hL
  have up : ∀ {a b : Nat}, b < lo → lo ≤ a → a ≠ b := fun h1 h2 => Nat.ne_of_gt (Nat.lt_of_lt_of_le h1 h2)
  intro k
  induction k with
  | zero =>
    intro i h tk c acc as hk hi hst hkeep hlo hS hacc hal hG
    have hin : i = xs.size := by omega
    obtain ⟨T, flag, oT, hz, hT, _⟩ : ∃ (T : Nat) (flag : Bool) (oT : Obj), ZipN h z TI TO T flag ∧ h.get? T = some oT ∧ lo ≤ T := by
      rcases hst.st with ⟨e, _⟩ | e
      · omega
      · exact e
    refine codeAny_builtin PySem.F.entry_extend_loop ?_
    rw [Around.under_plainId PySem.F.plain_extend_loop _]
    show wpAny _ A.in1 (pyNext (.ref z) >>= _) _ _ _
    refine wpAny_bind (zip_busy_end (s := { s with heap := h, toks := tk }) (A := A.in1) hh D hz hT hst.ti hst.it1 hst.ls1 (by rw [hin]; exact Array.getElem?_eq_none (Nat.le_refl _)) fun h' hq => ?_)
    exact wpAny_pure (hR h' tk acc c as (fun b o b1 b2 b3 b4 b5 e => hq b o b2 b4 b5 (hkeep b o b1 b2 b3 b4 b5 e)) (hq S _ s1 s4 s5 hS) (by omega) (hG.keep fun (c : Nat) o hc e => hq c o (up L1 hc) (up L3 hc) (up L4 hc) e) hacc)
  | succ k ih =>
    intro i h tk c acc as hk hi hst hkeep hlo hS hacc hal hG
    have hlt : i < xs.size := by omega
    have hlt2 : i < ys.size := by omega
    have hx : xs[i]? = some xs[i] := Array.getElem?_eq_getElem hlt
    have hy : ys[i]? = some ys[i] := Array.getElem?_eq_getElem hlt2
    have hasz : acc.size = i := by rw [← hal, ← List.length_map (f := Value.ref), ← hacc]; simp
    refine codeAny_builtin PySem.F.entry_extend_loop ?_
    rw [Around.under_plainId PySem.F.plain_extend_loop _]
    show wpAny _ A.in1 (pyNext (.ref z) >>= _) _ _ _
    -- what follows a turn
    have next : ∀ h' : Heap, (∃ (T : Nat) (flag : Bool) (oT : Obj), ZipN h' z TI TO T flag ∧ h'.get? T = some oT ∧ lo ≤ T) → h'.IsListIter i1 l1 (i + 1) → h'.IsListIter i2 l2 (i + 1) → IsPair h' h.objs.size xs[i] ys[i] →
        (∀ c o, c ≠ z → c ≠ TO → c ≠ i1 → c ≠ i2 → h.get? c = some o → h'.get? c = some o) →
        wpAny (model prog w) A.in1 (updateSeq S (·.push (Value.ref h.objs.size)) >>= fun _ => again (.builtin "list.extend.loop" ⟨[.ref S, .ref z, res], []⟩))
          (fun fin s' => match fin with | .done f => R (.ok f) s' | .again c' => c'.quiet = true ∧ codeAny (model prog w) A c' R s') (fun e s' => R (.error e) s') { s with heap := h', toks := tk } := by
      intro h' hb j1 j2 hp hq
      have hS' : h'.get? S = some { cls := .type "list", dict := none, data := .seq acc c, slots := #[] } := hq S _ s1 s3 s4 s5 hS
      have oth : ∀ b o, b ≠ S → h'.get? b = some o → (h'.update S (Obj.mapSeq (·.push (Value.ref h.objs.size)))).get? b = some o := fun b o hb e => (Heap.get?_update_other _ _ (Ne.symm hb)).trans e
      have hp' : IsPair (h'.update S (Obj.mapSeq (·.push (Value.ref h.objs.size)))) h.objs.size xs[i] ys[i] := oth _ _ (up L5 hlo) hp
      refine wpAny_bind (wpAny_updateSeq hS' rfl (wpAny_pure ⟨plainId_quiet PySem.F.plain_extend_loop _, ?_⟩) (by rw [hasz]; omega) (by show (acc.push _).size ≤ sizeLine + 1; rw [Array.size_push, hasz]; omega))
      refine ih (i + 1) (h'.update S (Obj.mapSeq (·.push (Value.ref h.objs.size)))) tk _ (acc.push (Value.ref h.objs.size)) (as ++ [h.objs.size]) (by omega) hlt ⟨?_, ?_, ?_, ?_, ?_, ?_⟩ ?_ ?_ (Heap.get?_update_self _ hS' rfl) ?_ (by rw [List.length_append, hal]; rfl) ?_
      · exact oth _ _ (Ne.symm s2) (hq TI _ D.TIz D.TITO D.TIi1 D.TIi2 hst.ti)
      · exact j1.at fun o e => oth _ o (Ne.symm s4) e
      · exact j2.at fun o e => oth _ o (Ne.symm s5) e
      · exact hst.ls1.at fun o e => oth _ o (Ne.symm s6) (hq _ o D.l1z D.l1TO D.l1i1 D.l1i2 e)
      · exact hst.ls2.at fun o e => oth _ o (Ne.symm s7) (hq _ o D.l2z D.l2TO D.l2i1 D.l2i2 e)
      · obtain ⟨T, flag, oT, e1, e2, e3⟩ := hb
        exact .inr ⟨T, flag, oT, oth _ _ (Ne.symm s1) e1, oth _ _ (up L5 e3) e2, e3⟩
      · exact fun b o b1 b2 b3 b4 b5 e => oth b o b1 (hq b o b2 b3 b4 b5 (hkeep b o b1 b2 b3 b4 b5 e))
      · have : h.objs.size < (h'.update S (Obj.mapSeq (·.push (Value.ref h.objs.size)))).objs.size := Heap.lt_size hp'
        omega
      · rw [Array.toList_push, hacc, List.map_append]; rfl
      · exact hG.snoc (h' := h'.update S (Obj.mapSeq (·.push (Value.ref h.objs.size)))) (fun (c : Nat) o hc e => oth c o (up L5 hc) (hq c o (up L1 hc) (up L2 hc) (up L3 hc) (up L4 hc) e)) hlo (Nat.le_refl _) (by rw [hal]; exact hx) (by rw [hal]; exact hy) hp'
    rcases hst.st with ⟨e0, hz, a, b, hTO⟩ | ⟨T, flag, oT, hz, hT, hTlo⟩
    · refine wpAny_bind (wpAny_pyNext_zip_item (s := { s with heap := h, toks := tk }) D hz hst.ti hTO hst.it1 hst.it2 hst.ls1 hst.ls2 hx hy fun h' a1 a2 a3 a4 a5 a6 hq => ?_)
      exact next h' ⟨h.objs.size, false, _, a1, a5, hlo⟩ a3 a4 a5 hq
    · refine wpAny_bind (zip_busy_item (s := { s with heap := h, toks := tk }) D hz hT hst.ti hst.it1 hst.it2 hst.ls1 hst.ls2 hx hy fun h' a1 a3 a4 a5 hq => ?_)
      exact next h' ⟨T, true, oT, a1, hq T oT (up L1 hTlo) (up L3 hTlo) (up L4 hTlo) hT, hTlo⟩ a3 a4 a5 fun c o c1 _ c3 c4 e => hq c o c1 c3 c4 e
end
section
variable {prog : Program} {w : World} {A : Around} {E : Value → Shared → Prop} {s : Shared}
/-- list(zip(l1, l2)), two lists of one length -/
theorem call_list_zip {l1 l2 : Nat} {xs ys : Array Value} {Q : Value → Shared → Prop} (hh : A.handled = none) (hl1 : s.heap.IsList l1 xs) (hl2 : s.heap.IsList l2 ys) (hlen : xs.size = ys.size) (hn : xs.size ≤ sizeLine) (h0 : 0 < xs.size)
    (hQ : ∀ h' tk acc c (as : List Nat), (∀ b o, s.heap.get? b = some o → h'.get? b = some o) → h'.get? (s.heap.objs.size + 5) = some { cls := .type "list", dict := none, data := .seq acc c, slots := #[] } → as.length = xs.size → ZTold h' (s.heap.objs.size + 6) xs ys as →
      acc.toList = as.map Value.ref → Q (.ref (s.heap.objs.size + 5)) { s with heap := h', toks := tk }) :
    wpAny (model prog w) A (call (.type "zip") [.ref l1, .ref l2]) (fun v s1 => wpAny (model prog w) A (call (.type "list") [v]) Q E s1) E s := by
  have lt1 : l1 < s.heap.objs.size := by obtain ⟨_, e, _⟩ := hl1; exact Heap.lt_size e
  have lt2 : l2 < s.heap.objs.size := by obtain ⟨_, e, _⟩ := hl2; exact Heap.lt_size e
  refine call_zip_2 hl1 hl2 fun g hz hTI hTO h1 h2 hsz hk => ?_
  have D : ZipApart (s.heap.objs.size + 4) (s.heap.objs.size + 2) (s.heap.objs.size + 3) s.heap.objs.size (s.heap.objs.size + 1) l1 l2 := by
    refine ⟨?_, ?_, ?_, ?_, ?_, ?_, ?_, ?_, ?_, ?_, ?_, ?_, ?_, ?_, ?_, ?_, ?_, ?_⟩ <;> (show @Ne Nat _ _; omega)
  have hS : (g.push { cls := .type "list", data := .seq #[] }).get? g.objs.size = some { cls := .type "list", data := .seq #[] } := Heap.get?_push_size _ rfl
  refine callType_codes (Q₁ := fun obj s₁ => obj = .ref g.objs.size ∧ s₁ = { s with heap := g.push { cls := .type "list", data := .seq #[] } }) PySem.F.called_list (PySem.F.typeCall_list_1 _) PySem.F.entry_list_init
    (code_list_new _ ⟨rfl, rfl⟩) fun obj s₁ h₁ => ?_
  obtain ⟨rfl, rfl⟩ := h₁
  refine ⟨⟨_, hS, rfl⟩, PySem.F.args_list_init_2 _ _, ?_⟩
  show wpAny _ A.in1.in1 (do let old ← Builtin.List.listItems (.ref g.objs.size); Builtin.List.listUpdate (.ref g.objs.size) (fun _ => #[]); letGo old.toList.reverse; Builtin.List.listExtendWith (.ref g.objs.size) (.ref (s.heap.objs.size + 4)) .none) _ _ _
  refine wpAny_bind ?_
  unfold Builtin.List.listItems
  refine wpAny_bind (wpAny_seqItems hS rfl (wpAny_pure ?_))
  show wpAny _ A.in1.in1 (updateSeq g.objs.size (fun _ => #[]) >>= fun _ => letGo (#[] : Array Value).toList.reverse >>= fun _ => Builtin.List.listExtendWith (.ref g.objs.size) (.ref (s.heap.objs.size + 4)) .none) _ _ _
  refine wpAny_bind (wpAny_updateSeq hS rfl ?_)
  have hS₂ := Heap.get?_update_self (Obj.mapSeq (fun _ => (#[] : Array Value))) hS rfl
  have oth : ∀ b o, g.get? b = some o → ((g.push { cls := .type "list", data := .seq #[] }).update g.objs.size (Obj.mapSeq (fun _ => (#[] : Array Value)))).get? b = some o :=
    fun b o e => (Heap.get?_update_other _ _ (Nat.ne_of_gt (Heap.lt_size e))).trans (Heap.get?_push_of_some _ e)
  generalize hg2 : (g.push { cls := .type "list", data := .seq #[] }).update g.objs.size (Obj.mapSeq (fun _ => (#[] : Array Value))) = g2 at hS₂ oth ⊢
  refine wpAny_bind (wpAny_letGo ?_)
  have hT2 : Shared.TypeIs { s with heap := g2 } (.ref (s.heap.objs.size + 4)) "zip" := ⟨_, oth _ _ hz, rfl⟩
  unfold Builtin.List.listExtendWith
  refine wpAny_bind (wpAny_typeOf hT2 ?_)
  have q1 : Builtin.List.listSameRef (.ref g.objs.size) (.ref (s.heap.objs.size + 4)) = false := by
    simp only [Builtin.List.listSameRef, beq_eq_false_iff_ne]
    intro z
    have z' : (g.objs.size : Nat) = s.heap.objs.size + 4 := z
    omega
  have q2 : (Value.type "zip" == Value.type "list") = false := by decide
  have q3 : (Value.type "zip" == Value.type "tuple") = false := by decide
  simp only [q1, q2, q3, Bool.or_false, Bool.false_eq_true, if_false]
  refine wpAny_bind (wpAny_pyIter_zip (s := { s with heap := g2 }) (oth _ _ hz) ?_)
  refine wpAny_bind (wpAny_holding ?_)
  unfold Builtin.List.listLengthHint
  refine wpAny_bind (wpAny_specialOf hT2 zip_no_len ?_)
  show wpAny _ A.in1.in1 (specialOf (Value.ref (s.heap.objs.size + 4)) (Str.ofString "__length_hint__") >>= _) _ _ _
  refine wpAny_bind (wpAny_specialOf hT2 zip_no_hint ?_)
  refine wpAny_pure ?_
  show wpAny _ A.in1.in1 (rule "list.extend.makes-room" >>= fun _ => Builtin.List.listTouch (.ref g.objs.size) >>= fun _ =>
    again (.builtin "list.extend.loop" ⟨[.ref g.objs.size, .ref (s.heap.objs.size + 4), .none], []⟩)) _ _ _
  refine wpAny_bind (wpAny_rule ?_)
  refine wpAny_bind ?_
  show wpAny _ A.in1.in1 (updateSeq g.objs.size (·.push .none) >>= fun _ => updateSeq g.objs.size (·.pop)) _ _ _
  refine wpAny_bind (wpAny_updateSeq hS₂ rfl ?_)
  have hS₃ := Heap.get?_update_self (Obj.mapSeq (·.push Value.none)) hS₂ rfl
  refine wpAny_updateSeq (hz := by seq_fits) hS₃ rfl ?_
  have hS₄ := Heap.get?_update_self (Obj.mapSeq (·.pop)) hS₃ rfl
  have oth2 : ∀ b o, b ≠ g.objs.size → g2.get? b = some o → ((g2.update g.objs.size (Obj.mapSeq (·.push Value.none))).update g.objs.size (Obj.mapSeq (·.pop))).get? b = some o :=
    fun b o hb e => (Heap.get?_update_other _ _ (Ne.symm hb)).trans ((Heap.get?_update_other _ _ (Ne.symm hb)).trans e)
  have all : ∀ b o, g.get? b = some o → ((g2.update g.objs.size (Obj.mapSeq (·.push Value.none))).update g.objs.size (Obj.mapSeq (·.pop))).get? b = some o := fun b o e => oth2 b o (Nat.ne_of_lt (Heap.lt_size e)) (oth b o e)
  generalize hg3 : (g2.update g.objs.size (Obj.mapSeq (·.push Value.none))).update g.objs.size (Obj.mapSeq (·.pop)) = g3 at hS₄ all ⊢
  have hlo : s.heap.objs.size + 6 ≤ g3.objs.size := by
    have h5 : (g.objs.size : Nat) < g3.objs.size := Heap.lt_size hS₄
    have h6 : (g.objs.size : Nat) = s.heap.objs.size + 5 := hsz
    omega
  refine wpAny_pure ⟨plainId_quiet PySem.F.plain_extend_loop _, zip_loop (s := s) (lo := s.heap.objs.size + 6) (h₁ := g3) (A := A.in1) hh D (by omega) (by omega) hlen hn h0 .none (fun h' tk acc c as hq hS' hal hG hacc => ?_) xs.size 0 g3 s.toks _ #[] [] (by omega) (Nat.zero_le _)
    ⟨all _ _ hTI, h1.at fun o e => all _ o e, h2.at fun o e => all _ o e, hl1.at fun o e => all _ o (hk _ o e), hl2.at fun o e => all _ o (hk _ o e), .inl ⟨rfl, all _ _ hz, _, _, all _ _ hTO⟩⟩ (fun _ _ _ _ _ _ _ e => e) hlo hS₄ rfl rfl ⟨List.Pairwise.nil, (fun _ z => nomatch z), fun _ _ z => by simp at z⟩⟩
  have eg : g.objs.size = s.heap.objs.size + 5 := hsz
  refine ⟨rfl, ?_⟩
  rw [eg] at hS' ⊢
  refine hQ h' tk acc c as (fun b o e => ?_) hS' hal hG hacc
  have hb : ∀ k, b ≠ s.heap.objs.size + k := fun k => Nat.ne_of_lt (Nat.lt_of_lt_of_le (Heap.lt_size e) (Nat.le_add_right _ k))
  exact hq b o (by rw [eg]; exact hb 5) (hb 4) (hb 3) (hb 0) (hb 1) (all b o (hk b o e))
end
end L2

namespace L2
open PySem PySem.Spec PyProof.Rows
section
variable {X : Cx} {pins : List (Addr × Obj)} {σ : St} {H H' : Hp} {s : Shared} {h' : Heap}
/-- the heap has grown, and some of what is new is tracked -/
theorem Inv.grow {t' : Nat} (I : Inv X pins σ H s) (k : ∀ b u, s.heap.get? b = some u → h'.get? b = some u) (hH : ∀ b, b < s.heap.objs.size → H' b = H b)
    (hnew : ∀ b o, s.heap.objs.size ≤ b → H' b = some o → ObjOk X.prog X.w H' h' b o) : Inv X pins σ H' { s with heap := h', toks := t' } := by
  have up : ∀ b o, H b = some o → H' b = some o := fun b o e => by rw [hH b (I.hok.lt e)]; exact e
  refine I.un (h' := h') ⟨fun b o e _ _ _ => k b o e, fun b o e _ _ _ => ⟨o.slots, k b o e⟩, fun b o e n _ => by rw [hH b (Heap.lt_size e)]; exact n, fun b o e _ => ⟨o, k b o e⟩, fun b xs e => up b _ e, fun b o u e => up b _ e, fun b ps e => ⟨#[], by rw [up b _ e]; simp⟩⟩ fun b o e => ?_
  by_cases hb : b < s.heap.objs.size
  · rw [hH b hb] at e
    exact (I.hok b o e).stay (fun c u _ q => k c u q) (fun c q => up c _ q) fun c xs q => up c _ q
  · exact hnew b o (Nat.not_lt.mp hb) e
end
/-! ### list(zip(a, b)) -/
def layT : List Nat → List V → List V → Hp → Hp
  | a :: as, x :: xs, y :: ys, H => upd (layT as xs ys H) a (.tup [x, y])
  | _, _, _, H => H
theorem layT_out {H : Hp} {b : Nat} : ∀ (as : List Nat) (xs ys : List V), b ∉ as → layT as xs ys H b = H b
  | [], _, _, _ => by unfold layT; rfl
  | a :: as, [], _, _ => by unfold layT; rfl
  | a :: as, _ :: _, [], _ => by unfold layT; rfl
  | a :: as, x :: xs, y :: ys, h => by
    unfold layT
    rw [upd_ne (fun z => h (by rw [z]; exact List.mem_cons_self))]
    exact layT_out as xs ys fun z => h (List.mem_cons_of_mem _ z)
theorem layT_in {H : Hp} : ∀ (as : List Nat) (xs ys : List V), as.Pairwise (· < ·) → ∀ (j : Nat) (u : Nat) (x y : V), as[j]? = some u → xs[j]? = some x → ys[j]? = some y → layT as xs ys H u = some (.tup [x, y])
  | [], _, _, _, j, u, x, y, h, _, _ => by simp at h
  | a :: as, [], _, _, j, u, x, y, _, h, _ => by simp at h
  | a :: as, _ :: _, [], _, j, u, x, y, _, _, h => by simp at h
  | a :: as, x0 :: xs, y0 :: ys, hp, 0, u, x, y, h1, h2, h3 => by
    simp at h1 h2 h3
    subst h1 h2 h3
    unfold layT
    exact upd_same
  | a :: as, x0 :: xs, y0 :: ys, hp, j + 1, u, x, y, h1, h2, h3 => by
    simp at h1 h2 h3
    have hu : a < u := (List.pairwise_cons.mp hp).1 u (List.mem_of_getElem? h1)
    unfold layT
    rw [upd_ne (Nat.ne_of_gt hu)]
    exact layT_in as xs ys (List.pairwise_cons.mp hp).2 j u x y h1 h2 h3
theorem layT_some {H : Hp} {b : Nat} {o : HO} : ∀ (as : List Nat) (xs ys : List V), layT as xs ys H b = some o → H b = some o ∨ ∃ (j : Nat) (x y : V), as[j]? = some b ∧ xs[j]? = some x ∧ ys[j]? = some y ∧ o = .tup [x, y]
  | [], _, _, h => by unfold layT at h; exact .inl h
  | a :: as, [], _, h => by unfold layT at h; exact .inl h
  | a :: as, _ :: _, [], h => by unfold layT at h; exact .inl h
  | a :: as, x :: xs, y :: ys, h => by
    unfold layT at h
    by_cases hb : b = a
    · subst hb
      rw [upd_same] at h
      cases h
      exact .inr ⟨0, x, y, rfl, rfl, rfl, rfl⟩
    · rw [upd_ne hb] at h
      rcases layT_some as xs ys h with e | ⟨j, x', y', e1, e2, e3, e4⟩
      · exact .inl e
      · exact .inr ⟨j + 1, x', y', by simpa using e1, by simpa using e2, by simpa using e3, e4⟩
section
variable {X : Cx} {a b : Expr} {t : TA} {p1 p2 p3 p4 : Pos}
def tLZ (K : PySem.W.Frag) (t : TA) : TE := fun σ H Q => t σ H fun vs H2 => ∃ p q xs ys, vs = [.ref p, .ref q] ∧ SqL K H2 p xs ∧ SqL K H2 q ys ∧ xs.length = ys.length ∧ 0 < xs.length ∧
  ∀ (l : Addr) (ts : List Addr) (H' : Hp), Same H2 H' → ts.length = xs.length → H' l = some (.lst (ts.map V.ref)) → (∀ (j : Nat) u, ts[j]? = some u → ∃ x y, xs[j]? = some x ∧ ys[j]? = some y ∧ H' u = some (.tup [x, y])) → Q (.ref l) H'
theorem vals_refs : ∀ (as : List Nat), Vals (as.map V.ref) (as.map Value.ref)
  | [] => .nil
  | _ :: r => .cons rfl (vals_refs r)
theorem pe_listzip (hc : X.calm = true) (hgl : Gl X "list") (hml : X.mg "list" = none) (hgz : Gl X "zip") (hmz : X.mg "zip" = none) (ha : PA X [a, b] t)
    (he : starEach [a, b] X.env = (false, eval a X.env) :: starEach [b] X.env := by rfl) (hpl : (backTo p2 (starEach [b] X.env)).any (·.1) = false := by rfl)
    (he2 : starEach [.Call (.Name "zip" p1) [a, b] [] p2] X.env = [(false, eval (.Call (.Name "zip" p1) [a, b] [] p2) X.env)] := by rfl) :
    PE X (.Call (.Name "list" p3) [.Call (.Name "zip" p1) [a, b] [] p2] [] p4) (tLZ X.K t) := by
  intro pins s σ H Q I h
  refine wpAny_Call_Name_kw (ld_blt I hgl hml boot_list ?_ (by decide) (by decide))
  refine PyProof.Rows.callWith_type1 ?_ he2 rfl
  rw [he2]
  refine Calls.spliced_cons ?_
  refine wpAny_Call_Name_kw (ld_blt I hgz hmz boot_zip ?_ (by decide) (by decide))
  refine PyProof.Rows.callWith_type1 ?_ he hpl
  refine thn (ha p2 pins s σ H _ I h) fun us s1 ⟨vs, H1, I1, r1, q1⟩ => ?_
  obtain ⟨p, q, xs, ys, rfl, hx, hy, hlen, h0, hq⟩ := q1
  obtain ⟨u, w', rfl, r1, r2⟩ := vals2 r1
  cases r1
  cases r2
  obtain ⟨its, rv, pl, hz⟩ := I1.list hx
  obtain ⟨jts, rw', pm, hz'⟩ := I1.list hy
  have e1 := rv.length
  have e2 := rw'.length
  refine thn (call_list_zip (Q := EP X pins σ Q) (E := X.xe) (I1.ok.hd hc) pl.isList pm.isList (by simp only [List.size_toArray]; omega) (by simp only [List.size_toArray]; omega) (by simp only [List.size_toArray]; omega) fun h' tk acc ce as hk hS hal hG hacc => ?_) fun v s2 h2 => Calls.spliced_nil (by simpa using h2)
  have low : ∀ u ∈ as, s1.heap.objs.size + 6 ≤ u := hG.low
  have al : as.length = xs.length := by rw [hal, List.size_toArray, e1]
  have hS5 : ∀ u ∈ as, u ≠ s1.heap.objs.size + 5 := fun u hu z => by have := low u hu; omega
  have old : ∀ c, c < s1.heap.objs.size → upd (layT as xs ys H1) (s1.heap.objs.size + 5) (.lst (as.map V.ref)) c = H1 c := fun c hc => by
    rw [upd_ne (Nat.ne_of_lt (Nat.lt_of_lt_of_le hc (Nat.le_add_right _ 5)))]
    exact layT_out as xs ys fun hm => absurd (Nat.lt_of_lt_of_le hc (Nat.le_trans (Nat.le_add_right _ 6) (low c hm))) (Nat.lt_irrefl _)
  have tups : ∀ (j : Nat) (u : Nat), as[j]? = some u → ∃ x y, xs[j]? = some x ∧ ys[j]? = some y ∧ upd (layT as xs ys H1) (s1.heap.objs.size + 5) (.lst (as.map V.ref)) u = some (.tup [x, y]) := fun j u hj => by
    have hjl : j < xs.length := by rw [← al]; exact (List.getElem?_eq_some_iff.mp hj).1
    have hx : xs[j]? = some xs[j] := List.getElem?_eq_getElem hjl
    have hy : ys[j]? = some (ys[j]'(by omega)) := List.getElem?_eq_getElem (by omega)
    refine ⟨_, _, hx, hy, ?_⟩
    rw [upd_ne (hS5 u (List.mem_of_getElem? hj))]
    exact layT_in as xs ys hG.rise j u _ _ hj hx hy
  refine ⟨.ref (s1.heap.objs.size + 5), upd (layT as xs ys H1) (s1.heap.objs.size + 5) (.lst (as.map V.ref)), I1.grow (t' := tk) hk old (fun c o hc e => ?_), rfl, hq _ as _ (fun c o e => by rw [old c (I1.hok.lt e)]; exact e) al upd_same tups⟩
  by_cases hcS : c = s1.heap.objs.size + 5
  · subst hcS
    rw [upd_same] at e
    cases e
    refine ⟨by rw [List.length_map, al]; exact hz, as.map Value.ref, ce, vals_refs as, ?_⟩
    rw [← hacc]
    simpa using hS
  · rw [upd_ne hcS] at e
    rcases layT_some as xs ys e with z | ⟨j, x, y, f1, f2, f3, rfl⟩
    · exact absurd (I1.hok.lt z) (Nat.not_lt.mpr hc)
    · obtain ⟨vx, vy, g1, g2, g3⟩ := hG.pairs j c f1
      obtain ⟨ux, k1, k2⟩ := rv.get f2
      obtain ⟨uy, k3, k4⟩ := rw'.get f3
      have g1' : its[j]? = some vx := by simpa using g1
      have g2' : jts[j]? = some vy := by simpa using g2
      rw [k1] at g1'
      rw [k3] at g2'
      cases g1'
      cases g2'
      exact ⟨(by show 2 ≤ sizeLine; decide), _, .cons k2 (.cons k4 .nil), ⟨_, g3, rfl, _, rfl⟩⟩
end
end L2
namespace L2
open PySem PySem.Spec PyProof.Rows
/-! ### the signs of a text, one by one -/
def Its (x : Str) : It := ⟨fun i _ => i < x.cps.size, fun i H v H' => H' = H ∧ ∃ c, x.cps[i]? = some c ∧ v = .str ⟨#[c]⟩, fun i _ => i = x.cps.size⟩
theorem turn_str {P : Program} {w : World} {K : PySem.W.Frag} {tg : Expr} (it : Addr) (x : Str) (t : Tok) (ty : String)
    (W : ∀ A' : Around, A'.handled = none → Walks P w A' it [it] [it] x.cps.size (SignAt x) (fun i h => h.IsStrIter it ty x t i))
    (hty : ["enumerate", "zip", "dict_itemiterator", "dict_reverseitemiterator", "odict_iterator", "itertools.zip_longest", "itertools.pairwise"].contains ty = false)
    (hself : ∀ (A : Around) (i : Nat) (s : Shared) (Q : Value → Shared → Prop) (E : Value → Shared → Prop), s.heap.IsStrIter it ty x t i → Q (.ref it) s → wpAny (model P w) A (pyIter (.ref it)) Q E s) : Turn P w K tg (Its x) [it] it (fun i h => h.IsStrIter it ty x t i) where
  mem := by simp
  obj := fun i h st b hb => by
    have e : b = it := by simpa using hb
    subst e
    obtain ⟨o, e, c, d⟩ := st
    exact ⟨o, e, fun v z => by rw [d] at z; cases z⟩
  keep := fun i h h' st k => let ⟨o, e, r⟩ := st; ⟨o, k it (by simp) o e, r⟩
  item := by
    intro X hP hw hK hc i pins s σ H E I hf st hg
    subst hP hw hK
    obtain ⟨f0, f1, f2, f3, f4, f5⟩ := hf it (by simp)
    refine (W X.A (I.ok.hd hc)).item i s _ _ hg st fun v h' tk hv st' kk => ?_
    obtain ⟨c, u, hcu, rfl⟩ := hv
    have I1 : Inv X pins σ H { s with heap := h', toks := tk } := I.turned (fun b o hb e => kk b o (by simpa using hb) e) f0 f1 f3 f4 f5
    obtain ⟨o, e, cl, d⟩ := id st'
    exact ⟨_, rfl, go_of (s := { s with heap := h', toks := tk }) (n := ty) e cl d hty ⟨.str ⟨#[c]⟩, H, I1, ⟨u, rfl⟩, ⟨rfl, c, hcu, rfl⟩, st', fun b hb => (hf b hb).1⟩⟩
  done := by
    intro X hP hw hK hc i pins s σ H E I hf st hg
    subst hP hw hK
    obtain ⟨f0, f1, f2, f3, f4, f5⟩ := hf it (by simp)
    have hi : i = x.cps.size := hg
    subst hi
    exact (W X.A (I.ok.hd hc)).done s _ _ st fun h' tk kk => ⟨rfl, I.turned (fun b o hb e => kk b o (by simpa using hb) e) f0 f1 f3 f4 f5⟩
  self := fun A i s Q E st h => hself A i s Q E st h
section
variable {X : Cx} {tg : Expr}
def iStr (te : TE) : TI := fun σ H R => te σ H fun v H1 => ∃ x, v = .str x ∧ R (Its x) H1
theorem pi_str {e : Expr} {te : TE} (he : PE X e te) : PI X tg e (iStr te) := by
  intro pins s σ H R I h
  refine thn (he pins s σ H _ I h) fun v s1 ⟨y, H1, I1, r1, x, e1, q⟩ => ?_
  subst e1
  obtain ⟨t, rfl⟩ := r1
  have fin : ∀ b ∈ [s1.heap.objs.size], FpOk X pins H1 b := fun b hb => by
    have e : b = s1.heap.objs.size := by simpa using hb
    subst e
    exact I1.fpOk (Nat.le_refl _) (I1.hok.fresh (Nat.le_refl _))
  cases ha : x.cps.all (· < 128)
  · exact wpAny_pyIter_wide ha ⟨s1.heap.objs.size, [s1.heap.objs.size], _, _, H1, rfl, I1.kept (t' := s1.toks) fun b o e => Heap.get?_push_of_some _ e,
      turn_str _ x t "str_iterator" (fun A' hA => Walks.strWide hA _ x t) (by decide) (fun A i s Q E st h => wpAny_pyIter_striter_wide st h), ⟨_, Heap.get?_push_size _ rfl, rfl, rfl⟩, fin, q⟩
  · exact wpAny_pyIter_ascii ha ⟨s1.heap.objs.size, [s1.heap.objs.size], _, _, H1, rfl, I1.kept (t' := s1.toks) fun b o e => Heap.get?_push_of_some _ e,
      turn_str _ x t "str_ascii_iterator" (fun A' hA => Walks.strAscii hA _ x t) (by decide) (fun A i s Q E st h => wpAny_pyIter_striter_ascii st h), ⟨_, Heap.get?_push_size _ rfl, rfl, rfl⟩, fin, q⟩
end
/-! ### join, all, isinstance, cuts of texts, upper -/
section
variable {X : Cx}
theorem strs_of : ∀ {ys : List Str} {us : List Value}, Vals (ys.map V.str) us → StrsAre us ys
  | [], _, .nil => .nil
  | _ :: _, _, .cons ⟨t, e⟩ r => by subst e; exact .cons _ t (strs_of r)
def rJoin (K : PySem.W.Frag) : V → List V → Hp → VK → Prop := fun x vs H Q => ∃ z p ys, x = .str z ∧ vs = [.ref p] ∧ SqL K H p (ys.map V.str) ∧ (ys.map (·.length)).sum + ys.length * z.length ≤ 16777216 ∧ Q (.str (Txt.join z ys)) H
theorem mt_join : MtR X "str.join" (rJoin X.K) := by
  intro pins s σ H x xs v us Q I rx rs h
  obtain ⟨z, p, ys, rfl, rfl, hq, hb, q⟩ := h
  obtain ⟨t, rfl⟩ := rx
  obtain ⟨u, rfl, ru⟩ := vals1 rs
  cases ru
  obtain ⟨its, rv, pl, hz⟩ := I.list hq
  exact join_list pl.isList (by simpa using strs_of rv) hb fun t' k => ⟨.str _, H, I.tok _, ⟨_, rfl⟩, q⟩
theorem bools_of : ∀ {bs : List Bool} {us : List Value}, Vals (bs.map V.bl) us → LSm.BoolsAre us bs
  | [], _, .nil => .nil
  | _ :: _, _, .cons e r => by cases e; exact .cons _ (bools_of r)
theorem call_all (hc : X.calm = true) : CallR X (.builtin "all") (fun xs H Q => ∃ (p : Addr) (bs : List Bool), xs = [.ref p] ∧ SqL X.K H p (bs.map V.bl) ∧ Q (.bl (bs.all id)) H) := by
  intro pins s σ H xs us Q I r h
  obtain ⟨p, bs, rfl, hq, q⟩ := h
  obtain ⟨u, rfl, ru⟩ := vals1 r
  cases ru
  obtain ⟨its, rv, pl, hz⟩ := I.list hq
  have hb := bools_of rv
  have hl := pl.isList
  have hlt : p < s.heap.objs.size := by obtain ⟨_, e, _⟩ := hl; exact Heap.lt_size e
  refine call_all_walk (wpAny_pyIter_list hl ?_)
  refine ⟨s.heap.objs.size, [s.heap.objs.size, p], [s.heap.objs.size], its.toArray.size, _, _, fun i => (bs[i]?).getD true, rfl, Walks.list (A := X.A.in1) (I.ok.hd hc) _ p (Nat.ne_of_lt hlt) its.toArray,
    ⟨⟨_, Heap.get?_push_size _ rfl, rfl, rfl⟩, hl.push _⟩, fun i v s' Q' E' hP hQ => ?_, fun h' tk hk => ?_⟩
  · obtain ⟨b, e, rfl⟩ := hb.get i v (by simpa using hP)
    simp only [e, Option.getD_some] at hQ
    exact wpAny_truthy_bool hQ
  · have e : ((List.range its.toArray.size).all fun i => (bs[i]?).getD true) = bs.all id := by
      rw [List.size_toArray, hb.length]; exact LSm.range_all bs
    rw [e]
    exact ⟨.bl _, H, I.kept (LSm.kept_iter hk), rfl, q⟩
def isB : V → String → Option Bool
  | .bl _, "bool" => some true
  | .bl _, "int" => some true
  | .int _, "int" => some true
  | .int _, "bool" => some false
  | _, _ => none
theorem call_isB : CallR X (.builtin "isinstance") (fun xs H Q => ∃ x T r, xs = [x, .ty T] ∧ isB x T = some r ∧ Q (.bl r) H) := by
  intro pins s σ H xs us Q I r h
  obtain ⟨x, T, b, rfl, e, q⟩ := h
  obtain ⟨u, w', rfl, r1, r2⟩ := vals2 r
  obtain rfl : w' = Value.type T := r2
  unfold isB at e
  split at e
  · cases e; obtain rfl : u = Value.bool _ := r1; exact IsiPair.bool_bool ⟨.bl _, H, I, rfl, q⟩
  · cases e; obtain rfl : u = Value.bool _ := r1; exact IsiPair.bool_int ⟨.bl _, H, I, rfl, q⟩
  · cases e; obtain ⟨t, rfl⟩ := r1; exact IsiPair.int_int ⟨.bl _, H, I, rfl, q⟩
  · cases e; obtain ⟨t, rfl⟩ := r1; exact IsiPair.int_bool ⟨.bl _, H, I.tok _, rfl, q⟩
  · cases e
def rSlS : V → Option Int → Option Int → Hp → VK → Prop := fun x lo hi H Q => ∃ z, x = .str z ∧ z.length ≤ sizeLine ∧ Q (.str (Txt.slice z lo hi)) H
theorem part_of {v : Value} {o : Option Int} (h : IsPart v o) : ∃ p : Option (Int × Tok), v = partValue p ∧ p.map (·.1) = o := by
  cases h with
  | none => exact ⟨none, rfl, rfl⟩
  | int i t => exact ⟨some (i, t), rfl, rfl⟩
theorem sl_str : SlR X rSlS := by
  intro pins s σ H x v vl vu lo hi sl Q I rx hs pl pu h
  obtain ⟨z, rfl, hz, q⟩ := h
  obtain ⟨t, rfl⟩ := rx
  obtain ⟨p1, rfl, e1⟩ := part_of pl
  obtain ⟨p2, rfl, e2⟩ := part_of pu
  refine ⟨"str", _, PySem.F.slot_str_getitem.lookup, typeIs_str s z t, ?_⟩
  refine wpAny_getItem_str_slice (l := p1) (u := p2) (st := none) hs rfl ?_
  subst e1 e2
  cases p1 <;> cases p2 <;> exact post_val_or_str ⟨Nat.le_trans (Txt.slice_le z _ _) hz, fun t' k => ⟨.str _, H, I.tok _, ⟨_, rfl⟩, q⟩⟩
def rUpper : V → List V → Hp → VK → Prop := fun x vs H Q => ∃ z, x = .str z ∧ vs = [] ∧ z.length ≤ 5592405 ∧ ((Txt.upper z).length ≤ 3 * z.length → Q (.str (Txt.upper z)) H)
theorem mt_upper : MtR X "str.upper" rUpper := by
  intro pins s σ H x xs v us Q I rx rs h
  obtain ⟨z, rfl, rfl, hz, q⟩ := h
  obtain ⟨t, rfl⟩ := rx
  cases rs
  exact SCL.upper hz fun hl => ⟨.str _, H, I.tok _, ⟨_, rfl⟩, q hl⟩
end
end L2
namespace L2
open PySem PySem.Spec PyProof.Rows
/-! ### xs[lo:hi:k] of a list -/
def pickV (xs : List V) (lo hi st : Option Int) : List V := (sliceRange (sliceBounds lo hi st xs.length).1 (sliceBounds lo hi st xs.length).2.1 (sliceBounds lo hi st xs.length).2.2).filterMap (xs[·]?)
theorem vals_pick {xs : List V} {us : List Value} (r : Vals xs us) : ∀ ix : List Nat, Vals (ix.filterMap (xs[·]?)) (ix.filterMap (us[·]?))
  | [] => .nil
  | i :: ix => by
    rw [List.filterMap_cons, List.filterMap_cons]
    cases e : xs[i]? with
    | none => rw [r.none_of e]; exact vals_pick r ix
    | some x =>
      obtain ⟨u, e2, rx⟩ := r.get e
      rw [e2]
      exact .cons rx (vals_pick r ix)
section
variable {X : Cx} {e st : Expr} {lo hi : Option Expr} {te : TE} {tl th tk : TO} {p2 pos : Pos}
def tSl3 (K : PySem.W.Frag) (te : TE) (tl th tk : TO) : TE := fun σ H Q => te σ H fun x H1 => tl σ H1 fun l H2 => th σ H2 fun u H3 => tk σ H3 fun k H4 => ∃ a xs, x = .ref a ∧ SqL K H4 a xs ∧ k ≠ some 0 ∧ (pickV xs l u k).length ≤ sizeLine ∧
  ∀ p, H4 p = none → Q (.ref p) (upd H4 p (.lst (pickV xs l u k)))
theorem pe_slice3 (he : PE X e te) (hl : PO X lo tl) (hu : PO X hi th) (hk : PO X (some st) tk) : PE X (.Subscript e (.Slice lo hi (some st) p2) pos) (tSl3 X.K te tl th tk) := by
  intro pins s σ H Q I h
  refine Subscript_ (thn (he pins s σ H _ I h) fun v s1 ⟨x, H1, I1, r1, q1⟩ => ?_)
  refine wpAny_Slice (thn (hl pins s1 σ H1 _ I1 q1) fun vl s2 ⟨l, H2, I2, pl, q2⟩ => thn (hu pins s2 σ H2 _ I2 q2) fun vu s3 ⟨u, H3, I3, pu, q3⟩ => thn (hk pins s3 σ H3 _ I3 q3) fun vk s4 ⟨k, H4, I4, pk, q4⟩ => ?_)
  obtain ⟨a, xs, rfl, hx, k0, hz2, q⟩ := q4
  cases r1
  have I5 : Inv X pins σ H4 { s4 with heap := s4.heap.push { cls := .type "slice", data := .fields #[vl, vu, vk] } } := I4.kept (t' := s4.toks) fun b ob q => Heap.get?_push_of_some _ q
  obtain ⟨its, r, ht, hz⟩ := I5.list hx
  have hlen := r.length
  refine tail_any (T := "list") (ops := [.ref a, .ref s4.heap.objs.size]) ht.isList.typeIs slot_list_getitem.lookup ?_ (by with_unfolding_all rfl)
  refine wpAny_getItem_list_slice ht.isList (Heap.IsSliceOf.new ..) pl pu pk k0 ?_ (by rw [List.size_toArray] <;> omega)
  have ep : slicePick its.toArray l u k = ((sliceRange (sliceBounds l u k xs.length).1 (sliceBounds l u k xs.length).2.1 (sliceBounds l u k xs.length).2.2).filterMap (its[·]?)).toArray := by
    unfold slicePick
    rw [List.size_toArray, ← hlen]
    simp
  rw [ep]
  refine ⟨.ref _, _, I5.laid (t' := s4.toks) (o := .lst (pickV xs l u k)) (fun b ob q => Heap.get?_push_of_some _ q) (Nat.le_refl _) ?_, rfl, q _ (I5.hok.fresh (Nat.le_refl _))⟩
  exact ⟨hz2, _, 0, vals_pick r _, Heap.get?_push_size _ rfl⟩
end
theorem pick_of {xs : List V} {lo hi st : Option Int} {ix : List Nat} (h : sliceRange (sliceBounds lo hi st xs.length).1 (sliceBounds lo hi st xs.length).2.1 (sliceBounds lo hi st xs.length).2.2 = ix) : pickV xs lo hi st = ix.filterMap (xs[·]?) := by
  unfold pickV
  rw [h]
theorem pick_even : ∀ (ps : List (V × V)), ps.length ≤ 6 → pickV (ps.flatMap fun p => [p.1, p.2]) none none (some 2) = ps.map (·.1)
  | [], _ => (pick_of (show sliceRange (sliceBounds none none (some 2) 0).1 (sliceBounds none none (some 2) 0).2.1 (sliceBounds none none (some 2) 0).2.2 = [] by decide +kernel)).trans rfl
  | [a], _ => (pick_of (show sliceRange (sliceBounds none none (some 2) 2).1 (sliceBounds none none (some 2) 2).2.1 (sliceBounds none none (some 2) 2).2.2 = [0] by decide +kernel)).trans rfl
  | [a, b], _ => (pick_of (show sliceRange (sliceBounds none none (some 2) 4).1 (sliceBounds none none (some 2) 4).2.1 (sliceBounds none none (some 2) 4).2.2 = [0, 2] by decide +kernel)).trans rfl
  | [a, b, c], _ => (pick_of (show sliceRange (sliceBounds none none (some 2) 6).1 (sliceBounds none none (some 2) 6).2.1 (sliceBounds none none (some 2) 6).2.2 = [0, 2, 4] by decide +kernel)).trans rfl
  | [a, b, c, d], _ => (pick_of (show sliceRange (sliceBounds none none (some 2) 8).1 (sliceBounds none none (some 2) 8).2.1 (sliceBounds none none (some 2) 8).2.2 = [0, 2, 4, 6] by decide +kernel)).trans rfl
  | [a, b, c, d, e], _ => (pick_of (show sliceRange (sliceBounds none none (some 2) 10).1 (sliceBounds none none (some 2) 10).2.1 (sliceBounds none none (some 2) 10).2.2 = [0, 2, 4, 6, 8] by decide +kernel)).trans rfl
  | [a, b, c, d, e, f], _ => (pick_of (show sliceRange (sliceBounds none none (some 2) 12).1 (sliceBounds none none (some 2) 12).2.1 (sliceBounds none none (some 2) 12).2.2 = [0, 2, 4, 6, 8, 10] by decide +kernel)).trans rfl
  | _ :: _ :: _ :: _ :: _ :: _ :: _ :: r, h => absurd h (by simp)
theorem pick_odd : ∀ (ps : List (V × V)), ps.length ≤ 6 → pickV (ps.flatMap fun p => [p.1, p.2]) (some 1) none (some 2) = ps.map (·.2)
  | [], _ => (pick_of (show sliceRange (sliceBounds (some 1) none (some 2) 0).1 (sliceBounds (some 1) none (some 2) 0).2.1 (sliceBounds (some 1) none (some 2) 0).2.2 = [] by decide +kernel)).trans rfl
  | [a], _ => (pick_of (show sliceRange (sliceBounds (some 1) none (some 2) 2).1 (sliceBounds (some 1) none (some 2) 2).2.1 (sliceBounds (some 1) none (some 2) 2).2.2 = [1] by decide +kernel)).trans rfl
  | [a, b], _ => (pick_of (show sliceRange (sliceBounds (some 1) none (some 2) 4).1 (sliceBounds (some 1) none (some 2) 4).2.1 (sliceBounds (some 1) none (some 2) 4).2.2 = [1, 3] by decide +kernel)).trans rfl
  | [a, b, c], _ => (pick_of (show sliceRange (sliceBounds (some 1) none (some 2) 6).1 (sliceBounds (some 1) none (some 2) 6).2.1 (sliceBounds (some 1) none (some 2) 6).2.2 = [1, 3, 5] by decide +kernel)).trans rfl
  | [a, b, c, d], _ => (pick_of (show sliceRange (sliceBounds (some 1) none (some 2) 8).1 (sliceBounds (some 1) none (some 2) 8).2.1 (sliceBounds (some 1) none (some 2) 8).2.2 = [1, 3, 5, 7] by decide +kernel)).trans rfl
  | [a, b, c, d, e], _ => (pick_of (show sliceRange (sliceBounds (some 1) none (some 2) 10).1 (sliceBounds (some 1) none (some 2) 10).2.1 (sliceBounds (some 1) none (some 2) 10).2.2 = [1, 3, 5, 7, 9] by decide +kernel)).trans rfl
  | [a, b, c, d, e, f], _ => (pick_of (show sliceRange (sliceBounds (some 1) none (some 2) 12).1 (sliceBounds (some 1) none (some 2) 12).2.1 (sliceBounds (some 1) none (some 2) 12).2.2 = [1, 3, 5, 7, 9, 11] by decide +kernel)).trans rfl
  | _ :: _ :: _ :: _ :: _ :: _ :: _ :: r, h => absurd h (by simp)
end L2
namespace L2
open PySem PySem.Spec PyProof.Rows
/-! ### a written row of texts -/
def strsOf : List Expr → Option (List Str)
  | [] => some []
  | .Constant (.str x) _ _ :: r => (strsOf r).map (x :: ·)
  | _ => none
def tStrs (xs : List Str) : TA := fun _ H Q => Q (xs.map V.str) H
theorem pa_strs {X : Cx} : ∀ {es : List Expr} {xs : List Str}, strsOf es = some xs → PA X es (tStrs xs)
  | [], xs, h => by
    cases h
    exact pa_nil
  | .Constant (.str x) j p :: r, xs, h => by
    unfold strsOf at h
    cases e : strsOf r with
    | none => rw [e] at h; cases h
    | some ys =>
      rw [e] at h
      cases h
      exact pa_cons pe_str (pa_strs e) rfl
end L2

namespace L2
open PySem PySem.Spec PyProof.Rows
/-! ### an error of a class of one's own, under one of one's own, with an __init__ of its own -/
section
variable {prog : Program} {w : World} {A : Around} {E : Value → Shared → Prop} {h : Heap} {g : Array GenState} {d : Drawn} {t : Nat} {os : OsState}
variable {nm q : Str} {C N : Addr} {bs bm bmB : List Value} {hdct : Bool} {sn : List Str} {sub : List Value} {ab : Bool} {col : Option Bool} {dd : Option Addr} {k0 k1 k2 k3 k5 : Option Value} {B newId initId : String}
theorem type_call_initT (F : ExcBaseFacts B newId initId bmB) (T : OwnTail h bmB bm) {mN : Str → Option Value} {rest : List Value} {fI : Addr} {oI : Obj} {Q : Fin → Shared → Prop}
    (hC : h.get? C = some (excClassObj nm q C N bs bm hdct sn sub ab col dd k0 k1 k2 k3 k5 newId)) (hn : h.Ns N mN) (hi : mN "__init__" = some (.ref fI))
    (hfI : h.get? fI = some oI) (hfc : oI.cls = .type "function")
    (hq : ∀ h' e, Heap.MadeExcOf h h' e (.ref C) rest → h.objs.size ≤ e →
      wpAny (model prog w) A (call (.ref fI) (.ref e :: rest)) (fun r s' => r = .none ∧ Q (.done (.ret (.ref e))) s') E ⟨h', g, d, t, os⟩) (hrest : rest.length ≤ sizeLine) :
    wpAny (model prog w) A (Builtin.«type.__call__» ⟨.ref C :: rest, []⟩) Q E ⟨h, g, d, t, os⟩ := by
  repeat (first | with_reducible refine wpAny_loadPart_at hC ?_ | with_reducible refine wpAny_madeBy_exc hC ?_ | wp_step)
  refine codeAny_call_builtin_code (Code.quiet_builtin _ F.quiet) (wpAny_check_new_subT F T hC ?_)
  refine codeAny_exc_new_subT F T hC ?_ hrest
  show wpAny _ _ _ _ _ _
  generalize ee : ({ cls := .ref C, data := .fields #[.ref h.objs.size, .none, .none, .none, .bool false, .none] } : Obj) = oe
  have kp : ∀ b o, h.get? b = some o → ((h.push { cls := .type "tuple", data := .seq rest.toArray }).push oe).get? b = some o := fun b o e => Heap.get?_push_of_some _ (Heap.get?_push_of_some _ e)
  have hC₁ := kp _ _ hC
  have hfI₁ := kp _ _ hfI
  have hn₁ := hn.keeps kp
  have T₁ := T.keeps kp
  have hget : ((h.push { cls := .type "tuple", data := .seq rest.toArray }).push oe).get? (h.objs.size + 1) = some oe := by
    subst ee
    heap_get
  have hoc : oe.cls = .ref C := by rw [← ee]
  have hcC : (Value.ref C :: bm).contains (.ref C) = true := by simp
  unfold isInstance
  repeat (first | (with_reducible refine wpAny_loadPart_at hget ?_; rw [hoc]) | (with_reducible refine wpAny_isSubtype_exc hC₁ ?_; rw [hcC]) | wp_step)
  show wpAny _ _ (typeLookup (.ref C) _) _ _ _
  refine wpAny_typeLookup_tail hC₁ hn₁ T₁ F.mroIs F.init.lookup ?_
  rw [hi]
  refine wpAny_holding (wpAny_bind ?_)
  unfold bindSpecial
  refine wpAny_bind (wpAny_typeOf (T := "function") ⟨_, hfI₁, hfc⟩ ?_)
  rw [if_pos (by decide)]
  refine wpAny_pure (wpAny_bind (wpAny_mono (hq _ (h.objs.size + 1) ⟨kp, Heap.get?_none_of_le (Nat.le_succ _), h.objs.size, by rw [hget, ← ee], Heap.get?_none_of_le (Nat.le_refl _), ?_⟩ (Nat.le_succ _)) (fun r s' hr => ?_) fun _ _ x => x))
  · exact Heap.get?_push_of_some _ (Heap.get?_push_at rfl rfl)
  · obtain ⟨rfl, hQ⟩ := hr
    wp_walk
    exact hQ
theorem call_initT (F : ExcBaseFacts B newId initId bmB) (T : OwnTail h bmB bm) {mN : Str → Option Value} {rest : List Value} {fI : Addr} {oI : Obj} {Q : Value → Shared → Prop}
    (hC : h.get? C = some (excClassObj nm q C N bs bm hdct sn sub ab col dd k0 k1 k2 k3 k5 newId)) (hn : h.Ns N mN) (hi : mN "__init__" = some (.ref fI))
    (hfI : h.get? fI = some oI) (hfc : oI.cls = .type "function")
    (hq : ∀ h' e, Heap.MadeExcOf h h' e (.ref C) rest → h.objs.size ≤ e →
      wpAny (model prog w) (A.under (.builtin "type.__call__" ⟨.ref C :: rest, []⟩)) (call (.ref fI) (.ref e :: rest)) (fun r s' => r = .none ∧ Q (.ref e) s') E ⟨h', g, d, t, os⟩) (hrest : rest.length ≤ sizeLine) :
    wpAny (model prog w) A (call (.ref C) rest) Q E ⟨h, g, d, t, os⟩ := by
  have f1 := tc_lookup
  have f2 := tc_bind (.ref C)
  have hT : (⟨h, g, d, t, os⟩ : Shared).TypeIs (.ref C) "type" := ⟨_, hC, rfl⟩
  refine wpAny_call (codeAny_of_tree ?_)
  show wpAny _ _ (callAny (.ref C) _) _ _ _
  repeat (any_goals (first | assumption | with_reducible refine wpAny_loadPart_at hC ?_ | wp_step))
  refine ⟨rfl, ?_⟩
  exact codeAny_call_builtin_at (Code.quiet_builtin _ (by decide +kernel)) entry_typeCall (wpAny_check_type_call_sub hC (type_call_initT F T hC hn hi hfI hfc (fun h' e hm hz => hq h' e hm hz) hrest))
end
end L2

namespace L2
open PySem PySem.Spec PyProof.Rows PySem.W
/-! ### an attribute of an error that has none yet -/
abbrev valueMro : List Value := [.type "ValueError", .type "Exception", .type "BaseException", .type "object"]
def excOver : List Value → Bool
  | .ref _ :: r => excOver r
  | l => l == valueMro
theorem excOver_ref {c : Addr} {r : List Value} : excOver (.ref c :: r) = excOver r := rfl
theorem refuse_exc (self : Value) : ∀ {l : List Value}, excOver l = true → refuseLoop self "__setattr__" l = pure ()
  | .ref c :: r, e => by rw [refuseLoop_ref]; exact refuse_exc self (by rw [excOver_ref] at e; exact e)
  | [], e => by cases e
  | .type n :: r, e => by
    have e' : (.type n :: r : List Value) = valueMro := by unfold excOver at e; exact beq_iff_eq.mp e
    rw [e']
    exact PySem.F.store_ValueError.passes self
  | .none :: r, e => by unfold excOver at e; cases e
  | .bool _ :: r, e => by unfold excOver at e; cases e
  | .int _ _ :: r, e => by unfold excOver at e; cases e
  | .str _ _ :: r, e => by unfold excOver at e; cases e
  | .bytes _ _ :: r, e => by unfold excOver at e; cases e
  | .float _ _ :: r, e => by unfold excOver at e; cases e
  | .builtin _ :: r, e => by unfold excOver at e; cases e
  | .ellipsis :: r, e => by unfold excOver at e; cases e
end L2

namespace L2
open PySem PySem.Spec PyProof.Rows PySem.W Builtin Builtin.ObjectAttr
section
variable {prog : Program} {w : World} {A : Around} {K : Frag} {C x : Addr} {s : Shared} {R : Result → Shared → Prop}
theorem excOver_has : ∀ {l : List Value}, excOver l = true → l.contains (.type "object") = true ∧ l.isEmpty = false
  | .ref c :: r, e => by rw [excOver_ref] at e; rw [List.contains_cons, (excOver_has e).1, Bool.or_true]; exact ⟨rfl, rfl⟩
  | [], e => by cases e
  | .type n :: r, e => by
    have e' : (.type n :: r : List Value) = valueMro := by unfold excOver at e; exact beq_iff_eq.mp e
    rw [e']; exact ⟨by decide, rfl⟩
  | .none :: r, e => by unfold excOver at e; cases e
  | .bool _ :: r, e => by unfold excOver at e; cases e
  | .int _ _ :: r, e => by unfold excOver at e; cases e
  | .str _ _ :: r, e => by unfold excOver at e; cases e
  | .bytes _ _ :: r, e => by unfold excOver at e; cases e
  | .float _ _ :: r, e => by unfold excOver at e; cases e
  | .builtin _ :: r, e => by unfold excOver at e; cases e
  | .ellipsis :: r, e => by unfold excOver at e; cases e
def errOver (K : Frag) (C : Addr) : Bool := (clsIn K C).any fun cd => excOver cd.mro && cd.hasDict
/-- the dict of an error with one field -/
def oneField (w : World) (name : Str) (tk : Tok) (v : Value) : Obj := Obj.putName name (PyData.keyHash w.params name) (.str name tk) v { cls := .type "dict", data := .dict #[] }
theorem oneField_eq (w : World) (name : Str) (tk : Tok) (v : Value) : ∃ n, (oneField w name tk v).data = .dict #[⟨PyData.keyHash w.params name, .str name tk, v⟩] n ∧ (oneField w name tk v).cls = .type "dict" ∧ (oneField w name tk v).dict = none := by
  refine ⟨1, ?_, ?_, ?_⟩ <;> rfl
theorem err_osa {ox : Obj} {name : Str} {tk : Tok} {v : Value} (X : K.In s.heap) (I : InstAt s.heap x ox C none) (hp : errOver K C = true) (ht : takerIn K C name = some none)
    (go : ∀ h', h'.get? x = some { ox with dict := some s.heap.objs.size } → h'.get? s.heap.objs.size = some (oneField w name s.toks v) → (∀ b o, b ≠ x → s.heap.get? b = some o → h'.get? b = some o) →
      s.heap.objs.size < h'.objs.size → R (.ok (.ret .none)) { s with heap := h', toks := s.toks + 1 }) :
    codeAny (model prog w) A (.call (.builtin "object.__setattr__") ⟨[.ref x, .str name tk, v], []⟩) R s := by
  obtain ⟨hh, g, d, t, os⟩ := s
  dsimp only at X I go
  have B := PySem.F.store_object
  obtain ⟨cd, hc, ho'⟩ := any_some hp
  obtain ⟨ho, hdc⟩ := Bool.and_eq_true_iff.mp ho'
  have hasO := excOver_has ho
  have isO : Looks (model prog w) hh (isInstance (.ref x) (.type "object")) true :=
    I.type.andThen (looks_mroIn X (by unfold mroIn; rw [hc, Option.bind_some, if_neg (by rw [hasO.2]; decide), hasO.1]))
  have chk := @check_slot (model prog w) A.in1 (fun e s' => R (.error e) s') ⟨hh, g, d, t, os⟩ "object.__setattr__" "object" "__setattr__" (.ref x) [.str name tk, v] []
  refine codeAny_call_builtin B.slot.plain B.entry (chk B.kind B.split isO (B.args (.ref x) (.str name tk) v) ?_)
  clear chk
  obtain ⟨attr, ha, hr⟩ := Option.bind_eq_some_iff.mp ht
  have hm : Looks (model prog w) hh (mroOf (.ref C)) cd.mro := (looks_clsIn X hc).andThen .now
  have tk0 : Looks (model prog w) hh (storeTaker? attr) none := by
    match attr, hr with
    | none, _ => exact .now
    | some a, hr =>
      obtain ⟨b, hb, e⟩ := Option.map_eq_some_iff.mp hr
      refine (looks_takesIn X hb).andThen ?_
      cases b
      · exact .now
      · cases e
  rw [osa_eq, refuse_eq]
  refine wpAny_bind (wpAny_bind (I.type.here (wpAny_bind (hm.here ?_))))
  rw [refuse_exc _ ho]
  refine wpAny_pure (wpAny_bind (I.type.here (wpAny_bind ((looks_findIn X ha).here (wpAny_bind (tk0.here ?_))))))
  obtain ⟨hx, hcl, hn, hdd⟩ := I
  obtain ⟨oc, odi, oda, osl⟩ := ox
  dsimp only at hcl hdd
  subst hcl
  cases odi with
  | some _ => exact hdd.elim
  | none =>
  refine wpAny_bind (wpAny_pure (wpAny_bind (wpAny_bind (wpAny_loadPart hx (wpAny_bind ((looks_clsIn X hc).here ?_))))))
  rw [hdc]
  have nc : ∀ c, oda ≠ .cls c := by intro c e; rw [e] at hn; cases hn
  generalize eD : ({ cls := .type "dict", data := .dict #[] } : Obj) = oD
  have x1 := Heap.get?_push_of_some oD hx
  have xs : x ≠ hh.objs.size := Nat.ne_of_lt (Heap.lt_size hx)
  have fin : wpAny (model prog w) A.in1 (alloc oD >>= fun dx => (update x fun o => { o with dict := some dx }) >>= fun _ => pure (some dx)) (fun od s₁ =>
      wpAny (model prog w) A.in1 (match od with | some d => storeInDict d (.str name tk) name v | none => noDictFor (.ref x) (.ref C) name attr.isSome)
        (fun fin s' => match fin with | .done f => R (.ok f) s' | .again c' => c'.quiet = true ∧ codeAny (model prog w) A c' R s') (fun e s' => R (.error e) s') s₁) (fun e s' => R (.error e) s') ⟨hh, g, d, t, os⟩ := by
    refine wpAny_bind (wpAny_alloc' ?_)
    refine wpAny_bind (wpAny_update' x1 ?_)
    refine wpAny_pure ?_
    have hgd : ((hh.push oD).update x fun o => { o with dict := some hh.objs.size }).get? hh.objs.size = some oD :=
      (Heap.get?_update_ne _ _ _ _ xs.symm).trans (Heap.get?_push_at rfl (by rw [← eD]; rfl))
    show wpAny _ _ (storeInDict hh.objs.size (.str name tk) name v) _ _ _
    refine wpAny_bind (wpAny_pure (wpAny_bind ?_))
    unfold nsSet
    refine wpAny_bind (wpAny_bind (wpAny_askSetting (wpAny_pure (wpAny_bind (wpAny_mkText (wpAny_bind (wpAny_loadPart hgd ?_)))))))
    rw [← eD] at hgd ⊢
    dsimp only
    rw [aRefKeyMayBeTheName_at]
    rw [if_neg (by simp)]
    refine wpAny_updatePart' hgd ?_
    generalize eU : ((hh.push { cls := .type "dict", data := .dict #[] }).update x fun o => { o with dict := some hh.objs.size }) = h2
    rw [eU] at hgd
    have hf : (oneField w name t v).isFreed = false := rfl
    have g1 : (h2.update hh.objs.size (Obj.putName name (PyData.keyHash w.params name) (.str name t) v)).get? hh.objs.size = some (oneField w name t v) := Heap.get?_update_self _ hgd hf
    obtain ⟨n, q1, -, -⟩ := oneField_eq w name t v
    refine wpAny_bind (wpAny_lookBehind g1 (by rw [q1]; exact pastItsLine_dict (by rw [sizeLine_eq]; exact Nat.le_add_left 1 _)) ?_)
    refine wpAny_pure (go _ ?_ g1 ?_ ?_)
    · refine (Heap.get?_update_ne _ _ _ _ xs).trans ?_
      rw [← eU, eD]
      refine Heap.get?_update_self _ x1 ?_
      have hfr := (Heap.get?_some_iff.mp hx).2
      cases oda <;> first | rfl | exact hfr
    · intro b o hb e
      refine (Heap.get?_update_ne _ _ _ _ (Nat.ne_of_lt (Heap.lt_size e))).trans ?_
      rw [← eU, eD]
      exact (Heap.get?_update_ne _ _ _ _ hb).trans (Heap.get?_push_of_some _ e)
    · exact Heap.lt_size g1
  cases oda with
  | cls c => exact absurd rfl (nc c)
  | _ => exact fin
/-- a field is set at an error that has none yet -/
theorem err_set {E : Value → Shared → Prop} {ox : Obj} {name : Str} {v : Value} {Q : Unit → Shared → Prop} (X : K.In s.heap) (I : InstAt s.heap x ox C none) (hp : errOver K C = true) (ht : takerIn K C name = some none)
    (hs : findIn K (.ref C) "__setattr__" = some (some (.builtin "object.__setattr__")))
    (go : ∀ h', h'.get? x = some { ox with dict := some s.heap.objs.size } → h'.get? s.heap.objs.size = some (oneField w name (s.toks + 1) v) → (∀ b o, b ≠ x → s.heap.get? b = some o → h'.get? b = some o) →
      s.heap.objs.size < h'.objs.size → Q () { s with heap := h', toks := s.toks + 1 + 1 }) :
    wpAny (model prog w) A (setAttr (.ref x) name v) Q E s :=
  set_plain X I hs (err_osa (s := { s with toks := s.toks + 1 }) X I hp ht go)
end
end L2

namespace L2
open PySem PySem.Spec PyProof.Rows PySem.W
/-! ### own errors that are kept as values -/
def errObj (C ta : Addr) (od : Option Addr) : Obj := { cls := .ref C, dict := od, data := .fields #[.ref ta, .none, .none, .none, .bool false, .none] }
def errPhi (x C : Addr) (od : Option Addr) : Heap → Prop := fun h => ∃ ta, h.get? x = some (errObj C ta od)
theorem err_ok {P : Program} {w : World} {H : Hp} {h : Heap} {x C : Addr} {od : Option Addr} (e : errPhi x C od h) : ObjOk P w H h x (.ext (errPhi x C od)) :=
  ⟨e, e.elim fun _ q => ⟨_, q⟩, fun _ _ ⟨ta, q⟩ k => ⟨ta, k _ q⟩⟩
/-- a class of errors that has an __init__ of its own -/
structure ErrK (K : Frag) (C f : Addr) : Prop where
  cls : ∀ h, K.In h → ∃ nm q N bs bm hdct sn sub ab col dd k0 k1 k2 k3 k5 mN oI, h.get? C = some (excClassObj nm q C N bs bm hdct sn sub ab col dd k0 k1 k2 k3 k5 "ValueError.__new__") ∧
    h.Ns N mN ∧ mN "__init__" = some (.ref f) ∧ OwnTail h valueMro bm ∧ h.get? f = some oI ∧ oI.cls = .type "function"
  kp : keepIn K (.ref C) = true
/-- a field may be set at such an error -/
structure ErrF (K : Frag) (C : Addr) (n : Str) : Prop where
  over : errOver K C = true
  sa : findIn K (.ref C) "__setattr__" = some (some (.builtin "object.__setattr__"))
  no : takerIn K C n = some none
def tErr (C : Addr) (sp : Sp) (dvs : List V) (E : XK) (t : TA) : TE := fun σ H Q => t σ H fun vs H1 => vs.length ≤ 1000 ∧ ∀ x, H1 x = none →
  sp (.ref x :: (vs ++ dvs)) (upd H1 x (.ext (errPhi x C none))) (fun v H2 => v = .non ∧ Q (.ref x) H2) E
def sErr (K : Frag) (ta tv : TE) (f : Str) : TS := fun D σ H => tv σ H fun y H1 => ta σ H1 fun x H2 => ∃ a C, x = .ref a ∧ H2 a = some (.ext (errPhi a C none)) ∧ ErrF K C f ∧
  ∀ dx, H2 dx = none → dx ≠ a → D.nx σ (upd (upd H2 dx (.xd [(f, y)])) a (.ext (errPhi a C (some dx))))
section
variable {X : Cx} {CX : CXT} {k : Nat} {f C : Addr} {fd : FuncData} {ps : List Str} {sp : Sp} {dvs : List V} {ds : List Value} {E : XK} {x m : Str} {p pos apos : Pos} {e o : Expr} {es : List Expr} {ta : TE} {t : TA}
theorem run_err {pins : List (Addr × Obj)} {σ : St} {H : Hp} {s : Shared} {Q : VK} {us : List Value} {vs : List V} (M : ErrK X.K C f) (F : FnOk X.prog X.w X.K X.mg X.base CX k f fd ps sp) (hr : Room (k + 1) X.A) (hb : Binds X.K fd ps ds) (hd : Vals dvs ds)
    (hx : Passes CX X E) (I : Inv X pins σ H s) (r : Vals vs us) (hl : vs.length ≤ 1000)
    (go : ∀ x, H x = none → sp (.ref x :: (vs ++ dvs)) (upd H x (.ext (errPhi x C none))) (fun v H2 => v = .non ∧ Q (.ref x) H2) E) :
    wpAny (model X.prog X.w) X.A (call (.ref C) us) (EP X pins σ Q) X.xe s := by
  obtain ⟨nm, q, N, bs, bm, hdct, sn, sub, ab, col, dd, k0, k1, k2, k3, k5, mN, oI, hC, hn, hi, T, hfI, hfc⟩ := M.cls _ I.kIn
  have hul : us.length ≤ sizeLine := by rw [← r.length]; exact Nat.le_of_lt (small1000 hl)
  obtain ⟨hh, g, d, tk, os⟩ := s
  refine call_initT PySem.F.excBase_ValueError T hC hn hi hfI hfc (fun h' x made hz => ?_) hul
  obtain ⟨kp, -, tup, ex, -, -⟩ := made
  have I2 : Inv X pins σ (upd H x (.ext (errPhi x C none))) ⟨h', g, d, tk, os⟩ := I.laid (a := x) (o := .ext (errPhi x C none)) (t' := tk) kp hz (err_ok ⟨tup, ex⟩)
  have q1 := go x (I.hok.fresh hz)
  have r2 : Vals (V.ref x :: (vs ++ dvs)) (Value.ref x :: (us ++ ds)) := .cons rfl (r.append hd)
  have len : (Value.ref x :: us ++ ds).length = ps.length := by
    have z := r2.length
    rw [F.len _ _ _ _ q1] at z
    exact z.symm
  have run := F.run _ X.stack _ _ ⟨Value.ref x :: us, []⟩ (Value.ref x :: (us ++ ds)) _ _ E (hr.make C us []) (I2.env0.make C us []) (hb _ (Value.ref x :: us) I2.kIn len) r2 q1
  refine wpAny_call (codeAny_mono run fun res s' back => ?_)
  match res, back with
  | .error e, back => exact hx pins σ _ _ e s' I2 back
  | .ok (.ret u), back =>
    obtain ⟨v, H', I3, rv, rfl, q3⟩ := I2.after back
    exact ⟨rv, ⟨V.ref x, H', I3, rfl, q3⟩⟩
  | .ok .next, back => exact False.elim back
  | .ok .brk, back => exact False.elim back
  | .ok .cont, back => exact False.elim back
theorem pe_err (M : ErrK X.K C f) (F : FnOk X.prog X.w X.K X.mg X.base CX k f fd ps sp) (hr : Room (k + 1) X.A) (hg : Gl X x) (hm : X.mg x = some (.ref C)) (hb : Binds X.K fd ps ds) (hd : Vals dvs ds) (hx : Passes CX X E)
    (ha : PA X (e :: es) t) (hdb : (x == ("__debug__" : Str)) = false := by decide) (he : starEach (e :: es) X.env = (false, eval e X.env) :: starEach es X.env := by rfl) (hpl : (backTo pos (starEach es X.env)).any (·.1) = false := by rfl) :
    PE X (.Call (.Name x p) (e :: es) [] pos) (tErr C sp dvs E t) := by
  intro pins s σ H Q I h
  refine wpAny_Call_Name_kw (ld_glob I hg hm ?_ hdb)
  exact callWith_K (h₀ := X.base) I.ok.mod.kin M.kp (thn (ha pos pins s σ H _ I h) fun us s1 ⟨vs, H1, I1, r, hl, q⟩ => ⟨I1.kIn, run_err M F hr hb hd hx I1 r hl q⟩) he hpl
theorem one_ns {w : World} {n : Str} {tk : Tok} {v : Value} {h : Heap} {dx : Addr} (e : h.get? dx = some (oneField w n tk v)) : h.Ns1 dx fun y => if y = n then some v else none := by
  obtain ⟨c, q1, -, -⟩ := oneField_eq w n tk v
  refine ⟨_, _, c, e, q1, ?_, ?_, ?_⟩
  · intro a ha
    have z : a = ⟨PyData.keyHash w.params n, .str n tk, v⟩ := by simpa using ha
    rw [z]
    exact ⟨n, tk, rfl⟩
  · exact List.pairwise_singleton _ _
  · intro y
    show _ = if y = n then some v else none
    by_cases q : y = n
    · subst q; rw [if_pos rfl]; simp [nsFind, findBy, Value.isStr]
    · rw [if_neg q]
      have q' : (n == y) = false := beq_false_of_ne fun z => q z.symm
      simp [nsFind, findBy, Value.isStr, q']
theorem errset_ok {A : Around} {E : Value → Shared → Prop} {a : Addr} {n : Str} {y : V} {u : Value} {pins : List (Addr × Obj)} {σ : St} {H : Hp} {s : Shared} {Q : Unit → Shared → Prop} (I : Inv X pins σ H s) (e : H a = some (.ext (errPhi a C none))) (c : ErrF X.K C n) (ry : RelV y u)
    (go : ∀ dx s', H dx = none → dx ≠ a → Inv X pins σ (upd (upd H dx (.xd [(n, y)])) a (.ext (errPhi a C (some dx)))) s' → Q () s') : wpAny (model X.prog X.w) A (setAttr (.ref a) n u) Q E s := by
  obtain ⟨⟨ta, ea⟩, -, -⟩ := I.hok a _ e
  refine err_set (ox := errObj C ta none) I.kIn ⟨ea, rfl, rfl, trivial⟩ c.over c.no c.sa fun h' hx hd hk hz => go s.heap.objs.size _ (I.hok.fresh (Nat.le_refl _)) (Nat.ne_of_gt (Heap.lt_size ea)) ?_
  have fr := Heap.get?_push_size s.heap (o := oneField X.w n (s.toks + 1) u) rfl
  have I1 := I.laid (a := s.heap.objs.size) (o := .xd [(n, y)]) (t' := s.toks) (h' := s.heap.push (oneField X.w n (s.toks + 1) u)) (fun b o q => Heap.get?_push_of_some _ q) (Nat.le_refl _) ⟨_, one_ns fr, fun z => by
    by_cases q : z = n
    · subst q; rw [if_pos rfl, List.lookup_cons, beq_self_eq_true]; exact ry
    · rw [if_neg q, List.lookup_cons, beq_false_of_ne q]; exact True.intro⟩
  have na : a ≠ s.heap.objs.size := Nat.ne_of_lt (Heap.lt_size ea)
  refine I1.write (x := a) (e := a) (t' := s.toks + 1 + 1) (by rw [upd_ne na, e]; exact True.intro) (.inl rfl) (fun b o hb q => ?_) ⟨_, hx⟩ (err_ok ⟨ta, hx⟩)
  rcases Heap.get?_push_cases q with ⟨rfl, rfl⟩ | q
  · exact hd
  · exact hk b o hb q
theorem ps_err {o value : Expr} {n : Str} {pos pos' : Pos} {tv : TE} (ha : PE X o ta) (hv : PE X value tv) (hs : swapsWith value (some (.Attribute o n pos')) pos.line X.env = pure false := by rfl) : PS X (.Assign [.Attribute o n pos'] value pos) (sErr X.K ta tv n) := by
  intro pins s σ H D I h
  refine plainObj_wpAny_Assign_Attribute (thn (hv pins s σ H _ I h) fun u s1 ⟨y, H1, I1, ry, q⟩ => thn (ha pins s1 σ H1 _ I1 q) fun ov s2 ⟨x, H2, I2, rx, a, C, ex, ea, c, q2⟩ => ?_) hs
  subst ex
  obtain rfl : ov = Value.ref a := rx
  exact errset_ok I2 ea c ry fun dx s3 hn hne I3 => ⟨σ, _, I3, q2 dx hn hne⟩
end
end L2

namespace L2
open PySem PySem.Spec PyProof.Rows PySem.W Builtin Builtin.ObjectAttr
/-! ### attributes of own errors: BaseException's own ways in -/
section
variable {prog : Program} {w : World} {A : Around} {E : Value → Shared → Prop} {s : Shared} {K : Frag} {x C : Addr} {ox : Obj} {od : Option Obj} {name : Str} {expr fill : Bool} {Q : Value → Shared → Prop}
structure BexG (K : Frag) (C : Addr) : Prop where
  ga : findIn K (.ref C) "__getattribute__" = some (some (.builtin "BaseException.__getattribute__"))
  gn : findIn K (.ref C) "__getattr__" = some none
  mro : mroIn K C (.type "BaseException") = some true
theorem bex_check {M : Model} {nameV : Value} {Q : Unit → Shared → Prop} (X : K.In s.heap) (I : InstAt s.heap x ox C od) (G : BexG K C) (hq : Q () s) : wpAny M A (checkBuiltinCall "BaseException.__getattribute__" ⟨[.ref x, nameV], []⟩) Q E s := by
  have hk : builtinKind "BaseException.__getattribute__" = some .slot := by decide +kernel
  have hsplit : splitId "BaseException.__getattribute__" = some ("BaseException", "__getattribute__") := by decide +kernel
  have isB : Looks M s.heap (isInstance (.ref x) (.type "BaseException")) true := I.type.andThen (looks_mroIn X G.mro)
  have ha := PySem.F.args_bexc_ga (.ref x) nameV
  have chk := @check_slot M A E s "BaseException.__getattribute__" "BaseException" "__getattribute__" (.ref x) [nameV] [] Q
  exact chk hk hsplit isB ha hq
theorem bex_by {tk : Tok} (X : K.In s.heap) (I : InstAt s.heap x ox C od) (G : BexG K C)
    (h : wpAny (model prog w) A.in1 (Builtin.«object.__getattribute__» ⟨[.ref x, .str name tk], []⟩) (fun fin s' => match fin with
      | .done (.ret v) => wpAny (model prog w) A (handedOut v) Q E s'
      | .again c => c.quiet = true ∧ codeAny (model prog w) A c (fun r s'' => match r with | .ok (.ret v) => wpAny (model prog w) A (handedOut v) Q E s'' | _ => False) s'
      | _ => False) (fun _ _ => False) s) : wpAny (model prog w) A (getAttrBy (.ref x) (.str name tk) fill expr) Q E s := by
  have L0 := I.type (M := model prog w)
  have L1 := looks_findIn (M := model prog w) X G.ga
  have L2 := looks_findIn (M := model prog w) X G.gn
  have f3 := PySem.F.attr_ValueError.ga.bind (.ref x)
  have hx0 : (expr && onTheHeap (Value.builtin "BaseException.__getattribute__")) = false := by cases expr <;> rfl
  have hx2 : (Value.builtin "BaseException.__getattribute__" == Value.builtin "object.__getattribute__") = false := by decide +kernel
  obtain ⟨hh, g, d, t, os⟩ := s
  unfold getAttrBy
  refine wpAny_holding (wpAny_bind (L0.at (wpAny_bind (L1.at ?_))))
  dsimp only
  rw [hx2, Bool.and_false, if_neg (by decide)]
  unfold getAttrByItsOwn hookBefore
  refine wpAny_bind ?_
  rw [show onTheHeap (Value.ref C) = true from rfl, if_pos rfl]
  refine L2.at (wpAny_bind (wpAny_attempt (wpAny_holding ?_)))
  unfold callGetattribute
  rw [hx0, if_neg (by decide)]
  unfold boundAndCalled
  refine wpAny_bind (wpAny_of_eq f3 ?_)
  refine wpAny_call (codeAny_call_builtin PySem.F.attr_ValueError.ga.plain PySem.F.entry_bexc_ga (bex_check X I G ?_))
  refine wpAny_mono h (fun fin s' z => ?_) fun _ _ z => z.elim
  rcases fin with (_ | _ | _ | _) | c
  case again => 
    refine ⟨z.1, codeAny_mono z.2 fun r s'' q => ?_⟩
    rcases r with e | (_ | _ | _ | _) <;> first | exact q | exact q.elim
  all_goals first | exact z | exact z.elim
/-- a value of its own -/
theorem bex_value {v : Value} (X : K.In s.heap) (I : InstAt s.heap x ox C od) (G : BexG K C) (hf : findObj K C od name = some (.value v)) (hh : handedIn v = true) (h : Q v { s with toks := s.toks + 1 }) :
    wpAny (model prog w) A (getAttr (.ref x) name expr) Q E s := by
  unfold getAttr
  refine wpAny_bind (wpAny_mkText ?_)
  refine bex_by (s := { s with toks := s.toks + 1 }) X I G ?_
  obtain ⟨hh', g, d, t, os⟩ := s
  have L0 := I.type (M := model prog w)
  have L1 := looks_find (M := model prog w) X I hf
  refine wpAny_bind (wpAny_pure (wpAny_bind (wpAny_pure (wpAny_bind (L0.at (wpAny_bind (L1.at ?_)))))))
  refine wpAny_pure ?_
  show wpAny _ _ (handedOut v) _ _ _
  rw [handedOut_of hh]; exact wpAny_pure h
/-- its class, asked by isinstance -/
theorem bex_class {Q : Option Value → Shared → Prop} (X : K.In s.heap) (I : InstAt s.heap x ox C od) (G : BexG K C) (hf : findObj K C od "__class__" = some (.bind (.builtin "getset_descriptor.__get__") (.builtin "object.__class__"))) (hm : mroIn K C (.type "object") = some true)
    (h : Q (some (.ref C)) { s with toks := s.toks + 1 }) : wpAny (model prog w) A (getAttr? (.ref x) "__class__") Q E s := by
  unfold getAttr? getAttrBy?
  refine wpAny_bind (wpAny_mkText (wpAny_bind (wpAny_attempt ?_)))
  refine bex_by (s := { s with toks := s.toks + 1 }) X I G ?_
  obtain ⟨hh', g, d, t, os⟩ := s
  have I' : InstAt (⟨hh', g, d, t + 1, os⟩ : Shared).heap x ox C od := I
  have L0 := I.type (M := model prog w)
  have L1 := looks_find (M := model prog w) X I hf
  refine wpAny_bind (wpAny_pure (wpAny_bind (wpAny_pure (wpAny_bind (L0.at (wpAny_bind (L1.at ?_)))))))
  show wpAny _ _ (holding [_] (call (.builtin "getset_descriptor.__get__") [.builtin "object.__class__", .ref x, .ref C]) >>= ret) _ _ _
  refine wpAny_bind (wpAny_holding (wpAny_call (class_get (s := ⟨hh', g, d, t + 1, os⟩) X I' hm ?_)))
  refine wpAny_pure ?_
  refine handed_on rfl ?_
  exact wpAny_pure h
end
end L2

namespace L2
open PySem PySem.Spec PyProof.Rows PySem.W PySem.Calls
/-- what a class must have that its errors are asked for their class and for a field -/
structure ErrG (K : Frag) (C : Addr) : Prop where
  hg : BexG K C
  hd : hasDictIn K C = true
  ha : findIn K (.ref C) "__class__" = some (some (.builtin "object.__class__"))
  hn : specialIn K (.builtin "object.__class__") "__get__" = some (some (.builtin "getset_descriptor.__get__"))
  tk : takesIn K (.builtin "object.__class__") = some true
  hm : mroIn K C (.type "object") = some true
def ErrIn (x C : Addr) (h : Heap) : Prop := ∃ ox od, InstAt h x ox C od
theorem err_kit {K : Frag} {x C : Addr} (G : ErrG K C) : KitX K (.ref x) (.ref C) (ErrIn x C) where
  ty := fun _ _ _ ⟨_, _, I⟩ => I.type
  it := fun _ _ X _ => by
    obtain ⟨cd, hc, -⟩ := any_some G.hd
    unfold clsIn at hc
    split at hc
    · rename_i c' d' cd' sl' ho
      intro A' Q' E' s' k q
      unfold isType loadHead
      exact wpAny_bind (wpAny_loadPart (k _ _ (X _ _ ho)) (wpAny_pure q))
    · cases hc
  ne := fun h tp dd its n sl X htp => by
    obtain ⟨cd, hc, -⟩ := any_some G.hd
    refine Bool.eq_false_iff.mpr fun q => ?_
    obtain rfl : C = tp := Value.ref.inj (beq_iff_eq.mp q)
    unfold clsIn at hc
    split at hc
    · rename_i c' d' cd' sl' ho
      cases (X _ _ ho).symm.trans htp
    · cases hc
  ca := fun {prog w A E Q s} X ⟨ox, od, I⟩ go => by
    have hf : findObj K C od "__class__" = some (.bind (.builtin "getset_descriptor.__get__") (.builtin "object.__class__")) := by
      obtain ⟨cd, hc, -⟩ := any_some G.hd
      unfold findObj
      rw [hc, Option.bind_some, G.ha, Option.bind_some]
      dsimp only
      rw [G.hn, Option.bind_some]
      dsimp only
      rw [G.tk, Option.bind_some]
    exact bex_class X I G.hg hf G.hm go
/-- an error with its field, or one without -/
def ErrAt (H : Hp) (x C : Addr) (fs : List (Str × V)) : Prop := (fs = [] ∧ H x = some (.ext (errPhi x C none))) ∨ ∃ dx, H x = some (.ext (errPhi x C (some dx))) ∧ H dx = some (.xd fs)
theorem ErrAt.inH {P : Program} {w : World} {H : Hp} {h : Heap} {x C : Addr} {fs : List (Str × V)} (e : ErrAt H x C fs) (ok : HOk P w H h) : ErrIn x C h := by
  rcases e with ⟨-, e⟩ | ⟨dx, e, ed⟩
  · obtain ⟨⟨ta, ea⟩, -, -⟩ := ok x _ e
    exact ⟨_, none, ea, rfl, rfl, trivial⟩
  · obtain ⟨⟨ta, ea⟩, -, -⟩ := ok x _ e
    obtain ⟨mA, ⟨o, es, ep, eo, -⟩, -⟩ := ok dx _ ed
    exact ⟨_, some o, ea, rfl, rfl, eo⟩
section
variable {X : Cx}
theorem call_isErr : CallR X (.builtin "isinstance") (fun xs H Q => ∃ x C fs D r, xs = [.ref x, .ref D] ∧ ErrAt H x C fs ∧ ErrG X.K C ∧ kitOne X.K (.ref C) (.ref D) = some r ∧ Q (.bl r) H) := by
  intro pins s σ H xs us Q I r h
  obtain ⟨x, C, fs, D, b, rfl, e, G, k, q⟩ := h
  obtain ⟨u, u', rfl, r1, r2⟩ := vals2 r
  obtain rfl : u = Value.ref x := r1
  obtain rfl : u' = Value.ref D := r2
  exact kia_one (err_kit G) I.kIn (e.inH I.hok) k (fun z => nomatch z) fun tk => ⟨.bl b, H, I.tok _, rfl, q⟩
theorem call_isErrT : CallR X (.builtin "isinstance") (fun xs H Q => ∃ x C fs T r, xs = [.ref x, .ty T] ∧ ErrAt H x C fs ∧ ErrG X.K C ∧ kitOne X.K (.ref C) (.type T) = some r ∧ Q (.bl r) H) := by
  intro pins s σ H xs us Q I r h
  obtain ⟨x, C, fs, T, b, rfl, e, G, k, q⟩ := h
  obtain ⟨u, u', rfl, r1, r2⟩ := vals2 r
  obtain rfl : u = Value.ref x := r1
  obtain rfl : u' = Value.type T := r2
  exact kia_one (err_kit G) I.kIn (e.inH I.hok) k (fun z => nomatch z) fun tk => ⟨.bl b, H, I.tok _, rfl, q⟩
theorem vals_clss : ∀ {ds : List Addr} {us : List Value}, Vals (ds.map V.ref) us → us = ds.map Value.ref
  | [], us, r => by cases r; rfl
  | d :: ds, us, r => by
    cases r with
    | cons a b =>
      have z := vals_clss b
      subst z
      exact congrArg (· :: _) a
theorem call_isErrs : CallR X (.builtin "isinstance") (fun xs H Q => ∃ x C fs tp, ∃ ds : List Addr, ∃ r, xs = [.ref x, .ref tp] ∧ ErrAt H x C fs ∧ ErrG X.K C ∧ SqT X.K H tp (ds.map V.ref) ∧ kitAny X.K (.ref C) (ds.map Value.ref) = some r ∧ Q (.bl r) H) := by
  intro pins s σ H xs us Q I r h
  obtain ⟨x, C, fs, tp, ds, b, rfl, e, G, sq, k, q⟩ := h
  obtain ⟨u, u', rfl, r1, r2⟩ := vals2 r
  obtain rfl : u = Value.ref x := r1
  obtain rfl : u' = Value.ref tp := r2
  obtain ⟨its, rv, it, -⟩ := I.tuple sq
  have z := vals_clss rv
  subst z
  obtain ⟨⟨oc, odd, oda, osl⟩, eo, rfl, n, rfl⟩ := it
  exact kia_tup (err_kit G) I.kIn (e.inH I.hok) eo k (fun z => nomatch z) fun tk => ⟨.bl b, H, I.tok _, rfl, q⟩
/-! ### a field is read -/
structure ErrR (K : Frag) (C : Addr) (n : Str) : Prop where
  hg : BexG K C
  hd : hasDictIn K C = true
  no : ∃ attr, findIn K (.ref C) n = some attr ∧ noGet K attr = true
def tErrF (K : Frag) (ta : TE) (n : Str) : TE := fun σ H Q => ta σ H fun x H1 => ∃ a C fs v, x = .ref a ∧ ErrAt H1 a C fs ∧ ErrR K C n ∧ fs.lookup n = some v ∧ Q v H1
theorem pe_errf {e : Expr} {ta : TE} {n : Str} {pos : Pos} (he : PE X e ta) (hb : attributeBase e n X.env (eval e X.env) = eval e X.env := by rfl) : PE X (.Attribute e n pos) (tErrF X.K ta n) := by
  intro pins s σ H Q I h
  refine attr_of hb (thn (he pins s σ H _ I h) fun u s1 ⟨x, H1, I1, rx, a, C, fs, v, ex, ea, R, l, q⟩ => ?_)
  subst ex
  obtain rfl : u = Value.ref a := rx
  rcases ea with ⟨rfl, -⟩ | ⟨dx, ea, ed⟩
  · cases l
  obtain ⟨⟨ta, e1⟩, -, -⟩ := I1.hok a _ ea
  obtain ⟨mA, ⟨o, es, ep, eo, eda, sk, uk, nf⟩, rel⟩ := I1.hok dx _ ed
  obtain ⟨u, hu, ru⟩ := RelO.some_of (v := v) (o := mA n) (by rw [← l]; exact rel n)
  obtain ⟨attr, fa, ng⟩ := R.no
  have lk : lookIn n o = some (some u) := by
    have z := nf n
    rw [hu] at z
    unfold nsFind findBy at z
    obtain ⟨en, q1, q2⟩ := Option.map_eq_some_iff.mp z
    unfold lookIn
    rw [eda]
    dsimp only
    rw [← Array.find?_toList] at q1
    rw [q1]
    exact congrArg (fun z => some (some z)) q2
  exact bex_value (ox := errObj C ta (some dx)) (od := some o) I1.kIn ⟨e1, rfl, rfl, eo⟩ R.hg (findObj_own R.hd fa ng lk) (handed_of ru) ⟨v, H1, I1.tok _, ru, q⟩
end
end L2

namespace L2
open PySem PySem.Spec PyProof.Rows
/-! ### an error of a class of one's own without an __init__ of its own -/
section
variable {prog : Program} {w : World} {A : Around} {E : Value → Shared → Prop} {h : Heap} {g : Array GenState} {d : Drawn} {t : Nat} {os : OsState}
variable {nm q : Str} {C N : Addr} {bs bm bmB : List Value} {hdct : Bool} {sn : List Str} {sub : List Value} {ab : Bool} {col : Option Bool} {dd : Option Addr} {k0 k1 k2 k3 k5 : Option Value} {B newId initId : String}
theorem type_call_bareT (F : ExcBaseFacts B newId initId bmB) (T : OwnTail h bmB bm) {mN : Str → Option Value} {rest : List Value} {Q : Fin → Shared → Prop}
    (hC : h.get? C = some (excClassObj nm q C N bs bm hdct sn sub ab col dd k0 k1 k2 k3 k5 newId)) (hn : h.Ns N mN) (hi : mN "__init__" = none)
    (hq : ∀ h' e, Heap.MadeExcOf h h' e (.ref C) rest → h.objs.size ≤ e → Q (.done (.ret (.ref e))) ⟨h', g, d, t, os⟩) (hrest : rest.length ≤ sizeLine) :
    wpAny (model prog w) A (Builtin.«type.__call__» ⟨.ref C :: rest, []⟩) Q E ⟨h, g, d, t, os⟩ := by
  repeat (first | with_reducible refine wpAny_loadPart_at hC ?_ | with_reducible refine wpAny_madeBy_exc hC ?_ | wp_step)
  refine codeAny_call_builtin_code (Code.quiet_builtin _ F.quiet) (wpAny_check_new_subT F T hC ?_)
  refine codeAny_exc_new_subT F T hC ?_ hrest
  show wpAny _ _ _ _ _ _
  generalize et : ({ cls := .type "tuple", data := .seq rest.toArray } : Obj) = ot
  generalize ee : ({ cls := .ref C, data := .fields #[.ref h.objs.size, .none, .none, .none, .bool false, .none] } : Obj) = oe
  have kp : ∀ b o, h.get? b = some o → ((h.push ot).push oe).get? b = some o := fun b o e => Heap.get?_push_of_some _ (Heap.get?_push_of_some _ e)
  have hC₁ := kp _ _ hC
  have hn₁ := hn.keeps kp
  have T₁ := T.keeps kp
  have hget : ((h.push ot).push oe).get? (h.objs.size + 1) = some oe := by
    subst ee
    have z := Heap.get?_push_size (h.push ot) (o := { cls := .ref C, data := .fields #[.ref h.objs.size, .none, .none, .none, .bool false, .none] }) rfl
    rwa [Heap.size_push] at z
  have hoc : oe.cls = .ref C := by rw [← ee]
  have hcC : (Value.ref C :: bm).contains (.ref C) = true := by simp
  unfold isInstance
  repeat (first | (with_reducible refine wpAny_loadPart_at hget ?_; rw [hoc]) | (with_reducible refine wpAny_isSubtype_exc hC₁ ?_; rw [hcC]) | wp_step)
  show wpAny _ _ (typeLookup (.ref C) _) _ _ _
  refine wpAny_typeLookup_tail hC₁ hn₁ T₁ F.mroIs F.init.lookup ?_
  rw [hi]
  refine wpAny_holding (wpAny_bind (wpAny_of_eq (F.init.bind _) ?_))
  refine wpAny_bind (wpAny_call (codeAny_call_builtin F.init.plain F.initEntry (wpAny_check_init_subT F T₁ hC₁ hget hoc ?_)))
  subst et ee
  wp_walk
  refine hq _ (h.objs.size + 1) ⟨fun b o hb => ?_, Heap.get?_none_of_le (Nat.le_succ _), h.objs.size + 2, ?_, Heap.get?_none_of_le (by omega), ?_⟩ (Nat.le_succ _)
  · rw [Heap.get?_update_other _ _ (Nat.ne_of_gt (Nat.lt_succ_of_lt (Heap.lt_size hb)))]
    exact Heap.get?_push_of_some _ (kp _ _ hb)
  · rw [Heap.get?_update_self _ (Heap.get?_push_of_some _ hget) rfl]
    simp only [Heap.size_push]
    rfl
  · rw [Heap.get?_update_other _ _ (show h.objs.size + 1 ≠ h.objs.size + 2 from Nat.ne_of_lt (Nat.lt_succ_self _))]
    exact Heap.get?_push_at (by rw [Heap.size_push, Heap.size_push]) rfl
theorem call_bareT (F : ExcBaseFacts B newId initId bmB) (T : OwnTail h bmB bm) {mN : Str → Option Value} {rest : List Value} {Q : Value → Shared → Prop}
    (hC : h.get? C = some (excClassObj nm q C N bs bm hdct sn sub ab col dd k0 k1 k2 k3 k5 newId)) (hn : h.Ns N mN) (hi : mN "__init__" = none)
    (hq : ∀ h' e, Heap.MadeExcOf h h' e (.ref C) rest → h.objs.size ≤ e → Q (.ref e) ⟨h', g, d, t, os⟩) (hrest : rest.length ≤ sizeLine) :
    wpAny (model prog w) A (call (.ref C) rest) Q E ⟨h, g, d, t, os⟩ := by
  have f1 := tc_lookup
  have f2 := tc_bind (.ref C)
  have hT : (⟨h, g, d, t, os⟩ : Shared).TypeIs (.ref C) "type" := ⟨_, hC, rfl⟩
  refine wpAny_call (codeAny_of_tree ?_)
  show wpAny _ _ (callAny (.ref C) _) _ _ _
  repeat (any_goals (first | assumption | with_reducible refine wpAny_loadPart_at hC ?_ | wp_step))
  refine ⟨rfl, ?_⟩
  exact codeAny_call_builtin_at (Code.quiet_builtin _ (by decide +kernel)) entry_typeCall (wpAny_check_type_call_sub hC (type_call_bareT F T hC hn hi (fun h' e hm hz => hq h' e hm hz) hrest))
end
end L2

namespace L2
open PySem PySem.Spec PyProof.Rows PySem.W PySem.Calls
/-- a class of errors without an __init__ of its own -/
structure ErrK0 (K : Frag) (C : Addr) : Prop where
  cls : ∀ h, K.In h → ∃ nm q N bs bm hdct sn sub ab col dd k0 k1 k2 k3 k5 mN, h.get? C = some (excClassObj nm q C N bs bm hdct sn sub ab col dd k0 k1 k2 k3 k5 "ValueError.__new__") ∧
    h.Ns N mN ∧ mN "__init__" = none ∧ OwnTail h valueMro bm
  kp : keepIn K (.ref C) = true
def tErr0 (C : Addr) : TE := fun _ H Q => ∀ x, H x = none → Q (.ref x) (upd H x (.ext (errPhi x C none)))
section
variable {X : Cx} {C : Addr} {x : Str} {p pos : Pos}
theorem run_err0 {pins : List (Addr × Obj)} {σ : St} {H : Hp} {s : Shared} {Q : VK} (M : ErrK0 X.K C) (I : Inv X pins σ H s)
    (go : ∀ x, H x = none → Q (.ref x) (upd H x (.ext (errPhi x C none)))) : wpAny (model X.prog X.w) X.A (call (.ref C) []) (EP X pins σ Q) X.xe s := by
  obtain ⟨nm, q, N, bs, bm, hdct, sn, sub, ab, col, dd, k0, k1, k2, k3, k5, mN, hC, hn, hi, T⟩ := M.cls _ I.kIn
  obtain ⟨hh, g, d, tk, os⟩ := s
  refine call_bareT PySem.F.excBase_ValueError T hC hn hi (fun h' x made hz => ?_) (Nat.zero_le _)
  obtain ⟨kp, -, tup, ex, -, -⟩ := made
  exact ⟨.ref x, _, I.laid (a := x) (o := .ext (errPhi x C none)) (t' := tk) kp hz (err_ok ⟨tup, ex⟩), rfl, go x (I.hok.fresh hz)⟩
theorem pe_err0 (M : ErrK0 X.K C) (hg : Gl X x) (hm : X.mg x = some (.ref C)) (hdb : (x == ("__debug__" : Str)) = false := by decide) : PE X (.Call (.Name x p) [] [] pos) (tErr0 C) := by
  intro pins s σ H Q I h
  refine wpAny_Call_Name_kw (ld_glob I hg hm ?_ hdb)
  exact callWith_K0 I.kIn M.kp (run_err0 M I h)
end
/-- from the laid heap to these: a namespace of texts -/
def strKeysB (es : List DictEntry) : Bool := es.all fun e => match e.key with | .str _ _ => true | _ => false
theorem ns_of {K : Frag} {h : Heap} (X : K.In h) {N : Addr} {c : Value} {dd : Option Addr} {es : Array DictEntry} {n : Nat} {sl : Array (Option Value)} (e : K.lookup N = some ⟨c, dd, .dict es n, sl⟩) (hs : strKeysB es.toList = true) :
    h.Ns N (nsFind es) := by
  refine ⟨_, es, n, X _ _ e, rfl, fun a ha => ?_, fun _ => rfl⟩
  have z := List.all_eq_true.mp hs a (Array.mem_toList_iff.mpr ha)
  split at z
  · rename_i y t q; exact ⟨y, t, q⟩
  · cases z
end L2

namespace L2
open PySem PySem.Spec PyProof.Rows PySem.SeqAt
section
variable {X : Cx}
theorem vals_bls : ∀ {bs : List Bool} {us : List Value}, Vals (bs.map V.bl) us → us = bs.map Value.bool
  | [], us, r => by cases r; rfl
  | d :: ds, us, r => by
    cases r with
    | cons a b =>
      have z := vals_bls b
      subst z
      exact congrArg (· :: _) a
/-- rows of truths that are alike -/
theorem op_neB (hu : X.A.units < cLine) : OpR X (compareOp .NotEq) (fun x y H Q => ∃ a b, ∃ bs : List Bool, x = .ref a ∧ y = .ref b ∧ SqL X.K H a (bs.map V.bl) ∧ SqL X.K H b (bs.map V.bl) ∧ Q (.bl false) H) := by
  intro pins s σ H x y v u Q I rx ry h
  obtain ⟨a, b, bs, rfl, rfl, ha, hb, q⟩ := h
  obtain rfl : v = Value.ref a := rx
  obtain rfl : u = Value.ref b := ry
  obtain ⟨i1, r1, l1, -⟩ := I.list ha
  obtain ⟨i2, r2, l2, -⟩ := I.list hb
  have z1 := vals_bls r1
  have z2 := vals_bls r2
  subst z1 z2
  have n1 : s.heap.IsList a (bs.map Value.bool).toArray := by obtain ⟨o, n, e, c, -, d⟩ := l1; exact ⟨o, e, c, n, d⟩
  have n2 : s.heap.IsList b (bs.map Value.bool).toArray := by obtain ⟨o, n, e, c, -, d⟩ := l2; exact ⟨o, e, c, n, d⟩
  refine RcNeAt.lists n1 n2 rfl hu (e := fun _ => true) (fun j h1 h2 => EqAt.same _) X.prog X.w X.xe _ ?_
  have z : (List.range (bs.map Value.bool).toArray.size).all (fun _ => true) = true := by simp
  rw [z]
  exact ⟨.bl false, H, I, rfl, q⟩
/-! ### repr of a number, a text, None -/
def reprV : V → Option Str
  | .int i => some (toString i)
  | .str x => some (reprText x)
  | .non => some "None"
  | _ => none
def reprOk : V → Prop
  | .int i => i.natAbs.log2 < 1920
  | .str x => (reprText x).length ≤ sizeLine
  | _ => True
theorem call_repr1 : CallR X (.builtin "repr") (fun xs H Q => ∃ x r, xs = [x] ∧ reprV x = some r ∧ reprOk x ∧ Q (.str r) H) := by
  intro pins s σ H xs us Q I r h
  obtain ⟨x, t, rfl, e, ok, q⟩ := h
  cases r with
  | cons r1 r2 =>
  cases r2
  cases x with
  | int i => cases e; obtain ⟨t, rfl⟩ := r1; exact PySem.P.repr_of_int ok ⟨.str _, H, I.tok _, ⟨_, rfl⟩, q⟩
  | str y => cases e; obtain ⟨t, rfl⟩ := r1; exact PySem.P.repr_of_str ⟨.str _, H, I.tok _, ⟨_, rfl⟩, q⟩ ok
  | non => cases e; cases r1; exact PySem.P.repr_of_none ⟨.str _, H, I.tok _, ⟨_, rfl⟩, q⟩
  | _ => cases e
end
end L2

namespace L2
open PySem PySem.Spec PyProof.Rows PySem.SeqAt
/-! ### a value stands for a thing -/
mutual
def Rp (K : PySem.W.Frag) (H : Hp) : T → V → Prop
  | .s x, v => v = .str x
  | .i n, v => v = .int n
  | .n, v => v = .non
  | .t xs, v => ∃ a vs, v = .ref a ∧ SqT K H a vs ∧ Rps K H xs vs
def Rps (K : PySem.W.Frag) (H : Hp) : List T → List V → Prop
  | [], vs => vs = []
  | x :: r, vs => ∃ v q, vs = v :: q ∧ Rp K H x v ∧ Rps K H r q
end
/-- tuples stay -/
def Kt (H H' : Hp) : Prop := ∀ a xs, Rd H a (.tup xs) → Rd H' a (.tup xs)
theorem Kt.refl {H : Hp} : Kt H H := fun _ _ h => h
theorem Kt.trans {H H1 H2 : Hp} (a : Kt H H1) (b : Kt H1 H2) : Kt H H2 := fun c xs h => b c xs (a c xs h)
theorem Kt.same {H H' : Hp} (s : Same H H') : Kt H H' := fun a xs h => h.elim (fun e => .inl (s _ _ e)) fun ⟨o, e⟩ => .inr ⟨o, s _ _ e⟩
theorem Kt.new {H : Hp} {p : Addr} (h : H p = none) (o : HO) : Kt H (upd H p o) := fun a xs r => r.elim (fun e => .inl (by rw [upd_ne (ne_of_none e h)]; exact e)) fun ⟨u, e⟩ => .inr ⟨u, by rw [upd_ne (ne_of_none e h)]; exact e⟩
theorem Kt.upd {H : Hp} {l : Addr} {u : HO} (h : H l = some u) (h1 : ∀ xs, u ≠ .tup xs) (h2 : ∀ o xs, u ≠ .frz o (.tup xs)) (o : HO) : Kt H (upd H l o) := fun a xs r => by
  rcases r with e | ⟨p, e⟩
  · exact .inl (by rw [upd_ne (ne_of e h fun z => h1 _ z.symm)]; exact e)
  · exact .inr ⟨p, by rw [upd_ne (ne_of e h fun z => h2 _ _ z.symm)]; exact e⟩
theorem Kt.lst {H : Hp} {l : Addr} {xs : List V} (h : H l = some (.lst xs)) (o : HO) : Kt H (L2.upd H l o) := Kt.upd h (fun _ z => nomatch z) (fun _ _ z => nomatch z) o
section
variable {K : PySem.W.Frag} {H H' : Hp}
theorem SqT.kt (k : Kt H H') {a : Addr} {xs : List V} (h : SqT K H a xs) : SqT K H' a xs := h.elim (fun e => .inl (k _ _ e)) .inr
theorem Rps.all (f : ∀ {x v}, Rp K H x v → Rp K H' x v) : ∀ {xs : List T} {vs : List V}, Rps K H xs vs → Rps K H' xs vs
  | [], vs, h => by unfold Rps at h ⊢; exact h
  | x :: r, vs, h => by
    unfold Rps at h ⊢
    obtain ⟨v, q, e, h1, h2⟩ := h
    exact ⟨v, q, e, f h1, Rps.all f h2⟩
theorem Rps.nil : Rps K H [] [] := by unfold Rps; rfl
theorem Rps.cons {x : T} {v : V} {r : List T} {q : List V} (h : Rp K H x v) (t : Rps K H r q) : Rps K H (x :: r) (v :: q) := by unfold Rps; exact ⟨v, q, rfl, h, t⟩
theorem Rps.inv {x : T} {r : List T} {vs : List V} (h : Rps K H (x :: r) vs) : ∃ v q, vs = v :: q ∧ Rp K H x v ∧ Rps K H r q := by unfold Rps at h; exact h
theorem Rps.inv0 {vs : List V} (h : Rps K H [] vs) : vs = [] := by unfold Rps at h; exact h
theorem Rp.s {x : Str} : Rp K H (.s x) (.str x) := by unfold Rp; rfl
theorem Rp.i {n : Int} : Rp K H (.i n) (.int n) := by unfold Rp; rfl
theorem Rp.non : Rp K H .n .non := by unfold Rp; rfl
theorem Rp.t {xs : List T} {vs : List V} {a : Addr} (h : SqT K H a vs) (r : Rps K H xs vs) : Rp K H (.t xs) (.ref a) := by unfold Rp; exact ⟨a, vs, rfl, h, r⟩
theorem Rp.inv_s {x : Str} {v : V} (h : Rp K H (.s x) v) : v = .str x := by unfold Rp at h; exact h
theorem Rp.inv_i {n : Int} {v : V} (h : Rp K H (.i n) v) : v = .int n := by unfold Rp at h; exact h
theorem Rp.inv_t {xs : List T} {v : V} (h : Rp K H (.t xs) v) : ∃ a vs, v = .ref a ∧ SqT K H a vs ∧ Rps K H xs vs := by unfold Rp at h; exact h
theorem Rp.kt (k : Kt H H') {x : T} : ∀ {v : V}, Rp K H x v → Rp K H' x v := by
  induction x using T.induct with
  | hs x => intro v h; rw [h.inv_s]; exact .s
  | hi x => intro v h; rw [h.inv_i]; exact .i
  | hn => intro v h; unfold Rp at h; rw [h]; exact .non
  | ht xs ih =>
    intro v h
    obtain ⟨a, vs, rfl, hs, hr⟩ := h.inv_t
    refine .t (hs.kt k) ?_
    clear hs h
    induction xs generalizing vs with
    | nil => rw [hr.inv0]; exact .nil
    | cons x r ih2 =>
      obtain ⟨v, q, rfl, h1, h2⟩ := hr.inv
      exact .cons (ih x (.head _) h1) (ih2 (fun y hy => ih y (.tail _ hy)) _ h2)
theorem Rps.kt (k : Kt H H') {xs : List T} {vs : List V} (h : Rps K H xs vs) : Rps K H' xs vs := Rps.all (fun h => h.kt k) h
theorem Rps.length : ∀ {xs : List T} {vs : List V}, Rps K H xs vs → vs.length = xs.length
  | [], vs, h => by rw [h.inv0]; rfl
  | x :: r, vs, h => by
    obtain ⟨v, q, rfl, _, h2⟩ := h.inv
    rw [List.length_cons, List.length_cons, Rps.length h2]
theorem Rps.get : ∀ {xs : List T} {vs : List V} {i : Nat} {x : T}, Rps K H xs vs → xs[i]? = some x → ∃ v, vs[i]? = some v ∧ Rp K H x v
  | [], vs, i, x, h, e => by simp at e
  | x :: r, vs, 0, y, h, e => by
    obtain ⟨v, q, rfl, h1, _⟩ := h.inv
    simp at e; subst e
    exact ⟨v, rfl, h1⟩
  | x :: r, vs, i + 1, y, h, e => by
    obtain ⟨v, q, rfl, _, h2⟩ := h.inv
    obtain ⟨w, h3, h4⟩ := Rps.get (i := i) h2 (by simpa using e)
    exact ⟨w, by simpa using h3, h4⟩
theorem Rps.get' : ∀ {xs : List T} {vs : List V} {i : Nat} {v : V}, Rps K H xs vs → vs[i]? = some v → ∃ x, xs[i]? = some x ∧ Rp K H x v := fun {xs vs i v} h e => by
  have l := h.length
  have hi : i < xs.length := by
    rcases Nat.lt_or_ge i vs.length with z | z
    · omega
    · rw [List.getElem?_eq_none_iff.mpr z] at e; cases e
  obtain ⟨w, h1, h2⟩ := h.get (List.getElem?_eq_getElem hi)
  rw [e] at h1; cases h1
  exact ⟨_, List.getElem?_eq_getElem hi, h2⟩
theorem Rps.append : ∀ {xs ys : List T} {vs ws : List V}, Rps K H xs vs → Rps K H ys ws → Rps K H (xs ++ ys) (vs ++ ws)
  | [], ys, vs, ws, h, g => by rw [h.inv0]; exact g
  | x :: r, ys, vs, ws, h, g => by
    obtain ⟨v, q, rfl, h1, h2⟩ := h.inv
    exact .cons h1 (Rps.append h2 g)
theorem Rps.one {x : T} {v : V} (h : Rp K H x v) : Rps K H [x] [v] := .cons h .nil
theorem Rps.snoc {xs : List T} {vs : List V} {x : T} {v : V} (h : Rps K H xs vs) (g : Rp K H x v) : Rps K H (xs ++ [x]) (vs ++ [v]) := h.append (.one g)
theorem Rps.drop : ∀ {xs : List T} {vs : List V} (n : Nat), Rps K H xs vs → Rps K H (xs.drop n) (vs.drop n)
  | xs, vs, 0, h => h
  | [], vs, n + 1, h => by rw [h.inv0]; exact .nil
  | x :: r, vs, n + 1, h => by
    obtain ⟨v, q, rfl, _, h2⟩ := h.inv
    exact Rps.drop n h2
theorem Rps.take : ∀ {xs : List T} {vs : List V} (n : Nat), Rps K H xs vs → Rps K H (xs.take n) (vs.take n)
  | xs, vs, 0, h => .nil
  | [], vs, n + 1, h => by rw [h.inv0]; exact .nil
  | x :: r, vs, n + 1, h => by
    obtain ⟨v, q, rfl, h1, h2⟩ := h.inv
    exact .cons h1 (Rps.take n h2)
theorem Rps.split : ∀ {xs ys : List T} {vs : List V}, Rps K H (xs ++ ys) vs → ∃ ws us, vs = ws ++ us ∧ Rps K H xs ws ∧ Rps K H ys us
  | [], ys, vs, h => ⟨[], vs, rfl, .nil, h⟩
  | x :: r, ys, vs, h => by
    obtain ⟨v, q, rfl, h1, h2⟩ := Rps.inv h
    obtain ⟨ws, us, rfl, h3, h4⟩ := Rps.split h2
    exact ⟨v :: ws, us, rfl, .cons h1 h3, h4⟩
theorem Rps.reverse : ∀ {xs : List T} {vs : List V}, Rps K H xs vs → Rps K H xs.reverse vs.reverse
  | [], vs, h => by rw [h.inv0]; exact .nil
  | x :: r, vs, h => by
    obtain ⟨v, q, rfl, h1, h2⟩ := h.inv
    rw [List.reverse_cons, List.reverse_cons]
    exact (Rps.reverse h2).snoc h1
theorem Rps.strs : ∀ (xs : List Str), Rps K H (xs.map .s) (xs.map .str)
  | [] => .nil
  | _ :: r => .cons .s (Rps.strs r)
theorem Rps.ints : ∀ (xs : List Int), Rps K H (xs.map .i) (xs.map .int)
  | [] => .nil
  | _ :: r => .cons .i (Rps.ints r)
theorem Rps.inv_strs : ∀ {xs : List Str} {vs : List V}, Rps K H (xs.map .s) vs → vs = xs.map .str
  | [], vs, h => h.inv0
  | x :: r, vs, h => by
    obtain ⟨v, q, rfl, h1, h2⟩ := Rps.inv h
    rw [h1.inv_s, Rps.inv_strs h2]; rfl
theorem Rps.inv_ints : ∀ {xs : List Int} {vs : List V}, Rps K H (xs.map .i) vs → vs = xs.map .int
  | [], vs, h => h.inv0
  | x :: r, vs, h => by
    obtain ⟨v, q, rfl, h1, h2⟩ := Rps.inv h
    rw [h1.inv_i, Rps.inv_ints h2]; rfl
theorem Rps.mem {xs : List T} {vs : List V} {v : V} (h : Rps K H xs vs) (hv : v ∈ vs) : ∃ x ∈ xs, Rp K H x v := by
  obtain ⟨i, hi⟩ := List.getElem?_of_mem hv
  obtain ⟨x, h1, h2⟩ := h.get' hi
  exact ⟨x, List.mem_of_getElem? h1, h2⟩
end
section
variable {X : Cx} {pins : List (Addr × Obj)} {σ : St} {H : Hp} {s : Shared}
theorem Rp.inj (I : Inv X pins σ H s) (a : T) : ∀ (b : T) {v : V}, Rp X.K H a v → Rp X.K H b v → a = b := by
  induction a using T.induct with
  | hs x =>
    intro b v h g
    rw [h.inv_s] at g
    cases b with
    | s y => have z := g.inv_s; injection z with z; rw [z]
    | i y => have z := g.inv_i; cases z
    | n => unfold Rp at g; cases g
    | t ys => obtain ⟨_, _, z, _⟩ := g.inv_t; cases z
  | hi x =>
    intro b v h g
    rw [h.inv_i] at g
    cases b with
    | s y => have z := g.inv_s; cases z
    | i y => have z := g.inv_i; injection z with z; rw [z]
    | n => unfold Rp at g; cases g
    | t ys => obtain ⟨_, _, z, _⟩ := g.inv_t; cases z
  | hn =>
    intro b v h g
    unfold Rp at h
    rw [h] at g
    cases b with
    | s y => have z := g.inv_s; cases z
    | i y => have z := g.inv_i; cases z
    | n => rfl
    | t ys => obtain ⟨_, _, z, _⟩ := g.inv_t; cases z
  | ht xs ih =>
    intro b v h g
    obtain ⟨p, vs, rfl, hs, hr⟩ := h.inv_t
    cases b with
    | t ys =>
      obtain ⟨p', ws, e, hs', hr'⟩ := g.inv_t
      cases e
      have e := I.tuple_inj hs hs'
      subst e
      congr 1
      clear hs hs' h g
      induction xs generalizing ys vs with
      | nil =>
        have z := hr.inv0
        subst z
        cases ys with
        | nil => rfl
        | cons y q => obtain ⟨_, _, z, _⟩ := hr'.inv; cases z
      | cons x r ih2 =>
        obtain ⟨v, q, rfl, h1, h2⟩ := hr.inv
        cases ys with
        | nil => cases hr'.inv0
        | cons y q' =>
          obtain ⟨v', q'', e, h1', h2'⟩ := hr'.inv
          cases e
          rw [ih x (.head _) y h1 h1', ih2 (fun z hz => ih z (.tail _ hz)) _ h2 _ h2']
    | _ => unfold Rp at g; cases g
theorem isTuple_of {h : Heap} {a : Addr} {its : Array Value} (p : IsTup h a its) : h.IsTuple a its := p
theorem items_get {us : List V} {its : List Value} (r : Vals us its) {j : Nat} {v : V} (e : us[j]? = some v) {h : j < its.toArray.size} : RelV v its.toArray[j] := by
  obtain ⟨u, h1, h2⟩ := r.get e
  have z : its.toArray[j] = u := by
    have q : its[j]? = some its.toArray[j] := by
      rw [List.getElem?_eq_getElem (by simpa using h)]
      simp
    rw [h1] at q
    exact (Option.some.inj q).symm
  rw [z]; exact h2
def EqsAt (s : Shared) (K : PySem.W.Frag) (H : Hp) (x : T) : Prop := ∀ (b : T) {u v : V} {u' v' : Value} (A : Around), A.units + x.dep < cLine → Rp K H x u → Rp K H b v → RelV u u' → RelV v v' → EqAt A s u' v' (x.eqB b)
theorem eqs_items {xs ys : List T} {us ws : List V} {its its' : List Value} {A : Around} (ih : ∀ x ∈ xs, EqsAt s X.K H x) (hu : A.units + T.deps xs < cLine) (hr : Rps X.K H xs us) (hr' : Rps X.K H ys ws) (r : Vals us its) (r' : Vals ws its')
    (j : Nat) (h1 : j < its.toArray.size) (h2 : j < its'.toArray.size) : EqAt A s its.toArray[j] its'.toArray[j] (T.eqB (xs.getD j .n) (ys.getD j .n)) := by
  have l1 : us.length = its.length := r.length
  have l2 : ws.length = its'.length := r'.length
  have l3 := hr.length
  have l4 := hr'.length
  have h1' : j < its.length := by simpa using h1
  have h2' : j < its'.length := by simpa using h2
  have hx : j < xs.length := by omega
  have hy : j < ys.length := by omega
  obtain ⟨v, hv, rv⟩ := hr.get (List.getElem?_eq_getElem hx)
  obtain ⟨w, hw, rw'⟩ := hr'.get (List.getElem?_eq_getElem hy)
  have e1 : xs.getD j .n = xs[j] := by simp [hx]
  have e2 : ys.getD j .n = ys[j] := by simp [hy]
  rw [e1, e2]
  exact ih _ (List.getElem_mem hx) _ A (Nat.lt_of_le_of_lt (Nat.add_le_add_left (T.deps_mem (List.getElem_mem hx)) _) hu) rv rw' (items_get r hv) (items_get r' hw)
theorem rc_tuples (I : Inv X pins σ H s) {xs ys : List T} {us ws : List V} {p q : Addr} {A : Around} (ih : ∀ x ∈ xs, EqsAt s X.K H x) (hu : A.units + 1 + T.deps xs < cLine) (hs : SqT X.K H p us) (hr : Rps X.K H xs us) (hs' : SqT X.K H q ws) (hr' : Rps X.K H ys ws) :
    RcAt A s (.ref p) (.ref q) (T.eqBs xs ys) := by
  obtain ⟨its, r, it, _⟩ := I.tuple hs
  obtain ⟨its', r', it', _⟩ := I.tuple hs'
  have z := RcAt.tuples (A := A) (isTuple_of it) (isTuple_of it') (by omega) (e := fun j => T.eqB (xs.getD j .n) (ys.getD j .n)) (eqs_items (A := A.in1) ih (by show A.units + 1 + _ < _; exact hu) hr hr' r r')
  have l1 : us.length = its.length := r.length
  have l2 : ws.length = its'.length := r'.length
  have l3 := hr.length
  have l4 := hr'.length
  rw [T.eqBs_range]
  have e1 : its.toArray.size = xs.length := by simp; omega
  have e2 : its'.toArray.size = ys.length := by simp; omega
  rw [e1, e2] at z
  exact z
theorem rcne_tuples (I : Inv X pins σ H s) {xs ys : List T} {us ws : List V} {p q : Addr} {A : Around} (ih : ∀ x ∈ xs, EqsAt s X.K H x) (hu : A.units + 1 + T.deps xs < cLine) (hs : SqT X.K H p us) (hr : Rps X.K H xs us) (hs' : SqT X.K H q ws) (hr' : Rps X.K H ys ws) :
    RcNeAt A s (.ref p) (.ref q) (!T.eqBs xs ys) := by
  obtain ⟨its, r, it, _⟩ := I.tuple hs
  obtain ⟨its', r', it', _⟩ := I.tuple hs'
  have z := RcNeAt.tuples (A := A) (isTuple_of it) (isTuple_of it') (by omega) (e := fun j => T.eqB (xs.getD j .n) (ys.getD j .n)) (eqs_items (A := A.in1) ih (by show A.units + 1 + _ < _; exact hu) hr hr' r r')
  have l1 : us.length = its.length := r.length
  have l2 : ws.length = its'.length := r'.length
  have l3 := hr.length
  have l4 := hr'.length
  rw [T.eqBs_range]
  have e1 : its.toArray.size = xs.length := by simp; omega
  have e2 : its'.toArray.size = ys.length := by simp; omega
  rw [e1, e2] at z
  exact z
theorem rc_lists (I : Inv X pins σ H s) {xs ys : List T} {us ws : List V} {p q : Addr} {A : Around} (ih : ∀ x ∈ xs, EqsAt s X.K H x) (hu : A.units + 1 + T.deps xs < cLine) (hs : SqL X.K H p us) (hr : Rps X.K H xs us) (hs' : SqL X.K H q ws) (hr' : Rps X.K H ys ws) :
    RcAt A s (.ref p) (.ref q) (T.eqBs xs ys) ∧ RcNeAt A s (.ref p) (.ref q) (!T.eqBs xs ys) := by
  obtain ⟨its, r, it, _⟩ := I.list hs
  obtain ⟨its', r', it', _⟩ := I.list hs'
  have n1 : s.heap.IsList p its.toArray := by obtain ⟨o, n, e, c, -, d⟩ := it; exact ⟨o, e, c, n, d⟩
  have n2 : s.heap.IsList q its'.toArray := by obtain ⟨o, n, e, c, -, d⟩ := it'; exact ⟨o, e, c, n, d⟩
  have l1 : us.length = its.length := r.length
  have l2 : ws.length = its'.length := r'.length
  have l3 := hr.length
  have l4 := hr'.length
  have e1 : its.toArray.size = xs.length := by simp; omega
  have e2 : its'.toArray.size = ys.length := by simp; omega
  have items := eqs_items (A := A.in1) ih (by show A.units + 1 + _ < _; exact hu) hr hr' r r'
  rw [T.eqBs_range]
  by_cases e : xs.length = ys.length
  · have z1 := RcAt.lists (A := A) n1 n2 (by omega) (by omega) (e := fun j => T.eqB (xs.getD j .n) (ys.getD j .n)) items
    have z2 := RcNeAt.lists (A := A) n1 n2 (by omega) (by omega) (e := fun j => T.eqB (xs.getD j .n) (ys.getD j .n)) items
    rw [e1] at z1 z2
    rw [show min xs.length ys.length = xs.length by omega, show (xs.length == ys.length) = true by simpa using e, Bool.and_true]
    exact ⟨z1, z2⟩
  · have z1 := RcAt.lists_lengths (A := A) n1 n2 (by rw [e1, e2]; simpa using e) (by omega)
    have z2 := RcNeAt.lists_lengths (A := A) n1 n2 (by rw [e1, e2]; simpa using e) (by omega)
    rw [show (xs.length == ys.length) = false by simpa using e, Bool.and_false]
    exact ⟨z1, z2⟩
/-- things are compared -/
theorem eq_T (I : Inv X pins σ H s) (a : T) : EqsAt s X.K H a := by
  induction a using T.induct with
  | hs x =>
    intro b u v u' v' A hu h g ru rv
    rw [h.inv_s] at ru
    obtain ⟨t, rfl⟩ := ru
    cases b with
    | s y => rw [g.inv_s] at rv; obtain ⟨t', rfl⟩ := rv; unfold T.eqB; exact EqAt.str_str _ _ _ _
    | i y => rw [g.inv_i] at rv; obtain ⟨t', rfl⟩ := rv; unfold T.eqB; exact EqAt.str_int _ _ _ _
    | n => unfold Rp at g; rw [g] at rv; cases rv; unfold T.eqB; exact EqAt.str_none _ _
    | t ys =>
      obtain ⟨q, ws, rfl, hs, hr⟩ := g.inv_t
      cases rv
      obtain ⟨its, _, it, _⟩ := I.tuple hs
      unfold T.eqB
      exact EqAt.str_tuple _ _ (isTuple_of it) (by omega)
  | hi x =>
    intro b u v u' v' A hu h g ru rv
    rw [h.inv_i] at ru
    obtain ⟨t, rfl⟩ := ru
    cases b with
    | s y => rw [g.inv_s] at rv; obtain ⟨t', rfl⟩ := rv; unfold T.eqB; exact EqAt.int_str _ _ _ _
    | i y => rw [g.inv_i] at rv; obtain ⟨t', rfl⟩ := rv; unfold T.eqB; exact EqAt.int_int _ _ _ _
    | n => unfold Rp at g; rw [g] at rv; cases rv; unfold T.eqB; exact EqAt.int_none _ _
    | t ys =>
      obtain ⟨q, ws, rfl, hs, hr⟩ := g.inv_t
      cases rv
      obtain ⟨its, _, it, _⟩ := I.tuple hs
      unfold T.eqB
      exact EqAt.int_tuple _ _ (isTuple_of it) (by omega)
  | hn =>
    intro b u v u' v' A hu h g ru rv
    unfold Rp at h
    rw [h] at ru
    cases ru
    cases b with
    | s y => rw [g.inv_s] at rv; obtain ⟨t', rfl⟩ := rv; unfold T.eqB; exact EqAt.none_str _ _
    | i y => rw [g.inv_i] at rv; obtain ⟨t', rfl⟩ := rv; unfold T.eqB; exact EqAt.none_int _ _
    | n => unfold Rp at g; rw [g] at rv; cases rv; unfold T.eqB; exact EqAt.same _
    | t ys =>
      obtain ⟨q, ws, rfl, hs, hr⟩ := g.inv_t
      cases rv
      obtain ⟨its, _, it, _⟩ := I.tuple hs
      unfold T.eqB
      exact EqAt.none_tuple (isTuple_of it) (by omega)
  | ht xs ih =>
    intro b u v u' v' A hu h g ru rv
    obtain ⟨p, us, rfl, hs, hr⟩ := h.inv_t
    cases ru
    obtain ⟨its, rits, it, _⟩ := I.tuple hs
    cases b with
    | s y => rw [g.inv_s] at rv; obtain ⟨t', rfl⟩ := rv; unfold T.eqB; exact EqAt.tuple_str _ _ (isTuple_of it) (by omega)
    | i y => rw [g.inv_i] at rv; obtain ⟨t', rfl⟩ := rv; unfold T.eqB; exact EqAt.tuple_int _ _ (isTuple_of it) (by omega)
    | n => unfold Rp at g; rw [g] at rv; cases rv; unfold T.eqB; exact EqAt.tuple_none (isTuple_of it) (by omega)
    | t ys =>
      obtain ⟨q, ws, rfl, hs', hr'⟩ := g.inv_t
      cases rv
      by_cases e : p = q
      · subst e
        have z := Rp.inj I _ _ h g
        rw [z, T.eqB_self]
        exact EqAt.same _
      · unfold T.dep at hu
        unfold T.eqB
        exact EqAt.of_refs e (rc_tuples I ih (by omega) hs hr hs' hr')
/-- == and != of things -/
theorem rc_T (I : Inv X pins σ H s) (a b : T) {u v : V} {u' v' : Value} (A : Around) (hu : A.units + a.dep < cLine) (h : Rp X.K H a u) (g : Rp X.K H b v) (ru : RelV u u') (rv : RelV v v') : RcAt A s u' v' (a.eqB b) ∧ RcNeAt A s u' v' (!a.eqB b) := by
  cases a with
  | s x =>
    rw [h.inv_s] at ru
    obtain ⟨t, rfl⟩ := ru
    cases b with
    | s y => rw [g.inv_s] at rv; obtain ⟨t', rfl⟩ := rv; unfold T.eqB; exact ⟨RcAt.str_str _ _ _ _, RcNeAt.str_str _ _ _ _⟩
    | i y => rw [g.inv_i] at rv; obtain ⟨t', rfl⟩ := rv; unfold T.eqB; exact ⟨RcAt.str_int _ _ _ _, RcNeAt.str_int _ _ _ _⟩
    | n => unfold Rp at g; rw [g] at rv; cases rv; unfold T.eqB; exact ⟨RcAt.str_none _ _, RcNeAt.str_none _ _⟩
    | t ys =>
      obtain ⟨q, ws, rfl, hs, hr⟩ := g.inv_t
      cases rv
      obtain ⟨its, _, it, _⟩ := I.tuple hs
      unfold T.eqB
      exact ⟨RcAt.str_tuple _ _ (isTuple_of it) (by omega), RcNeAt.str_tuple _ _ (isTuple_of it) (by omega)⟩
  | i x =>
    rw [h.inv_i] at ru
    obtain ⟨t, rfl⟩ := ru
    cases b with
    | s y => rw [g.inv_s] at rv; obtain ⟨t', rfl⟩ := rv; unfold T.eqB; exact ⟨RcAt.int_str _ _ _ _, RcNeAt.int_str _ _ _ _⟩
    | i y => rw [g.inv_i] at rv; obtain ⟨t', rfl⟩ := rv; unfold T.eqB; exact ⟨RcAt.int_int _ _ _ _, RcNeAt.int_int _ _ _ _⟩
    | n => unfold Rp at g; rw [g] at rv; cases rv; unfold T.eqB; exact ⟨RcAt.int_none _ _, RcNeAt.int_none _ _⟩
    | t ys =>
      obtain ⟨q, ws, rfl, hs, hr⟩ := g.inv_t
      cases rv
      obtain ⟨its, _, it, _⟩ := I.tuple hs
      unfold T.eqB
      exact ⟨RcAt.int_tuple _ _ (isTuple_of it) (by omega), RcNeAt.int_tuple _ _ (isTuple_of it) (by omega)⟩
  | n =>
    unfold Rp at h
    rw [h] at ru
    cases ru
    cases b with
    | s y => rw [g.inv_s] at rv; obtain ⟨t', rfl⟩ := rv; unfold T.eqB; exact ⟨RcAt.none_str _ _, RcNeAt.none_str _ _⟩
    | i y => rw [g.inv_i] at rv; obtain ⟨t', rfl⟩ := rv; unfold T.eqB; exact ⟨RcAt.none_int _ _, RcNeAt.none_int _ _⟩
    | n => unfold Rp at g; rw [g] at rv; cases rv; unfold T.eqB; exact ⟨RcAt.none_none, RcNeAt.none_none⟩
    | t ys =>
      obtain ⟨q, ws, rfl, hs, hr⟩ := g.inv_t
      cases rv
      obtain ⟨its, _, it, _⟩ := I.tuple hs
      unfold T.eqB
      exact ⟨RcAt.none_tuple (isTuple_of it) (by omega), RcNeAt.none_tuple (isTuple_of it) (by omega)⟩
  | t xs =>
    obtain ⟨p, us, rfl, hs, hr⟩ := h.inv_t
    cases ru
    obtain ⟨its, rits, it, _⟩ := I.tuple hs
    cases b with
    | s y => rw [g.inv_s] at rv; obtain ⟨t', rfl⟩ := rv; unfold T.eqB; exact ⟨RcAt.tuple_str _ _ (isTuple_of it) (by omega), RcNeAt.tuple_str _ _ (isTuple_of it) (by omega)⟩
    | i y => rw [g.inv_i] at rv; obtain ⟨t', rfl⟩ := rv; unfold T.eqB; exact ⟨RcAt.tuple_int _ _ (isTuple_of it) (by omega), RcNeAt.tuple_int _ _ (isTuple_of it) (by omega)⟩
    | n => unfold Rp at g; rw [g] at rv; cases rv; unfold T.eqB; exact ⟨RcAt.tuple_none (isTuple_of it) (by omega), RcNeAt.tuple_none (isTuple_of it) (by omega)⟩
    | t ys =>
      obtain ⟨q, ws, rfl, hs', hr'⟩ := g.inv_t
      cases rv
      unfold T.dep at hu
      unfold T.eqB
      exact ⟨rc_tuples I (fun x _ => eq_T I x) (by omega) hs hr hs' hr', rcne_tuples I (fun x _ => eq_T I x) (by omega) hs hr hs' hr'⟩
def rEqT (K : PySem.W.Frag) : R2 := fun x y H Q => ∃ a b, Rp K H a x ∧ Rp K H b y ∧ a.dep ≤ 150 ∧ Q (.bl (decide (a = b))) H
def rNeT (K : PySem.W.Frag) : R2 := fun x y H Q => ∃ a b, Rp K H a x ∧ Rp K H b y ∧ a.dep ≤ 150 ∧ Q (.bl (!decide (a = b))) H
theorem op_eqT (hu : X.A.units + 150 < cLine) : OpR X (compareOp .Eq) (rEqT X.K) := by
  intro pins s σ H x y v u Q I rx ry h
  obtain ⟨a, b, ha, hb, hd, q⟩ := h
  rw [← T.eqB_dec] at q
  exact (rc_T I a b X.A (by omega) ha hb rx ry).1 X.prog X.w X.xe _ ⟨.bl _, H, I, rfl, q⟩
theorem op_neT (hu : X.A.units + 150 < cLine) : OpR X (compareOp .NotEq) (rNeT X.K) := by
  intro pins s σ H x y v u Q I rx ry h
  obtain ⟨a, b, ha, hb, hd, q⟩ := h
  rw [← T.eqB_dec] at q
  exact (rc_T I a b X.A (by omega) ha hb rx ry).2 X.prog X.w X.xe _ ⟨.bl _, H, I, rfl, q⟩
def rEqL (K : PySem.W.Frag) : R2 := fun x y H Q => ∃ p q xs ys us ws, x = .ref p ∧ y = .ref q ∧ SqL K H p us ∧ Rps K H xs us ∧ SqL K H q ws ∧ Rps K H ys ws ∧ T.deps xs ≤ 149 ∧ Q (.bl (decide (xs = ys))) H
def rNeL (K : PySem.W.Frag) : R2 := fun x y H Q => ∃ p q xs ys us ws, x = .ref p ∧ y = .ref q ∧ SqL K H p us ∧ Rps K H xs us ∧ SqL K H q ws ∧ Rps K H ys ws ∧ T.deps xs ≤ 149 ∧ Q (.bl (!decide (xs = ys))) H
theorem op_eqL (hu : X.A.units + 150 < cLine) : OpR X (compareOp .Eq) (rEqL X.K) := by
  intro pins s σ H x y v u Q I rx ry h
  obtain ⟨p, q, xs, ys, us, ws, rfl, rfl, h1, h2, h3, h4, hd, k⟩ := h
  obtain rfl : v = Value.ref p := rx
  obtain rfl : u = Value.ref q := ry
  rw [← T.eqBs_dec] at k
  exact (rc_lists I (A := X.A) (fun x _ => eq_T I x) (by omega) h1 h2 h3 h4).1 X.prog X.w X.xe _ ⟨.bl _, H, I, rfl, k⟩
theorem op_neL (hu : X.A.units + 150 < cLine) : OpR X (compareOp .NotEq) (rNeL X.K) := by
  intro pins s σ H x y v u Q I rx ry h
  obtain ⟨p, q, xs, ys, us, ws, rfl, rfl, h1, h2, h3, h4, hd, k⟩ := h
  obtain rfl : v = Value.ref p := rx
  obtain rfl : u = Value.ref q := ry
  rw [← T.eqBs_dec] at k
  exact (rc_lists I (A := X.A) (fun x _ => eq_T I x) (by omega) h1 h2 h3 h4).2 X.prog X.w X.xe _ ⟨.bl _, H, I, rfl, k⟩
theorem Room.u150 {k : Nat} {A : Around} (r : Room k A) : A.units + 150 < cLine := by have := r.un; omega
end
end L2

namespace L2
open PySem PySem.Spec PyProof.Rows
theorem ifT {b : Bool} {A B : Prop} (e : b = true) (h : A) : if b = true then A else B := by rw [if_pos e]; exact h
theorem ifF {b : Bool} {A B : Prop} (e : b = false) (h : B) : if b = true then A else B := by rw [if_neg (by rw [e]; exact Bool.false_ne_true)]; exact h
section
variable {X : Cx}
theorem pg_tupK {pos : Pos} {es : List Expr} {k : Nat} {t : TGs} {n : Nat} (K : PySem.W.Frag) (hK : X.K = K) (hc : X.calm = true) (h : PGs X es t) (hn : (assignEach es X.env).length = n := by rfl) (hst : (assignEach es X.env).findIdx? (·.1) = none := by rfl) : PG X (.Tuple es k pos) (gTup K n t) := by
  subst hK
  exact pg_tup hc h hn hst
theorem ix_tupK (K : PySem.W.Frag) (hK : X.K = K) : IxR X (rIxT K) := by subst hK; exact ix_tup
theorem ix_listK (K : PySem.W.Frag) (hK : X.K = K) : IxR X (rIxL K) := by subst hK; exact ix_list
theorem sl_listK (K : PySem.W.Frag) (hK : X.K = K) : SlR X (rSlL K) := by subst hK; exact sl_list
theorem sl_tupK (K : PySem.W.Frag) (hK : X.K = K) : SlR X (rSlT K) := by subst hK; exact sl_tup
theorem op_catTK (K : PySem.W.Frag) (hK : X.K = K) : OpR X (binaryOp .Add) (rCatT K) := by subst hK; exact op_catT
theorem op_in_seqK (K : PySem.W.Frag) (hK : X.K = K) : OpR X (compareOp .In) (rIn K false) := by subst hK; exact op_in_seq
theorem op_notIn_seqK (K : PySem.W.Frag) (hK : X.K = K) : OpR X (compareOp .NotIn) (rIn K true) := by subst hK; exact op_notIn_seq
theorem call_len_seqK (K : PySem.W.Frag) (hK : X.K = K) : CallR X (.builtin "len") (fun xs H Q => ∃ p ys, xs = [.ref p] ∧ (SqL K H p ys ∨ SqT K H p ys) ∧ Q (.int ys.length) H) := by subst hK; exact call_len_seq
/-! ### a dict of the module, its keys texts -/
def KDs (w : World) : List DictEntry → List (Str × V) → Prop
  | [], kvs => kvs = []
  | e :: r, kvs => ∃ x v q, kvs = (x, v) :: q ∧ (∃ t, e.key = .str x t) ∧ e.hash = hashStr w x ∧ RelV v e.val ∧ KDs w r q
def KD (K : PySem.W.Frag) (w : World) (d : Addr) (kvs : List (Str × V)) : Prop :=
  ∃ (es : Array DictEntry) (n : Nat), K.lookup d = some { cls := .type "dict", dict := none, data := .dict es n, slots := #[] } ∧ KDs w es.toList kvs ∧ (kvs.map (·.1)).Nodup ∧ (d == sysModules) = false
theorem KDs.keys {w : World} {P : Program} : ∀ {es : List DictEntry} {kvs : List (Str × V)}, KDs w es kvs → ∃ vs : List (Str × Value), Pairs (PySem.strKind P w) es vs ∧ (∀ e ∈ es, ∃ k, (PySem.strKind P w).is k e.key = true ∧ e.hash = (PySem.strKind P w).hash k) ∧ vs.map (·.1) = kvs.map (·.1) ∧
    ∀ k, RelO (kvs.lookup k) (valueAt vs k)
  | [], kvs, h => by
    obtain rfl : kvs = [] := h
    exact ⟨[], .nil, (fun _ h => nomatch h), rfl, fun _ => trivial⟩
  | e :: r, kvs, h => by
    obtain ⟨x, v, q, rfl, ⟨t, hk⟩, hh, rv, hr⟩ := h
    obtain ⟨vs, h1, h2, h3, h4⟩ := KDs.keys (P := P) hr
    have ek : (PySem.strKind P w).is x e.key = true := by rw [hk]; exact (by simp [PySem.strKind, Value.isStrOf] : (PySem.strKind P w).is x (.str x t) = true)
    refine ⟨(x, e.val) :: vs, .cons ek rfl h1, fun e' he => ?_, by rw [List.map_cons, List.map_cons, h3], fun k => ?_⟩
    · cases he with
      | head => exact ⟨x, ek, hh⟩
      | tail _ he => exact h2 e' he
    · rw [List.lookup_cons]
      by_cases c : k = x
      · subst c
        rw [beq_self_eq_true]
        simp only [valueAt, List.find?_cons, decide_true, Option.map_some]
        exact rv
      · rw [beq_false_of_ne c]
        have z := h4 k
        have e1 : valueAt ((x, e.val) :: vs) k = valueAt vs k := by
          simp only [valueAt, List.find?_cons]
          rw [decide_eq_false (fun q => c q.symm)]
        rw [e1]
        exact z
theorem KD.dict {K : PySem.W.Frag} {P : Program} {w : World} {d : Addr} {kvs : List (Str × V)} (D : KD K w d kvs) {h : Heap} (X : K.In h) : ∃ vs, h.DictOf (PySem.strKind P w) d vs ∧ (d == sysModules) = false ∧ ∀ k, RelO (kvs.lookup k) (valueAt vs k) := by
  obtain ⟨es, n, e, hs, nd, hd⟩ := D
  obtain ⟨vs, h1, h2, h3, h4⟩ := KDs.keys (P := P) hs
  exact ⟨vs, ⟨_, es, n, X _ _ e, ⟨rfl, rfl, rfl⟩, rfl, fun e' he => h2 e' (by simpa using he), h1, by rw [h3]; exact nd⟩, hd, h4⟩
theorem strK_is {P : Program} {w : World} {x : Str} {t : Tok} : (PySem.strKind P w).is x (.str x t) = true := by simp [PySem.strKind, Value.isStrOf]
def rKIn (K : PySem.W.Frag) (w : World) : R2 := fun x y H Q => ∃ k d kvs, x = .str k ∧ y = .ref d ∧ KD K w d kvs ∧ Q (.bl (kvs.lookup k).isSome) H
theorem RelO.isSome' {a : Option V} {b : Option Value} (r : RelO a b) : b.isSome = a.isSome := by
  cases a <;> cases b <;> first | rfl | exact r.elim
theorem op_inKD : OpR X (compareOp .In) (rKIn X.K X.w) := by
  intro pins s σ H x y v u Q I rx ry h
  obtain ⟨k, d, kvs, rfl, rfl, D, q⟩ := h
  obtain ⟨t, rfl⟩ := rx
  obtain rfl : u = Value.ref d := ry
  obtain ⟨vs, dd, hd, rel⟩ := D.dict (P := X.prog) I.kIn
  refine wpAny_in_of strK_is hd dd.mapOf ?_
  rw [(rel k).isSome']
  exact ⟨.bl _, H, I.tok _, rfl, q⟩
def tKGet (K : PySem.W.Frag) (w : World) (td ty : TE) : TE := fun σ H Q => td σ H fun x H1 => ty σ H1 fun y H2 => ∃ d kvs k v, x = .ref d ∧ y = .str k ∧ KD K w d kvs ∧ kvs.lookup k = some v ∧ Q v H2
theorem pe_kget {o i : Expr} {pos : Pos} {td ty : TE} (ho : PE X o td) (hi : PE X i ty) (hs : NoSl i) : PE X (.Subscript o i pos) (tKGet X.K X.w td ty) := by
  intro pins s σ H Q I h
  refine subD_of PySem.F.slot_dict_getitem.lookup hs (thn (ho pins s σ H _ I h) fun u s1 ⟨x, H1, I1, rx, q1⟩ => thn (hi pins s1 σ H1 _ I1 q1) fun iv s2 ⟨y, H2, I2, ry, d, kvs, k, v, ex, ey, D, lk, q2⟩ => ?_)
  subst ex ey
  obtain rfl : u = Value.ref d := rx
  obtain ⟨t, rfl⟩ := ry
  obtain ⟨vs, dd, hd, rel⟩ := D.dict (P := X.prog) I2.kIn
  obtain ⟨w', hw, rw'⟩ := RelO.some_of (v := v) (o := valueAt vs k) (by rw [← lk]; exact rel k)
  exact ⟨dd.typeIs, wpAny_getItem_of strK_is dd.mapOf hw ⟨v, H2, I2.tok _, rw', q2⟩⟩
/-! ### a text so many times -/
theorem op_mul_str : OpR X (binaryOp .Mult) (fun x y H Q => ∃ z n, x = .str z ∧ y = .int n ∧ -1000000 ≤ n ∧ n ≤ 1000000 ∧ z.length * n.toNat ≤ sizeLine ∧ Q (.str (Txt.mul z n)) H) := by
  intro pins s σ H x y v u Q I rx ry h
  obtain ⟨z, n, rfl, rfl, h1, h2, h3, q⟩ := h
  obtain ⟨t, rfl⟩ := rx
  obtain ⟨t', rfl⟩ := ry
  refine PySem.SB.mul ⟨by simp; omega, fun a b => ?_, fun a b => ?_⟩ fun t' k => ⟨.str _, H, I.tok _, ⟨_, rfl⟩, q⟩
  · intro c
    have n1 : 1 ≤ n := by omega
    have h3' : z.length * n.toNat ≤ 16777216 := by rw [← sizeLine_eq]; exact h3
    have hz : z.length ≤ z.length * n.toNat := Nat.le_mul_of_pos_right _ (by omega)
    have e : (9223372036854 : Int) ≤ (2 ^ 63 - 1) / n := Int.le_ediv_of_mul_le (by omega) (by omega)
    omega
  · unfold Builtin.Str.tooLong
    simp
    exact h3
/-! ### isinstance of a list -/
theorem call_isL : CallR X (.builtin "isinstance") (fun xs H Q => ∃ p ys, xs = [.ref p, .ty "list"] ∧ SqL X.K H p ys ∧ Q (.bl true) H) := by
  intro pins s σ H xs us Q I r h
  obtain ⟨p, ys, rfl, hq, q⟩ := h
  obtain ⟨u, w', rfl, r1, r2⟩ := vals2 r
  obtain rfl : u = Value.ref p := r1
  obtain rfl : w' = Value.type "list" := r2
  obtain ⟨its, rv, pl, hz⟩ := I.list hq
  obtain ⟨o, ho, hc, n, hd⟩ := pl.isList
  exact IsiPair.list_list ho hc ⟨.bl true, H, I, rfl, q⟩
theorem call_isT : CallR X (.builtin "isinstance") (fun xs H Q => ∃ p ys, xs = [.ref p, .ty "tuple"] ∧ SqT X.K H p ys ∧ Q (.bl true) H) := by
  intro pins s σ H xs us Q I r h
  obtain ⟨p, ys, rfl, hq, q⟩ := h
  obtain ⟨u, w', rfl, r1, r2⟩ := vals2 r
  obtain rfl : u = Value.ref p := r1
  obtain rfl : w' = Value.type "tuple" := r2
  obtain ⟨its, rv, pl, hz⟩ := I.tuple hq
  obtain ⟨o, ho, hc, n, hd⟩ := pl
  exact IsiPair.tuple_tuple ho hc ⟨.bl true, H, I, rfl, q⟩
/-! ### the greatest of a list -/
theorem call_maxL (hc : X.calm = true) : CallR X (.builtin "max") (fun xs H Q => ∃ (p : Addr) (ns : List Int), xs = [.ref p] ∧ SqL X.K H p (ns.map V.int) ∧ 0 < ns.length ∧ ∀ M ∈ ns, (∀ a ∈ ns, a ≤ M) → Q (.int M) H) := by
  intro pins s σ H xs us Q I r h
  obtain ⟨p, ns, rfl, hq, hne, q⟩ := h
  obtain ⟨u, rfl, ru⟩ := vals1 r
  cases ru
  obtain ⟨its, rv, pl, hz⟩ := I.list hq
  have hi : IntsAre its ns := intsAre_of rv
  obtain ⟨xs, hxs⟩ := hi.allInts.items
  have hl := pl.isList
  rw [hxs] at hl
  have hn : (numsOf (intItems xs).toList) = ns := by rw [← hxs]; exact hi.numsOf
  rw [nums_intItems] at hn
  have hsz : 0 < xs.size := by
    have : ns.length = xs.size := by rw [← hn]; simp
    omega
  refine max_intList (I.ok.hd hc) hl hsz fun v h' tk hv hk => ?_
  obtain ⟨t, rfl⟩ := intItems_at hv
  obtain ⟨h1, h2⟩ := argBest_gt (numAt xs) (xs.size - 1)
  refine ⟨.int _, H, I.kept hk, ⟨_, rfl⟩, q _ ?_ fun a ha => ?_⟩
  · rw [← hn, numAt_eq]; exact getD_mem (by rw [List.length_map, Array.length_toList]; omega)
  · rw [← hn] at ha
    obtain ⟨j, hj, rfl⟩ := mem_getD ha
    rw [List.length_map, Array.length_toList] at hj
    rw [← numAt_eq]; exact h2 j (by omega)
end
section
variable {g : TG} {tt : TT} {te : TE} {Q : VK} {σ0 : St} {H0 : Hp}
/-- over a tuple -/
theorem comp_tup {K : PySem.W.Frag} {a : Addr} {xs : List V} (Pv : Nat → St → List V → Hp → Prop) (h0 : Pv 0 σ0 [] H0) (hlen : ∀ i σ vs H, i ≤ xs.length → Pv i σ vs H → vs.length ≤ i) (hn : xs.length ≤ sizeLine) (hl : ∀ i σ vs H, i ≤ xs.length → Pv i σ vs H → SqT K H a xs)
    (hs : ∀ i x σ vs H, xs[i]? = some x → Pv i σ vs H → g x σ H fun σ2 H2 => tt σ2 H2 fun ok H3 => if ok = true then te σ2 H3 fun v H4 => Pv (i + 1) σ2 (vs ++ [v]) H4 else Pv (i + 1) σ2 vs H3)
    (hd : ∀ σ vs H, Pv xs.length σ vs H → ∀ p, H p = none → Q (.ref p) (upd H p (.lst vs))) : CompW (Itt K a) g tt te Q σ0 H0 := by
  refine comp_by xs.length Pv h0 hlen hn (fun i σ vs H hi p => ⟨xs, xs[i], hl i σ vs H (Nat.le_of_lt hi) p, by simp [hi]⟩) (fun σ vs H p => ⟨xs, hl _ σ vs H (Nat.le_refl _) p, Nat.le_refl _⟩) (fun i σ vs H x H' hi p y => ?_) hd
  obtain ⟨rfl, y⟩ := y
  exact hs i x σ vs _ (y xs (hl i σ vs _ (Nat.le_of_lt hi) p)) p
end
/-! ### repr -/
mutual
def T.py : T → PyData
  | .s x => .str x
  | .i k => .int k
  | .n => .none
  | .t xs => .tuple (T.pys xs)
def T.pys : List T → List PyData
  | [] => []
  | x :: r => x.py :: T.pys r
end
section
variable {X : Cx} {pins : List (Addr × Obj)} {σ : St} {H : Hp} {s : Shared}
theorem reads_Ts : ∀ {xs : List T}, (∀ x ∈ xs, ∀ {v : V} {u : Value}, Rp X.K H x v → RelV v u → ∃ as, Reads s.heap u x.py as) → ∀ {vs : List V} {us : List Value}, Rps X.K H xs vs → Vals vs us → ∃ as, ReadsAll s.heap us (T.pys xs) as
  | [], _, vs, us, h, r => by
    obtain rfl := h.inv0
    cases r
    exact ⟨[], .nil⟩
  | x :: q, ih, vs, us, h, r => by
    obtain ⟨v, w, rfl, h1, h2⟩ := h.inv
    cases r with
    | cons r1 r2 =>
      obtain ⟨as, ha⟩ := ih x (.head _) h1 r1
      obtain ⟨bs, hb⟩ := reads_Ts (fun y hy => ih y (.tail _ hy)) h2 r2
      exact ⟨as ++ bs, .cons ha hb⟩
theorem reads_T (I : Inv X pins σ H s) (a : T) : ∀ {v : V} {u : Value}, Rp X.K H a v → RelV v u → ∃ as, Reads s.heap u a.py as := by
  induction a using T.induct with
  | hs x => intro v u h r; rw [h.inv_s] at r; obtain ⟨t, rfl⟩ := r; unfold T.py; exact ⟨[], .str x t⟩
  | hi x => intro v u h r; rw [h.inv_i] at r; obtain ⟨t, rfl⟩ := r; unfold T.py; exact ⟨[], .int x t⟩
  | hn => intro v u h r; unfold Rp at h; rw [h] at r; cases r; unfold T.py; exact ⟨[], .none⟩
  | ht xs ih =>
    intro v u h r
    obtain ⟨p, vs, rfl, hs, hr⟩ := h.inv_t
    cases r
    obtain ⟨its, rv, ⟨o, e, c, n, d⟩, _⟩ := I.tuple hs
    obtain ⟨as, ha⟩ := reads_Ts (s := s) ih hr rv
    unfold T.py
    exact ⟨as, .tuple e c d (by simpa using ha)⟩
/-- what can be shown -/
structure Shows (d : PyData) : Prop where
  sh : d.showable = true
  nd : d.hasDict = false
  dp : d.depth ≤ 100
  sz : d.shown.length ≤ sizeLine
theorem call_reprL (hg : X.A.guards = some []) (hu : X.A.units + 150 < cLine) : CallR X (.builtin "repr") (fun xs H Q => ∃ p ts vs, xs = [.ref p] ∧ SqL X.K H p vs ∧ Rps X.K H ts vs ∧ Shows (.list (T.pys ts)) ∧ Q (.str (PyData.list (T.pys ts)).shown) H) := by
  intro pins s σ H xs us Q I r h
  obtain ⟨p, ts, vs, rfl, hs, hr, S, q⟩ := h
  obtain ⟨u, rfl, ru⟩ := vals1 r
  cases ru
  obtain ⟨its, rv, pl, _⟩ := I.list hs
  obtain ⟨o, e, c, n, d⟩ := pl.isList
  obtain ⟨as, ha⟩ := reads_Ts (s := s) (fun x _ => reads_T I x) hr rv
  refine repr_of_reads' (.list e c d (by simpa using ha)) S.sh (fun z => by rw [S.nd] at z; cases z) hg (by have := S.dp; omega) (fun _ _ e => e) (fun h' u tk hk => ?_) S.sz
  exact ⟨.str _, H, I.kept hk, ⟨_, rfl⟩, q⟩
theorem call_reprT (hg : X.A.guards = some []) (hu : X.A.units + 150 < cLine) : CallR X (.builtin "repr") (fun xs H Q => ∃ x xs' , xs = [x] ∧ Rp X.K H (.t xs') x ∧ Shows (T.t xs').py ∧ Q (.str (T.t xs').py.shown) H) := by
  intro pins s σ H xs us Q I r h
  obtain ⟨x, ts, rfl, hr, S, q⟩ := h
  obtain ⟨u, rfl, ru⟩ := vals1 r
  obtain ⟨as, ha⟩ := reads_T I _ hr ru
  obtain ⟨p, vs, rfl, hs, hr⟩ := hr.inv_t
  cases ru
  refine repr_of_reads' ha S.sh (fun z => by rw [S.nd] at z; cases z) hg (by have := S.dp; omega) (fun _ _ e => e) (fun h' u tk hk => ?_) S.sz
  exact ⟨.str _, H, I.kept hk, ⟨_, rfl⟩, q⟩
end
theorem T.pys_ints (ns : List Int) : T.pys (ns.map .i) = ns.map .int := by
  induction ns with
  | nil => rfl
  | cons n r ih => rw [List.map_cons, List.map_cons]; unfold T.pys; rw [ih]; unfold T.py; rfl
theorem pa_strsD {X : Cx} {es : List Expr} (h : (strsOf es).isSome = true) : PA X es (tStrs ((strsOf es).getD [])) := by
  obtain ⟨xs, e⟩ := Option.isSome_iff_exists.mp h
  rw [e]
  exact pa_strs e
theorem atS {z : Str} {r : Int} (h0 : 0 ≤ r) (h : r < (z.length : Int)) : ∃ c, atI z.cps.toList r = some c ∧ c ∈ z.cps.toList := by
  have e : z.cps.toList.length = z.length := by simp [Str.length]
  have hk : r.toNat < z.cps.toList.length := by rw [e]; omega
  have ek : r = ((r.toNat : Nat) : Int) := by omega
  have q : atI z.cps.toList ((r.toNat : Nat) : Int) = some z.cps.toList[r.toNat] := atI_nat (List.getElem?_eq_getElem hk)
  rw [← ek] at q
  exact ⟨_, q, List.getElem_mem hk⟩
theorem join_cs (cs : List Nat) : Txt.join "" (cs.map fun c => (⟨#[c]⟩ : Str)) = ⟨cs.toArray⟩ := by
  show Builtin.Str.glued (Str.ofString "") _ = _
  rw [StrLaws.glued_eq_join]
  exact PyProof.Rows.join_ones cs
theorem sum_ones (l : List Nat) : ((l.map fun c => (⟨#[c]⟩ : Str)).map (·.length)).sum = l.length := by
  induction l with
  | nil => rfl
  | cons c r ih => rw [List.map_cons, List.map_cons, List.sum_cons, ih, List.length_cons]; show 1 + _ = _; omega
theorem len_cs (cs : List Nat) : (⟨cs.toArray⟩ : Str).length = cs.length := by simp [Str.length]
theorem mul_q (b : Bool) (z : Str) : (Txt.mul z (if b then 1 else 0)).length ≤ z.length := by
  cases b with
  | true => simp [Txt.mul]
  | false => simp [Txt.mul, Str.length, Str.empty]
end L2

namespace L2
open PySem
/-! ### heaps: the feed at f may change, all else stays -/
def FeedAt (H : Hp) (f : Addr) : Prop := ∃ p q : Int, H f = some (.lst [.int p, .int q])
def Ext (f : Addr) (H H' : Hp) : Prop := (∀ b o, b ≠ f → H b = some o → H' b = some o) ∧ FeedAt H' f
theorem Ext.refl {f : Addr} {H : Hp} (h : FeedAt H f) : Ext f H H := ⟨fun _ _ _ e => e, h⟩
theorem Ext.trans {f : Addr} {H H1 H2 : Hp} (a : Ext f H H1) (b : Ext f H1 H2) : Ext f H H2 := ⟨fun c o n e => b.1 c o n (a.1 c o n e), b.2⟩
theorem Ext.same {f : Addr} {H H1 H2 : Hp} (a : Ext f H H1) (s : Same H1 H2) : Ext f H H2 := ⟨fun c o n e => s c o (a.1 c o n e), let ⟨p, q, e⟩ := a.2; ⟨p, q, s f _ e⟩⟩
theorem same_new {H : Hp} {p : Addr} (h : H p = none) (o : HO) : Same H (upd H p o) := fun b u q => by rw [upd_ne (ne_of_none q h)]; exact q
theorem FeedAt.same {f : Addr} {H H' : Hp} (h : FeedAt H f) (s : Same H H') : FeedAt H' f := let ⟨p, q, e⟩ := h; ⟨p, q, s f _ e⟩
theorem Ext.tup {f : Addr} {H H' : Hp} (e : Ext f H H') (hf : FeedAt H f) {a : Addr} {xs : List V} (h : H a = some (.tup xs)) : H' a = some (.tup xs) := by
  refine e.1 a _ ?_ h
  obtain ⟨p, q, hf⟩ := hf
  exact ne_of h hf (by intro z; cases z)
def spTake : Sp := fun vs H Q _ => ∃ (f : Addr) (m : Int), vs = [.ref f, .int m] ∧ 0 < m ∧ m < 1073741824 ∧ FeedAt H f ∧ ∀ (r : Int) (H' : Hp), 0 ≤ r → r < m → Ext f H H' → Q (.int r) H'
def spFeed (K : PySem.W.Frag) : Sp := fun vs H Q _ => ∃ (a : Addr) (ns : List Int) (k : Int), vs = [.ref a, .int k] ∧ SqL K H a (ns.map V.int) ∧ ns.length ≤ 63 ∧ 0 ≤ k ∧ k ≤ 100 ∧
  ∀ (r : Addr) (H' : Hp), Same H H' → H r = none → FeedAt H' r → Q (.ref r) H'
theorem small {n : Nat} (h : n ≤ 1000) : n ≤ sizeLine := Nat.le_of_lt (small1000 h)
theorem atI_int {ns : List Int} {k : Int} (h0 : 0 ≤ k) (h : k < (ns.length : Int)) : ∃ v : Int, atI (ns.map V.int) k = some (.int v) := by
  have hk : k.toNat < ns.length := by omega
  have ek : k = ((k.toNat : Nat) : Int) := by omega
  have q : atI (ns.map V.int) ((k.toNat : Nat) : Int) = some (.int ns[k.toNat]) := atI_nat (by rw [List.getElem?_map, List.getElem?_eq_getElem hk] <;> rfl)
  rw [← ek] at q
  exact ⟨_, q⟩
theorem atI_of {α : Type} {xs : List α} {k : Int} (h0 : 0 ≤ k) (h : k < (xs.length : Int)) : ∃ v : α, atI xs k = some v ∧ v ∈ xs := by
  have hk : k.toNat < xs.length := by omega
  have ek : k = ((k.toNat : Nat) : Int) := by omega
  have q : atI xs ((k.toNat : Nat) : Int) = some xs[k.toNat] := atI_nat (List.getElem?_eq_getElem hk)
  rw [← ek] at q
  exact ⟨_, q, List.getElem_mem hk⟩
theorem Ext.kt {f : Addr} {H H' : Hp} (e : Ext f H H') (hf : FeedAt H f) : Kt H H' := fun a xs r => by
  obtain ⟨p, q, hf⟩ := hf
  rcases r with h | ⟨o, h⟩
  · exact .inl (e.1 a _ (ne_of h hf (by intro z; cases z)) h)
  · exact .inr ⟨o, e.1 a _ (ne_of h hf (by intro z; cases z)) h⟩
theorem Ext.lst {f : Addr} {H H' : Hp} (e : Ext f H H') {l : Addr} {xs : List V} (n : l ≠ f) (h : H l = some (.lst xs)) : H' l = some (.lst xs) := e.1 l _ n h
/-- what a def tells that may change the feed alone -/
theorem Ext.new {f : Addr} {H H' : Hp} (e : Ext f H H') {p : Addr} (h : H' p = none) (o : HO) : Ext f H (L2.upd H' p o) := e.same (same_new h o)
structure Has (P : Program) (w : World) (K : PySem.W.Frag) (mg : Str → Option Value) (base : Heap) (x : Str) (k : Nat) (ps : List Str) (sp : Sp) (f : Addr) (fd : FuncData) : Prop where
  ok : FnOk P w K mg base CX0 k f fd ps sp
  at' : mg x = some (.ref f)
  kp : PySem.W.keepIn K (.ref f) = true
  bd : Binds K fd ps []
/-- nothing is promised -/
theorem fn_none {P : Program} {w : World} {K : PySem.W.Frag} {mg : Str → Option Value} {base : Heap} {k : Nat} {f : Addr} {fd : FuncData} {ps : List Str} {sp : Sp} (h : ∀ vs H Q E, ¬ sp vs H Q E) : FnOk P w K mg base CX0 k f fd ps sp :=
  ⟨fun vs H Q E z => (h vs H Q E z).elim, fun _ _ _ _ _ _ _ _ _ _ _ _ _ z => (h _ _ _ _ z).elim⟩
end L2

namespace L2
open PySem PySem.Spec PyProof.Rows
/-! ### what is right in a term -/
def pairT (p : List Str × Tm) : T := .t [.t (p.1.map .s), enc p.2]
def right (tm : Tm) : List (List Str × Tm) := (bnd tm.hd tm.ks.length).zip tm.ks
theorem SqT.same {K : PySem.W.Frag} {H H' : Hp} (e : Same H H') {a : Addr} {xs : List V} (h : SqT K H a xs) : SqT K H' a xs := h.kt (Kt.same e)
theorem Rp.same {K : PySem.W.Frag} {H H' : Hp} (e : Same H H') {x : T} {v : V} (h : Rp K H x v) : Rp K H' x v := h.kt (Kt.same e)
theorem Rps.same {K : PySem.W.Frag} {H H' : Hp} (e : Same H H') {x : List T} {v : List V} (h : Rps K H x v) : Rps K H' x v := h.kt (Kt.same e)
theorem Rp.new {K : PySem.W.Frag} {H : Hp} {p : Addr} (hp : H p = none) {xs : List T} {vs : List V} (h : Rps K H xs vs) : Rp K (upd H p (.tup vs)) (.t xs) (.ref p) := .t (.of upd_same) (h.same (same_new hp _))
section
variable {K : PySem.W.Frag} {Q : VK} {H0 : Hp}
/-- [((), term[place]) for place in places] -/
theorem comp_places {a pa : Addr} {ps : List Nat} {ts ks : List T} {vs : List V} (hS : SqT K H0 a vs) (hr : Rps K H0 ts vs) (hP : SqT K H0 pa (ps.map fun (j : Nat) => V.int (j : Int))) (hlen : ps.length ≤ 1000) (hk : ps.map (fun (j : Nat) => ts[j]?) = ks.map some)
    (k : ∀ (p : Addr) (H' : Hp) (ws : List V), Same H0 H' → H' p = some (.lst ws) → Rps K H' (ks.map fun k => .t [.t [], k]) ws → Q (.ref p) H') :
    CompW (Itt K pa) (gName 0) tNoIf (tTup (tCons (tTup tNil) (tCons (tOp (rIxT K) (tVar 1) (tVar 0)) tNil))) Q [none, some (.ref a)] H0 := by
  refine comp_tup (xs := ps.map fun (j : Nat) => V.int (j : Int)) (fun i σ us H2 => (∃ x, σ = [x, some (.ref a)]) ∧ Same H0 H2 ∧ Rps K H2 ((ks.take i).map fun k => .t [.t [], k]) us) ⟨⟨none, rfl⟩, Same.refl _, .nil⟩ ?_ (small (by rw [List.length_map]; exact hlen)) ?_ ?_ ?_
  · rintro i σ us H2 hi ⟨_, _, r⟩
    rw [r.length, List.length_map, List.length_take]; omega
  · rintro i σ us H2 hi ⟨_, e, _⟩
    exact hP.same e
  · rintro i x σ us H2 hx ⟨⟨x0, rfl⟩, e, r⟩
    rw [List.getElem?_map] at hx
    obtain ⟨j, hj, rfl⟩ := Option.map_eq_some_iff.mp hx
    have hkj : ts[j]? = ks[i]? ∧ i < ks.length := by
      have z := congrArg (fun l => l[i]?) hk
      simp only [List.getElem?_map, hj, Option.map_some] at z
      cases e2 : ks[i]? with
      | none => rw [e2] at z; cases z
      | some q => rw [e2] at z; exact ⟨Option.some.inj z, (List.getElem?_eq_some_iff.mp e2).1⟩
    obtain ⟨hkj, hil⟩ := hkj
    rw [List.getElem?_eq_getElem hil] at hkj
    obtain ⟨w, hw, rw'⟩ := hr.get hkj
    refine ⟨Nat.zero_le _, fun q hq => ?_⟩
    have e1 := e.trans (same_new hq (.tup []))
    refine ⟨_, rfl, _, rfl, a, _, _, w, rfl, rfl, hS.same e1, atI_nat hw, (by show 2 ≤ sizeLine; decide), fun t ht => ?_⟩
    have e2 := e1.trans (same_new ht (.tup [.ref q, w]))
    refine ⟨⟨_, rfl⟩, e2, ?_⟩
    rw [List.take_succ_eq_append_getElem hil, List.map_append]
    refine (r.same (fun b o h => same_new ht _ b o (same_new hq _ b o h))).snoc (Rp.new ht (.cons ?_ (.one (rw'.same e1))))
    exact Rp.new hq .nil
  · rintro σ us H2 ⟨_, e, r⟩ p hp
    have l : (ps.map fun (j : Nat) => V.int (j : Int)).length = ks.length := by
      have z := congrArg List.length hk
      simpa using z
    rw [l, List.take_length] at r
    exact k p _ us (e.trans (same_new hp _)) upd_same (r.same (same_new hp _))
/-- [((), inner) for inner in terms] -/
theorem comp_many {pa : Addr} {ks : List T} {vs : List V} (hS : SqT K H0 pa vs) (hr : Rps K H0 ks vs) (hlen : ks.length ≤ 1000)
    (k : ∀ (p : Addr) (H' : Hp) (ws : List V), Same H0 H' → H' p = some (.lst ws) → Rps K H' (ks.map fun k => .t [.t [], k]) ws → Q (.ref p) H') :
    CompW (Itt K pa) (gName 0) tNoIf (tTup (tCons (tTup tNil) (tCons (tVar 0) tNil))) Q [none] H0 := by
  have l := hr.length
  refine comp_tup (xs := vs) (fun i σ us H2 => (∃ x, σ = [x]) ∧ Same H0 H2 ∧ Rps K H2 ((ks.take i).map fun k => .t [.t [], k]) us) ⟨⟨none, rfl⟩, Same.refl _, .nil⟩ ?_ (small (by omega)) ?_ ?_ ?_
  · rintro i σ us H2 hi ⟨_, _, r⟩
    rw [r.length, List.length_map, List.length_take]; omega
  · rintro i σ us H2 hi ⟨_, e, _⟩
    exact hS.same e
  · rintro i x σ us H2 hx ⟨⟨x0, rfl⟩, e, r⟩
    obtain ⟨y, hy, ry⟩ := hr.get' hx
    have hil : i < ks.length := (List.getElem?_eq_some_iff.mp hy).1
    have ey : ks[i] = y := (List.getElem?_eq_some_iff.mp hy).2
    refine ⟨Nat.zero_le _, fun q hq => ?_⟩
    have e1 := e.trans (same_new hq (.tup []))
    refine ⟨_, rfl, (by show 2 ≤ sizeLine; decide), fun t ht => ?_⟩
    have e2 := e1.trans (same_new ht (.tup [.ref q, x]))
    refine ⟨⟨_, rfl⟩, e2, ?_⟩
    rw [List.take_succ_eq_append_getElem hil, List.map_append, ey]
    refine (r.same (fun b o h => same_new ht _ b o (same_new hq _ b o h))).snoc (Rp.new ht (.cons ?_ (.one (ry.same e1))))
    exact Rp.new hq .nil
  · rintro σ us H2 ⟨_, e, r⟩ p hp
    rw [l, List.take_length] at r
    exact k p _ us (e.trans (same_new hp _)) upd_same (r.same (same_new hp _))
/-- [(names, inner) for tag, names, inner in arms] -/
theorem comp_arms {pa : Addr} {arms : List (Str × List Str)} {ks : List T} {vs : List V} (hl : arms.length = ks.length) (hS : SqT K H0 pa vs) (hr : Rps K H0 (List.zipWith armT arms ks) vs) (hlen : ks.length ≤ 1000)
    (k : ∀ (p : Addr) (H' : Hp) (ws : List V), Same H0 H' → H' p = some (.lst ws) → Rps K H' (List.zipWith (fun a k => .t [.t (a.2.map .s), k]) arms ks) ws → Q (.ref p) H') :
    CompW (Itt K pa) (gTup K 3 (gCons (gName 0) (gCons (gName 1) (gCons (gName 2) gNil)))) tNoIf (tTup (tCons (tVar 1) (tCons (tVar 2) tNil))) Q [none, none, none] H0 := by
  have l := hr.length
  rw [List.length_zipWith, hl, Nat.min_self] at l
  refine comp_tup (xs := vs) (fun i σ us H2 => (∃ x y z, σ = [x, y, z]) ∧ Same H0 H2 ∧ Rps K H2 ((List.zipWith (fun (a : Str × List Str) k => T.t [.t (a.2.map .s), k]) arms ks).take i) us) ⟨⟨none, none, none, rfl⟩, Same.refl _, .nil⟩ ?_ (small (by omega)) ?_ ?_ ?_
  · rintro i σ us H2 hi ⟨_, _, r⟩
    rw [r.length, List.length_take]; omega
  · rintro i σ us H2 hi ⟨_, e, _⟩
    exact hS.same e
  · rintro i x σ us H2 hx ⟨⟨x0, y0, z0, rfl⟩, e, r⟩
    obtain ⟨y, hy, ry⟩ := hr.get' hx
    have hi : i < vs.length := (List.getElem?_eq_some_iff.mp hx).1
    have hia : i < arms.length := by omega
    have hik : i < ks.length := by omega
    have hz : i < (List.zipWith (fun (a : Str × List Str) k => T.t [.t (a.2.map .s), k]) arms ks).length := by rw [List.length_zipWith]; omega
    rw [List.getElem?_zipWith, List.getElem?_eq_getElem hia, List.getElem?_eq_getElem hik] at hy
    cases hy
    obtain ⟨ra, rvs, rfl, sq, rr⟩ := (show Rp K H0 (.t [_, _, _]) x from ry).inv_t
    obtain ⟨t1, q1, rfl, h1, rr⟩ := rr.inv
    obtain ⟨t2, q2, rfl, h2, rr⟩ := rr.inv
    obtain ⟨t3, q3, rfl, h3, rr⟩ := rr.inv
    obtain rfl := rr.inv0
    refine ⟨ra, _, rfl, sq.same e, rfl, _, _, rfl, _, _, rfl, _, _, rfl, rfl, ?_⟩
    refine ⟨_, rfl, _, rfl, (by show 2 ≤ sizeLine; decide), fun t ht => ?_⟩
    have e2 := e.trans (same_new ht (.tup [t2, t3]))
    refine ⟨⟨_, _, _, rfl⟩, e2, ?_⟩
    rw [List.take_succ_eq_append_getElem hz]
    refine (r.same (same_new ht _)).snoc ?_
    rw [List.getElem_zipWith]
    exact Rp.new ht (.cons (h2.same e) (.one (h3.same e)))
  · rintro σ us H2 ⟨_, e, r⟩ p hp
    rw [List.take_of_length_le (by rw [List.length_zipWith]; omega)] at r
    exact k p _ us (e.trans (same_new hp _)) upd_same (r.same (same_new hp _))
end
theorem filterMap_somes {α β : Type} (f : α → Option β) (g : α → β) : ∀ (l : List α), (∀ a ∈ l, f a = some (g a)) → l.filterMap f = l.map g
  | [], _ => rfl
  | a :: r, h => by rw [List.filterMap_cons, h a (.head _), List.map_cons, filterMap_somes f g r fun b hb => h b (.tail _ hb)]
theorem range_rev {α : Type} (xs : List α) : ((List.range xs.length).map fun k => xs.length - 1 - k).filterMap (xs[·]?) = xs.reverse := by
  cases xs with
  | nil => rfl
  | cons x r =>
    rw [List.filterMap_map, filterMap_somes _ (fun k => (x :: r).reverse.getD k x)]
    · apply List.ext_getElem
      · simp
      · intro i h1 h2
        simp only [List.getElem_map, List.getElem_range]
        simp at h1
        simp only [List.getD_eq_getElem?_getD]
        rw [List.getElem?_eq_getElem h2]
        rfl
    · intro k hk
      have hk' := List.mem_range.mp hk
      show (x :: r)[(x :: r).length - 1 - k]? = _
      have h2 : k < (x :: r).reverse.length := by simpa using hk'
      simp only [List.getD_eq_getElem?_getD]
      rw [List.getElem?_eq_getElem h2, List.getElem_reverse, List.getElem?_eq_getElem (by omega)]
      rfl
theorem rev_range (n : Nat) : sliceRange (sliceBounds none none (some (-1)) n).1 (sliceBounds none none (some (-1)) n).2.1 (sliceBounds none none (some (-1)) n).2.2 = (List.range n).map fun k => n - 1 - k := by
  show sliceRange ((n : Int) - 1) (-1) (-1) = _
  unfold sliceRange
  have c : (if (-1 : Int) > 0 then (if (n : Int) - 1 < -1 then (-1 - ((n : Int) - 1) + -1 - 1) / -1 else 0) else (if (n : Int) - 1 > -1 then ((n : Int) - 1 - -1 - -1 - 1) / (- -1) else 0)) = (n : Int) := by
    rw [if_neg (by decide)]
    split
    · rw [show (- -1 : Int) = 1 from rfl, Int.ediv_one]; omega
    · omega
  simp only [c, Int.toNat_natCast]
  refine List.map_congr_left fun k hk => ?_
  have := List.mem_range.mp hk
  omega
theorem pick_rev (xs : List V) : pickV xs none none (some (-1)) = xs.reverse := by
  rw [pick_of (rev_range xs.length)]
  exact range_rev xs
def lenAt (H : Hp) (l : Addr) : Nat := match H l with
  | some (.lst xs) => xs.length
  | _ => 0
theorem lenAt_of {H : Hp} {l : Addr} {xs : List V} (h : H l = some (.lst xs)) : lenAt H l = xs.length := by unfold lenAt; rw [h]
section
variable {K : PySem.W.Frag} {Q : VK} {H0 : Hp}
/-- [inner for names, inner in pairs] -/
theorem comp_inner {a : Addr} {ps : List (List Str × Tm)} {vs : List V} (hS : H0 a = some (.lst vs)) (hr : Rps K H0 (ps.map pairT) vs) (hlen : ps.length ≤ 1000)
    (k : ∀ (p : Addr) (ws : List V), H0 p = none → Rps K H0 (ps.map fun p => enc p.2) ws → Q (.ref p) (upd H0 p (.lst ws))) :
    CompW (Itl K a) (gTup K 2 (gCons (gName 0) (gCons (gName 1) gNil))) tNoIf (tVar 1) Q [none, none] H0 := by
  have l := hr.length
  rw [List.length_map] at l
  refine comp_list (xs := vs) (fun i σ us H2 => (∃ x y, σ = [x, y]) ∧ H2 = H0 ∧ Rps K H0 ((ps.take i).map fun p => enc p.2) us) ⟨⟨none, none, rfl⟩, rfl, .nil⟩ ?_ (small (by omega)) ?_ ?_ ?_
  · rintro i σ us H2 hi ⟨_, _, r⟩
    rw [r.length, List.length_map, List.length_take]; omega
  · rintro i σ us H2 hi ⟨_, rfl, _⟩
    exact SqL.of hS
  · rintro i x σ us H2 hx ⟨⟨x0, y0, rfl⟩, rfl, r⟩
    obtain ⟨y, hy, ry⟩ := hr.get' hx
    rw [List.getElem?_map] at hy
    obtain ⟨pr, hp, rfl⟩ := Option.map_eq_some_iff.mp hy
    have hil : i < ps.length := (List.getElem?_eq_some_iff.mp hp).1
    have ep : ps[i] = pr := (List.getElem?_eq_some_iff.mp hp).2
    obtain ⟨ra, rvs, rfl, sq, rr⟩ := (show Rp K _ (.t [_, _]) x from ry).inv_t
    obtain ⟨t1, q1, rfl, h1, rr⟩ := rr.inv
    obtain ⟨t2, q2, rfl, h2, rr⟩ := rr.inv
    obtain rfl := rr.inv0
    refine ⟨ra, _, rfl, sq, rfl, _, _, rfl, _, _, rfl, rfl, ?_⟩
    refine ⟨_, rfl, ⟨_, _, rfl⟩, rfl, ?_⟩
    rw [List.take_succ_eq_append_getElem hil, List.map_append, ep]
    exact r.snoc h2
  · rintro σ us H2 ⟨_, rfl, r⟩ p hp
    rw [l, List.take_length] at r
    exact k p us hp r
/-- [(depth + 1, inner) for names, inner in pairs] -/
theorem comp_deeper {a : Addr} {d : Int} {ps : List (List Str × Tm)} {vs : List V} (hS : H0 a = some (.lst vs)) (hr : Rps K H0 (ps.map pairT) vs) (hlen : ps.length ≤ 1000)
    (k : ∀ (p : Addr) (H' : Hp) (ws : List V), Same H0 H' → H' p = some (.lst ws) → Rps K H' (ps.map fun p => T.t [.i (d + 1), enc p.2]) ws → Q (.ref p) H') :
    CompW (Itl K a) (gTup K 2 (gCons (gName 0) (gCons (gName 1) gNil))) tNoIf (tTup (tCons (tOp (rI0 fun i j => .int (i + j)) (tVar 2) (tC (.int 1))) (tCons (tVar 1) tNil))) Q [none, none, some (.int d)] H0 := by
  have l := hr.length
  rw [List.length_map] at l
  refine comp_list (xs := vs) (fun i σ us H2 => (∃ x y, σ = [x, y, some (.int d)]) ∧ Same H0 H2 ∧ Rps K H2 ((ps.take i).map fun p => T.t [.i (d + 1), enc p.2]) us) ⟨⟨none, none, rfl⟩, Same.refl _, .nil⟩ ?_ (small (by omega)) ?_ ?_ ?_
  · rintro i σ us H2 hi ⟨_, _, r⟩
    rw [r.length, List.length_map, List.length_take]; omega
  · rintro i σ us H2 hi ⟨_, e, _⟩
    exact SqL.of (e _ _ hS)
  · rintro i x σ us H2 hx ⟨⟨x0, y0, rfl⟩, e, r⟩
    obtain ⟨y, hy, ry⟩ := hr.get' hx
    rw [List.getElem?_map] at hy
    obtain ⟨pr, hp, rfl⟩ := Option.map_eq_some_iff.mp hy
    have hil : i < ps.length := (List.getElem?_eq_some_iff.mp hp).1
    have ep : ps[i] = pr := (List.getElem?_eq_some_iff.mp hp).2
    obtain ⟨ra, rvs, rfl, sq, rr⟩ := (show Rp K _ (.t [_, _]) x from ry).inv_t
    obtain ⟨t1, q1, rfl, h1, rr⟩ := rr.inv
    obtain ⟨t2, q2, rfl, h2, rr⟩ := rr.inv
    obtain rfl := rr.inv0
    refine ⟨ra, _, rfl, sq.same e, rfl, _, _, rfl, _, _, rfl, rfl, ?_⟩
    refine ⟨_, rfl, _, _, rfl, rfl, _, rfl, (by show 2 ≤ sizeLine; decide), fun t ht => ?_⟩
    refine ⟨⟨_, _, rfl⟩, e.trans (same_new ht _), ?_⟩
    rw [List.take_succ_eq_append_getElem hil, List.map_append, ep]
    exact (r.same (same_new ht _)).snoc (Rp.new ht (.cons .i (.one (h2.same e))))
  · rintro σ us H2 ⟨_, e, r⟩ p hp
    rw [l, List.take_length] at r
    exact k p _ us (e.trans (same_new hp _)) upd_same (r.same (same_new hp _))
end
end L2

namespace G02
open PySem L2
def top (i : Nat) : Stmt := PySem.Challenge.pw_gapwork_k02_parts_of_any_term.main.body.getD i (.Pass ⟨0, 0, 0, 0⟩)
abbrev s_right_in : Stmt := top 3
abbrev s_inner_terms : Stmt := top 4
abbrev s_parts : Stmt := top 5
abbrev s_deep : Stmt := top 6
abbrev s_gaps_in : Stmt := top 7
abbrev s_L_feed : Stmt := top 9
abbrev s_L_take : Stmt := top 10
abbrev s_L_names : Stmt := top 11
abbrev s_L_number : Stmt := top 12
abbrev s_L_leaf_of : Stmt := top 13
abbrev s_L_many_of : Stmt := top 14
abbrev s_L_some_words : Stmt := top 15
abbrev s_L_any : Stmt := top 16
abbrev s_L_within : Stmt := top 17
abbrev s_L_walked : Stmt := top 18
abbrev s_L_right : Stmt := top 19
abbrev s_law : Stmt := top 20
section
variable {P : Program} {w : World} {K : PySem.W.Frag} {mg : Str → Option Value} {base : Heap}
theorem scTake : FnScope ["_law_feed_here", "_law_many", "_law_digit", "_law_one"] ["_law_feed_here", "_law_many"] (defScope s_L_take) := ⟨rfl, rfl, rfl, by decide +kernel, rfl, by decide +kernel, by decide +kernel⟩
theorem ok_take {f : Addr} {fd : FuncData} (F : Fun K "_law_take" "_law_take" s_L_take f fd) : FnOk P w K mg base CX0 1 f fd ["_law_feed_here", "_law_many"] spTake := by
  refine F.ok scTake (fun vs H Q E h => ?_) (fun cdv A outer s H vs Q E hr h => ?_)
  · obtain ⟨a, m, rfl, _⟩ := h
    rfl
  obtain ⟨a, m, rfl, m0, m1, ⟨p, q, hf⟩, k⟩ := h
  refine ⟨_, pss_cons (ps_if (pt_cmpR op_gt (pe_ix ix_list (pv 0) pe_int (fun _ _ => rfl)) pe_int (nomark _))
      (pss_cons (ps_set (i := 2) scTake.nd rfl (Or.inl rfl) (pe_op op_mod (pe_ix ix_list (pv 0) pe_int (fun _ _ => rfl)) (pv 1)))
      (pss_cons (ps_asg (pe_op op_fdiv (pe_ix ix_list (pv 0) pe_int (fun _ _ => rfl)) (pv 1)) (pg_sub (pv 0) pe_int set_list))
      (pss_one (ps_ret (pv 2))))) pss_nil)
    (pss_cons (ps_set (i := 3) scTake.nd rfl (Or.inl rfl) (pe_op op_mod (pe_op op_mul (pe_ix ix_list (pv 0) pe_int (fun _ _ => rfl)) pe_int) pe_int))
    (pss_cons (ps_asg (pe_op op_add (pe_op op_mod (pe_op op_add (pe_op op_mul (pv 3) pe_int) pe_int) pe_int) pe_int) (pg_sub (pv 0) pe_int set_list))
    (pss_one (ps_ret (pe_op op_mod (pe_op op_fdiv (pe_op op_add (pe_op op_mul (pv 3) pe_int) (pe_ix ix_list (pv 0) pe_int (fun _ _ => rfl))) pe_int) (pv 1)))))), ?_⟩
  have ext : ∀ p' q' : Int, Ext a H (upd H a (.lst [.int p', .int q'])) := fun p' q' => ⟨fun b o n e => by rw [upd_ne n]; exact e, p', q', upd_same⟩
  refine ⟨_, rfl, a, _, 0, _, rfl, rfl, SqL.of hf, rfl, _, _, rfl, rfl, _, rfl, ?_⟩
  refine ite2 (fun _ => ?_) (fun _ => ?_)
  · refine ⟨_, rfl, a, _, 0, _, rfl, rfl, SqL.of hf, rfl, _, rfl, _, _, rfl, rfl, m0, ?_⟩
    refine ⟨_, rfl, a, _, 0, _, rfl, rfl, SqL.of hf, rfl, _, rfl, _, _, rfl, rfl, ⟨m0, m1⟩, ?_⟩
    refine ⟨_, rfl, a, _, 0, 0, rfl, rfl, hf, rfl, ?_⟩
    refine ⟨_, rfl, ?_⟩
    exact k _ _ (Int.emod_nonneg _ (by omega)) (Int.emod_lt_of_pos _ m0) (ext _ _)
  · refine ⟨_, rfl, a, _, 1, _, rfl, rfl, SqL.of hf, rfl, _, _, rfl, rfl, .inr ⟨by decide, by decide⟩, _, _, rfl, rfl, (by show (0 : Int) < 2147483647; decide), ?_⟩
    refine ⟨_, rfl, _, _, rfl, rfl, .inr ⟨by decide, by decide⟩, _, _, rfl, rfl, _, _, rfl, rfl, (by show (0 : Int) < 2147483399; decide), _, _, rfl, rfl, ?_⟩
    refine ⟨_, rfl, a, _, 1, 1, rfl, rfl, hf, rfl, ?_⟩
    refine ⟨_, rfl, _, _, rfl, rfl, .inr ⟨by decide, by decide⟩, _, rfl, a, _, 1, _, rfl, rfl, SqL.of upd_same, rfl, _, _, rfl, rfl, _, _, rfl, rfl, ⟨by decide, by decide⟩, _, rfl, _, _, rfl, rfl, m0, ?_⟩
    exact k _ _ (Int.emod_nonneg _ (by omega)) (Int.emod_lt_of_pos _ m0) (ext _ _)
end
section
variable {P : Program} {w : World} {K : PySem.W.Frag} {mg : Str → Option Value} {base : Heap}
theorem scFeed : FnScope ["_law_script", "_law_k", "_law_cell", "_law_own"] ["_law_script", "_law_k"] (defScope s_L_feed) := ⟨rfl, rfl, rfl, by decide +kernel, rfl, by decide +kernel, by decide +kernel⟩
theorem ok_feed {f : Addr} {fd : FuncData} (F : Fun K "_law_feed" "_law_feed" s_L_feed f fd) (ml : mg "len" = none) : FnOk P w K mg base CX0 1 f fd ["_law_script", "_law_k"] (spFeed K) := by
  refine F.ok scFeed (fun vs H Q E h => ?_) (fun cdv A outer s H vs Q E hr h => ?_)
  · obtain ⟨a, ns, m, rfl, _⟩ := h
    rfl
  obtain ⟨a, ns, k, rfl, hS, hn, k0, k1, kk⟩ := h
  refine ⟨_, pss_cons (ps_set (i := 2) scFeed.nd rfl (Or.inl rfl) (pe_op op_add (pe_op op_mul pe_int (pv 1)) pe_int))
    (pss_cons (ps_if (pt_cmpR op_lt (pv 1) (pe_callB call_len_seq (by rfl) ml PySem.boot_len (pa_cons (pv 0) pa_nil)) (nomark _))
      (pss_one (ps_set (i := 2) scFeed.nd rfl (Or.inl rfl) (pe_ix ix_list (pv 0) (pv 1) (fun _ _ => rfl))))
      (pss_one (ps_if (pt_cmpR op_gt (pe_callB call_len_seq (by rfl) ml PySem.boot_len (pa_cons (pv 0) pa_nil)) pe_int (nomark _))
        (pss_one (ps_set (i := 2) scFeed.nd rfl (Or.inl rfl) (pe_op op_add (pe_op op_mul (pe_op op_mod (pe_ix ix_list (pv 0) (pe_op op_mod (pv 1) (pe_callB call_len_seq (by rfl) ml PySem.boot_len (pa_cons (pv 0) pa_nil))) (fun _ _ => rfl)) pe_int) pe_int) (pe_op op_mul pe_int (pv 1)))))
        pss_nil)))
    (pss_cons (ps_set (i := 3) scFeed.nd rfl (Or.inl rfl) pe_int)
    (pss_cons (ps_if (pt_cmpR op_ge (pv 2) (pe_op op_pow pe_int pe_int) (nomark _)) (pss_one (ps_set (i := 3) scFeed.nd rfl (Or.inl rfl) (pv 2))) pss_nil)
    (pss_one (ps_ret (pe_lst (pa_cons (pv 3) (pa_cons (pe_op op_add (pe_op op_mod (pe_op op_add (pe_op op_mul (pe_op op_mod (pv 2) pe_int) pe_int) (pe_op op_mul pe_int (pv 1))) pe_int) pe_int) pa_nil)))))))), ?_⟩
  have hl : (ns.map V.int).length = ns.length := List.length_map _
  refine ⟨_, rfl, _, _, rfl, rfl, .inl ⟨by decide, by decide⟩, _, _, rfl, rfl, ?_⟩
  refine ⟨_, rfl, _, rfl, a, _, rfl, .inl hS, _, _, rfl, rfl, _, rfl, ?_⟩
  refine ite2 (fun c => ?_) (fun c => ?_)
  · have c' : k < ((ns.map V.int).length : Int) := of_decide_eq_true c
    rw [hl] at c'
    obtain ⟨v, hv⟩ := atI_int (ns := ns) k0 c'
    refine ⟨_, rfl, _, rfl, a, _, _, _, rfl, rfl, hS, hv, ?_⟩
    refine ⟨_, rfl, _, _, rfl, rfl, ⟨by decide, by decide, by decide⟩, _, _, rfl, rfl, _, rfl, ite2 (fun _ => ?_) (fun _ => ?_)⟩
    · refine ⟨_, rfl, _, rfl, _, rfl, _, _, rfl, rfl, (by show (0 : Int) < 2147483629; decide), _, _, rfl, rfl, .inr ⟨by decide, by decide⟩, _, rfl, _, _, rfl, rfl, .inl ⟨by decide, by decide⟩, _, _, rfl, rfl, _, _, rfl, rfl, (by show (0 : Int) < 2147483629; decide), _, _, rfl, rfl, (by show 2 ≤ sizeLine; decide), fun l hl => ?_⟩
      exact kk l _ (same_new hl _) hl ⟨_, _, upd_same⟩
    · refine ⟨_, rfl, _, rfl, _, _, rfl, rfl, (by show (0 : Int) < 2147483629; decide), _, _, rfl, rfl, .inr ⟨by decide, by decide⟩, _, rfl, _, _, rfl, rfl, .inl ⟨by decide, by decide⟩, _, _, rfl, rfl, _, _, rfl, rfl, (by show (0 : Int) < 2147483629; decide), _, _, rfl, rfl, (by show 2 ≤ sizeLine; decide), fun l hl => ?_⟩
      exact kk l _ (same_new hl _) hl ⟨_, _, upd_same⟩
  · refine ⟨_, rfl, a, _, rfl, .inl hS, _, _, rfl, rfl, _, rfl, ?_⟩
    refine ite2 (fun d => ?_) (fun d => ?_)
    · have d' : (0 : Int) < ((ns.map V.int).length : Int) := of_decide_eq_true d
      have d2 : (0 : Int) < (ns.length : Int) := by rw [hl] at d'; exact d'
      obtain ⟨v, hv⟩ := atI_int (ns := ns) (k := k % (((ns.map V.int).length : Nat) : Int)) (Int.emod_nonneg _ (by omega)) (by rw [hl]; exact Int.emod_lt_of_pos _ d2)
      refine ⟨_, rfl, _, rfl, _, rfl, a, _, rfl, .inl hS, _, _, rfl, rfl, d', a, _, _, _, rfl, rfl, hS, hv, _, _, rfl, rfl, (by show (0 : Int) < 2147483629; decide), _, _, rfl, rfl, .inr ⟨by decide, by decide⟩, _, rfl, _, _, rfl, rfl, .inl ⟨by decide, by decide⟩, _, _, rfl, rfl, ?_⟩
      refine ⟨_, rfl, _, _, rfl, rfl, ⟨by decide, by decide, by decide⟩, _, _, rfl, rfl, _, rfl, ite2 (fun _ => ?_) (fun _ => ?_)⟩
      · refine ⟨_, rfl, _, rfl, _, rfl, _, _, rfl, rfl, (by show (0 : Int) < 2147483629; decide), _, _, rfl, rfl, .inr ⟨by decide, by decide⟩, _, rfl, _, _, rfl, rfl, .inl ⟨by decide, by decide⟩, _, _, rfl, rfl, _, _, rfl, rfl, (by show (0 : Int) < 2147483629; decide), _, _, rfl, rfl, (by show 2 ≤ sizeLine; decide), fun l hl => ?_⟩
        exact kk l _ (same_new hl _) hl ⟨_, _, upd_same⟩
      · refine ⟨_, rfl, _, rfl, _, _, rfl, rfl, (by show (0 : Int) < 2147483629; decide), _, _, rfl, rfl, .inr ⟨by decide, by decide⟩, _, rfl, _, _, rfl, rfl, .inl ⟨by decide, by decide⟩, _, _, rfl, rfl, _, _, rfl, rfl, (by show (0 : Int) < 2147483629; decide), _, _, rfl, rfl, (by show 2 ≤ sizeLine; decide), fun l hl => ?_⟩
        exact kk l _ (same_new hl _) hl ⟨_, _, upd_same⟩
    · refine ⟨_, rfl, _, _, rfl, rfl, ⟨by decide, by decide, by decide⟩, _, _, rfl, rfl, _, rfl, ite2 (fun _ => ?_) (fun _ => ?_)⟩
      · refine ⟨_, rfl, _, rfl, _, rfl, _, _, rfl, rfl, (by show (0 : Int) < 2147483629; decide), _, _, rfl, rfl, .inr ⟨by decide, by decide⟩, _, rfl, _, _, rfl, rfl, .inl ⟨by decide, by decide⟩, _, _, rfl, rfl, _, _, rfl, rfl, (by show (0 : Int) < 2147483629; decide), _, _, rfl, rfl, (by show 2 ≤ sizeLine; decide), fun l hl => ?_⟩
        exact kk l _ (same_new hl _) hl ⟨_, _, upd_same⟩
      · refine ⟨_, rfl, _, rfl, _, _, rfl, rfl, (by show (0 : Int) < 2147483629; decide), _, _, rfl, rfl, .inr ⟨by decide, by decide⟩, _, rfl, _, _, rfl, rfl, .inl ⟨by decide, by decide⟩, _, _, rfl, rfl, _, _, rfl, rfl, (by show (0 : Int) < 2147483629; decide), _, _, rfl, rfl, (by show 2 ≤ sizeLine; decide), fun l hl => ?_⟩
        exact kk l _ (same_new hl _) hl ⟨_, _, upd_same⟩
end
end G02

namespace G02
open PySem L2
def placesOf : List (Str × List Nat) := [("num", []), ("name", []), ("gap", []), ("op", [2, 3]), ("more", [1, 2]), ("first", [1]), ("others", [1]), ("long", [1]), ("if", [1, 2, 3])]
def manyOf : List (Str × V) := [("row", .int 1), ("tag", .int 2), ("call", .int 2)]
/-- the two tables of the module -/
structure Tabs (K : PySem.W.Frag) (w : World) (mg : Str → Option Value) (dP dM : Addr) (pl : List (Str × V)) : Prop where
  mP : mg "PLACES" = some (.ref dP)
  mM : mg "PLACE_OF_MANY" = some (.ref dM)
  kP : KD K w dP pl
  kM : KD K w dM manyOf
  at_ : ∀ f ps, (f, ps) ∈ placesOf → ∃ a, pl.lookup f = some (.ref a) ∧ ∀ H, SqT K H a (ps.map fun (j : Nat) => V.int (j : Int))
def spRightIn (K : PySem.W.Frag) : Sp := fun vs H Q _ => ∃ (v : V) (tm : Tm), vs = [v] ∧ Rp K H (enc tm) v ∧ Wf tm ∧ tm.ks.length ≤ 900 ∧
  ∀ (p : Addr) (H' : Hp) (ws : List V), Same H H' → H' p = some (.lst ws) → Rps K H' ((right tm).map pairT) ws → Q (.ref p) H'
theorem zip_plain : ∀ ks : List Tm, ((List.replicate ks.length ([] : List Str)).zip ks).map pairT = (ks.map enc).map fun k => .t [.t [], k]
  | [] => rfl
  | k :: r => by rw [List.length_cons, List.replicate_succ, List.zip_cons_cons, List.map_cons, List.map_cons, List.map_cons, zip_plain r]; rfl
theorem right_plain {h : Hd} {ks : List Tm} (e : bnd h ks.length = List.replicate ks.length []) : (right (.mk h ks)).map pairT = (ks.map enc).map fun k => .t [.t [], k] := by
  unfold right
  show ((bnd h ks.length).zip ks).map pairT = _
  rw [e]
  exact zip_plain ks
theorem zip_arms : ∀ (arms : List (Str × List Str)) (kr : List Tm), arms.length = kr.length → ((arms.map (·.2)).zip kr).map pairT = List.zipWith (fun (a : Str × List Str) k => T.t [.t (a.2.map .s), k]) arms (kr.map enc)
  | [], kr, h => rfl
  | x :: r, [], h => rfl
  | x :: r, y :: q, h => by rw [List.map_cons, List.zip_cons_cons, List.map_cons, List.map_cons, List.zipWith_cons_cons, zip_arms r q (by simpa using h)]; rfl
theorem at0 {α : Type} (v : α) (q : List α) : atI (v :: q) 0 = some v := atI_nat (j := 0) rfl
section
variable {P : Program} {w : World} {K : PySem.W.Frag} {mg : Str → Option Value} {base : Heap} {dP dM : Addr} {pl : List (Str × V)}
theorem scRightIn : FnScope ["term", "form"] ["term"] (defScope s_right_in) := ⟨rfl, rfl, rfl, by decide +kernel, rfl, by decide +kernel, by decide +kernel⟩
theorem ok_right_in {f : Addr} {fd : FuncData} (F : Fun K "right_in" "right_in" s_right_in f fd) (TB : Tabs K w mg dP dM pl) : FnOk P w K mg base CX0 1 f fd ["term"] (spRightIn K) := by
  refine F.ok scRightIn (fun vs H Q E h => ?_) (fun cdv A outer s H vs Q E hr h => ?_)
  · obtain ⟨v, tm, rfl, _⟩ := h
    rfl
  obtain ⟨v, tm, rfl, hv, wf, hlen, k⟩ := h
  refine ⟨_, (pss_cons (ps_set (i := 1) scRightIn.nd rfl (Or.inl rfl) (pe_ix ix_tup (pv 0) pe_int (fun _ _ => rfl)))
    (pss_cons (ps_if (pt_cmpR op_eq (pv 1) pe_str (nomark _)) (pss_one (ps_ret (pe_op op_cat (pe_lst (pa_cons (pe_tup (pa_cons (pe_tup pa_nil) (pa_cons (pe_ix ix_tup (pv 0) pe_int (fun _ _ => rfl)) pa_nil))) pa_nil)) (pe_compC (defScope s_right_in) ["term", "form"] ["tag", "names", "inner"] [] rfl rfl rfl (by decide +kernel) (pi_tup (pe_ix ix_tup (pv 0) pe_int (fun _ _ => rfl))) (fun _ _ _ _ => (pg_tupK (n := 3) K rfl rfl (pgs_cons (pg_name (i := 0) (show (["tag", "names", "inner"] : List Str).Nodup by decide +kernel) rfl (Or.inl rfl)) (pgs_cons (pg_name (i := 1) (show (["tag", "names", "inner"] : List Str).Nodup by decide +kernel) rfl (Or.inl rfl)) (pgs_cons (pg_name (i := 2) (show (["tag", "names", "inner"] : List Str).Nodup by decide +kernel) rfl (Or.inl rfl)) pgs_nil))))) (fun _ _ _ _ => pifs_nil) (fun _ _ _ _ => (pe_tup (pa_cons (pv 1) (pa_cons (pv 2) pa_nil)))))))) pss_nil)
    (pss_cons (ps_if (pt_cmpR op_eq (pv 1) pe_str (nomark _)) (pss_one (ps_ret (pe_lst (pa_cons (pe_tup (pa_cons (pe_tup pa_nil) (pa_cons (pe_ix ix_tup (pv 0) pe_int (fun _ _ => rfl)) pa_nil))) (pa_cons (pe_tup (pa_cons (pe_tup (pa_cons (pe_ix ix_tup (pv 0) pe_int (fun _ _ => rfl)) pa_nil)) (pa_cons (pe_ix ix_tup (pv 0) pe_int (fun _ _ => rfl)) pa_nil))) pa_nil))))) pss_nil)
    (pss_cons (ps_if (pt_cmpR op_eq (pv 1) pe_str (nomark _)) (pss_one (ps_ret (pe_lst (pa_cons (pe_tup (pa_cons (pe_tup pa_nil) (pa_cons (pe_ix ix_tup (pv 0) pe_int (fun _ _ => rfl)) pa_nil))) (pa_cons (pe_tup (pa_cons (pe_tup pa_nil) (pa_cons (pe_ix ix_tup (pv 0) pe_int (fun _ _ => rfl)) pa_nil))) (pa_cons (pe_tup (pa_cons (pe_tup (pa_cons (pe_ix ix_tup (pv 0) pe_int (fun _ _ => rfl)) (pa_cons (pe_ix ix_tup (pv 0) pe_int (fun _ _ => rfl)) pa_nil))) (pa_cons (pe_ix ix_tup (pv 0) pe_int (fun _ _ => rfl)) pa_nil))) pa_nil)))))) pss_nil)
    (pss_cons (ps_if (pt_cmpR op_inKD (pv 1) (pe_glob (v := .ref dM) (by rfl) TB.mM rfl) (by with_unfolding_all rfl)) (pss_one (ps_ret (pe_compC (defScope s_right_in) ["term", "form"] ["inner"] [] rfl rfl rfl (by decide +kernel) (pi_tup (pe_ix ix_tup (pv 0) (pe_kget (pe_glob (v := .ref dM) (by rfl) TB.mM rfl) (pv 1) (fun _ _ => rfl)) (fun _ _ => rfl))) (fun _ _ _ _ => (pg_name (i := 0) (show (["inner"] : List Str).Nodup by decide +kernel) rfl (Or.inl rfl))) (fun _ _ _ _ => pifs_nil) (fun _ _ _ _ => (pe_tup (pa_cons (pe_tup pa_nil) (pa_cons (pv 0) pa_nil))))))) pss_nil)
    (pss_one (ps_ret (pe_compC (defScope s_right_in) ["term", "form"] ["place"] [0] rfl rfl rfl (by decide +kernel) (pi_tup (pe_kget (pe_glob (v := .ref dP) (by rfl) TB.mP rfl) (pv 1) (fun _ _ => rfl))) (fun _ _ _ _ => (pg_name (i := 0) (show (["place", "term"] : List Str).Nodup by decide +kernel) rfl (Or.inl rfl))) (fun _ _ _ _ => pifs_nil) (fun _ _ _ _ => (pe_tup (pa_cons (pe_tup pa_nil) (pa_cons (pe_ix (ix_tupK K rfl) (pv 1) (pv 0) (fun _ _ => rfl)) pa_nil)))))))))))), ?_⟩
  cases wf with
  | mk ar wk =>
  rename_i hd ks
  rw [enc_mk] at hv
  have hlen' : ks.length ≤ 900 := hlen
  have nE : (ks.map enc).length = ks.length := List.length_map _
  cases hd
  case num n =>
    have hk : ks.length = 0 := by simpa [arOk] using ar
    unfold encH at hv
    obtain ⟨a, vs, rfl, hS, hr0⟩ := hv.inv_t
    obtain ⟨v0, q0, rfl, e0, hr1⟩ := hr0.inv
    obtain rfl := e0.inv_s
    refine ⟨_, rfl, a, _, 0, _, rfl, rfl, hS, at0 _ _, ?_⟩
    refine ⟨_, rfl, rfl, _, rfl, ifF (by decide +kernel) ?_⟩
    refine ⟨_, rfl, rfl, _, rfl, ifF (by decide +kernel) ?_⟩
    refine ⟨_, rfl, rfl, _, rfl, ifF (by decide +kernel) ?_⟩
    refine ⟨_, rfl, _, dM, _, rfl, rfl, TB.kM, _, rfl, ifF (by decide +kernel) ?_⟩
    obtain ⟨pa, lk, hpa⟩ := TB.at_ "num" [] (by decide +kernel)
    refine ⟨_, rfl, dP, _, _, _, rfl, rfl, TB.kP, lk, pa, rfl, ⟨_, hpa H⟩, ?_⟩
    refine comp_places (ps := []) (ks := ks.map enc) hS hr0 (hpa H) (by decide) ?_ fun p H' ws s1 h1 r1 => k p H' ws s1 h1 ?_
    · match ks, hk with | [], _ => rfl
    · rw [right_plain rfl]; exact r1
  case name x =>
    have hk : ks.length = 0 := by simpa [arOk] using ar
    unfold encH at hv
    obtain ⟨a, vs, rfl, hS, hr0⟩ := hv.inv_t
    obtain ⟨v0, q0, rfl, e0, hr1⟩ := hr0.inv
    obtain rfl := e0.inv_s
    refine ⟨_, rfl, a, _, 0, _, rfl, rfl, hS, at0 _ _, ?_⟩
    refine ⟨_, rfl, rfl, _, rfl, ifF (by decide +kernel) ?_⟩
    refine ⟨_, rfl, rfl, _, rfl, ifF (by decide +kernel) ?_⟩
    refine ⟨_, rfl, rfl, _, rfl, ifF (by decide +kernel) ?_⟩
    refine ⟨_, rfl, _, dM, _, rfl, rfl, TB.kM, _, rfl, ifF (by decide +kernel) ?_⟩
    obtain ⟨pa, lk, hpa⟩ := TB.at_ "name" [] (by decide +kernel)
    refine ⟨_, rfl, dP, _, _, _, rfl, rfl, TB.kP, lk, pa, rfl, ⟨_, hpa H⟩, ?_⟩
    refine comp_places (ps := []) (ks := ks.map enc) hS hr0 (hpa H) (by decide) ?_ fun p H' ws s1 h1 r1 => k p H' ws s1 h1 ?_
    · match ks, hk with | [], _ => rfl
    · rw [right_plain rfl]; exact r1
  case gap n =>
    have hk : ks.length = 0 := by simpa [arOk] using ar
    unfold encH at hv
    obtain ⟨a, vs, rfl, hS, hr0⟩ := hv.inv_t
    obtain ⟨v0, q0, rfl, e0, hr1⟩ := hr0.inv
    obtain rfl := e0.inv_s
    refine ⟨_, rfl, a, _, 0, _, rfl, rfl, hS, at0 _ _, ?_⟩
    refine ⟨_, rfl, rfl, _, rfl, ifF (by decide +kernel) ?_⟩
    refine ⟨_, rfl, rfl, _, rfl, ifF (by decide +kernel) ?_⟩
    refine ⟨_, rfl, rfl, _, rfl, ifF (by decide +kernel) ?_⟩
    refine ⟨_, rfl, _, dM, _, rfl, rfl, TB.kM, _, rfl, ifF (by decide +kernel) ?_⟩
    obtain ⟨pa, lk, hpa⟩ := TB.at_ "gap" [] (by decide +kernel)
    refine ⟨_, rfl, dP, _, _, _, rfl, rfl, TB.kP, lk, pa, rfl, ⟨_, hpa H⟩, ?_⟩
    refine comp_places (ps := []) (ks := ks.map enc) hS hr0 (hpa H) (by decide) ?_ fun p H' ws s1 h1 r1 => k p H' ws s1 h1 ?_
    · match ks, hk with | [], _ => rfl
    · rw [right_plain rfl]; exact r1
  case op s =>
    have hk : ks.length = 2 := by simpa [arOk] using ar
    unfold encH at hv
    obtain ⟨a, vs, rfl, hS, hr0⟩ := hv.inv_t
    obtain ⟨v0, q0, rfl, e0, hr1⟩ := hr0.inv
    obtain rfl := e0.inv_s
    refine ⟨_, rfl, a, _, 0, _, rfl, rfl, hS, at0 _ _, ?_⟩
    refine ⟨_, rfl, rfl, _, rfl, ifF (by decide +kernel) ?_⟩
    refine ⟨_, rfl, rfl, _, rfl, ifF (by decide +kernel) ?_⟩
    refine ⟨_, rfl, rfl, _, rfl, ifF (by decide +kernel) ?_⟩
    refine ⟨_, rfl, _, dM, _, rfl, rfl, TB.kM, _, rfl, ifF (by decide +kernel) ?_⟩
    obtain ⟨pa, lk, hpa⟩ := TB.at_ "op" [2, 3] (by decide +kernel)
    refine ⟨_, rfl, dP, _, _, _, rfl, rfl, TB.kP, lk, pa, rfl, ⟨_, hpa H⟩, ?_⟩
    refine comp_places (ps := [2, 3]) (ks := ks.map enc) hS hr0 (hpa H) (by decide) ?_ fun p H' ws s1 h1 r1 => k p H' ws s1 h1 ?_
    · match ks, hk with | [k0, k1], _ => rfl
    · rw [right_plain rfl]; exact r1
  case more =>
    have hk : ks.length = 2 := by simpa [arOk] using ar
    unfold encH at hv
    obtain ⟨a, vs, rfl, hS, hr0⟩ := hv.inv_t
    obtain ⟨v0, q0, rfl, e0, hr1⟩ := hr0.inv
    obtain rfl := e0.inv_s
    refine ⟨_, rfl, a, _, 0, _, rfl, rfl, hS, at0 _ _, ?_⟩
    refine ⟨_, rfl, rfl, _, rfl, ifF (by decide +kernel) ?_⟩
    refine ⟨_, rfl, rfl, _, rfl, ifF (by decide +kernel) ?_⟩
    refine ⟨_, rfl, rfl, _, rfl, ifF (by decide +kernel) ?_⟩
    refine ⟨_, rfl, _, dM, _, rfl, rfl, TB.kM, _, rfl, ifF (by decide +kernel) ?_⟩
    obtain ⟨pa, lk, hpa⟩ := TB.at_ "more" [1, 2] (by decide +kernel)
    refine ⟨_, rfl, dP, _, _, _, rfl, rfl, TB.kP, lk, pa, rfl, ⟨_, hpa H⟩, ?_⟩
    refine comp_places (ps := [1, 2]) (ks := ks.map enc) hS hr0 (hpa H) (by decide) ?_ fun p H' ws s1 h1 r1 => k p H' ws s1 h1 ?_
    · match ks, hk with | [k0, k1], _ => rfl
    · rw [right_plain rfl]; exact r1
  case first =>
    have hk : ks.length = 1 := by simpa [arOk] using ar
    unfold encH at hv
    obtain ⟨a, vs, rfl, hS, hr0⟩ := hv.inv_t
    obtain ⟨v0, q0, rfl, e0, hr1⟩ := hr0.inv
    obtain rfl := e0.inv_s
    refine ⟨_, rfl, a, _, 0, _, rfl, rfl, hS, at0 _ _, ?_⟩
    refine ⟨_, rfl, rfl, _, rfl, ifF (by decide +kernel) ?_⟩
    refine ⟨_, rfl, rfl, _, rfl, ifF (by decide +kernel) ?_⟩
    refine ⟨_, rfl, rfl, _, rfl, ifF (by decide +kernel) ?_⟩
    refine ⟨_, rfl, _, dM, _, rfl, rfl, TB.kM, _, rfl, ifF (by decide +kernel) ?_⟩
    obtain ⟨pa, lk, hpa⟩ := TB.at_ "first" [1] (by decide +kernel)
    refine ⟨_, rfl, dP, _, _, _, rfl, rfl, TB.kP, lk, pa, rfl, ⟨_, hpa H⟩, ?_⟩
    refine comp_places (ps := [1]) (ks := ks.map enc) hS hr0 (hpa H) (by decide) ?_ fun p H' ws s1 h1 r1 => k p H' ws s1 h1 ?_
    · match ks, hk with | [k0], _ => rfl
    · rw [right_plain rfl]; exact r1
  case others =>
    have hk : ks.length = 1 := by simpa [arOk] using ar
    unfold encH at hv
    obtain ⟨a, vs, rfl, hS, hr0⟩ := hv.inv_t
    obtain ⟨v0, q0, rfl, e0, hr1⟩ := hr0.inv
    obtain rfl := e0.inv_s
    refine ⟨_, rfl, a, _, 0, _, rfl, rfl, hS, at0 _ _, ?_⟩
    refine ⟨_, rfl, rfl, _, rfl, ifF (by decide +kernel) ?_⟩
    refine ⟨_, rfl, rfl, _, rfl, ifF (by decide +kernel) ?_⟩
    refine ⟨_, rfl, rfl, _, rfl, ifF (by decide +kernel) ?_⟩
    refine ⟨_, rfl, _, dM, _, rfl, rfl, TB.kM, _, rfl, ifF (by decide +kernel) ?_⟩
    obtain ⟨pa, lk, hpa⟩ := TB.at_ "others" [1] (by decide +kernel)
    refine ⟨_, rfl, dP, _, _, _, rfl, rfl, TB.kP, lk, pa, rfl, ⟨_, hpa H⟩, ?_⟩
    refine comp_places (ps := [1]) (ks := ks.map enc) hS hr0 (hpa H) (by decide) ?_ fun p H' ws s1 h1 r1 => k p H' ws s1 h1 ?_
    · match ks, hk with | [k0], _ => rfl
    · rw [right_plain rfl]; exact r1
  case long =>
    have hk : ks.length = 1 := by simpa [arOk] using ar
    unfold encH at hv
    obtain ⟨a, vs, rfl, hS, hr0⟩ := hv.inv_t
    obtain ⟨v0, q0, rfl, e0, hr1⟩ := hr0.inv
    obtain rfl := e0.inv_s
    refine ⟨_, rfl, a, _, 0, _, rfl, rfl, hS, at0 _ _, ?_⟩
    refine ⟨_, rfl, rfl, _, rfl, ifF (by decide +kernel) ?_⟩
    refine ⟨_, rfl, rfl, _, rfl, ifF (by decide +kernel) ?_⟩
    refine ⟨_, rfl, rfl, _, rfl, ifF (by decide +kernel) ?_⟩
    refine ⟨_, rfl, _, dM, _, rfl, rfl, TB.kM, _, rfl, ifF (by decide +kernel) ?_⟩
    obtain ⟨pa, lk, hpa⟩ := TB.at_ "long" [1] (by decide +kernel)
    refine ⟨_, rfl, dP, _, _, _, rfl, rfl, TB.kP, lk, pa, rfl, ⟨_, hpa H⟩, ?_⟩
    refine comp_places (ps := [1]) (ks := ks.map enc) hS hr0 (hpa H) (by decide) ?_ fun p H' ws s1 h1 r1 => k p H' ws s1 h1 ?_
    · match ks, hk with | [k0], _ => rfl
    · rw [right_plain rfl]; exact r1
  case ife =>
    have hk : ks.length = 3 := by simpa [arOk] using ar
    unfold encH at hv
    obtain ⟨a, vs, rfl, hS, hr0⟩ := hv.inv_t
    obtain ⟨v0, q0, rfl, e0, hr1⟩ := hr0.inv
    obtain rfl := e0.inv_s
    refine ⟨_, rfl, a, _, 0, _, rfl, rfl, hS, at0 _ _, ?_⟩
    refine ⟨_, rfl, rfl, _, rfl, ifF (by decide +kernel) ?_⟩
    refine ⟨_, rfl, rfl, _, rfl, ifF (by decide +kernel) ?_⟩
    refine ⟨_, rfl, rfl, _, rfl, ifF (by decide +kernel) ?_⟩
    refine ⟨_, rfl, _, dM, _, rfl, rfl, TB.kM, _, rfl, ifF (by decide +kernel) ?_⟩
    obtain ⟨pa, lk, hpa⟩ := TB.at_ "if" [1, 2, 3] (by decide +kernel)
    refine ⟨_, rfl, dP, _, _, _, rfl, rfl, TB.kP, lk, pa, rfl, ⟨_, hpa H⟩, ?_⟩
    refine comp_places (ps := [1, 2, 3]) (ks := ks.map enc) hS hr0 (hpa H) (by decide) ?_ fun p H' ws s1 h1 r1 => k p H' ws s1 h1 ?_
    · match ks, hk with | [k0, k1, k2], _ => rfl
    · rw [right_plain rfl]; exact r1
  case row =>
    unfold encH at hv
    obtain ⟨a, vs, rfl, hS, hr0⟩ := hv.inv_t
    obtain ⟨v0, q0, rfl, e0, hr1⟩ := hr0.inv
    obtain rfl := e0.inv_s
    obtain ⟨vk, qk, rfl, ek, hrk⟩ := hr1.inv
    obtain rfl := hrk.inv0
    obtain ⟨b, us, rfl, hSb, hrb⟩ := ek.inv_t
    refine ⟨_, rfl, a, _, 0, _, rfl, rfl, hS, at0 _ _, ?_⟩
    refine ⟨_, rfl, rfl, _, rfl, ifF (by decide +kernel) ?_⟩
    refine ⟨_, rfl, rfl, _, rfl, ifF (by decide +kernel) ?_⟩
    refine ⟨_, rfl, rfl, _, rfl, ifF (by decide +kernel) ?_⟩
    refine ⟨_, rfl, _, dM, _, rfl, rfl, TB.kM, _, rfl, ifT (by decide +kernel) ?_⟩
    refine ⟨_, rfl, _, rfl, dM, _, _, _, rfl, rfl, TB.kM, rfl, a, _, 1, _, rfl, rfl, hS, rfl, b, rfl, ⟨_, hSb⟩, ?_⟩
    refine comp_many (ks := ks.map enc) hSb hrb (by omega) fun p H' ws s1 h1 r1 => k p H' ws s1 h1 ?_
    rw [right_plain rfl]; exact r1
  case tag t =>
    unfold encH at hv
    obtain ⟨a, vs, rfl, hS, hr0⟩ := hv.inv_t
    obtain ⟨v0, q0, rfl, e0, hr1⟩ := hr0.inv
    obtain rfl := e0.inv_s
    obtain ⟨v1, q1, rfl, e1, hr2⟩ := hr1.inv
    obtain ⟨vk, qk, rfl, ek, hrk⟩ := hr2.inv
    obtain rfl := hrk.inv0
    obtain ⟨b, us, rfl, hSb, hrb⟩ := ek.inv_t
    refine ⟨_, rfl, a, _, 0, _, rfl, rfl, hS, at0 _ _, ?_⟩
    refine ⟨_, rfl, rfl, _, rfl, ifF (by decide +kernel) ?_⟩
    refine ⟨_, rfl, rfl, _, rfl, ifF (by decide +kernel) ?_⟩
    refine ⟨_, rfl, rfl, _, rfl, ifF (by decide +kernel) ?_⟩
    refine ⟨_, rfl, _, dM, _, rfl, rfl, TB.kM, _, rfl, ifT (by decide +kernel) ?_⟩
    refine ⟨_, rfl, _, rfl, dM, _, _, _, rfl, rfl, TB.kM, rfl, a, _, 2, _, rfl, rfl, hS, rfl, b, rfl, ⟨_, hSb⟩, ?_⟩
    refine comp_many (ks := ks.map enc) hSb hrb (by omega) fun p H' ws s1 h1 r1 => k p H' ws s1 h1 ?_
    rw [right_plain rfl]; exact r1
  case call f =>
    unfold encH at hv
    obtain ⟨a, vs, rfl, hS, hr0⟩ := hv.inv_t
    obtain ⟨v0, q0, rfl, e0, hr1⟩ := hr0.inv
    obtain rfl := e0.inv_s
    obtain ⟨v1, q1, rfl, e1, hr2⟩ := hr1.inv
    obtain ⟨vk, qk, rfl, ek, hrk⟩ := hr2.inv
    obtain rfl := hrk.inv0
    obtain ⟨b, us, rfl, hSb, hrb⟩ := ek.inv_t
    refine ⟨_, rfl, a, _, 0, _, rfl, rfl, hS, at0 _ _, ?_⟩
    refine ⟨_, rfl, rfl, _, rfl, ifF (by decide +kernel) ?_⟩
    refine ⟨_, rfl, rfl, _, rfl, ifF (by decide +kernel) ?_⟩
    refine ⟨_, rfl, rfl, _, rfl, ifF (by decide +kernel) ?_⟩
    refine ⟨_, rfl, _, dM, _, rfl, rfl, TB.kM, _, rfl, ifT (by decide +kernel) ?_⟩
    refine ⟨_, rfl, _, rfl, dM, _, _, _, rfl, rfl, TB.kM, rfl, a, _, 2, _, rfl, rfl, hS, rfl, b, rfl, ⟨_, hSb⟩, ?_⟩
    refine comp_many (ks := ks.map enc) hSb hrb (by omega) fun p H' ws s1 h1 r1 => k p H' ws s1 h1 ?_
    rw [right_plain rfl]; exact r1
  case mat arms =>
    have hk : ks.length = arms.length + 1 := by simpa [arOk] using ar
    match ks, hk with
    | k0 :: kr, hk =>
    have hkr : arms.length = kr.length := by simpa using hk.symm
    unfold encH at hv
    obtain ⟨a, vs, rfl, hS, hr0⟩ := hv.inv_t
    obtain ⟨v0, q0, rfl, e0, hr1⟩ := hr0.inv
    obtain rfl := e0.inv_s
    obtain ⟨v1, q1, rfl, e1, hr2⟩ := hr1.inv
    obtain ⟨v2, q2, rfl, e2, hr3⟩ := hr2.inv
    obtain rfl := hr3.inv0
    obtain ⟨b, us, rfl, hSb, hrb⟩ := e2.inv_t
    refine ⟨_, rfl, a, _, 0, _, rfl, rfl, hS, at0 _ _, ?_⟩
    refine ⟨_, rfl, rfl, _, rfl, ifT (by decide +kernel) ?_⟩
    refine ⟨Nat.zero_le _, fun p1 hp1 => ?_⟩
    have s1 := same_new hp1 (.tup [])
    refine ⟨_, rfl, a, _, 1, _, rfl, rfl, hS.same s1, rfl, (by show 2 ≤ sizeLine; decide), fun p2 hp2 => ?_⟩
    have s2 := s1.trans (same_new hp2 (.tup [.ref p1, v1]))
    refine ⟨(by show 1 ≤ sizeLine; decide), fun p3 hp3 => ?_⟩
    have s3 := s2.trans (same_new hp3 (.lst [.ref p2]))
    refine ⟨_, rfl, a, _, 2, _, rfl, rfl, hS.same s3, rfl, b, rfl, ⟨_, hSb.same s3⟩, ?_⟩
    refine comp_arms (arms := arms) (ks := kr.map enc) (by rw [List.length_map]; exact hkr) (hSb.same s3) (by exact hrb.same s3) (by rw [List.length_map]; have := hlen'; simp at this; omega) fun p H' ws s4 h4 r4 => ?_
    have z3 : H' p3 = some (.lst [.ref p2]) := s4 _ _ upd_same
    refine ⟨p3, p, _, _, rfl, rfl, z3, h4, ?_, fun p5 hp5 => ?_⟩
    · have l := r4.length
      rw [List.length_zipWith, List.length_map] at l
      rw [l]
      exact small (by have := hlen'; simp at this; show 1 + _ ≤ 1000; omega)
    have s5 := s4.trans (same_new hp5 (.lst ([.ref p2] ++ ws)))
    refine k p5 _ _ (s3.trans s5) upd_same ?_
    have e : (right (.mk (.mat arms) (k0 :: kr))).map pairT = T.t [.t [], enc k0] :: List.zipWith (fun (a : Str × List Str) k => T.t [.t (a.2.map .s), k]) arms (kr.map enc) := by
      unfold right
      show ((([] : List Str) :: arms.map (·.2)).zip (k0 :: kr)).map pairT = _
      rw [List.zip_cons_cons, List.map_cons]
      rw [zip_arms arms kr hkr]
      rfl
    rw [e]
    refine .cons ?_ (r4.same (same_new hp5 _))
    refine Rp.same ((same_new hp3 _).trans s5) (Rp.new hp2 (.cons (Rp.new hp1 .nil) (.one (e1.same s1))))
  case lt x =>
    have hk : ks.length = 2 := by simpa [arOk] using ar
    match ks, hk with
    | [k0, k1], hk =>
    unfold encH at hv
    obtain ⟨a, vs, rfl, hS, hr0⟩ := hv.inv_t
    obtain ⟨v0, q0, rfl, e0, hr1⟩ := hr0.inv
    obtain rfl := e0.inv_s
    obtain ⟨v1, q1, rfl, e1, hr2⟩ := hr1.inv
    obtain ⟨v2, q2, rfl, e2, hr3⟩ := Rps.inv hr2
    obtain ⟨v3, q3, rfl, e3, hr4⟩ := Rps.inv hr3
    obtain rfl := hr4.inv0
    refine ⟨_, rfl, a, _, 0, _, rfl, rfl, hS, at0 _ _, ?_⟩
    refine ⟨_, rfl, rfl, _, rfl, ifF (by decide +kernel) ?_⟩
    refine ⟨_, rfl, rfl, _, rfl, ifT (by decide +kernel) ?_⟩
    refine ⟨Nat.zero_le _, fun p1 hp1 => ?_⟩
    have s1 := same_new hp1 (.tup [])
    refine ⟨_, rfl, a, _, 2, _, rfl, rfl, hS.same s1, rfl, (by show 2 ≤ sizeLine; decide), fun p2 hp2 => ?_⟩
    have s2 := s1.trans (same_new hp2 (.tup [.ref p1, v2]))
    refine ⟨_, rfl, a, _, 1, _, rfl, rfl, hS.same s2, rfl, (by show 1 ≤ sizeLine; decide), fun p3 hp3 => ?_⟩
    have s3 := s2.trans (same_new hp3 (.tup [v1]))
    refine ⟨_, rfl, a, _, 3, _, rfl, rfl, hS.same s3, rfl, (by show 2 ≤ sizeLine; decide), fun p4 hp4 => ?_⟩
    have s4 := s3.trans (same_new hp4 (.tup [.ref p3, v3]))
    refine ⟨(by show 2 ≤ sizeLine; decide), fun p5 hp5 => ?_⟩
    have s5 := s4.trans (same_new hp5 (.lst [.ref p2, .ref p4]))
    refine k p5 _ _ s5 upd_same ?_
    refine .cons (Rp.same ((same_new hp3 _).trans ((same_new hp4 _).trans (same_new hp5 _))) (Rp.new hp2 (.cons (Rp.new hp1 .nil) (.one (e2.same s1))))) (.one ?_)
    exact Rp.same (same_new hp5 _) (Rp.new hp4 (.cons (Rp.new hp3 (.one (e1.same s2))) (.one (e3.same s3))))
  case fold x y =>
    have hk : ks.length = 3 := by simpa [arOk] using ar
    match ks, hk with
    | [k0, k1, k2], hk =>
    unfold encH at hv
    obtain ⟨a, vs, rfl, hS, hr0⟩ := hv.inv_t
    obtain ⟨v0, q0, rfl, e0, hr1⟩ := hr0.inv
    obtain rfl := e0.inv_s
    obtain ⟨v1, q1, rfl, e1, hr2⟩ := hr1.inv
    obtain ⟨v2, q2, rfl, e2, hr3⟩ := hr2.inv
    obtain ⟨v3, q3, rfl, e3, hr4⟩ := hr3.inv
    obtain ⟨v4, q4, rfl, e4, hr5⟩ := hr4.inv
    obtain ⟨v5, q5, rfl, e5, hr6⟩ := hr5.inv
    obtain rfl := hr6.inv0
    refine ⟨_, rfl, a, _, 0, _, rfl, rfl, hS, at0 _ _, ?_⟩
    refine ⟨_, rfl, rfl, _, rfl, ifF (by decide +kernel) ?_⟩
    refine ⟨_, rfl, rfl, _, rfl, ifF (by decide +kernel) ?_⟩
    refine ⟨_, rfl, rfl, _, rfl, ifT (by decide +kernel) ?_⟩
    refine ⟨Nat.zero_le _, fun p1 hp1 => ?_⟩
    have s1 := same_new hp1 (.tup [])
    refine ⟨_, rfl, a, _, 1, _, rfl, rfl, hS.same s1, rfl, (by show 2 ≤ sizeLine; decide), fun p2 hp2 => ?_⟩
    have s2 := s1.trans (same_new hp2 (.tup [.ref p1, v1]))
    refine ⟨Nat.zero_le _, fun p3 hp3 => ?_⟩
    have s3 := s2.trans (same_new hp3 (.tup []))
    refine ⟨_, rfl, a, _, 4, _, rfl, rfl, hS.same s3, rfl, (by show 2 ≤ sizeLine; decide), fun p4 hp4 => ?_⟩
    have s4 := s3.trans (same_new hp4 (.tup [.ref p3, v4]))
    refine ⟨_, rfl, a, _, 2, _, rfl, rfl, hS.same s4, rfl, _, rfl, a, _, 3, _, rfl, rfl, hS.same s4, rfl, (by show 2 ≤ sizeLine; decide), fun p5 hp5 => ?_⟩
    have s5 := s4.trans (same_new hp5 (.tup [v2, v3]))
    refine ⟨_, rfl, a, _, 5, _, rfl, rfl, hS.same s5, rfl, (by show 2 ≤ sizeLine; decide), fun p6 hp6 => ?_⟩
    have s6 := s5.trans (same_new hp6 (.tup [.ref p5, v5]))
    refine ⟨(by show 3 ≤ sizeLine; decide), fun p7 hp7 => ?_⟩
    have s7 := s6.trans (same_new hp7 (.lst [.ref p2, .ref p4, .ref p6]))
    refine k p7 _ _ s7 upd_same ?_
    have s67 := (same_new hp6 (.tup [.ref p5, v5])).trans (same_new hp7 (.lst [.ref p2, .ref p4, .ref p6]))
    have s57 := (same_new hp5 (.tup [v2, v3])).trans s67
    have s37 := (same_new hp3 (.tup [])).trans ((same_new hp4 (.tup [.ref p3, v4])).trans s57)
    refine .cons (Rp.same s37 (Rp.new hp2 (.cons (Rp.new hp1 .nil) (.one (e1.same s1))))) (.cons (Rp.same s57 (Rp.new hp4 (.cons (Rp.new hp3 .nil) (.one (e4.same s3))))) (.one ?_))
    exact Rp.same (same_new hp7 _) (Rp.new hp6 (.cons (Rp.new hp5 (.cons (e2.same s4) (.one (e3.same s4)))) (.one (e5.same s5))))
end
end G02

namespace G02
open PySem L2
theorem right_snd (tm : Tm) (wf : Wf tm) : (right tm).map (·.2) = tm.ks := by
  cases wf with
  | mk ar wk =>
  rename_i h ks
  show (((bnd h ks.length).zip ks).map Prod.snd) = ks
  refine List.map_snd_zip ?_
  cases h <;> simp_all [bnd, arOk]
theorem right_len (tm : Tm) (wf : Wf tm) : (right tm).length = tm.ks.length := by
  have z := congrArg List.length (right_snd tm wf)
  rwa [List.length_map] at z
theorem Wf.kids {tm : Tm} (wf : Wf tm) : ∀ k ∈ tm.ks, Wf k := by
  cases wf with
  | mk ar wk => exact wk
theorem len_sizes : ∀ l : List Tm, l.length ≤ Tm.sizes l
  | [] => Nat.le_refl _
  | k :: r => by rw [Tm.sizes_cons, List.length_cons]; have := Tm.size_pos k; have := len_sizes r; omega
theorem walks_len (d : Nat) (l : List Tm) : (Tm.walks d l).length = Tm.sizes l := by
  have z := congrArg List.length (Tm.walks_parts_of (ks := l) (fun k _ d => Tm.walk_parts k d) d)
  rw [List.length_map] at z
  rw [z]
  induction l with
  | nil => rfl
  | cons k r ih => rw [Tm.partss_cons, Tm.sizes_cons, List.length_append, Tm.parts_length, ih (by rw [← List.length_map (f := (·.1)), Tm.walks_parts_of (ks := r) (fun k _ d => Tm.walk_parts k d) d])]
theorem ks_le (tm : Tm) : tm.ks.length < tm.size := by
  cases tm with
  | mk h ks =>
    rw [Tm.size_mk]
    show ks.length < _
    have : ks.length ≤ Tm.sizes ks := by
      induction ks with
      | nil => exact Nat.le_refl _
      | cons k r ih => rw [Tm.sizes_cons, List.length_cons]; have := Tm.size_pos k; omega
    omega
def spParts (K : PySem.W.Frag) : Sp := fun vs H Q _ => ∃ (v : V) (tm : Tm), vs = [v] ∧ Rp K H (enc tm) v ∧ Wf tm ∧ tm.size ≤ 900 ∧
  ∀ (p : Addr) (H' : Hp) (ws : List V), Same H H' → H p = none → H' p = some (.lst ws) → Rps K H' (tm.parts.map enc) ws → Q (.ref p) H'
def spDeep (K : PySem.W.Frag) : Sp := fun vs H Q _ => ∃ (v : V) (tm : Tm), vs = [v] ∧ Rp K H (enc tm) v ∧ Wf tm ∧ tm.size ≤ 900 ∧ ∀ H', Same H H' → Q (.int tm.depth) H'
def gapOf : Tm → Option Int
  | .mk (.gap n) _ => some n
  | _ => none
def spGapsIn (K : PySem.W.Frag) : Sp := fun vs H Q _ => ∃ (v : V) (tm : Tm), vs = [v] ∧ Rp K H (enc tm) v ∧ Wf tm ∧ tm.size ≤ 900 ∧
  ∀ (p : Addr) (H' : Hp), Same H H' → H p = none → H' p = some (.lst ((tm.parts.filterMap gapOf).map V.int)) → Q (.ref p) H'
def PInv (K : PySem.W.Frag) (H : Hp) (v : V) (lt lw : Addr) (tm : Tm) (m : Nat) (σ : St) (H' : Hp) : Prop :=
  ∃ (dn st : List Tm) (ws us : List V) (hv : Option V), σ = [some v, some (.ref lt), some (.ref lw), hv] ∧ Same H H' ∧ H' lt = some (.lst ws) ∧ Rps K H' (dn.map enc) ws ∧ H' lw = some (.lst us) ∧ Rps K H' (st.map enc) us ∧ (∀ k ∈ st, Wf k) ∧ dn ++ Tm.partss st.reverse = tm.parts ∧ dn.length + Tm.sizes st = tm.size ∧ m = Tm.sizes st
def spInner (K : PySem.W.Frag) : Sp := fun vs H Q _ => ∃ (v : V) (tm : Tm), vs = [v] ∧ Rp K H (enc tm) v ∧ Wf tm ∧ tm.size ≤ 900 ∧
  ∀ (p : Addr) (H' : Hp) (ws : List V), Same H H' → H p = none → H' p = some (.lst ws) → Rps K H' (tm.ks.map enc) ws → Q (.ref p) H'
section
variable {P : Program} {w : World} {K : PySem.W.Frag} {mg : Str → Option Value} {base : Heap} {gR : Addr} {rfd : FuncData}
theorem scInner : FnScope ["term"] ["term"] (defScope s_inner_terms) := ⟨rfl, rfl, rfl, by decide +kernel, rfl, by decide +kernel, by decide +kernel⟩
theorem ok_inner {f : Addr} {fd : FuncData} (F : Fun K "inner_terms" "inner_terms" s_inner_terms f fd) (RI : Has P w K mg base "right_in" 1 ["term"] (spRightIn K) gR rfd) : FnOk P w K mg base CX0 2 f fd ["term"] (spInner K) := by
  refine F.ok scInner (fun vs H Q E h => ?_) (fun cdv A outer s H vs Q E hr h => ?_)
  · obtain ⟨v, tm, rfl, _⟩ := h
    rfl
  obtain ⟨v, tm, rfl, hv, wf, hlen, k⟩ := h
  refine ⟨_, (pss_one (ps_ret (pe_compC (defScope s_inner_terms) ["term"] ["names", "inner"] [] rfl rfl rfl (by decide +kernel) (pi_list (pe_call RI.ok (hr.mono (by omega)) rfl RI.at' RI.kp RI.bd .nil pass0 (pa_cons (pv 0) pa_nil))) (fun _ _ _ _ => (pg_tupK (n := 2) K rfl rfl (pgs_cons (pg_name (i := 0) (show (["names", "inner"] : List Str).Nodup by decide +kernel) rfl (Or.inl rfl)) (pgs_cons (pg_name (i := 1) (show (["names", "inner"] : List Str).Nodup by decide +kernel) rfl (Or.inl rfl)) pgs_nil)))) (fun _ _ _ _ => pifs_nil) (fun _ _ _ _ => (pv 1))))), ?_⟩
  have hk := ks_le tm
  refine ⟨_, rfl, v, tm, rfl, hv, wf, by omega, fun p H5 vs5 s5 h5 r5 => ?_⟩
  refine ⟨p, rfl, ⟨_, SqL.of h5⟩, ?_⟩
  refine comp_inner h5 r5 (by rw [right_len tm wf]; omega) fun p6 ws6 hp6 r6 => ?_
  have e6 : (right tm).map (fun p => enc p.2) = tm.ks.map enc := by rw [← right_snd tm wf, List.map_map]; rfl
  rw [e6] at r6
  exact k p6 _ ws6 (s5.trans (same_new hp6 _)) (s5.free hp6) upd_same (r6.same (same_new hp6 _))
theorem scParts : FnScope ["term", "told", "waiting", "here"] ["term"] (defScope s_parts) := ⟨rfl, rfl, rfl, by decide +kernel, rfl, by decide +kernel, by decide +kernel⟩
theorem ok_parts {f : Addr} {fd : FuncData} (F : Fun K "parts" "parts" s_parts f fd) (IN : Has P w K mg base "inner_terms" 2 ["term"] (spInner K) gR rfd) : FnOk P w K mg base CX0 3 f fd ["term"] (spParts K) := by
  refine F.ok scParts (fun vs H Q E h => ?_) (fun cdv A outer s H vs Q E hr h => ?_)
  · obtain ⟨v, tm, rfl, _⟩ := h
    rfl
  obtain ⟨v, tm, rfl, hv, wf, hlen, k⟩ := h
  refine ⟨_, (pss_cons (ps_set (i := 1) scParts.nd rfl (Or.inl rfl) (pe_lst pa_nil))
    (pss_cons (ps_set (i := 2) scParts.nd rfl (Or.inl rfl) (pe_lst (pa_cons (pv 0) pa_nil)))
    (pss_cons (ps_while PassesOwn.never (pt_truth (pv 2) (fun _ => rfl))
      (pss_cons (ps_set (i := 3) scParts.nd rfl (Or.inl rfl) (pe_bm0 PySem.F.plainAttrs_list PySem.F.slot_list_pop PySem.F.type_list_pop mt_pop (pv 2)))
    (pss_cons (ps_expr (pe_bm PySem.F.plainAttrs_list PySem.F.slot_list_append PySem.F.type_list_append mt_append (pv 1) (pa_cons (pv 3) pa_nil)))
    (pss_one (ps_expr (pe_bm PySem.F.plainAttrs_list PySem.F.slot_list_extend PySem.F.type_list_extend mt_extend (pv 2) (pa_cons (pe_slice3 (pe_call IN.ok (hr.mono (by omega)) rfl IN.at' IN.kp IN.bd .nil pass0 (pa_cons (pv 3) pa_nil)) po_none po_none (po_some (pe_un un_neg pe_int))) pa_nil)))))))
    (pss_one (ps_ret (pv 1)))))), ?_⟩
  refine ⟨Nat.zero_le _, fun lt hlt => ?_⟩
  have s1 := same_new hlt (.lst [])
  refine ⟨_, rfl, (by show 1 ≤ sizeLine; decide), fun lw hlw => ?_⟩
  have s2 := s1.trans (same_new hlw (.lst [v]))
  have nlw : lt ≠ lw := fun z => by subst z; rw [upd_same] at hlw; cases hlw
  have glt : upd (upd H lt (.lst [])) lw (.lst [v]) lt = some (.lst []) := by rw [upd_ne nlw]; exact upd_same
  refine ⟨PInv K H v lt lw tm, ⟨tm.size, [], [tm], [], [v], none, rfl, s2, glt, .nil, upd_same, .one (hv.same s2), (fun k hk => by cases hk with | head => exact wf | tail _ h => cases h), ?_, ?_, ?_⟩, ?_⟩
  · simp [Tm.partss]
  · simp [Tm.sizes]
  · simp [Tm.sizes]
  · rintro m σ H' ⟨dn, st, ws, us, h0, rfl, sm, h1, r1, h2, r2, wst, e1, e2, rfl⟩
    have l1 := r1.length
    rw [List.length_map] at l1
    refine ⟨_, rfl, _, .inl ⟨us, SqL.of h2, rfl⟩, ?_⟩
    rcases List.eq_nil_or_concat st with rfl | ⟨st', hd, rfl⟩
    · obtain rfl := r2.inv0
      refine ifF rfl ?_
      refine ⟨_, rfl, k lt H' ws sm hlt h1 ?_⟩
      have z : dn = tm.parts := by simpa [Tm.partss] using e1
      rw [← z]; exact r1
    · rw [List.concat_eq_append] at *
      rw [List.map_append] at r2
      obtain ⟨us', ul, rfl, r3, r4⟩ := r2.split
      obtain ⟨u, q, rfl, ru, rq⟩ := (show Rps K H' [enc hd] ul from r4).inv
      obtain rfl := rq.inv0
      have wh : Wf hd := wst hd (by simp)
      have hsz : dn.length + Tm.sizes st' + hd.size = tm.size := by
        rw [Tm.sizes_append, Tm.sizes_cons] at e2
        simp only [Tm.sizes] at e2
        omega
      have hk := ks_le hd
      refine ifT (by simp) ?_
      refine ⟨fun σ' H'' => ∃ m', m' < Tm.sizes (st' ++ [hd]) ∧ PInv K H v lt lw tm m' σ' H'', fun _ _ z => z, ?_⟩
      refine ⟨_, rfl, .inl ⟨rfl, _, SqL.of h2⟩, lw, _, u, rfl, rfl, h2, by simp, ?_⟩
      rw [List.dropLast_concat]
      have k3 : Kt H' (upd H' lw (.lst us')) := Kt.lst h2 _
      have h3t : upd H' lw (.lst us') lt = some (.lst ws) := by rw [upd_ne nlw]; exact h1
      refine ⟨_, rfl, .inl ⟨rfl, _, SqL.of h3t⟩, _, rfl, lt, _, _, rfl, rfl, h3t, small1000 (by omega), ?_⟩
      have k4 : Kt (upd H' lw (.lst us')) (upd (upd H' lw (.lst us')) lt (.lst (ws ++ [u]))) := Kt.lst h3t _
      have h4w : upd (upd H' lw (.lst us')) lt (.lst (ws ++ [u])) lw = some (.lst us') := by rw [upd_ne nlw.symm]; exact upd_same
      have h4t : upd (upd H' lw (.lst us')) lt (.lst (ws ++ [u])) lt = some (.lst (ws ++ [u])) := upd_same
      have sm4 : Same H (upd (upd H' lw (.lst us')) lt (.lst (ws ++ [u]))) := fun b o e => by
        have n1 : b ≠ lt := ne_of_none e hlt
        have n2 : b ≠ lw := fun z => by subst z; rw [upd_ne n1.symm.symm] at hlw; rw [e] at hlw; cases hlw
        rw [upd_ne n1, upd_ne n2]; exact sm b o e
      have k34 := k3.trans k4
      generalize upd (upd H' lw (.lst us')) lt (.lst (ws ++ [u])) = H4 at k34 h4w h4t sm4 ⊢
      refine ⟨_, rfl, .inl ⟨rfl, _, SqL.of h4w⟩, ?_⟩
      refine ⟨_, rfl, u, hd, rfl, ru.kt k34, wh, by omega, fun p6 H5 ws6 s5 hp6 h6 r6 => ?_⟩
      have l6 := r6.length
      rw [List.length_map] at l6
      refine ⟨_, rfl, _, rfl, p6, ws6, rfl, SqL.of h6, (by decide), ?_, fun p7 hp7 => ?_⟩
      · rw [pick_rev, List.length_reverse]; exact small (by omega)
      rw [pick_rev] at *
      have s7 := s5.trans (same_new hp7 (.lst ws6.reverse))
      have h7w := s7 _ _ h4w
      have h7t := s7 _ _ h4t
      have l3 := r3.length
      rw [List.length_map] at l3
      have hst := len_sizes st'
      refine ⟨lw, p7, _, _, rfl, rfl, h7w, upd_same, ?_, ?_⟩
      · rw [List.length_reverse]; exact small (by omega)
      have k8 : Kt (upd H5 p7 (.lst ws6.reverse)) (upd (upd H5 p7 (.lst ws6.reverse)) lw (.lst (us' ++ ws6.reverse))) := Kt.lst h7w _
      have k78 := (Kt.same s7).trans k8
      have k67 : Kt H5 (upd (upd H5 p7 (.lst ws6.reverse)) lw (.lst (us' ++ ws6.reverse))) := (Kt.same (same_new hp7 _)).trans k8
      have ksz : Tm.sizes hd.ks + 1 = hd.size := by cases hd with | mk h ks => rw [Tm.size_mk]; rfl
      refine ⟨Tm.sizes st' + Tm.sizes hd.ks, by rw [Tm.sizes_append]; simp only [Tm.sizes]; omega, dn ++ [hd], st' ++ hd.ks.reverse, ws ++ [u], us' ++ ws6.reverse, _, rfl, ?_, ?_, ?_, upd_same, ?_, ?_, ?_, ?_, ?_⟩
      · intro b o e
        have n2 : b ≠ lw := fun z => by
          subst z
          have n1 : b ≠ lt := ne_of_none e hlt
          rw [upd_ne n1] at hlw; rw [e] at hlw; cases hlw
        rw [upd_ne n2]; exact s7 b o (sm4 b o e)
      · rw [upd_ne nlw]; exact h7t
      · rw [List.map_append]; exact ((r1.kt (k34.trans k78))).snoc (ru.kt (k34.trans k78))
      · rw [List.map_append, List.map_reverse]
        exact (r3.kt (k34.trans k78)).append (r6.kt k67).reverse
      · intro x hx
        rcases List.mem_append.mp hx with h | h
        · exact wst x (List.mem_append_left _ h)
        · exact (Wf.kids wh) x (List.mem_reverse.mp h)
      · rw [List.reverse_append, List.reverse_reverse, Tm.partss_append]
        rw [List.reverse_append, List.reverse_singleton, List.singleton_append, Tm.partss_cons] at e1
        rw [← e1]
        cases hd with
        | mk h ks => rw [Tm.parts_eq]; simp [Tm.ks]
      · rw [List.length_append, Tm.sizes_append, Tm.sizes_reverse, ← hsz]
        cases hd with
        | mk h ks => rw [Tm.size_mk]; simp [Tm.ks]; omega
      · rw [Tm.sizes_append, Tm.sizes_reverse]
end
end G02

namespace L2
open PySem PySem.Spec PyProof.Rows
/-! ### names looked up by the kernel -/
def visB (sc : Scope) (y : Str) : Bool := (sc.names.lookup y == some .local || sc.names.lookup y == some .cell || sc.names.lookup y == some .free) && !(y == ("__debug__" : Str)) && !(y == ("__classdict__" : Str))
abbrev Nm (N : List Str) (sc : Scope) : Prop := N.all (visB sc) = true
def locB (sc : Scope) (y : Str) : Bool := sc.names.lookup y == some .local || sc.names.lookup y == some .cell
abbrev Lm (N : List Str) (sc : Scope) : Prop := N.all (locB sc) = true
theorem Nm.get {N : List Str} {sc : Scope} (h : Nm N sc) {i : Nat} {x : Str} (e : N[i]? = some x) : Vis sc x ∧ (x == ("__debug__" : Str)) = false ∧ (x == ("__classdict__" : Str)) = false := by
  have z := List.all_eq_true.mp h x (List.mem_of_getElem? e)
  unfold visB at z
  simp only [Bool.and_eq_true, Bool.or_eq_true, Bool.not_eq_true'] at z
  obtain ⟨⟨z1, z2⟩, z3⟩ := z
  refine ⟨?_, z2, z3⟩
  rcases z1 with (z1 | z1) | z1
  · exact Or.inl (eq_of_beq z1)
  · exact Or.inr (Or.inl (eq_of_beq z1))
  · exact Or.inr (Or.inr (eq_of_beq z1))
theorem Lm.get {N : List Str} {sc : Scope} (h : Lm N sc) {i : Nat} {x : Str} (e : N[i]? = some x) : Loc sc x := by
  have z := List.all_eq_true.mp h x (List.mem_of_getElem? e)
  unfold locB at z
  simp only [Bool.or_eq_true] at z
  rcases z with z | z
  · exact Or.inl (eq_of_beq z)
  · exact Or.inr (eq_of_beq z)
section
variable {X : Cx}
theorem va {x : Str} {pos : Pos} (h : Nm X.N X.env.scope) (i : Nat) (hN : X.N[i]? = some x := by rfl) : PE X (.Name x pos) (tVar i) := pe_var hN (h.get hN).1 (h.get hN).2.1 (h.get hN).2.2
theorem sa {x : Str} {e : Expr} {te : TE} {pos pos' : Pos} (hN : X.N.Nodup) (h : Lm X.N X.env.scope) (i : Nat) (he : PE X e te) (hi : X.N[i]? = some x := by rfl) (hs : swapsWith e (some (.Name x pos')) pos.line X.env = pure false := by kernel_rfl)
    (hf : X.fn x = true ∨ X.env.scope.names.lookup x = some .local := by exact .inl rfl) : PS X (.Assign [.Name x pos'] e pos) (tAsg te (gName i)) := ps_set hN hi (h.get hi) he hs hf
theorem ga {x : Str} {pos : Pos} (hN : X.N.Nodup) (h : Lm X.N X.env.scope) (i : Nat) (hi : X.N[i]? = some x := by rfl) (hf : X.fn x = true ∨ X.env.scope.names.lookup x = some .local := by first | exact .inl rfl | exact .inr (by kernel_rfl)) : PG X (.Name x pos) (gName i) := pg_name hN hi (h.get hi) hf
end
end L2

namespace G02
open PySem L2
def spWithin (K : PySem.W.Frag) : Sp := fun vs H Q _ => ∃ (v : V) (tm : Tm), vs = [v] ∧ Rp K H (enc tm) v ∧ Wf tm ∧ tm.size ≤ 900 ∧
  ∀ (p : Addr) (H' : Hp) (ws : List V), Same H H' → H p = none → H' p = some (.lst ws) → Rps K H' (tm.ks.map enc) ws → Q (.ref p) H'
def wT (p : Tm × Nat) : T := .t [enc p.1, .i (p.2 : Int)]
def spWalked (K : PySem.W.Frag) (n : Nat) : Sp := fun vs H Q _ => ∃ (v : V) (tm : Tm) (d : Nat) (l : Addr) (xs : List V) (done : List (Tm × Nat)), vs = [v, .int d, .ref l] ∧ Rp K H (enc tm) v ∧ Wf tm ∧ tm.depth < n ∧ H l = some (.lst xs) ∧ Rps K H (done.map wT) xs ∧ done.length + tm.size ≤ 900 ∧
  ∀ (H' : Hp) (ys : List V), (∀ b o, b ≠ l → H b = some o → H' b = some o) → H' l = some (.lst ys) → Rps K H' ((done ++ tm.walk d).map wT) ys → Q (.ref l) H'
theorem cut_from (xs : List V) (j : Nat) : cutV xs (some (j : Int)) none = xs.drop j := by
  unfold cutV
  rw [HT.sIx_nat, HT.sIx_none]
  rcases Nat.le_total j xs.length with h | h
  · rw [Nat.min_eq_left h, List.take_of_length_le (by rw [List.length_drop]; omega)]
  · rw [Nat.min_eq_right h, List.drop_of_length_le h, List.drop_of_length_le (Nat.le_refl _)]; simp
theorem cut_not (xs : List V) (j : Nat) (hj : 1 ≤ j) (hx : 1 ≤ xs.length) : ¬ (HT.sIx xs.length 0 (some (j : Int)) = 0 ∧ HT.sIx xs.length xs.length none = xs.length) := fun z => by
  have := z.1
  rw [HT.sIx_nat] at this
  omega
section
variable {K : PySem.W.Frag} {Q : VK} {H0 : Hp}
/-- [inner for t, names, inner in arms] -/
theorem comp_bodies {pa : Addr} {arms : List (Str × List Str)} {ks : List T} {vs : List V} (hl : arms.length = ks.length) (hS : SqT K H0 pa vs) (hr : Rps K H0 (List.zipWith armT arms ks) vs) (hlen : ks.length ≤ 1000)
    (k : ∀ (p : Addr) (ws : List V), H0 p = none → Rps K H0 ks ws → Q (.ref p) (upd H0 p (.lst ws))) :
    CompW (Itt K pa) (gTup K 3 (gCons (gName 0) (gCons (gName 1) (gCons (gName 2) gNil)))) tNoIf (tVar 2) Q [none, none, none] H0 := by
  have l := hr.length
  rw [List.length_zipWith, hl, Nat.min_self] at l
  refine comp_tup (xs := vs) (fun i σ us H2 => (∃ x y z, σ = [x, y, z]) ∧ H2 = H0 ∧ Rps K H0 (ks.take i) us) ⟨⟨none, none, none, rfl⟩, rfl, .nil⟩ ?_ (small (by omega)) ?_ ?_ ?_
  · rintro i σ us H2 hi ⟨_, _, r⟩
    rw [r.length, List.length_take]; omega
  · rintro i σ us H2 hi ⟨_, rfl, _⟩
    exact hS
  · rintro i x σ us H2 hx ⟨⟨x0, y0, z0, rfl⟩, rfl, r⟩
    obtain ⟨y, hy, ry⟩ := hr.get' hx
    have hi : i < vs.length := (List.getElem?_eq_some_iff.mp hx).1
    have hia : i < arms.length := by omega
    have hik : i < ks.length := by omega
    rw [List.getElem?_zipWith, List.getElem?_eq_getElem hia, List.getElem?_eq_getElem hik] at hy
    cases hy
    obtain ⟨ra, rvs, rfl, sq, rr⟩ := (show Rp K _ (.t [_, _, _]) x from ry).inv_t
    obtain ⟨t1, q1, rfl, h1, rr⟩ := rr.inv
    obtain ⟨t2, q2, rfl, h2, rr⟩ := rr.inv
    obtain ⟨t3, q3, rfl, h3, rr⟩ := rr.inv
    obtain rfl := rr.inv0
    refine ⟨ra, _, rfl, sq, rfl, _, _, rfl, _, _, rfl, _, _, rfl, rfl, ?_⟩
    refine ⟨_, rfl, ⟨_, _, _, rfl⟩, rfl, ?_⟩
    rw [List.take_succ_eq_append_getElem hik]
    exact r.snoc h3
  · rintro σ us H2 ⟨_, rfl, r⟩ p hp
    rw [List.take_of_length_le (by omega)] at r
    exact k p us hp r
end
section
variable {P : Program} {w : World} {K : PySem.W.Frag} {mg : Str → Option Value} {base : Heap} {gW gA : Addr} {wfd afd : FuncData}
theorem nm_L_within : Nm ["_law_term"] (defScope s_L_within) := by decide +kernel
theorem lm_L_within : Lm ["_law_term"] (defScope s_L_within) := by decide +kernel
theorem sc_L_within : FnScope ["_law_term"] ["_law_term"] (defScope s_L_within) := ⟨rfl, rfl, rfl, by decide +kernel, rfl, by decide +kernel, by decide +kernel⟩
theorem ok_within {f : Addr} {fd : FuncData} (F : Fun K "_law_within" "_law_within" s_L_within f fd) (z_list : mg "list" = none) (z_int : mg "int" = none) : FnOk P w K mg base CX0 1 f fd ["_law_term"] (spWithin K) := by
  refine F.ok sc_L_within (fun vs H Q E h => ?_) (fun cdv A outer s H vs Q E hr h => ?_)
  · obtain ⟨v, tm, rfl, _⟩ := h
    rfl
  obtain ⟨v, tm, rfl, hv, wf, hlen, k⟩ := h
  refine ⟨_, (pss_cons (ps_if (pt_cmpR op_in_seq (pe_ix ix_tup (va nm_L_within 0) pe_int (fun _ _ => rfl)) (pe_tup (pa_cons pe_str (pa_cons pe_str (pa_cons pe_str pa_nil)))) (by with_unfolding_all rfl)) (pss_one (ps_ret (pe_callTy call_list_of (by show _ = _; kernel_rfl) z_list PyProof.Rows.boot_list (pa_cons (pe_ix ix_tup (va nm_L_within 0) (pe_un un_neg pe_int) (fun _ _ => rfl)) pa_nil)))) pss_nil)
    (pss_cons (ps_if (pt_cmpR op_eq (pe_ix ix_tup (va nm_L_within 0) pe_int (fun _ _ => rfl)) pe_str (nomark _)) (pss_one (ps_ret (pe_op op_cat (pe_lst (pa_cons (pe_ix ix_tup (va nm_L_within 0) pe_int (fun _ _ => rfl)) pa_nil)) (pe_compC (defScope s_L_within) ["_law_term"] ["_law_t", "_law_names_here", "_law_inner"] [] rfl rfl rfl (by decide +kernel) (pi_tup (pe_ix ix_tup (va nm_L_within 0) pe_int (fun _ _ => rfl))) (fun _ _ _ _ => (pg_tupK (n := 3) K rfl rfl (pgs_cons (pg_name (i := 0) (show (["_law_t", "_law_names_here", "_law_inner"] : List Str).Nodup by decide +kernel) rfl (Or.inl (by kernel_rfl)) (by first | exact .inl rfl | exact .inr (by kernel_rfl))) (pgs_cons (pg_name (i := 1) (show (["_law_t", "_law_names_here", "_law_inner"] : List Str).Nodup by decide +kernel) rfl (Or.inl (by kernel_rfl)) (by first | exact .inl rfl | exact .inr (by kernel_rfl))) (pgs_cons (pg_name (i := 2) (show (["_law_t", "_law_names_here", "_law_inner"] : List Str).Nodup by decide +kernel) rfl (Or.inl (by kernel_rfl)) (by first | exact .inl rfl | exact .inr (by kernel_rfl))) pgs_nil))))) (fun _ _ _ _ => pifs_nil) (fun _ _ _ _ => (va (show Nm ["_law_t", "_law_names_here", "_law_inner"] _ by show _ = _; kernel_rfl) 2)))))) pss_nil)
    (pss_cons (ps_if (pt_cmpR op_eq (pe_ix ix_tup (va nm_L_within 0) pe_int (fun _ _ => rfl)) pe_str (nomark _)) (pss_one (ps_ret (pe_lst (pa_cons (pe_ix ix_tup (va nm_L_within 0) pe_int (fun _ _ => rfl)) (pa_cons (pe_ix ix_tup (va nm_L_within 0) pe_int (fun _ _ => rfl)) (pa_cons (pe_ix ix_tup (va nm_L_within 0) pe_int (fun _ _ => rfl)) pa_nil)))))) pss_nil)
    (pss_cons (ps_if (pt_cmpR op_in_seq (pe_ix ix_tup (va nm_L_within 0) pe_int (fun _ _ => rfl)) (pe_tup (pa_cons pe_str (pa_cons pe_str (pa_cons pe_str pa_nil)))) (by with_unfolding_all rfl)) (pss_one (ps_ret (pe_lst pa_nil))) pss_nil)
    (pss_one (ps_ret (pe_callTy call_list_of (by show _ = _; kernel_rfl) z_list PyProof.Rows.boot_list (pa_cons (pe_slice sl_tup (va nm_L_within 0) (po_some (pe_op op_add pe_int (pe_callTy call_int1 (by show _ = _; kernel_rfl) z_int PyProof.Rows.boot_int (pa_cons (pe_cmpR op_in_seq (pe_ix ix_tup (va nm_L_within 0) pe_int (fun _ _ => rfl)) (pe_tup (pa_cons pe_str (pa_cons pe_str pa_nil))) (by with_unfolding_all rfl)) pa_nil)))) po_none) pa_nil)))))))), ?_⟩
  cases wf with
  | mk ar wk =>
  rename_i hd ks
  have wf : Wf (.mk hd ks) := .mk ar wk
  rw [enc_mk] at hv
  have hlen' : ks.length < 900 := Nat.lt_of_lt_of_le (ks_le (.mk hd ks)) hlen
  have nE : (ks.map enc).length = ks.length := List.length_map _
  cases hd
  case row =>
    unfold encH at hv
    obtain ⟨a, vs, rfl, hS, hr0⟩ := hv.inv_t
    obtain ⟨v0, q0, rfl, e0, hr1⟩ := Rps.inv hr0
    obtain ⟨v1, q1, rfl, e1, hr2⟩ := Rps.inv hr1
    obtain rfl := e0.inv_s
    obtain rfl := hr2.inv0
    obtain ⟨b, us, rfl, hSb, hrb⟩ := e1.inv_t
    refine ⟨_, rfl, a, _, 0, _, rfl, rfl, hS, rfl, (by show 3 ≤ sizeLine; decide), fun p1 hp1 => ⟨p1, _, rfl, .inr (SqT.of upd_same), rfl, rfl, _, rfl, ifT (by decide +kernel) ?_⟩⟩
    have s1 := same_new hp1 (.tup [.str "row", .str "tag", .str "call"])
    refine ⟨_, rfl, _, rfl, a, _, -1, _, rfl, rfl, hS.same s1, rfl, b, _, rfl, .inr (hSb.same s1), fun l hl => ?_⟩
    exact k l _ us (s1.trans (same_new hl _)) (s1.free hl) upd_same (hrb.same (s1.trans (same_new hl _)))
  case tag t =>
    unfold encH at hv
    obtain ⟨a, vs, rfl, hS, hr0⟩ := hv.inv_t
    obtain ⟨v0, q0, rfl, e0, hr1⟩ := Rps.inv hr0
    obtain ⟨v1, q1, rfl, e1, hr2⟩ := Rps.inv hr1
    obtain ⟨v2, q2, rfl, e2, hr3⟩ := Rps.inv hr2
    obtain rfl := e0.inv_s
    obtain rfl := hr3.inv0
    obtain ⟨b, us, rfl, hSb, hrb⟩ := e2.inv_t
    refine ⟨_, rfl, a, _, 0, _, rfl, rfl, hS, rfl, (by show 3 ≤ sizeLine; decide), fun p1 hp1 => ⟨p1, _, rfl, .inr (SqT.of upd_same), rfl, rfl, _, rfl, ifT (by decide +kernel) ?_⟩⟩
    have s1 := same_new hp1 (.tup [.str "row", .str "tag", .str "call"])
    refine ⟨_, rfl, _, rfl, a, _, -1, _, rfl, rfl, hS.same s1, rfl, b, _, rfl, .inr (hSb.same s1), fun l hl => ?_⟩
    exact k l _ us (s1.trans (same_new hl _)) (s1.free hl) upd_same (hrb.same (s1.trans (same_new hl _)))
  case call f =>
    unfold encH at hv
    obtain ⟨a, vs, rfl, hS, hr0⟩ := hv.inv_t
    obtain ⟨v0, q0, rfl, e0, hr1⟩ := Rps.inv hr0
    obtain ⟨v1, q1, rfl, e1, hr2⟩ := Rps.inv hr1
    obtain ⟨v2, q2, rfl, e2, hr3⟩ := Rps.inv hr2
    obtain rfl := e0.inv_s
    obtain rfl := hr3.inv0
    obtain ⟨b, us, rfl, hSb, hrb⟩ := e2.inv_t
    refine ⟨_, rfl, a, _, 0, _, rfl, rfl, hS, rfl, (by show 3 ≤ sizeLine; decide), fun p1 hp1 => ⟨p1, _, rfl, .inr (SqT.of upd_same), rfl, rfl, _, rfl, ifT (by decide +kernel) ?_⟩⟩
    have s1 := same_new hp1 (.tup [.str "row", .str "tag", .str "call"])
    refine ⟨_, rfl, _, rfl, a, _, -1, _, rfl, rfl, hS.same s1, rfl, b, _, rfl, .inr (hSb.same s1), fun l hl => ?_⟩
    exact k l _ us (s1.trans (same_new hl _)) (s1.free hl) upd_same (hrb.same (s1.trans (same_new hl _)))
  case mat arms =>
    have hk : ks.length = arms.length + 1 := by simpa [arOk] using ar
    match ks, hk with
    | k0 :: kr, hk =>
    have hkr : arms.length = kr.length := by simpa using hk.symm
    unfold encH at hv
    obtain ⟨a, vs, rfl, hS, hr0⟩ := hv.inv_t
    obtain ⟨v0, q0, rfl, e0, hr1⟩ := Rps.inv hr0
    obtain ⟨v1, q1, rfl, e1, hr2⟩ := Rps.inv hr1
    obtain ⟨v2, q2, rfl, e2, hr3⟩ := Rps.inv hr2
    obtain rfl := e0.inv_s
    obtain rfl := hr3.inv0
    obtain ⟨b, us, rfl, hSb, hrb⟩ := e2.inv_t
    refine ⟨_, rfl, a, _, 0, _, rfl, rfl, hS, rfl, (by show 3 ≤ sizeLine; decide), fun p1 hp1 => ⟨p1, _, rfl, .inr (SqT.of upd_same), rfl, rfl, _, rfl, ifF (by decide +kernel) ?_⟩⟩
    have s1 := same_new hp1 (.tup [.str "row", .str "tag", .str "call"])
    refine ⟨_, rfl, a, _, 0, _, rfl, rfl, hS.same s1, rfl, rfl, _, rfl, ifT (by decide +kernel) ?_⟩
    refine ⟨_, rfl, a, _, 1, _, rfl, rfl, hS.same s1, rfl, (by show 1 ≤ sizeLine; decide), fun p2 hp2 => ?_⟩
    have s2 := s1.trans (same_new hp2 (.lst [v1]))
    refine ⟨_, rfl, a, _, 2, _, rfl, rfl, hS.same s2, rfl, b, rfl, ⟨_, hSb.same s2⟩, ?_⟩
    refine comp_bodies (arms := arms) (ks := kr.map enc) (by rw [List.length_map]; exact hkr) (hSb.same s2) (by exact hrb.same s2) (by rw [List.length_map]; have := hlen'; simp at this; omega) fun p ws hp r4 => ?_
    have z2 : upd (upd (upd H p1 (.tup [.str "row", .str "tag", .str "call"])) p2 (.lst [v1])) p (.lst ws) p2 = some (.lst [v1]) := (same_new hp _) _ _ upd_same
    have l4 := r4.length
    rw [List.length_map] at l4
    refine ⟨p2, p, _, _, rfl, rfl, z2, upd_same, small (by have := hlen'; simp at this; show 1 + _ ≤ 1000; omega), fun p5 hp5 => ?_⟩
    have s5 := s2.trans ((same_new hp (.lst ws)).trans (same_new hp5 (.lst ([v1] ++ ws))))
    refine k p5 _ _ s5 ((s2.trans (same_new hp (.lst ws))).free hp5) upd_same ?_
    exact .cons (e1.same s5) (r4.same ((same_new hp _).trans (same_new hp5 _)))
  case fold x y =>
    have hk : ks.length = 3 := by simpa [arOk] using ar
    match ks, hk with
    | [k0, k1, k2], hk =>
    unfold encH at hv
    obtain ⟨a, vs, rfl, hS, hr0⟩ := hv.inv_t
    obtain ⟨v0, q0, rfl, e0, hr1⟩ := Rps.inv hr0
    obtain ⟨v1, q1, rfl, e1, hr2⟩ := Rps.inv hr1
    obtain ⟨v2, q2, rfl, e2, hr3⟩ := Rps.inv hr2
    obtain ⟨v3, q3, rfl, e3, hr4⟩ := Rps.inv hr3
    obtain ⟨v4, q4, rfl, e4, hr5⟩ := Rps.inv hr4
    obtain ⟨v5, q5, rfl, e5, hr6⟩ := Rps.inv hr5
    obtain rfl := e0.inv_s
    obtain rfl := hr6.inv0
    refine ⟨_, rfl, a, _, 0, _, rfl, rfl, hS, rfl, (by show 3 ≤ sizeLine; decide), fun p1 hp1 => ⟨p1, _, rfl, .inr (SqT.of upd_same), rfl, rfl, _, rfl, ifF (by decide +kernel) ?_⟩⟩
    have s1 := same_new hp1 (.tup [.str "row", .str "tag", .str "call"])
    refine ⟨_, rfl, a, _, 0, _, rfl, rfl, hS.same s1, rfl, rfl, _, rfl, ifF (by decide +kernel) ?_⟩
    refine ⟨_, rfl, a, _, 0, _, rfl, rfl, hS.same s1, rfl, rfl, _, rfl, ifT (by decide +kernel) ?_⟩
    refine ⟨_, rfl, a, _, 1, _, rfl, rfl, hS.same s1, rfl, _, rfl, a, _, 4, _, rfl, rfl, hS.same s1, rfl, _, rfl, a, _, 5, _, rfl, rfl, hS.same s1, rfl, (by show 3 ≤ sizeLine; decide), fun p2 hp2 => ?_⟩
    have s2 := s1.trans (same_new hp2 (.lst [v1, v4, v5]))
    exact k p2 _ _ s2 (s1.free hp2) upd_same (.cons (e1.same s2) (.cons (e4.same s2) (.one (e5.same s2))))
  case num n =>
    have hk : ks.length = 0 := by simpa [arOk] using ar
    match ks, hk with
    | [], hk =>
    unfold encH at hv
    obtain ⟨a, vs, rfl, hS, hr0⟩ := hv.inv_t
    obtain ⟨v0, q0, rfl, e0, hr1⟩ := Rps.inv hr0
    obtain ⟨v1, q1, rfl, e1, hr2⟩ := Rps.inv hr1
    obtain rfl := e0.inv_s
    obtain rfl := hr2.inv0
    refine ⟨_, rfl, a, _, 0, _, rfl, rfl, hS, rfl, (by show 3 ≤ sizeLine; decide), fun p1 hp1 => ⟨p1, _, rfl, .inr (SqT.of upd_same), rfl, rfl, _, rfl, ifF (by decide +kernel) ?_⟩⟩
    have s1 := same_new hp1 (.tup [.str "row", .str "tag", .str "call"])
    refine ⟨_, rfl, a, _, 0, _, rfl, rfl, hS.same s1, rfl, rfl, _, rfl, ifF (by decide +kernel) ?_⟩
    refine ⟨_, rfl, a, _, 0, _, rfl, rfl, hS.same s1, rfl, rfl, _, rfl, ifF (by decide +kernel) ?_⟩
    refine ⟨_, rfl, a, _, 0, _, rfl, rfl, (hS.same s1), rfl, (by show 3 ≤ sizeLine; decide), fun p2 hp2 => ⟨p2, _, rfl, .inr (SqT.of upd_same), rfl, rfl, _, rfl, ifT (by decide +kernel) ?_⟩⟩
    have s2 := s1.trans (same_new hp2 (.tup [.str "num", .str "name", .str "gap"]))
    refine ⟨Nat.zero_le _, fun p3 hp3 => ?_⟩
    exact k p3 _ _ (s2.trans (same_new hp3 _)) (s2.free hp3) upd_same .nil
  case name x =>
    have hk : ks.length = 0 := by simpa [arOk] using ar
    match ks, hk with
    | [], hk =>
    unfold encH at hv
    obtain ⟨a, vs, rfl, hS, hr0⟩ := hv.inv_t
    obtain ⟨v0, q0, rfl, e0, hr1⟩ := Rps.inv hr0
    obtain ⟨v1, q1, rfl, e1, hr2⟩ := Rps.inv hr1
    obtain rfl := e0.inv_s
    obtain rfl := hr2.inv0
    refine ⟨_, rfl, a, _, 0, _, rfl, rfl, hS, rfl, (by show 3 ≤ sizeLine; decide), fun p1 hp1 => ⟨p1, _, rfl, .inr (SqT.of upd_same), rfl, rfl, _, rfl, ifF (by decide +kernel) ?_⟩⟩
    have s1 := same_new hp1 (.tup [.str "row", .str "tag", .str "call"])
    refine ⟨_, rfl, a, _, 0, _, rfl, rfl, hS.same s1, rfl, rfl, _, rfl, ifF (by decide +kernel) ?_⟩
    refine ⟨_, rfl, a, _, 0, _, rfl, rfl, hS.same s1, rfl, rfl, _, rfl, ifF (by decide +kernel) ?_⟩
    refine ⟨_, rfl, a, _, 0, _, rfl, rfl, (hS.same s1), rfl, (by show 3 ≤ sizeLine; decide), fun p2 hp2 => ⟨p2, _, rfl, .inr (SqT.of upd_same), rfl, rfl, _, rfl, ifT (by decide +kernel) ?_⟩⟩
    have s2 := s1.trans (same_new hp2 (.tup [.str "num", .str "name", .str "gap"]))
    refine ⟨Nat.zero_le _, fun p3 hp3 => ?_⟩
    exact k p3 _ _ (s2.trans (same_new hp3 _)) (s2.free hp3) upd_same .nil
  case gap n =>
    have hk : ks.length = 0 := by simpa [arOk] using ar
    match ks, hk with
    | [], hk =>
    unfold encH at hv
    obtain ⟨a, vs, rfl, hS, hr0⟩ := hv.inv_t
    obtain ⟨v0, q0, rfl, e0, hr1⟩ := Rps.inv hr0
    obtain ⟨v1, q1, rfl, e1, hr2⟩ := Rps.inv hr1
    obtain rfl := e0.inv_s
    obtain rfl := hr2.inv0
    refine ⟨_, rfl, a, _, 0, _, rfl, rfl, hS, rfl, (by show 3 ≤ sizeLine; decide), fun p1 hp1 => ⟨p1, _, rfl, .inr (SqT.of upd_same), rfl, rfl, _, rfl, ifF (by decide +kernel) ?_⟩⟩
    have s1 := same_new hp1 (.tup [.str "row", .str "tag", .str "call"])
    refine ⟨_, rfl, a, _, 0, _, rfl, rfl, hS.same s1, rfl, rfl, _, rfl, ifF (by decide +kernel) ?_⟩
    refine ⟨_, rfl, a, _, 0, _, rfl, rfl, hS.same s1, rfl, rfl, _, rfl, ifF (by decide +kernel) ?_⟩
    refine ⟨_, rfl, a, _, 0, _, rfl, rfl, (hS.same s1), rfl, (by show 3 ≤ sizeLine; decide), fun p2 hp2 => ⟨p2, _, rfl, .inr (SqT.of upd_same), rfl, rfl, _, rfl, ifT (by decide +kernel) ?_⟩⟩
    have s2 := s1.trans (same_new hp2 (.tup [.str "num", .str "name", .str "gap"]))
    refine ⟨Nat.zero_le _, fun p3 hp3 => ?_⟩
    exact k p3 _ _ (s2.trans (same_new hp3 _)) (s2.free hp3) upd_same .nil
  case op s =>
    have hk : ks.length = 2 := by simpa [arOk] using ar
    match ks, hk with
    | [k0, k1], hk =>
    unfold encH at hv
    obtain ⟨a, vs, rfl, hS, hr0⟩ := hv.inv_t
    obtain ⟨v0, q0, rfl, e0, hr1⟩ := Rps.inv hr0
    obtain ⟨v1, q1, rfl, e1, hr2⟩ := Rps.inv hr1
    obtain ⟨v2, q2, rfl, e2, hr3⟩ := Rps.inv hr2
    obtain ⟨v3, q3, rfl, e3, hr4⟩ := Rps.inv hr3
    obtain rfl := e0.inv_s
    obtain rfl := hr4.inv0
    refine ⟨_, rfl, a, _, 0, _, rfl, rfl, hS, rfl, (by show 3 ≤ sizeLine; decide), fun p1 hp1 => ⟨p1, _, rfl, .inr (SqT.of upd_same), rfl, rfl, _, rfl, ifF (by decide +kernel) ?_⟩⟩
    have s1 := same_new hp1 (.tup [.str "row", .str "tag", .str "call"])
    refine ⟨_, rfl, a, _, 0, _, rfl, rfl, hS.same s1, rfl, rfl, _, rfl, ifF (by decide +kernel) ?_⟩
    refine ⟨_, rfl, a, _, 0, _, rfl, rfl, hS.same s1, rfl, rfl, _, rfl, ifF (by decide +kernel) ?_⟩
    refine ⟨_, rfl, a, _, 0, _, rfl, rfl, (hS.same s1), rfl, (by show 3 ≤ sizeLine; decide), fun p2 hp2 => ⟨p2, _, rfl, .inr (SqT.of upd_same), rfl, rfl, _, rfl, ifF (by decide +kernel) ?_⟩⟩
    have s2 := s1.trans (same_new hp2 (.tup [.str "num", .str "name", .str "gap"]))
    refine ⟨_, rfl, _, rfl, a, _, 0, _, rfl, rfl, hS.same s2, rfl, (by show 2 ≤ sizeLine; decide), fun p3 hp3 => ⟨p3, _, rfl, .inr (SqT.of upd_same), rfl, rfl, .inr ⟨_, rfl, _, _, rfl, rfl, _, rfl, ?_⟩⟩⟩
    have s3 := s2.trans (same_new hp3 (.tup [.str "op", .str "let"]))
    refine ⟨a, _, rfl, hS.same s3, cut_not _ 2 (by decide) (by simp), fun p4 hp4 => ?_⟩
    have s4 := s3.trans (same_new hp4 (.tup (cutV [.str "op", v1, v2, v3] (some (2 : Nat)) none)))
    refine ⟨p4, _, rfl, .inr (SqT.of upd_same), fun l hl => ?_⟩
    refine k l _ _ (s4.trans (same_new hl _)) (s4.free hl) upd_same ?_
    have z := Rps.same (K := K) (s4.trans (same_new hl (.lst (cutV [.str "op", v1, v2, v3] (some ((2 : Nat) : Int)) none)))) (.cons e2 (.cons e3 .nil))
    have cc : cutV [.str "op", v1, v2, v3] (some ((2 : Nat) : Int)) none = [v2, v3] := cut_from _ 2
    rw [cc] at z
    show Rps K _ _ (cutV [.str "op", v1, v2, v3] (some ((2 : Nat) : Int)) none)
    rw [cc]
    exact z
  case more =>
    have hk : ks.length = 2 := by simpa [arOk] using ar
    match ks, hk with
    | [k0, k1], hk =>
    unfold encH at hv
    obtain ⟨a, vs, rfl, hS, hr0⟩ := hv.inv_t
    obtain ⟨v0, q0, rfl, e0, hr1⟩ := Rps.inv hr0
    obtain ⟨v1, q1, rfl, e1, hr2⟩ := Rps.inv hr1
    obtain ⟨v2, q2, rfl, e2, hr3⟩ := Rps.inv hr2
    obtain rfl := e0.inv_s
    obtain rfl := hr3.inv0
    refine ⟨_, rfl, a, _, 0, _, rfl, rfl, hS, rfl, (by show 3 ≤ sizeLine; decide), fun p1 hp1 => ⟨p1, _, rfl, .inr (SqT.of upd_same), rfl, rfl, _, rfl, ifF (by decide +kernel) ?_⟩⟩
    have s1 := same_new hp1 (.tup [.str "row", .str "tag", .str "call"])
    refine ⟨_, rfl, a, _, 0, _, rfl, rfl, hS.same s1, rfl, rfl, _, rfl, ifF (by decide +kernel) ?_⟩
    refine ⟨_, rfl, a, _, 0, _, rfl, rfl, hS.same s1, rfl, rfl, _, rfl, ifF (by decide +kernel) ?_⟩
    refine ⟨_, rfl, a, _, 0, _, rfl, rfl, (hS.same s1), rfl, (by show 3 ≤ sizeLine; decide), fun p2 hp2 => ⟨p2, _, rfl, .inr (SqT.of upd_same), rfl, rfl, _, rfl, ifF (by decide +kernel) ?_⟩⟩
    have s2 := s1.trans (same_new hp2 (.tup [.str "num", .str "name", .str "gap"]))
    refine ⟨_, rfl, _, rfl, a, _, 0, _, rfl, rfl, hS.same s2, rfl, (by show 2 ≤ sizeLine; decide), fun p3 hp3 => ⟨p3, _, rfl, .inr (SqT.of upd_same), rfl, rfl, .inr ⟨_, rfl, _, _, rfl, rfl, _, rfl, ?_⟩⟩⟩
    have s3 := s2.trans (same_new hp3 (.tup [.str "op", .str "let"]))
    refine ⟨a, _, rfl, hS.same s3, cut_not _ 1 (by decide) (by simp), fun p4 hp4 => ?_⟩
    have s4 := s3.trans (same_new hp4 (.tup (cutV [.str "more", v1, v2] (some (1 : Nat)) none)))
    refine ⟨p4, _, rfl, .inr (SqT.of upd_same), fun l hl => ?_⟩
    refine k l _ _ (s4.trans (same_new hl _)) (s4.free hl) upd_same ?_
    have z := Rps.same (K := K) (s4.trans (same_new hl (.lst (cutV [.str "more", v1, v2] (some ((1 : Nat) : Int)) none)))) (.cons e1 (.cons e2 .nil))
    have cc : cutV [.str "more", v1, v2] (some ((1 : Nat) : Int)) none = [v1, v2] := cut_from _ 1
    rw [cc] at z
    show Rps K _ _ (cutV [.str "more", v1, v2] (some ((1 : Nat) : Int)) none)
    rw [cc]
    exact z
  case first =>
    have hk : ks.length = 1 := by simpa [arOk] using ar
    match ks, hk with
    | [k0], hk =>
    unfold encH at hv
    obtain ⟨a, vs, rfl, hS, hr0⟩ := hv.inv_t
    obtain ⟨v0, q0, rfl, e0, hr1⟩ := Rps.inv hr0
    obtain ⟨v1, q1, rfl, e1, hr2⟩ := Rps.inv hr1
    obtain rfl := e0.inv_s
    obtain rfl := hr2.inv0
    refine ⟨_, rfl, a, _, 0, _, rfl, rfl, hS, rfl, (by show 3 ≤ sizeLine; decide), fun p1 hp1 => ⟨p1, _, rfl, .inr (SqT.of upd_same), rfl, rfl, _, rfl, ifF (by decide +kernel) ?_⟩⟩
    have s1 := same_new hp1 (.tup [.str "row", .str "tag", .str "call"])
    refine ⟨_, rfl, a, _, 0, _, rfl, rfl, hS.same s1, rfl, rfl, _, rfl, ifF (by decide +kernel) ?_⟩
    refine ⟨_, rfl, a, _, 0, _, rfl, rfl, hS.same s1, rfl, rfl, _, rfl, ifF (by decide +kernel) ?_⟩
    refine ⟨_, rfl, a, _, 0, _, rfl, rfl, (hS.same s1), rfl, (by show 3 ≤ sizeLine; decide), fun p2 hp2 => ⟨p2, _, rfl, .inr (SqT.of upd_same), rfl, rfl, _, rfl, ifF (by decide +kernel) ?_⟩⟩
    have s2 := s1.trans (same_new hp2 (.tup [.str "num", .str "name", .str "gap"]))
    refine ⟨_, rfl, _, rfl, a, _, 0, _, rfl, rfl, hS.same s2, rfl, (by show 2 ≤ sizeLine; decide), fun p3 hp3 => ⟨p3, _, rfl, .inr (SqT.of upd_same), rfl, rfl, .inr ⟨_, rfl, _, _, rfl, rfl, _, rfl, ?_⟩⟩⟩
    have s3 := s2.trans (same_new hp3 (.tup [.str "op", .str "let"]))
    refine ⟨a, _, rfl, hS.same s3, cut_not _ 1 (by decide) (by simp), fun p4 hp4 => ?_⟩
    have s4 := s3.trans (same_new hp4 (.tup (cutV [.str "first", v1] (some (1 : Nat)) none)))
    refine ⟨p4, _, rfl, .inr (SqT.of upd_same), fun l hl => ?_⟩
    refine k l _ _ (s4.trans (same_new hl _)) (s4.free hl) upd_same ?_
    have z := Rps.same (K := K) (s4.trans (same_new hl (.lst (cutV [.str "first", v1] (some ((1 : Nat) : Int)) none)))) (.cons e1 .nil)
    have cc : cutV [.str "first", v1] (some ((1 : Nat) : Int)) none = [v1] := cut_from _ 1
    rw [cc] at z
    show Rps K _ _ (cutV [.str "first", v1] (some ((1 : Nat) : Int)) none)
    rw [cc]
    exact z
  case others =>
    have hk : ks.length = 1 := by simpa [arOk] using ar
    match ks, hk with
    | [k0], hk =>
    unfold encH at hv
    obtain ⟨a, vs, rfl, hS, hr0⟩ := hv.inv_t
    obtain ⟨v0, q0, rfl, e0, hr1⟩ := Rps.inv hr0
    obtain ⟨v1, q1, rfl, e1, hr2⟩ := Rps.inv hr1
    obtain rfl := e0.inv_s
    obtain rfl := hr2.inv0
    refine ⟨_, rfl, a, _, 0, _, rfl, rfl, hS, rfl, (by show 3 ≤ sizeLine; decide), fun p1 hp1 => ⟨p1, _, rfl, .inr (SqT.of upd_same), rfl, rfl, _, rfl, ifF (by decide +kernel) ?_⟩⟩
    have s1 := same_new hp1 (.tup [.str "row", .str "tag", .str "call"])
    refine ⟨_, rfl, a, _, 0, _, rfl, rfl, hS.same s1, rfl, rfl, _, rfl, ifF (by decide +kernel) ?_⟩
    refine ⟨_, rfl, a, _, 0, _, rfl, rfl, hS.same s1, rfl, rfl, _, rfl, ifF (by decide +kernel) ?_⟩
    refine ⟨_, rfl, a, _, 0, _, rfl, rfl, (hS.same s1), rfl, (by show 3 ≤ sizeLine; decide), fun p2 hp2 => ⟨p2, _, rfl, .inr (SqT.of upd_same), rfl, rfl, _, rfl, ifF (by decide +kernel) ?_⟩⟩
    have s2 := s1.trans (same_new hp2 (.tup [.str "num", .str "name", .str "gap"]))
    refine ⟨_, rfl, _, rfl, a, _, 0, _, rfl, rfl, hS.same s2, rfl, (by show 2 ≤ sizeLine; decide), fun p3 hp3 => ⟨p3, _, rfl, .inr (SqT.of upd_same), rfl, rfl, .inr ⟨_, rfl, _, _, rfl, rfl, _, rfl, ?_⟩⟩⟩
    have s3 := s2.trans (same_new hp3 (.tup [.str "op", .str "let"]))
    refine ⟨a, _, rfl, hS.same s3, cut_not _ 1 (by decide) (by simp), fun p4 hp4 => ?_⟩
    have s4 := s3.trans (same_new hp4 (.tup (cutV [.str "others", v1] (some (1 : Nat)) none)))
    refine ⟨p4, _, rfl, .inr (SqT.of upd_same), fun l hl => ?_⟩
    refine k l _ _ (s4.trans (same_new hl _)) (s4.free hl) upd_same ?_
    have z := Rps.same (K := K) (s4.trans (same_new hl (.lst (cutV [.str "others", v1] (some ((1 : Nat) : Int)) none)))) (.cons e1 .nil)
    have cc : cutV [.str "others", v1] (some ((1 : Nat) : Int)) none = [v1] := cut_from _ 1
    rw [cc] at z
    show Rps K _ _ (cutV [.str "others", v1] (some ((1 : Nat) : Int)) none)
    rw [cc]
    exact z
  case long =>
    have hk : ks.length = 1 := by simpa [arOk] using ar
    match ks, hk with
    | [k0], hk =>
    unfold encH at hv
    obtain ⟨a, vs, rfl, hS, hr0⟩ := hv.inv_t
    obtain ⟨v0, q0, rfl, e0, hr1⟩ := Rps.inv hr0
    obtain ⟨v1, q1, rfl, e1, hr2⟩ := Rps.inv hr1
    obtain rfl := e0.inv_s
    obtain rfl := hr2.inv0
    refine ⟨_, rfl, a, _, 0, _, rfl, rfl, hS, rfl, (by show 3 ≤ sizeLine; decide), fun p1 hp1 => ⟨p1, _, rfl, .inr (SqT.of upd_same), rfl, rfl, _, rfl, ifF (by decide +kernel) ?_⟩⟩
    have s1 := same_new hp1 (.tup [.str "row", .str "tag", .str "call"])
    refine ⟨_, rfl, a, _, 0, _, rfl, rfl, hS.same s1, rfl, rfl, _, rfl, ifF (by decide +kernel) ?_⟩
    refine ⟨_, rfl, a, _, 0, _, rfl, rfl, hS.same s1, rfl, rfl, _, rfl, ifF (by decide +kernel) ?_⟩
    refine ⟨_, rfl, a, _, 0, _, rfl, rfl, (hS.same s1), rfl, (by show 3 ≤ sizeLine; decide), fun p2 hp2 => ⟨p2, _, rfl, .inr (SqT.of upd_same), rfl, rfl, _, rfl, ifF (by decide +kernel) ?_⟩⟩
    have s2 := s1.trans (same_new hp2 (.tup [.str "num", .str "name", .str "gap"]))
    refine ⟨_, rfl, _, rfl, a, _, 0, _, rfl, rfl, hS.same s2, rfl, (by show 2 ≤ sizeLine; decide), fun p3 hp3 => ⟨p3, _, rfl, .inr (SqT.of upd_same), rfl, rfl, .inr ⟨_, rfl, _, _, rfl, rfl, _, rfl, ?_⟩⟩⟩
    have s3 := s2.trans (same_new hp3 (.tup [.str "op", .str "let"]))
    refine ⟨a, _, rfl, hS.same s3, cut_not _ 1 (by decide) (by simp), fun p4 hp4 => ?_⟩
    have s4 := s3.trans (same_new hp4 (.tup (cutV [.str "long", v1] (some (1 : Nat)) none)))
    refine ⟨p4, _, rfl, .inr (SqT.of upd_same), fun l hl => ?_⟩
    refine k l _ _ (s4.trans (same_new hl _)) (s4.free hl) upd_same ?_
    have z := Rps.same (K := K) (s4.trans (same_new hl (.lst (cutV [.str "long", v1] (some ((1 : Nat) : Int)) none)))) (.cons e1 .nil)
    have cc : cutV [.str "long", v1] (some ((1 : Nat) : Int)) none = [v1] := cut_from _ 1
    rw [cc] at z
    show Rps K _ _ (cutV [.str "long", v1] (some ((1 : Nat) : Int)) none)
    rw [cc]
    exact z
  case ife =>
    have hk : ks.length = 3 := by simpa [arOk] using ar
    match ks, hk with
    | [k0, k1, k2], hk =>
    unfold encH at hv
    obtain ⟨a, vs, rfl, hS, hr0⟩ := hv.inv_t
    obtain ⟨v0, q0, rfl, e0, hr1⟩ := Rps.inv hr0
    obtain ⟨v1, q1, rfl, e1, hr2⟩ := Rps.inv hr1
    obtain ⟨v2, q2, rfl, e2, hr3⟩ := Rps.inv hr2
    obtain ⟨v3, q3, rfl, e3, hr4⟩ := Rps.inv hr3
    obtain rfl := e0.inv_s
    obtain rfl := hr4.inv0
    refine ⟨_, rfl, a, _, 0, _, rfl, rfl, hS, rfl, (by show 3 ≤ sizeLine; decide), fun p1 hp1 => ⟨p1, _, rfl, .inr (SqT.of upd_same), rfl, rfl, _, rfl, ifF (by decide +kernel) ?_⟩⟩
    have s1 := same_new hp1 (.tup [.str "row", .str "tag", .str "call"])
    refine ⟨_, rfl, a, _, 0, _, rfl, rfl, hS.same s1, rfl, rfl, _, rfl, ifF (by decide +kernel) ?_⟩
    refine ⟨_, rfl, a, _, 0, _, rfl, rfl, hS.same s1, rfl, rfl, _, rfl, ifF (by decide +kernel) ?_⟩
    refine ⟨_, rfl, a, _, 0, _, rfl, rfl, (hS.same s1), rfl, (by show 3 ≤ sizeLine; decide), fun p2 hp2 => ⟨p2, _, rfl, .inr (SqT.of upd_same), rfl, rfl, _, rfl, ifF (by decide +kernel) ?_⟩⟩
    have s2 := s1.trans (same_new hp2 (.tup [.str "num", .str "name", .str "gap"]))
    refine ⟨_, rfl, _, rfl, a, _, 0, _, rfl, rfl, hS.same s2, rfl, (by show 2 ≤ sizeLine; decide), fun p3 hp3 => ⟨p3, _, rfl, .inr (SqT.of upd_same), rfl, rfl, .inr ⟨_, rfl, _, _, rfl, rfl, _, rfl, ?_⟩⟩⟩
    have s3 := s2.trans (same_new hp3 (.tup [.str "op", .str "let"]))
    refine ⟨a, _, rfl, hS.same s3, cut_not _ 1 (by decide) (by simp), fun p4 hp4 => ?_⟩
    have s4 := s3.trans (same_new hp4 (.tup (cutV [.str "if", v1, v2, v3] (some (1 : Nat)) none)))
    refine ⟨p4, _, rfl, .inr (SqT.of upd_same), fun l hl => ?_⟩
    refine k l _ _ (s4.trans (same_new hl _)) (s4.free hl) upd_same ?_
    have z := Rps.same (K := K) (s4.trans (same_new hl (.lst (cutV [.str "if", v1, v2, v3] (some ((1 : Nat) : Int)) none)))) (.cons e1 (.cons e2 (.cons e3 .nil)))
    have cc : cutV [.str "if", v1, v2, v3] (some ((1 : Nat) : Int)) none = [v1, v2, v3] := cut_from _ 1
    rw [cc] at z
    show Rps K _ _ (cutV [.str "if", v1, v2, v3] (some ((1 : Nat) : Int)) none)
    rw [cc]
    exact z
  case lt x =>
    have hk : ks.length = 2 := by simpa [arOk] using ar
    match ks, hk with
    | [k0, k1], hk =>
    unfold encH at hv
    obtain ⟨a, vs, rfl, hS, hr0⟩ := hv.inv_t
    obtain ⟨v0, q0, rfl, e0, hr1⟩ := Rps.inv hr0
    obtain ⟨v1, q1, rfl, e1, hr2⟩ := Rps.inv hr1
    obtain ⟨v2, q2, rfl, e2, hr3⟩ := Rps.inv hr2
    obtain ⟨v3, q3, rfl, e3, hr4⟩ := Rps.inv hr3
    obtain rfl := e0.inv_s
    obtain rfl := hr4.inv0
    refine ⟨_, rfl, a, _, 0, _, rfl, rfl, hS, rfl, (by show 3 ≤ sizeLine; decide), fun p1 hp1 => ⟨p1, _, rfl, .inr (SqT.of upd_same), rfl, rfl, _, rfl, ifF (by decide +kernel) ?_⟩⟩
    have s1 := same_new hp1 (.tup [.str "row", .str "tag", .str "call"])
    refine ⟨_, rfl, a, _, 0, _, rfl, rfl, hS.same s1, rfl, rfl, _, rfl, ifF (by decide +kernel) ?_⟩
    refine ⟨_, rfl, a, _, 0, _, rfl, rfl, hS.same s1, rfl, rfl, _, rfl, ifF (by decide +kernel) ?_⟩
    refine ⟨_, rfl, a, _, 0, _, rfl, rfl, (hS.same s1), rfl, (by show 3 ≤ sizeLine; decide), fun p2 hp2 => ⟨p2, _, rfl, .inr (SqT.of upd_same), rfl, rfl, _, rfl, ifF (by decide +kernel) ?_⟩⟩
    have s2 := s1.trans (same_new hp2 (.tup [.str "num", .str "name", .str "gap"]))
    refine ⟨_, rfl, _, rfl, a, _, 0, _, rfl, rfl, hS.same s2, rfl, (by show 2 ≤ sizeLine; decide), fun p3 hp3 => ⟨p3, _, rfl, .inr (SqT.of upd_same), rfl, rfl, .inr ⟨_, rfl, _, _, rfl, rfl, _, rfl, ?_⟩⟩⟩
    have s3 := s2.trans (same_new hp3 (.tup [.str "op", .str "let"]))
    refine ⟨a, _, rfl, hS.same s3, cut_not _ 2 (by decide) (by simp), fun p4 hp4 => ?_⟩
    have s4 := s3.trans (same_new hp4 (.tup (cutV [.str "let", v1, v2, v3] (some (2 : Nat)) none)))
    refine ⟨p4, _, rfl, .inr (SqT.of upd_same), fun l hl => ?_⟩
    refine k l _ _ (s4.trans (same_new hl _)) (s4.free hl) upd_same ?_
    have z := Rps.same (K := K) (s4.trans (same_new hl (.lst (cutV [.str "let", v1, v2, v3] (some ((2 : Nat) : Int)) none)))) (.cons e2 (.cons e3 .nil))
    have cc : cutV [.str "let", v1, v2, v3] (some ((2 : Nat) : Int)) none = [v2, v3] := cut_from _ 2
    rw [cc] at z
    show Rps K _ _ (cutV [.str "let", v1, v2, v3] (some ((2 : Nat) : Int)) none)
    rw [cc]
    exact z
end
end G02

namespace G02
open PySem L2
def bestOf : List (Nat × Tm) → Nat
  | [] => 0
  | p :: r => max (p.1 + p.2.depth) (bestOf r)
theorem bestOf_append : ∀ a b : List (Nat × Tm), bestOf (a ++ b) = max (bestOf a) (bestOf b)
  | [], b => by simp [bestOf]
  | p :: r, b => by rw [List.cons_append]; simp only [bestOf]; rw [bestOf_append r b]; omega
theorem bestOf_kids (d : Nat) : ∀ (ks : List Tm), ks ≠ [] → bestOf (ks.map fun k => (d + 1, k)) = d + 1 + Tm.depths ks
  | [], h => absurd rfl h
  | [k], _ => by simp [bestOf, Tm.depths]
  | k :: k2 :: r, _ => by
    have z := bestOf_kids d (k2 :: r) (by simp)
    rw [List.map_cons]
    simp only [bestOf]
    rw [z, show Tm.depths (k :: k2 :: r) = max k.depth (Tm.depths (k2 :: r)) by rw [Tm.depths]]
    omega
theorem best_step (d : Nat) (tm : Tm) : max d (bestOf (tm.ks.map fun k => (d + 1, k))) = d + tm.depth := by
  cases tm with
  | mk h ks =>
    cases ks with
    | nil => simp [Tm.ks, bestOf, Tm.depth]
    | cons k r =>
      show max d (bestOf ((k :: r).map _)) = _
      rw [bestOf_kids d (k :: r) (by simp), Tm.depth_cons]
      omega
def dT (p : Nat × Tm) : T := .t [.i (p.1 : Int), enc p.2]
def hdS : Hd → Str
  | .num _ => "num" | .name _ => "name" | .gap _ => "gap" | .op _ => "op" | .row => "row" | .more => "more" | .first => "first" | .others => "others" | .long => "long" | .tag _ => "tag" | .call _ => "call" | .mat _ => "match" | .ife => "if" | .lt _ => "let" | .fold _ _ => "fold"
theorem enc_shape (tm : Tm) : ∃ rest, enc tm = .t (.s (hdS tm.hd) :: rest) := by
  cases tm with
  | mk h ks => rw [enc_mk]; cases h <;> exact ⟨_, rfl⟩
theorem gap_iff (tm : Tm) : decide (V.str (hdS tm.hd) = V.str "gap") = (gapOf tm).isSome := by
  cases tm with
  | mk h ks => cases h <;> first | rfl | decide +kernel | (show decide (V.str _ = V.str _) = _; exact (by decide +kernel))
theorem parts_wf (tm : Tm) : Wf tm → ∀ k ∈ tm.parts, Wf k := by
  induction tm using Tm.induct with
  | hm h ks ih =>
    intro wf k hk
    rw [Tm.parts_eq] at hk
    cases hk with
    | head => exact wf
    | tail _ hk =>
      have wk := Wf.kids wf
      have : ∀ l : List Tm, (∀ x ∈ l, Wf x ∧ (Wf x → ∀ k ∈ x.parts, Wf k)) → k ∈ Tm.partss l → Wf k := by
        intro l hl
        induction l with
        | nil => intro z; simp [Tm.partss] at z
        | cons x r ih2 =>
          intro z
          rw [Tm.partss_cons] at z
          rcases List.mem_append.mp z with z | z
          · exact (hl x (.head _)).2 (hl x (.head _)).1 k z
          · exact ih2 (fun y hy => hl y (.tail _ hy)) z
      exact this ks (fun x hx => ⟨wk x hx, ih x hx⟩) hk
/-- [(depth + 1, inner) for inner in list] -/
theorem comp_deeper1 {K : PySem.W.Frag} {Q : VK} {H0 : Hp} {a : Addr} {d : Int} {ps : List Tm} {vs : List V} (hS : H0 a = some (.lst vs)) (hr : Rps K H0 (ps.map enc) vs) (hlen : ps.length ≤ 1000)
    (k : ∀ (p : Addr) (H' : Hp) (ws : List V), Same H0 H' → H' p = some (.lst ws) → Rps K H' (ps.map fun p => T.t [.i (d + 1), enc p]) ws → Q (.ref p) H') :
    CompW (Itl K a) (gName 0) tNoIf (tTup (tCons (tOp (rI0 fun i j => .int (i + j)) (tVar 1) (tC (.int 1))) (tCons (tVar 0) tNil))) Q [none, some (.int d)] H0 := by
  have l := hr.length
  rw [List.length_map] at l
  refine comp_list (xs := vs) (fun i σ us H2 => (∃ x, σ = [x, some (.int d)]) ∧ Same H0 H2 ∧ Rps K H2 ((ps.take i).map fun p => T.t [.i (d + 1), enc p]) us) ⟨⟨none, rfl⟩, Same.refl _, .nil⟩ ?_ (small (by omega)) ?_ ?_ ?_
  · rintro i σ us H2 hi ⟨_, _, r⟩
    rw [r.length, List.length_map, List.length_take]; omega
  · rintro i σ us H2 hi ⟨_, e, _⟩
    exact SqL.of (e _ _ hS)
  · rintro i x σ us H2 hx ⟨⟨x0, rfl⟩, e, r⟩
    obtain ⟨y, hy, ry⟩ := hr.get' hx
    rw [List.getElem?_map] at hy
    obtain ⟨pr, hp, rfl⟩ := Option.map_eq_some_iff.mp hy
    have hil : i < ps.length := (List.getElem?_eq_some_iff.mp hp).1
    have ep : ps[i] = pr := (List.getElem?_eq_some_iff.mp hp).2
    refine ⟨_, rfl, _, _, rfl, rfl, _, rfl, (by show 2 ≤ sizeLine; decide), fun t ht => ?_⟩
    refine ⟨⟨_, rfl⟩, e.trans (same_new ht _), ?_⟩
    rw [List.take_succ_eq_append_getElem hil, List.map_append, ep]
    exact (r.same (same_new ht _)).snoc (Rp.new ht (.cons .i (.one (ry.same e))))
  · rintro σ us H2 ⟨_, e, r⟩ p hp
    rw [l, List.take_length] at r
    exact k p _ us (e.trans (same_new hp _)) upd_same (r.same (same_new hp _))
section
variable {P : Program} {w : World} {K : PySem.W.Frag} {mg : Str → Option Value} {base : Heap} {gR gP : Addr} {rfd pfd : FuncData}
theorem scDeep : FnScope ["term", "deepest", "waiting", "depth", "here"] ["term"] (defScope s_deep) := ⟨rfl, rfl, rfl, by decide +kernel, rfl, by decide +kernel, by decide +kernel⟩
theorem ok_deep {f : Addr} {fd : FuncData} (F : Fun K "deep" "deep" s_deep f fd) (IN : Has P w K mg base "inner_terms" 2 ["term"] (spInner K) gR rfd) (z_max : mg "max" = none) : FnOk P w K mg base CX0 3 f fd ["term"] (spDeep K) := by
  refine F.ok scDeep (fun vs H Q E h => ?_) (fun cdv A outer s H vs Q E hr h => ?_)
  · obtain ⟨v, tm, rfl, _⟩ := h
    rfl
  obtain ⟨v, tm, rfl, hv, wf, hlen, k⟩ := h
  refine ⟨_, (pss_cons (ps_set (i := 1) scDeep.nd rfl (Or.inl rfl) pe_int)
    (pss_cons (ps_set (i := 2) scDeep.nd rfl (Or.inl rfl) (pe_lst (pa_cons (pe_tup (pa_cons pe_int (pa_cons (pv 0) pa_nil))) pa_nil)))
    (pss_cons (ps_while PassesOwn.never (pt_truth (pv 2) (fun _ => rfl))
      (pss_cons (ps_asg (pe_bm0 PySem.F.plainAttrs_list PySem.F.slot_list_pop PySem.F.type_list_pop mt_pop (pv 2)) (pg_tupK (n := 2) K rfl rfl (pgs_cons (pg_name (i := 3) scDeep.nd rfl (Or.inr rfl)) (pgs_cons (pg_name (i := 4) scDeep.nd rfl (Or.inl rfl)) pgs_nil))))
    (pss_cons (ps_set (i := 1) scDeep.nd rfl (Or.inl rfl) (pe_callB (call_max2 rfl) (by rfl) z_max PyProof.Rows.boot_max (pa_cons (pv 1) (pa_cons (pv 3) pa_nil))))
    (pss_one (ps_expr (pe_bm PySem.F.plainAttrs_list PySem.F.slot_list_extend PySem.F.type_list_extend mt_extend (pv 2) (pa_cons (pe_compC (defScope s_deep) ["term", "deepest", "waiting", "depth", "here"] ["inner"] [3] rfl rfl rfl (by decide +kernel) (pi_list (pe_call IN.ok (hr.mono (by omega)) rfl IN.at' IN.kp IN.bd .nil pass0 (pa_cons (pv 4) pa_nil))) (fun _ _ _ _ => (pg_name (i := 0) (show (["inner", "depth"] : List Str).Nodup by decide +kernel) rfl (Or.inl rfl))) (fun _ _ _ _ => pifs_nil) (fun _ _ _ _ => (pe_tup (pa_cons (pe_op op_add (pv 1) pe_int) (pa_cons (pv 0) pa_nil))))) pa_nil)))))))
    (pss_one (ps_ret (pv 1)))))), ?_⟩
  refine ⟨_, rfl, (by show 2 ≤ sizeLine; decide), fun p1 hp1 => ⟨(by show 1 ≤ sizeLine; decide), fun lw hlw => ?_⟩⟩
  have s1 := same_new hp1 (.tup [.int 0, v])
  have s2 := s1.trans (same_new hlw (.lst [.ref p1]))
  refine ⟨fun m σ H' => ∃ (st : List (Nat × Tm)) (us : List V) (b : Nat) (dv hv : Option V), σ = [some v, some (.int b), some (.ref lw), dv, hv] ∧ Same H H' ∧ H' lw = some (.lst us) ∧ Rps K H' (st.map dT) us ∧ (∀ p ∈ st, Wf p.2) ∧ max b (bestOf st) = tm.depth ∧ m = Tm.sizes (st.map (·.2)) ∧ m ≤ 900,
    ⟨tm.size, [(0, tm)], [.ref p1], 0, none, none, rfl, s2, upd_same, .one (Rp.same (same_new hlw _) (Rp.new hp1 (.cons .i (.one hv)))), (fun p hp => by cases hp with | head => exact wf | tail _ h => cases h), ?_, ?_, hlen⟩, ?_⟩
  · simp [bestOf]
  · simp [Tm.sizes]
  rintro m σ H' ⟨st, us, b, dv, h0, rfl, sm, h2, r2, wst, e1, rfl, e3⟩
  refine ⟨_, rfl, _, .inl ⟨us, SqL.of h2, rfl⟩, ?_⟩
  rcases List.eq_nil_or_concat st with rfl | ⟨st', ⟨d, hd⟩, rfl⟩
  · obtain rfl := r2.inv0
    refine ifF rfl ?_
    have z : b = tm.depth := by simpa [bestOf] using e1
    subst z
    exact ⟨_, rfl, k H' sm⟩
  rw [List.concat_eq_append] at *
  rw [List.map_append] at r2
  obtain ⟨us', ul, rfl, r3, r4⟩ := r2.split
  obtain ⟨u, q, rfl, ru, rq⟩ := (show Rps K H' [dT (d, hd)] ul from r4).inv
  obtain rfl := rq.inv0
  obtain ⟨ra, rvs, rfl, sq, rr⟩ := (show Rp K H' (.t [_, _]) u from ru).inv_t
  obtain ⟨t1, q1, rfl, g1, rr⟩ := rr.inv
  obtain ⟨t2, q2, rfl, g2, rr⟩ := rr.inv
  obtain rfl := rr.inv0
  obtain rfl := g1.inv_i
  have wh : Wf hd := wst (d, hd) (by simp)
  have esz : Tm.sizes ((st' ++ [(d, hd)]).map (·.2)) = Tm.sizes (st'.map (·.2)) + hd.size := by
    rw [List.map_append, Tm.sizes_append]; simp [Tm.sizes]
  have hk := ks_le hd
  refine ifT (by simp) ?_
  refine ⟨fun σ' H'' => ∃ m', m' < Tm.sizes ((st' ++ [(d, hd)]).map (·.2)) ∧ ∃ (st : List (Nat × Tm)) (us : List V) (b : Nat) (dv hv : Option V), σ' = [some v, some (.int b), some (.ref lw), dv, hv] ∧ Same H H'' ∧ H'' lw = some (.lst us) ∧ Rps K H'' (st.map dT) us ∧ (∀ p ∈ st, Wf p.2) ∧ max b (bestOf st) = tm.depth ∧ m' = Tm.sizes (st.map (·.2)) ∧ m' ≤ 900, fun _ _ z => z, ?_⟩
  have k3 : Kt H' (upd H' lw (.lst us')) := Kt.lst h2 _
  refine ⟨_, rfl, .inl ⟨rfl, _, SqL.of h2⟩, lw, _, .ref ra, rfl, rfl, h2, by simp, ra, [.int d, t2], rfl, ?_, rfl, _, _, rfl, _, _, rfl, rfl, ?_⟩
  · rw [List.dropLast_concat]; exact sq.kt k3
  rw [List.dropLast_concat]
  refine ⟨_, rfl, _, rfl, _, _, rfl, ?_⟩
  have emax : (if (d : Int) > (b : Int) then (d : Int) else (b : Int)) = ((max b d : Nat) : Int) := by split <;> omega
  rw [emax]
  have h3w : upd H' lw (.lst us') lw = some (.lst us') := upd_same
  have sm3 : Same H (upd H' lw (.lst us')) := fun b o e => by
    have n2 : b ≠ lw := fun z => by subst z; have := s1 _ _ e; rw [this] at hlw; cases hlw
    rw [upd_ne n2]; exact sm b o e
  generalize upd H' lw (.lst us') = H4 at k3 h3w sm3 ⊢
  refine ⟨_, rfl, .inl ⟨rfl, _, SqL.of h3w⟩, ?_⟩
  refine ⟨_, rfl, t2, hd, rfl, g2.kt k3, wh, by omega, fun p H5 vs5 s5 hp5 h5 r5 => ?_⟩
  refine ⟨p, rfl, ⟨_, SqL.of h5⟩, ?_⟩
  refine comp_deeper1 h5 r5 (by omega) fun p6 H6 ws6 s6 h6 r6 => ?_
  have e6 : hd.ks.map (fun p => T.t [.i ((d : Int) + 1), enc p]) = (hd.ks.map fun k => (d + 1, k)).map dT := by
    rw [List.map_map]; rfl
  rw [e6] at r6
  have l6 := r6.length
  rw [List.length_map, List.length_map] at l6
  have s56 := s5.trans s6
  have h6w := s56 _ _ h3w
  have l3 := r3.length
  rw [List.length_map] at l3
  have hst := len_sizes (st'.map (·.2))
  rw [List.length_map] at hst
  refine ⟨lw, p6, _, _, rfl, rfl, h6w, h6, small (by omega), ?_⟩
  have k8 : Kt H6 (upd H6 lw (.lst (us' ++ ws6))) := Kt.lst h6w _
  have ksz : Tm.sizes hd.ks + 1 = hd.size := by cases hd with | mk h ks => rw [Tm.size_mk]; rfl
  refine ⟨Tm.sizes (st'.map (·.2)) + Tm.sizes hd.ks, by omega, st' ++ hd.ks.map (fun k => (d + 1, k)), us' ++ ws6, max b d, _, _, rfl, ?_, upd_same, ?_, ?_, ?_, ?_, by omega⟩
  · intro b o e
    have n2 : b ≠ lw := fun z => by subst z; have := s1 _ _ e; rw [this] at hlw; cases hlw
    rw [upd_ne n2]; exact s56 b o (sm3 b o e)
  · rw [List.map_append]
    exact (r3.kt (k3.trans ((Kt.same s56).trans k8))).append (r6.kt k8)
  · intro x hx
    rcases List.mem_append.mp hx with h | h
    · exact wst x (List.mem_append_left _ h)
    · obtain ⟨y, hy, rfl⟩ := List.mem_map.mp h
      exact (Wf.kids wh) y hy
  · rw [← e1, bestOf_append, bestOf_append]
    have z := best_step d hd
    have e : bestOf [(d, hd)] = d + hd.depth := by simp [bestOf]
    rw [e, ← z]
    omega
  · rw [List.map_append, Tm.sizes_append, List.map_map]
    congr 2
    exact (List.map_id _).symm
theorem scGapsIn : FnScope ["term"] ["term"] (defScope s_gaps_in) := ⟨rfl, rfl, rfl, by decide +kernel, rfl, by decide +kernel, by decide +kernel⟩
theorem ok_gaps_in {f : Addr} {fd : FuncData} (F : Fun K "gaps_in" "gaps_in" s_gaps_in f fd) (PA : Has P w K mg base "parts" 3 ["term"] (spParts K) gP pfd) : FnOk P w K mg base CX0 4 f fd ["term"] (spGapsIn K) := by
  refine F.ok scGapsIn (fun vs H Q E h => ?_) (fun cdv A outer s H vs Q E hr h => ?_)
  · obtain ⟨v, tm, rfl, _⟩ := h
    rfl
  obtain ⟨v, tm, rfl, hv, wf, hlen, k⟩ := h
  refine ⟨_, (pss_one (ps_ret (pe_compC (defScope s_gaps_in) ["term"] ["part"] [] rfl rfl rfl (by decide +kernel) (pi_list (pe_call PA.ok (hr.mono (by omega)) rfl PA.at' PA.kp PA.bd .nil pass0 (pa_cons (pv 0) pa_nil))) (fun _ _ _ _ => (pg_name (i := 0) (show (["part"] : List Str).Nodup by decide +kernel) rfl (Or.inl rfl))) (fun _ _ _ _ => (pifs_one (pt_cmpR op_eq (pe_ix (ix_tupK K rfl) (pv 0) pe_int (fun _ _ => rfl)) pe_str (nomark _)))) (fun _ _ _ _ => (pe_ix (ix_tupK K rfl) (pv 0) pe_int (fun _ _ => rfl)))))), ?_⟩
  refine ⟨_, rfl, v, tm, rfl, hv, wf, hlen, fun p H1 ws s1 hp h1 r1 => ?_⟩
  refine ⟨p, rfl, ⟨_, SqL.of h1⟩, ?_⟩
  have l1 := r1.length
  rw [List.length_map, Tm.parts_length] at l1
  refine comp_list (xs := ws) (fun i σ us H2 => (∃ x, σ = [x]) ∧ H2 = H1 ∧ us = ((tm.parts.take i).filterMap gapOf).map V.int) ⟨⟨none, rfl⟩, rfl, rfl⟩ ?_ (small (by omega)) ?_ ?_ ?_
  · rintro i σ us H2 hi ⟨_, _, rfl⟩
    rw [List.length_map]
    exact Nat.le_trans (List.length_filterMap_le _ _) (by rw [List.length_take]; omega)
  · rintro i σ us H2 hi ⟨_, rfl, _⟩
    exact SqL.of h1
  · rintro i x σ us H2 hx ⟨⟨x0, rfl⟩, rfl, rfl⟩
    obtain ⟨y, hy, ry⟩ := r1.get' hx
    rw [List.getElem?_map] at hy
    obtain ⟨pt, hp, rfl⟩ := Option.map_eq_some_iff.mp hy
    have hil : i < tm.parts.length := (List.getElem?_eq_some_iff.mp hp).1
    have ep : tm.parts[i] = pt := (List.getElem?_eq_some_iff.mp hp).2
    obtain ⟨rest, er⟩ := enc_shape pt
    rw [er] at ry
    obtain ⟨ra, rvs, rfl, sq, rr⟩ := ry.inv_t
    obtain ⟨t1, q1, rfl, g1, rr2⟩ := rr.inv
    obtain rfl := g1.inv_s
    refine ⟨_, rfl, ra, _, 0, _, rfl, rfl, sq, at0 _ _, rfl, _, rfl, ?_⟩
    rw [List.take_succ_eq_append_getElem hil, List.filterMap_append, List.map_append, ep]
    rw [gap_iff pt]
    cases e : gapOf pt with
    | none =>
      refine ifF rfl ⟨⟨_, rfl⟩, rfl, ?_⟩
      simp [e]
    | some n =>
      refine ifT rfl ?_
      cases pt with
      | mk hh ks =>
      have eh : hh = .gap n := by
        cases hh <;> simp [gapOf] at e
        rw [e]
      subst eh
      rw [enc_mk] at er
      have er' : rest = [.i n] := by
        have z : T.t [.s "gap", .i n] = T.t (.s (hdS (Hd.gap n)) :: rest) := er
        injection z with z
        injection z with _ z
        exact z.symm
      subst er'
      obtain ⟨t2, q2, rfl, g2, rr3⟩ := rr2.inv
      obtain rfl := rr3.inv0
      obtain rfl := g2.inv_i
      refine ⟨_, rfl, ra, _, 1, _, rfl, rfl, sq, rfl, ⟨_, rfl⟩, rfl, ?_⟩
      simp [e]
  · rintro σ us H2 ⟨_, rfl, rfl⟩ q hq
    rw [l1, ← Tm.parts_length, List.take_length]
    exact k q _ (s1.trans (same_new hq _)) (s1.free hq) upd_same
end
end G02

namespace G02
open PySem L2
def spNames : Sp := fun vs H Q _ => ∃ (f : Addr) (m : Nat), vs = [.ref f, .int m] ∧ 1 ≤ m ∧ m ≤ 100 ∧ FeedAt H f ∧
  ∀ (r : Addr) (H' : Hp) (xs : List Str), Ext f H H' → H r = none → H' r = some (.lst (xs.map V.str)) → xs.length = m → (∀ x ∈ xs, x.length ≤ 20) → Q (.ref r) H'
theorem Ext.free {f : Addr} {H H' : Hp} (e : Ext f H H') {l : Addr} (h : H' l = none) : H l = none := by
  cases q : H l with
  | none => rfl
  | some o =>
    by_cases n : l = f
    · subst n; obtain ⟨a, b, z⟩ := e.2; rw [h] at z; cases z
    · rw [e.1 l o n q] at h; cases h
theorem flat_strs (l : List Str) : (l.map V.str).all flatV = true := by
  induction l with
  | nil => rfl
  | cons x r ih => rw [List.map_cons, List.all_cons, ih]; rfl
end G02

namespace G02
open PySem L2
/-- gaps' numbers are small -/
inductive Gk : Tm → Prop
  | mk {h : Hd} {ks : List Tm} : (∀ n, h = .gap n → 0 ≤ n ∧ n < 1000) → (∀ k ∈ ks, Gk k) → Gk (.mk h ks)
structure Good (d n : Nat) (tm : Tm) : Prop where
  wf : Wf tm
  gk : Gk tm
  dp : tm.depth ≤ d
  sz : tm.size ≤ n
theorem Good.mk_ {d n : Nat} {h : Hd} {ks : List Tm} (ar : arOk h ks.length = true) (g : ∀ n, h = .gap n → 0 ≤ n ∧ n < 1000) (a : ∀ k ∈ ks, ∃ m, Good d m k) (s : Tm.sizes ks + 1 ≤ n) : Good (d + 1) n (.mk h ks) :=
  ⟨.mk ar fun k hk => (a k hk).elim fun _ z => z.wf, .mk g fun k hk => (a k hk).elim fun _ z => z.gk, Tm.depth_le fun k hk => (a k hk).elim fun _ z => z.dp, by rw [Tm.size_mk]; exact s⟩
theorem Good.leaf {d n : Nat} {h : Hd} (ar : arOk h 0 = true) (g : ∀ n, h = .gap n → 0 ≤ n ∧ n < 1000) (hn : 1 ≤ n) : Good d n (.mk h []) :=
  ⟨.mk ar (fun _ h => nomatch h), .mk g (fun _ h => nomatch h), by simp [Tm.depth], by simp [Tm.size, Tm.sizes]; exact hn⟩
def WordsAt (H : Hp) (a : Addr) (ws : List Str) : Prop := H a = some (.lst (ws.map V.str)) ∧ 1 ≤ ws.length ∧ ws.length ≤ 100
theorem WordsAt.ne {H : Hp} {a f : Addr} {ws : List Str} (h : WordsAt H a ws) (hf : FeedAt H f) : a ≠ f := fun z => by
  obtain ⟨p, q, e⟩ := hf
  subst z
  rw [h.1] at e
  cases ws with
  | nil => have := h.2.1; simp at this
  | cons x r => injection e with e; injection e with e; rw [List.map_cons] at e; injection e with e; cases e
theorem WordsAt.ext {H H' : Hp} {a f : Addr} {ws : List Str} (h : WordsAt H a ws) (hf : FeedAt H f) (e : Ext f H H') : WordsAt H' a ws := ⟨e.1 a _ (h.ne hf) h.1, h.2⟩
theorem WordsAt.same {H H' : Hp} {a : Addr} {ws : List Str} (h : WordsAt H a ws) (e : Same H H') : WordsAt H' a ws := ⟨e a _ h.1, h.2⟩
def spNumber : Sp := fun vs H Q _ => ∃ f : Addr, vs = [.ref f] ∧ FeedAt H f ∧ ∀ (n : Int) (H' : Hp), 0 ≤ n → n < 1000000 → Ext f H H' → Q (.int n) H'
def spLeaf (K : PySem.W.Frag) : Sp := fun vs H Q _ => ∃ (f a : Addr) (ws : List Str), vs = [.ref f, .ref a] ∧ FeedAt H f ∧ WordsAt H a ws ∧
  ∀ (v : V) (H' : Hp) (tm : Tm), Rp K H' (enc tm) v → (∀ d n, 1 ≤ n → Good d n tm) → Ext f H H' → Q v H'
def spSomeWords (K : PySem.W.Frag) : Sp := fun vs H Q _ => ∃ (f a : Addr) (ws : List Str), vs = [.ref f, .ref a] ∧ FeedAt H f ∧ WordsAt H a ws ∧
  ∀ (p : Addr) (H' : Hp) (xs : List Str), H' p = some (.tup (xs.map V.str)) → Ext f H H' → Q (.ref p) H'
def spMany (K : PySem.W.Frag) (n : Nat) : Sp := fun vs H Q _ => ∃ (f a : Addr) (ws : List Str) (m room down : Nat), vs = [.ref f, .ref a, .int m, .int room, .int down] ∧ FeedAt H f ∧ WordsAt H a ws ∧ m ≤ 10 ∧ 4 ≤ room ∧ room ≤ 40 ∧ 1 ≤ down ∧ down ≤ n ∧
  ∀ (p : Addr) (H' : Hp) (vs : List V) (tms : List Tm), H' p = some (.tup vs) → Rps K H' (tms.map enc) vs → tms.length = min m (room - 1) → (∀ t ∈ tms, ∃ n, Good (down - 1) n t) → Tm.sizes tms + 1 ≤ room → Ext f H H' → Q (.ref p) H'
def spAny (K : PySem.W.Frag) (n : Nat) : Sp := fun vs H Q _ => ∃ (f a : Addr) (ws : List Str) (room down : Nat), vs = [.ref f, .ref a, .int room, .int down] ∧ FeedAt H f ∧ WordsAt H a ws ∧ 1 ≤ room ∧ room ≤ 40 ∧ down ≤ n ∧
  ∀ (v : V) (H' : Hp) (tm : Tm), Rp K H' (enc tm) v → Good down room tm → Ext f H H' → Q v H'
section
variable {P : Program} {w : World} {K : PySem.W.Frag} {mg : Str → Option Value} {base : Heap} {gT gN gA : Addr} {tfd nfd afd : FuncData}
theorem nm_L_number : Nm ["_law_feed_here", "_law_form"] (defScope s_L_number) := by decide +kernel
theorem lm_L_number : Lm ["_law_feed_here", "_law_form"] (defScope s_L_number) := by decide +kernel
theorem sc_L_number : FnScope ["_law_feed_here", "_law_form"] ["_law_feed_here"] (defScope s_L_number) := ⟨rfl, rfl, rfl, by decide +kernel, rfl, by decide +kernel, by decide +kernel⟩
theorem ok_number {f : Addr} {fd : FuncData} (F : Fun K "_law_number" "_law_number" s_L_number f fd) (TK : Has P w K mg base "_law_take" 1 ["_law_feed_here", "_law_many"] spTake gT tfd) : FnOk P w K mg base CX0 2 f fd ["_law_feed_here"] spNumber := by
  refine F.ok sc_L_number (fun vs H Q E h => ?_) (fun cdv A outer s H vs Q E hr h => ?_)
  · obtain ⟨v, rfl, _⟩ := h
    rfl
  obtain ⟨r, rfl, hf, k⟩ := h
  refine ⟨_, (pss_cons (sa sc_L_number.nd lm_L_number 1 (pe_call TK.ok (hr.mono (by omega)) (by show _ = _; kernel_rfl) TK.at' TK.kp TK.bd .nil pass0 (pa_cons (va nm_L_number 0) (pa_cons pe_int pa_nil))))
    (pss_cons (ps_if (pt_cmpR op_lt (va nm_L_number 1) pe_int (nomark _)) (pss_one (ps_ret (pe_call TK.ok (hr.mono (by omega)) (by show _ = _; kernel_rfl) TK.at' TK.kp TK.bd .nil pass0 (pa_cons (va nm_L_number 0) (pa_cons (pe_ix ix_list (pe_lst (pa_cons pe_int (pa_cons pe_int (pa_cons pe_int (pa_cons pe_int (pa_cons pe_int (pa_cons pe_int pa_nil))))))) (va nm_L_number 1) (fun _ _ => rfl)) pa_nil))))) pss_nil)
    (pss_one (ps_ret (pe_ix ix_list (pe_lst (pa_cons (pe_call TK.ok (hr.mono (by omega)) (by show _ = _; kernel_rfl) TK.at' TK.kp TK.bd .nil pass0 (pa_cons (va nm_L_number 0) (pa_cons pe_int pa_nil))) (pa_cons (pe_op op_sub pe_int (pe_call TK.ok (hr.mono (by omega)) (by show _ = _; kernel_rfl) TK.at' TK.kp TK.bd .nil pass0 (pa_cons (va nm_L_number 0) (pa_cons pe_int pa_nil)))) pa_nil))) (pe_op op_sub (va nm_L_number 1) pe_int) (fun _ _ => rfl)))))), ?_⟩
  refine ⟨_, rfl, r, 8, rfl, by decide, by decide, hf, fun q H1 q0 q1 e1 => ?_⟩
  refine ⟨_, rfl, _, _, rfl, rfl, _, rfl, ite2 (fun c => ?_) (fun c => ?_)⟩
  · have c6 : q < 6 := of_decide_eq_true c
    refine ⟨_, rfl, (by show 6 ≤ sizeLine; decide), fun l hl => ?_⟩
    obtain ⟨v, hv, hm⟩ := atI_of (xs := [V.int 2, V.int 4, V.int 4, V.int 10, V.int 10, V.int 100]) q0 (by simpa using c6)
    obtain ⟨n, rfl, n0, n1⟩ : ∃ n : Int, v = .int n ∧ 0 < n ∧ n ≤ 100 := by
      simp only [List.mem_cons, List.not_mem_nil, or_false] at hm
      rcases hm with rfl | rfl | rfl | rfl | rfl | rfl
      · exact ⟨2, rfl, by decide, by decide⟩
      · exact ⟨4, rfl, by decide, by decide⟩
      · exact ⟨4, rfl, by decide, by decide⟩
      · exact ⟨10, rfl, by decide, by decide⟩
      · exact ⟨10, rfl, by decide, by decide⟩
      · exact ⟨100, rfl, by decide, by decide⟩
    refine ⟨_, rfl, l, _, _, _, rfl, rfl, SqL.of upd_same, hv, r, n, rfl, n0, by omega, e1.2.same (same_new hl _), fun x H2 x0 x1 e2 => ?_⟩
    exact k x H2 x0 (by omega) ((e1.new hl _).trans e2)
  · have c6 : ¬ q < 6 := fun z => c (decide_eq_true z)
    refine ⟨_, rfl, r, 1000000, rfl, by decide, by decide, e1.2, fun x H2 x0 x1 e2 => ?_⟩
    refine ⟨_, rfl, r, 3, rfl, by decide, by decide, e2.2, fun y H3 y0 y1 e3 => ?_⟩
    refine ⟨_, _, rfl, rfl, (by show 2 ≤ sizeLine; decide), fun l hl => ?_⟩
    have e4 := ((e1.trans e2).trans e3).new hl (.lst [.int x, .int (999999 - y)])
    obtain ⟨v, hv, hm⟩ := atI_of (xs := [V.int x, V.int (999999 - y)]) (k := q - 6) (by omega) (by simp; omega)
    refine ⟨_, rfl, _, _, rfl, rfl, l, _, _, _, rfl, rfl, SqL.of upd_same, hv, ?_⟩
    simp only [List.mem_cons, List.not_mem_nil, or_false] at hm
    rcases hm with rfl | rfl
    · exact k _ _ x0 x1 e4
    · exact k _ _ (by omega) (by omega) e4
theorem nm_L_some_words : Nm ["_law_feed_here", "_law_words"] (defScope s_L_some_words) := by decide +kernel
theorem lm_L_some_words : Lm ["_law_feed_here", "_law_words"] (defScope s_L_some_words) := by decide +kernel
theorem sc_L_some_words : FnScope ["_law_feed_here", "_law_words"] ["_law_feed_here", "_law_words"] (defScope s_L_some_words) := ⟨rfl, rfl, rfl, by decide +kernel, rfl, by decide +kernel, by decide +kernel⟩
theorem ok_some_words {f : Addr} {fd : FuncData} (F : Fun K "_law_some_words" "_law_some_words" s_L_some_words f fd) (TK : Has P w K mg base "_law_take" 1 ["_law_feed_here", "_law_many"] spTake gT tfd) (z_range : mg "range" = none) (z_len : mg "len" = none) (z_tuple : mg "tuple" = none) :
    FnOk P w K mg base CX0 2 f fd ["_law_feed_here", "_law_words"] (spSomeWords K) := by
  refine F.ok sc_L_some_words (fun vs H Q E h => ?_) (fun cdv A outer s H vs Q E hr h => ?_)
  · obtain ⟨v, a, b, rfl, _⟩ := h
    rfl
  obtain ⟨r, a, ws, rfl, hf, hw, k⟩ := h
  refine ⟨_, (pss_one (ps_ret (pe_callTy call_tuple_of (by show _ = _; kernel_rfl) z_tuple PyProof.Rows.boot_tuple (pa_cons (pe_compC (defScope s_L_some_words) ["_law_feed_here", "_law_words"] ["_law_k"] [0, 1] rfl rfl rfl (by decide +kernel) (pi_range1 (by show _ = _; kernel_rfl) z_range (pa_cons (pe_call TK.ok (hr.mono (by omega)) (by show _ = _; kernel_rfl) TK.at' TK.kp TK.bd .nil pass0 (pa_cons (va nm_L_some_words 0) (pa_cons pe_int pa_nil))) pa_nil)) (fun _ _ _ _ => (pg_name (i := 0) (show (["_law_k", "_law_feed_here", "_law_words"] : List Str).Nodup by decide +kernel) rfl (Or.inl (by kernel_rfl)) (by first | exact .inl rfl | exact .inr (by kernel_rfl)))) (fun _ _ _ _ => pifs_nil) (fun _ _ _ _ => (pe_ix (ix_listK K rfl) (va (show Nm ["_law_k", "_law_feed_here", "_law_words"] _ by show _ = _; kernel_rfl) 2) (pe_call TK.ok (hr.mono (by omega)) (by show _ = _; kernel_rfl) TK.at' TK.kp TK.bd .nil pass0 (pa_cons (va (show Nm ["_law_k", "_law_feed_here", "_law_words"] _ by show _ = _; kernel_rfl) 1) (pa_cons (pe_callB (call_len_seqK K rfl) (by show _ = _; kernel_rfl) z_len PySem.boot_len (pa_cons (va (show Nm ["_law_k", "_law_feed_here", "_law_words"] _ by show _ = _; kernel_rfl) 2) pa_nil)) pa_nil))) (fun _ _ => rfl)))) pa_nil)))), ?_⟩
  refine ⟨_, rfl, r, 3, rfl, by decide, by decide, hf, fun q H1 q0 q1 e1 => ?_⟩
  refine ⟨_, rfl, by omega, by omega, ?_⟩
  refine comp_range (n := q.toNat) (fun i σ vs Hc => (∃ v, σ = [v, some (.ref r), some (.ref a)]) ∧ Ext r H Hc ∧ ∃ xs : List Str, vs = xs.map V.str ∧ xs.length = i)
    ⟨⟨none, rfl⟩, e1, [], rfl, rfl⟩ (fun i σ vs Hc _ ⟨_, _, xs, e, el⟩ => by rw [e, List.length_map]; omega) (small (by omega)) ?_ ?_
  · rintro i σ vs Hc hi ⟨⟨v, rfl⟩, e, xs, rfl, hl⟩
    have hwc := hw.ext hf e
    refine ⟨_, rfl, _, rfl, _, rfl, a, _, rfl, .inl (SqL.of hwc.1), ?_⟩
    rw [List.length_map]
    refine ⟨r, _, rfl, by have := hwc.2; omega, by have := hwc.2; omega, e.2, fun x H2 x0 x1 e2 => ?_⟩
    obtain ⟨v, hv, hm⟩ := atI_of (xs := ws.map V.str) x0 (by rw [List.length_map]; exact x1)
    obtain ⟨y, hy, rfl⟩ := List.mem_map.mp hm
    refine ⟨a, _, _, _, rfl, rfl, SqL.of (hwc.ext e.2 e2).1, hv, ⟨_, rfl⟩, e.trans e2, xs ++ [y], by rw [List.map_append]; rfl, by rw [List.length_append, hl]; rfl⟩
  · rintro σ vs Hc ⟨_, e, xs, rfl, hl⟩ p hp
    refine ⟨p, _, rfl, .inl ⟨SqL.of upd_same, fun t ht => ?_⟩⟩
    exact k t _ xs upd_same ((e.new hp _).new ht _)
theorem nm_L_leaf_of : Nm ["_law_feed_here", "_law_words", "_law_word", "_law_form"] (defScope s_L_leaf_of) := by decide +kernel
theorem lm_L_leaf_of : Lm ["_law_feed_here", "_law_words", "_law_word", "_law_form"] (defScope s_L_leaf_of) := by decide +kernel
theorem sc_L_leaf_of : FnScope ["_law_feed_here", "_law_words", "_law_word", "_law_form"] ["_law_feed_here", "_law_words"] (defScope s_L_leaf_of) := ⟨rfl, rfl, rfl, by decide +kernel, rfl, by decide +kernel, by decide +kernel⟩
theorem ok_leaf {f : Addr} {fd : FuncData} (F : Fun K "_law_leaf_of" "_law_leaf_of" s_L_leaf_of f fd) (TK : Has P w K mg base "_law_take" 1 ["_law_feed_here", "_law_many"] spTake gT tfd) (NU : Has P w K mg base "_law_number" 2 ["_law_feed_here"] spNumber gN nfd) (z_len : mg "len" = none) :
    FnOk P w K mg base CX0 3 f fd ["_law_feed_here", "_law_words"] (spLeaf K) := by
  refine F.ok sc_L_leaf_of (fun vs H Q E h => ?_) (fun cdv A outer s H vs Q E hr h => ?_)
  · obtain ⟨v, a, b, rfl, _⟩ := h
    rfl
  obtain ⟨r, a, ws, rfl, hf, hw, k⟩ := h
  refine ⟨_, (pss_cons (sa sc_L_leaf_of.nd lm_L_leaf_of 2 (pe_ix ix_list (va nm_L_leaf_of 1) (pe_call TK.ok (hr.mono (by omega)) (by show _ = _; kernel_rfl) TK.at' TK.kp TK.bd .nil pass0 (pa_cons (va nm_L_leaf_of 0) (pa_cons (pe_callB call_len_seq (by show _ = _; kernel_rfl) z_len PySem.boot_len (pa_cons (va nm_L_leaf_of 1) pa_nil)) pa_nil))) (fun _ _ => rfl)))
    (pss_cons (sa sc_L_leaf_of.nd lm_L_leaf_of 3 (pe_call TK.ok (hr.mono (by omega)) (by show _ = _; kernel_rfl) TK.at' TK.kp TK.bd .nil pass0 (pa_cons (va nm_L_leaf_of 0) (pa_cons pe_int pa_nil))))
    (pss_cons (ps_if (pt_cmpR op_lt (va nm_L_leaf_of 3) pe_int (nomark _)) (pss_one (ps_ret (pe_ix ix_list (pe_lst (pa_cons (pe_tup (pa_cons pe_str (pa_cons (pe_call NU.ok (hr.mono (by omega)) (by show _ = _; kernel_rfl) NU.at' NU.kp NU.bd .nil pass0 (pa_cons (va nm_L_leaf_of 0) pa_nil)) pa_nil))) (pa_cons (pe_tup (pa_cons pe_str (pa_cons (va nm_L_leaf_of 2) pa_nil))) (pa_cons (pe_tup (pa_cons pe_str (pa_cons (pe_call TK.ok (hr.mono (by omega)) (by show _ = _; kernel_rfl) TK.at' TK.kp TK.bd .nil pass0 (pa_cons (va nm_L_leaf_of 0) (pa_cons pe_int pa_nil))) pa_nil))) pa_nil)))) (va nm_L_leaf_of 3) (fun _ _ => rfl)))) pss_nil)
    (pss_one (ps_ret (pe_ix ix_list (pe_lst (pa_cons (pe_tup (pa_cons pe_str (pa_cons (pe_tup pa_nil) pa_nil))) (pa_cons (pe_tup (pa_cons pe_str (pa_cons (va nm_L_leaf_of 2) (pa_cons (pe_tup pa_nil) pa_nil)))) (pa_cons (pe_tup (pa_cons pe_str (pa_cons (va nm_L_leaf_of 2) (pa_cons (pe_tup pa_nil) pa_nil)))) pa_nil)))) (pe_op op_sub (va nm_L_leaf_of 3) pe_int) (fun _ _ => rfl))))))), ?_⟩
  refine ⟨_, rfl, _, rfl, _, rfl, a, _, rfl, .inl (SqL.of hw.1), ?_⟩
  rw [List.length_map]
  refine ⟨r, _, rfl, by have := hw.2; omega, by have := hw.2; omega, hf, fun x H1 x0 x1 e1 => ?_⟩
  obtain ⟨v, hv, hm⟩ := atI_of (xs := ws.map V.str) x0 (by rw [List.length_map]; exact x1)
  obtain ⟨y, hy, rfl⟩ := List.mem_map.mp hm
  refine ⟨a, _, _, _, rfl, rfl, SqL.of (hw.ext hf e1).1, hv, ?_⟩
  refine ⟨_, rfl, r, 6, rfl, by decide, by decide, e1.2, fun q H2 q0 q1 e2 => ?_⟩
  have x2 := e1.trans e2
  have lf : ∀ {h : Hd} {Hf : Hp} {v : V}, Rp K Hf (encH h []) v → arOk h 0 = true → (∀ n, h = .gap n → 0 ≤ n ∧ n < 1000) → Ext r H Hf → Q v Hf := fun {h Hf v} rp ar g e => k v Hf (.mk h []) (by rw [enc_mk]; exact rp) (fun d n hn => Good.leaf ar g hn) e
  refine ⟨_, rfl, _, _, rfl, rfl, _, rfl, ite2 (fun c => ?_) (fun c => ?_)⟩
  · have c3 : q < 3 := of_decide_eq_true c
    refine ⟨_, rfl, r, rfl, x2.2, fun n H3 n0 n1 e3 => ⟨(by show 2 ≤ sizeLine; decide), fun p1 hp1 => ?_⟩⟩
    have s1 := same_new hp1 (.tup [.str "num", .int n])
    refine ⟨_, rfl, (by show 2 ≤ sizeLine; decide), fun p2 hp2 => ?_⟩
    have s2 := same_new hp2 (.tup [.str "name", .str y])
    have x4 := ((x2.trans e3).new hp1 (.tup [.str "num", .int n])).new hp2 (.tup [.str "name", .str y])
    refine ⟨_, rfl, r, 100, rfl, by decide, by decide, x4.2, fun g H5 g0 g1 e5 => ⟨(by show 2 ≤ sizeLine; decide), fun p3 hp3 => ⟨(by show 3 ≤ sizeLine; decide), fun l hl => ?_⟩⟩⟩
    have x6 := ((x4.trans e5).new hp3 (.tup [.str "gap", .int g])).new hl (.lst [.ref p1, .ref p2, .ref p3])
    have k5 := e5.kt x4.2
    have k6 := (Kt.new hp3 (.tup [.str "gap", .int g])).trans (Kt.new hl (.lst [.ref p1, .ref p2, .ref p3]))
    have r1 : Rp K _ (encH (.num n) []) (.ref p1) := (Rp.new (K := K) hp1 (xs := [.s "num", .i n]) (.cons .s (.one .i))).kt ((Kt.same s2).trans (k5.trans k6))
    have r2 : Rp K _ (encH (.name y) []) (.ref p2) := (Rp.new (K := K) hp2 (xs := [.s "name", .s y]) (.cons .s (.one .s))).kt (k5.trans k6)
    have r3 : Rp K _ (encH (.gap g) []) (.ref p3) := (Rp.new (K := K) hp3 (xs := [.s "gap", .i g]) (.cons .s (.one .i))).kt (Kt.new hl (.lst [.ref p1, .ref p2, .ref p3]))
    have q3 : q = 0 ∨ q = 1 ∨ q = 2 := by omega
    rcases q3 with rfl | rfl | rfl
    · exact ⟨_, rfl, l, _, 0, _, rfl, rfl, SqL.of upd_same, rfl, lf r1 rfl (fun _ z => nomatch z) x6⟩
    · exact ⟨_, rfl, l, _, 1, _, rfl, rfl, SqL.of upd_same, rfl, lf r2 rfl (fun _ z => nomatch z) x6⟩
    · exact ⟨_, rfl, l, _, 2, _, rfl, rfl, SqL.of upd_same, rfl, lf r3 rfl (fun n z => by cases z; omega) x6⟩
  · have c3 : ¬ q < 3 := fun z => c (decide_eq_true z)
    refine ⟨Nat.zero_le _, fun p1 hp1 => ⟨(by show 2 ≤ sizeLine; decide), fun p2 hp2 => ?_⟩⟩
    refine ⟨_, rfl, Nat.zero_le _, fun p3 hp3 => ⟨(by show 3 ≤ sizeLine; decide), fun p4 hp4 => ?_⟩⟩
    refine ⟨_, rfl, Nat.zero_le _, fun p5 hp5 => ⟨(by show 3 ≤ sizeLine; decide), fun p6 hp6 => ⟨(by show 3 ≤ sizeLine; decide), fun l hl => ?_⟩⟩⟩
    have x6 := ((((((x2.new hp1 (.tup [])).new hp2 (.tup [.str "row", .ref p1])).new hp3 (.tup [])).new hp4 (.tup [.str "call", .str y, .ref p3])).new hp5 (.tup [])).new hp6 (.tup [.str "tag", .str y, .ref p5])).new hl (.lst [.ref p2, .ref p4, .ref p6])
    have r6 : Rp K _ (encH (.tag y) []) (.ref p6) := (Rp.new (K := K) hp6 (xs := [.s "tag", .s y, .t []]) (.cons .s (.cons .s (.one (Rp.new hp5 .nil))))).kt (Kt.new hl (.lst [.ref p2, .ref p4, .ref p6]))
    have r4 : Rp K _ (encH (.call y) []) (.ref p4) := (Rp.new (K := K) hp4 (xs := [.s "call", .s y, .t []]) (.cons .s (.cons .s (.one (Rp.new hp3 .nil))))).kt ((Kt.new hp5 (.tup [])).trans ((Kt.new hp6 (.tup [.str "tag", .str y, .ref p5])).trans (Kt.new hl (.lst [.ref p2, .ref p4, .ref p6]))))
    have r2 : Rp K _ (encH .row []) (.ref p2) := (Rp.new (K := K) hp2 (xs := [.s "row", .t []]) (.cons .s (.one (Rp.new hp1 .nil)))).kt ((Kt.new hp3 (.tup [])).trans ((Kt.new hp4 (.tup [.str "call", .str y, .ref p3])).trans ((Kt.new hp5 (.tup [])).trans ((Kt.new hp6 (.tup [.str "tag", .str y, .ref p5])).trans (Kt.new hl (.lst [.ref p2, .ref p4, .ref p6]))))))
    have q3 : q = 3 ∨ q = 4 ∨ q = 5 := by omega
    rcases q3 with rfl | rfl | rfl
    · exact ⟨_, rfl, _, _, rfl, rfl, l, _, 0, _, rfl, rfl, SqL.of upd_same, rfl, lf r2 rfl (fun _ z => nomatch z) x6⟩
    · exact ⟨_, rfl, _, _, rfl, rfl, l, _, 1, _, rfl, rfl, SqL.of upd_same, rfl, lf r4 rfl (fun _ z => nomatch z) x6⟩
    · exact ⟨_, rfl, _, _, rfl, rfl, l, _, 2, _, rfl, rfl, SqL.of upd_same, rfl, lf r6 rfl (fun _ z => nomatch z) x6⟩
theorem nm_L_many_of : Nm ["_law_feed_here", "_law_words", "_law_many", "_law_room", "_law_down", "_law_share"] (defScope s_L_many_of) := by decide +kernel
theorem lm_L_many_of : Lm ["_law_feed_here", "_law_words", "_law_many", "_law_room", "_law_down", "_law_share"] (defScope s_L_many_of) := by decide +kernel
theorem sc_L_many_of : FnScope ["_law_feed_here", "_law_words", "_law_many", "_law_room", "_law_down", "_law_share"] ["_law_feed_here", "_law_words", "_law_many", "_law_room", "_law_down"] (defScope s_L_many_of) := ⟨rfl, rfl, rfl, by decide +kernel, rfl, by decide +kernel, by decide +kernel⟩
theorem ok_many {f : Addr} {fd : FuncData} {n j : Nat} (F : Fun K "_law_many_of" "_law_many_of" s_L_many_of f fd) (AN : Has P w K mg base "_law_any" j ["_law_feed_here", "_law_words", "_law_room", "_law_down"] (spAny K n) gA afd) (z_min : mg "min" = none) (z_max : mg "max" = none) (z_range : mg "range" = none) (z_tuple : mg "tuple" = none) :
    FnOk P w K mg base CX0 (j + 1) f fd ["_law_feed_here", "_law_words", "_law_many", "_law_room", "_law_down"] (spMany K (n + 1)) := by
  refine F.ok sc_L_many_of (fun vs H Q E h => ?_) (fun cdv A outer s H vs Q E hr h => ?_)
  · obtain ⟨v, a, b, c, d, e, rfl, _⟩ := h
    rfl
  obtain ⟨r, a, ws, m, room, down, rfl, hf, hw, m10, rm4, rm40, dn1, dnn, k⟩ := h
  refine ⟨_, (pss_cons (sa sc_L_many_of.nd lm_L_many_of 2 (pe_callB (call_min2 rfl) (by show _ = _; kernel_rfl) z_min PyProof.Rows.boot_min (pa_cons (va nm_L_many_of 2) (pa_cons (pe_op op_sub (va nm_L_many_of 3) pe_int) pa_nil))))
    (pss_cons (sa sc_L_many_of.nd lm_L_many_of 5 (pe_op op_fdiv (pe_op op_sub (va nm_L_many_of 3) pe_int) (pe_callB (call_max2 rfl) (by show _ = _; kernel_rfl) z_max PyProof.Rows.boot_max (pa_cons pe_int (pa_cons (va nm_L_many_of 2) pa_nil)))))
    (pss_one (ps_ret (pe_callTy call_tuple_of (by show _ = _; kernel_rfl) z_tuple PyProof.Rows.boot_tuple (pa_cons (pe_compC (defScope s_L_many_of) ["_law_feed_here", "_law_words", "_law_many", "_law_room", "_law_down", "_law_share"] ["_law_k"] [0, 1, 4, 5] rfl rfl rfl (by decide +kernel) (pi_range1 (by show _ = _; kernel_rfl) z_range (pa_cons (va nm_L_many_of 2) pa_nil)) (fun _ _ _ _ => (pg_name (i := 0) (show (["_law_k", "_law_feed_here", "_law_words", "_law_down", "_law_share"] : List Str).Nodup by decide +kernel) rfl (Or.inl (by kernel_rfl)) (by first | exact .inl rfl | exact .inr (by kernel_rfl)))) (fun _ _ _ _ => pifs_nil) (fun _ _ _ _ => (pe_call AN.ok (hr.mono (by omega)) (by show _ = _; kernel_rfl) AN.at' AN.kp AN.bd .nil pass0 (pa_cons (va (show Nm ["_law_k", "_law_feed_here", "_law_words", "_law_down", "_law_share"] _ by show _ = _; kernel_rfl) 1) (pa_cons (va (show Nm ["_law_k", "_law_feed_here", "_law_words", "_law_down", "_law_share"] _ by show _ = _; kernel_rfl) 2) (pa_cons (va (show Nm ["_law_k", "_law_feed_here", "_law_words", "_law_down", "_law_share"] _ by show _ = _; kernel_rfl) 4) (pa_cons (pe_op op_sub (va (show Nm ["_law_k", "_law_feed_here", "_law_words", "_law_down", "_law_share"] _ by show _ = _; kernel_rfl) 3) pe_int) pa_nil))))))) pa_nil)))))), ?_⟩
  refine ⟨_, rfl, _, rfl, _, _, rfl, rfl, _, _, rfl, ?_⟩
  have em : (if (room : Int) - 1 < (m : Int) then (room : Int) - 1 else (m : Int)) = ((min m (room - 1) : Nat) : Int) := by split <;> omega
  rw [em]
  generalize hmm : min m (room - 1) = mm at k ⊢
  have hmm1 : mm ≤ room - 1 := by omega
  refine ⟨_, rfl, _, _, rfl, rfl, _, rfl, _, _, rfl, ?_⟩
  have em2 : (if (mm : Int) > 1 then (mm : Int) else 1) = ((max 1 mm : Nat) : Int) := by split <;> omega
  rw [em2]
  refine ⟨_, _, rfl, rfl, ⟨by omega, by omega⟩, ?_⟩
  have es : ((room : Int) - 1) / ((max 1 mm : Nat) : Int) = (((room - 1) / max 1 mm : Nat) : Int) := by
    rw [show (room : Int) - 1 = ((room - 1 : Nat) : Int) by omega]; rfl
  dsimp only
  rw [es]
  generalize hsh : (room - 1) / max 1 mm = sh
  have sh1 : 1 ≤ sh := by rw [← hsh]; exact (Nat.one_le_div_iff (by omega)).mpr (by omega)
  have sh2 : sh ≤ room - 1 := by rw [← hsh]; exact Nat.div_le_self _ _
  have sh3 : mm * sh ≤ room - 1 := by
    rw [← hsh]
    exact Nat.le_trans (Nat.mul_le_mul_right _ (Nat.le_max_right 1 mm)) (Nat.mul_div_le _ _)
  refine ⟨_, rfl, _, rfl, by omega, by omega, ?_⟩
  refine comp_range (n := (mm : Int).toNat) (fun i σ vs Hc => (∃ v, σ = [v, some (.ref r), some (.ref a), some (.int down), some (.int sh)]) ∧ Ext r H Hc ∧ ∃ tms : List Tm, Rps K Hc (tms.map enc) vs ∧ tms.length = i ∧ (∀ t ∈ tms, Good (down - 1) sh t))
    ⟨⟨none, rfl⟩, Ext.refl hf, [], .nil, rfl, (fun _ h => nomatch h)⟩ (fun i σ vs Hc _ ⟨_, _, xs, e, el, _⟩ => by rw [e.length, List.length_map]; omega) (small (by omega)) ?_ ?_
  · rintro i σ vs Hc hi ⟨⟨v, rfl⟩, e, tms, rp, hl, good⟩
    refine ⟨_, rfl, _, rfl, _, rfl, _, rfl, _, _, rfl, rfl, r, a, ws, sh, down - 1, ?_, e.2, hw.ext hf e, sh1, by omega, by omega, fun v H2 tm rp2 g2 e2 => ?_⟩
    · rw [show ((down - 1 : Nat) : Int) = (down : Int) - 1 by omega]; rfl
    refine ⟨⟨_, rfl⟩, e.trans e2, tms ++ [tm], ?_, by rw [List.length_append, hl]; rfl, fun t ht => ?_⟩
    · rw [List.map_append]; exact (rp.kt (e2.kt e.2)).snoc rp2
    · rcases List.mem_append.mp ht with h | h
      · exact good t h
      · rw [List.mem_singleton.mp h]; exact g2
  · rintro σ vs Hc ⟨_, e, tms, rp, hl, good⟩ p hp
    refine ⟨p, _, rfl, .inl ⟨SqL.of upd_same, fun t ht => ?_⟩⟩
    refine k t _ vs tms upd_same (rp.kt ((Kt.new hp _).trans (Kt.new ht _))) (by rw [hl]; omega) (fun t ht => ⟨sh, good t ht⟩) ?_ ((e.new hp _).new ht _)
    have z : ∀ l : List Tm, (∀ t ∈ l, Good (down - 1) sh t) → Tm.sizes l ≤ l.length * sh := fun l hl => by
      induction l with
      | nil => simp [Tm.sizes]
      | cons x q ih => rw [Tm.sizes_cons, List.length_cons, Nat.succ_mul]; have := (hl x (.head _)).sz; have := ih fun t ht => hl t (.tail _ ht); omega
    have := z tms good
    rw [hl, Int.toNat_natCast] at this
    omega
end
end G02

namespace G02
open PySem L2
section
variable {K : PySem.W.Frag} {Q : VK} {H0 : Hp}
/-- what a pair of a walk is -/
theorem wT_inv {p : Tm × Nat} {v : V} (h : Rp K H0 (wT p) v) : ∃ a t, v = .ref a ∧ SqT K H0 a [t, .int (p.2 : Int)] ∧ Rp K H0 (enc p.1) t := by
  obtain ⟨ra, rvs, rfl, sq, rr⟩ := (show Rp K _ (.t [_, _]) v from h).inv_t
  obtain ⟨t1, q1, rfl, h1, rr⟩ := rr.inv
  obtain ⟨t2, q2, rfl, h2, rr⟩ := rr.inv
  obtain rfl := rr.inv0
  obtain rfl := h2.inv_i
  exact ⟨ra, t1, rfl, sq, h1⟩
/-- [one for one, down in pairs] -/
theorem comp_ones {a : Addr} {ps : List (Tm × Nat)} {vs : List V} (hS : H0 a = some (.lst vs)) (hr : Rps K H0 (ps.map wT) vs) (hlen : ps.length ≤ 1000)
    (k : ∀ (p : Addr) (ws : List V), H0 p = none → Rps K H0 (ps.map fun p => enc p.1) ws → Q (.ref p) (upd H0 p (.lst ws))) :
    CompW (Itl K a) (gTup K 2 (gCons (gName 0) (gCons (gName 1) gNil))) tNoIf (tVar 0) Q [none, none] H0 := by
  have l := hr.length
  rw [List.length_map] at l
  refine comp_list (xs := vs) (fun i σ us H2 => (∃ x y, σ = [x, y]) ∧ H2 = H0 ∧ Rps K H0 ((ps.take i).map fun p => enc p.1) us) ⟨⟨none, none, rfl⟩, rfl, .nil⟩ ?_ (small (by omega)) ?_ ?_ ?_
  · rintro i σ us H2 hi ⟨_, _, r⟩
    rw [r.length, List.length_map, List.length_take]; omega
  · rintro i σ us H2 hi ⟨_, rfl, _⟩
    exact SqL.of hS
  · rintro i x σ us H2 hx ⟨⟨x0, y0, rfl⟩, rfl, r⟩
    obtain ⟨y, hy, ry⟩ := hr.get' hx
    rw [List.getElem?_map] at hy
    obtain ⟨pr, hp, rfl⟩ := Option.map_eq_some_iff.mp hy
    have hil : i < ps.length := (List.getElem?_eq_some_iff.mp hp).1
    have ep : ps[i] = pr := (List.getElem?_eq_some_iff.mp hp).2
    obtain ⟨ra, t, rfl, sq, rt⟩ := wT_inv ry
    refine ⟨ra, _, rfl, sq, rfl, _, _, rfl, _, _, rfl, rfl, ?_⟩
    refine ⟨_, rfl, ⟨_, _, rfl⟩, rfl, ?_⟩
    rw [List.take_succ_eq_append_getElem hil, List.map_append, ep]
    exact r.snoc rt
  · rintro σ us H2 ⟨_, rfl, r⟩ p hp
    rw [l, List.take_length] at r
    exact k p us hp r
/-- [down for one, down in pairs] -/
theorem comp_downs {a : Addr} {ps : List (Tm × Nat)} {vs : List V} (hS : H0 a = some (.lst vs)) (hr : Rps K H0 (ps.map wT) vs) (hlen : ps.length ≤ 1000)
    (k : ∀ (p : Addr), H0 p = none → Q (.ref p) (upd H0 p (.lst ((ps.map fun p => (p.2 : Int)).map V.int)))) :
    CompW (Itl K a) (gTup K 2 (gCons (gName 0) (gCons (gName 1) gNil))) tNoIf (tVar 1) Q [none, none] H0 := by
  have l := hr.length
  rw [List.length_map] at l
  refine comp_list (xs := vs) (fun i σ us H2 => (∃ x y, σ = [x, y]) ∧ H2 = H0 ∧ us = ((ps.take i).map fun p => (p.2 : Int)).map V.int) ⟨⟨none, none, rfl⟩, rfl, rfl⟩ ?_ (small (by omega)) ?_ ?_ ?_
  · rintro i σ us H2 hi ⟨_, _, rfl⟩
    rw [List.length_map, List.length_map, List.length_take]; omega
  · rintro i σ us H2 hi ⟨_, rfl, _⟩
    exact SqL.of hS
  · rintro i x σ us H2 hx ⟨⟨x0, y0, rfl⟩, rfl, rfl⟩
    obtain ⟨y, hy, ry⟩ := hr.get' hx
    rw [List.getElem?_map] at hy
    obtain ⟨pr, hp, rfl⟩ := Option.map_eq_some_iff.mp hy
    have hil : i < ps.length := (List.getElem?_eq_some_iff.mp hp).1
    have ep : ps[i] = pr := (List.getElem?_eq_some_iff.mp hp).2
    obtain ⟨ra, t, rfl, sq, rt⟩ := wT_inv ry
    refine ⟨ra, _, rfl, sq, rfl, _, _, rfl, _, _, rfl, rfl, ?_⟩
    refine ⟨_, rfl, ⟨_, _, rfl⟩, rfl, ?_⟩
    rw [List.take_succ_eq_append_getElem hil, List.map_append, List.map_append, ep]
    rfl
  · rintro σ us H2 ⟨_, rfl, rfl⟩ p hp
    rw [l, List.take_length]
    exact k p hp
/-- [one[1] for one, down in pairs if one[0] == 'gap'] -/
theorem comp_gaps {a : Addr} {ps : List (Tm × Nat)} {vs : List V} (hS : H0 a = some (.lst vs)) (hr : Rps K H0 (ps.map wT) vs) (hlen : ps.length ≤ 1000)
    (k : ∀ (p : Addr), H0 p = none → Q (.ref p) (upd H0 p (.lst ((ps.filterMap fun p => gapOf p.1).map V.int)))) :
    CompW (Itl K a) (gTup K 2 (gCons (gName 0) (gCons (gName 1) gNil))) (tTest (tOp rEq (tOp (rIxT K) (tVar 0) (tC (.int 0))) (tC (.str "gap")))) (tOp (rIxT K) (tVar 0) (tC (.int 1))) Q [none, none] H0 := by
  have l := hr.length
  rw [List.length_map] at l
  refine comp_list (xs := vs) (fun i σ us H2 => (∃ x y, σ = [x, y]) ∧ H2 = H0 ∧ us = ((ps.take i).filterMap fun p => gapOf p.1).map V.int) ⟨⟨none, none, rfl⟩, rfl, rfl⟩ ?_ (small (by omega)) ?_ ?_ ?_
  · rintro i σ us H2 hi ⟨_, _, rfl⟩
    rw [List.length_map]
    exact Nat.le_trans (List.length_filterMap_le _ _) (by rw [List.length_take]; omega)
  · rintro i σ us H2 hi ⟨_, rfl, _⟩
    exact SqL.of hS
  · rintro i x σ us H2 hx ⟨⟨x0, y0, rfl⟩, rfl, rfl⟩
    obtain ⟨y, hy, ry⟩ := hr.get' hx
    rw [List.getElem?_map] at hy
    obtain ⟨⟨pt, dd⟩, hp, rfl⟩ := Option.map_eq_some_iff.mp hy
    have hil : i < ps.length := (List.getElem?_eq_some_iff.mp hp).1
    have ep : ps[i] = (pt, dd) := (List.getElem?_eq_some_iff.mp hp).2
    obtain ⟨ra, t, rfl, sq, rt⟩ := wT_inv ry
    refine ⟨ra, _, rfl, sq, rfl, _, _, rfl, _, _, rfl, rfl, ?_⟩
    obtain ⟨rest, er⟩ := enc_shape pt
    rw [show enc (pt, dd).1 = enc pt from rfl, er] at rt
    obtain ⟨rb, rvs, rfl, sq2, rr⟩ := rt.inv_t
    obtain ⟨t1, q1, rfl, g1, rr2⟩ := rr.inv
    obtain rfl := g1.inv_s
    refine ⟨_, rfl, rb, _, 0, _, rfl, rfl, sq2, at0 _ _, rfl, _, rfl, ?_⟩
    rw [List.take_succ_eq_append_getElem hil, List.filterMap_append, List.map_append, ep]
    rw [gap_iff pt]
    cases e : gapOf pt with
    | none =>
      refine ifF rfl ⟨⟨_, _, rfl⟩, rfl, ?_⟩
      simp [e]
    | some n =>
      refine ifT rfl ?_
      cases pt with
      | mk hh ks =>
      have eh : hh = .gap n := by
        cases hh <;> simp [gapOf] at e
        rw [e]
      subst eh
      rw [enc_mk] at er
      have er' : rest = [.i n] := by
        have z : T.t [.s "gap", .i n] = T.t (.s (hdS (Hd.gap n)) :: rest) := er
        injection z with z
        injection z with _ z
        exact z.symm
      subst er'
      obtain ⟨t2, q2, rfl, g2, rr3⟩ := rr2.inv
      obtain rfl := rr3.inv0
      obtain rfl := g2.inv_i
      refine ⟨_, rfl, rb, _, 1, _, rfl, rfl, sq2, rfl, ⟨_, _, rfl⟩, rfl, ?_⟩
      simp [e]
  · rintro σ us H2 ⟨_, rfl, rfl⟩ p hp
    rw [l, List.take_length]
    exact k p hp
end
/-- a row of small numbers can be shown -/
theorem shows_ints (ns : List Int) (h : ∀ n ∈ ns, 0 ≤ n ∧ n < 1000) (hl : ns.length ≤ 1000) : Shows (.list (T.pys (ns.map .i))) := by
  rw [T.pys_ints]
  have e1 : ∀ l : List Int, (∀ n ∈ l, 0 ≤ n ∧ n < 1000) → PyData.showableAll (l.map .int) = true ∧ PyData.hasDictAll (l.map .int) = false ∧ PyData.depthAll (l.map .int) = 0 ∧ PyData.leavesShortAll 13 (l.map .int) = true ∧ PyData.weightAll (l.map .int) ≤ 30 * l.length := by
    intro l hl
    induction l with
    | nil => exact ⟨rfl, rfl, rfl, rfl, Nat.le_refl _⟩
    | cons n r ih =>
      obtain ⟨a, b, c, d, e⟩ := ih fun x hx => hl x (.tail _ hx)
      have hn := hl n (.head _)
      have l2 : n.natAbs < 10 ^ 12 := by have : (10 : Nat) ^ 12 = 1000000000000 := by decide
                                         omega
      have l3 : n.natAbs.log2 < 1920 := by
        by_cases z : n.natAbs = 0
        · rw [z]; decide
        · rw [Nat.log2_lt z]; exact Nat.lt_of_lt_of_le (show n.natAbs < 2 ^ 20 by omega) (Nat.pow_le_pow_right (by decide) (by decide))
      refine ⟨?_, ?_, ?_, ?_, ?_⟩
      · rw [List.map_cons]; simp only [PyData.showableAll, PyData.showable, a, Bool.and_true]; simpa using l3
      · rw [List.map_cons]; simp only [PyData.hasDictAll, PyData.hasDict, b, Bool.or_false]
      · rw [List.map_cons]; simp only [PyData.depthAll, PyData.depth, c]; rfl
      · rw [List.map_cons]; simp only [PyData.leavesShortAll, PyData.leavesShort, d, Bool.and_true]; exact decide_eq_true (PyData.shown_int_le l2)
      · rw [List.map_cons, List.length_cons]
        simp only [PyData.weightAll, PyData.weight]
        have l4 : n.natAbs.log2 < 20 := by
          by_cases z : n.natAbs = 0
          · rw [z]; decide
          · rw [Nat.log2_lt z]; omega
        split <;> omega
  obtain ⟨a, b, c, d, e⟩ := e1 ns h
  refine ⟨?_, ?_, ?_, ?_⟩
  · simp only [PyData.showable, a]
  · simp only [PyData.hasDict, b]
  · simp only [PyData.depth, c]; omega
  · refine PyData.shown_fits (B := 13) (by decide) (by decide) ?_ ?_
    · simp only [PyData.leavesShort, d]
    · simp only [PyData.weight]
      have : (2 : Nat) ^ 20 = 1048576 := by decide
      omega
theorem gaps_small (tm : Tm) : Gk tm → ∀ n ∈ tm.parts.filterMap gapOf, 0 ≤ n ∧ n < 1000 := by
  induction tm using Tm.induct with
  | hm h ks ih =>
    intro g n hn
    cases g with
    | mk g0 gk =>
    rw [Tm.parts_eq, List.filterMap_cons] at hn
    have inner : n ∈ (Tm.partss ks).filterMap gapOf → 0 ≤ n ∧ n < 1000 := by
      have : ∀ l : List Tm, (∀ x ∈ l, Gk x ∧ (Gk x → ∀ n ∈ x.parts.filterMap gapOf, 0 ≤ n ∧ n < 1000)) → n ∈ (Tm.partss l).filterMap gapOf → 0 ≤ n ∧ n < 1000 := by
        intro l hl
        induction l with
        | nil => intro z; simp [Tm.partss] at z
        | cons x r ih2 =>
          intro z
          rw [Tm.partss_cons, List.filterMap_append] at z
          rcases List.mem_append.mp z with z | z
          · exact (hl x (.head _)).2 (hl x (.head _)).1 n z
          · exact ih2 (fun y hy => hl y (.tail _ hy)) z
      exact this ks fun x hx => ⟨gk x hx, ih x hx⟩
    cases h with
    | gap m =>
      simp only [gapOf] at hn
      cases hn with
      | head => exact g0 _ rfl
      | tail _ hn => exact inner hn
    | _ => exact inner hn
theorem log_small {n : Nat} (h : n ≤ 100000) : (n : Int).natAbs.log2 < 1920 := by
  rw [Int.natAbs_natCast]
  by_cases z : n = 0
  · rw [z]; decide
  · rw [Nat.log2_lt z]
    exact Nat.lt_of_lt_of_le (show n < 2 ^ 20 by omega) (Nat.pow_le_pow_right (by decide) (by decide))
theorem parts_depth (a : Tm) : ∀ p ∈ a.parts, p.depth ≤ a.depth := by
  induction a using Tm.induct with
  | hm h ks ih =>
    intro p hp
    rw [Tm.parts_eq] at hp
    cases hp with
    | head => exact Nat.le_refl _
    | tail _ hp =>
      have : ∀ l : List Tm, (∀ x ∈ l, x.depth < (Tm.mk h ks).depth ∧ ∀ p ∈ x.parts, p.depth ≤ x.depth) → p ∈ Tm.partss l → p.depth ≤ (Tm.mk h ks).depth := by
        intro l hl
        induction l with
        | nil => intro z; simp [Tm.partss] at z
        | cons x r ih2 =>
          intro z
          rw [Tm.partss_cons] at z
          rcases List.mem_append.mp z with z | z
          · have a := hl x (.head _)
            have b := a.2 p z
            omega
          · exact ih2 (fun y hy => hl y (.tail _ hy)) z
      exact this ks (fun x hx => ⟨Tm.depth_mem hx, ih x hx⟩) hp
theorem upd_fresh {H H' : Hp} {p : Addr} (s : Same H H') (f : H p = none) (o : HO) : Same H (upd H' p o) := fun b u e => by rw [upd_ne (ne_of_none e f)]; exact s b u e
def spRight (K : PySem.W.Frag) : Sp := fun vs H Q _ => ∃ (v : V) (tm : Tm), vs = [v] ∧ Rp K H (enc tm) v ∧ Good 20 60 tm ∧ ∀ H', Same H H' → Q (.bl true) H'
def spLaw (K : PySem.W.Frag) : Sp := fun vs H Q _ => ∃ (a : Addr) (ns : List Int), vs = [.ref a] ∧ SqL K H a (ns.map V.int) ∧ ns.length ≤ 63 ∧ ∀ H', Q (.bl true) H'
section
variable {P : Program} {w : World} {K : PySem.W.Frag} {mg : Str → Option Value} {base : Heap} {gW gA gP gG gD : Addr} {wfd afd pfd gfd dfd : FuncData}
theorem nm_L_walked : Nm ["_law_term", "_law_down", "_law_found", "_law_inner"] (defScope s_L_walked) := by decide +kernel
theorem lm_L_walked : Lm ["_law_term", "_law_down", "_law_found", "_law_inner"] (defScope s_L_walked) := by decide +kernel
theorem sc_L_walked : FnScope ["_law_term", "_law_down", "_law_found", "_law_inner"] ["_law_term", "_law_down", "_law_found"] (defScope s_L_walked) := ⟨rfl, rfl, rfl, by decide +kernel, rfl, by decide +kernel, by decide +kernel⟩
theorem ok_walked {f : Addr} {fd : FuncData} {n j : Nat} (hj : 1 ≤ j) (F : Fun K "_law_walked" "_law_walked" s_L_walked f fd) (WI : Has P w K mg base "_law_within" 1 ["_law_term"] (spWithin K) gW wfd)
    (WA : Has P w K mg base "_law_walked" j ["_law_term", "_law_down", "_law_found"] (spWalked K n) gA afd) : FnOk P w K mg base CX0 (j + 1) f fd ["_law_term", "_law_down", "_law_found"] (spWalked K (n + 1)) := by
  refine F.ok sc_L_walked (fun vs H Q E h => ?_) (fun cdv A outer s H vs Q E hr h => ?_)
  · obtain ⟨a, b, c, d, e, g, rfl, _⟩ := h
    rfl
  obtain ⟨v, tm, d, l, xs, done, rfl, hv, wf, dp, hl, rx, sz, k⟩ := h
  refine ⟨_, (pss_cons (ps_expr (pe_bm PySem.F.plainAttrs_list PySem.F.slot_list_append PySem.F.type_list_append mt_append (va nm_L_walked 2) (pa_cons (pe_tup (pa_cons (va nm_L_walked 0) (pa_cons (va nm_L_walked 1) pa_nil))) pa_nil)))
    (pss_cons (ps_for PassesOwn.never rfl (pi_list (pe_call WI.ok (hr.mono (by omega)) (by show _ = _; kernel_rfl) WI.at' WI.kp WI.bd .nil pass0 (pa_cons (va nm_L_walked 0) pa_nil))) (ga sc_L_walked.nd lm_L_walked 3)
      (pss_one (ps_expr (pe_call WA.ok (hr.mono (by omega)) (by show _ = _; kernel_rfl) WA.at' WA.kp WA.bd .nil pass0 (pa_cons (va nm_L_walked 3) (pa_cons (pe_op op_add (va nm_L_walked 1) pe_int) (pa_cons (va nm_L_walked 2) pa_nil)))))))
    (pss_one (ps_ret (va nm_L_walked 2))))), ?_⟩
  have lx := rx.length
  rw [List.length_map] at lx
  have tp := Tm.size_pos tm
  refine ⟨_, rfl, .inl ⟨rfl, _, SqL.of hl⟩, _, rfl, _, rfl, (by show 2 ≤ sizeLine; decide), fun p1 hp1 => ?_⟩
  have s1 := same_new hp1 (.tup [v, .int d])
  have h1l := s1 _ _ hl
  refine ⟨l, _, _, rfl, rfl, h1l, small1000 (by omega), ?_⟩
  have k1 : Kt H (upd H p1 (.tup [v, .int d])) := Kt.same s1
  have k2 := k1.trans (Kt.lst h1l (.lst (xs ++ [.ref p1])))
  have o2 : ∀ b o, b ≠ l → H b = some o → upd (upd H p1 (.tup [v, .int d])) l (.lst (xs ++ [.ref p1])) b = some o := fun b o n e => by rw [upd_ne n]; exact s1 b o e
  have h2l : upd (upd H p1 (.tup [v, .int d])) l (.lst (xs ++ [.ref p1])) l = some (.lst (xs ++ [.ref p1])) := upd_same
  have r2 : Rps K (upd (upd H p1 (.tup [v, .int d])) l (.lst (xs ++ [.ref p1]))) ((done ++ [(tm, d)]).map wT) (xs ++ [.ref p1]) := by
    rw [List.map_append]
    exact (rx.kt k2).snoc ((Rp.new (K := K) hp1 (xs := [enc tm, .i (d : Int)]) (.cons hv (.one .i))).kt (Kt.lst h1l _))
  generalize upd (upd H p1 (.tup [v, .int d])) l (.lst (xs ++ [.ref p1])) = H2 at k2 o2 h2l r2 ⊢
  refine ⟨_, rfl, v, tm, rfl, hv.kt k2, wf, by omega, fun p H3 ws s3 f3 h3 r3 => ?_⟩
  refine ⟨p, rfl, ⟨_, SqL.of h3⟩, ?_⟩
  have npl : p ≠ l := fun z => by subst z; rw [h2l] at f3; cases f3
  have l3 := r3.length
  rw [List.length_map] at l3
  have ksz : Tm.sizes tm.ks + 1 = tm.size := by cases tm with | mk h ks => rw [Tm.size_mk]; rfl
  refine for_list (xs := ws) (fun i σ Hi => ∃ (x3 : Option V) (ys : List V), σ = [some v, some (.int d), some (.ref l), x3] ∧ (∀ b o, b ≠ l → H3 b = some o → Hi b = some o) ∧ Hi l = some (.lst ys) ∧ Rps K Hi ((done ++ (tm, d) :: Tm.walks (d + 1) (tm.ks.take i)).map wT) ys)
    ⟨none, _, rfl, fun _ _ _ e => e, s3 _ _ h2l, r2.same s3⟩ ?_ ?_ ?_
  · rintro i σ Hi hi ⟨_, _, _, o, _, _⟩
    exact SqL.of (o p _ npl h3)
  · rintro i x σ Hi hx ⟨x3, ys, rfl, o, hli, ri⟩
    obtain ⟨y, hy, ry⟩ := r3.get' hx
    rw [List.getElem?_map] at hy
    obtain ⟨kd, hp, rfl⟩ := Option.map_eq_some_iff.mp hy
    have hil : i < tm.ks.length := (List.getElem?_eq_some_iff.mp hp).1
    have ep : tm.ks[i] = kd := (List.getElem?_eq_some_iff.mp hp).2
    have hmem : kd ∈ tm.ks := List.mem_of_getElem? hp
    have kt3 : Kt H3 Hi := fun a xs r => by
      have hl3 := s3 _ _ h2l
      rcases r with h | ⟨u, h⟩
      · exact .inl (o a _ (ne_of h hl3 (by intro z; cases z)) h)
      · exact .inr ⟨u, o a _ (ne_of h hl3 (by intro z; cases z)) h⟩
    have hsz : Tm.sizes (tm.ks.take i) + kd.size ≤ Tm.sizes tm.ks := by
      have e : tm.ks = tm.ks.take i ++ kd :: tm.ks.drop (i + 1) := by rw [← ep, ← List.drop_eq_getElem_cons hil, List.take_append_drop]
      have z := congrArg Tm.sizes e
      rw [Tm.sizes_append, Tm.sizes_cons] at z
      omega
    refine ⟨_, rfl, _, rfl, _, _, rfl, rfl, _, rfl, x, kd, d + 1, l, ys, done ++ (tm, d) :: Tm.walks (d + 1) (tm.ks.take i), rfl, ry.kt kt3, (Wf.kids wf) kd hmem, ?_, hli, ri, ?_, fun H4 zs o4 h4 r4 => ?_⟩
    · have := Tm.depth_mem (h := tm.hd) hmem
      have e : Tm.mk tm.hd tm.ks = tm := by cases tm; rfl
      rw [e] at this
      omega
    · rw [List.length_append, List.length_cons, walks_len]; omega
    · refine ⟨_, zs, rfl, fun b ob nb e => o4 b ob nb (o b ob nb e), h4, ?_⟩
      rw [List.take_succ_eq_append_getElem hil, ep, Tm.walks_append, Tm.walks_cons]
      simp only [Tm.walks, List.append_nil]
      rw [← List.cons_append, ← List.append_assoc]
      exact r4
  · rintro σ Hi ⟨x3, ys, rfl, o, hli, ri⟩
    refine ⟨_, rfl, k Hi ys (fun b ob nb e => o b ob nb (s3 b ob (o2 b ob nb e))) hli ?_⟩
    rw [l3, List.take_length] at ri
    have e : tm.walk d = (tm, d) :: Tm.walks (d + 1) tm.ks := by cases tm with | mk h ks => exact Tm.walk_eq d h ks
    rw [e]
    exact ri
theorem nm_L_right : Nm ["_law_term", "_law_due", "_law_some", "_law_numbers"] (defScope s_L_right) := by decide +kernel
theorem lm_L_right : Lm ["_law_term", "_law_due", "_law_some", "_law_numbers"] (defScope s_L_right) := by decide +kernel
theorem sc_L_right : FnScope ["_law_term", "_law_due", "_law_some", "_law_numbers"] ["_law_term"] (defScope s_L_right) := ⟨rfl, rfl, rfl, by decide +kernel, rfl, by decide +kernel, by decide +kernel⟩
theorem ok_right {f : Addr} {fd : FuncData} {j : Nat} (hj : 4 ≤ j) (F : Fun K "_law_right" "_law_right" s_L_right f fd) (WA : Has P w K mg base "_law_walked" j ["_law_term", "_law_down", "_law_found"] (spWalked K 30) gA afd) (PA : Has P w K mg base "parts" 3 ["term"] (spParts K) gP pfd) (GA : Has P w K mg base "gaps_in" 4 ["term"] (spGapsIn K) gG gfd) (DE : Has P w K mg base "deep" 3 ["term"] (spDeep K) gD dfd)
    (z_isinstance : mg "isinstance" = none) (z_list : mg "list" = none) (z_repr : mg "repr" = none) (z_max : mg "max" = none) : FnOk P w K mg base CX0 (j + 1) f fd ["_law_term"] (spRight K) := by
  refine F.ok sc_L_right (fun vs H Q E h => ?_) (fun cdv A outer s H vs Q E hr h => ?_)
  · obtain ⟨v, tm, rfl, _⟩ := h
    rfl
  obtain ⟨v, tm, rfl, hv, ⟨wf, gk, dp, sz⟩, k⟩ := h
  refine ⟨_, (pss_cons (sa sc_L_right.nd lm_L_right 1 (pe_call WA.ok (hr.mono (by omega)) (by show _ = _; kernel_rfl) WA.at' WA.kp WA.bd .nil pass0 (pa_cons (va nm_L_right 0) (pa_cons pe_int (pa_cons (pe_lst pa_nil) pa_nil)))))
    (pss_cons (sa sc_L_right.nd lm_L_right 2 (pe_call PA.ok (hr.mono (by omega)) (by show _ = _; kernel_rfl) PA.at' PA.kp PA.bd .nil pass0 (pa_cons (va nm_L_right 0) pa_nil)))
    (pss_cons (sa sc_L_right.nd lm_L_right 3 (pe_call GA.ok (hr.mono (by omega)) (by show _ = _; kernel_rfl) GA.at' GA.kp GA.bd .nil pass0 (pa_cons (va nm_L_right 0) pa_nil)))
    (pss_cons (ps_if (PW.pt (pw_or (pt_not (pt_val (pe_callB call_isL (by show _ = _; kernel_rfl) z_isinstance PyProof.Rows.boot_isinstance (pa_cons (va nm_L_right 2) (pa_cons (pe_bltn (v := .ty "list") (by rfl) z_list (by decide +kernel) rfl) pa_nil))))) (pw_or1 (pt_cmpR (op_neL hr.u150) (va nm_L_right 2) (pe_compC (defScope s_L_right) ["_law_term", "_law_due", "_law_some", "_law_numbers"] ["_law_one", "_law_down"] [] rfl rfl rfl (by decide +kernel) (pi_list (va nm_L_right 1)) (fun _ _ _ _ => (pg_tupK (n := 2) K rfl rfl (pgs_cons (pg_name (i := 0) (show (["_law_one", "_law_down"] : List Str).Nodup by decide +kernel) rfl (Or.inl (by kernel_rfl)) (by first | exact .inl rfl | exact .inr (by kernel_rfl))) (pgs_cons (pg_name (i := 1) (show (["_law_one", "_law_down"] : List Str).Nodup by decide +kernel) rfl (Or.inl (by kernel_rfl)) (by first | exact .inl rfl | exact .inr (by kernel_rfl))) pgs_nil)))) (fun _ _ _ _ => pifs_nil) (fun _ _ _ _ => (va (show Nm ["_law_one", "_law_down"] _ by show _ = _; kernel_rfl) 0))) (nomark _))))) (pss_one (ps_ret pe_bl)) pss_nil)
    (pss_cons (ps_if (PW.pt (pw_or (pt_not (pt_val (pe_callB call_isL (by show _ = _; kernel_rfl) z_isinstance PyProof.Rows.boot_isinstance (pa_cons (va nm_L_right 3) (pa_cons (pe_bltn (v := .ty "list") (by rfl) z_list (by decide +kernel) rfl) pa_nil))))) (pw_or1 (pt_cmpR op_ne (pe_callB (call_reprL hr.gd hr.u150) (by show _ = _; kernel_rfl) z_repr PyProof.Rows.boot_repr (pa_cons (va nm_L_right 3) pa_nil)) (pe_callB (call_reprL hr.gd hr.u150) (by show _ = _; kernel_rfl) z_repr PyProof.Rows.boot_repr (pa_cons (pe_compC (defScope s_L_right) ["_law_term", "_law_due", "_law_some", "_law_numbers"] ["_law_one", "_law_down"] [] rfl rfl rfl (by decide +kernel) (pi_list (va nm_L_right 1)) (fun _ _ _ _ => (pg_tupK (n := 2) K rfl rfl (pgs_cons (pg_name (i := 0) (show (["_law_one", "_law_down"] : List Str).Nodup by decide +kernel) rfl (Or.inl (by kernel_rfl)) (by first | exact .inl rfl | exact .inr (by kernel_rfl))) (pgs_cons (pg_name (i := 1) (show (["_law_one", "_law_down"] : List Str).Nodup by decide +kernel) rfl (Or.inl (by kernel_rfl)) (by first | exact .inl rfl | exact .inr (by kernel_rfl))) pgs_nil)))) (fun _ _ _ _ => (pifs_one (pt_cmpR op_eq (pe_ix (ix_tupK K rfl) (va (show Nm ["_law_one", "_law_down"] _ by show _ = _; kernel_rfl) 0) pe_int (fun _ _ => rfl)) pe_str (nomark _)))) (fun _ _ _ _ => (pe_ix (ix_tupK K rfl) (va (show Nm ["_law_one", "_law_down"] _ by show _ = _; kernel_rfl) 0) pe_int (fun _ _ => rfl)))) pa_nil)) (nomark _))))) (pss_one (ps_ret pe_bl)) pss_nil)
    (pss_cons (ps_expr (pe_bm PySem.F.plainAttrs_list PySem.F.slot_list_append PySem.F.type_list_append mt_append (va nm_L_right 2) (pa_cons (va nm_L_right 0) pa_nil)))
    (pss_cons (ps_expr (pe_bm PySem.F.plainAttrs_list PySem.F.slot_list_append PySem.F.type_list_append mt_append (va nm_L_right 3) (pa_cons pe_int pa_nil)))
    (pss_one (ps_ret (pe_cmpR op_eq (pe_callB call_repr1 (by show _ = _; kernel_rfl) z_repr PyProof.Rows.boot_repr (pa_cons (pe_call DE.ok (hr.mono (by omega)) (by show _ = _; kernel_rfl) DE.at' DE.kp DE.bd .nil pass0 (pa_cons (va nm_L_right 0) pa_nil)) pa_nil)) (pe_callB call_repr1 (by show _ = _; kernel_rfl) z_repr PyProof.Rows.boot_repr (pa_cons (pe_callB (call_maxL rfl) (by show _ = _; kernel_rfl) z_max PyProof.Rows.boot_max (pa_cons (pe_compC (defScope s_L_right) ["_law_term", "_law_due", "_law_some", "_law_numbers"] ["_law_one", "_law_down"] [] rfl rfl rfl (by decide +kernel) (pi_list (va nm_L_right 1)) (fun _ _ _ _ => (pg_tupK (n := 2) K rfl rfl (pgs_cons (pg_name (i := 0) (show (["_law_one", "_law_down"] : List Str).Nodup by decide +kernel) rfl (Or.inl (by kernel_rfl)) (by first | exact .inl rfl | exact .inr (by kernel_rfl))) (pgs_cons (pg_name (i := 1) (show (["_law_one", "_law_down"] : List Str).Nodup by decide +kernel) rfl (Or.inl (by kernel_rfl)) (by first | exact .inl rfl | exact .inr (by kernel_rfl))) pgs_nil)))) (fun _ _ _ _ => pifs_nil) (fun _ _ _ _ => (va (show Nm ["_law_one", "_law_down"] _ by show _ = _; kernel_rfl) 1))) pa_nil)) pa_nil)) (nomark _))))))))))), ?_⟩
  refine ⟨_, rfl, Nat.zero_le _, fun l0 hl0 => ?_⟩
  have s0 := same_new hl0 (.lst [])
  refine ⟨v, tm, 0, l0, [], [], rfl, hv.same s0, wf, by omega, upd_same, .nil, by simp; omega, fun H1 ys o1 h1 r1 => ?_⟩
  have s1 : Same H H1 := fun b o e => o1 b o (ne_of_none e hl0) (s0 b o e)
  rw [List.nil_append] at r1
  have lw : (tm.walk 0).length = tm.size := by
    have z := congrArg List.length (Tm.walk_parts tm 0)
    rw [List.length_map, Tm.parts_length] at z
    exact z
  refine ⟨_, rfl, v, tm, rfl, hv.same s1, wf, by omega, fun p2 H2 ws s2 f2 h2 r2 => ?_⟩
  refine ⟨_, rfl, v, tm, rfl, hv.same (s1.trans s2), wf, by omega, fun p3 H3 s3 f3 h3 => ?_⟩
  have h32 := s3 _ _ h2
  have h31 := s3 _ _ (s2 _ _ h1)
  have n21 : l0 ≠ p2 := ne_of_none h1 f2
  have n31 : l0 ≠ p3 := ne_of_none (s2 _ _ h1) f3
  have n32 : p2 ≠ p3 := ne_of_none h2 f3
  refine ⟨_, rfl, p2, _, rfl, SqL.of h32, _, rfl, ifF rfl ?_⟩
  refine ⟨_, rfl, _, rfl, l0, rfl, ⟨_, SqL.of h31⟩, ?_⟩
  have r31 := r1.same (s2.trans s3)
  refine comp_ones h31 r31 (by omega) fun p4 ws4 hp4 r4 => ?_
  have s4 := same_new hp4 (.lst ws4)
  have e4 : ((tm.walk 0).map fun p => enc p.1) = tm.parts.map enc := by rw [← Tm.walk_parts tm 0, List.map_map]; rfl
  rw [e4] at r4
  refine ⟨p2, p4, tm.parts.map enc, tm.parts.map enc, ws, ws4, rfl, rfl, SqL.of (s4 _ _ h32), r2.same (s3.trans s4), SqL.of upd_same, r4.same s4, ?_, _, rfl, ifF (by simp) ?_⟩
  · refine T.deps_le fun x hx => ?_
    obtain ⟨pt, hpt, rfl⟩ := List.mem_map.mp hx
    have z := enc_dep pt
    have dpt := parts_depth tm pt hpt
    omega
  have h43 := s4 _ _ h3
  have h41 := s4 _ _ h31
  have r41 := r31.same s4
  have gs := gaps_small tm gk
  have lg : (tm.parts.filterMap gapOf).length ≤ 1000 := Nat.le_trans (List.length_filterMap_le _ _) (by rw [Tm.parts_length]; omega)
  have sh := shows_ints _ gs lg
  refine ⟨_, rfl, p3, _, rfl, SqL.of h43, _, rfl, ifF rfl ?_⟩
  refine ⟨_, rfl, p3, (tm.parts.filterMap gapOf).map .i, _, rfl, SqL.of h43, Rps.ints _, sh, ?_⟩
  refine ⟨_, rfl, l0, rfl, ⟨_, SqL.of h41⟩, ?_⟩
  refine comp_gaps h41 r41 (by omega) fun p5 hp5 => ?_
  have eg : ((tm.walk 0).filterMap fun p => gapOf p.1) = tm.parts.filterMap gapOf := by rw [← Tm.walk_parts tm 0, List.filterMap_map]; rfl
  rw [eg] at *
  have s5 := same_new hp5 (.lst ((tm.parts.filterMap gapOf).map V.int))
  refine ⟨p5, (tm.parts.filterMap gapOf).map .i, _, rfl, SqL.of upd_same, Rps.ints _, sh, rfl, _, rfl, ifF (by simp) ?_⟩
  have h52 := s5 _ _ (s4 _ _ h32)
  have h53 := s5 _ _ h43
  have h51 := s5 _ _ h41
  have s05 : Same H (upd (upd H3 p4 (.lst ws4)) p5 (.lst ((tm.parts.filterMap gapOf).map V.int))) := s1.trans (s2.trans (s3.trans (s4.trans s5)))
  have r51 := r41.same s5
  have lw2 := r2.length
  rw [List.length_map, Tm.parts_length] at lw2
  have fp2 : H p2 = none := s1.free f2
  have fp3 : H p3 = none := (s1.trans s2).free f3
  generalize upd (upd H3 p4 (.lst ws4)) p5 (.lst ((tm.parts.filterMap gapOf).map V.int)) = H5 at h52 h53 h51 s05 r51 ⊢
  refine ⟨_, rfl, .inl ⟨rfl, _, SqL.of h52⟩, _, rfl, p2, _, _, rfl, rfl, h52, small1000 (by omega), ?_⟩
  have k6 : Kt H5 (upd H5 p2 (.lst (ws ++ [v]))) := Kt.lst h52 _
  have h63 : upd H5 p2 (.lst (ws ++ [v])) p3 = some (.lst ((tm.parts.filterMap gapOf).map V.int)) := by rw [upd_ne n32.symm]; exact h53
  have h61 : upd H5 p2 (.lst (ws ++ [v])) l0 = some (.lst ys) := by rw [upd_ne n21]; exact h51
  have s06 := upd_fresh s05 fp2 (.lst (ws ++ [v]))
  have r61 := r51.kt k6
  generalize upd H5 p2 (.lst (ws ++ [v])) = H6 at k6 h63 h61 s06 r61 ⊢
  refine ⟨_, rfl, .inl ⟨rfl, _, SqL.of h63⟩, p3, _, _, rfl, rfl, h63, by rw [List.length_map]; exact Nat.lt_of_le_of_lt lg (by decide), ?_⟩
  have k7 : Kt H6 (upd H6 p3 (.lst ((tm.parts.filterMap gapOf).map V.int ++ [.int 0]))) := Kt.lst h63 _
  have h71 : upd H6 p3 (.lst ((tm.parts.filterMap gapOf).map V.int ++ [.int 0])) l0 = some (.lst ys) := by rw [upd_ne n31]; exact h61
  have s07 := upd_fresh s06 fp3 (.lst ((tm.parts.filterMap gapOf).map V.int ++ [.int 0]))
  have r71 := r61.kt k7
  generalize upd H6 p3 (.lst ((tm.parts.filterMap gapOf).map V.int ++ [.int 0])) = H7 at h71 s07 r71 ⊢
  refine ⟨_, rfl, v, tm, rfl, hv.same s07, wf, by omega, fun H8 s8 => ?_⟩
  refine ⟨_, _, rfl, rfl, log_small (by omega), ?_⟩
  refine ⟨_, rfl, l0, rfl, ⟨_, SqL.of (s8 _ _ h71)⟩, ?_⟩
  refine comp_downs (s8 _ _ h71) (r71.same s8) (by omega) fun p9 hp9 => ?_
  refine ⟨p9, (tm.walk 0).map fun p => (p.2 : Int), rfl, SqL.of upd_same, by rw [List.length_map]; have := Tm.size_pos tm; omega, fun M hM hmax => ?_⟩
  obtain ⟨⟨pm, hpm, epm⟩, le⟩ := Tm.walk_depth tm 0
  have eM : M = (tm.depth : Int) := by
    obtain ⟨q, hq, rfl⟩ := List.mem_map.mp hM
    have a1 := le q hq
    have a2 := hmax _ (List.mem_map.mpr ⟨pm, hpm, rfl⟩)
    rw [epm] at a2
    omega
  subst eM
  refine ⟨_, _, rfl, rfl, log_small (by omega), rfl, ?_⟩
  rw [decide_eq_true rfl]
  exact k _ (s07.trans (s8.trans (same_new hp9 _)))
end
end G02

namespace L2
open PySem PySem.Spec PyProof.Rows
section
variable {X : Cx}
/-- name = [elt for tg in iter if ..] on one line of a function: the name is bound ahead of the comprehension's own names being let go -/
theorem ps_comp {y : Str} {posn posa : Pos} {gg : TG} {elt iter tg : Expr} {ifs : List Expr} {scope : Scope} {pos : Pos} {wi : TI} {g : TG} {tt : TT} {te : TE} (own : List Str) (fr : List Nat) (hc : X.calm = true)
    (hkind : scope.kind = .function) (hcell : ∀ x ∈ scope.names, x.2 ≠ .cell) (hnames : ∀ x ∈ scope.names, x.2 = .local → scope.names.lookup x.1 = some .local)
    (hfr : ∀ x ∈ scope.names, x.2 = .free → X.env.scope.names.lookup x.1 = some .cell ∨ X.env.scope.names.lookup x.1 = some .free)
    (hin : ∀ j ∈ fr, scope.names.lookup (X.N.getD j Str.empty) = some .free)
    (hi : PI X tg iter wi) (hg : ∀ fp C s H, PG (cxComp X scope (own ++ fr.map fun j => X.N.getD j Str.empty) fp C s H) tg g)
    (ht : ∀ fp C s H, PIfs (cxComp X scope (own ++ fr.map fun j => X.N.getD j Str.empty) fp C s H) ifs tt)
    (he : ∀ fp C s H, PE (cxComp X scope (own ++ fr.map fun j => X.N.getD j Str.empty) fp C s H) elt te)
    (hgg : PG X (.Name y posn) gg) (hsw : swapsWith (.ListComp elt [⟨tg, iter, ifs, 0⟩] scope pos) (some (.Name y posn)) posa.line X.env = pure true)
    (hs : ∀ x, foldedSetIterable iter X.env x = pure x := by intro _; rfl) : PS X (.Assign [.Name y posn] (.ListComp elt [⟨tg, iter, ifs, 0⟩] scope pos) posa) (tAsg (tComp own.length fr wi g tt te) gg) := by
  intro pins s σ H D0 I h
  rw [exec_Assign_Name_used _ _ _ _ hsw, arm_evalThenUse_ListComp]
  refine wpAny_bind (wpAny_standAt (wpAny_bind (wpAny_bind ?_)))
  have hfree : ∀ x ∈ scope.names, x.2 = .free → ∃ c, X.env.cells.lookup x.1 = some c := fun x hx e => I.ok.has x.1 (hfr x hx e)
  refine thn (wpAny_comprehension_free (use := some (assign (.Name y posn) X.env)) (Q := fun _ s' => SP X pins D0 .next s') rfl hs (closureFor_eq hfree) hkind hnames ?_) fun _ _ q => wpAny_pure (wpAny_pure q)
  refine thn (hi pins s σ H _ I h) fun v s1 h1 => thn h1 fun itv s2 h2 => ?_
  obtain ⟨it, fp, tn, J, H2, e, I2, T, st2, f2, W, ⟨m0, w0⟩, turn⟩ := h2
  subst e
  have hfo : ∀ b ∈ fp, b < s2.heap.objs.size := fun b hb => by obtain ⟨o, e, _⟩ := T.obj 0 _ st2 b hb; exact Heap.lt_size e
  refine wpAny_newObj_type (wpAny_newFunctionEnv hcell (by intro y hy; simp at hy) (fun h₁ hns₁ hsb₁ => ?_) hkind)
  dsimp only at hns₁ hsb₁ ⊢
  generalize hH2 : s2.heap.push { cls := .type "list", dict := none, data := .seq ([] : List Value).toArray } = G2 at hns₁ hsb₁ ⊢
  have hC : G2.objs.size = s2.heap.objs.size + 1 := by rw [← hH2, Heap.size_push]
  have hDC : s2.heap.objs.size ≠ G2.objs.size := by rw [hC]; exact Nat.ne_of_lt (Nat.lt_succ_self _)
  have hCle : s2.heap.objs.size ≤ G2.objs.size := by rw [hC]; exact Nat.le_succ _
  have old : ∀ b o, s2.heap.get? b = some o → h₁.get? b = some o := fun b o e => hsb₁.extBut b o (by rw [hC]; exact Nat.ne_of_lt (Nat.lt_succ_of_lt (Heap.lt_size e))) (Heap.get?_push_of_some _ (hH2 ▸ Heap.get?_push_of_some _ e))
  have hacc : h₁.PlainList s2.heap.objs.size #[] := ⟨_, hsb₁.extBut _ _ hDC (Heap.get?_push_of_some _ (hH2 ▸ Heap.get?_push_size _ rfl))⟩
  have I3 : Inv (cxComp X scope (own ++ fr.map fun j => X.N.getD j Str.empty) fp G2.objs.size s2 H2) [] (innerSt own.length fr σ) H2 { s2 with heap := h₁, toks := s2.toks + ([] : List (Str × Value)).length } :=
    comp_enter I2 hkind hcell hfr hin hCle f2 hfo old hns₁
  have st3 : tn 0 h₁ := T.keep 0 _ _ st2 fun b _ o e => old b o e
  have hDf : s2.heap.objs.size ∉ fp := fun hm => Nat.lt_irrefl _ (hfo _ hm)
  have hDn2 : H2 s2.heap.objs.size = none := I2.hok.fresh (Nat.le_refl _)
  have sub : ∀ y c, (cellsFor X.env scope.names []).lookup y = some c → X.env.cells.lookup y = some c := cellsFor_sub _ _ hfree (by intro y c e; simp at e)
  have cellD : ∀ y c, (cellsFor X.env scope.names []).lookup y = some c → c ≠ s2.heap.objs.size := fun y c e => by
    obtain ⟨_, o, ho, _⟩ := I2.cell y c (sub y c e)
    exact Nat.ne_of_lt (Heap.lt_size ho)
  have Dfs : s2.heap.objs.size ∉ frs X.stack := fun z => by
    rcases List.mem_cons.mp (I2.stkSub _ z) with e | e
    · exact absurd I2.lt (by rw [← e]; exact Nat.lt_irrefl _)
    · exact I2.nofs (Nat.le_refl _) e
  -- the iterator's records, in the block's context
  have stat : ∀ {H' : Hp} {pl : List (Addr × Obj)}, (∀ b ∈ fp, H' b = none) → (∀ p ∈ pl, p.1 = s2.heap.objs.size) → ∀ b ∈ fp, FpOk (cxComp X scope (own ++ fr.map fun j => X.N.getD j Str.empty) fp G2.objs.size s2 H2) pl H' b := fun {H' pl} hn hp b hb => by
    refine ⟨hn b hb, (I3.ok.exf b hb).1, I3.ok.exfs b hb, .inl hb, (I3.ok.exf b hb).2, fun p hpp z => ?_⟩
    have hpp' : p ∈ pl := by simpa [cxComp] using hpp
    exact hDf (by rw [← hp p hpp', z]; exact hb)
  have pinD : ∀ {σ' : St} {H' : Hp} {s' : Shared} {ys : Array Value} {n : Nat}, Inv (cxComp X scope (own ++ fr.map fun j => X.N.getD j Str.empty) fp G2.objs.size s2 H2) [] σ' H' s' → H' s2.heap.objs.size = none → s'.heap.get? s2.heap.objs.size = some { cls := .type "list", data := .seq ys n } →
      Inv (cxComp X scope (own ++ fr.map fun j => X.N.getD j Str.empty) fp G2.objs.size s2 H2) [(s2.heap.objs.size, { cls := .type "list", data := .seq ys n })] σ' H' s' := fun {σ' H' s' ys n} J hn e => J.pins_of fun p hp => by
    have e' : p = (s2.heap.objs.size, { cls := .type "list", data := .seq ys n }) := by simpa using hp
    subst e'
    exact ⟨e, hn, hDC, Dfs, fun v z => nomatch z⟩
  have loop : codeAny (model X.prog X.w) X.A (.compLoop (.ListComp elt [⟨tg, iter, ifs, 0⟩] scope pos) 0 (.ref it) (.ref s2.heap.objs.size) (compEnvC scope (cellsFor X.env scope.names []) G2.objs.size X.env))
      (compPost (model X.prog X.w) X.A X.xe (some (assign (.Name y posn) X.env)) (fun _ s' => SP X pins D0 .next s') (.ref s2.heap.objs.size) G2.objs.size) { s2 with heap := h₁, toks := s2.toks + ([] : List (Str × Value)).length } := by
    refine codeAny_compLoop_any (E := fun _ _ => False) (fun n s' => ∃ i σ' H' vs ys, Inv (cxComp X scope (own ++ fr.map fun j => X.N.getD j Str.empty) fp G2.objs.size s2 H2) [] σ' H' s' ∧ tn i s'.heap ∧ (∀ b ∈ fp, H' b = none) ∧ H' s2.heap.objs.size = none ∧ s'.heap.PlainList s2.heap.objs.size ys ∧ Vals vs ys.toList ∧ W i n σ' vs H')
      ?_ (fun _ _ z => z.elim) m0 ⟨0, _, H2, [], #[], I3, st3, fun b hb => (f2 b hb).1, hDn2, hacc, .nil, w0⟩
    rintro n s3 ⟨i, σ3, H3, vs, ys, J3, st3, fr3, dn3, ⟨pn, pl3⟩, rv, w3⟩
    have J3' := pinD J3 dn3 pl3
    have hpins : ∀ p ∈ [(s2.heap.objs.size, ({ cls := .type "list", data := .seq ys pn } : Obj))], p.1 = s2.heap.objs.size := fun p hp => by
      have e' : p = (s2.heap.objs.size, { cls := .type "list", data := .seq ys pn }) := by simpa using hp
      rw [e']
    rcases turn i n σ3 vs H3 w3 with ⟨stop, hz, q⟩ | ⟨go, hz, N, hN, step⟩
    · refine thn (T.done (cxComp X scope (own ++ fr.map fun j => X.N.getD j Str.empty) fp G2.objs.size s2 H2) rfl rfl rfl hc i _ s3 σ3 H3 (fun _ _ => False) J3' (stat fr3 hpins) st3 stop) fun r s4 ⟨hr, J4⟩ => ?_
      subst hr
      obtain ⟨m4, hn4, _⟩ := id J4.loc
      have e4 : s4.heap.get? s2.heap.objs.size = some { cls := .type "list", data := .seq ys pn } := (J4.pin (s2.heap.objs.size, { cls := .type "list", data := .seq ys pn }) (List.mem_append_right _ (by simp))).1
      obtain ⟨oC, es, ep, eC, dC, kC, fC⟩ := hn4
      have I4 : Inv X pins σ (upd H3 s2.heap.objs.size (.lst vs)) s4 := comp_leave (h'' := s4.heap) I2 f2 J4 hCle (Nat.le_refl _) hDC dn3 ⟨pn, e4⟩ rv hz ⟨rfl, fun _ _ => rfl⟩
      have cL : G2.objs.size ≠ X.env.locals := fun z => absurd I2.lt (by rw [← z]; exact Nat.not_lt.mpr hCle)
      have I5 : Inv X (pins ++ [(G2.objs.size, oC)]) σ (upd H3 s2.heap.objs.size (.lst vs)) s4 := I4.pins_of fun p hp => by
        rcases List.mem_append.mp hp with z | z
        · exact I4.pin p (List.mem_append_right _ z)
        · have z : p = (G2.objs.size, oC) := by simpa using z
          subst z
          exact ⟨eC, by rw [upd_ne hDC.symm]; exact J4.free, cL, I2.nofs hCle, fun v zv => by rw [dC] at zv; cases zv⟩
      show wpAny _ _ (assign (.Name y posn) X.env (.ref s2.heap.objs.size)) _ _ _
      refine thn (hgg _ s4 σ _ (.ref s2.heap.objs.size) _ _ I5 rfl (q _ dn3)) fun _ s5 ⟨σ5, H5, I6, q6⟩ => ?_
      have pC := I6.pin (G2.objs.size, oC) (List.mem_append_right _ (List.mem_append_right _ (by simp)))
      refine ⟨m4, ⟨oC, es, ep, pC.1, dC, kC, fC⟩, fun h' hs' => ?_⟩
      have I7 : Inv X pins σ5 H5 s5 := I6.pins_of fun p hp => I6.pin p (List.mem_append_right _ (List.mem_append_left _ hp))
      refine ⟨σ5, H5, I7.turned (t' := s5.toks) (it := G2.objs.size) (fun b o hb e => (hs'.2 b hb).trans e) pC.2.1 cL (.inr (Nat.le_trans I2.sz hCle)) (fun x c e z => ?_) (fun p hp z => ?_), q6⟩
      · obtain ⟨_, o, ho, _⟩ := I2.cell x c e
        exact absurd (Heap.lt_size ho) (by rw [z]; exact Nat.not_lt.mpr hCle)
      · exact absurd (Heap.lt_size (I2.pin p hp).1) (by rw [z]; exact Nat.not_lt.mpr hCle)
    · refine thn (T.item (cxComp X scope (own ++ fr.map fun j => X.N.getD j Str.empty) fp G2.objs.size s2 H2) rfl rfl rfl hc i _ s3 σ3 H3 (fun _ _ => False) J3' (stat fr3 hpins) st3 go) fun r s4 ⟨u, hr, h4⟩ => ?_
      subst hr
      refine thn h4 fun _ s5 ⟨x, H5, J5, r5, y5, st5, fr5⟩ => ?_
      have J5' := J5.pinned (stat fr5 hpins) (T.obj _ _ st5)
      refine thn (hg fp _ s2 H2 _ s5 σ3 H5 x u _ J5' r5 (step x H5 y5)) fun _ s6 ⟨σ6, H6, J6, q6⟩ => ?_
      refine thn (ht fp _ s2 H2 _ s6 σ6 H6 _ J6 q6) fun ok s7 ⟨H7, J7, q7⟩ => ?_
      -- what stood pinned through the turn
      have after : ∀ {s8 : Shared} {H8 : Hp}, Inv (cxComp X scope (own ++ fr.map fun j => X.N.getD j Str.empty) fp G2.objs.size s2 H2) ([(s2.heap.objs.size, ({ cls := .type "list", data := .seq ys pn } : Obj))] ++ pinsAt fp s5.heap) σ6 H8 s8 →
          tn (i + 1) s8.heap ∧ (∀ b ∈ fp, H8 b = none) ∧ H8 s2.heap.objs.size = none ∧ s8.heap.get? s2.heap.objs.size = some { cls := .type "list", data := .seq ys pn } := fun {s8 H8} J8 => by
        refine ⟨T.keep _ _ _ st5 fun b hb o e => (J8.pin (b, o) (List.mem_append_right _ (List.mem_append_right _ (mem_pinsAt hb e)))).1, fun b hb => ?_, ?_, ?_⟩
        · obtain ⟨o, e, d⟩ := T.obj _ _ st5 b hb
          exact (J8.pin (b, o) (List.mem_append_right _ (List.mem_append_right _ (mem_pinsAt hb e)))).2.1
        · exact (J8.pin (s2.heap.objs.size, { cls := .type "list", data := .seq ys pn }) (List.mem_append_right _ (List.mem_append_left _ (by simp)))).2.1
        · exact (J8.pin (s2.heap.objs.size, { cls := .type "list", data := .seq ys pn }) (List.mem_append_right _ (List.mem_append_left _ (by simp)))).1
      cases ok with
      | false =>
        obtain ⟨m', hm, w7⟩ := hN _ _ _ q7
        obtain ⟨a1, a2, a3, a4⟩ := after J7
        exact ⟨m', hm, i + 1, σ6, H7, vs, ys, J7.pins_of (fun p hp => absurd hp (by simp)), a1, a2, a3, ⟨pn, a4⟩, rv, w7⟩
      | true =>
        refine thn (he fp _ s2 H2 _ s7 σ6 H7 _ J7 q7) fun y s8 ⟨v8, H8, J8, r8, n8⟩ => ?_
        obtain ⟨m', hm, w8⟩ := hN _ _ _ n8
        obtain ⟨a1, a2, a3, a4⟩ := after J8
        have J9 : Inv (cxComp X scope (own ++ fr.map fun j => X.N.getD j Str.empty) fp G2.objs.size s2 H2) [] σ6 H8 s8 := J8.pins_of (fun p hp => absurd hp (by simp))
        have hys : ys.size ≤ sizeLine := by
          have e1 : vs.length = ys.toList.length := rv.length
          have e2 : ys.toList.length = ys.size := by simp
          omega
        refine wpAny_list_append_plain (hsz := hys) ⟨pn, a4⟩ fun h₅ hl₅ hs₅ => ?_
        refine ⟨m', hm, i + 1, σ6, H8, vs ++ [v8], ys.push y, J9.turned (t' := s8.toks) (it := s2.heap.objs.size) (fun b o hb e => by rw [hs₅.2 b hb]; exact e) a3 hDC (.inr (Nat.le_refl _)) cellD (fun p hp => absurd (show p ∈ ([] : List (Addr × Obj)) from hp) (by simp)),
          T.keep _ _ _ a1 fun b hb o e => (hs₅.2 b (fun z => hDf (z ▸ hb))).trans e, a2, a3, hl₅, ?_, w8⟩
        have : Vals (vs ++ [v8]) (ys.toList ++ [y]) := rv.append (.cons r8 .nil)
        simpa using this
  exact codeAny_compStart_list loop (T.self X.A 0 _ _ _ st3 loop)
end
theorem ps_compC {X : Cx} {y : Str} {posn posa : Pos} {gg : TG} {elt iter tg : Expr} {ifs : List Expr} {scope : Scope} {pos : Pos} {wi : TI} {g : TG} {tt : TT} {te : TE} (sc : Scope) (N0 own : List Str) (fr : List Nat) (hc : X.calm = true) (hsc : X.env.scope = sc) (hN : X.N = N0)
    (ok : compOk scope sc N0 fr = true) (hi : PI X tg iter wi) (hg : ∀ fp C s H, PG (cxComp X scope (own ++ fr.map fun j => N0.getD j Str.empty) fp C s H) tg g)
    (ht : ∀ fp C s H, PIfs (cxComp X scope (own ++ fr.map fun j => N0.getD j Str.empty) fp C s H) ifs tt)
    (he : ∀ fp C s H, PE (cxComp X scope (own ++ fr.map fun j => N0.getD j Str.empty) fp C s H) elt te)
    (hgg : PG X (.Name y posn) gg) (hsw : swapsWith (.ListComp elt [⟨tg, iter, ifs, 0⟩] scope pos) (some (.Name y posn)) posa.line X.env = pure true := by kernel_rfl)
    (hs : ∀ x, foldedSetIterable iter X.env x = pure x := by intro _; rfl) : PS X (.Assign [.Name y posn] (.ListComp elt [⟨tg, iter, ifs, 0⟩] scope pos) posa) (tAsg (tComp own.length fr wi g tt te) gg) := by
  subst hsc hN
  unfold compOk at ok
  simp only [Bool.and_eq_true, List.all_eq_true, bne_iff_ne, beq_iff_eq, Bool.or_eq_true] at ok
  obtain ⟨⟨k1, k2⟩, k3⟩ := ok
  refine ps_comp own fr hc k1 (fun x hx => (k2 x hx).1.1) (fun x hx e => ?_) (fun x hx e => ?_) (fun j hj => k3 j hj) hi hg ht he hgg hsw hs
  · rcases (k2 x hx).1.2 with z | z
    · exact absurd e z
    · exact z
  · rcases (k2 x hx).2 with (z | z) | z
    · exact absurd e z
    · exact .inl z
    · exact .inr z
end L2

namespace G02
open PySem L2
theorem two_of {K : PySem.W.Frag} {H : Hp} {tms : List Tm} {vs : List V} (r : Rps K H (tms.map enc) vs) (l : tms.length = 2) : ∃ t1 t2 u1 u2, tms = [t1, t2] ∧ vs = [u1, u2] ∧ Rp K H (enc t1) u1 ∧ Rp K H (enc t2) u2 := by
  match tms, l with
  | [t1, t2], _ =>
    obtain ⟨u1, q, rfl, h1, r⟩ := Rps.inv r
    obtain ⟨u2, q, rfl, h2, r⟩ := Rps.inv r
    obtain rfl := r.inv0
    exact ⟨t1, t2, u1, u2, rfl, rfl, h1, h2⟩
theorem three_of {K : PySem.W.Frag} {H : Hp} {tms : List Tm} {vs : List V} (r : Rps K H (tms.map enc) vs) (l : tms.length = 3) : ∃ t1 t2 t3 u1 u2 u3, tms = [t1, t2, t3] ∧ vs = [u1, u2, u3] ∧ Rp K H (enc t1) u1 ∧ Rp K H (enc t2) u2 ∧ Rp K H (enc t3) u3 := by
  match tms, l with
  | [t1, t2, t3], _ =>
    obtain ⟨u1, q, rfl, h1, r⟩ := Rps.inv r
    obtain ⟨u2, q, rfl, h2, r⟩ := Rps.inv r
    obtain ⟨u3, q, rfl, h3, r⟩ := Rps.inv r
    obtain rfl := r.inv0
    exact ⟨t1, t2, t3, u1, u2, u3, rfl, rfl, h1, h2, h3⟩
section
variable {P : Program} {w : World} {K : PySem.W.Frag} {mg : Str → Option Value} {base : Heap} {gT gL gM gS : Addr} {tfd lfd mfd sfd : FuncData}
theorem nm_L_any : Nm ["_law_feed_here", "_law_words", "_law_room", "_law_down", "_law_form", "_law_word", "_law_one", "_law_other", "_law_some", "_law_arms", "_law_last"] (defScope s_L_any) := by decide +kernel
theorem lm_L_any : Lm ["_law_feed_here", "_law_words", "_law_room", "_law_down", "_law_form", "_law_word", "_law_one", "_law_other", "_law_some", "_law_arms", "_law_last"] (defScope s_L_any) := by decide +kernel
theorem sc_L_any : FnScope ["_law_feed_here", "_law_words", "_law_room", "_law_down", "_law_form", "_law_word", "_law_one", "_law_other", "_law_some", "_law_arms", "_law_last"] ["_law_feed_here", "_law_words", "_law_room", "_law_down"] (defScope s_L_any) := ⟨rfl, rfl, rfl, by decide +kernel, rfl, by decide +kernel, by decide +kernel⟩
theorem ok_any {f : Addr} {fd : FuncData} {n j : Nat} (hj : 3 ≤ j) (F : Fun K "_law_any" "_law_any" s_L_any f fd) (TK : Has P w K mg base "_law_take" 1 ["_law_feed_here", "_law_many"] spTake gT tfd) (LE : Has P w K mg base "_law_leaf_of" 3 ["_law_feed_here", "_law_words"] (spLeaf K) gL lfd)
    (MO : Has P w K mg base "_law_many_of" j ["_law_feed_here", "_law_words", "_law_many", "_law_room", "_law_down"] (spMany K n) gM mfd) (SW : Has P w K mg base "_law_some_words" 2 ["_law_feed_here", "_law_words"] (spSomeWords K) gS sfd) (z_len : mg "len" = none) (z_tuple : mg "tuple" = none) :
    FnOk P w K mg base CX0 (j + 1) f fd ["_law_feed_here", "_law_words", "_law_room", "_law_down"] (spAny K n) := by
  refine F.ok sc_L_any (fun vs H Q E h => ?_) (fun cdv A outer s H vs Q E hr h => ?_)
  · obtain ⟨v, a, b, c, d, rfl, _⟩ := h
    rfl
  obtain ⟨r, a, ws, room, down, rfl, hf, hw, rm1, rm40, dnn, k⟩ := h
  refine ⟨_, (pss_cons (sa sc_L_any.nd lm_L_any 4 (pe_call TK.ok (hr.mono (by omega)) (by show _ = _; kernel_rfl) TK.at' TK.kp TK.bd .nil pass0 (pa_cons (va nm_L_any 0) (pa_cons pe_int pa_nil))))
    (pss_cons (ps_if (PW.pt (pw_or (pt_cmpR op_lt (va nm_L_any 2) pe_int (nomark _)) (pw_or (pt_cmpR op_lt (va nm_L_any 3) pe_int (nomark _)) (pw_or1 (pt_cmpR op_eq (va nm_L_any 4) pe_int (nomark _)))))) (pss_one (ps_ret (pe_call LE.ok (hr.mono (by omega)) (by show _ = _; kernel_rfl) LE.at' LE.kp LE.bd .nil pass0 (pa_cons (va nm_L_any 0) (pa_cons (va nm_L_any 1) pa_nil))))) pss_nil)
    (pss_cons (sa sc_L_any.nd lm_L_any 5 (pe_ix ix_list (va nm_L_any 1) (pe_call TK.ok (hr.mono (by omega)) (by show _ = _; kernel_rfl) TK.at' TK.kp TK.bd .nil pass0 (pa_cons (va nm_L_any 0) (pa_cons (pe_callB call_len_seq (by show _ = _; kernel_rfl) z_len PySem.boot_len (pa_cons (va nm_L_any 1) pa_nil)) pa_nil))) (fun _ _ => rfl)))
    (pss_cons (ps_if (pt_cmpR op_lt (va nm_L_any 4) pe_int (nomark _)) (pss_cons (ps_asg (pe_call MO.ok (hr.mono (by omega)) (by show _ = _; kernel_rfl) MO.at' MO.kp MO.bd .nil pass0 (pa_cons (va nm_L_any 0) (pa_cons (va nm_L_any 1) (pa_cons pe_int (pa_cons (va nm_L_any 2) (pa_cons (va nm_L_any 3) pa_nil)))))) (pg_tupK (n := 2) K rfl rfl (pgs_cons (ga sc_L_any.nd lm_L_any 6) (pgs_cons (ga sc_L_any.nd lm_L_any 7) pgs_nil))))
    (pss_one (ps_ret (pe_ix ix_list (pe_lst (pa_cons (pe_tup (pa_cons pe_str (pa_cons (pe_ix ix_str pe_str (pe_call TK.ok (hr.mono (by omega)) (by show _ = _; kernel_rfl) TK.at' TK.kp TK.bd .nil pass0 (pa_cons (va nm_L_any 0) (pa_cons pe_int pa_nil))) (fun _ _ => rfl)) (pa_cons (va nm_L_any 6) (pa_cons (va nm_L_any 7) pa_nil))))) (pa_cons (pe_tup (pa_cons pe_str (pa_cons (va nm_L_any 6) (pa_cons (va nm_L_any 7) pa_nil)))) pa_nil))) (pe_op op_sub (va nm_L_any 4) pe_int) (fun _ _ => rfl))))) pss_nil)
    (pss_cons (ps_if (pt_cmpR op_eq (va nm_L_any 4) pe_int (nomark _)) (pss_one (ps_ret (pe_op op_catT (pe_tup (pa_cons (pe_ix ix_list (pe_lst (pa_cons pe_str (pa_cons pe_str (pa_cons pe_str pa_nil)))) (pe_call TK.ok (hr.mono (by omega)) (by show _ = _; kernel_rfl) TK.at' TK.kp TK.bd .nil pass0 (pa_cons (va nm_L_any 0) (pa_cons pe_int pa_nil))) (fun _ _ => rfl)) pa_nil)) (pe_call MO.ok (hr.mono (by omega)) (by show _ = _; kernel_rfl) MO.at' MO.kp MO.bd .nil pass0 (pa_cons (va nm_L_any 0) (pa_cons (va nm_L_any 1) (pa_cons pe_int (pa_cons (va nm_L_any 2) (pa_cons (va nm_L_any 3) pa_nil))))))))) pss_nil)
    (pss_cons (ps_if (pt_cmpR op_lt (va nm_L_any 4) pe_int (nomark _)) (pss_cons (sa sc_L_any.nd lm_L_any 8 (pe_call MO.ok (hr.mono (by omega)) (by show _ = _; kernel_rfl) MO.at' MO.kp MO.bd .nil pass0 (pa_cons (va nm_L_any 0) (pa_cons (va nm_L_any 1) (pa_cons (pe_call TK.ok (hr.mono (by omega)) (by show _ = _; kernel_rfl) TK.at' TK.kp TK.bd .nil pass0 (pa_cons (va nm_L_any 0) (pa_cons pe_int pa_nil))) (pa_cons (va nm_L_any 2) (pa_cons (va nm_L_any 3) pa_nil)))))))
    (pss_one (ps_ret (pe_ix ix_list (pe_lst (pa_cons (pe_tup (pa_cons pe_str (pa_cons (va nm_L_any 8) pa_nil))) (pa_cons (pe_tup (pa_cons pe_str (pa_cons (va nm_L_any 5) (pa_cons (va nm_L_any 8) pa_nil)))) (pa_cons (pe_tup (pa_cons pe_str (pa_cons (va nm_L_any 5) (pa_cons (va nm_L_any 8) pa_nil)))) pa_nil)))) (pe_op op_sub (va nm_L_any 4) pe_int) (fun _ _ => rfl))))) pss_nil)
    (pss_cons (ps_if (pt_cmpR op_eq (va nm_L_any 4) pe_int (nomark _)) (pss_cons (sa sc_L_any.nd lm_L_any 8 (pe_call MO.ok (hr.mono (by omega)) (by show _ = _; kernel_rfl) MO.at' MO.kp MO.bd .nil pass0 (pa_cons (va nm_L_any 0) (pa_cons (va nm_L_any 1) (pa_cons (pe_op op_add pe_int (pe_call TK.ok (hr.mono (by omega)) (by show _ = _; kernel_rfl) TK.at' TK.kp TK.bd .nil pass0 (pa_cons (va nm_L_any 0) (pa_cons pe_int pa_nil)))) (pa_cons (va nm_L_any 2) (pa_cons (va nm_L_any 3) pa_nil)))))))
    (pss_cons (ps_compC (defScope s_L_any) ["_law_feed_here", "_law_words", "_law_room", "_law_down", "_law_form", "_law_word", "_law_one", "_law_other", "_law_some", "_law_arms", "_law_last"] ["_law_inner"] [0, 1] rfl rfl rfl (by decide +kernel) (pi_tup (pe_slice sl_tup (va nm_L_any 8) (po_some pe_int) po_none)) (fun _ _ _ _ => (pg_name (i := 0) (show (["_law_inner", "_law_feed_here", "_law_words"] : List Str).Nodup by decide +kernel) rfl (Or.inl (by kernel_rfl)) (by first | exact .inl rfl | exact .inr (by kernel_rfl)))) (fun _ _ _ _ => pifs_nil) (fun _ _ _ _ => (pe_tup (pa_cons (pe_ix (ix_listK K rfl) (va (show Nm ["_law_inner", "_law_feed_here", "_law_words"] _ by show _ = _; kernel_rfl) 2) (pe_call TK.ok (hr.mono (by omega)) (by show _ = _; kernel_rfl) TK.at' TK.kp TK.bd .nil pass0 (pa_cons (va (show Nm ["_law_inner", "_law_feed_here", "_law_words"] _ by show _ = _; kernel_rfl) 1) (pa_cons (pe_callB (call_len_seqK K rfl) (by show _ = _; kernel_rfl) z_len PySem.boot_len (pa_cons (va (show Nm ["_law_inner", "_law_feed_here", "_law_words"] _ by show _ = _; kernel_rfl) 2) pa_nil)) pa_nil))) (fun _ _ => rfl)) (pa_cons (pe_call SW.ok (hr.mono (by omega)) (by show _ = _; kernel_rfl) SW.at' SW.kp SW.bd .nil pass0 (pa_cons (va (show Nm ["_law_inner", "_law_feed_here", "_law_words"] _ by show _ = _; kernel_rfl) 1) (pa_cons (va (show Nm ["_law_inner", "_law_feed_here", "_law_words"] _ by show _ = _; kernel_rfl) 2) pa_nil))) (pa_cons (va (show Nm ["_law_inner", "_law_feed_here", "_law_words"] _ by show _ = _; kernel_rfl) 0) pa_nil))))) (ga sc_L_any.nd lm_L_any 9))
    (pss_one (ps_ret (pe_tup (pa_cons pe_str (pa_cons (pe_ix ix_tup (va nm_L_any 8) pe_int (fun _ _ => rfl)) (pa_cons (pe_callTy call_tuple_of (by show _ = _; kernel_rfl) z_tuple PyProof.Rows.boot_tuple (pa_cons (va nm_L_any 9) pa_nil)) pa_nil)))))))) pss_nil)
    (pss_cons (ps_if (pt_cmpR op_eq (va nm_L_any 4) pe_int (nomark _)) (pss_one (ps_ret (pe_op op_catT (pe_tup (pa_cons pe_str pa_nil)) (pe_call MO.ok (hr.mono (by omega)) (by show _ = _; kernel_rfl) MO.at' MO.kp MO.bd .nil pass0 (pa_cons (va nm_L_any 0) (pa_cons (va nm_L_any 1) (pa_cons pe_int (pa_cons (va nm_L_any 2) (pa_cons (va nm_L_any 3) pa_nil))))))))) pss_nil)
    (pss_cons (ps_if (pt_cmpR op_eq (va nm_L_any 4) pe_int (nomark _)) (pss_one (ps_ret (pe_op op_catT (pe_tup (pa_cons pe_str (pa_cons (va nm_L_any 5) pa_nil))) (pe_call MO.ok (hr.mono (by omega)) (by show _ = _; kernel_rfl) MO.at' MO.kp MO.bd .nil pass0 (pa_cons (va nm_L_any 0) (pa_cons (va nm_L_any 1) (pa_cons pe_int (pa_cons (va nm_L_any 2) (pa_cons (va nm_L_any 3) pa_nil))))))))) pss_nil)
    (pss_cons (ps_asg (pe_call MO.ok (hr.mono (by omega)) (by show _ = _; kernel_rfl) MO.at' MO.kp MO.bd .nil pass0 (pa_cons (va nm_L_any 0) (pa_cons (va nm_L_any 1) (pa_cons pe_int (pa_cons (va nm_L_any 2) (pa_cons (va nm_L_any 3) pa_nil)))))) (pg_tupK (n := 3) K rfl rfl (pgs_cons (ga sc_L_any.nd lm_L_any 6) (pgs_cons (ga sc_L_any.nd lm_L_any 7) (pgs_cons (ga sc_L_any.nd lm_L_any 10) pgs_nil)))))
    (pss_one (ps_ret (pe_tup (pa_cons pe_str (pa_cons (va nm_L_any 6) (pa_cons (va nm_L_any 5) (pa_cons (pe_ix ix_list (va nm_L_any 1) (pe_call TK.ok (hr.mono (by omega)) (by show _ = _; kernel_rfl) TK.at' TK.kp TK.bd .nil pass0 (pa_cons (va nm_L_any 0) (pa_cons (pe_callB call_len_seq (by show _ = _; kernel_rfl) z_len PySem.boot_len (pa_cons (va nm_L_any 1) pa_nil)) pa_nil))) (fun _ _ => rfl)) (pa_cons (va nm_L_any 7) (pa_cons (va nm_L_any 10) pa_nil))))))))))))))))))), ?_⟩
  refine ⟨_, rfl, r, 11, rfl, by decide, by decide, hf, fun q H1 q0 q1 e1 => ?_⟩
  have hw1 := hw.ext hf e1
  have leaf : ∀ {Hf : Hp} {E' : XK}, Ext r H Hf → spLeaf K [.ref r, .ref a] Hf Q E' := fun {Hf E'} e =>
    ⟨r, a, ws, rfl, e.2, hw.ext hf e, fun v H2 tm rp g e2 => k v H2 tm rp (g down room rm1) (e.trans e2)⟩
  refine ⟨_, rfl, _, _, rfl, rfl, _, rfl, ite2 (fun c => ⟨_, rfl, _, rfl, leaf (E' := fun _ _ _ => False) e1⟩) (fun c => ?_)⟩
  have rm4 : 4 ≤ room := by
    have z : ¬ (room : Int) < 4 := fun z => c (decide_eq_true z)
    omega
  refine ⟨_, rfl, _, _, rfl, rfl, _, rfl, ite2 (fun c => ⟨_, rfl, _, rfl, leaf (E' := fun _ _ _ => False) e1⟩) (fun c => ?_)⟩
  have dn1 : 1 ≤ down := by
    have z : ¬ (down : Int) < 1 := fun z => c (decide_eq_true z)
    omega
  refine ⟨_, rfl, rfl, _, rfl, ite2 (fun c => ⟨_, rfl, _, rfl, leaf (E' := fun _ _ _ => False) e1⟩) (fun c => ?_)⟩
  have qn0 : q ≠ 0 := fun z => c (decide_eq_true (by rw [z]))
  refine ⟨_, rfl, _, rfl, _, rfl, a, _, rfl, .inl (SqL.of hw1.1), ?_⟩
  rw [List.length_map]
  refine ⟨r, _, rfl, by have := hw.2; omega, by have := hw.2; omega, e1.2, fun x H2 x0 x1 e2 => ?_⟩
  obtain ⟨v, hv, hm⟩ := atI_of (xs := ws.map V.str) x0 (by rw [List.length_map]; exact x1)
  obtain ⟨y, hy, rfl⟩ := List.mem_map.mp hm
  have x2 := e1.trans e2
  have hw2 := hw.ext hf x2
  refine ⟨a, _, _, _, rfl, rfl, SqL.of hw2.1, hv, ?_⟩
  have fin : ∀ {v : V} {Hf : Hp} (h : Hd) (ks : List Tm), Rp K Hf (encH h (ks.map enc)) v → arOk h ks.length = true → (∀ n, h ≠ .gap n) → (∀ t ∈ ks, ∃ n, Good (down - 1) n t) → Tm.sizes ks + 1 ≤ room → Ext r H Hf → Q v Hf := fun {v Hf} h ks rp ar ng g z e => by
    refine k v Hf (.mk h ks) (by rw [enc_mk]; exact rp) ?_ e
    have := Good.mk_ (d := down - 1) (n := room) ar (fun n e => absurd e (ng n)) g z
    rwa [show down - 1 + 1 = down by omega] at this
  have many : ∀ {Hf : Hp} (m : Nat) {Q' : VK} {E' : XK}, m ≤ 10 → Ext r H Hf → (∀ (p : Addr) (H' : Hp) (vs : List V) (tms : List Tm), H' p = some (.tup vs) → Rps K H' (tms.map enc) vs → tms.length = min m (room - 1) → (∀ t ∈ tms, ∃ n, Good (down - 1) n t) → Tm.sizes tms + 1 ≤ room → Ext r Hf H' → Q' (.ref p) H') →
      spMany K n [.ref r, .ref a, .int m, .int room, .int down] Hf Q' E' := fun {Hf} m {Q'} {E'} hm e go =>
    ⟨r, a, ws, m, room, down, rfl, e.2, hw.ext hf e, hm, rm4, rm40, dn1, dnn, go⟩
  refine ⟨_, rfl, _, _, rfl, rfl, _, rfl, ite2 (fun c => ?_) (fun c => ?_)⟩
  · have c3 : q < 3 := of_decide_eq_true c
    refine ⟨_, rfl, _, rfl, _, rfl, _, rfl, r, a, ws, 2, room, down, rfl, x2.2, hw.ext hf x2, by decide, rm4, rm40, dn1, dnn, fun p H3 vs tms h3 r3 l3 g3 z3 e3 => ?_⟩
    obtain ⟨t1, t2, u1, u2, rfl, rfl, ru1, ru2⟩ := two_of r3 (by omega)
    refine ⟨p, _, rfl, SqT.of h3, rfl, _, _, rfl, _, _, rfl, rfl, ?_⟩
    have x3 := x2.trans e3
    refine ⟨_, rfl, r, 6, rfl, by decide, by decide, x3.2, fun d H4 d0 d1 e4 => ?_⟩
    obtain ⟨c, hc1, hc2⟩ := atS (z := "+-*:<=") d0 d1
    refine ⟨_, d, c, rfl, rfl, (by decide +kernel), hc1, ?_⟩
    have k4 := e4.kt x3.2
    refine ⟨_, rfl, _, rfl, (by show 4 ≤ sizeLine; decide), fun p1 hp1 => ?_⟩
    refine ⟨_, rfl, _, rfl, (by show 3 ≤ sizeLine; decide), fun p2 hp2 => ⟨(by show 2 ≤ sizeLine; decide), fun l hl => ?_⟩⟩
    have x5 := (((x3.trans e4).new hp1 (.tup [.str "op", .str ⟨#[c]⟩, u1, u2])).new hp2 (.tup [.str "more", u1, u2])).new hl (.lst [.ref p1, .ref p2])
    have n1 : Kt H4 (upd H4 p1 (.tup [.str "op", .str ⟨#[c]⟩, u1, u2])) := Kt.new hp1 _
    have r1 : Rp K _ (encH (.op ⟨#[c]⟩) ([t1, t2].map enc)) (.ref p1) := (Rp.new (K := K) hp1 (xs := [.s "op", .s ⟨#[c]⟩, enc t1, enc t2]) (.cons .s (.cons .s (.cons (ru1.kt k4) (.one (ru2.kt k4)))))).kt ((Kt.new hp2 (.tup [.str "more", u1, u2])).trans (Kt.new hl (.lst [.ref p1, .ref p2])))
    have r2 : Rp K _ (encH .more ([t1, t2].map enc)) (.ref p2) := (Rp.new (K := K) hp2 (xs := [.s "more", enc t1, enc t2]) (.cons .s (.cons (ru1.kt (k4.trans n1)) (.one (ru2.kt (k4.trans n1)))))).kt (Kt.new hl (.lst [.ref p1, .ref p2]))
    have q3 : q = 1 ∨ q = 2 := by omega
    rcases q3 with rfl | rfl
    · exact ⟨_, rfl, _, _, rfl, rfl, l, _, 0, _, rfl, rfl, SqL.of upd_same, rfl, fin _ _ r1 rfl (fun _ z => nomatch z) g3 z3 x5⟩
    · exact ⟨_, rfl, _, _, rfl, rfl, l, _, 1, _, rfl, rfl, SqL.of upd_same, rfl, fin _ _ r2 rfl (fun _ z => nomatch z) g3 z3 x5⟩
  have c3 : ¬ q < 3 := fun z => c (decide_eq_true z)
  have cat : ∀ {Hf H3 : Hp} {p1 p : Addr} {xs vs : List V} {ts : List T} {tms : List Tm} (h : Hd), Ext r H Hf → Hf p1 = some (.tup xs) → Rps K Hf ts xs → xs ≠ [] → xs.length ≤ 5 → Ext r Hf H3 → H3 p = some (.tup vs) → Rps K H3 (tms.map enc) vs → 1 ≤ tms.length → tms.length ≤ 10 → (∀ t ∈ tms, ∃ n, Good (down - 1) n t) → Tm.sizes tms + 1 ≤ room → encH h (tms.map enc) = .t (ts ++ tms.map enc) → arOk h tms.length = true → (∀ n, h ≠ .gap n) → rCatT K (.ref p1) (.ref p) H3 Q := by
    intro Hf H3 p1 p xs vs ts tms h xf hp1 rx nx lx e3 hp rv l1 l10 g z eh ar ng
    have lv := rv.length
    rw [List.length_map] at lv
    have kk := e3.kt xf.2
    refine ⟨p1, p, _, _, rfl, rfl, (SqT.of hp1).kt kk, SqT.of hp, nx, small (by omega), fun z => ?_, fun _ p5 hp5 => ?_⟩
    · rw [z] at lv; simp at lv; omega
    · refine fin h tms ?_ ar ng g z ((xf.trans e3).new hp5 _)
      rw [eh]
      exact Rp.new hp5 ((rx.kt kk).append rv)
  refine ⟨_, rfl, rfl, _, rfl, ite2 (fun c => ?_) (fun c => ?_)⟩
  · refine ⟨(by show 3 ≤ sizeLine; decide), fun l hl => ?_⟩
    have nlr : l ≠ r := fun z => by subst z; obtain ⟨a, b, z⟩ := x2.2; rw [hl] at z; cases z
    have x3 := x2.new hl (.lst [.str "first", .str "others", .str "long"])
    refine ⟨_, rfl, r, 3, rfl, by decide, by decide, x3.2, fun d H4 d0 d1 e4 => ?_⟩
    have h4l := e4.1 l _ nlr upd_same
    have x4 := x3.trans e4
    have go : ∀ {E' : XK} (h : Hd) (sx : Str), (∀ ks : List T, encH h ks = .t (.s sx :: ks)) → arOk h 1 = true → (∀ n, h ≠ .gap n) → (([V.str sx].length ≤ sizeLine) ∧ ∀ p, H4 p = none → spMany K n [.ref r, .ref a, .int 1, .int room, .int down] (upd H4 p (.tup [.str sx])) (fun y2 H2 => rCatT K (.ref p) y2 H2 Q) E') := by
      intro E' h sx eh ar ng
      refine ⟨(by show 1 ≤ sizeLine; decide), fun p1 hp1 => ?_⟩
      have x5 := x4.new hp1 (.tup [.str sx])
      refine many 1 (by decide) x5 fun p H6 vs tms h6 r6 l6 g6 z6 e6 => ?_
      have l1 : tms.length = 1 := by omega
      exact cat h x5 upd_same (ts := [.s sx]) (.one .s) (by simp) (by show 1 ≤ 5; decide) e6 h6 r6 (by omega) (by omega) g6 z6 (eh _) (by rw [l1]; exact ar) ng
    have q3 : d = 0 ∨ d = 1 ∨ d = 2 := by omega
    rcases q3 with rfl | rfl | rfl
    · exact ⟨l, _, 0, _, rfl, rfl, SqL.of h4l, rfl, (go (E' := E) .first "first" (fun _ => rfl) rfl (fun _ z => nomatch z)).1, fun p hp => ⟨_, rfl, _, rfl, _, rfl, _, rfl, (go (E' := E) .first "first" (fun _ => rfl) rfl (fun _ z => nomatch z)).2 p hp⟩⟩
    · exact ⟨l, _, 1, _, rfl, rfl, SqL.of h4l, rfl, (go (E' := E) .others "others" (fun _ => rfl) rfl (fun _ z => nomatch z)).1, fun p hp => ⟨_, rfl, _, rfl, _, rfl, _, rfl, (go (E' := E) .others "others" (fun _ => rfl) rfl (fun _ z => nomatch z)).2 p hp⟩⟩
    · exact ⟨l, _, 2, _, rfl, rfl, SqL.of h4l, rfl, (go (E' := E) .long "long" (fun _ => rfl) rfl (fun _ z => nomatch z)).1, fun p hp => ⟨_, rfl, _, rfl, _, rfl, _, rfl, (go (E' := E) .long "long" (fun _ => rfl) rfl (fun _ z => nomatch z)).2 p hp⟩⟩
  have cn3 : q ≠ 3 := fun z => c (decide_eq_true (by rw [z]))
  refine ⟨_, rfl, _, _, rfl, rfl, _, rfl, ite2 (fun c => ?_) (fun c => ?_)⟩
  · have c7 : q < 7 := of_decide_eq_true c
    refine ⟨_, rfl, _, rfl, _, rfl, r, 6, rfl, by decide, by decide, x2.2, fun d H4 d0 d1 e4 => ?_⟩
    have x4 := x2.trans e4
    refine ⟨_, rfl, _, rfl, ?_⟩
    have ed : (d : Int) = ((d.toNat : Nat) : Int) := by omega
    rw [ed]
    refine ⟨r, a, ws, d.toNat, room, down, rfl, x4.2, hw.ext hf x4, by omega, rm4, rm40, dn1, dnn, fun p H5 vs tms h5 r5 l5 g5 z5 e5 => ?_⟩
    have x5 := x4.trans e5
    refine ⟨_, rfl, (by show 2 ≤ sizeLine; decide), fun p1 hp1 => ?_⟩
    refine ⟨_, rfl, _, rfl, (by show 3 ≤ sizeLine; decide), fun p2 hp2 => ?_⟩
    refine ⟨_, rfl, _, rfl, (by show 3 ≤ sizeLine; decide), fun p3 hp3 => ⟨(by show 3 ≤ sizeLine; decide), fun l hl => ?_⟩⟩
    have x6 := (((x5.new hp1 (.tup [.str "row", .ref p])).new hp2 (.tup [.str "tag", .str y, .ref p])).new hp3 (.tup [.str "call", .str y, .ref p])).new hl (.lst [.ref p1, .ref p2, .ref p3])
    have rt : Rp K H5 (.t (tms.map enc)) (.ref p) := .t (SqT.of h5) r5
    have n1 : Kt H5 (upd H5 p1 (.tup [.str "row", .ref p])) := Kt.new hp1 _
    have n2 := n1.trans (Kt.new hp2 (.tup [.str "tag", .str y, .ref p]))
    have n3 := Kt.new hp3 (.tup [.str "call", .str y, .ref p])
    have n4 := Kt.new hl (.lst [.ref p1, .ref p2, .ref p3])
    have r1 : Rp K _ (encH .row (tms.map enc)) (.ref p1) := (Rp.new (K := K) hp1 (xs := [.s "row", .t (tms.map enc)]) (.cons .s (.one rt))).kt ((Kt.new hp2 (.tup [.str "tag", .str y, .ref p])).trans (n3.trans n4))
    have r2 : Rp K _ (encH (.tag y) (tms.map enc)) (.ref p2) := (Rp.new (K := K) hp2 (xs := [.s "tag", .s y, .t (tms.map enc)]) (.cons .s (.cons .s (.one (rt.kt n1))))).kt (n3.trans n4)
    have r3 : Rp K _ (encH (.call y) (tms.map enc)) (.ref p3) := (Rp.new (K := K) hp3 (xs := [.s "call", .s y, .t (tms.map enc)]) (.cons .s (.cons .s (.one (rt.kt n2))))).kt n4
    have q3 : q = 4 ∨ q = 5 ∨ q = 6 := by omega
    rcases q3 with rfl | rfl | rfl
    · exact ⟨_, rfl, _, _, rfl, rfl, l, _, 0, _, rfl, rfl, SqL.of upd_same, rfl, fin _ _ r1 rfl (fun _ z => nomatch z) g5 z5 x6⟩
    · exact ⟨_, rfl, _, _, rfl, rfl, l, _, 1, _, rfl, rfl, SqL.of upd_same, rfl, fin _ _ r2 rfl (fun _ z => nomatch z) g5 z5 x6⟩
    · exact ⟨_, rfl, _, _, rfl, rfl, l, _, 2, _, rfl, rfl, SqL.of upd_same, rfl, fin _ _ r3 rfl (fun _ z => nomatch z) g5 z5 x6⟩
  have c7 : ¬ q < 7 := fun z => c (decide_eq_true z)
  refine ⟨_, rfl, rfl, _, rfl, ite2 (fun c => ?_) (fun c => ?_)⟩
  · refine ⟨_, rfl, _, rfl, _, rfl, r, 4, rfl, by decide, by decide, x2.2, fun d H4 d0 d1 e4 => ?_⟩
    have x4 := x2.trans e4
    refine ⟨_, _, rfl, rfl, _, rfl, _, rfl, ?_⟩
    refine ⟨r, a, ws, (1 + d.toNat), room, down, (by rw [show ((1 + d.toNat : Nat) : Int) = 1 + d by omega]; rfl), x4.2, hw.ext hf x4, by omega, rm4, rm40, dn1, dnn, fun p H5 vs tms h5 r5 l5 g5 z5 e5 => ?_⟩
    have x5 := x4.trans e5
    match tms, r5, l5, g5, z5 with
    | [], _, l5, _, _ => exact absurd l5 (by simp; omega)
    | t0 :: tr, r5, l5, g5, z5 =>
    obtain ⟨u0, us, rfl, ru0, rus⟩ := Rps.inv r5
    have lus := rus.length
    rw [List.length_map] at lus
    have ltr : tr.length ≤ 10 := by rw [List.length_cons] at l5; omega
    refine ⟨_, rfl, _, rfl, p, _, rfl, SqT.of h5, ?_, fun p1 hp1 => ?_⟩
    · intro z
      have : HT.sIx (u0 :: us).length 0 (some 1) = 1 := by
        have := HT.sIx_nat (u0 :: us).length 0 1
        rw [List.length_cons] at this ⊢
        rw [show ((1 : Nat) : Int) = 1 from rfl] at this
        rw [this]; omega
      rw [this] at z
      omega
    have cut : cutV (u0 :: us) (some 1) none = us := by
      unfold cutV
      have e1 : HT.sIx (u0 :: us).length 0 (some 1) = 1 := by
        have := HT.sIx_nat (u0 :: us).length 0 1
        rw [List.length_cons] at this ⊢
        rw [show ((1 : Nat) : Int) = 1 from rfl] at this
        rw [this]; omega
      rw [e1, HT.sIx_none]
      simp
    rw [cut]
    have x6 := x5.new hp1 (.tup us)
    refine ⟨p1, rfl, ⟨_, SqT.of upd_same⟩, ?_⟩
    have k6 : Kt H5 (upd H5 p1 (.tup us)) := Kt.new hp1 _
    have h6 : upd H5 p1 (.tup us) p1 = some (.tup us) := upd_same
    have rus6 := rus.kt k6
    have ru06 := ru0.kt k6
    have h5' : upd H5 p1 (.tup us) p = some (.tup (u0 :: us)) := (same_new hp1 _) _ _ h5
    generalize upd H5 p1 (.tup us) = H6 at x6 h6 rus6 ru06 h5' ⊢
    refine comp_tup (xs := us) (fun i σ vs Hc => (∃ v, σ = [v, some (.ref r), some (.ref a)]) ∧ Ext r H6 Hc ∧ ∃ arms : List (Str × List Str), arms.length = i ∧ Rps K Hc (List.zipWith armT arms (tr.map enc)) vs)
      ⟨⟨none, rfl⟩, Ext.refl x6.2, [], rfl, .nil⟩ ?_ (small (by omega)) ?_ ?_ ?_
    · rintro i σ vs Hc hi ⟨_, _, arms, la, rv⟩
      rw [rv.length, List.length_zipWith]; omega
    · rintro i σ vs Hc hi ⟨_, e, _⟩
      exact (SqT.of h6).kt (e.kt x6.2)
    · rintro i u σ vs Hc hu ⟨⟨v, rfl⟩, e, arms, la, rv⟩
      have xc := x6.trans e
      have hwc := hw.ext hf xc
      have hi : i < us.length := (List.getElem?_eq_some_iff.mp hu).1
      obtain ⟨tu, htu, rtu⟩ := rus6.get' hu
      refine ⟨_, rfl, _, rfl, _, rfl, a, _, rfl, .inl (SqL.of hwc.1), ?_⟩
      rw [List.length_map]
      refine ⟨r, _, rfl, by have := hw.2; omega, by have := hw.2; omega, e.2, fun x H7 x0 x1 e7 => ?_⟩
      obtain ⟨v, hv, hm⟩ := atI_of (xs := ws.map V.str) x0 (by rw [List.length_map]; exact x1)
      obtain ⟨y2, hy2, rfl⟩ := List.mem_map.mp hm
      have x7 := xc.trans e7
      refine ⟨a, _, _, _, rfl, rfl, SqL.of (hw.ext hf x7).1, hv, ?_⟩
      refine ⟨_, rfl, _, rfl, r, a, ws, rfl, x7.2, hw.ext hf x7, fun p8 H8 xs8 h8 e8 => ?_⟩
      refine ⟨_, rfl, (by show 3 ≤ sizeLine; decide), fun p9 hp9 => ?_⟩
      have e9 := ((e.trans e7).trans e8)
      refine ⟨⟨_, rfl⟩, e9.new hp9 _, arms ++ [(y2, xs8)], by rw [List.length_append, la]; rfl, ?_⟩
      have hit : i < (tr.map enc).length := by rw [List.length_map]; omega
      have ez : List.zipWith armT (arms ++ [(y2, xs8)]) (tr.map enc) = List.zipWith armT arms (tr.map enc) ++ [armT (y2, xs8) tu] := by
        have etr : tr.map enc = (tr.map enc).take i ++ tu :: (tr.map enc).drop (i + 1) := by
          have : (tr.map enc)[i] = tu := (List.getElem?_eq_some_iff.mp htu).2
          rw [← this, ← List.drop_eq_getElem_cons hit, List.take_append_drop]
        have lt : ((tr.map enc).take i).length = i := by rw [List.length_take]; omega
        rw [etr, List.zipWith_append (by rw [la, lt])]
        simp only [List.zipWith_cons_cons, List.zipWith_nil_left]
        congr 1
        have : arms = arms ++ [] := by simp
        rw [this, List.zipWith_append (by rw [la, lt])]
        simp
      rw [ez]
      have kt := (e7.trans e8).kt e.2
      refine ((rv.kt kt).kt (Kt.new hp9 _)).snoc (Rp.new hp9 (.cons .s (.cons (.t (SqT.of h8) (Rps.strs _)) (.one ?_))))
      exact (rtu.kt (e.kt x6.2)).kt kt
    · rintro σ vs Hc ⟨_, e, arms, la, rv⟩ p2 hp2
      have x7 := (x6.trans e).new hp2 (.lst vs)
      have kc := e.kt x6.2
      have k2 : Kt Hc (upd Hc p2 (.lst vs)) := Kt.new hp2 _
      refine ⟨_, rfl, p, _, 0, u0, rfl, rfl, (SqT.of h5').kt (kc.trans k2), atI_nat (xs := u0 :: us) (j := 0) rfl, ?_⟩
      refine ⟨_, rfl, p2, _, rfl, .inl ⟨SqL.of upd_same, fun p3 hp3 => ⟨(by show 3 ≤ sizeLine; decide), fun p4 hp4 => ?_⟩⟩⟩
      have k3 : Kt Hc (upd (upd Hc p2 (.lst vs)) p3 (.tup vs)) := k2.trans (Kt.new hp3 _)
      refine fin (.mat arms) (t0 :: tr) ?_ (by simp [arOk]; omega) (fun _ z => nomatch z) g5 z5 ((x7.new hp3 _).new hp4 _)
      refine (Rp.new (K := K) hp4 (xs := [.s "match", enc t0, .t (List.zipWith armT arms (tr.map enc))]) (.cons .s (.cons (ru06.kt (kc.trans k3)) (.one ?_))))
      exact Rp.new hp3 (rv.kt k2)
  have cn7 : q ≠ 7 := fun z => c (decide_eq_true (by rw [z]))
  refine ⟨_, rfl, rfl, _, rfl, ite2 (fun c => ?_) (fun c => ?_)⟩
  · refine ⟨(by show 1 ≤ sizeLine; decide), fun p1 hp1 => ?_⟩
    have x3 := x2.new hp1 (.tup [.str "if"])
    refine ⟨_, rfl, _, rfl, _, rfl, _, rfl, r, a, ws, 3, room, down, rfl, x3.2, hw.ext hf x3, by decide, rm4, rm40, dn1, dnn, fun p H6 vs tms h6 r6 l6 g6 z6 e6 => ?_⟩
    have l1 : tms.length = 3 := by omega
    exact cat .ife x3 upd_same (ts := [.s "if"]) (.one .s) (by simp) (by decide) e6 h6 r6 (by omega) (by omega) g6 z6 rfl (by rw [l1]; rfl) (fun _ z => nomatch z)
  refine ⟨_, rfl, rfl, _, rfl, ite2 (fun c => ?_) (fun c => ?_)⟩
  · refine ⟨_, rfl, (by show 2 ≤ sizeLine; decide), fun p1 hp1 => ?_⟩
    have x3 := x2.new hp1 (.tup [.str "let", .str y])
    refine ⟨_, rfl, _, rfl, _, rfl, _, rfl, r, a, ws, 2, room, down, rfl, x3.2, hw.ext hf x3, by decide, rm4, rm40, dn1, dnn, fun p H6 vs tms h6 r6 l6 g6 z6 e6 => ?_⟩
    have l1 : tms.length = 2 := by omega
    exact cat (.lt y) x3 upd_same (ts := [.s "let", .s y]) (.cons .s (.one .s)) (by simp) (by show 2 ≤ 5; decide) e6 h6 r6 (by omega) (by omega) g6 z6 rfl (by rw [l1]; rfl) (fun _ z => nomatch z)
  refine ⟨_, rfl, _, rfl, _, rfl, _, rfl, r, a, ws, 3, room, down, rfl, x2.2, hw.ext hf x2, by decide, rm4, rm40, dn1, dnn, fun p H3 vs tms h3 r3 l3 g3 z3 e3 => ?_⟩
  obtain ⟨t1, t2, t3, u1, u2, u3, rfl, rfl, ru1, ru2, ru3⟩ := three_of r3 (by omega)
  refine ⟨p, _, rfl, SqT.of h3, rfl, _, _, rfl, _, _, rfl, _, _, rfl, rfl, ?_⟩
  have x3 := x2.trans e3
  have hw3 := hw.ext hf x3
  refine ⟨_, rfl, _, rfl, _, rfl, _, rfl, _, rfl, a, _, rfl, .inl (SqL.of hw3.1), ?_⟩
  rw [List.length_map]
  refine ⟨r, _, rfl, by have := hw.2; omega, by have := hw.2; omega, x3.2, fun x H4 x0 x1 e4 => ?_⟩
  obtain ⟨v, hv, hm⟩ := atI_of (xs := ws.map V.str) x0 (by rw [List.length_map]; exact x1)
  obtain ⟨y2, hy2, rfl⟩ := List.mem_map.mp hm
  have x4 := x3.trans e4
  have k4 := e4.kt x3.2
  refine ⟨a, _, _, _, rfl, rfl, SqL.of (hw.ext hf x4).1, hv, _, rfl, _, rfl, (by show 6 ≤ sizeLine; decide), fun p1 hp1 => ?_⟩
  refine fin (.fold y y2) [t1, t2, t3] ?_ rfl (fun _ z => nomatch z) g3 z3 (x4.new hp1 _)
  exact Rp.new (K := K) hp1 (xs := [.s "fold", enc t1, .s y, .s y2, enc t2, enc t3]) (.cons .s (.cons (ru1.kt k4) (.cons .s (.cons .s (.cons (ru2.kt k4) (.one (ru3.kt k4)))))))
end
end G02

namespace G02
open PySem L2
/-! the two written rows of kept words, held shut -/
@[irreducible] def kst1 : Stmt := (defBody s_L_names).getD 4 (.Pass ⟨0, 0, 0, 0⟩)
@[irreducible] def kst2 : Stmt := (defBody s_L_names).getD 5 (.Pass ⟨0, 0, 0, 0⟩)
@[irreducible] def esK1 : List Expr := match (defBody s_L_names).getD 4 (.Pass ⟨0, 0, 0, 0⟩) with
  | .Assign _ (.List es _) _ => es
  | _ => []
@[irreducible] def esK2 : List Expr := match (defBody s_L_names).getD 5 (.Pass ⟨0, 0, 0, 0⟩) with
  | .Assign _ (.BinOp _ _ (.List es _) _) _ => es
  | _ => []
@[irreducible] def posK (i : Nat) : Pos := match (defBody s_L_names).getD 4 (.Pass ⟨0, 0, 0, 0⟩), (defBody s_L_names).getD 5 (.Pass ⟨0, 0, 0, 0⟩) with
  | .Assign [.Name _ a] (.List _ b) c, .Assign [.Name _ d] (.BinOp (.Name _ e) _ (.List _ f) g) h => [a, b, c, d, e, f, g, h].getD i a
  | _, _ => ⟨0, 0, 0, 0⟩
def keptA : List Str := ["num", "row", "kind", "def", "more", "first", "others", "long", "match", "if", "let", "fold", "call"]
def keptB : List Str := ["gap", "in", "world", "fault", "left"]
theorem kst1_eq : kst1 = .Assign [.Name "_law_kept" (posK 0)] (.List esK1 (posK 1)) (posK 2) := by unfold kst1 esK1 posK; kernel_rfl
theorem kst2_eq : kst2 = .Assign [.Name "_law_kept" (posK 3)] (.BinOp (.Name "_law_kept" (posK 4)) .Add (.List esK2 (posK 5)) (posK 6)) (posK 7) := by unfold kst2 esK2 posK; kernel_rfl
theorem sK1 : strsOf esK1 = some keptA := by unfold esK1; kernel_rfl
theorem sK2 : strsOf esK2 = some keptB := by unfold esK2; kernel_rfl
theorem names_body : defBody s_L_names = (defBody s_L_names).take 4 ++ (kst1 :: kst2 :: (defBody s_L_names).drop 6) := by unfold kst1 kst2; kernel_rfl
theorem ps_k1 {X : Cx} (hn : X.N.Nodup) (hl : Lm X.N X.env.scope) (h7 : X.N[7]? = some ("_law_kept" : Str)) (hf : X.fn "_law_kept" = true) : PS X kst1 (tAsg (tLst (tStrs keptA)) (gName 7)) := by
  rw [kst1_eq]
  exact sa hn hl 7 (pe_lst (pa_strs sK1)) h7 rfl (.inl hf)
theorem ps_k2 {X : Cx} (hn : X.N.Nodup) (hl : Lm X.N X.env.scope) (hv : Nm X.N X.env.scope) (h7 : X.N[7]? = some ("_law_kept" : Str)) (hf : X.fn "_law_kept" = true) : PS X kst2 (tAsg (tOp rCat (tVar 7) (tLst (tStrs keptB))) (gName 7)) := by
  rw [kst2_eq]
  exact sa hn hl 7 (pe_op op_cat (va hv 7 h7) (pe_lst (pa_strs sK2))) h7 rfl (.inl hf)
theorem atI_m2 {α : Type} (xs : List α) (a b : α) : atI (xs ++ [a, b]) (-2) = some a := by
  unfold atI ixN
  have l : (xs ++ [a, b]).length = xs.length + 2 := by simp
  rw [l, if_neg (by decide), if_pos (by omega)]
  have e : (-2 + ((xs.length + 2 : Nat) : Int)).toNat = xs.length := by omega
  rw [Option.bind_some, e]
  simp
theorem ixN_m1 (n m : Nat) (h : n = m + 1) : ixN n (-1) = some m := by
  unfold ixN
  rw [if_neg (by decide), if_pos (by omega)]
  congr 1
  omega
section
variable {P : Program} {w : World} {K : PySem.W.Frag} {mg : Str → Option Value} {base : Heap} {gT : Addr} {tfd : FuncData}
theorem nm_L_names : Nm ["_law_feed_here", "_law_many", "_law_letters", "_law_stem", "_law_first", "_law_at", "_law_turn", "_law_kept", "_law_found", "_law_k", "_law_sign", "_law_name"] (defScope s_L_names) := by decide +kernel
theorem lm_L_names : Lm ["_law_feed_here", "_law_many", "_law_letters", "_law_stem", "_law_first", "_law_at", "_law_turn", "_law_kept", "_law_found", "_law_k", "_law_sign", "_law_name"] (defScope s_L_names) := by decide +kernel
theorem sc_L_names : FnScope ["_law_feed_here", "_law_many", "_law_letters", "_law_stem", "_law_first", "_law_at", "_law_turn", "_law_kept", "_law_found", "_law_k", "_law_sign", "_law_name"] ["_law_feed_here", "_law_many"] (defScope s_L_names) := ⟨rfl, rfl, rfl, by decide +kernel, rfl, by decide +kernel, by decide +kernel⟩
theorem ok_names {f : Addr} {fd : FuncData} (F : Fun K "_law_names" "_law_names" s_L_names f fd) (TK : Has P w K mg base "_law_take" 1 ["_law_feed_here", "_law_many"] spTake gT tfd) (z_range : mg "range" = none) (z_len : mg "len" = none) (z_int : mg "int" = none) :
    FnOk P w K mg base CX0 2 f fd ["_law_feed_here", "_law_many"] spNames := by
  refine F.ok sc_L_names (fun vs H Q E h => ?_) (fun cdv A outer s H vs Q E hr h => ?_)
  · obtain ⟨v, tm, rfl, _⟩ := h
    rfl
  obtain ⟨r, m, rfl, m1, m2, hf, k⟩ := h
  rw [names_body]
  refine ⟨_, (pss_cons (sa sc_L_names.nd lm_L_names 2 pe_str)
    (pss_cons (sa sc_L_names.nd lm_L_names 3 (pe_bm PySem.F.plainAttrs_str PySem.F.slot_str_join PySem.F.type_str_join mt_join pe_str (pa_cons (pe_compC (defScope s_L_names) ["_law_feed_here", "_law_many", "_law_letters", "_law_stem", "_law_first", "_law_at", "_law_turn", "_law_kept", "_law_found", "_law_k", "_law_sign", "_law_name"] ["_law_k"] [0, 2] rfl rfl rfl (by decide +kernel) (pi_range1 (by show _ = _; kernel_rfl) z_range (pa_cons (pe_call TK.ok (hr.mono (by omega)) (by show _ = _; kernel_rfl) TK.at' TK.kp TK.bd .nil pass0 (pa_cons (va nm_L_names 0) (pa_cons pe_int pa_nil))) pa_nil)) (fun _ _ _ _ => (pg_name (i := 0) (show (["_law_k", "_law_feed_here", "_law_letters"] : List Str).Nodup by decide +kernel) rfl (Or.inl (by kernel_rfl)) (by first | exact .inl rfl | exact .inr (by kernel_rfl)))) (fun _ _ _ _ => pifs_nil) (fun _ _ _ _ => (pe_ix ix_str (va (show Nm ["_law_k", "_law_feed_here", "_law_letters"] _ by show _ = _; kernel_rfl) 2) (pe_call TK.ok (hr.mono (by omega)) (by show _ = _; kernel_rfl) TK.at' TK.kp TK.bd .nil pass0 (pa_cons (va (show Nm ["_law_k", "_law_feed_here", "_law_letters"] _ by show _ = _; kernel_rfl) 1) (pa_cons pe_int pa_nil))) (fun _ _ => rfl)))) pa_nil) (hbase := by kernel_rfl) (hfew := by kernel_rfl) (hline := by kernel_rfl) (hs := by kernel_rfl) (hplain := by kernel_rfl)))
    (pss_cons (ps_par (i := 4) (j := 5) rfl sc_L_names.nd rfl rfl (by decide) rfl rfl (pa_cons (pe_call TK.ok (hr.mono (by omega)) (by show _ = _; kernel_rfl) TK.at' TK.kp TK.bd .nil pass0 (pa_cons (va nm_L_names 0) (pa_cons pe_int pa_nil))) (pa_cons (pe_call TK.ok (hr.mono (by omega)) (by show _ = _; kernel_rfl) TK.at' TK.kp TK.bd .nil pass0 (pa_cons (va nm_L_names 0) (pa_cons (pe_op op_add (pe_callB call_len_str (by show _ = _; kernel_rfl) z_len PySem.boot_len (pa_cons (va nm_L_names 3) pa_nil)) pe_int) pa_nil))) pa_nil)) (by rfl))
    (pss_cons (sa sc_L_names.nd lm_L_names 6 (pe_call TK.ok (hr.mono (by omega)) (by show _ = _; kernel_rfl) TK.at' TK.kp TK.bd .nil pass0 (pa_cons (va nm_L_names 0) (pa_cons pe_int pa_nil))))
    (pss_cons (ps_k1 sc_L_names.nd lm_L_names rfl rfl)
    (pss_cons (ps_k2 sc_L_names.nd lm_L_names nm_L_names rfl rfl)
    (pss_cons (sa sc_L_names.nd lm_L_names 8 (pe_lst pa_nil))
    (pss_cons (ps_for PassesOwn.never rfl (pi_range1 (by show _ = _; kernel_rfl) z_range (pa_cons (va nm_L_names 1) pa_nil)) (ga sc_L_names.nd lm_L_names 9)
      (pss_cons (sa sc_L_names.nd lm_L_names 10 (pe_ix ix_str (va nm_L_names 2) (pe_op op_mod (pe_op op_add (va nm_L_names 4) (pe_op op_mul pe_int (va nm_L_names 9))) pe_int) (fun _ _ => rfl)))
    (pss_cons (sa sc_L_names.nd lm_L_names 11 (pe_op op_add_str (pe_op op_add_str (pe_slice sl_str (va nm_L_names 3) po_none (po_some (va nm_L_names 5))) (va nm_L_names 10)) (pe_slice sl_str (va nm_L_names 3) (po_some (va nm_L_names 5)) (po_some (pe_op op_mod (pe_op op_add (va nm_L_names 6) (va nm_L_names 9)) pe_int)))))
    (pss_one (ps_expr (pe_bm PySem.F.plainAttrs_list PySem.F.slot_list_append PySem.F.type_list_append mt_append (va nm_L_names 8) (pa_cons (pe_op op_add_str (va nm_L_names 11) (pe_op op_mul_str pe_str (pe_callTy call_int1 (by show _ = _; kernel_rfl) z_int PyProof.Rows.boot_int (pa_cons (pe_cmpR op_in_seq (va nm_L_names 11) (va nm_L_names 7) (by with_unfolding_all rfl)) pa_nil)))) pa_nil)))))))
    (pss_cons (ps_if (PW.pt (pw_and (pt_cmpR op_gt (va nm_L_names 1) pe_int (nomark _)) (pw_and (pt_cmpR op_lt (pe_callB call_len_str (by show _ = _; kernel_rfl) z_len PySem.boot_len (pa_cons (pe_ix ix_list (va nm_L_names 8) (pe_un un_neg pe_int) (fun _ _ => rfl)) pa_nil)) pe_int (nomark _)) (pw_and1 (pt_cmpR op_eq (pe_call TK.ok (hr.mono (by omega)) (by show _ = _; kernel_rfl) TK.at' TK.kp TK.bd .nil pass0 (pa_cons (va nm_L_names 0) (pa_cons pe_int pa_nil))) pe_int (nomark _)))))) (pss_one (ps_asg (pe_op op_add_str (pe_ix ix_list (va nm_L_names 8) (pe_un un_neg pe_int) (fun _ _ => rfl)) pe_str) (pg_sub (va nm_L_names 8) (pe_un un_neg pe_int) set_list))) pss_nil)
    (pss_one (ps_ret (va nm_L_names 8)))))))))))), ?_⟩
  refine ⟨rfl, _, rfl, r, 5, rfl, by decide, by decide, hf, fun q H2 q0 q6 e2 => ?_⟩
  refine ⟨_, rfl, by omega, by omega, ?_⟩
  have n7 : (q : Int).toNat ≤ 4 := by omega
  refine comp_range (n := q.toNat) (fun i σ vs Hc => (∃ v, σ = [v, some (.ref r), some (.str "abcdefghijklmnopqrstuvwxyz")]) ∧ Ext r H2 Hc ∧ ∃ cs : List Nat, vs = (cs.map fun c => (⟨#[c]⟩ : Str)).map V.str ∧ cs.length = i)
    ⟨⟨none, rfl⟩, Ext.refl e2.2, [], rfl, rfl⟩ (fun i σ vs Hc _ ⟨_, _, cs, e, el⟩ => by rw [e, List.length_map, List.length_map]; omega) (small (by omega)) ?_ ?_
  · rintro i' σ vs Hc hi' ⟨⟨v, rfl⟩, ext, cs, rfl, hcl⟩
    refine ⟨_, rfl, _, rfl, r, 26, rfl, by decide, by decide, ext.2, fun d H3 d0 d1 ext2 => ?_⟩
    obtain ⟨c, hc1, hc2⟩ := atS (z := "abcdefghijklmnopqrstuvwxyz") d0 d1
    refine ⟨_, d, c, rfl, rfl, (by decide +kernel), hc1, ?_⟩
    exact ⟨⟨_, rfl⟩, ext.trans ext2, cs ++ [c], by rw [List.map_append, List.map_append]; rfl, by rw [List.length_append, hcl]; rfl⟩
  rintro σ vs Hc ⟨⟨v, rfl⟩, ext, cs, rfl, hcl⟩ p hp
  refine ⟨_, p, _, rfl, rfl, SqL.of upd_same, ?_, ?_⟩
  · have z : (Str.ofString "").length = 0 := by decide
    rw [sum_ones, z]
    omega
  rw [join_cs]
  have kp1 : Ext r H (upd Hc p (.lst ((cs.map fun c => (⟨#[c]⟩ : Str)).map V.str))) := (e2.trans ext).new hp _
  have ly : (⟨cs.toArray⟩ : Str).length ≤ 4 := by rw [len_cs]; omega
  generalize upd Hc p (.lst ((cs.map fun c => (⟨#[c]⟩ : Str)).map V.str)) = H4 at kp1 ⊢
  generalize (⟨cs.toArray⟩ : Str) = y at ly ⊢
  refine ⟨_, rfl, r, 26, rfl, by decide, by decide, kp1.2, fun d1 H5 b1 c1 e5 => ?_⟩
  refine ⟨_, rfl, _, rfl, _, rfl, small (by omega), _, _, rfl, rfl, r, _, rfl, by omega, by omega, e5.2, fun d2 H6 b2 c2 e6 => ?_⟩
  refine ⟨_, _, rfl, ?_⟩
  refine ⟨_, rfl, r, 5, rfl, by decide, by decide, e6.2, fun d3 H7 b3 c3 e7 => ?_⟩
  have x7 : Ext r H H7 := kp1.trans (e5.trans (e6.trans e7))
  have lk1 : keptA.length ≤ 100 := by decide
  have lk2 : keptB.length ≤ 100 := by decide
  refine ⟨by rw [List.length_map]; exact small (by omega), fun p8 hp8 => ?_⟩
  refine ⟨_, rfl, by rw [List.length_map]; exact small (by omega), fun p9 hp9 => ?_⟩
  generalize keptA = ks1 at lk1 hp9 ⊢
  generalize keptB = ks2 at lk2 hp9 ⊢
  refine ⟨p8, p9, _, _, rfl, rfl, (same_new hp9 _) _ _ upd_same, upd_same, by rw [List.length_map, List.length_map]; exact small (by omega), fun p10 hp10 => ?_⟩
  have x10 : Ext r H (upd (upd (upd H7 p8 (.lst (ks1.map V.str))) p9 (.lst (ks2.map V.str))) p10 (.lst (ks1.map V.str ++ ks2.map V.str))) := ((x7.new hp8 _).new hp9 _).new hp10 _
  have h10 : upd (upd (upd H7 p8 (.lst (ks1.map V.str))) p9 (.lst (ks2.map V.str))) p10 (.lst (ks1.map V.str ++ ks2.map V.str)) p10 = some (.lst ((ks1 ++ ks2).map V.str)) := by rw [upd_same, List.map_append]
  generalize upd (upd (upd H7 p8 (.lst (ks1.map V.str))) p9 (.lst (ks2.map V.str))) p10 (.lst (ks1.map V.str ++ ks2.map V.str)) = H10 at x10 h10 ⊢
  refine ⟨Nat.zero_le _, fun l hl => ?_⟩
  have hfl : H l = none := Ext.free x10 hl
  have nlr : l ≠ r := fun z => by subst z; obtain ⟨a, b, z⟩ := x10.2; rw [hl] at z; cases z
  have n10 : p10 ≠ l := ne_of_none h10 hl
  have x11 : Ext r H (upd H10 l (.lst [])) := x10.new hl _
  refine ⟨_, rfl, _, rfl, by omega, by omega, ?_⟩
  refine for_range (n := m) (fun i σ Hi => ∃ (xs : List Str) (v9 v10 v11 : Option V), σ = [some (.ref r), some (.int m), some (.str "abcdefghijklmnopqrstuvwxyz"), some (.str y), some (.int d1), some (.int d2), some (.int d3), some (.ref p10), some (.ref l), v9, v10, v11] ∧ xs.length = i ∧ (∀ x ∈ xs, x.length ≤ 10) ∧ Hi l = some (.lst (xs.map V.str)) ∧ Hi p10 = some (.lst ((ks1 ++ ks2).map V.str)) ∧ Ext r H Hi)
    ⟨[], none, none, none, rfl, rfl, (fun _ h => nomatch h), upd_same, by rw [upd_ne n10]; exact h10, x11⟩ ?_ ?_
  · rintro i σ Hi hi ⟨xs, v9, v10, v11, rfl, hxl, hxs, hli, hpi, xi⟩
    have hm : 0 ≤ (d1 + 7 * (0 + (i : Int))) % 26 ∧ (d1 + 7 * (0 + (i : Int))) % 26 < 26 := by omega
    obtain ⟨c, hc1, hc2⟩ := atS (z := "abcdefghijklmnopqrstuvwxyz") (r := (d1 + 7 * (0 + (i : Int))) % 26) hm.1 hm.2
    refine ⟨_, rfl, _, rfl, _, rfl, _, _, rfl, rfl, .inl ⟨by decide, by decide⟩, _, _, rfl, rfl, _, _, rfl, rfl, (by show (0 : Int) < 26; decide), _, _, c, rfl, rfl, (by decide +kernel), hc1, ?_⟩
    have la := PySem.Txt.slice_le y none (some d2)
    have lb := PySem.Txt.slice_le y (some d2) (some ((d3 + (0 + (i : Int))) % 5))
    refine ⟨_, rfl, _, rfl, _, rfl, _, rfl, small (by omega), _, rfl, _, _, rfl, rfl, small (by show _ + 1 ≤ 1000; omega), ?_⟩
    refine ⟨_, rfl, _, rfl, _, rfl, _, rfl, _, rfl, _, _, rfl, rfl, _, _, rfl, rfl, (by show (0 : Int) < 5; decide), _, rfl, _, rfl, small (by omega), ?_⟩
    have lc : (Txt.slice y none (some d2) ++ (⟨#[c]⟩ : Str)).length = (Txt.slice y none (some d2)).length + 1 := by rw [strLen_append]; rfl
    refine ⟨_, _, rfl, rfl, small (by omega), ?_⟩
    have ln : (Txt.slice y none (some d2) ++ (⟨#[c]⟩ : Str) ++ Txt.slice y (some d2) (some ((d3 + (0 + (i : Int))) % 5))).length ≤ 9 := by rw [strLen_append]; omega
    generalize Txt.slice y none (some d2) ++ (⟨#[c]⟩ : Str) ++ Txt.slice y (some d2) (some ((d3 + (0 + (i : Int))) % 5)) = nm at ln ⊢
    refine ⟨_, rfl, .inl ⟨rfl, _, SqL.of hli⟩, _, rfl, _, rfl, _, rfl, p10, _, rfl, .inl (SqL.of hpi), rfl, flat_strs _, .inr ⟨_, rfl, ?_⟩⟩
    generalize inV (V.str nm) ((ks1 ++ ks2).map V.str) = b
    have lq1 : (Str.ofString "q").length = 1 := by decide
    have lq : (Txt.mul (Str.ofString "q") (if b = true then 1 else 0)).length ≤ 1 := by have := mul_q b "q"; rw [lq1] at this; exact this
    have lq' : (Txt.mul (Str.ofString "q") (if (if false = true then !b else b) = true then 1 else 0)).length ≤ 1 := lq
    refine ⟨_, _, rfl, rfl, by split <;> omega, by split <;> omega, ?_, ?_⟩
    · rw [lq1]; exact small (by cases b <;> decide)
    refine ⟨_, _, rfl, rfl, small (by omega), ?_⟩
    refine ⟨l, _, _, rfl, rfl, hli, by rw [List.length_map]; exact small1000 (by omega), ?_⟩
    refine ⟨xs ++ [nm ++ Txt.mul "q" (if b then 1 else 0)], _, _, _, rfl, by rw [List.length_append, hxl]; rfl, fun x hx => ?_, by rw [upd_same, List.map_append]; rfl, by rw [upd_ne n10]; exact hpi, ?_⟩
    · rcases List.mem_append.mp hx with h | h
      · exact hxs x h
      · rw [List.mem_singleton.mp h, strLen_append]; omega
    · refine ⟨fun b o nb e => ?_, ?_⟩
      · rw [upd_ne (ne_of_none e hfl)]; exact xi.1 b o nb e
      · obtain ⟨a, b, z⟩ := xi.2
        exact ⟨a, b, by rw [upd_ne nlr.symm]; exact z⟩
  · rintro σ Hi ⟨xs, v9, v10, v11, rfl, hxl, hxs, hli, hpi, xi⟩
    have fin : ∀ (Hf : Hp) (ys : List Str), Ext r H Hf → Hf l = some (.lst (ys.map V.str)) → ys.length = m → (∀ x ∈ ys, x.length ≤ 20) → Q (.ref l) Hf := fun Hf ys a b c d => k l Hf ys a hfl b c d
    have ret : ∀ {Hf : Hp} (ys : List Str), Ext r H Hf → Hf l = some (.lst (ys.map V.str)) → ys.length = m → (∀ x ∈ ys, x.length ≤ 20) → tRet (tVar 8) { nx := fun _ H' => Q .non H', rt := Q } [some (.ref r), some (.int m), some (.str "abcdefghijklmnopqrstuvwxyz"), some (.str y), some (.int d1), some (.int d2), some (.int d3), some (.ref p10), some (.ref l), v9, v10, v11] Hf := fun ys a b c d => ⟨_, rfl, fin _ ys a b c d⟩
    have x20 : ∀ x ∈ xs, x.length ≤ 20 := fun x hx => Nat.le_trans (hxs x hx) (by decide)
    refine ⟨_, rfl, _, _, rfl, rfl, _, rfl, ite2 (fun c => ?_) (fun c => ?_)⟩
    · have c1 : 1 < m := by have z : (1 : Int) < (m : Int) := of_decide_eq_true c; omega
      obtain ⟨xs', x2, x1, rfl⟩ : ∃ xs' x2 x1, xs = xs' ++ [x2, x1] := by
        rcases List.eq_nil_or_concat xs with rfl | ⟨a, x1, rfl⟩
        · simp at hxl; omega
        rcases List.eq_nil_or_concat a with rfl | ⟨b, x2, rfl⟩
        · simp at hxl; omega
        exact ⟨b, x2, x1, by simp⟩
      have l2 : x2.length ≤ 10 := hxs x2 (by simp)
      have a2 : atI ((xs' ++ [x2, x1]).map V.str) (-2) = some (.str x2) := by rw [List.map_append]; exact atI_m2 _ _ _
      refine ⟨_, rfl, _, rfl, l, _, _, _, rfl, rfl, SqL.of hli, a2, _, rfl, small (by omega), _, _, rfl, rfl, _, rfl, ite2 (fun c => ?_) (fun c => ?_)⟩
      · refine ⟨_, rfl, r, 4, rfl, by decide, by decide, xi.2, fun d4 H11 _ _ e11 => ?_⟩
        have xj := xi.trans e11
        have hlj := e11.1 l _ nlr hli
        refine ⟨rfl, _, rfl, ite2 (fun c => ?_) (fun c => ?_)⟩
        · refine ⟨_, rfl, _, rfl, l, _, _, _, rfl, rfl, SqL.of hlj, a2, _, _, rfl, rfl, small (by show _ + 1 ≤ 1000; omega), ?_⟩
          refine ⟨_, rfl, _, rfl, l, _, _, xs'.length + 1, rfl, rfl, hlj, ?_, ?_⟩
          · exact ixN_m1 _ _ (by simp)
          refine ret (xs' ++ [x2, x2 ++ Str.ofString "q"]) ?_ ?_ ?_ ?_
          · refine ⟨fun b o nb e => ?_, ?_⟩
            · rw [upd_ne (ne_of_none e hfl)]; exact xj.1 b o nb e
            · obtain ⟨a, b, z⟩ := xj.2
              exact ⟨a, b, by rw [upd_ne nlr.symm]; exact z⟩
          · rw [upd_same]; simp
          · rw [← hxl]; simp
          · intro x hx
            simp at hx
            rcases hx with h | rfl | rfl
            · exact x20 x (by simp [h])
            · omega
            · rw [strLen_append]; have : (Str.ofString "q").length = 1 := by decide
              omega
        · exact ret _ xj hlj hxl x20
      · exact ret _ xi hli hxl x20
    · exact ret _ xi hli hxl x20
end
end G02

namespace G02
open PySem L2
theorem cut4 (xs : List V) : (cutV xs none (some 4)).length ≤ 4 := by
  unfold cutV
  rw [List.length_take, show (some (4 : Int)) = some (((4 : Nat) : Int)) from rfl, HT.sIx_nat]
  omega
section
variable {P : Program} {w : World} {K : PySem.W.Frag} {mg : Str → Option Value} {base : Heap} {gF gT gN gA gR gM gL gS gW : Addr} {ffd tfd nfd afd rfd mfd lfd sfd wfd : FuncData}
abbrev anyPs : List Str := ["_law_feed_here", "_law_words", "_law_room", "_law_down"]
abbrev manyPs : List Str := ["_law_feed_here", "_law_words", "_law_many", "_law_room", "_law_down"]
theorem any_all (FA : Fun K "_law_any" "_law_any" s_L_any gA afd) (FM : Fun K "_law_many_of" "_law_many_of" s_L_many_of gM mfd) (mA : mg "_law_any" = some (.ref gA)) (mM : mg "_law_many_of" = some (.ref gM)) (bA : Binds K afd anyPs []) (bM : Binds K mfd manyPs [])
    (TK : Has P w K mg base "_law_take" 1 ["_law_feed_here", "_law_many"] spTake gT tfd) (LE : Has P w K mg base "_law_leaf_of" 3 ["_law_feed_here", "_law_words"] (spLeaf K) gL lfd) (SW : Has P w K mg base "_law_some_words" 2 ["_law_feed_here", "_law_words"] (spSomeWords K) gS sfd)
    (z_len : mg "len" = none) (z_tuple : mg "tuple" = none) (z_min : mg "min" = none) (z_max : mg "max" = none) (z_range : mg "range" = none) : ∀ n, FnOk P w K mg base CX0 (2 * n + 5) gA afd anyPs (spAny K n)
  | 0 => ok_any (j := 4) (by decide) FA TK LE ⟨fn_none fun vs H Q E ⟨_, _, _, _, _, _, _, _, _, _, _, _, h1, h2, _⟩ => by omega, mM, FM.kp, bM⟩ SW z_len z_tuple
  | n + 1 => by
    have AN := any_all FA FM mA mM bA bM TK LE SW z_len z_tuple z_min z_max z_range n
    have MO := ok_many (j := 2 * n + 5) (n := n) FM ⟨AN, mA, FA.kp, bA⟩ z_min z_max z_range z_tuple
    exact ok_any (j := 2 * n + 5 + 1) (by omega) FA TK LE ⟨MO, mM, FM.kp, bM⟩ SW z_len z_tuple
theorem walked_all (F : Fun K "_law_walked" "_law_walked" s_L_walked gA afd) (mA : mg "_law_walked" = some (.ref gA)) (bA : Binds K afd ["_law_term", "_law_down", "_law_found"] []) (WI : Has P w K mg base "_law_within" 1 ["_law_term"] (spWithin K) gW wfd) : ∀ n, FnOk P w K mg base CX0 (n + 1) gA afd ["_law_term", "_law_down", "_law_found"] (spWalked K n)
  | 0 => fn_none fun vs H Q E ⟨_, _, _, _, _, _, _, _, _, h, _⟩ => by omega
  | n + 1 => ok_walked (j := n + 1) (by omega) F WI ⟨walked_all F mA bA WI n, mA, F.kp, bA⟩
theorem nm_law : Nm ["_law_script", "_law_asked", "_law_k", "_law_feed_here", "_law_words"] (defScope s_law) := by decide +kernel
theorem lm_law : Lm ["_law_script", "_law_asked", "_law_k", "_law_feed_here", "_law_words"] (defScope s_law) := by decide +kernel
theorem sc_law : FnScope ["_law_script", "_law_asked", "_law_k", "_law_feed_here", "_law_words"] ["_law_script"] (defScope s_law) := ⟨rfl, rfl, rfl, by decide +kernel, rfl, by decide +kernel, by decide +kernel⟩
theorem ok_law {f : Addr} {fd : FuncData} {kR : Nat} (hk : 23 ≤ kR) (F : Fun K "law" "law" s_law f fd) (FD : Has P w K mg base "_law_feed" 1 ["_law_script", "_law_k"] (spFeed K) gF ffd) (TK : Has P w K mg base "_law_take" 1 ["_law_feed_here", "_law_many"] spTake gT tfd)
    (NM : Has P w K mg base "_law_names" 2 ["_law_feed_here", "_law_many"] spNames gN nfd) (AN : Has P w K mg base "_law_any" 23 anyPs (spAny K 9) gA afd) (RT : Has P w K mg base "_law_right" kR ["_law_term"] (spRight K) gR rfd)
    (z_len : mg "len" = none) (z_max : mg "max" = none) (z_range : mg "range" = none) (z_all : mg "all" = none) : FnOk P w K mg base CX0 (kR + 1) f fd ["_law_script"] (spLaw K) := by
  refine F.ok sc_law (fun vs H Q E h => ?_) (fun cdv A outer s H vs Q E hr h => ?_)
  · obtain ⟨a, ns, rfl, _⟩ := h
    rfl
  obtain ⟨a, ns, rfl, hS, hn, k⟩ := h
  refine ⟨_, (pss_cons (sa sc_law.nd lm_law 1 (pe_lst pa_nil))
    (pss_cons (ps_for PassesOwn.never rfl (pi_range1 (by show _ = _; kernel_rfl) z_range (pa_cons (pe_callB (call_max2 rfl) (by show _ = _; kernel_rfl) z_max PyProof.Rows.boot_max (pa_cons pe_int (pa_cons (pe_callB call_len_seq (by show _ = _; kernel_rfl) z_len PySem.boot_len (pa_cons (pe_slice sl_list (va nm_law 0) po_none (po_some pe_int)) pa_nil)) pa_nil))) pa_nil)) (ga sc_law.nd lm_law 2)
      (pss_cons (sa sc_law.nd lm_law 3 (pe_call FD.ok (hr.mono (by omega)) (by show _ = _; kernel_rfl) FD.at' FD.kp FD.bd .nil pass0 (pa_cons (va nm_law 0) (pa_cons (va nm_law 2) pa_nil))))
    (pss_cons (sa sc_law.nd lm_law 4 (pe_call NM.ok (hr.mono (by omega)) (by show _ = _; kernel_rfl) NM.at' NM.kp NM.bd .nil pass0 (pa_cons (va nm_law 3) (pa_cons (pe_op op_add pe_int (pe_call TK.ok (hr.mono (by omega)) (by show _ = _; kernel_rfl) TK.at' TK.kp TK.bd .nil pass0 (pa_cons (va nm_law 3) (pa_cons pe_int pa_nil)))) pa_nil))))
    (pss_one (ps_expr (pe_bm PySem.F.plainAttrs_list PySem.F.slot_list_append PySem.F.type_list_append mt_append (va nm_law 1) (pa_cons (pe_call AN.ok (hr.mono (by omega)) (by show _ = _; kernel_rfl) AN.at' AN.kp AN.bd .nil pass0 (pa_cons (va nm_law 3) (pa_cons (va nm_law 4) (pa_cons pe_int (pa_cons (pe_ix ix_list (pe_lst (pa_cons pe_int (pa_cons pe_int (pa_cons pe_int pa_nil)))) (pe_call TK.ok (hr.mono (by omega)) (by show _ = _; kernel_rfl) TK.at' TK.kp TK.bd .nil pass0 (pa_cons (va nm_law 3) (pa_cons pe_int pa_nil))) (fun _ _ => rfl)) pa_nil))))) pa_nil)))))))
    (pss_one (ps_ret (pe_callB (call_all rfl) (by show _ = _; kernel_rfl) z_all PyProof.Rows.boot_all (pa_cons (pe_compC (defScope s_law) ["_law_script", "_law_asked", "_law_k", "_law_feed_here", "_law_words"] ["_law_term"] [] rfl rfl rfl (by decide +kernel) (pi_list (pe_op op_cat (va nm_law 1) (va nm_law 1))) (fun _ _ _ _ => (pg_name (i := 0) (show (["_law_term"] : List Str).Nodup by decide +kernel) rfl (Or.inl (by kernel_rfl)) (by first | exact .inl rfl | exact .inr (by kernel_rfl)))) (fun _ _ _ _ => pifs_nil) (fun _ _ _ _ => (pe_call RT.ok (hr.mono (by omega)) (by show _ = _; kernel_rfl) RT.at' RT.kp RT.bd .nil pass0 (pa_cons (va (show Nm ["_law_term"] _ by show _ = _; kernel_rfl) 0) pa_nil)))) pa_nil)))))), ?_⟩
  refine ⟨Nat.zero_le _, fun l hl => ?_⟩
  have g0 := same_new hl (.lst [])
  refine ⟨_, rfl, _, rfl, a, _, rfl, g0.seq hS, fun p hp => ?_⟩
  refine ⟨p, _, rfl, .inl (SqL.of upd_same), 1, _, rfl, ?_⟩
  have g1 := g0.trans (same_new hp (.lst (cutV (ns.map V.int) none (some 4))))
  have hc4 := cut4 (ns.map V.int)
  obtain ⟨n, hn1, hn4, en⟩ : ∃ n : Nat, 1 ≤ n ∧ n ≤ 4 ∧ (if ((cutV (ns.map V.int) none (some 4)).length : Int) > 1 then ((cutV (ns.map V.int) none (some 4)).length : Int) else 1) = (n : Int) := by
    by_cases h : ((cutV (ns.map V.int) none (some 4)).length : Int) > 1
    · exact ⟨_, by omega, hc4, if_pos h⟩
    · exact ⟨1, by omega, by omega, if_neg h⟩
  refine ⟨_, rfl, by rw [en]; omega, by rw [en]; omega, ?_⟩
  rw [en]
  refine for_range (n := n) (fun i σ Hi => ∃ (vs : List V) (tms : List Tm) (v2 v3 v4 : Option V), σ = [some (.ref a), some (.ref l), v2, v3, v4] ∧ tms.length = i ∧ Same H Hi ∧ Hi l = some (.lst vs) ∧ Rps K Hi (tms.map enc) vs ∧ ∀ t ∈ tms, Good 20 60 t)
    ⟨[], [], none, none, none, rfl, rfl, g1, same_new hp _ _ _ upd_same, .nil, (fun _ z => nomatch z)⟩ ?_ ?_
  · rintro i σ Hi hi ⟨vs, tms, v2, v3, v4, rfl, hl2, gi, hli, ri, good⟩
    have lv := ri.length
    rw [List.length_map] at lv
    refine ⟨_, rfl, _, rfl, a, ns, _, rfl, gi.seq hS, hn, by omega, by omega, fun r H1 s1 hr1' hf1 => ?_⟩
    have nrl : l ≠ r := ne_of_none hli hr1'
    have fr : H r = none := gi.free hr1'
    refine ⟨_, rfl, _, rfl, r, 20, rfl, by decide, by decide, hf1, fun q H2 q0 q1 e2 => ?_⟩
    refine ⟨_, _, rfl, rfl, ?_⟩
    refine ⟨r, (1 + q).toNat, (by rw [show (((1 + q).toNat : Nat) : Int) = 1 + q by omega]; rfl), by omega, by omega, e2.2, fun rw H3 xs e3 hn3 h3 l3 _ => ?_⟩
    have e23 := e2.trans e3
    have h3l : H3 l = some (.lst vs) := e23.1 l _ nrl (s1 _ _ hli)
    refine ⟨_, rfl, .inl ⟨rfl, _, SqL.of h3l⟩, _, rfl, _, rfl, (by show 3 ≤ sizeLine; decide), fun p4 hp4 => ?_⟩
    have e4 := e23.new hp4 (.lst [.int 3, .int 9, .int 9])
    have n4r : p4 ≠ r := fun z => by subst z; obtain ⟨a, b, z⟩ := e23.2; rw [hp4] at z; cases z
    refine ⟨_, rfl, r, 3, rfl, by decide, by decide, e4.2, fun d H5 d0 d1 e5 => ?_⟩
    have x5 := e4.trans e5
    have h5p := e5.1 p4 _ n4r upd_same
    have hw5 : WordsAt H5 rw xs := by
      have w3 : WordsAt H3 rw xs := ⟨h3, by omega, by omega⟩
      exact ((w3.same (same_new hp4 _)).ext e4.2 e5)
    have h5l : H5 l = some (.lst vs) := x5.1 l _ nrl (s1 _ _ hli)
    have fin : ∀ (down : Nat), down ≤ 9 → spAny K 9 [.ref r, .ref rw, .int 40, .int down] H5 (fun x Hz => ∃ l' xs' y, V.ref l = .ref l' ∧ [x] = [y] ∧ Hz l' = some (.lst xs') ∧ xs'.length < sizeLine ∧ (∃ (vs : List V) (tms : List Tm) (v2 v3 v4 : Option V), [some (V.ref a), some (.ref l), some (.int (0 + (i : Int))), some (.ref r), some (.ref rw)] = [some (.ref a), some (.ref l), v2, v3, v4] ∧ tms.length = i + 1 ∧ Same H (upd Hz l' (.lst (xs' ++ [y]))) ∧ upd Hz l' (.lst (xs' ++ [y])) l = some (.lst vs) ∧ Rps K (upd Hz l' (.lst (xs' ++ [y]))) (tms.map enc) vs ∧ ∀ t ∈ tms, Good 20 60 t)) (fun _ _ _ => False) := by
      intro down hd
      refine ⟨r, rw, xs, 40, down, rfl, x5.2, hw5, by decide, by decide, hd, fun v H6 tm rp g e6 => ?_⟩
      have x6 := x5.trans e6
      have h6l : H6 l = some (.lst vs) := x6.1 l _ nrl (s1 _ _ hli)
      refine ⟨l, vs, v, rfl, rfl, h6l, small1000 (by omega), vs ++ [v], tms ++ [tm], _, _, _, rfl, by rw [List.length_append, hl2]; rfl, ?_, upd_same, ?_, fun t ht => ?_⟩
      · intro b o e
        rw [upd_ne (ne_of_none e hl)]
        exact x6.1 b o (ne_of_none e fr) (s1 _ _ (gi b o e))
      · rw [List.map_append]
        have kt := (Kt.same s1).trans ((x6.kt hf1).trans (Kt.lst h6l (.lst (vs ++ [v]))))
        exact (ri.kt kt).snoc (rp.kt (Kt.lst h6l _))
      · rcases List.mem_append.mp ht with h | h
        · exact good t h
        · rw [List.mem_singleton.mp h]; exact ⟨g.wf, g.gk, Nat.le_trans g.dp (by omega), Nat.le_trans g.sz (by omega)⟩
    have q3 : d = 0 ∨ d = 1 ∨ d = 2 := by omega
    rcases q3 with rfl | rfl | rfl
    · exact ⟨p4, _, 0, _, rfl, rfl, SqL.of h5p, rfl, fin 3 (by decide)⟩
    · exact ⟨p4, _, 1, _, rfl, rfl, SqL.of h5p, rfl, fin 9 (by decide)⟩
    · exact ⟨p4, _, 2, _, rfl, rfl, SqL.of h5p, rfl, fin 9 (by decide)⟩
  · rintro σ Hi ⟨vs, tms, v2, v3, v4, rfl, hl2, gi, hli, ri, good⟩
    have lv := ri.length
    rw [List.length_map] at lv
    refine ⟨_, rfl, _, rfl, l, l, _, _, rfl, rfl, hli, hli, small (by omega), fun q hq => ?_⟩
    have s5 := same_new hq (.lst (vs ++ vs))
    refine ⟨q, rfl, ⟨_, SqL.of upd_same⟩, ?_⟩
    have hqq : upd Hi q (.lst (vs ++ vs)) q = some (.lst (vs ++ vs)) := upd_same
    have r5 : Rps K (upd Hi q (.lst (vs ++ vs))) ((tms ++ tms).map enc) (vs ++ vs) := by rw [List.map_append]; exact (ri.append ri).same s5
    generalize upd Hi q (.lst (vs ++ vs)) = H5 at hqq r5 ⊢
    refine comp_list (xs := vs ++ vs) (fun i σ us Hj => (∃ x, σ = [x]) ∧ Same H5 Hj ∧ us = (List.replicate i true).map V.bl) ⟨⟨none, rfl⟩, Same.refl _, rfl⟩ (fun i σ vs Hj _ ⟨_, _, e⟩ => by rw [e, List.length_map, List.length_replicate]; exact Nat.le_refl _) (small (by rw [List.length_append]; omega))
      (fun i σ vs Hj _ ⟨_, e, _⟩ => SqL.of (e _ _ hqq)) ?_ ?_
    · rintro i x σ us Hj hx ⟨⟨x0, rfl⟩, sj, rfl⟩
      obtain ⟨y, hy, ry⟩ := r5.get' hx
      rw [List.getElem?_map] at hy
      obtain ⟨tm, htm, rfl⟩ := Option.map_eq_some_iff.mp hy
      have hm := List.mem_of_getElem? htm
      have gd : Good 20 60 tm := by rcases List.mem_append.mp hm with h | h <;> exact good tm h
      refine ⟨_, rfl, x, tm, rfl, ry.same sj, gd, fun H6 s6 => ⟨⟨_, rfl⟩, sj.trans s6, ?_⟩⟩
      rw [List.replicate_succ', List.map_append]
      rfl
    · rintro σ us Hj ⟨_, sj, rfl⟩ p hp
      refine ⟨p, _, rfl, SqL.of upd_same, ?_⟩
      have e : (List.replicate (vs ++ vs).length true).all id = true := by
        rw [List.all_eq_true]
        intro b hb
        exact (List.mem_replicate.mp hb).2
      rw [e]
      exact k _
end
end G02

namespace G02
open PySem L2 PySem.W
/-- a def's place among the laid ones -/
structure FnAt (K : Frag) (x qual : Str) (st : Stmt) (f : Addr) (fd : FuncData) : Prop where
  ex : ∃ (od : Option Addr) (kV doc pm : Value) (an : Option Addr) (cdv ct : Value) (osl : Array (Option Value)),
    fd = fnOf x qual (defArgs st) (defBody st) (defScope st) .none kV doc pm an cdv ct ∧ K.lookup f = some ⟨.type "function", od, .func fd, osl⟩ ∧ codeIn K cdv qual = true
  kp : keepIn K (.ref f) = true
theorem FnAt.f {K : Frag} {x qual : Str} {st : Stmt} {f : Addr} {fd : FuncData} (F : FnAt K x qual st f fd) : Fun K x qual st f fd := by
  obtain ⟨od, kV, doc, pm, an, cdv, ct, osl, e, l, c⟩ := F.ex
  exact ⟨⟨_, od, kV, doc, pm, an, cdv, ct, osl, e, l, c⟩, F.kp⟩
theorem fnAt_mk {K : Frag} {x qual : Str} {st : Stmt} {f : Addr} {od an : Option Addr} {osl : Array (Option Value)} {kV doc pm cdv ct : Value} (l : K.lookup f = some ⟨.type "function", od, .func (fnOf x qual (defArgs st) (defBody st) (defScope st) .none kV doc pm an cdv ct), osl⟩)
    (c : codeIn K cdv qual = true) (k : keepIn K (.ref f) = true) : FnAt K x qual st f (fnOf x qual (defArgs st) (defBody st) (defScope st) .none kV doc pm an cdv ct) := ⟨⟨od, kV, doc, pm, an, cdv, ct, osl, rfl, l, c⟩, k⟩
/-- the entries of a laid dict -/
def entB (P : Params) : List DictEntry → List (Str × Value) → Bool
  | [], [] => true
  | e :: r, (x, v) :: q => (match e.key with | .str y _ => y == x | _ => false) && (e.val == v) && entB P r q
  | _, _ => false
/-- a tuple of the module -/
def tupB (K : Frag) (a : Addr) (ns : List Nat) : Bool := match K.lookup a with
  | some ⟨.type "tuple", _, .seq its _, _⟩ => its.toList.length == ns.length && (its.toList.zip ns).all (fun p => match p.1 with | .int i _ => i == (p.2 : Int) | _ => false)
  | _ => false
theorem tupB_T {K : Frag} {a : Addr} {ns : List Nat} (h : tupB K a ns = true) (hn : ns.length ≤ 10) : ∀ H, SqT K H a (ns.map fun (j : Nat) => V.int (j : Int)) := by
  intro H
  unfold tupB at h
  split at h
  · rename_i od its n sl e
    rw [Bool.and_eq_true] at h
    obtain ⟨h1, h2⟩ := h
    replace h1 := eq_of_beq h1
    have hz : its.size ≤ sizeLine := by
      have z : its.toList.length = its.size := by simp
      exact small (by omega)
    refine .inr ⟨_, its, n, e, rfl, rfl, hz, ?_⟩
    clear hz e
    generalize its.toList = l at h1 h2
    clear hn
    induction l generalizing ns with
    | nil => cases ns with
      | nil => exact .nil
      | cons _ _ => simp at h1
    | cons v r ih =>
      cases ns with
      | nil => simp at h1
      | cons m q =>
        rw [List.zip_cons_cons, List.all_cons, Bool.and_eq_true] at h2
        obtain ⟨h3, h4⟩ := h2
        refine .cons ?_ (ih (by simpa using h1) h4)
        split at h3
        · rename_i i t e'
          have : i = (m : Int) := eq_of_beq h3
          subst this
          exact ⟨t, e'⟩
        · cases h3
  · cases h
theorem all_mk {l : OpenLaw} {w : World} {K : Frag} {h : Heap} {mg : Str → Option Value} {g1 g2 g3 g4 g5 g6 g7 g8 g9 g10 g11 g12 g13 g14 g15 g16 g17 fa dP dM t0 t1 t2 t3 t4 t5 t6 t7 t8 : Addr} {e1 e2 e3 e4 e5 e6 e7 e8 e9 e10 e11 e12 e13 e14 e15 e16 e17 : FuncData} {esP esM : Array DictEntry} {nP nM : Nat} (X : K.In h) (G : h.Ns mainGlobals mg) (hfa : mg "law" = some (.ref fa))
    (a1 : nsIn K mainGlobals "right_in" = some (some (.ref g1)))
    (a2 : nsIn K mainGlobals "parts" = some (some (.ref g2)))
    (a3 : nsIn K mainGlobals "deep" = some (some (.ref g3)))
    (a4 : nsIn K mainGlobals "gaps_in" = some (some (.ref g4)))
    (a5 : nsIn K mainGlobals "_law_feed" = some (some (.ref g5)))
    (a6 : nsIn K mainGlobals "_law_take" = some (some (.ref g6)))
    (a7 : nsIn K mainGlobals "_law_names" = some (some (.ref g7)))
    (a8 : nsIn K mainGlobals "_law_number" = some (some (.ref g8)))
    (a9 : nsIn K mainGlobals "_law_leaf_of" = some (some (.ref g9)))
    (a10 : nsIn K mainGlobals "_law_many_of" = some (some (.ref g10)))
    (a11 : nsIn K mainGlobals "_law_some_words" = some (some (.ref g11)))
    (a12 : nsIn K mainGlobals "_law_any" = some (some (.ref g12)))
    (a13 : nsIn K mainGlobals "_law_within" = some (some (.ref g13)))
    (a14 : nsIn K mainGlobals "_law_walked" = some (some (.ref g14)))
    (a15 : nsIn K mainGlobals "_law_right" = some (some (.ref g15)))
    (a16 : nsIn K mainGlobals "law" = some (some (.ref g16)))
    (a17 : nsIn K mainGlobals "inner_terms" = some (some (.ref g17)))
    (F1 : FnAt K "right_in" "right_in" s_right_in g1 e1)
    (F2 : FnAt K "parts" "parts" s_parts g2 e2)
    (F3 : FnAt K "deep" "deep" s_deep g3 e3)
    (F4 : FnAt K "gaps_in" "gaps_in" s_gaps_in g4 e4)
    (F5 : FnAt K "_law_feed" "_law_feed" s_L_feed g5 e5)
    (F6 : FnAt K "_law_take" "_law_take" s_L_take g6 e6)
    (F7 : FnAt K "_law_names" "_law_names" s_L_names g7 e7)
    (F8 : FnAt K "_law_number" "_law_number" s_L_number g8 e8)
    (F9 : FnAt K "_law_leaf_of" "_law_leaf_of" s_L_leaf_of g9 e9)
    (F10 : FnAt K "_law_many_of" "_law_many_of" s_L_many_of g10 e10)
    (F11 : FnAt K "_law_some_words" "_law_some_words" s_L_some_words g11 e11)
    (F12 : FnAt K "_law_any" "_law_any" s_L_any g12 e12)
    (F13 : FnAt K "_law_within" "_law_within" s_L_within g13 e13)
    (F14 : FnAt K "_law_walked" "_law_walked" s_L_walked g14 e14)
    (F15 : FnAt K "_law_right" "_law_right" s_L_right g15 e15)
    (F16 : FnAt K "law" "law" s_law g16 e16)
    (F17 : FnAt K "inner_terms" "inner_terms" s_inner_terms g17 e17)
    (aP : nsIn K mainGlobals "PLACES" = some (some (.ref dP)))
    (aM : nsIn K mainGlobals "PLACE_OF_MANY" = some (some (.ref dM)))
    (lP : K.lookup dP = some { cls := .type "dict", dict := none, data := .dict esP nP, slots := #[] })
    (lM : K.lookup dM = some { cls := .type "dict", dict := none, data := .dict esM nM, slots := #[] })
    (kP : KDs w esP.toList [("num", .ref t0), ("name", .ref t1), ("gap", .ref t2), ("op", .ref t3), ("more", .ref t4), ("first", .ref t5), ("others", .ref t6), ("long", .ref t7), ("if", .ref t8)])
    (kM : KDs w esM.toList manyOf)
    (sP : (dP == sysModules) = false)
    (sM : (dM == sysModules) = false)
    (q0 : tupB K t0 [] = true)
    (q1 : tupB K t1 [] = true)
    (q2 : tupB K t2 [] = true)
    (q3 : tupB K t3 [2, 3] = true)
    (q4 : tupB K t4 [1, 2] = true)
    (q5 : tupB K t5 [1] = true)
    (q6 : tupB K t6 [1] = true)
    (q7 : tupB K t7 [1] = true)
    (q8 : tupB K t8 [1, 2, 3] = true)
    (z0 : nsIn K mainGlobals "len" = some none)
    (z1 : nsIn K mainGlobals "range" = some none)
    (z2 : nsIn K mainGlobals "int" = some none)
    (z3 : nsIn K mainGlobals "tuple" = some none)
    (z4 : nsIn K mainGlobals "min" = some none)
    (z5 : nsIn K mainGlobals "max" = some none)
    (z6 : nsIn K mainGlobals "list" = some none)
    (z7 : nsIn K mainGlobals "isinstance" = some none)
    (z8 : nsIn K mainGlobals "repr" = some none)
    (z9 : nsIn K mainGlobals "all" = some none) :
    ∃ fd : FuncData, (∀ (s : Shared) (v : Value), BindsTo s fd ⟨[v], []⟩ [("_law_script", v)]) ∧ ∀ base : Heap, K.In base → base.Ns mainGlobals mg → FnOk l.prog w K mg base CX0 33 fa fd ["_law_script"] (spLaw K) := by
  have e := hfa.symm.trans (mg_of X G a16)
  cases e
  have b1 := F1.f.binds (ps := ["term"]) fun _ _ _ _ _ _ us hl => match us, hl with | [_], _ => rfl
  have m1 := mg_of X G a1
  have b2 := F2.f.binds (ps := ["term"]) fun _ _ _ _ _ _ us hl => match us, hl with | [_], _ => rfl
  have m2 := mg_of X G a2
  have b3 := F3.f.binds (ps := ["term"]) fun _ _ _ _ _ _ us hl => match us, hl with | [_], _ => rfl
  have m3 := mg_of X G a3
  have b4 := F4.f.binds (ps := ["term"]) fun _ _ _ _ _ _ us hl => match us, hl with | [_], _ => rfl
  have m4 := mg_of X G a4
  have b5 := F5.f.binds (ps := ["_law_script", "_law_k"]) fun _ _ _ _ _ _ us hl => match us, hl with | [_, _], _ => rfl
  have m5 := mg_of X G a5
  have b6 := F6.f.binds (ps := ["_law_feed_here", "_law_many"]) fun _ _ _ _ _ _ us hl => match us, hl with | [_, _], _ => rfl
  have m6 := mg_of X G a6
  have b7 := F7.f.binds (ps := ["_law_feed_here", "_law_many"]) fun _ _ _ _ _ _ us hl => match us, hl with | [_, _], _ => rfl
  have m7 := mg_of X G a7
  have b8 := F8.f.binds (ps := ["_law_feed_here"]) fun _ _ _ _ _ _ us hl => match us, hl with | [_], _ => rfl
  have m8 := mg_of X G a8
  have b9 := F9.f.binds (ps := ["_law_feed_here", "_law_words"]) fun _ _ _ _ _ _ us hl => match us, hl with | [_, _], _ => rfl
  have m9 := mg_of X G a9
  have b10 := F10.f.binds (ps := ["_law_feed_here", "_law_words", "_law_many", "_law_room", "_law_down"]) fun _ _ _ _ _ _ us hl => match us, hl with | [_, _, _, _, _], _ => rfl
  have m10 := mg_of X G a10
  have b11 := F11.f.binds (ps := ["_law_feed_here", "_law_words"]) fun _ _ _ _ _ _ us hl => match us, hl with | [_, _], _ => rfl
  have m11 := mg_of X G a11
  have b12 := F12.f.binds (ps := ["_law_feed_here", "_law_words", "_law_room", "_law_down"]) fun _ _ _ _ _ _ us hl => match us, hl with | [_, _, _, _], _ => rfl
  have m12 := mg_of X G a12
  have b13 := F13.f.binds (ps := ["_law_term"]) fun _ _ _ _ _ _ us hl => match us, hl with | [_], _ => rfl
  have m13 := mg_of X G a13
  have b14 := F14.f.binds (ps := ["_law_term", "_law_down", "_law_found"]) fun _ _ _ _ _ _ us hl => match us, hl with | [_, _, _], _ => rfl
  have m14 := mg_of X G a14
  have b15 := F15.f.binds (ps := ["_law_term"]) fun _ _ _ _ _ _ us hl => match us, hl with | [_], _ => rfl
  have m15 := mg_of X G a15
  have b16 := F16.f.binds (ps := ["_law_script"]) fun _ _ _ _ _ _ us hl => match us, hl with | [_], _ => rfl
  have m16 := mg_of X G a16
  have b17 := F17.f.binds (ps := ["term"]) fun _ _ _ _ _ _ us hl => match us, hl with | [_], _ => rfl
  have m17 := mg_of X G a17
  have z_len := mg_none_of X G z0
  have z_range := mg_none_of X G z1
  have z_int := mg_none_of X G z2
  have z_tuple := mg_none_of X G z3
  have z_min := mg_none_of X G z4
  have z_max := mg_none_of X G z5
  have z_list := mg_none_of X G z6
  have z_isinstance := mg_none_of X G z7
  have z_repr := mg_none_of X G z8
  have z_all := mg_none_of X G z9
  have TB : Tabs K w mg dP dM [("num", V.ref t0), ("name", V.ref t1), ("gap", V.ref t2), ("op", V.ref t3), ("more", V.ref t4), ("first", V.ref t5), ("others", V.ref t6), ("long", V.ref t7), ("if", V.ref t8)] := {
    mP := mg_of X G aP, mM := mg_of X G aM, kP := ⟨esP, nP, lP, kP, (show (["num", "name", "gap", "op", "more", "first", "others", "long", "if"] : List Str).Nodup by decide +kernel), sP⟩, kM := ⟨esM, nM, lM, kM, by decide +kernel, sM⟩,
    at_ := fun f ps hm => by
      unfold placesOf at hm
      simp only [List.mem_cons, List.not_mem_nil, or_false, Prod.mk.injEq] at hm
      rcases hm with ⟨rfl, rfl⟩ | ⟨rfl, rfl⟩ | ⟨rfl, rfl⟩ | ⟨rfl, rfl⟩ | ⟨rfl, rfl⟩ | ⟨rfl, rfl⟩ | ⟨rfl, rfl⟩ | ⟨rfl, rfl⟩ | ⟨rfl, rfl⟩
      · exact ⟨t0, rfl, tupB_T q0 (by decide)⟩
      · exact ⟨t1, rfl, tupB_T q1 (by decide)⟩
      · exact ⟨t2, rfl, tupB_T q2 (by decide)⟩
      · exact ⟨t3, rfl, tupB_T q3 (by decide)⟩
      · exact ⟨t4, rfl, tupB_T q4 (by decide)⟩
      · exact ⟨t5, rfl, tupB_T q5 (by decide)⟩
      · exact ⟨t6, rfl, tupB_T q6 (by decide)⟩
      · exact ⟨t7, rfl, tupB_T q7 (by decide)⟩
      · exact ⟨t8, rfl, tupB_T q8 (by decide)⟩ }
  obtain ⟨od, kV, doc, pm, an, cdv, ct, osl, rfl, lk, cc⟩ := F16.ex
  refine ⟨fnOf "law" "law" (defArgs s_law) (defBody s_law) (defScope s_law) .none kV doc pm an cdv ct, fun s v => .of_eq rfl, fun base _ _ => ?_⟩
  have RI : Has l.prog w K mg base "right_in" 1 _ _ g1 e1 := ⟨ok_right_in F1.f TB, m1, F1.kp, b1⟩
  have IN : Has l.prog w K mg base "inner_terms" 2 _ _ g17 e17 := ⟨ok_inner F17.f RI, m17, F17.kp, b17⟩
  have PA : Has l.prog w K mg base "parts" 3 _ _ g2 e2 := ⟨ok_parts F2.f IN, m2, F2.kp, b2⟩
  have DE : Has l.prog w K mg base "deep" 3 _ _ g3 e3 := ⟨ok_deep F3.f IN z_max, m3, F3.kp, b3⟩
  have GA : Has l.prog w K mg base "gaps_in" 4 _ _ g4 e4 := ⟨ok_gaps_in F4.f PA, m4, F4.kp, b4⟩
  have FD : Has l.prog w K mg base "_law_feed" 1 _ _ g5 e5 := ⟨ok_feed F5.f z_len, m5, F5.kp, b5⟩
  have TK : Has l.prog w K mg base "_law_take" 1 _ _ g6 e6 := ⟨ok_take F6.f, m6, F6.kp, b6⟩
  have NM : Has l.prog w K mg base "_law_names" 2 _ _ g7 e7 := ⟨ok_names F7.f TK z_range z_len z_int, m7, F7.kp, b7⟩
  have NU : Has l.prog w K mg base "_law_number" 2 _ _ g8 e8 := ⟨ok_number F8.f TK, m8, F8.kp, b8⟩
  have LE : Has l.prog w K mg base "_law_leaf_of" 3 _ _ g9 e9 := ⟨ok_leaf F9.f TK NU z_len, m9, F9.kp, b9⟩
  have SW : Has l.prog w K mg base "_law_some_words" 2 _ _ g11 e11 := ⟨ok_some_words F11.f TK z_range z_len z_tuple, m11, F11.kp, b11⟩
  have AN : Has l.prog w K mg base "_law_any" 23 _ _ g12 e12 := ⟨any_all F12.f F10.f m12 m10 b12 b10 TK LE SW z_len z_tuple z_min z_max z_range 9, m12, F12.kp, b12⟩
  have WI : Has l.prog w K mg base "_law_within" 1 _ _ g13 e13 := ⟨ok_within F13.f z_list z_int, m13, F13.kp, b13⟩
  have WA : Has l.prog w K mg base "_law_walked" 31 _ _ g14 e14 := ⟨walked_all F14.f m14 b14 WI 30, m14, F14.kp, b14⟩
  have RT : Has l.prog w K mg base "_law_right" 32 _ _ g15 e15 := ⟨ok_right (j := 31) (by decide) F15.f WA PA GA DE z_isinstance z_list z_repr z_max, m15, F15.kp, b15⟩
  exact ok_law (kR := 32) (by decide) ⟨⟨_, od, kV, doc, pm, an, cdv, ct, osl, rfl, lk, cc⟩, F16.kp⟩ FD TK NM AN RT z_len z_max z_range z_all
theorem walk {l : PySem.W.OpenLaw} {q : Program} {loose : List Str} {XP : (Str → Option Value) → Heap → Prop} {YP : World → Heap → Prop} {d : DefRec} {K : Params → PySem.W.Frag} (hn : l.most = some 63) (hdf : d.params.defaults = [])
    (hY : ∀ (w : World) (h : Heap), YP w h → (K w.params).In h)
    (F : ∀ (w : World) (mg : Str → Option Value) (fa : Addr) (h : Heap), (K w.params).In h → h.Ns mainGlobals mg → mg d.name = some (.ref fa) →
      ∃ fd : FuncData, (∀ (s : Shared) (u : Value), BindsTo s fd ⟨[u], []⟩ [("_law_script", u)]) ∧ ∀ base : Heap, (K w.params).In base → base.Ns mainGlobals mg → FnOk l.prog w (K w.params) mg base CX0 33 fa fd ["_law_script"] (spLaw (K w.params))) :
    PySem.W.WalkO q loose XP YP l.row.toRowW d [] (fun f vs => PySem.call f vs) :=
  L2.walk_of (n := 63) (k := 33) (x := "_law_script") (CX := fun _ => CX0) (sp := fun w => spLaw (K w.params)) hn (by decide) hdf ⟨rfl, by decide, by decide, rfl⟩ hY F (fun _ _ a ns hl _ hS => ⟨a, ns, rfl, hS, hl, fun _ => rfl⟩) fun _ _ _ _ _ z => z
end G02

open PySem PySem.W PyProof.Rows
set_option maxRecDepth 100000 in
set_option maxHeartbeats 0 in
theorem PySem.Challenge.cw_gapwork_k02_parts_of_any_term_holds : PySem.Challenge.rw_gapwork_k02_parts_of_any_term.Holds := by
  w_on; o_law; k_head; (case hw => w_witness2)
  k_fill
  refine G02.walk (l := PySem.Challenge.rw_gapwork_k02_parts_of_any_term) rfl rfl (fun w h Y => PySem.W.kIn_of Y) ?F
  case F =>
    intro w mg fa h KX G hmg
    refine' G02.all_mk KX G hmg ?a1 ?a2 ?a3 ?a4 ?a5 ?a6 ?a7 ?a8 ?a9 ?a10 ?a11 ?a12 ?a13 ?a14 ?a15 ?a16 ?a17 ?F1 ?F2 ?F3 ?F4 ?F5 ?F6 ?F7 ?F8 ?F9 ?F10 ?F11 ?F12 ?F13 ?F14 ?F15 ?F16 ?F17 ?aP ?aM ?lP ?lM ?kP ?kM ?sP ?sM ?q0 ?q1 ?q2 ?q3 ?q4 ?q5 ?q6 ?q7 ?q8 ?z0 ?z1 ?z2 ?z3 ?z4 ?z5 ?z6 ?z7 ?z8 ?z9
    (case a1 => k_is)
    (case a2 => k_is)
    (case a3 => k_is)
    (case a4 => k_is)
    (case a5 => k_is)
    (case a6 => k_is)
    (case a7 => k_is)
    (case a8 => k_is)
    (case a9 => k_is)
    (case a10 => k_is)
    (case a11 => k_is)
    (case a12 => k_is)
    (case a13 => k_is)
    (case a14 => k_is)
    (case a15 => k_is)
    (case a16 => k_is)
    (case a17 => k_is)
    (case F1 => exact G02.fnAt_mk (by k_is) (by k_is) (by k_is))
    (case F2 => exact G02.fnAt_mk (by k_is) (by k_is) (by k_is))
    (case F3 => exact G02.fnAt_mk (by k_is) (by k_is) (by k_is))
    (case F4 => exact G02.fnAt_mk (by k_is) (by k_is) (by k_is))
    (case F5 => exact G02.fnAt_mk (by k_is) (by k_is) (by k_is))
    (case F6 => exact G02.fnAt_mk (by k_is) (by k_is) (by k_is))
    (case F7 => exact G02.fnAt_mk (by k_is) (by k_is) (by k_is))
    (case F8 => exact G02.fnAt_mk (by k_is) (by k_is) (by k_is))
    (case F9 => exact G02.fnAt_mk (by k_is) (by k_is) (by k_is))
    (case F10 => exact G02.fnAt_mk (by k_is) (by k_is) (by k_is))
    (case F11 => exact G02.fnAt_mk (by k_is) (by k_is) (by k_is))
    (case F12 => exact G02.fnAt_mk (by k_is) (by k_is) (by k_is))
    (case F13 => exact G02.fnAt_mk (by k_is) (by k_is) (by k_is))
    (case F14 => exact G02.fnAt_mk (by k_is) (by k_is) (by k_is))
    (case F15 => exact G02.fnAt_mk (by k_is) (by k_is) (by k_is))
    (case F16 => exact G02.fnAt_mk (by k_is) (by k_is) (by k_is))
    (case F17 => exact G02.fnAt_mk (by k_is) (by k_is) (by k_is))
    (case aP => k_is)
    (case aM => k_is)
    (case lP => k_is)
    (case lM => k_is)
    (case kP => exact ⟨_, _, _, rfl, ⟨_, rfl⟩, rfl, rfl, ⟨_, _, _, rfl, ⟨_, rfl⟩, rfl, rfl, ⟨_, _, _, rfl, ⟨_, rfl⟩, rfl, rfl, ⟨_, _, _, rfl, ⟨_, rfl⟩, rfl, rfl, ⟨_, _, _, rfl, ⟨_, rfl⟩, rfl, rfl, ⟨_, _, _, rfl, ⟨_, rfl⟩, rfl, rfl, ⟨_, _, _, rfl, ⟨_, rfl⟩, rfl, rfl, ⟨_, _, _, rfl, ⟨_, rfl⟩, rfl, rfl, ⟨_, _, _, rfl, ⟨_, rfl⟩, rfl, rfl, rfl⟩⟩⟩⟩⟩⟩⟩⟩⟩)
    (case kM => exact ⟨_, _, _, rfl, ⟨_, rfl⟩, rfl, ⟨_, rfl⟩, ⟨_, _, _, rfl, ⟨_, rfl⟩, rfl, ⟨_, rfl⟩, ⟨_, _, _, rfl, ⟨_, rfl⟩, rfl, ⟨_, rfl⟩, rfl⟩⟩⟩)
    (case sP => kernel_rfl)
    (case sM => kernel_rfl)
    (case q0 => kernel_rfl)
    (case q1 => kernel_rfl)
    (case q2 => kernel_rfl)
    (case q3 => kernel_rfl)
    (case q4 => kernel_rfl)
    (case q5 => kernel_rfl)
    (case q6 => kernel_rfl)
    (case q7 => kernel_rfl)
    (case q8 => kernel_rfl)
    (case z0 => k_is)
    (case z1 => k_is)
    (case z2 => k_is)
    (case z3 => k_is)
    (case z4 => k_is)
    (case z5 => k_is)
    (case z6 => k_is)
    (case z7 => k_is)
    (case z8 => k_is)
    (case z9 => k_is)
#print axioms PySem.Challenge.cw_gapwork_k02_parts_of_any_term_holds

