import PyProof.Rows.All
import Wide.All
import OpenK.AllK
import Wide.FinOn
import Lean
import PyProof.EqAt
import PyProof.EqKinds
import PyProof.TupleCall
import KE.KEqDict
import PyProof.ZipIter
import PySem.Challenge.RW_nestturn_k03_counts_gone_through
set_option Elab.async false
set_option linter.all false
set_option maxRecDepth 100000
/-! THE HAND LAYER, for ints, bools, texts, own classes, LISTS and tuples (index, slices, in, append, pop ..), calls, loops. Paste it whole ahead of your own text; what your proof does not reach may be deleted. -/
namespace L2
open PySem PySem.Spec PyProof.Rows

/-- a key: an int or a str -/
abbrev Key := Sum Int Str
def keyIs : Key → Value → Bool
  | .inl k, v => Value.isInt k v
  | .inr x, v => Value.isStrOf x v
def keyH (w : World) : Key → Int
  | .inl k => hashInt k
  | .inr x => hashStr w x
theorem keyIs_shape : ∀ {k : Key} {v : Value}, keyIs k v = true → (∃ i t, k = Sum.inl i ∧ v = Value.int i t) ∨ (∃ x t, k = Sum.inr x ∧ v = Value.str x t)
  | .inl i, v, h => by
    obtain ⟨t, e⟩ := Value.isInt_shape (k := i) (v := v) h
    exact .inl ⟨i, t, rfl, e⟩
  | .inr x, v, h => by
    obtain ⟨t, e⟩ := Value.isStrOf_shape (x := x) (v := v) h
    exact .inr ⟨x, t, rfl, e⟩
theorem keyIs_int (i : Int) (t : Tok) : keyIs (.inl i) (.int i t) = true := by simp [keyIs, Value.isInt]
theorem keyIs_str (x : Str) (t : Tok) : keyIs (.inr x) (.str x t) = true := by simp [keyIs, Value.isStrOf]
theorem key_ll (a b : Int) : decide ((Sum.inl a : Key) = Sum.inl b) = (a == b) := by
  by_cases e : a = b
  · subst e; simp
  · have h : ¬ (Sum.inl a : Key) = Sum.inl b := fun q => e (Sum.inl.inj q)
    rw [decide_eq_false h]
    exact (beq_eq_false_iff_ne.mpr e).symm
theorem key_rr (a b : Str) : decide ((Sum.inr a : Key) = Sum.inr b) = decide (a = b) := by
  by_cases e : a = b
  · subst e; simp
  · have h : ¬ (Sum.inr a : Key) = Sum.inr b := fun q => e (Sum.inr.inj q)
    rw [decide_eq_false h, decide_eq_false e]
theorem key_lr (a : Int) (b : Str) : decide ((Sum.inl a : Key) = Sum.inr b) = false := decide_eq_false (fun q => nomatch q)
theorem key_rl (a : Str) (b : Int) : decide ((Sum.inr a : Key) = Sum.inl b) = false := decide_eq_false (fun q => nomatch q)

def mixKind (prog : Program) (w : World) : PySem.KeyKind prog w Key where
  is := keyIs
  hash := keyH w
  inj := fun v a b ha hb => by
    rcases keyIs_shape ha with ⟨i, t, rfl, rfl⟩ | ⟨x, t, rfl, rfl⟩
    · rcases keyIs_shape hb with ⟨j, u, rfl, e⟩ | ⟨y, u, rfl, e⟩
      · injection e with e1 _; rw [e1]
      · exact nomatch e
    · rcases keyIs_shape hb with ⟨j, u, rfl, e⟩ | ⟨y, u, rfl, e⟩
      · exact nomatch e
      · injection e with e1 _; rw [e1]
  byValue := fun k v h => by
    rcases keyIs_shape h with ⟨i, t, rfl, rfl⟩ | ⟨x, t, rfl, rfl⟩ <;> rfl
  pyHash := fun hv h => by
    rcases keyIs_shape hv with ⟨i, t, rfl, rfl⟩ | ⟨x, t, rfl, rfl⟩
    · exact wpAny_pyHash_int h
    · exact wpAny_pyHash_str h
  eqBool := fun hu hv h => by
    rcases keyIs_shape hu with ⟨i, t, rfl, rfl⟩ | ⟨x, t, rfl, rfl⟩
    · rcases keyIs_shape hv with ⟨j, u, rfl, rfl⟩ | ⟨y, u, rfl, rfl⟩
      · rw [key_ll] at h; exact wpAny_eqBool_int h
      · rw [key_lr] at h; exact SeqAt.EqAt.int_str i t y u _ _ _ _ h
    · rcases keyIs_shape hv with ⟨j, u, rfl, rfl⟩ | ⟨y, u, rfl, rfl⟩
      · rw [key_rl] at h; exact SeqAt.EqAt.str_int x t j u _ _ _ _ h
      · rw [key_rr] at h; exact wpAny_eqBool_str h
  «strs» := fun k x t v h => by
    rcases keyIs_shape h with ⟨i, u, rfl, e⟩ | ⟨y, u, rfl, e⟩
    · exact nomatch e
    · injection e with e1 _
      subst e1
      cases v <;> rfl

theorem mixKind_is (prog : Program) (w : World) (k : Key) (v : Value) : (mixKind prog w).is k v = keyIs k v := rfl
theorem mixKind_int (prog : Program) (w : World) (i : Int) (t : Tok) : (mixKind prog w).is (.inl i) (.int i t) = true := keyIs_int i t
theorem mixKind_str (prog : Program) (w : World) (x : Str) (t : Tok) : (mixKind prog w).is (.inr x) (.str x t) = true := keyIs_str x t
end L2

namespace L2
open PySem PySem.Spec PyProof.Rows

/-- a value, without the heap -/
inductive V where
  | non | bl (b : Bool) | int (i : Int) | str (x : Str) | byt (b : Array UInt8) | flt (b : UInt64) | ref (a : Addr) | ty (n : String)
  deriving DecidableEq

def RelV : V → Value → Prop
  | .non, u => u = Value.none
  | .bl b, u => u = Value.bool b
  | .int i, u => ∃ t, u = Value.int i t
  | .str x, u => ∃ t, u = Value.str x t
  | .byt b, u => ∃ t, u = Value.bytes b t
  | .flt b, u => ∃ t, u = Value.float b t
  | .ref a, u => u = Value.ref a
  | .ty n, u => u = Value.type n

abbrev Vals : List V → List Value → Prop := Paired RelV
theorem Vals.length {xs : List V} {us : List Value} (r : Vals xs us) : xs.length = us.length := Paired.length r
theorem Vals.get : ∀ {xs : List V} {us : List Value} {i : Nat} {x : V}, Vals xs us → xs[i]? = some x → ∃ u, us[i]? = some u ∧ RelV x u
  | _, _, _, _, .nil, e => by simp at e
  | _, _, 0, _, .cons r _, e => by simp at e; subst e; exact ⟨_, rfl, r⟩
  | _, _, i + 1, x, .cons _ t, e => by
    obtain ⟨u, h1, h2⟩ := Vals.get (i := i) (x := x) t (by simpa using e)
    exact ⟨u, by simpa using h1, h2⟩
theorem Vals.set {x : V} {u : Value} (r : RelV x u) : ∀ {xs : List V} {us : List Value} (i : Nat), Vals xs us → Vals (xs.set i x) (us.set i u)
  | _, _, _, .nil => .nil
  | _, _, 0, .cons _ t => .cons r t
  | _, _, i + 1, .cons q t => .cons q (Vals.set r i t)
theorem Vals.append : ∀ {xs ys : List V} {us ws : List Value}, Vals xs us → Vals ys ws → Vals (xs ++ ys) (us ++ ws)
  | _, _, _, _, .nil, s => s
  | _, _, _, _, .cons r t, s => .cons r (Vals.append t s)
theorem Vals.take : ∀ {xs : List V} {us : List Value} (n : Nat), Vals xs us → Vals (xs.take n) (us.take n)
  | _, _, 0, _ => .nil
  | _, _, _ + 1, .nil => .nil
  | _, _, n + 1, .cons r t => .cons r (Vals.take n t)
theorem Vals.drop : ∀ {xs : List V} {us : List Value} (n : Nat), Vals xs us → Vals (xs.drop n) (us.drop n)
  | _, _, 0, r => r
  | _, _, _ + 1, .nil => .nil
  | _, _, n + 1, .cons _ t => Vals.drop n t
theorem Vals.none_of : ∀ {xs : List V} {us : List Value} {i : Nat}, Vals xs us → xs[i]? = none → us[i]? = none := fun {xs us i} r e => by
  have h1 := r.length
  have h2 : xs.length ≤ i := List.getElem?_eq_none_iff.mp e
  exact List.getElem?_eq_none_iff.mpr (by omega)

def RelO : Option V → Option Value → Prop
  | some v, some u => RelV v u
  | none, none => True
  | _, _ => False
def KV {κ : Type} : List (κ × V) → List (κ × Value) → Prop := Paired fun (p : κ × V) (q : κ × Value) => p.1 = q.1 ∧ RelV p.2 q.2

/-- a key of a dict (00_mix): an int or a text -/
def kV : Key → V
  | .inl i => .int i
  | .inr x => .str x

/-- what stands at a tracked address -/
inductive HO where
  /-- a list -/
  | lst (xs : List V)
  /-- a tuple (never changes) -/
  | tup (xs : List V)
  /-- a dict whose keys are ints and texts; one whose keys are tuples of ints and texts (the empty one is both) -/
  | dK (kvs : List (Key × V)) | dT (kvs : List (List Key × V))
  /-- a set of ints: its members, its size -/
  | set (S : Int → Bool) (n : Nat)
  /-- an instance of the class at C, its dict at dx, its attributes -/
  | ins (C dx : Addr) (fs : List (Str × V))
  /-- the dict of the instance at x -/
  | own (x : Addr)
  /-- the dict of an exception -/
  | xd (fs : List (Str × V))
  /-- a bound method, f of x -/
  | met (f x : Addr)
  /-- a range object lo, lo + 1, .. below hi -/
  | rng (lo hi : Int)
  /-- a thing that is known to the object (the script; a dict while a loop walks it): read, never written while it is so -/
  | frz (o : Obj) (u : HO)
  /-- a code object's table -/
  | tbl (ps : Array Value)
  /-- any other thing, by what is true of its one object (a def of one's own: SetO a S n := HO.ext fun h => ..) -/
  | ext (φ : Heap → Prop)

abbrev Hp := Addr → Option HO
def upd (H : Hp) (a : Addr) (o : HO) : Hp := fun b => if b = a then some o else H b
theorem upd_same {H : Hp} {a : Addr} {o : HO} : upd H a o a = some o := by unfold upd; rw [if_pos rfl]
theorem upd_ne {H : Hp} {a b : Addr} {o : HO} (h : b ≠ a) : upd H a o b = H b := by unfold upd; rw [if_neg h]
theorem upd_upd {H : Hp} {a : Addr} {o u : HO} : upd (upd H a o) a u = upd H a u := by
  funext b; unfold upd; split <;> rfl
/-- two objects of different content stand apart -/
theorem ne_of {H : Hp} {a b : Addr} {o u : HO} (h : H a = some o) (h' : H b = some u) (d : o ≠ u) : a ≠ b := by
  intro e; subst e; rw [h] at h'; exact d (Option.some.inj h')
theorem ne_of_none {H : Hp} {a b : Addr} {o : HO} (h : H a = some o) (h' : H b = none) : a ≠ b := by
  intro e; subst e; rw [h] at h'; cases h'

section
variable (P : Program) (w : World)
def ObjOk (H : Hp) (h : Heap) (a : Addr) : HO → Prop
  | .lst xs => xs.length ≤ sizeLine ∧ ∃ (its : List Value) (n : Nat), Vals xs its ∧ h.get? a = some { cls := .type "list", data := .seq its.toArray n }
  | .tup xs => xs.length ≤ sizeLine ∧ ∃ its : List Value, Vals xs its ∧ IsTup h a its.toArray
  | .dK kvs => kvs.length ≤ sizeLine ∧ (a == sysModules) = false ∧ ∃ vs, KV kvs vs ∧ h.DictOf (mixKind P w) a vs
  | .dT kvs => kvs.length ≤ sizeLine ∧ (a == sysModules) = false ∧ ∃ xs : List (List Key × Addr × Value),
      Paired (fun (p : List Key × V) (q : List Key × Addr × Value) => p.1 = q.1 ∧ H q.2.1 = some (.tup (p.1.map kV)) ∧ RelV p.2 q.2.2) kvs xs ∧
      ∃ o es ep, h.get? a = some o ∧ o.ExactDict ∧ o.data = .dict es ep ∧ es.toList = xs.map (entryOfKey (tupleKind (mixKind P w))) ∧ (xs.map (·.1)).Nodup
  | .set S n => h.SetOf (intKind P w) a S n
  | .ins C dx fs => H dx = some (.own a) ∧ fs.length ≤ 1000 ∧ dx ≠ a ∧ h.get? a = some (PySem.W.instObj C dx) ∧
      ∃ mA, h.Ns1 dx mA ∧ (∀ f, RelO (fs.lookup f) (mA f)) ∧ PySem.Within mA (fs.map (·.1))
  | .own _ => ∃ o, h.get? a = some o
  | .xd fs => ∃ mA, h.Ns1 a mA ∧ ∀ f, RelO (fs.lookup f) (mA f)
  | .rng lo hi => ∃ t u v, h.get? a = some { cls := .type "range", data := .fields #[.int lo t, .int hi u, .int 1 v] }
  | .frz o u => h.get? a = some o ∧ ObjOk H h a u
  | .tbl ps => h.get? a = some { cls := .none, data := .fields ps }
  | .met f x => h.get? a = some (PySem.W.methodObj (.ref f) (.ref x))
  | .ext φ => φ h ∧ (∃ o, h.get? a = some o) ∧ ∀ h1 h2 : Heap, φ h1 → (∀ o, h1.get? a = some o → h2.get? a = some o) → φ h2
/-- the abstract heap is held -/
def HOk (H : Hp) (h : Heap) : Prop := ∀ a o, H a = some o → ObjOk P w H h a o
end

section
variable {P : Program} {w : World} {H H' : Hp} {h h' : Heap} {a : Addr} {o : HO}
theorem ObjOk.lt (x : ObjOk P w H h a o) : a < h.objs.size := by
  cases o with
  | lst xs => obtain ⟨_, _, _, _, e⟩ := x; exact Heap.lt_size e
  | tup xs => obtain ⟨_, _, _, p⟩ := x; exact p.lt
  | dK kvs => obtain ⟨_, _, _, _, o, _, _, e, _⟩ := x; exact Heap.lt_size e
  | dT kvs => obtain ⟨_, _, _, _, o, _, _, e, _⟩ := x; exact Heap.lt_size e
  | set S n => obtain ⟨o, _, _, _, e, _⟩ := x; exact Heap.lt_size e
  | ins C dx fs => obtain ⟨_, _, _, e, _⟩ := x; exact Heap.lt_size e
  | own y => obtain ⟨_, e⟩ := x; exact Heap.lt_size e
  | xd fs => obtain ⟨_, ⟨_, _, _, e, _⟩, _⟩ := x; exact Heap.lt_size e
  | rng lo hi => obtain ⟨_, _, _, e⟩ := x; exact Heap.lt_size e
  | frz ob u => obtain ⟨e, _⟩ := x; exact Heap.lt_size e
  | tbl ps => exact Heap.lt_size (show h.get? a = some _ from x)
  | met f y => exact Heap.lt_size (show h.get? a = some _ from x)
  | ext φ => obtain ⟨_, ⟨_, e⟩, _⟩ := x; exact Heap.lt_size e
theorem Paired.mapP {α β : Type} {F G : α → β → Prop} : ∀ {l₁ : List α} {l₂ : List β}, Paired F l₁ l₂ → (∀ a b, F a b → G a b) → Paired G l₁ l₂
  | _, _, .nil, _ => .nil
  | _, _, .cons r t, f => .cons (f _ _ r) (Paired.mapP t f)
theorem Paired.imp' {α β : Type} {F G : α → β → Prop} (f : ∀ a b, F a b → G a b) {l₁ : List α} {l₂ : List β} (r : Paired F l₁ l₂) : Paired G l₁ l₂ := Paired.mapP r f
/-- what an object's description leans on: its own object, its own dict, the tuples -/
theorem ObjOk.stay (x : ObjOk P w H h a o) (k : ∀ b u, (b = a ∨ H b = some (.own a)) → h.get? b = some u → h'.get? b = some u)
    (ho : ∀ b, H b = some (.own a) → H' b = some (.own a)) (ht : ∀ b xs, H b = some (.tup xs) → H' b = some (.tup xs)) : ObjOk P w H' h' a o := by
  induction o with
  | lst xs => obtain ⟨z, its, n, r, e⟩ := x; exact ⟨z, its, n, r, k _ _ (.inl rfl) e⟩
  | tup xs => obtain ⟨z, its, r, ob, e, c⟩ := x; exact ⟨z, its, r, ob, k _ _ (.inl rfl) e, c⟩
  | dK kvs => obtain ⟨z, y, vs, r, ob, es, ep, e, c⟩ := x; exact ⟨z, y, vs, r, ob, es, ep, k _ _ (.inl rfl) e, c⟩
  | dT kvs =>
    obtain ⟨z, y, xs, r, ob, es, ep, e, c⟩ := x
    exact ⟨z, y, xs, Paired.mapP r fun p q z => ⟨z.1, ht _ _ z.2.1, z.2.2⟩, ob, es, ep, k _ _ (.inl rfl) e, c⟩
  | set S n => obtain ⟨ob, es, ep, t, e, c⟩ := x; exact ⟨ob, es, ep, t, k _ _ (.inl rfl) e, c⟩
  | ins C dx fs =>
    obtain ⟨d, z, ne, e, mA, ⟨od, es, ep, e2, c⟩, r⟩ := x
    exact ⟨ho _ d, z, ne, k _ _ (.inl rfl) e, mA, ⟨od, es, ep, k _ _ (.inr d) e2, c⟩, r⟩
  | own y => obtain ⟨ob, e⟩ := x; exact ⟨ob, k _ _ (.inl rfl) e⟩
  | xd fs => obtain ⟨mA, ⟨od, es, ep, e, c⟩, r⟩ := x; exact ⟨mA, ⟨od, es, ep, k _ _ (.inl rfl) e, c⟩, r⟩
  | rng lo hi => obtain ⟨t, u, v, e⟩ := x; exact ⟨t, u, v, k _ _ (.inl rfl) e⟩
  | frz ob u ih => obtain ⟨e, q⟩ := x; exact ⟨k _ _ (.inl rfl) e, ih q⟩
  | tbl ps =>
    have e : h.get? a = some { cls := .none, data := .fields ps } := x
    show h'.get? a = some { cls := .none, data := .fields ps }
    exact k a _ (.inl rfl) e
  | met f y =>
    have e : h.get? a = some (PySem.W.methodObj (.ref f) (.ref y)) := x
    show h'.get? a = some (PySem.W.methodObj (.ref f) (.ref y))
    exact k a _ (.inl rfl) e
  | ext φ => obtain ⟨p, ⟨o, e⟩, st⟩ := x; exact ⟨st _ _ p fun o q => k _ _ (.inl rfl) q, ⟨o, k _ _ (.inl rfl) e⟩, st⟩
theorem HOk.lt (x : HOk P w H h) (e : H a = some o) : a < h.objs.size := (x a o e).lt
theorem HOk.fresh (x : HOk P w H h) (e : h.objs.size ≤ a) : H a = none := by
  cases q : H a with
  | none => rfl
  | some u => exact absurd (Nat.lt_of_lt_of_le (x.lt q) e) (Nat.lt_irrefl _)
/-- every object of the heap is kept -/
theorem HOk.kept (x : HOk P w H h) (k : ∀ b u, h.get? b = some u → h'.get? b = some u) : HOk P w H h' := fun a o e =>
  (x a o e).stay (fun b u _ q => k b u q) (fun _ q => q) fun _ _ q => q
/-- a new object is laid and tracked -/
theorem HOk.laid (x : HOk P w H h) (k : ∀ b u, h.get? b = some u → h'.get? b = some u) (hp : h.objs.size ≤ a) (new : ObjOk P w (upd H a o) h' a o) : HOk P w (upd H a o) h' := fun b u e => by
  have hn := x.fresh hp
  by_cases hb : b = a
  · subst hb; rw [upd_same] at e; cases e; exact new
  · rw [upd_ne hb] at e
    exact (x b u e).stay (fun c v _ q => k c v q) (fun c q => by rw [upd_ne (ne_of_none q hn)]; exact q) fun c xs q => by rw [upd_ne (ne_of_none q hn)]; exact q
end

/-- what may be read as u: it is u, or a known u -/
def Rd (H : Hp) (a : Addr) (u : HO) : Prop := H a = some u ∨ ∃ o, H a = some (.frz o u)
theorem Rd.of {H : Hp} {a : Addr} {u : HO} (h : H a = some u) : Rd H a u := .inl h
theorem Rd.ok {P : Program} {w : World} {H : Hp} {h : Heap} {a : Addr} {u : HO} (r : Rd H a u) (x : HOk P w H h) : ObjOk P w H h a u := by
  rcases r with r | ⟨o, r⟩
  · exact x a u r
  · obtain ⟨_, q⟩ := x a _ r
    exact q
/-- what may be written -/
def Mut : Option HO → Prop
  | some (.lst _) => True
  | some (.dK _) => True
  | some (.dT _) => True
  | some (.set _ _) => True
  | some (.ins _ _ _) => True
  | some (.ext _) => True
  | _ => False
section
variable {P : Program} {w : World} {H : Hp} {h h' : Heap} {x e : Addr} {o' : HO}
/-- the object at e is changed: x itself, or the dict of the instance x -/
theorem HOk.write (ok : HOk P w H h) (mu : Mut (H x)) (he : e = x ∨ H e = some (.own x)) (k : ∀ b u, b ≠ e → h.get? b = some u → h'.get? b = some u) (heo : ∃ u, h'.get? e = some u)
    (new : ObjOk P w (upd H x o') h' x o') : HOk P w (upd H x o') h' := fun b u q => by
  have nown : ∀ c y, H c = some (.own y) → c ≠ x := fun c y r z => by subst z; rw [r] at mu; exact mu
  have ntup : ∀ c xs, H c = some (.tup xs) → c ≠ x := fun c xs r z => by subst z; rw [r] at mu; exact mu
  by_cases hb : b = x
  · subst hb; rw [upd_same] at q; cases q; exact new
  · rw [upd_ne hb] at q
    by_cases hbe : b = e
    · have q' : H b = some (.own x) := by
        rcases he with z | z
        · exact absurd (hbe.trans z) hb
        · rw [hbe]; exact z
      rw [q] at q'; cases q'
      obtain ⟨v, hv⟩ := heo
      exact ⟨v, by rw [hbe]; exact hv⟩
    · refine (ok b u q).stay (fun c v hc r => k c v ?_ r) (fun c r => by rw [upd_ne (nown c b r)]; exact r) fun c xs r => by rw [upd_ne (ntup c xs r)]; exact r
      rcases hc with rfl | hc
      · exact hbe
      · rintro rfl
        rcases he with z | z
        · exact nown c b hc z
        · rw [hc] at z; cases z; exact hb rfl
end

/-! ### kept unless tracked; of the frames at fs (the callers') the slots may change (an exception that passes writes there); of the records at ex (iterators) nothing is said -/
structure Un (fs ex : List Addr) (H H' : Hp) (h h' : Heap) : Prop where
  keep : ∀ b o, h.get? b = some o → H b = none → b ∉ fs → b ∉ ex → h'.get? b = some o
  slot : ∀ b o, h.get? b = some o → H b = none → b ∈ fs → b ∉ ex → ∃ sl, h'.get? b = some { o with slots := sl }
  free : ∀ b o, h.get? b = some o → H b = none → b ∉ ex → H' b = none
  there : ∀ b o, h.get? b = some o → b ∉ ex → ∃ o', h'.get? b = some o'
  tups : ∀ b xs, H b = some (.tup xs) → H' b = some (.tup xs)
  frzs : ∀ b o u, H b = some (.frz o u) → H' b = some (.frz o u)
  tbls : ∀ b ps, H b = some (.tbl ps) → ∃ more, H' b = some (.tbl (ps ++ more))
section
variable {fs fs' ex ex' : List Addr} {H H1 H2 : Hp} {h h1 h2 h' : Heap} {a x e : Addr} {o : HO}
theorem Un.any (u : Un fs ex H H1 h h1) {b : Addr} {ob : Obj} (q : h.get? b = some ob) (n : H b = none) (hx : b ∉ ex) : ∃ sl, h1.get? b = some { ob with slots := sl } := by
  by_cases hb : b ∈ fs
  · exact u.slot b ob q n hb hx
  · exact ⟨ob.slots, u.keep b ob q n hb hx⟩
theorem Un.trans (a : Un fs ex H H1 h h1) (b : Un fs ex H1 H2 h1 h2) : Un fs ex H H2 h h2 where
  keep := fun c ob q n hc hx => b.keep c ob (a.keep c ob q n hc hx) (a.free c ob q n hx) hc hx
  slot := fun c ob q n hc hx => by
    obtain ⟨sl, e1⟩ := a.slot c ob q n hc hx
    obtain ⟨sl', e2⟩ := b.slot c _ e1 (a.free c ob q n hx) hc hx
    exact ⟨sl', e2⟩
  free := fun c ob q n hx => by
    obtain ⟨o', e1⟩ := a.there c ob q hx
    exact b.free c o' e1 (a.free c ob q n hx) hx
  there := fun c ob q hx => by
    obtain ⟨o', e1⟩ := a.there c ob q hx
    exact b.there c o' e1 hx
  tups := fun c xs q => b.tups c xs (a.tups c xs q)
  frzs := fun c ob xs q => b.frzs c ob xs (a.frzs c ob xs q)
  tbls := fun c ps q => by
    obtain ⟨m1, e1⟩ := a.tbls c ps q
    obtain ⟨m2, e2⟩ := b.tbls c _ e1
    exact ⟨m1 ++ m2, by rw [e2, Array.append_assoc]⟩
theorem Un.kept (k : ∀ b u, h.get? b = some u → h'.get? b = some u) : Un fs ex H H h h' :=
  ⟨fun b ob q _ _ _ => k b ob q, fun b ob q _ _ _ => ⟨ob.slots, k b ob q⟩, fun _ _ _ n _ => n, fun b ob q _ => ⟨ob, k b ob q⟩, fun _ _ q => q, fun _ _ _ q => q, fun _ ps q => ⟨#[], by rw [q]; simp⟩⟩
theorem Un.refl : Un fs ex H H h h := Un.kept fun _ _ q => q
theorem Un.laid (k : ∀ b u, h.get? b = some u → h'.get? b = some u) (hp : h.objs.size ≤ a) (hn : H a = none) : Un fs ex H (upd H a o) h h' where
  keep := fun b u q _ _ _ => k b u q
  slot := fun b u q _ _ _ => ⟨u.slots, k b u q⟩
  free := fun b u q n _ => by rw [upd_ne (Nat.ne_of_lt (Nat.lt_of_lt_of_le (Heap.lt_size q) hp))]; exact n
  there := fun b u q _ => ⟨u, k b u q⟩
  tups := fun b xs q => by rw [upd_ne (ne_of_none q hn)]; exact q
  frzs := fun b u xs q => by rw [upd_ne (ne_of_none q hn)]; exact q
  tbls := fun b ps q => ⟨#[], by rw [upd_ne (ne_of_none q hn), q]; simp⟩
theorem Un.write (mu : Mut (H x)) (he : e = x ∨ H e = some (.own x)) (k : ∀ b u, b ≠ e → h.get? b = some u → h'.get? b = some u) (heo : ∃ u, h'.get? e = some u) : Un fs ex H (upd H x o) h h' := by
  have hx : ∀ b, H b = none → b ≠ x := fun b n z => by subst z; rw [n] at mu; exact mu
  have hb : ∀ b, H b = none → b ≠ e := fun b n z => by
    subst z
    rcases he with r | r
    · exact hx b n r
    · rw [n] at r; cases r
  have hm : ∀ b u, H b = some u → ¬ Mut (some u) → b ≠ x := fun b u q nm z => by subst z; rw [q] at mu; exact nm mu
  refine ⟨fun b u q n _ _ => k b u (hb b n) q, fun b u q n _ _ => ⟨u.slots, k b u (hb b n) q⟩, fun b u q n _ => by rw [upd_ne (hx b n)]; exact n, fun b u q _ => ?_,
    fun b xs q => by rw [upd_ne (hm b _ q fun z => z)]; exact q, fun b u xs q => by rw [upd_ne (hm b _ q fun z => z)]; exact q, fun b ps q => ⟨#[], by rw [upd_ne (hm b _ q fun z => z), q]; simp⟩⟩
  by_cases hbe : b = e
  · subst hbe; exact heo
  · exact ⟨u, k b u hbe q⟩
theorem Un.mono (u : Un fs ex H H1 h h1) (hs : ∀ b ∈ fs, b ∈ fs') (hx : ∀ b ∈ ex, b ∈ ex') : Un fs' ex' H H1 h h1 :=
  ⟨fun b ob q n hb he => u.keep b ob q n (fun z => hb (hs b z)) fun z => he (hx b z), fun _ _ q n _ he => u.any q n fun z => he (hx _ z), fun b ob q n he => u.free b ob q n fun z => he (hx b z), fun b ob q he => u.there b ob q fun z => he (hx b z), u.tups, u.frzs, u.tbls⟩
end

/-! ### the heap without what is tracked -/
def trk (h : Heap) (H : Hp) : List Addr := (List.range h.objs.size).filter fun a => (H a).isSome
def hidT (h : Heap) (H : Hp) : Heap := PySem.W.hideAll h (trk h H)
theorem hidT_size (h : Heap) (H : Hp) : (hidT h H).objs.size = h.objs.size := PySem.W.hideAll_size _ _
theorem hidT_get {h : Heap} {H : Hp} {b : Addr} {o : Obj} (e : h.get? b = some o) (n : H b = none) : (hidT h H).get? b = some o :=
  PySem.W.hideAll_get _ e fun hm => by
    have q : (H b).isSome = true := (List.mem_filter.mp hm).2
    rw [n] at q; simp at q
theorem of_hidT {h : Heap} {H : Hp} {b : Addr} {o : Obj} (e : (hidT h H).get? b = some o) : h.get? b = some o ∧ H b = none := by
  have e' : h.get? b = some o := PySem.W.of_hideAll (trk h H) e
  refine ⟨e', ?_⟩
  cases q : H b with
  | none => rfl
  | some x =>
    have hm : b ∈ trk h H := List.mem_filter.mpr ⟨List.mem_range.mpr (Heap.lt_size e'), by simp [q]⟩
    have z : (hidT h H).get? b = none := PySem.W.hideAll_none (trk h H) hm
    rw [z] at e; cases e

/-! ### OpenK's ledger, filled with every new object but one -/
def allNews (g h : Heap) (L : Addr) : List (Addr × Obj) := (List.range h.objs.size).filterMap fun a => if a = L ∨ (g.get? a).isSome = true then none else (h.get? a).map fun o => (a, o)
theorem mem_allNews {g h : Heap} {L a : Addr} {o : Obj} (h1 : a ≠ L) (h2 : g.get? a = none) (h3 : h.get? a = some o) : (a, o) ∈ allNews g h L :=
  List.mem_filterMap.mpr ⟨a, List.mem_range.mpr (Heap.lt_size h3), by simp [h1, h2, h3]⟩
theorem of_mem_allNews {g h : Heap} {L : Addr} {p : Addr × Obj} (hp : p ∈ allNews g h L) : p.1 ≠ L ∧ g.get? p.1 = none ∧ h.get? p.1 = some p.2 := by
  obtain ⟨b, _, e⟩ := List.mem_filterMap.mp hp
  split at e
  · cases e
  · rename_i hn
    cases q : h.get? b with
    | none => rw [q] at e; simp at e
    | some u =>
      rw [q] at e
      simp only [Option.map_some, Option.some.injEq] at e
      subst e
      refine ⟨fun z => hn (.inl z), ?_, q⟩
      show g.get? b = none
      cases r : g.get? b with
      | none => rfl
      | some v => exact (hn (.inr (by simp [r]))).elim
def rest (g h : Heap) (L d : Addr) : List (Addr × Obj) := (allNews g h L).filter fun p => decide (p.1 ≠ d)
theorem rest_ne {g h : Heap} {L d : Addr} : ∀ p ∈ rest g h L d, p.1 ≠ d := fun p hp => of_decide_eq_true (List.mem_filter.mp hp).2
theorem mem_rest {g h : Heap} {L d a : Addr} {o : Obj} (h1 : a ≠ L) (h2 : g.get? a = none) (h3 : h.get? a = some o) (h4 : a ≠ d) : (a, o) ∈ rest g h L d :=
  List.mem_filter.mpr ⟨mem_allNews h1 h2 h3, decide_eq_true h4⟩
theorem news_all {g h : Heap} {L : Addr} : News g L h (allNews g h L) := fun p hp => let ⟨a, b, c⟩ := of_mem_allNews hp; ⟨c, a, b⟩
theorem news_at {g h : Heap} {L d : Addr} {o : Obj} (h1 : d ≠ L) (h2 : g.get? d = none) (h3 : h.get? d = some o) : News g L h ((d, o) :: rest g h L d) := fun p hp => by
  rcases List.mem_cons.mp hp with rfl | hp
  · exact ⟨h3, h1, h2⟩
  · exact news_all p (List.mem_filter.mp hp).1
/-- behind a rule that changed d alone: all else but the frame is kept -/
theorem kept_of_news {g h h' : Heap} {L d : Addr} {m : Str → Option Value} (k : ∀ b o, g.get? b = some o → h.get? b = some o) (F : Fr g L h' m) (N : News g L h' (rest g h L d)) :
    ∀ b o, b ≠ L → b ≠ d → h.get? b = some o → h'.get? b = some o := fun b o h1 h2 e => by
  cases q : g.get? b with
  | some u =>
    have := k b u q
    rw [e] at this; cases this
    exact F.keep b _ q
  | none => exact (N (b, o) (mem_rest h1 q e h2)).1
end L2

namespace L2
open PySem PySem.Spec PyProof.Rows

/-- the module's facts, over the base: the heap at the law's entry without what is tracked there -/
structure Mod (K : PySem.W.Frag) (mg : Str → Option Value) (base : Heap) : Prop where
  kin : K.In base
  glob : base.Ns mainGlobals mg
  blt : ∃ mb, base.Ns builtinsNs mb ∧ ∀ x : Str, x ≠ "__name__" → mb x = bootBuiltins x
  nolimit : base.NoLimit

/-- the context: a def's body (or a comprehension's block) running. base: fixed through the whole law; s₀, H₀: the entry; outer: the frames whose slots others may change (a def's callers); stack: all frames that run;
   ex: iterators that were made ahead of the entry and are walked here (a comprehension's); fn: the names whose cells were made at the entry (a def: all; a comprehension's block: its own); calm: not within an except suite; pn: pins that every state bears; xe: what is wanted of an exception that leaves the code -/
structure Cx where
  prog : Program
  w : World
  K : PySem.W.Frag
  mg : Str → Option Value
  base : Heap
  A : Around
  N : List Str
  s₀ : Shared
  H₀ : Hp
  env : Env
  outer : List Env
  stack : List Env
  ex : List Addr
  fn : Str → Bool
  calm : Bool
  pn : List (Addr × Obj)
  xe : Value → Shared → Prop
/-- the callers' frames -/
def frs (l : List Env) : List Addr := l.filterMap (·.frame)
abbrev Cx.fs (X : Cx) : List Addr := frs X.outer

def Vis (sc : Scope) (x : Str) : Prop := sc.names.lookup x = some .local ∨ sc.names.lookup x = some .cell ∨ sc.names.lookup x = some .free
def Loc (sc : Scope) (x : Str) : Prop := sc.names.lookup x = some .local ∨ sc.names.lookup x = some .cell
def Look (env : Env) (h : Heap) (m : Str → Option Value) (x : Str) (u : Value) : Prop :=
  (env.kindOf x = some .local ∧ m x = some u) ∨ ((env.kindOf x = some .cell ∨ env.kindOf x = some .free) ∧ ∃ c, env.cells.lookup x = some c ∧ h.IsCell c (some u))

structure Cx.Ok (X : Cx) : Prop where
  mod : Mod X.K X.mg X.base
  kind : X.env.scope.kind = .function
  glob : X.env.globals = mainGlobals
  blt : X.env.builtins = builtinsNs
  above : X.s₀.heap.objs.size ≤ X.env.locals
  inj : ∀ x y c, X.env.cells.lookup x = some c → X.env.cells.lookup y = some c → x = y
  has : ∀ x, (X.env.kindOf x = some .cell ∨ X.env.kindOf x = some .free) → ∃ c, X.env.cells.lookup x = some c
  cab : ∀ x c, X.fn x = true → X.env.cells.lookup x = some c → X.s₀.heap.objs.size ≤ c
  hd : X.calm = true → X.A.handled = none
  frames : X.A.frames = some X.stack
  stk : X.stack = X.outer ∨ (X.stack = X.env :: X.outer ∧ X.env.frame = some X.env.locals)
  exf : ∀ b ∈ X.ex, b ≠ X.env.locals ∧ ∀ x c, X.env.cells.lookup x = some c → c ≠ b
  bs : ∀ b o, X.base.get? b = some o → X.s₀.heap.get? b = some o ∧ X.H₀ b = none
  bsz : X.base.objs.size ≤ X.s₀.heap.objs.size
  noex : ∀ b o, X.base.get? b = some o → b ∉ X.ex
  exfs : ∀ b ∈ X.ex, b ∉ X.fs
  funs : X.s₀.heap.FunFrames X.base X.outer
  frf : ∀ b ∈ X.fs, X.H₀ b = none

structure Inv (X : Cx) (pins : List (Addr × Obj)) (σ : List (Option V)) (H : Hp) (s : Shared) : Prop where
  ok : X.Ok
  os : s.os = X.s₀.os
  bare : AllBare s.gens
  base : Un X.fs X.ex X.H₀ H X.s₀.heap s.heap
  loc : ∃ m, s.heap.Ns X.env.locals m ∧ ∀ (i : Nat) (x : Str) (v : V), X.N[i]? = some x → σ[i]? = some (some v) → Vis X.env.scope x → ∃ u, RelV v u ∧ Look X.env s.heap m x u
  cell : ∀ x c, X.env.cells.lookup x = some c → ∃ v, s.heap.IsCell c v
  free : H X.env.locals = none
  freeC : ∀ x c, X.env.cells.lookup x = some c → H c = none
  pin : ∀ p ∈ X.pn ++ pins, s.heap.get? p.1 = some p.2 ∧ H p.1 = none ∧ p.1 ≠ X.env.locals ∧ p.1 ∉ X.fs ∧ ∀ v, p.2.data ≠ .cell v
  hok : HOk X.prog X.w H s.heap
  len : σ.length = X.N.length

section
variable {X : Cx} {pins : List (Addr × Obj)} {σ : List (Option V)} {H H' : Hp} {s : Shared} {h' : Heap}

theorem Cx.Ok.nofr (ok : X.Ok) {b : Addr} {o : Obj} (e : X.base.get? b = some o) : b ∉ X.fs := fun hb => by
  have := (ok.funs.mem hb).1
  rw [e] at this; cases this
theorem Inv.bs (I : Inv X pins σ H s) : ∀ b o, X.base.get? b = some o → s.heap.get? b = some o ∧ H b = none := fun b o e =>
  ⟨I.base.keep b o (I.ok.bs b o e).1 (I.ok.bs b o e).2 (I.ok.nofr e) (I.ok.noex b o e), I.base.free b o (I.ok.bs b o e).1 (I.ok.bs b o e).2 (I.ok.noex b o e)⟩
theorem Inv.bk (I : Inv X pins σ H s) : ∀ b o, X.base.get? b = some o → s.heap.get? b = some o := fun b o e => (I.bs b o e).1
theorem Inv.mod (I : Inv X pins σ H s) : Mod X.K X.mg X.base := I.ok.mod
theorem Inv.kIn (I : Inv X pins σ H s) : X.K.In s.heap := I.ok.mod.kin.keeps I.bk
theorem Inv.nolimit (I : Inv X pins σ H s) : s.heap.NoLimit := I.ok.mod.nolimit.keeps I.bk
/-- the frame over the base: for OpenK's rules (K.In X.base is I.mod.kin) -/
theorem Inv.fr (I : Inv X pins σ H s) : ∃ m, Fr X.base X.env.locals s.heap m :=
  let ⟨m, hn, _⟩ := I.loc
  ⟨m, hn, I.bk, Nat.le_trans I.ok.bsz I.ok.above⟩
theorem Inv.lt (I : Inv X pins σ H s) : X.env.locals < s.heap.objs.size := let ⟨_, hn, _⟩ := I.loc; hn.lt
theorem Inv.sz (I : Inv X pins σ H s) : X.s₀.heap.objs.size ≤ s.heap.objs.size := Nat.le_trans I.ok.above (Nat.le_of_lt I.lt)
theorem Inv.nofs (I : Inv X pins σ H s) {a : Addr} (h : s.heap.objs.size ≤ a) : a ∉ X.fs := fun hb => by
  obtain ⟨_, o, ho, _⟩ := I.ok.funs.mem hb
  exact absurd (Nat.lt_of_lt_of_le (Heap.lt_size ho) (Nat.le_trans I.sz h)) (Nat.lt_irrefl _)
theorem Inv.cne (I : Inv X pins σ H s) : ∀ x c, X.env.cells.lookup x = some c → c ≠ X.env.locals := fun x c e z => by
  obtain ⟨v, o, ho, hd⟩ := I.cell x c e
  obtain ⟨m, ⟨o', es, ep, ho', hd', _⟩, _⟩ := I.loc
  rw [z, ho'] at ho; cases ho; rw [hd'] at hd; cases hd
theorem Inv.funs (I : Inv X pins σ H s) : s.heap.FunFrames X.base X.outer := by
  have all : ∀ (l : List Env), (∀ b ∈ frs l, b ∈ X.fs) → X.s₀.heap.FunFrames X.base l → s.heap.FunFrames X.base l := by
    intro l
    induction l with
    | nil => intro _ _; trivial
    | cons env r ih =>
      intro hs hl
      obtain ⟨hk, ⟨L, o, hf, hn, ho, hd⟩, hr⟩ := hl
      have hL : L ∈ X.fs := hs L (by unfold frs; rw [List.filterMap_cons, hf]; exact List.mem_cons_self)
      obtain ⟨sl, e⟩ := I.base.slot L o ho (I.ok.frf L hL) hL fun z => I.ok.exfs L z hL
      exact ⟨hk, ⟨L, _, hf, hn, e, hd⟩, ih (fun b hb => hs b (by unfold frs; rw [List.filterMap_cons, hf]; exact List.mem_cons_of_mem _ hb)) hr⟩
  exact all X.outer (fun _ hb => hb) I.ok.funs

/-- the frames that run, for a call -/
theorem Inv.stack (I : Inv X pins σ H s) : s.heap.FunFrames X.base X.stack := by
  rcases I.ok.stk with e | ⟨e, hf⟩
  · rw [e]; exact I.funs
  · rw [e]
    obtain ⟨m, hn, _⟩ := I.loc
    refine .cons (by rw [I.ok.kind]; decide) hf hn ?_ I.funs
    exact Heap.get?_none_of_le (Nat.le_trans I.ok.bsz I.ok.above)
theorem Inv.stkSub (I : Inv X pins σ H s) : ∀ b ∈ frs X.stack, b ∈ X.env.locals :: X.fs := fun b hb => by
  rcases I.ok.stk with e | ⟨e, hf⟩
  · rw [e] at hb; exact List.mem_cons_of_mem _ hb
  · rw [e] at hb
    unfold frs at hb
    rw [List.filterMap_cons, hf] at hb
    exact hb
theorem Inv.stkFree (I : Inv X pins σ H s) : ∀ b ∈ frs X.stack, H b = none := fun b hb => by
  rcases List.mem_cons.mp (I.stkSub b hb) with e | hb
  · rw [e]; exact I.free
  · obtain ⟨_, o, ho, _⟩ := I.ok.funs.mem hb
    exact I.base.free b o ho (I.ok.frf b hb) fun z => I.ok.exfs b z hb

/-- THE STEP: the untracked objects but the frame and the records at ch are kept (the callers' frames up to slots), the frame's map is kept, the new abstract heap is held -/
theorem Inv.step {g' : Array GenState} {t' : Nat} {d' : Drawn} {ch : List Addr} (I : Inv X pins σ H s)
    (hch : ∀ b ∈ ch, (b ∈ X.ex ∨ X.s₀.heap.objs.size ≤ b) ∧ b ≠ X.env.locals ∧ (∀ x c, X.env.cells.lookup x = some c → c ≠ b) ∧ ∀ p ∈ X.pn ++ pins, p.1 ≠ b)
    (keep : ∀ b o, b ≠ X.env.locals → b ∉ X.fs → b ∉ ch → s.heap.get? b = some o → H b = none → h'.get? b = some o)
    (slot : ∀ b o, b ≠ X.env.locals → b ∈ X.fs → b ∉ ch → s.heap.get? b = some o → H b = none → ∃ sl, h'.get? b = some { o with slots := sl }) (free : ∀ b o, b ∉ ch → s.heap.get? b = some o → H b = none → H' b = none)
    (there : ∀ b o, b ∉ ch → s.heap.get? b = some o → ∃ o', h'.get? b = some o')
    (tups : ∀ b xs, H b = some (.tup xs) → H' b = some (.tup xs)) (frzs : ∀ b o u, H b = some (.frz o u) → H' b = some (.frz o u)) (tbls : ∀ b ps, H b = some (.tbl ps) → ∃ more, H' b = some (.tbl (ps ++ more)))
    (ns : ∀ m, s.heap.Ns X.env.locals m → h'.Ns X.env.locals m) (hok : HOk X.prog X.w H' h') (hg : AllBare g') :
    Inv X pins σ H' { s with heap := h', gens := g', drawn := d', toks := t' } := by
  have neL : ∀ b o, X.s₀.heap.get? b = some o → b ≠ X.env.locals := fun b o e => Nat.ne_of_lt (Nat.lt_of_lt_of_le (Heap.lt_size e) I.ok.above)
  have neC : ∀ b o, X.s₀.heap.get? b = some o → b ∉ X.ex → b ∉ ch := fun b o e hx hb => by
    rcases (hch b hb).1 with z | z
    · exact hx z
    · exact absurd (Nat.lt_of_lt_of_le (Heap.lt_size e) z) (Nat.lt_irrefl _)
  have cellK : ∀ x c, X.env.cells.lookup x = some c → ∀ v, s.heap.IsCell c v → h'.IsCell c v := fun x c e v ⟨o, ho, hd⟩ => by
    have nch : c ∉ ch := fun z => (hch c z).2.2.1 x c e rfl
    by_cases hc : c ∈ X.fs
    · obtain ⟨sl, q⟩ := slot c o (I.cne x c e) hc nch ho (I.freeC x c e)
      exact ⟨_, q, hd⟩
    · exact ⟨o, keep c o (I.cne x c e) hc nch ho (I.freeC x c e), hd⟩
  refine ⟨I.ok, I.os, hg, ⟨fun b o e n hb hx => ?_, fun b o e n hb hx => ?_, fun b o e n hx => ?_, fun b o e hx => ?_, fun b xs e => tups b xs (I.base.tups b xs e), fun b o xs e => frzs b o xs (I.base.frzs b o xs e), fun b ps e => ?_⟩, ?_, fun x c e => ?_, ?_, fun x c e => ?_, fun p hp => ?_, hok, I.len⟩
  · exact keep b o (neL b o e) hb (neC b o e hx) (I.base.keep b o e n hb hx) (I.base.free b o e n hx)
  · obtain ⟨sl, e1⟩ := I.base.slot b o e n hb hx
    obtain ⟨sl', e2⟩ := slot b _ (neL b o e) hb (neC b o e hx) e1 (I.base.free b o e n hx)
    exact ⟨sl', e2⟩
  · obtain ⟨o', e1⟩ := I.base.there b o e hx
    exact free b o' (neC b o e hx) e1 (I.base.free b o e n hx)
  · obtain ⟨o', e1⟩ := I.base.there b o e hx
    exact there b o' (neC b o e hx) e1
  · obtain ⟨m1, e1⟩ := I.base.tbls b ps e
    obtain ⟨m2, e2⟩ := tbls b _ e1
    exact ⟨m1 ++ m2, by rw [e2, Array.append_assoc]⟩
  · obtain ⟨m, hn, hl⟩ := I.loc
    refine ⟨m, ns m hn, fun i x v e1 e2 e3 => ?_⟩
    obtain ⟨u, r, l⟩ := hl i x v e1 e2 e3
    refine ⟨u, r, ?_⟩
    rcases l with l | ⟨k, c, e, z⟩
    · exact .inl l
    · exact .inr ⟨k, c, e, cellK x c e _ z⟩
  · obtain ⟨v, z⟩ := I.cell x c e
    exact ⟨v, cellK x c e v z⟩
  · obtain ⟨m, ⟨o, _, _, ho, _⟩, _⟩ := I.loc
    exact free _ o (fun z => (hch _ z).2.1 rfl) ho I.free
  · obtain ⟨v, o, ho, hd⟩ := I.cell x c e
    exact free c o (fun z => (hch c z).2.2.1 x c e rfl) ho (I.freeC x c e)
  · obtain ⟨e, n, ne, nf, d⟩ := I.pin p hp
    have nch : p.1 ∉ ch := fun z => (hch p.1 z).2.2.2 p hp rfl
    exact ⟨keep p.1 p.2 ne nf nch e n, free p.1 p.2 nch e n, ne, nf, d⟩
/-- .. where the frame's own object is kept too -/
theorem Inv.un {t' : Nat} (I : Inv X pins σ H s) (u : Un X.fs [] H H' s.heap h') (hok : HOk X.prog X.w H' h') : Inv X pins σ H' { s with heap := h', toks := t' } := by
  obtain ⟨m, ⟨o, es, ep, ho, r⟩, _⟩ := id I.loc
  obtain ⟨sl, hL⟩ := u.any ho I.free (by simp)
  exact I.step (g' := s.gens) (d' := s.drawn) (ch := []) (fun _ z => nomatch z) (fun b o _ hb _ e n => u.keep b o e n hb (by simp)) (fun b o _ hb _ e n => u.slot b o e n hb (by simp)) (fun b o _ e n => u.free b o e n (by simp)) (fun b o _ e => u.there b o e (by simp)) u.tups u.frzs u.tbls (fun m' hm => by
    obtain ⟨o', es', ep', ho', r'⟩ := hm
    rw [ho] at ho'; cases ho'
    exact ⟨_, es', ep', hL, r'⟩) hok I.bare
/-- behind a call (or a comprehension's block): the slots of this frame may have changed too, the records at ch may have turned -/
theorem Inv.call {g' : Array GenState} {t' : Nat} {d' : Drawn} {ch : List Addr} (I : Inv X pins σ H s) (u : Un (frs X.stack) ch H H' s.heap h') (hok : HOk X.prog X.w H' h') (hg : AllBare g')
    (hch : ∀ b ∈ ch, (b ∈ X.ex ∨ X.s₀.heap.objs.size ≤ b) ∧ b ≠ X.env.locals ∧ (∀ x c, X.env.cells.lookup x = some c → c ≠ b) ∧ ∀ p ∈ X.pn ++ pins, p.1 ≠ b) :
    Inv X pins σ H' { s with heap := h', gens := g', drawn := d', toks := t' } := by
  obtain ⟨m, ⟨o, es, ep, ho, r⟩, _⟩ := id I.loc
  obtain ⟨sl, hL⟩ := u.any ho I.free fun z => (hch _ z).2.1 rfl
  exact I.step (ch := ch) hch (fun b o hL hb hc e n => u.keep b o e n (fun z => (List.mem_cons.mp (I.stkSub b z)).elim hL hb) hc) (fun b o _ _ hc e n => u.any e n hc) (fun b o hc e n => u.free b o e n hc) (fun b o hc e => u.there b o e hc) u.tups u.frzs u.tbls (fun m' hm => by
    obtain ⟨o', es', ep', ho', r'⟩ := hm
    rw [ho] at ho'; cases ho'
    exact ⟨_, es', ep', hL, r'⟩) hok hg
/-- an untracked record of ours (an iterator) has turned -/
theorem Inv.turned {t' : Nat} {it : Addr} (I : Inv X pins σ H s) (k : ∀ b o, b ≠ it → s.heap.get? b = some o → h'.get? b = some o) (hn : H it = none) (hL : it ≠ X.env.locals)
    (h1 : it ∈ X.ex ∨ X.s₀.heap.objs.size ≤ it) (h2 : ∀ x c, X.env.cells.lookup x = some c → c ≠ it) (h3 : ∀ p ∈ X.pn ++ pins, p.1 ≠ it) : Inv X pins σ H { s with heap := h', toks := t' } := by
  have nit : ∀ b u, H b = some u → b ≠ it := fun b u e z => by rw [z, hn] at e; cases e
  refine I.step (g' := s.gens) (d' := s.drawn) (ch := [it]) (fun b hb => ?_) (fun b o _ _ hc e _ => k b o (fun z => hc (by simp [z])) e) (fun b o _ _ hc e _ => ⟨o.slots, k b o (fun z => hc (by simp [z])) e⟩) (fun _ _ _ _ n => n)
    (fun b o hc e => ⟨o, k b o (fun z => hc (by simp [z])) e⟩) (fun _ _ e => e) (fun _ _ _ e => e) (fun b ps e => ⟨#[], by rw [e]; simp⟩) (fun m hm => ?_) (fun b u e => ?_) I.bare
  · have e : b = it := by simpa using hb
    subst e
    exact ⟨h1, hL, h2, h3⟩
  · obtain ⟨o, es, ep, ho, r⟩ := hm
    exact ⟨o, es, ep, k _ o (Ne.symm hL) ho, r⟩
  · refine (I.hok b u e).stay (fun c v hc q => k c v ?_ q) (fun _ q => q) fun _ _ q => q
    rcases hc with z | z
    · rw [z]; exact nit b u e
    · exact nit c _ z
theorem Inv.tok (I : Inv X pins σ H s) (t : Nat) : Inv X pins σ H { s with toks := t } := I.un (h' := s.heap) (t' := t) Un.refl I.hok
/-- all objects kept -/
theorem Inv.kept {t' : Nat} (I : Inv X pins σ H s) (k : ∀ b u, s.heap.get? b = some u → h'.get? b = some u) : Inv X pins σ H { s with heap := h', toks := t' } := I.un (Un.kept k) (I.hok.kept k)
/-- a new object laid and tracked -/
theorem Inv.laid {a : Addr} {o : HO} {t' : Nat} (I : Inv X pins σ H s) (k : ∀ b u, s.heap.get? b = some u → h'.get? b = some u) (hp : s.heap.objs.size ≤ a) (new : ObjOk X.prog X.w (upd H a o) h' a o) :
    Inv X pins σ (upd H a o) { s with heap := h', toks := t' } := I.un (Un.laid k hp (I.hok.fresh hp)) (I.hok.laid k hp new)
/-- an object written -/
theorem Inv.write {x e : Addr} {o : HO} {t' : Nat} (I : Inv X pins σ H s) (mu : Mut (H x)) (he : e = x ∨ H e = some (.own x)) (k : ∀ b u, b ≠ e → s.heap.get? b = some u → h'.get? b = some u) (heo : ∃ u, h'.get? e = some u)
    (new : ObjOk X.prog X.w (upd H x o) h' x o) : Inv X pins σ (upd H x o) { s with heap := h', toks := t' } := I.un (Un.write mu he k heo) (I.hok.write mu he k heo new)
/-- forgetting slots, pins -/
theorem Inv.weak {σ' : List (Option V)} (I : Inv X pins σ H s) (hl : σ'.length = σ.length) (w : ∀ (i : Nat) v, σ'[i]? = some (some v) → σ[i]? = some (some v)) : Inv X pins σ' H s :=
  ⟨I.ok, I.os, I.bare, I.base, let ⟨m, hn, hl'⟩ := I.loc; ⟨m, hn, fun i x v e1 e2 e3 => hl' i x v e1 (w i v e2) e3⟩, I.cell, I.free, I.freeC, I.pin, I.hok, hl.trans I.len⟩
theorem Inv.pins_of {pins' : List (Addr × Obj)} (I : Inv X pins σ H s) (h : ∀ p ∈ pins', s.heap.get? p.1 = some p.2 ∧ H p.1 = none ∧ p.1 ≠ X.env.locals ∧ p.1 ∉ X.fs ∧ ∀ v, p.2.data ≠ .cell v) : Inv X pins' σ H s :=
  ⟨I.ok, I.os, I.bare, I.base, I.loc, I.cell, I.free, I.freeC, fun p hp => (List.mem_append.mp hp).elim (fun z => I.pin p (List.mem_append_left _ z)) (h p), I.hok, I.len⟩

theorem nodup_ix {N : List Str} (hN : N.Nodup) {i j : Nat} {x : Str} (a : N[i]? = some x) (b : N[j]? = some x) : i = j := by
  obtain ⟨h1, e1⟩ := List.getElem?_eq_some_iff.mp a
  obtain ⟨h2, e2⟩ := List.getElem?_eq_some_iff.mp b
  exact (List.getElem_inj hN).mp (e1.trans e2.symm)

/-- a name is stored; what changed -/
theorem store_ok2 {M : Model} {A : Around} {E : Value → Shared → Prop} {i : Nat} {x : Str} {v : V} {u : Value} {Q : Unit → Shared → Prop} (I : Inv X pins σ H s) (hN : X.N.Nodup) (hi : X.N[i]? = some x) (hx : Loc X.env.scope x) (r : RelV v u)
    (h : ∀ s', Inv X pins (σ.set i (some v)) H s' → (∃ a, Heap.SameBut a s.heap s'.heap ∧ (a = X.env.locals ∨ X.env.cells.lookup x = some a)) → Q () s') (hf : X.fn x = true ∨ X.env.scope.names.lookup x = some .local := by first | exact .inl rfl | exact .inr rfl | assumption) : wpAny M A (storeName X.env x u) Q E s := by
  obtain ⟨m, hn, hl⟩ := id I.loc
  have hcls : (X.env.scope.kind == .class || (X.env.scope.kind == .module && X.env.locals != X.env.globals)) = false := by rw [I.ok.kind]; rfl
  have hiσ : i < σ.length := by rw [I.len]; exact (List.getElem?_eq_some_iff.mp hi).1
  have cne := I.cne
  have tracked : ∀ {a : Addr} {h' : Heap}, (∃ o, s.heap.get? a = some o ∧ H a = none) → Heap.SameBut a s.heap h' → HOk X.prog X.w H h' := fun {a h'} ha hs b ob e => by
    obtain ⟨_, _, hfree⟩ := ha
    refine (I.hok b ob e).stay (fun c w' hc q => (hs.2 c ?_).trans q) (fun _ q => q) fun _ _ q => q
    rintro rfl
    rcases hc with rfl | hc
    · rw [hfree] at e; cases e
    · rw [hfree] at hc; cases hc
  rcases hx with hk | hk
  · refine wpAny_storeName_local hk hn (fun h' hn' hs => ?_) hcls
    obtain ⟨oL, _, _, hoL, _⟩ := id hn
    refine h _ ⟨I.ok, I.os, I.bare, ⟨fun b o e n hb hx => ?_, fun b o e n hb hx => ?_, I.base.free, fun b o e hx => ?_, I.base.tups, I.base.frzs, I.base.tbls⟩, ⟨_, hn', fun j y v' e1 e2 e3 => ?_⟩, fun y c e => ?_, I.free, I.freeC, fun p hp => ?_, tracked ⟨oL, hoL, I.free⟩ hs, by simpa using I.len⟩ ⟨_, hs, .inl rfl⟩
    · exact (hs.2 b (Nat.ne_of_lt (Nat.lt_of_lt_of_le (Heap.lt_size e) I.ok.above))).trans (I.base.keep b o e n hb hx)
    · obtain ⟨sl, e1⟩ := I.base.slot b o e n hb hx
      exact ⟨sl, (hs.2 b (Nat.ne_of_lt (Nat.lt_of_lt_of_le (Heap.lt_size e) I.ok.above))).trans e1⟩
    · obtain ⟨o', e1⟩ := I.base.there b o e hx
      exact ⟨o', (hs.2 b (Nat.ne_of_lt (Nat.lt_of_lt_of_le (Heap.lt_size e) I.ok.above))).trans e1⟩
    · by_cases hj : j = i
      · subst hj
        rw [hi] at e1; cases e1
        rw [List.getElem?_set_self hiσ] at e2
        cases e2
        exact ⟨u, r, .inl ⟨hk, by simp⟩⟩
      · rw [List.getElem?_set_ne (Ne.symm hj)] at e2
        obtain ⟨u', r', q⟩ := hl j y v' e1 e2 e3
        refine ⟨u', r', ?_⟩
        rcases q with ⟨k, e⟩ | ⟨k, c, e, z⟩
        · refine .inl ⟨k, ?_⟩
          have : y ≠ x := fun e => hj (nodup_ix hN e1 (e ▸ hi))
          simp [this, e]
        · exact .inr ⟨k, c, e, z.sameBut hs (cne y c e)⟩
    · obtain ⟨w', z⟩ := I.cell y c e
      exact ⟨w', z.sameBut hs (cne y c e)⟩
    · obtain ⟨e, n, ne, nf, d⟩ := I.pin p hp
      exact ⟨(hs.2 p.1 ne).trans e, n, ne, nf, d⟩
  · have hfn : X.fn x = true := by
      rcases hf with z | z
      · exact z
      · rw [z] at hk; cases hk
    obtain ⟨c, hc⟩ := I.ok.has x (.inl hk)
    obtain ⟨w', z⟩ := I.cell x c hc
    refine wpAny_storeName_cell I.ok.kind hk hc z (fun h' hc' hs => ?_)
    obtain ⟨oc, hoc, hocd⟩ := id z
    refine h { s with heap := h' } ⟨I.ok, I.os, I.bare, ⟨fun b o e n hb hx => ?_, fun b o e n hb hx => ?_, I.base.free, fun b o e hx => ?_, I.base.tups, I.base.frzs, I.base.tbls⟩, ⟨m, hn.sameBut hs (Ne.symm (cne x c hc)), fun j y v' e1 e2 e3 => ?_⟩, fun y c' e => ?_, I.free, I.freeC, fun p hp => ?_, tracked ⟨oc, hoc, I.freeC x c hc⟩ hs, by simpa using I.len⟩ ⟨c, hs, .inr hc⟩
    · exact (hs.2 b (Nat.ne_of_lt (Nat.lt_of_lt_of_le (Heap.lt_size e) (I.ok.cab x c hfn hc)))).trans (I.base.keep b o e n hb hx)
    · obtain ⟨sl, e1⟩ := I.base.slot b o e n hb hx
      exact ⟨sl, (hs.2 b (Nat.ne_of_lt (Nat.lt_of_lt_of_le (Heap.lt_size e) (I.ok.cab x c hfn hc)))).trans e1⟩
    · obtain ⟨o', e1⟩ := I.base.there b o e hx
      exact ⟨o', (hs.2 b (Nat.ne_of_lt (Nat.lt_of_lt_of_le (Heap.lt_size e) (I.ok.cab x c hfn hc)))).trans e1⟩
    · by_cases hj : j = i
      · subst hj
        rw [hi] at e1; cases e1
        rw [List.getElem?_set_self hiσ] at e2
        cases e2
        exact ⟨u, r, .inr ⟨.inl hk, c, hc, hc'⟩⟩
      · rw [List.getElem?_set_ne (Ne.symm hj)] at e2
        obtain ⟨u', r', q⟩ := hl j y v' e1 e2 e3
        refine ⟨u', r', ?_⟩
        rcases q with q | ⟨k, c', e, z'⟩
        · exact .inl q
        · refine .inr ⟨k, c', e, z'.sameBut hs ?_⟩
          rintro rfl
          exact hj (nodup_ix hN e1 (I.ok.inj _ _ _ e hc ▸ hi))
    · by_cases hcc : c' = c
      · subst hcc; exact ⟨_, hc'⟩
      · obtain ⟨w2, z2⟩ := I.cell y c' e
        exact ⟨w2, z2.sameBut hs hcc⟩
    · obtain ⟨e, n, ne, nf, d⟩ := I.pin p hp
      refine ⟨(hs.2 p.1 ?_).trans e, n, ne, nf, d⟩
      intro q
      rw [q, hoc] at e
      have q' : oc = p.2 := Option.some.inj e
      exact d w' (by rw [← q']; exact hocd)
theorem store_ok {M : Model} {A : Around} {E : Value → Shared → Prop} {i : Nat} {x : Str} {v : V} {u : Value} {Q : Unit → Shared → Prop} (I : Inv X pins σ H s) (hN : X.N.Nodup) (hi : X.N[i]? = some x) (hx : Loc X.env.scope x) (r : RelV v u)
    (h : ∀ s', Inv X pins (σ.set i (some v)) H s' → Q () s') (hf : X.fn x = true ∨ X.env.scope.names.lookup x = some .local := by first | exact .inl rfl | exact .inr rfl | assumption) : wpAny M A (storeName X.env x u) Q E s :=
  store_ok2 I hN hi hx r (fun s' I' _ => h s' I') hf
/-- behind a call or a block, the state as it is -/
theorem Inv.call' {s' : Shared} {ch : List Addr} (I : Inv X pins σ H s) (ho : s'.os = s.os) (u : Un (frs X.stack) ch H H' s.heap s'.heap) (hok : HOk X.prog X.w H' s'.heap) (hg : AllBare s'.gens)
    (hch : ∀ b ∈ ch, (b ∈ X.ex ∨ X.s₀.heap.objs.size ≤ b) ∧ b ≠ X.env.locals ∧ (∀ x c, X.env.cells.lookup x = some c → c ≠ b) ∧ ∀ p ∈ X.pn ++ pins, p.1 ≠ b) : Inv X pins σ H' s' := by
  obtain ⟨h', g', d', t', o'⟩ := s'
  have e : o' = s.os := ho
  subst e
  exact I.call (g' := g') (t' := t') (d' := d') u hok hg hch
end

/-! ### the judgements -/
/-- an exception: its class, its own dict's address (where it has one), the abstract heap behind it -/
abbrev XK := Value → Option Addr → Hp → Prop
abbrev St := List (Option V)
abbrev VK := V → Hp → Prop
/-- an expression's reading; a test's; an argument list's -/
abbrev TE := St → Hp → VK → Prop
abbrev TT := St → Hp → (Bool → Hp → Prop) → Prop
abbrev TA := St → Hp → (List V → Hp → Prop) → Prop
/-- what is wanted behind a statement -/
structure Ends where
  nx : St → Hp → Prop
  rt : VK
  bk : St → Hp → Prop := fun _ _ => False
  ct : St → Hp → Prop := fun _ _ => False
abbrev TS := Ends → St → Hp → Prop

def EP (X : Cx) (pins : List (Addr × Obj)) (σ : St) (Q : VK) (u : Value) (s' : Shared) : Prop := ∃ v H', Inv X pins σ H' s' ∧ RelV v u ∧ Q v H'
def TP (X : Cx) (pins : List (Addr × Obj)) (σ : St) (Q : Bool → Hp → Prop) (b : Bool) (s' : Shared) : Prop := ∃ H', Inv X pins σ H' s' ∧ Q b H'
def AP (X : Cx) (pins : List (Addr × Obj)) (σ : St) (Q : List V → Hp → Prop) (us : List Value) (s' : Shared) : Prop := ∃ vs H', Inv X pins σ H' s' ∧ Vals vs us ∧ Q vs H'
def SP (X : Cx) (pins : List (Addr × Obj)) (D : Ends) (f : Flow) (s' : Shared) : Prop :=
  match f with
  | .next => ∃ σ' H', Inv X pins σ' H' s' ∧ D.nx σ' H'
  | .brk => ∃ σ' H', Inv X pins σ' H' s' ∧ D.bk σ' H'
  | .cont => ∃ σ' H', Inv X pins σ' H' s' ∧ D.ct σ' H'
  | .ret u => ∃ v σ' H', Inv X pins σ' H' s' ∧ RelV v u ∧ D.rt v H'

def PE (X : Cx) (e : Expr) (t : TE) : Prop :=
  ∀ (pins : List (Addr × Obj)) (s : Shared) (σ : St) (H : Hp) (Q : VK), Inv X pins σ H s → t σ H Q → wpAny (model X.prog X.w) X.A (eval e X.env) (EP X pins σ Q) X.xe s
def PT (X : Cx) (e : Expr) (t : TT) : Prop :=
  ∀ (pins : List (Addr × Obj)) (s : Shared) (σ : St) (H : Hp) (Q : Bool → Hp → Prop), Inv X pins σ H s → t σ H Q → wpAny (model X.prog X.w) X.A (isTrue e X.env (eval e X.env)) (TP X pins σ Q) X.xe s
/-- a test whatever its 'whole' is (and, or) -/
def PW (X : Cx) (e : Expr) (t : TT) : Prop :=
  ∀ (whole : Sem Value) (pins : List (Addr × Obj)) (s : Shared) (σ : St) (H : Hp) (Q : Bool → Hp → Prop), Inv X pins σ H s → t σ H Q → wpAny (model X.prog X.w) X.A (isTrue e X.env whole) (TP X pins σ Q) X.xe s
theorem PW.pt {X : Cx} {e : Expr} {t : TT} (h : PW X e t) : PT X e t := h _
/-- an argument list (no star), from the left -/
def PA (X : Cx) (es : List Expr) (t : TA) : Prop :=
  ∀ (pos : Pos) (pins : List (Addr × Obj)) (s : Shared) (σ : St) (H : Hp) (Q : List V → Hp → Prop), Inv X pins σ H s → t σ H Q → wpAny (model X.prog X.w) X.A (spliced (backTo pos (starEach es X.env))) (AP X pins σ Q) X.xe s
def PS (X : Cx) (st : Stmt) (t : TS) : Prop :=
  ∀ (pins : List (Addr × Obj)) (s : Shared) (σ : St) (H : Hp) (D : Ends), Inv X pins σ H s → t D σ H → wpAny (model X.prog X.w) X.A (exec st X.env) (SP X pins D) X.xe s
def PSs (X : Cx) (st : List Stmt) (t : TS) : Prop :=
  ∀ (pins : List (Addr × Obj)) (s : Shared) (σ : St) (H : Hp) (D : Ends), Inv X pins σ H s → t D σ H → wpAny (model X.prog X.w) X.A (execs st X.env) (SP X pins D) X.xe s
/-- weaken the end -/
theorem thn {α : Type} {t : Sem α} {Q Q' : α → Shared → Prop} {M : Model} {A : Around} {E : Value → Shared → Prop} {s : Shared} (h : wpAny M A t Q E s) (hQ : ∀ a s, Q a s → Q' a s) : wpAny M A t Q' E s := wpAny_mono h hQ fun _ _ x => x
end L2

namespace L2
open PySem PySem.Spec PyProof.Rows
section
variable {X : Cx}

/-- two expressions in a row -/
theorem bin {a b : Expr} {ta tb : TE} (ha : PE X a ta) (hb : PE X b tb) {pins : List (Addr × Obj)} {s : Shared} {σ : St} {H : Hp} {R : V → V → Hp → Prop} (I : Inv X pins σ H s) (h : ta σ H fun x H1 => tb σ H1 fun y H2 => R x y H2)
    {α : Type} {Q : α → Shared → Prop} {f : Value → Value → Sem α}
    (hf : ∀ v u s2 x y H2, Inv X pins σ H2 s2 → RelV x v → RelV y u → R x y H2 → wpAny (model X.prog X.w) X.A (f v u) Q X.xe s2) :
    wpAny (model X.prog X.w) X.A (eval a X.env) (fun v s₁ => wpAny (model X.prog X.w) X.A (eval b X.env) (fun u s₂ => wpAny (model X.prog X.w) X.A (f v u) Q X.xe s₂) X.xe s₁) X.xe s := by
  refine thn (ha pins s σ H _ I h) fun v s1 ⟨x, H1, I1, r1, q1⟩ => ?_
  refine thn (hb pins s1 σ H1 _ I1 q1) fun u s2 ⟨y, H2, I2, r2, q2⟩ => ?_
  exact hf v u s2 x y H2 I2 r1 r2 q2

/-! ### names and constants -/
def tVar (i : Nat) : TE := fun σ H Q => ∃ v, σ[i]? = some (some v) ∧ Q v H
def tC (v : V) : TE := fun _ H Q => Q v H
theorem pe_var {i : Nat} {x : Str} {pos : Pos} (hN : X.N[i]? = some x) (hv : Vis X.env.scope x) (hd : (x == ("__debug__" : Str)) = false := by decide) (hcd : (x == ("__classdict__" : Str)) = false := by decide) : PE X (.Name x pos) (tVar i) := by
  intro pins s σ H Q I h
  obtain ⟨v, e, h⟩ := h
  obtain ⟨m, hn, hl⟩ := I.loc
  obtain ⟨u, r, l⟩ := hl i x v hN e hv
  have fin : EP X pins σ Q u s := ⟨v, H, I, r, h⟩
  rcases l with ⟨hk, hm⟩ | ⟨hk, c, hc, hcell⟩
  · exact wpAny_Name (wpAny_loadName_local I.ok.kind hk hn hm fin) hd
  · rcases hk with hk | hk
    · exact wpAny_Name (wpAny_loadName_cell I.ok.kind hk hc hcell fin) hd
    · exact wpAny_Name (wpAny_loadName_free I.ok.kind hk hc hcell fin hcd) hd
theorem pe_int {i j pos} : PE X (.Constant (.int i) j pos) (tC (.int i)) := fun _ _ _ H _ I h => wpAny_Constant_int ⟨.int i, H, I.tok _, ⟨_, rfl⟩, h⟩
theorem pe_bl {b j pos} : PE X (.Constant (.bool b) j pos) (tC (.bl b)) := fun _ _ _ H _ I h => Constant_bool ⟨.bl b, H, I, rfl, h⟩
theorem pe_non {j pos} : PE X (.Constant .none j pos) (tC .non) := fun _ _ _ H _ I h => Constant_none ⟨.non, H, I, rfl, h⟩
theorem pe_str {x j pos} : PE X (.Constant (.str x) j pos) (tC (.str x)) := fun _ _ _ H _ I h => Calls.Constant_str ⟨.str x, H, I.tok _, ⟨_, rfl⟩, h⟩

/-- a global name of the def -/
def Gl (X : Cx) (x : Str) : Prop := X.env.kindOf x = some .globalImplicit
theorem ld_glob {E : Value → Shared → Prop} {pins : List (Addr × Obj)} {s : Shared} {σ : St} {H : Hp} {x : Str} {u : Value} {pos : Pos} {Q : Value → Shared → Prop} (I : Inv X pins σ H s) (hg : Gl X x) (hm : X.mg x = some u) (h : Q u s)
    (hd : (x == ("__debug__" : Str)) = false := by decide) : wpAny (model X.prog X.w) X.A (eval (.Name x pos) X.env) Q E s :=
  Calls.Name_function_global I.ok.kind hg (Calls.loadGlobal_global (by rw [I.ok.glob]; exact I.mod.glob.keeps I.bk) hm h) hd
theorem ld_blt {E : Value → Shared → Prop} {pins : List (Addr × Obj)} {s : Shared} {σ : St} {H : Hp} {x : Str} {u : Value} {pos : Pos} {Q : Value → Shared → Prop} (I : Inv X pins σ H s) (hg : Gl X x) (hm : X.mg x = none) (hv : bootBuiltins x = some u) (h : Q u s)
    (hn : x ≠ "__name__" := by decide) (hd : (x == ("__debug__" : Str)) = false := by decide) : wpAny (model X.prog X.w) X.A (eval (.Name x pos) X.env) Q E s := by
  obtain ⟨mb, h1, h2⟩ := I.mod.blt
  exact Calls.Name_function_global I.ok.kind hg (Calls.loadGlobal_builtin (by rw [I.ok.glob]; exact I.mod.glob.keeps I.bk) hm (by rw [I.ok.blt]; exact h1.keeps I.bk) ((h2 x hn).trans hv) h) hd
/-- a module's constant, a class, a function, as a value -/
theorem pe_glob {x : Str} {v : V} {u : Value} {pos : Pos} (hg : Gl X x) (hm : X.mg x = some u) (r : RelV v u) (hd : (x == ("__debug__" : Str)) = false := by decide) : PE X (.Name x pos) (tC v) :=
  fun _ _ _ H _ I h => ld_glob I hg hm ⟨v, H, I, r, h⟩ hd
theorem pe_bltn {x : Str} {v : V} {u : Value} {pos : Pos} (hg : Gl X x) (hm : X.mg x = none) (hv : bootBuiltins x = some u) (r : RelV v u) (hn : x ≠ "__name__" := by decide) (hd : (x == ("__debug__" : Str)) = false := by decide) : PE X (.Name x pos) (tC v) :=
  fun _ _ _ H _ I h => ld_blt I hg hm hv ⟨v, H, I, r, h⟩ hn hd

/-! ### arithmetic -/
/-- two ints -/
def t2I (ta tb : TE) (k : Int → Int → Hp → Prop) : St → Hp → Prop := fun σ H => ta σ H fun x H1 => tb σ H1 fun y H2 => ∃ i j, x = .int i ∧ y = .int j ∧ k i j H2
def tAdd (ta tb : TE) : TE := fun σ H Q => t2I ta tb (fun i j H2 => Q (.int (i + j)) H2) σ H
def tSub (ta tb : TE) : TE := fun σ H Q => t2I ta tb (fun i j H2 => Q (.int (i - j)) H2) σ H
/-- the left factor below 2^64 -/
def tMul (ta tb : TE) : TE := fun σ H Q => t2I ta tb (fun i j H2 => (-(2 ^ 64) < i ∧ i < 2 ^ 64) ∧ Q (.int (i * j)) H2) σ H
variable {a b : Expr} {ta tb : TE} {pos : Pos}
theorem pe_add (ha : PE X a ta) (hb : PE X b tb) : PE X (.BinOp a .Add b pos) (tAdd ta tb) := by
  intro pins s σ H Q I h
  refine wpAny_BinOp (bin ha hb I h fun v u s2 x y H2 I2 rx ry q => ?_)
  obtain ⟨i, j, rfl, rfl, q⟩ := q
  obtain ⟨t, rfl⟩ := rx
  obtain ⟨t', rfl⟩ := ry
  exact add_int ⟨.int _, H2, I2.tok _, ⟨_, rfl⟩, q⟩
theorem pe_sub (ha : PE X a ta) (hb : PE X b tb) : PE X (.BinOp a .Sub b pos) (tSub ta tb) := by
  intro pins s σ H Q I h
  refine wpAny_BinOp (bin ha hb I h fun v u s2 x y H2 I2 rx ry q => ?_)
  obtain ⟨i, j, rfl, rfl, q⟩ := q
  obtain ⟨t, rfl⟩ := rx
  obtain ⟨t', rfl⟩ := ry
  exact sub_int ⟨.int _, H2, I2.tok _, ⟨_, rfl⟩, q⟩
theorem pe_mul (ha : PE X a ta) (hb : PE X b tb) : PE X (.BinOp a .Mult b pos) (tMul ta tb) := by
  intro pins s σ H Q I h
  refine wpAny_BinOp (bin ha hb I h fun v u s2 x y H2 I2 rx ry q => ?_)
  obtain ⟨i, j, rfl, rfl, ⟨q1, q2⟩, q⟩ := q
  obtain ⟨t, rfl⟩ := rx
  obtain ⟨t', rfl⟩ := ry
  exact mul_int ⟨.int _, H2, I2.tok _, ⟨_, rfl⟩, q⟩ (.of_left (intBits_le_64 q1 q2))

/-! ### comparisons -/
def PC (X : Cx) (op : CmpOp) (a b : Expr) (t : TE) : Prop :=
  ∀ (pins : List (Addr × Obj)) (s : Shared) (σ : St) (H : Hp) (Q : VK), Inv X pins σ H s → t σ H Q →
    wpAny (model X.prog X.w) X.A (eval a X.env) (fun v s₁ => wpAny (model X.prog X.w) X.A (eval b X.env) (fun u s₂ => wpAny (model X.prog X.w) X.A (compareOp op v u) (EP X pins σ Q) X.xe s₂) X.xe s₁) X.xe s
theorem nobehind (b : Expr) {op : CmpOp} (h : op ≠ .In) (h2 : op ≠ .NotIn) : behindInMarks op b = false := by
  have e1 : (op == CmpOp.In) = false := by cases op <;> first | rfl | exact absurd rfl h
  have e2 : (op == CmpOp.NotIn) = false := by cases op <;> first | rfl | exact absurd rfl h2
  cases b <;> simp [behindInMarks, e1, e2]
def tCmp (p : Int → Int → Bool) (ta tb : TE) : TE := fun σ H Q => t2I ta tb (fun i j H2 => Q (.bl (p i j)) H2) σ H
abbrev tLt : TE → TE → TE := tCmp fun i j => decide (i < j)
abbrev tLe : TE → TE → TE := tCmp fun i j => decide (i ≤ j)
abbrev tGt : TE → TE → TE := tCmp fun i j => decide (j < i)
abbrev tGe : TE → TE → TE := tCmp fun i j => decide (j ≤ i)
abbrev tEqI : TE → TE → TE := tCmp fun i j => decide (i = j)
abbrev tNeI : TE → TE → TE := tCmp fun i j => !decide (i = j)
/-- a comparison of two ints, by its rule -/
theorem pc_int {op : CmpOp} {p : Int → Int → Bool} (ha : PE X a ta) (hb : PE X b tb)
    (rule : ∀ (i j : Int) (t u : Tok) (Q : Value → Shared → Prop) (s : Shared), Q (.bool (p i j)) s → wpAny (model X.prog X.w) X.A (compareOp op (.int i t) (.int j u)) Q X.xe s) : PC X op a b (tCmp p ta tb) := by
  intro pins s σ H Q I h
  refine bin ha hb I h fun v u s2 x y H2 I2 rx ry q => ?_
  obtain ⟨i, j, rfl, rfl, q⟩ := q
  obtain ⟨t, rfl⟩ := rx
  obtain ⟨t', rfl⟩ := ry
  exact rule i j t t' _ s2 ⟨.bl _, H2, I2, rfl, q⟩
theorem pc_lt (ha : PE X a ta) (hb : PE X b tb) : PC X .Lt a b (tLt ta tb) := pc_int ha hb fun _ _ _ _ _ _ h => lt_int h
theorem pc_le (ha : PE X a ta) (hb : PE X b tb) : PC X .LtE a b (tLe ta tb) := pc_int ha hb fun _ _ _ _ _ _ h => le_int h
theorem pc_gt (ha : PE X a ta) (hb : PE X b tb) : PC X .Gt a b (tGt ta tb) := pc_int ha hb fun _ _ _ _ _ _ h => gt_int h
theorem pc_ge (ha : PE X a ta) (hb : PE X b tb) : PC X .GtE a b (tGe ta tb) := pc_int ha hb fun _ _ _ _ _ _ h => ge_int h
theorem pc_eqI (ha : PE X a ta) (hb : PE X b tb) : PC X .Eq a b (tEqI ta tb) := pc_int ha hb fun _ _ _ _ _ _ h => eq_int (by rw [Bool.beq_eq_decide_eq]; exact h)
theorem pc_neI (ha : PE X a ta) (hb : PE X b tb) : PC X .NotEq a b (tNeI ta tb) := pc_int ha hb fun _ _ _ _ _ _ h => ne_int (by rw [bne, Bool.beq_eq_decide_eq]; exact h)
/-- is None -/
def tIsN (ta : TE) : TE := fun σ H Q => ta σ H fun x H1 => Q (.bl (decide (x = .non))) H1
def tNotN (ta : TE) : TE := fun σ H Q => ta σ H fun x H1 => Q (.bl (!decide (x = .non))) H1
theorem RelV.none_iff {x : V} {v : Value} (r : RelV x v) : (v == Value.none) = decide (x = .non) := by
  cases x with
  | non => cases r; rfl
  | bl _ => cases r; rfl
  | int _ => obtain ⟨t, rfl⟩ := r; rfl
  | str _ => obtain ⟨t, rfl⟩ := r; rfl
  | byt _ => obtain ⟨t, rfl⟩ := r; rfl
  | flt _ => obtain ⟨t, rfl⟩ := r; rfl
  | ref _ => cases r; rfl
  | ty _ => cases r; rfl
theorem pc_isN {j pos'} (ha : PE X a ta) : PC X .Is a (.Constant .none j pos') (tIsN ta) := by
  intro pins s σ H Q I h
  refine thn (ha pins s σ H _ I h) fun v s1 ⟨x, H1, I1, r1, q1⟩ => ?_
  exact Constant_none (is_none_gen ⟨.bl _, H1, I1, by rw [r1.none_iff]; rfl, q1⟩)
theorem pc_notN {j pos'} (ha : PE X a ta) : PC X .IsNot a (.Constant .none j pos') (tNotN ta) := by
  intro pins s σ H Q I h
  refine thn (ha pins s σ H _ I h) fun v s1 ⟨x, H1, I1, r1, q1⟩ => ?_
  exact Constant_none (isnot_none_gen ⟨.bl _, H1, I1, by rw [r1.none_iff]; rfl, q1⟩)
/-- a comparison as a value, as a test -/
def tB (t : TE) : TT := fun σ H Q => t σ H fun x H1 => ∃ c, x = .bl c ∧ Q c H1
theorem pe_cmp {op : CmpOp} {t : TE} (h : PC X op a b t) (h1 : behindInMarks op b = false := by first | exact nobehind _ (by decide) (by decide) | rfl) : PE X (.Compare a [op] [b] pos) t := fun pins s σ H Q I hw => wpAny_Compare1 (h pins s σ H Q I hw) h1
theorem pt_cmp {op : CmpOp} {t : TE} (h : PC X op a b t) (h1 : behindInMarks op b = false := by first | exact nobehind _ (by decide) (by decide) | rfl) : PT X (.Compare a [op] [b] pos) (tB t) := by
  intro pins s σ H Q I hw
  refine wpAny_isTrue_Compare1 (thn (h pins s σ H _ I hw) fun v s1 h1 => thn h1 fun u s2 h2 => thn h2 fun c s3 ⟨x, H1, I1, r1, q1⟩ => ?_) h1
  obtain ⟨d, rfl, q⟩ := q1
  cases r1
  exact wpAny_truthy_bool ⟨H1, I1, q⟩
/-- an expression whose value is a bool, as a test -/
theorem pt_val {e : Expr} {t : TE} (h : PE X e t) (he : ∀ whole, isTrue e X.env whole = (do let v ← whole; standAt e.pos; holding [v] (truthy v)) := by intro _; rfl) : PT X e (tB t) := by
  intro pins s σ H Q I hw
  refine isTrue_plain (thn (h pins s σ H _ I hw) fun v s1 ⟨x, H1, I1, r1, q1⟩ => ?_) (he _)
  obtain ⟨d, rfl, q⟩ := q1
  cases r1
  exact wpAny_truthy_bool ⟨H1, I1, q⟩

/-! ### and, or, not -/
variable {tA tB' : TT} {rest : List Expr}
def tAnd (t u : TT) : TT := fun σ H Q => t σ H fun c H1 => if c = true then u σ H1 Q else Q false H1
def tOr (t u : TT) : TT := fun σ H Q => t σ H fun c H1 => if c = true then Q true H1 else u σ H1 Q
def tNot (t : TT) : TT := fun σ H Q => t σ H fun c H1 => Q (!c) H1
theorem pw_and1 (ha : PT X a tA) : PW X (.BoolOp .And [a] pos) tA := by
  intro wh pins s σ H Q I h
  refine isTrue_and (thn (ha pins s σ H Q I h) fun c s1 e => ?_)
  cases c with
  | true => exact isTrue_and_nil e
  | false => exact e
theorem pw_or1 (ha : PT X a tA) : PW X (.BoolOp .Or [a] pos) tA := by
  intro wh pins s σ H Q I h
  refine isTrue_or (thn (ha pins s σ H Q I h) fun c s1 e => ?_)
  cases c with
  | false => exact isTrue_or_nil e
  | true => exact e
theorem pw_and (ha : PT X a tA) (hb : PW X (.BoolOp .And (b :: rest) pos) tB') : PW X (.BoolOp .And (a :: b :: rest) pos) (tAnd tA tB') := by
  intro wh pins s σ H Q I h
  refine isTrue_and (thn (ha pins s σ H _ I h) fun c s1 ⟨H1, I1, q1⟩ => ?_)
  cases c with
  | true => exact hb wh pins s1 σ H1 Q I1 q1
  | false => exact ⟨H1, I1, q1⟩
theorem pw_or (ha : PT X a tA) (hb : PW X (.BoolOp .Or (b :: rest) pos) tB') : PW X (.BoolOp .Or (a :: b :: rest) pos) (tOr tA tB') := by
  intro wh pins s σ H Q I h
  refine isTrue_or (thn (ha pins s σ H _ I h) fun c s1 ⟨H1, I1, q1⟩ => ?_)
  cases c with
  | true => exact ⟨H1, I1, q1⟩
  | false => exact hb wh pins s1 σ H1 Q I1 q1
theorem pt_not (ha : PT X a tA) : PT X (.UnaryOp .Not a pos) (tNot tA) := by
  intro pins s σ H Q I h
  exact isTrue_not (ha pins s σ H (fun c H1 => Q (!c) H1) I h)
/-- .. as values (bools) -/
def tAndV (ta tb : TE) : TE := fun σ H Q => ta σ H fun x H1 => ∃ c, x = .bl c ∧ if c = true then tb σ H1 Q else Q (.bl false) H1
def tOrV (ta tb : TE) : TE := fun σ H Q => ta σ H fun x H1 => ∃ c, x = .bl c ∧ if c = true then Q (.bl true) H1 else tb σ H1 Q
def tNotV (ta : TE) : TE := fun σ H Q => ta σ H fun x H1 => ∃ c, x = .bl c ∧ Q (.bl (!c)) H1
theorem pe_one {op} {t : TE} (h : PE X a t) : PE X (.BoolOp op [a] pos) t := fun pins s σ H Q I hw => BoolOp_one (h pins s σ H Q I hw)
theorem pe_and (ha : PE X a ta) (hb : PE X (.BoolOp .And (b :: rest) pos) tb) : PE X (.BoolOp .And (a :: b :: rest) pos) (tAndV ta tb) := by
  intro pins s σ H Q I h
  refine BoolOp_and (thn (ha pins s σ H _ I h) fun v s1 ⟨x, H1, I1, r1, q1⟩ => ?_)
  obtain ⟨c, rfl, q1⟩ := q1
  cases r1
  refine wpAny_truthy_bool ?_
  cases c with
  | true => exact hb pins s1 σ H1 Q I1 q1
  | false => exact ⟨.bl false, H1, I1, rfl, q1⟩
theorem pe_or (ha : PE X a ta) (hb : PE X (.BoolOp .Or (b :: rest) pos) tb) : PE X (.BoolOp .Or (a :: b :: rest) pos) (tOrV ta tb) := by
  intro pins s σ H Q I h
  refine BoolOp_or (thn (ha pins s σ H _ I h) fun v s1 ⟨x, H1, I1, r1, q1⟩ => ?_)
  obtain ⟨c, rfl, q1⟩ := q1
  cases r1
  refine wpAny_truthy_bool ?_
  cases c with
  | false => exact hb pins s1 σ H1 Q I1 q1
  | true => exact ⟨.bl true, H1, I1, rfl, q1⟩
theorem pe_not (ha : PE X a ta) : PE X (.UnaryOp .Not a pos) (tNotV ta) := by
  intro pins s σ H Q I h
  refine UnaryOp_ (thn (ha pins s σ H _ I h) fun v s1 ⟨x, H1, I1, r1, q1⟩ => ?_)
  obtain ⟨c, rfl, q1⟩ := q1
  cases r1
  exact not_of (wpAny_truthy_bool ⟨.bl (!c), H1, I1, rfl, q1⟩)
/-- a if t else b -/
def tIf (t : TT) (ta tb : TE) : TE := fun σ H Q => t σ H fun c H1 => if c = true then ta σ H1 Q else tb σ H1 Q
theorem pe_ifExp {c : Expr} (hc : PT X c tA) (ha : PE X a ta) (hb : PE X b tb) : PE X (.IfExp c a b pos) (tIf tA ta tb) := by
  intro pins s σ H Q I h
  refine wpAny_IfExp (thn (hc pins s σ H _ I h) fun d s1 ⟨H1, I1, q1⟩ => ?_)
  cases d with
  | true => exact ha pins s1 σ H1 Q I1 q1
  | false => exact hb pins s1 σ H1 Q I1 q1
end
end L2

namespace L2
open PySem PySem.Spec PyProof.Rows

/-! ### a list, a tuple that is read: tracked, frozen, or an object of the module -/
def SqL (K : PySem.W.Frag) (H : Hp) (a : Addr) (xs : List V) : Prop :=
  Rd H a (.lst xs) ∨
    ∃ (o : Obj) (its : Array Value) (n : Nat), K.lookup a = some o ∧ o.cls = .type "list" ∧ o.dict = none ∧ o.data = .seq its n ∧ its.size ≤ sizeLine ∧ Vals xs its.toList
def SqT (K : PySem.W.Frag) (H : Hp) (a : Addr) (xs : List V) : Prop :=
  Rd H a (.tup xs) ∨
    ∃ (o : Obj) (its : Array Value) (n : Nat), K.lookup a = some o ∧ o.cls = .type "tuple" ∧ o.data = .seq its n ∧ its.size ≤ sizeLine ∧ Vals xs its.toList
def absV : Value → Option V
  | .none => some .non
  | .bool b => some (.bl b)
  | .int i _ => some (.int i)
  | .str x _ => some (.str x)
  | .bytes b _ => some (.byt b)
  | .float b _ => some (.flt b)
  | .ref a => some (.ref a)
  | .type n => some (.ty n)
  | _ => none
theorem RelV.abs {x : V} {u : Value} (r : RelV x u) : absV u = some x := by
  cases x with
  | non => cases r; rfl
  | bl _ => cases r; rfl
  | int _ => obtain ⟨t, rfl⟩ := r; rfl
  | str _ => obtain ⟨t, rfl⟩ := r; rfl
  | byt _ => obtain ⟨t, rfl⟩ := r; rfl
  | flt _ => obtain ⟨t, rfl⟩ := r; rfl
  | ref _ => cases r; rfl
  | ty _ => cases r; rfl
theorem RelV.inj {x y : V} {u : Value} (r : RelV x u) (q : RelV y u) : x = y := Option.some.inj (r.abs.symm.trans q.abs)
theorem Vals.inj : ∀ {xs ys : List V} {us : List Value}, Vals xs us → Vals ys us → xs = ys
  | _, _, _, .nil, .nil => rfl
  | _, _, _, .cons r t, .cons r' t' => by rw [r.inj r', Vals.inj t t']
section
variable {X : Cx} {pins : List (Addr × Obj)} {σ : St} {H : Hp} {s : Shared} {a : Addr} {xs ys : List V}
theorem SqL.of {K : PySem.W.Frag} (h : H a = some (.lst xs)) : SqL K H a xs := .inl (.inl h)
theorem SqT.of {K : PySem.W.Frag} (h : H a = some (.tup xs)) : SqT K H a xs := .inl (.inl h)
theorem Inv.list (I : Inv X pins σ H s) (h : SqL X.K H a xs) : ∃ its : List Value, Vals xs its ∧ PlainL s.heap a its.toArray ∧ xs.length ≤ sizeLine := by
  rcases h with h | ⟨o, its, n, hk, hc, hd, hs, hz, r⟩
  · obtain ⟨z, its, n, r, e⟩ := h.ok I.hok
    exact ⟨its, r, ⟨_, n, e, rfl, rfl, rfl⟩, z⟩
  · refine ⟨its.toList, r, ⟨o, n, I.kIn a o hk, hc, hd, by simpa using hs⟩, ?_⟩
    have e := r.length
    simp only [Array.length_toList] at e
    omega
theorem Inv.tuple (I : Inv X pins σ H s) (h : SqT X.K H a xs) : ∃ its : List Value, Vals xs its ∧ IsTup s.heap a its.toArray ∧ xs.length ≤ sizeLine := by
  rcases h with h | ⟨o, its, n, hk, hc, hs, hz, r⟩
  · obtain ⟨z, its, r, p⟩ := h.ok I.hok
    exact ⟨its, r, p, z⟩
  · refine ⟨its.toList, r, ⟨o, I.kIn a o hk, hc, n, by simpa using hs⟩, ?_⟩
    have e := r.length
    simp only [Array.length_toList] at e
    omega
theorem Inv.list_inj (I : Inv X pins σ H s) (h : SqL X.K H a xs) (h' : SqL X.K H a ys) : xs = ys := by
  obtain ⟨its, r, ⟨o, n, e, _, _, d⟩, _⟩ := I.list h
  obtain ⟨its', r', ⟨o', n', e', _, _, d'⟩, _⟩ := I.list h'
  rw [e] at e'; cases e'
  rw [d] at d'
  injection d' with d1 _
  have : its = its' := by simpa using congrArg Array.toList d1
  subst this
  exact r.inj r'
theorem Inv.tuple_inj (I : Inv X pins σ H s) (h : SqT X.K H a xs) (h' : SqT X.K H a ys) : xs = ys := by
  obtain ⟨its, r, ⟨o, e, _, n, d⟩, _⟩ := I.tuple h
  obtain ⟨its', r', ⟨o', e', _, n', d'⟩, _⟩ := I.tuple h'
  rw [e] at e'; cases e'
  rw [d] at d'
  injection d' with d1 _
  have : its = its' := by simpa using congrArg Array.toList d1
  subst this
  exact r.inj r'
end

/-! ### another wish about exceptions -/
abbrev Cx.wish (X : Cx) (E : Value → Shared → Prop) : Cx := { X with xe := E }
/-- no exception leaves -/
abbrev Cx.nox (X : Cx) : Cx := X.wish fun _ _ => False
theorem Cx.Ok.wish {X : Cx} (ok : X.Ok) (E : Value → Shared → Prop) : (X.wish E).Ok :=
  ⟨ok.mod, ok.kind, ok.glob, ok.blt, ok.above, ok.inj, ok.has, ok.cab, ok.hd, ok.frames, ok.stk, ok.exf, ok.bs, ok.bsz, ok.noex, ok.exfs, ok.funs, ok.frf⟩
theorem Cx.Ok.unwish {X : Cx} {E : Value → Shared → Prop} (ok : (X.wish E).Ok) : X.Ok :=
  ⟨ok.mod, ok.kind, ok.glob, ok.blt, ok.above, ok.inj, ok.has, ok.cab, ok.hd, ok.frames, ok.stk, ok.exf, ok.bs, ok.bsz, ok.noex, ok.exfs, ok.funs, ok.frf⟩
section
variable {X : Cx} {pins : List (Addr × Obj)} {σ : St} {H : Hp} {s : Shared} {E : Value → Shared → Prop}
theorem Inv.wish (I : Inv X pins σ H s) (E : Value → Shared → Prop) : Inv (X.wish E) pins σ H s := ⟨I.ok.wish E, I.os, I.bare, I.base, I.loc, I.cell, I.free, I.freeC, I.pin, I.hok, I.len⟩
theorem Inv.unwish (I : Inv (X.wish E) pins σ H s) : Inv X pins σ H s := ⟨I.ok.unwish, I.os, I.bare, I.base, I.loc, I.cell, I.free, I.freeC, I.pin, I.hok, I.len⟩
theorem SP.unwish {D : Ends} {f : Flow} {s' : Shared} (h : SP (X.wish E) pins D f s') : SP X pins D f s' := by
  cases f with
  | next => obtain ⟨σ', H', I, q⟩ := h; exact ⟨σ', H', I.unwish, q⟩
  | brk => obtain ⟨σ', H', I, q⟩ := h; exact ⟨σ', H', I.unwish, q⟩
  | cont => obtain ⟨σ', H', I, q⟩ := h; exact ⟨σ', H', I.unwish, q⟩
  | ret u => obtain ⟨v, σ', H', I, r, q⟩ := h; exact ⟨v, σ', H', I.unwish, r, q⟩
theorem PE.nox {e : Expr} {t : TE} (h : PE X.nox e t) : PE X e t := fun pins s σ H Q I hw =>
  wpAny_mono (h pins s σ H Q (I.wish _) hw) (fun _ _ ⟨v, H', I', r, q⟩ => ⟨v, H', I'.unwish, r, q⟩) fun _ _ z => False.elim z
theorem PT.nox {e : Expr} {t : TT} (h : PT X.nox e t) : PT X e t := fun pins s σ H Q I hw =>
  wpAny_mono (h pins s σ H Q (I.wish _) hw) (fun _ _ ⟨H', I', q⟩ => ⟨H', I'.unwish, q⟩) fun _ _ z => False.elim z
theorem PSs.nox {st : List Stmt} {t : TS} (h : PSs X.nox st t) : PSs X st t := fun pins s σ H D I hw =>
  wpAny_mono (h pins s σ H D (I.wish _) hw) (fun _ _ q => q.unwish) fun _ _ z => False.elim z
end

/-! ### blocks and small statements -/
section
variable {X : Cx} {st : Stmt} {rest : List Stmt} {t u : TS} {e : Expr} {te : TE} {pos : Pos}
def tNext : TS := fun D σ H => D.nx σ H
def tSeq (t u : TS) : TS := fun D σ H => t { D with nx := u D } σ H
theorem pss_nil : PSs X [] tNext := fun _ _ σ H _ I h => wpAny_execs_nil ⟨σ, H, I, h⟩
theorem pss_cons (h1 : PS X st t) (h2 : PSs X rest u) : PSs X (st :: rest) (tSeq t u) := by
  intro pins s σ H D I h
  refine wpAny_execs_cons (thn (h1 pins s σ H { D with nx := u D } I h) fun f s1 q => ?_)
  cases f with
  | next =>
    obtain ⟨σ', H', I', q⟩ := q
    exact h2 pins s1 σ' H' D I' q
  | ret v => exact q
  | brk => exact q
  | cont => exact q
theorem pss_one (h1 : PS X st t) : PSs X [st] t := by
  intro pins s σ H D I h
  refine wpAny_execs_cons (thn (h1 pins s σ H D I h) fun f s1 q => ?_)
  cases f with
  | next => exact wpAny_execs_nil q
  | ret v => exact q
  | brk => exact q
  | cont => exact q
def tBreak : TS := fun D σ H => D.bk σ H
def tCont : TS := fun D σ H => D.ct σ H
theorem ps_pass : PS X (.Pass pos) tNext := fun _ _ σ H _ I h => wpAny_Pass ⟨σ, H, I, h⟩
theorem ps_break : PS X (.Break pos) tBreak := fun _ _ σ H _ I h => wpAny_Break ⟨σ, H, I, h⟩
theorem ps_continue : PS X (.Continue pos) tCont := fun _ _ σ H _ I h => wpAny_Continue ⟨σ, H, I, h⟩
/-- in a def's body nothing is shown -/
theorem Inv.quiet {pins : List (Addr × Obj)} {σ : St} {H : Hp} {s : Shared} (I : Inv X pins σ H s) : interactive X.env = false := by simp [interactive, I.ok.kind]
/-- a docstring -/
theorem ps_doc {x j pos pos'} : PS X (.Expr (.Constant (.str x) j pos) pos') tNext := fun _ s σ H _ I h => wpAny_Expr (Calls.Constant_str (show SP X _ _ .next { s with toks := s.toks + 1 } from ⟨σ, H, I.tok _, h⟩)) I.quiet
/-- an expression whose value is dropped -/
def tDrop (te : TE) : TS := fun D σ H => te σ H fun _ H1 => D.nx σ H1
theorem ps_expr (he : PE X e te) (hs : swapsWith e none pos.line X.env = pure false := by rfl) : PS X (.Expr e pos) (tDrop te) := by
  intro pins s σ H D I h
  exact wpAny_Expr_any (thn (he pins s σ H _ I h) fun v s1 ⟨x, H1, I1, r1, q1⟩ => ⟨σ, H1, I1, q1⟩) I.quiet hs
def tRet (te : TE) : TS := fun D σ H => te σ H D.rt
theorem ps_ret (he : PE X e te) : PS X (.Return (some e) pos) (tRet te) := by
  intro pins s σ H D I h
  exact wpAny_Return_some (thn (he pins s σ H _ I h) fun v s1 ⟨x, H1, I1, r1, q1⟩ => ⟨x, σ, H1, I1, r1, q1⟩)
def tRetN : TS := fun D _ H => D.rt .non H
theorem ps_retN : PS X (.Return none pos) tRetN := fun _ _ σ H _ I h => wpAny_Return_none ⟨.non, σ, H, I, rfl, h⟩
def tIfS (c : TT) (t u : TS) : TS := fun D σ H => c σ H fun b H1 => if b = true then t D σ H1 else u D σ H1
theorem ps_if {c : Expr} {a b : List Stmt} {tc : TT} (hc : PT X c tc) (ha : PSs X a t) (hb : PSs X b u) : PS X (.If c a b pos) (tIfS tc t u) := by
  intro pins s σ H D I h
  refine wpAny_If (thn (hc pins s σ H _ I h) fun d s1 ⟨H1, I1, q1⟩ => ?_)
  cases d with
  | true => exact ha pins s1 σ H1 D I1 q1
  | false => exact hb pins s1 σ H1 D I1 q1
/-- code that the proof never comes to -/
def tNever : TS := fun _ _ _ => False
theorem ps_never : PS X st tNever := fun _ _ _ _ _ _ h => h.elim
theorem pss_never {sts : List Stmt} : PSs X sts tNever := fun _ _ _ _ _ _ h => h.elim
end

/-! ### targets -/
abbrev TG := V → St → Hp → (St → Hp → Prop) → Prop
abbrev TGs := List V → St → Hp → (St → Hp → Prop) → Prop
def PG (X : Cx) (target : Expr) (t : TG) : Prop :=
  ∀ (pins : List (Addr × Obj)) (s : Shared) (σ : St) (H : Hp) (v : V) (u : Value) (Q : St → Hp → Prop), Inv X pins σ H s → RelV v u → t v σ H Q →
    wpAny (model X.prog X.w) X.A (assign target X.env u) (fun _ s' => ∃ σ' H', Inv X pins σ' H' s' ∧ Q σ' H') X.xe s
/-- several targets, one after another -/
def PGs (X : Cx) (ts : List Expr) (t : TGs) : Prop :=
  ∀ (pins : List (Addr × Obj)) (s : Shared) (σ : St) (H : Hp) (vs : List V) (us : List Value) (Q : St → Hp → Prop), Inv X pins σ H s → Vals vs us → t vs σ H Q →
    wpAny (model X.prog X.w) X.A (assignInOrder ((assignEach ts X.env).map (·.2)) us) (fun _ s' => ∃ σ' H', Inv X pins σ' H' s' ∧ Q σ' H') X.xe s
/-- o[i] = v, by values -/
abbrev TSet := V → V → V → Hp → (Hp → Prop) → Prop
def PSet (X : Cx) (t : TSet) : Prop :=
  ∀ (pins : List (Addr × Obj)) (s : Shared) (σ : St) (H : Hp) (o i v : V) (ov iv u : Value) (Q : Hp → Prop), Inv X pins σ H s → RelV o ov → RelV i iv → RelV v u → t o i v H Q →
    wpAny (model X.prog X.w) X.A (setItem ov iv u) (fun _ s' => ∃ H', Inv X pins σ H' s' ∧ Q H') X.xe s
/-- a op= b, by values -/
abbrev TIp := V → V → Hp → VK → Prop
def PIp (X : Cx) (op : Operator) (t : TIp) : Prop :=
  ∀ (pins : List (Addr × Obj)) (s : Shared) (σ : St) (H : Hp) (x y : V) (v u : Value) (Q : VK), Inv X pins σ H s → RelV x v → RelV y u → t x y H Q →
    wpAny (model X.prog X.w) X.A (inplaceOp op v u) (EP X pins σ Q) X.xe s
section
variable {X : Cx} {pos : Pos}
def gName (i : Nat) : TG := fun v σ H Q => Q (σ.set i (some v)) H
theorem pg_name {i : Nat} {x : Str} (hN : X.N.Nodup) (hi : X.N[i]? = some x) (hx : Loc X.env.scope x) (hf : X.fn x = true ∨ X.env.scope.names.lookup x = some .local := by first | exact .inl rfl | exact .inr rfl | assumption) : PG X (.Name x pos) (gName i) := by
  intro pins s σ H v u Q I r h
  exact wpAny_assign_Name (store_ok I hN hi hx r (fun s' I' => ⟨_, H, I', h⟩) hf)
def gNil : TGs := fun vs σ H Q => vs = [] ∧ Q σ H
def gCons (t : TG) (u : TGs) : TGs := fun vs σ H Q => ∃ v r, vs = v :: r ∧ t v σ H fun σ' H' => u r σ' H' Q
theorem pgs_nil : PGs X [] gNil := by
  intro pins s σ H vs us Q I r h
  obtain ⟨e, h⟩ := h
  subst e
  cases r
  exact assignInOrder_nil ⟨σ, H, I, h⟩
theorem pgs_cons {e : Expr} {es : List Expr} {t : TG} {u : TGs} (h1 : PG X e t) (h2 : PGs X es u)
    (hs : (assignEach (e :: es) X.env).map (·.2) = assign e X.env :: (assignEach es X.env).map (·.2) := by rfl) : PGs X (e :: es) (gCons t u) := by
  intro pins s σ H vs us Q I r h
  obtain ⟨v, vr, e1, h⟩ := h
  subst e1
  cases r with
  | cons r rr =>
    rw [hs]
    refine assignInOrder_cons (thn (h1 pins s σ H _ _ _ I r h) fun _ s1 ⟨σ1, H1, I1, q1⟩ => ?_)
    exact h2 pins s1 σ1 H1 _ _ Q I1 rr q1
/-- (a, b, ..) = a tuple of that length -/
def gTup (K : PySem.W.Frag) (n : Nat) (t : TGs) : TG := fun v σ H Q => ∃ a xs, v = .ref a ∧ SqT K H a xs ∧ xs.length = n ∧ t xs σ H Q
theorem pg_tup {es : List Expr} {k : Nat} {t : TGs} {n : Nat} (hc : X.calm = true) (h : PGs X es t)
    (hn : (assignEach es X.env).length = n := by rfl) (hst : (assignEach es X.env).findIdx? (·.1) = none := by rfl) : PG X (.Tuple es k pos) (gTup X.K n t) := by
  intro pins s σ H v u Q I r hw
  obtain ⟨a, xs, e1, hq, hl, hw⟩ := hw
  subst e1
  cases r
  obtain ⟨its, rv, ht, hz⟩ := I.tuple hq
  refine assign_Tuple_tuple (I.ok.hd hc) ht (by simp [hn, ← hl, rv.length]) hst fun h' hx => ?_
  have I1 : Inv X pins σ H { s with heap := h' } := I.kept (t' := s.toks) fun b o e => hx b o (Nat.ne_of_lt (Heap.lt_size e)) e
  exact h pins _ σ H xs _ Q I1 (by simpa using rv) hw
/-- o[i] = .. -/
def gSub (to ti : TE) (t : TSet) : TG := fun v σ H Q => to σ H fun o H1 => ti σ H1 fun i H2 => t o i v H2 fun H3 => Q σ H3
theorem pg_sub {o i : Expr} {to ti : TE} {t : TSet} (ho : PE X o to) (hi : PE X i ti) (hs : PSet X t)
    (ha : ∀ v, assign (.Subscript o i pos) X.env v = (do
      let ov ← holding [v] (eval o X.env)
      let iv ← holding [v, ov] (eval i X.env)
      standAt pos
      holding [v, ov, iv] (setItem ov iv v)
      release [v, ov, iv] []) := by intro _; rfl) : PG X (.Subscript o i pos) (gSub to ti t) := by
  intro pins s σ H v u Q I r h
  rw [ha]
  refine wpAny_bind (wpAny_holding (thn (ho pins s σ H _ I h) fun ov s1 ⟨x, H1, I1, r1, q1⟩ => ?_))
  refine wpAny_bind (wpAny_holding (thn (hi pins s1 σ H1 _ I1 q1) fun iv s2 ⟨y, H2, I2, r2, q2⟩ => ?_))
  refine wpAny_bind (wpAny_standAt (wpAny_bind (wpAny_holding (thn (hs pins s2 σ H2 x y v ov iv u _ I2 r1 r2 r q2) fun _ s3 ⟨H3, I3, q3⟩ => ?_))))
  exact wpAny_release ⟨σ, H3, I3, q3⟩
/-- target = value -/
def tAsg (te : TE) (g : TG) : TS := fun D σ H => te σ H fun x H1 => g x σ H1 D.nx
theorem ps_asg {tg e : Expr} {te : TE} {g : TG} (he : PE X e te) (hg : PG X tg g) (hs : swapsWithSole [tg] e pos.line X.env = pure false := by rfl) (hw : swappedStores [tg] e X.env = pure none := by rfl)
    (h1 : (assignEach [tg] X.env).map (·.2) = [assign tg X.env] := by rfl) : PS X (.Assign [tg] e pos) (tAsg te g) := by
  intro pins s σ H D I h
  refine wpAny_Assign_stores (thn (he pins s σ H _ I h) fun v s1 ⟨x, H1, I1, r1, q1⟩ => ?_) hs hw
  rw [h1]
  exact thn (hg pins s1 σ H1 x v _ I1 r1 q1) fun _ s2 q => q
/-- name = value -/
theorem ps_set {i : Nat} {x : Str} {e : Expr} {te : TE} {pos' : Pos} (hN : X.N.Nodup) (hi : X.N[i]? = some x) (hx : Loc X.env.scope x) (he : PE X e te) (hs : swapsWith e (some (.Name x pos')) pos.line X.env = pure false := by rfl) (hf : X.fn x = true ∨ X.env.scope.names.lookup x = some .local := by first | exact .inl rfl | exact .inr rfl | assumption) :
    PS X (.Assign [.Name x pos'] e pos) (tAsg te (gName i)) := by
  intro pins s σ H D I h
  refine wpAny_Assign_Name (thn (he pins s σ H _ I h) fun v s1 ⟨y, H1, I1, r1, q1⟩ => ?_) hs
  exact store_ok I1 hN hi hx r1 (fun s2 I2 => ⟨_, H1, I2, q1⟩) hf
/-- a, b = x, y with plain local names: stored from the right; the pair itself is not tracked (the opening rows as in PyProof/Rows/TupAssign.lean:23) -/
def tPar (i j : Nat) (ta : TA) : TS := fun D σ H => ta σ H fun vs H1 => ∃ v w, vs = [v, w] ∧ D.nx ((σ.set i (some v)).set j (some w)) H1
theorem ps_par {i j : Nat} {x y : Str} {a b : Expr} {ta : TA} {px py pt : Pos} {kt k2 pt2} (hc : X.calm = true) (hN : X.N.Nodup) (hi : X.N[i]? = some x) (hj : X.N[j]? = some y) (hij : i ≠ j)
    (hx : X.env.scope.names.lookup x = some .local) (hy : X.env.scope.names.lookup y = some .local) (ha : PA X [a, b] ta)
    (hw : swappedStores [.Tuple [.Name x px, .Name y py] kt pt] (.Tuple [a, b] k2 pt2) X.env = pure (some [x, y]))
    (hs : swapsWithSole [.Tuple [.Name x px, .Name y py] kt pt] (.Tuple [a, b] k2 pt2) pos.line X.env = pure false := by rfl) :
    PS X (.Assign [.Tuple [.Name x px, .Name y py] kt pt] (.Tuple [a, b] k2 pt2) pos) (tPar i j ta) := by
  intro pins s σ H D I h
  rw [exec_Assign_arm]
  refine wpAny_bind (wpAny_standAt ?_)
  rw [hs]
  refine wpAny_bind (wpAny_pure ?_)
  rw [if_neg (by decide)]
  refine wpAny_bind (Tuple_ (thn (ha _ pins s σ H _ I h) fun us s1 ⟨vs, H1, I1, r1, q1⟩ => ?_))
  obtain ⟨v, w, e1, q1⟩ := q1
  subst e1
  obtain ⟨u1, u2, rfl, rv, rw'⟩ : ∃ u1 u2, us = [u1, u2] ∧ RelV v u1 ∧ RelV w u2 := by
    cases r1 with
    | cons p q =>
      cases q with
      | cons p' q' =>
        cases q'
        exact ⟨_, _, rfl, p, p'⟩
  refine wpAny_newObj_type ?_ (by show 2 ≤ sizeLine; decide)
  have I2 : Inv X pins σ H1 { s1 with heap := s1.heap.push { cls := .type "tuple", data := .seq [u1, u2].toArray } } := I1.kept (t' := s1.toks) fun b o e => Heap.get?_push_of_some _ e
  rw [hw]
  refine wpAny_bind (wpAny_pure ?_)
  show wpAny (model X.prog X.w) X.A (do rule "assign.swapped-stores"; let items ← unpackItems (.ref s1.heap.objs.size) 2 none; assignInOrder [fun v => bindName X.env y v, fun v => bindName X.env x v] items.reverse; pure Flow.next) _ _ _
  refine wpAny_bind (wpAny_rule (wpAny_bind (unpackItems_tuple (items := #[u1, u2]) (I.ok.hd hc) (IsTup.new s1.heap _) fun h' hx' => ?_)))
  have I3 := I2.kept (h' := h') (t' := s1.toks) fun b o e => hx' b o (Nat.ne_of_lt (Heap.lt_size e)) e
  show wpAny _ _ (assignInOrder [fun v => bindName X.env y v, fun v => bindName X.env x v] [u2, u1] >>= fun _ => pure Flow.next) _ _ _
  refine wpAny_bind (assignInOrder_cons (wpAny_bindName (store_ok I3 hN hj (.inl hy) rw' (fun s2 I4 => ?_) (.inr hy))))
  refine assignInOrder_cons (wpAny_bindName (store_ok I4 hN hi (.inl hx) rv (fun s3 I5 => assignInOrder_nil (wpAny_pure ?_)) (.inr hx)))
  rw [List.set_comm _ _ (Ne.symm hij)] at I5
  exact ⟨_, H1, I5, q1⟩
/-- name op= e -/
def tAug (i : Nat) (te : TE) (ti : TIp) : TS := fun D σ H => ∃ x, σ[i]? = some (some x) ∧ te σ H fun y H1 => ti x y H1 fun z H2 => D.nx (σ.set i (some z)) H2
theorem ps_aug {i : Nat} {x : Str} {e : Expr} {te : TE} {op : Operator} {ti : TIp} {pos' : Pos} (hN : X.N.Nodup) (hi : X.N[i]? = some x) (hx : Loc X.env.scope x) (he : PE X e te) (ho : PIp X op ti) (hf : X.fn x = true ∨ X.env.scope.names.lookup x = some .local := by first | exact .inl rfl | exact .inr rfl | assumption) :
    PS X (.AugAssign (.Name x pos') op e pos) (tAug i te ti) := by
  intro pins s σ H D I h
  obtain ⟨v, e1, h⟩ := h
  obtain ⟨m, hn, hl⟩ := I.loc
  have vis : Vis X.env.scope x := by rcases hx with k | k; exact .inl k; exact .inr (.inl k)
  obtain ⟨u, r, l⟩ := hl i x v hi e1 vis
  refine wpAny_AugAssign_Name ?_
  have go : wpAny (model X.prog X.w) X.A (eval e X.env) (fun w s₂ => wpAny (model X.prog X.w) X.A (inplaceOp op u w) (fun r s₃ => wpAny (model X.prog X.w) X.A (storeName X.env x r) (fun _ => SP X pins D .next) X.xe s₃) X.xe s₂) X.xe s := by
    refine thn (he pins s σ H _ I h) fun w s1 ⟨y, H1, I1, r1, q1⟩ => ?_
    refine thn (ho pins s1 σ H1 v y u w _ I1 r r1 q1) fun z s2 ⟨zv, H2, I2, r2, q2⟩ => ?_
    exact store_ok I2 hN hi hx r2 (fun s3 I3 => ⟨_, H2, I3, q2⟩) hf
  rcases l with ⟨hk, hm⟩ | ⟨hk, c, hc, hcell⟩
  · exact wpAny_loadName_local I.ok.kind hk hn hm go
  · rcases hk with hk | hk
    · exact wpAny_loadName_cell I.ok.kind hk hc hcell go
    · rcases hx with k | k
      · have : X.env.scope.names.lookup x = some .free := hk
        rw [k] at this; cases this
      · have : X.env.scope.names.lookup x = some .free := hk
        rw [k] at this; cases this
/-- o[i] op= e -/
def tAugS (to ti te : TE) (tget : V → V → Hp → VK → Prop) (tip : TIp) (tset : TSet) : TS := fun D σ H => to σ H fun o H1 => ti σ H1 fun i H2 => tget o i H2 fun x H3 => te σ H3 fun y H4 => tip x y H4 fun z H5 => tset o i z H5 fun H6 => D.nx σ H6
/-- o[i], by values -/
def PGet (X : Cx) (t : V → V → Hp → VK → Prop) : Prop :=
  ∀ (pins : List (Addr × Obj)) (s : Shared) (σ : St) (H : Hp) (o i : V) (ov iv : Value) (Q : VK), Inv X pins σ H s → RelV o ov → RelV i iv → t o i H Q →
    wpAny (model X.prog X.w) X.A (getItem ov iv) (EP X pins σ Q) X.xe s
theorem ps_augS {o i e : Expr} {to ti te : TE} {tget : V → V → Hp → VK → Prop} {tip : TIp} {tset : TSet} {op : Operator} {tpos : Pos} (ho : PE X o to) (hi : PE X i ti) (hg : PGet X tget) (he : PE X e te) (hp : PIp X op tip) (hs : PSet X tset)
    (ha : ∀ ov iv new, augStore i ov iv new = (do holding [new, ov, iv] (setItem ov iv new); release [new, ov, iv] []; pure .next) := by intros; rfl) : PS X (.AugAssign (.Subscript o i tpos) op e pos) (tAugS to ti te tget tip tset) := by
  intro pins s σ H D I h
  refine wpAny_AugAssign_SubscriptAny (thn (ho pins s σ H _ I h) fun ov s1 ⟨x1, H1, I1, r1, q1⟩ => ?_) ha
  refine thn (hi pins s1 σ H1 _ I1 q1) fun iv s2 ⟨x2, H2, I2, r2, q2⟩ => ?_
  refine thn (hg pins s2 σ H2 x1 x2 ov iv _ I2 r1 r2 q2) fun old s3 ⟨x3, H3, I3, r3, q3⟩ => ?_
  refine thn (he pins s3 σ H3 _ I3 q3) fun v s4 ⟨x4, H4, I4, r4, q4⟩ => ?_
  refine thn (hp pins s4 σ H4 x3 x4 old v _ I4 r3 r4 q4) fun new s5 ⟨x5, H5, I5, r5, q5⟩ => ?_
  exact thn (hs pins s5 σ H5 x1 x2 x5 ov iv new _ I5 r1 r2 r5 q5) fun _ s6 ⟨H6, I6, q6⟩ => ⟨σ, H6, I6, q6⟩
/-- ints -/
def ipI (f : Int → Int → Int) : TIp := fun x y H Q => ∃ i j, x = .int i ∧ y = .int j ∧ Q (.int (f i j)) H
theorem ip_add : PIp X .Add (ipI fun i j => i + j) := by
  intro pins s σ H x y v u Q I r1 r2 h
  obtain ⟨i, j, e1, e2, q⟩ := h
  subst e1; subst e2
  obtain ⟨t, rfl⟩ := r1
  obtain ⟨t', rfl⟩ := r2
  exact iadd_int ⟨.int _, H, I.tok _, ⟨_, rfl⟩, q⟩
theorem ip_sub : PIp X .Sub (ipI fun i j => i - j) := by
  intro pins s σ H x y v u Q I r1 r2 h
  obtain ⟨i, j, e1, e2, q⟩ := h
  subst e1; subst e2
  obtain ⟨t, rfl⟩ := r1
  obtain ⟨t', rfl⟩ := r2
  exact isub_int ⟨.int _, H, I.tok _, ⟨_, rfl⟩, q⟩
end

/-! ### while -/
section
variable {X : Cx} {pos : Pos}
/-- the invariant W with its measure -/
def tWhile (c : TT) (tb : TS) : TS := fun D σ H => ∃ W : Nat → St → Hp → Prop, (∃ m, W m σ H) ∧ ∀ m σ H, W m σ H →
  c σ H fun b H1 => if b = true then ∃ N : St → Hp → Prop, (∀ σ' H', N σ' H' → ∃ m', m' < m ∧ W m' σ' H') ∧ tb { D with nx := N, ct := N, bk := D.nx } σ H1 else D.nx σ H1
theorem ps_while {c : Expr} {body : List Stmt} {tc : TT} {tb : TS} (hp : PassesOwn (model X.prog X.w) X.A X.env X.xe) (hc : PT X c tc) (hb : PSs X body tb) : PS X (.While c body [] pos) (tWhile tc tb) := by
  intro pins s σ H D I h
  obtain ⟨W, ⟨m0, w0⟩, turn⟩ := h
  refine wpAny_While (codeAny_whileLoop (fun n s' => ∃ σ' H', Inv X pins σ' H' s' ∧ W n σ' H') ?_ m0 ⟨σ, H, I, w0⟩)
  rintro n s1 ⟨σ1, H1, I1, w1⟩
  refine wpAny_passesOwn hp (thn (hc pins s1 σ1 H1 _ I1 (turn n σ1 H1 w1)) fun b s2 ⟨H2, I2, q2⟩ => ?_)
  cases b with
  | true =>
    obtain ⟨N, hN, q2⟩ := q2
    rw [if_pos rfl]
    refine wpAny_passesOwn hp (thn (hb pins s2 σ1 H2 _ I2 q2) fun f s3 q3 => ?_)
    cases f with
    | next =>
      obtain ⟨σ3, H3, I3, n3⟩ := q3
      obtain ⟨m', hm, w3⟩ := hN σ3 H3 n3
      exact ⟨m', hm, σ3, H3, I3, w3⟩
    | cont =>
      obtain ⟨σ3, H3, I3, n3⟩ := q3
      obtain ⟨m', hm, w3⟩ := hN σ3 H3 n3
      exact ⟨m', hm, σ3, H3, I3, w3⟩
    | brk => exact q3
    | ret v => exact q3
  | false =>
    rw [if_neg Bool.false_ne_true]
    exact wpAny_execs_nil ⟨σ1, H2, I2, q2⟩
end

/-! ### what a loop or a comprehension walks -/
/-- at turn i: it yields x (the heap may grow), or it stops -/
structure It where
  go : Nat → Hp → Prop
  yld : Nat → Hp → V → Hp → Prop
  stop : Nat → Hp → Prop
/-- the iterator's own objects may turn: they are not the frame's, not pinned, younger than the entry (or a comprehension's own) -/
def FpOk (X : Cx) (pins : List (Addr × Obj)) (H : Hp) (b : Addr) : Prop :=
  H b = none ∧ b ≠ X.env.locals ∧ b ∉ X.fs ∧ (b ∈ X.ex ∨ X.s₀.heap.objs.size ≤ b) ∧ (∀ x c, X.env.cells.lookup x = some c → c ≠ b) ∧ ∀ p ∈ X.pn ++ pins, p.1 ≠ b
theorem Inv.fpOk {X : Cx} {pins : List (Addr × Obj)} {σ : St} {H H' : Hp} {s : Shared} {b : Addr} (I : Inv X pins σ H s) (hb : s.heap.objs.size ≤ b) (hn : H' b = none) : FpOk X pins H' b := by
  refine ⟨hn, Nat.ne_of_gt (Nat.lt_of_lt_of_le I.lt hb), I.nofs hb, .inr (Nat.le_trans I.sz hb), fun x c e z => ?_, fun p hp z => ?_⟩
  · obtain ⟨v, q⟩ := I.cell x c e
    exact absurd (Nat.lt_of_lt_of_le q.lt (by rw [z]; exact hb)) (Nat.lt_irrefl _)
  · exact absurd (Nat.lt_of_lt_of_le (Heap.lt_size (I.pin p hp).1) (by rw [z]; exact hb)) (Nat.lt_irrefl _)
structure Turn (P : Program) (w : World) (K : PySem.W.Frag) (tg : Expr) (J : It) (fp : List Addr) (it : Addr) (tn : Nat → Heap → Prop) : Prop where
  mem : it ∈ fp
  obj : ∀ i h, tn i h → ∀ b ∈ fp, ∃ o, h.get? b = some o ∧ ∀ v, o.data ≠ .cell v
  keep : ∀ i h h', tn i h → (∀ b ∈ fp, ∀ o, h.get? b = some o → h'.get? b = some o) → tn i h'
  item : ∀ (X : Cx), X.prog = P → X.w = w → X.K = K → X.calm = true → ∀ (i : Nat) (pins : List (Addr × Obj)) (s : Shared) (σ : St) (H : Hp) (E : Value → Shared → Prop), Inv X pins σ H s → (∀ b ∈ fp, FpOk X pins H b) → tn i s.heap → J.go i H →
    wpAny (model P w) X.A (pyNext (.ref it)) (fun r s1 => ∃ u, r = some u ∧
      wpAny (model P w) X.A (letOwnedTupleGo tg (.ref it) u) (fun _ s2 => ∃ x H', Inv X pins σ H' s2 ∧ RelV x u ∧ J.yld i H x H' ∧ tn (i + 1) s2.heap ∧ ∀ b ∈ fp, H' b = none) E s1) E s
  done : ∀ (X : Cx), X.prog = P → X.w = w → X.K = K → X.calm = true → ∀ (i : Nat) (pins : List (Addr × Obj)) (s : Shared) (σ : St) (H : Hp) (E : Value → Shared → Prop), Inv X pins σ H s → (∀ b ∈ fp, FpOk X pins H b) → tn i s.heap → J.stop i H →
    wpAny (model P w) X.A (pyNext (.ref it)) (fun r s1 => r = none ∧ Inv X pins σ H s1) E s
  self : ∀ (A : Around) (i : Nat) (s : Shared) (Q : Value → Shared → Prop) (E : Value → Shared → Prop), tn i s.heap → Q (.ref it) s → wpAny (model P w) A (pyIter (.ref it)) Q E s
abbrev TI := St → Hp → (It → Hp → Prop) → Prop
/-- an iterator has come -/
def PIE (X : Cx) (pins : List (Addr × Obj)) (σ : St) (tg : Expr) (R : It → Hp → Prop) (itv : Value) (s2 : Shared) : Prop :=
  ∃ (it : Addr) (fp : List Addr) (tn : Nat → Heap → Prop) (J : It) (H' : Hp), itv = .ref it ∧ Inv X pins σ H' s2 ∧ Turn X.prog X.w X.K tg J fp it tn ∧ tn 0 s2.heap ∧ (∀ b ∈ fp, FpOk X pins H' b) ∧ R J H'
def PI (X : Cx) (tg iter : Expr) (wi : TI) : Prop :=
  ∀ (pins : List (Addr × Obj)) (s : Shared) (σ : St) (H : Hp) (R : It → Hp → Prop), Inv X pins σ H s → wi σ H R →
    wpAny (model X.prog X.w) X.A (eval iter X.env) (fun v s1 => wpAny (model X.prog X.w) X.A (pyIter v) (PIE X pins σ tg R) X.xe s1) X.xe s

/-- the step ahead of the store is nothing for an iterator that keeps no tuple -/
theorem go_of {M : Model} {A : Around} {E : Value → Shared → Prop} {s : Shared} {tg : Expr} {it : Addr} {u : Value} {o : Obj} {n : String} {vs : Array Value} {Q : Unit → Shared → Prop} (ho : s.heap.get? it = some o) (hc : o.cls = .type n) (hd : o.data = .fields vs)
    (hn : ["enumerate", "zip", "dict_itemiterator", "dict_reverseitemiterator", "odict_iterator", "itertools.zip_longest", "itertools.pairwise"].contains n = false) (hQ : Q () s) : wpAny M A (letOwnedTupleGo tg (.ref it) u) Q E s := by
  unfold letOwnedTupleGo
  cases tg <;> first
    | exact wpAny_pure hQ
    | (cases u <;> first
        | exact wpAny_pure hQ
        | (refine wpAny_bind (wpAny_load ho ?_)
           rw [hc, hd]
           show wpAny M A (if (["enumerate", "zip", "dict_itemiterator", "dict_reverseitemiterator", "odict_iterator", "itertools.zip_longest", "itertools.pairwise"].contains n && vs[0]? == some (rawInt _)) = true then _ else _) Q E s
           rw [if_neg (by intro h; rw [hn, Bool.false_and] at h; cases h)]
           exact wpAny_pure hQ))

/-- the list at a, as it stands at each turn (a loop may append to it) -/
def Itl (K : PySem.W.Frag) (a : Addr) : It :=
  ⟨fun i H => ∃ xs x, SqL K H a xs ∧ xs[i]? = some x, fun i H x H' => H' = H ∧ ∀ xs, SqL K H a xs → xs[i]? = some x, fun i H => ∃ xs, SqL K H a xs ∧ xs.length ≤ i⟩
def Itt (K : PySem.W.Frag) (a : Addr) : It :=
  ⟨fun i H => ∃ xs x, SqT K H a xs ∧ xs[i]? = some x, fun i H x H' => H' = H ∧ ∀ xs, SqT K H a xs → xs[i]? = some x, fun i H => ∃ xs, SqT K H a xs ∧ xs.length ≤ i⟩
/-- lo, lo + 1, .. (n of them) -/
def Itr (lo : Int) (n : Nat) : It := ⟨fun i _ => i < n, fun i H x H' => H' = H ∧ x = .int (lo + i), fun i _ => n ≤ i⟩
theorem turn_list {P : Program} {w : World} {K : PySem.W.Frag} {tg : Expr} (a it : Addr) : Turn P w K tg (Itl K a) [it] it (fun i h => h.IsListIter it a i) where
  mem := by simp
  obj := fun i h st b hb => by
    have e : b = it := by simpa using hb
    subst e
    obtain ⟨o, e, c, d⟩ := st
    exact ⟨o, e, fun v z => by rw [d] at z; cases z⟩
  keep := fun i h h' st k => st.at fun o e => k it (by simp) o e
  item := by
    intro X hP hw hK hc i pins s σ H E I hf st hg
    subst hP hw hK
    obtain ⟨xs, x, hq, hx⟩ := hg
    obtain ⟨its, rv, p, hz⟩ := I.list hq
    obtain ⟨u, hu, ru⟩ := rv.get hx
    obtain ⟨f0, f1, f2, f3, f4, f5⟩ := hf it (by simp)
    refine wpAny_pyNext_list_item st p.isList (x := u) (by simpa using hu) fun h' st' sb => ?_
    have I1 : Inv X pins σ H { s with heap := h' } := I.turned (t' := s.toks) (fun b o hb e => (sb.2 b hb).trans e) f0 f1 f3 f4 f5
    obtain ⟨o, e, c, d⟩ := id st'
    exact ⟨u, rfl, go_of (s := { s with heap := h' }) e c d (by decide) ⟨x, H, I1, ru, ⟨rfl, fun ys hy => by rw [I.list_inj hy hq]; exact hx⟩, st', fun b hb => (hf b hb).1⟩⟩
  done := by
    intro X hP hw hK hc i pins s σ H E I hf st hg
    subst hP hw hK
    obtain ⟨xs, hq, hx⟩ := hg
    obtain ⟨its, rv, p, hz⟩ := I.list hq
    obtain ⟨f0, f1, f2, f3, f4, f5⟩ := hf it (by simp)
    have hl := rv.length
    exact wpAny_pyNext_list_end (I.ok.hd hc) st p.isList (by simp; omega) fun h' eb => ⟨rfl, I.turned (t' := s.toks) (fun b o hb e => eb b o hb e) f0 f1 f3 f4 f5⟩
  self := fun _ _ _ _ _ st h => wpAny_pyIter_listiter st h
theorem turn_tuple {P : Program} {w : World} {K : PySem.W.Frag} {tg : Expr} (a it : Addr) : Turn P w K tg (Itt K a) [it] it (fun i h => h.IsTupleIter it a i) where
  mem := by simp
  obj := fun i h st b hb => by
    have e : b = it := by simpa using hb
    subst e
    obtain ⟨o, e, c, d⟩ := st
    exact ⟨o, e, fun v z => by rw [d] at z; cases z⟩
  keep := fun i h h' st k => st.at fun o e => k it (by simp) o e
  item := by
    intro X hP hw hK hc i pins s σ H E I hf st hg
    subst hP hw hK
    obtain ⟨xs, x, hq, hx⟩ := hg
    obtain ⟨its, rv, p, hz⟩ := I.tuple hq
    obtain ⟨u, hu, ru⟩ := rv.get hx
    obtain ⟨f0, f1, f2, f3, f4, f5⟩ := hf it (by simp)
    refine wpAny_pyNext_tuple_item st (show s.heap.IsTuple a its.toArray from p) (x := u) (by simpa using hu) fun h' st' sb => ?_
    have I1 : Inv X pins σ H { s with heap := h' } := I.turned (t' := s.toks) (fun b o hb e => (sb.2 b hb).trans e) f0 f1 f3 f4 f5
    obtain ⟨o, e, c, d⟩ := id st'
    exact ⟨u, rfl, go_of (s := { s with heap := h' }) e c d (by decide) ⟨x, H, I1, ru, ⟨rfl, fun ys hy => by rw [I.tuple_inj hy hq]; exact hx⟩, st', fun b hb => (hf b hb).1⟩⟩
  done := by
    intro X hP hw hK hc i pins s σ H E I hf st hg
    subst hP hw hK
    obtain ⟨xs, hq, hx⟩ := hg
    obtain ⟨its, rv, p, hz⟩ := I.tuple hq
    obtain ⟨f0, f1, f2, f3, f4, f5⟩ := hf it (by simp)
    have hl := rv.length
    exact wpAny_pyNext_tuple_end (I.ok.hd hc) st (show s.heap.IsTuple a its.toArray from p) (by simp; omega) fun h' eb => ⟨rfl, I.turned (t' := s.toks) (fun b o hb e => eb b o hb e) f0 f1 f3 f4 f5⟩
  self := fun _ _ _ _ _ st h => wpAny_pyIter_tupleiter st h
theorem turn_range {P : Program} {w : World} {K : PySem.W.Frag} {tg : Expr} (it : Addr) (lo : Int) (n : Nat) : Turn P w K tg (Itr lo n) [it] it (fun i h => IsRangeIter h it (lo + (i : Nat) * 1) ((n : Int) - (i : Nat)) 1) where
  mem := by simp
  obj := fun i h st b hb => by
    have e : b = it := by simpa using hb
    subst e
    exact ⟨_, st, fun v z => by
      have z' : Data.fields _ = Data.cell v := z
      cases z'⟩
  keep := fun i h h' st k => k it (by simp) _ st
  item := by
    intro X hP hw hK hc i pins s σ H E I hf st hg
    subst hP hw hK
    obtain ⟨f0, f1, f2, f3, f4, f5⟩ := hf it (by simp)
    have W := Walks.range (prog := X.prog) (w := X.w) (I.ok.hd hc) it lo 1 n
    refine W.item i s _ _ hg st fun v h' tk hv st' kk => ?_
    obtain ⟨t, rfl⟩ := hv
    have I1 : Inv X pins σ H { s with heap := h', toks := tk } := I.turned (fun b o hb e => kk b o (by simpa using hb) e) f0 f1 f3 f4 f5
    refine ⟨_, rfl, go_of (s := { s with heap := h', toks := tk }) (n := "range_iterator") st' rfl rfl (by decide) ⟨.int (lo + i), H, I1, ⟨t, ?_⟩, ⟨rfl, rfl⟩, st', fun b hb => (hf b hb).1⟩⟩
    rw [Int.mul_one]
  done := by
    intro X hP hw hK hc i pins s σ H E I hf st hg
    subst hP hw hK
    obtain ⟨f0, f1, f2, f3, f4, f5⟩ := hf it (by simp)
    exact wpAny_pyNext_range_end (I.ok.hd hc) st (by have : n ≤ i := hg; omega) fun h' eb => ⟨rfl, I.turned (t' := s.toks) (fun b o hb e => eb b o hb e) f0 f1 f3 f4 f5⟩
  self := fun _ _ _ _ _ st h => wpAny_pyIter_rangeiter st h
end L2

namespace L2
open PySem PySem.Spec PyProof.Rows
section
variable {X : Cx} {tg : Expr}
def iList (K : PySem.W.Frag) (tl : TE) : TI := fun σ H R => tl σ H fun x H1 => ∃ a, x = .ref a ∧ (∃ xs, SqL K H1 a xs) ∧ R (Itl K a) H1
def iTup (K : PySem.W.Frag) (tl : TE) : TI := fun σ H R => tl σ H fun x H1 => ∃ a, x = .ref a ∧ (∃ xs, SqT K H1 a xs) ∧ R (Itt K a) H1
theorem pi_list {l : Expr} {tl : TE} (hl : PE X l tl) : PI X tg l (iList X.K tl) := by
  intro pins s σ H R I h
  refine thn (hl pins s σ H _ I h) fun v s1 ⟨x, H1, I1, r1, q1⟩ => ?_
  obtain ⟨a, e, ⟨xs, hq⟩, q⟩ := q1
  subst e
  cases r1
  obtain ⟨its, rv, p, hz⟩ := I1.list hq
  refine wpAny_pyIter_list p.isList ?_
  refine ⟨s1.heap.objs.size, [s1.heap.objs.size], _, _, H1, rfl, I1.kept (t' := s1.toks) fun b o e => Heap.get?_push_of_some _ e, turn_list a _, ⟨_, Heap.get?_push_size _ rfl, rfl, rfl⟩, fun b hb => ?_, q⟩
  have e : b = s1.heap.objs.size := by simpa using hb
  subst e
  exact I1.fpOk (Nat.le_refl _) (I1.hok.fresh (Nat.le_refl _))
theorem pi_tup {l : Expr} {tl : TE} (hl : PE X l tl) : PI X tg l (iTup X.K tl) := by
  intro pins s σ H R I h
  refine thn (hl pins s σ H _ I h) fun v s1 ⟨x, H1, I1, r1, q1⟩ => ?_
  obtain ⟨a, e, ⟨xs, hq⟩, q⟩ := q1
  subst e
  cases r1
  obtain ⟨its, rv, p, hz⟩ := I1.tuple hq
  refine wpAny_pyIter_tuple (show s1.heap.IsTuple a its.toArray from p) ?_
  refine ⟨s1.heap.objs.size, [s1.heap.objs.size], _, _, H1, rfl, I1.kept (t' := s1.toks) fun b o e => Heap.get?_push_of_some _ e, turn_tuple a _, ⟨_, Heap.get?_push_size _ rfl, rfl, rfl⟩, fun b hb => ?_, q⟩
  have e : b = s1.heap.objs.size := by simpa using hb
  subst e
  exact I1.fpOk (Nat.le_refl _) (I1.hok.fresh (Nat.le_refl _))
/-- a range object just made, walked -/
theorem range_it {pins : List (Addr × Obj)} {σ : St} {H : Hp} {s : Shared} {R : It → Hp → Prop} {E : Value → Shared → Prop} {lo hi : Int} {t u v : Tok} {tk : Nat} (I : Inv X pins σ H s) (h1 : -(2 ^ 62) ≤ lo) (h2 : lo < 2 ^ 62) (h3 : -(2 ^ 62) ≤ hi) (h4 : hi < 2 ^ 62)
    (q : R (Itr lo (hi - lo).toNat) H) : wpAny (model X.prog X.w) X.A (pyIter (.ref s.heap.objs.size)) (PIE X pins σ tg R) E { s with heap := s.heap.push { cls := .type "range", data := .fields #[.int lo t, .int hi u, .int 1 v] }, toks := tk } := by
  refine wpAny_pyIter_range (IsRange.new ..) (small_one h1 h2 h3 h4) ?_
  have I1 : Inv X pins σ H { s with heap := s.heap.push { cls := .type "range", data := .fields #[.int lo t, .int hi u, .int 1 v] }, toks := tk } := I.kept fun b o e => Heap.get?_push_of_some _ e
  refine ⟨(s.heap.push { cls := .type "range", data := .fields #[.int lo t, .int hi u, .int 1 v] }).objs.size, [(s.heap.push { cls := .type "range", data := .fields #[.int lo t, .int hi u, .int 1 v] }).objs.size], _, _, H, rfl,
    I1.kept (t' := tk) fun b o e => Heap.get?_push_of_some _ e, turn_range _ lo (hi - lo).toNat, ?_, fun b hb => ?_, q⟩
  · have e1 : lo + ((0 : Nat) : Int) * 1 = lo := by simp
    have e2 : (((hi - lo).toNat : Nat) : Int) - ((0 : Nat) : Int) = Builtin.Range.rangeSize lo hi 1 := by rw [rangeSize_one]; split <;> omega
    show IsRangeIter _ _ (lo + ((0 : Nat) : Int) * 1) ((((hi - lo).toNat : Nat) : Int) - ((0 : Nat) : Int)) 1
    rw [e1, e2]
    exact Heap.get?_push_size _ rfl
  · have e : b = (s.heap.push { cls := .type "range", data := .fields #[.int lo t, .int hi u, .int 1 v] }).objs.size := by simpa using hb
    subst e
    exact I1.fpOk (Nat.le_refl _) (I1.hok.fresh (Nat.le_refl _))
def iRng1 (ta : TA) : TI := fun σ H R => ta σ H fun vs H1 => ∃ j : Int, vs = [.int j] ∧ -(2 ^ 62) ≤ j ∧ j < 2 ^ 62 ∧ R (Itr 0 j.toNat) H1
def iRng2 (ta : TA) : TI := fun σ H R => ta σ H fun vs H1 => ∃ i j : Int, vs = [.int i, .int j] ∧ (-(2 ^ 62) ≤ i ∧ i < 2 ^ 62 ∧ -(2 ^ 62) ≤ j ∧ j < 2 ^ 62) ∧ R (Itr i (j - i).toNat) H1
theorem pi_range1 {a : Expr} {ta : TA} {p pos : Pos} (hg : Gl X "range") (hm : X.mg "range" = none) (ha : PA X [a] ta) (hs : starEach [a] X.env = [(false, eval a X.env)] := by rfl) : PI X tg (.Call (.Name "range" p) [a] [] pos) (iRng1 ta) := by
  intro pins s σ H R I h
  refine Call_ (ld_blt I hg hm boot_range (PyProof.Rows.callWith_type1 (thn (ha pos pins s σ H _ I h) fun us s1 ⟨vs, H1, I1, r1, q1⟩ => ?_) hs rfl))
  obtain ⟨j, e, q1, q2, q⟩ := q1
  subst e
  cases r1 with
  | cons r rr =>
    cases rr
    obtain ⟨t, rfl⟩ := r
    exact call_range_1 (range_it I1 (by omega) (by omega) q1 q2 (by simpa using q))
theorem pi_range2 {a b : Expr} {ta : TA} {p pos : Pos} (hg : Gl X "range") (hm : X.mg "range" = none) (ha : PA X [a, b] ta) (hs : starEach [a, b] X.env = [(false, eval a X.env), (false, eval b X.env)] := by rfl) (hs2 : starEach [b] X.env = [(false, eval b X.env)] := by rfl) :
    PI X tg (.Call (.Name "range" p) [a, b] [] pos) (iRng2 ta) := by
  intro pins s σ H R I h
  refine Call_ (ld_blt I hg hm boot_range (PyProof.Rows.callWith_type1 (thn (ha pos pins s σ H _ I h) fun us s1 ⟨vs, H1, I1, r1, q1⟩ => ?_) (by rw [hs, hs2]) (by rw [hs2]; rfl)))
  obtain ⟨i, j, e, ⟨q1, q2, q3, q4⟩, q⟩ := q1
  subst e
  cases r1 with
  | cons r rr =>
    cases rr with
    | cons r' rr =>
      cases rr
      obtain ⟨t, rfl⟩ := r
      obtain ⟨t', rfl⟩ := r'
      exact call_range_2 (range_it I1 q1 q2 q3 q4 q)

/-! ### for -/
/-- W: the invariant by the turn and a measure; N: what the body is to reach -/
def tFor (wi : TI) (g : TG) (tb : TS) : TS := fun D σ H => wi σ H fun J H1 => ∃ W : Nat → Nat → St → Hp → Prop, (∃ m, W 0 m σ H1) ∧ ∀ i m σ H, W i m σ H →
  (J.stop i H ∧ D.nx σ H) ∨ (J.go i H ∧ ∃ N : St → Hp → Prop, (∀ σ' H', N σ' H' → ∃ m', m' < m ∧ W (i + 1) m' σ' H') ∧ ∀ x H', J.yld i H x H' → g x σ H' fun σ2 H2 => tb { D with nx := N, ct := N, bk := D.nx } σ2 H2)
/-- the records at fp as they stand -/
def pinsAt (fp : List Addr) (h : Heap) : List (Addr × Obj) := fp.filterMap fun b => (h.get? b).map fun o => (b, o)
theorem mem_pinsAt {fp : List Addr} {h : Heap} {b : Addr} {o : Obj} (hb : b ∈ fp) (e : h.get? b = some o) : (b, o) ∈ pinsAt fp h := List.mem_filterMap.mpr ⟨b, hb, by rw [e]; rfl⟩
theorem of_pinsAt {fp : List Addr} {h : Heap} {p : Addr × Obj} (hp : p ∈ pinsAt fp h) : p.1 ∈ fp ∧ h.get? p.1 = some p.2 := by
  obtain ⟨b, hb, e⟩ := List.mem_filterMap.mp hp
  cases q : h.get? b with
  | none => rw [q] at e; cases e
  | some o =>
    rw [q] at e
    have e' : (b, o) = p := Option.some.inj e
    subst e'
    exact ⟨hb, q⟩
theorem Inv.pinned {pins : List (Addr × Obj)} {σ : St} {H : Hp} {s : Shared} {fp : List Addr} (I : Inv X pins σ H s) (hf : ∀ b ∈ fp, FpOk X pins H b) (ho : ∀ b ∈ fp, ∃ o, s.heap.get? b = some o ∧ ∀ v, o.data ≠ .cell v) : Inv X (pins ++ pinsAt fp s.heap) σ H s :=
  I.pins_of fun p hp => (List.mem_append.mp hp).elim (fun z => I.pin p (List.mem_append_right _ z)) fun z => by
    obtain ⟨hb, e⟩ := of_pinsAt z
    obtain ⟨f0, f1, f2, _⟩ := hf p.1 hb
    obtain ⟨o, e', d⟩ := ho p.1 hb
    rw [e] at e'; cases e'
    exact ⟨e, f0, f1, f2, d⟩
theorem Inv.unpinned {pins pl : List (Addr × Obj)} {σ : St} {H : Hp} {s : Shared} (I : Inv X (pins ++ pl) σ H s) : Inv X pins σ H s := I.pins_of fun p hp => I.pin p (List.mem_append_right _ (List.mem_append_left _ hp))
theorem ps_for {iter : Expr} {body : List Stmt} {wi : TI} {g : TG} {tb : TS} {pos : Pos} (hp : PassesOwn (model X.prog X.w) X.A X.env X.xe) (hc : X.calm = true) (hi : PI X tg iter wi) (hg : PG X tg g) (hb : PSs X body tb)
    (hs : ∀ x, foldedSetIterable iter X.env x = pure x := by intro _; rfl) : PS X (.For tg iter body [] pos) (tFor wi g tb) := by
  intro pins s σ H D I h
  refine wpAny_For (thn (hi pins s σ H _ I h) fun v s1 h1 => thn h1 fun itv s2 h2 => ?_) hs
  obtain ⟨it, fp, tn, J, H2, e, I2, T, st2, f2, W, ⟨m0, w0⟩, turn⟩ := h2
  subst e
  -- what stays true of the iterator's objects through the loop
  have stat : ∀ {H' : Hp}, (∀ b ∈ fp, H' b = none) → ∀ b ∈ fp, FpOk X pins H' b := fun hn b hb => ⟨hn b hb, (f2 b hb).2⟩
  refine codeAny_forLoop_any (fun n s' => ∃ i σ' H', Inv X pins σ' H' s' ∧ tn i s'.heap ∧ (∀ b ∈ fp, H' b = none) ∧ W i n σ' H') ?_ m0 ⟨0, σ, H2, I2, st2, fun b hb => (f2 b hb).1, w0⟩
  rintro n s3 ⟨i, σ3, H3, I3, st3, fr3, w3⟩
  rcases turn i n σ3 H3 w3 with ⟨stop, qn⟩ | ⟨go, N, hN, step⟩
  · refine wpAny_passesOwn hp (thn (T.done X rfl rfl rfl hc i pins s3 σ3 H3 X.xe I3 (stat fr3) st3 stop) fun r s4 ⟨hr, I4⟩ => ?_)
    subst hr
    exact wpAny_execs_nil ⟨σ3, H3, I4, qn⟩
  · refine wpAny_passesOwn hp (thn (T.item X rfl rfl rfl hc i pins s3 σ3 H3 X.xe I3 (stat fr3) st3 go) fun r s4 ⟨u, hr, h4⟩ => ?_)
    subst hr
    refine wpAny_passesOwn hp (thn h4 fun _ s5 ⟨x, H5, I5, r5, y5, st5, fr5⟩ => ?_)
    have I5' := I5.pinned (stat fr5) (T.obj _ _ st5)
    refine wpAny_passesOwn hp (thn (hg _ s5 σ3 H5 x u _ I5' r5 (step x H5 y5)) fun _ s6 ⟨σ6, H6, I6, q6⟩ => ?_)
    refine wpAny_passesOwn hp (thn (hb _ s6 σ6 H6 _ I6 q6) fun f s7 q7 => ?_)
    have again : ∀ {σ7 : St} {H7 : Hp}, Inv X (pins ++ pinsAt fp s5.heap) σ7 H7 s7 → N σ7 H7 → ∃ m, m < n ∧ ∃ i σ' H', Inv X pins σ' H' s7 ∧ tn i s7.heap ∧ (∀ b ∈ fp, H' b = none) ∧ W i m σ' H' := fun {σ7 H7} I7 n7 => by
      obtain ⟨m', hm, w7⟩ := hN σ7 H7 n7
      refine ⟨m', hm, i + 1, σ7, H7, I7.unpinned, T.keep _ _ _ st5 fun b hb o e => (I7.pin (b, o) (List.mem_append_right _ (List.mem_append_right _ (mem_pinsAt hb e)))).1, fun b hb => ?_, w7⟩
      obtain ⟨o, e, d⟩ := T.obj _ _ st5 b hb
      exact (I7.pin (b, o) (List.mem_append_right _ (List.mem_append_right _ (mem_pinsAt hb e)))).2.1
    cases f with
    | next => obtain ⟨σ7, H7, I7, n7⟩ := q7; exact again I7 n7
    | cont => obtain ⟨σ7, H7, I7, n7⟩ := q7; exact again I7 n7
    | brk => obtain ⟨σ7, H7, I7, q7⟩ := q7; exact ⟨σ7, H7, I7.unpinned, q7⟩
    | ret v => obtain ⟨x7, σ7, H7, I7, r7, q7⟩ := q7; exact ⟨x7, σ7, H7, I7.unpinned, r7, q7⟩
end

/-! ### the forms one uses -/
/-- over a list that the body leaves as it is -/
theorem for_list {K : PySem.W.Frag} {a : Addr} {xs : List V} {g : TG} {tb : TS} {D : Ends} {σ : St} {H : Hp} (Pv : Nat → St → Hp → Prop) (h0 : Pv 0 σ H) (hl : ∀ i σ H, i ≤ xs.length → Pv i σ H → SqL K H a xs)
    (hs : ∀ i x σ H, xs[i]? = some x → Pv i σ H → g x σ H fun σ2 H2 => tb { D with nx := Pv (i + 1), ct := Pv (i + 1), bk := D.nx } σ2 H2) (hd : ∀ σ H, Pv xs.length σ H → D.nx σ H) :
    ∃ W : Nat → Nat → St → Hp → Prop, (∃ m, W 0 m σ H) ∧ ∀ i m σ H, W i m σ H →
      ((Itl K a).stop i H ∧ D.nx σ H) ∨ ((Itl K a).go i H ∧ ∃ N : St → Hp → Prop, (∀ σ' H', N σ' H' → ∃ m', m' < m ∧ W (i + 1) m' σ' H') ∧ ∀ x H', (Itl K a).yld i H x H' → g x σ H' fun σ2 H2 => tb { D with nx := N, ct := N, bk := D.nx } σ2 H2) := by
  refine ⟨fun i m σ H => m = xs.length - i ∧ i ≤ xs.length ∧ Pv i σ H, ⟨xs.length, by simp, Nat.zero_le _, h0⟩, ?_⟩
  rintro i m σ H ⟨rfl, hi, p⟩
  have q := hl i σ H hi p
  by_cases hlt : i < xs.length
  · refine .inr ⟨⟨xs, xs[i], q, by simp [hlt]⟩, Pv (i + 1), fun σ' H' p' => ⟨xs.length - (i + 1), by omega, rfl, hlt, p'⟩, fun x H' y => ?_⟩
    obtain ⟨e, y⟩ := y
    subst e
    exact hs i x σ _ (y xs q) p
  · have e : i = xs.length := by omega
    subst e
    exact .inl ⟨⟨xs, q, Nat.le_refl _⟩, hd σ H p⟩
theorem for_tup {K : PySem.W.Frag} {a : Addr} {xs : List V} {g : TG} {tb : TS} {D : Ends} {σ : St} {H : Hp} (Pv : Nat → St → Hp → Prop) (h0 : Pv 0 σ H) (hl : ∀ i σ H, i ≤ xs.length → Pv i σ H → SqT K H a xs)
    (hs : ∀ i x σ H, xs[i]? = some x → Pv i σ H → g x σ H fun σ2 H2 => tb { D with nx := Pv (i + 1), ct := Pv (i + 1), bk := D.nx } σ2 H2) (hd : ∀ σ H, Pv xs.length σ H → D.nx σ H) :
    ∃ W : Nat → Nat → St → Hp → Prop, (∃ m, W 0 m σ H) ∧ ∀ i m σ H, W i m σ H →
      ((Itt K a).stop i H ∧ D.nx σ H) ∨ ((Itt K a).go i H ∧ ∃ N : St → Hp → Prop, (∀ σ' H', N σ' H' → ∃ m', m' < m ∧ W (i + 1) m' σ' H') ∧ ∀ x H', (Itt K a).yld i H x H' → g x σ H' fun σ2 H2 => tb { D with nx := N, ct := N, bk := D.nx } σ2 H2) := by
  refine ⟨fun i m σ H => m = xs.length - i ∧ i ≤ xs.length ∧ Pv i σ H, ⟨xs.length, by simp, Nat.zero_le _, h0⟩, ?_⟩
  rintro i m σ H ⟨rfl, hi, p⟩
  have q := hl i σ H hi p
  by_cases hlt : i < xs.length
  · refine .inr ⟨⟨xs, xs[i], q, by simp [hlt]⟩, Pv (i + 1), fun σ' H' p' => ⟨xs.length - (i + 1), by omega, rfl, hlt, p'⟩, fun x H' y => ?_⟩
    obtain ⟨e, y⟩ := y
    subst e
    exact hs i x σ _ (y xs q) p
  · have e : i = xs.length := by omega
    subst e
    exact .inl ⟨⟨xs, q, Nat.le_refl _⟩, hd σ H p⟩
theorem for_range {lo : Int} {n : Nat} {g : TG} {tb : TS} {D : Ends} {σ : St} {H : Hp} (Pv : Nat → St → Hp → Prop) (h0 : Pv 0 σ H)
    (hs : ∀ i σ H, i < n → Pv i σ H → g (.int (lo + i)) σ H fun σ2 H2 => tb { D with nx := Pv (i + 1), ct := Pv (i + 1), bk := D.nx } σ2 H2) (hd : ∀ σ H, Pv n σ H → D.nx σ H) :
    ∃ W : Nat → Nat → St → Hp → Prop, (∃ m, W 0 m σ H) ∧ ∀ i m σ H, W i m σ H →
      ((Itr lo n).stop i H ∧ D.nx σ H) ∨ ((Itr lo n).go i H ∧ ∃ N : St → Hp → Prop, (∀ σ' H', N σ' H' → ∃ m', m' < m ∧ W (i + 1) m' σ' H') ∧ ∀ x H', (Itr lo n).yld i H x H' → g x σ H' fun σ2 H2 => tb { D with nx := N, ct := N, bk := D.nx } σ2 H2) := by
  refine ⟨fun i m σ H => m = n - i ∧ i ≤ n ∧ Pv i σ H, ⟨n, by simp, Nat.zero_le _, h0⟩, ?_⟩
  rintro i m σ H ⟨rfl, hi, p⟩
  by_cases hlt : i < n
  · refine .inr ⟨hlt, Pv (i + 1), fun σ' H' p' => ⟨n - (i + 1), by omega, rfl, hlt, p'⟩, fun x H' y => ?_⟩
    obtain ⟨e, y⟩ := y
    subst e y
    exact hs i σ _ hlt p
  · have e : i = n := by omega
    subst e
    exact .inl ⟨Nat.le_refl _, hd σ H p⟩
/-- while, by a word and a measure of the state -/
theorem while_by {c : TT} {tb : TS} {D : Ends} {σ : St} {H : Hp} (Pv : St → Hp → Prop) (μ : St → Hp → Nat) (h0 : Pv σ H)
    (hs : ∀ σ H, Pv σ H → c σ H fun b H1 => if b = true then tb { D with nx := fun σ' H' => Pv σ' H' ∧ μ σ' H' < μ σ H, ct := fun σ' H' => Pv σ' H' ∧ μ σ' H' < μ σ H, bk := D.nx } σ H1 else D.nx σ H1)
    (mono : ∀ σ H Q Q', (∀ b H1, Q b H1 → Q' b H1) → c σ H Q → c σ H Q') : tWhile c tb D σ H := by
  refine ⟨fun m σ H => m = μ σ H ∧ Pv σ H, ⟨_, rfl, h0⟩, ?_⟩
  rintro m σ H ⟨rfl, p⟩
  refine mono σ H _ _ (fun b H1 q => ?_) (hs σ H p)
  cases b with
  | true => exact ⟨_, fun σ' H' ⟨p', l⟩ => ⟨_, l, rfl, p'⟩, q⟩
  | false => exact q
end L2

namespace L2
open PySem PySem.Spec PyProof.Rows

abbrev R2 := V → V → Hp → VK → Prop
/-- a two-place operation on values: f is binaryOp op, inplaceOp op or compareOp op -/
def OpR (X : Cx) (f : Value → Value → Sem Value) (r : R2) : Prop :=
  ∀ (pins : List (Addr × Obj)) (s : Shared) (σ : St) (H : Hp) (x y : V) (v u : Value) (Q : VK), Inv X pins σ H s → RelV x v → RelV y u → r x y H Q →
    wpAny (model X.prog X.w) X.A (f v u) (EP X pins σ Q) X.xe s
/-- a one-place operation -/
def UnR (X : Cx) (f : Value → Sem Value) (r : V → Hp → VK → Prop) : Prop :=
  ∀ (pins : List (Addr × Obj)) (s : Shared) (σ : St) (H : Hp) (x : V) (v : Value) (Q : VK), Inv X pins σ H s → RelV x v → r x H Q →
    wpAny (model X.prog X.w) X.A (f v) (EP X pins σ Q) X.xe s
/-- a call of a value that is known (a builtin, a type) with values -/
def CallR (X : Cx) (f : Value) (r : List V → Hp → VK → Prop) : Prop :=
  ∀ (pins : List (Addr × Obj)) (s : Shared) (σ : St) (H : Hp) (xs : List V) (us : List Value) (Q : VK), Inv X pins σ H s → Vals xs us → r xs H Q →
    wpAny (model X.prog X.w) X.A (call f us) (EP X pins σ Q) X.xe s
/-- a value's truth -/
def TruR (X : Cx) (r : V → Hp → (Bool → Hp → Prop) → Prop) : Prop :=
  ∀ (pins : List (Addr × Obj)) (s : Shared) (σ : St) (H : Hp) (x : V) (v : Value) (Q : Bool → Hp → Prop), Inv X pins σ H s → RelV x v → r x H Q →
    wpAny (model X.prog X.w) X.A (truthy v) (TP X pins σ Q) X.xe s

def tOp (r : R2) (ta tb : TE) : TE := fun σ H Q => ta σ H fun x H1 => tb σ H1 fun y H2 => r x y H2 Q
def tUn (r : V → Hp → VK → Prop) (ta : TE) : TE := fun σ H Q => ta σ H fun x H1 => r x H1 Q
/-- ints in, under C, and a value out -/
def rI (C : Int → Int → Prop) (g : Int → Int → V) : R2 := fun x y H Q => ∃ i j, x = .int i ∧ y = .int j ∧ C i j ∧ Q (g i j) H
def rI0 (g : Int → Int → V) : R2 := fun x y H Q => ∃ i j, x = .int i ∧ y = .int j ∧ Q (g i j) H
def rU (g : Int → V) : V → Hp → VK → Prop := fun x H Q => ∃ i, x = .int i ∧ Q (g i) H

section
variable {X : Cx} {a b c : Expr} {ta tb tc : TE} {pos : Pos}

theorem binT (ha : PE X a ta) (hb : PE X b tb) {pins : List (Addr × Obj)} {s : Shared} {σ : St} {H : Hp} {R : V → V → Hp → Prop} (I : Inv X pins σ H s)
    (h : ta σ H fun x H1 => tb σ H1 fun y H2 => R x y H2) {Q : Value → Shared → Prop} {f : Value → Value → Sem Value}
    (hf : ∀ v u s2 x y H2, Inv X pins σ H2 s2 → RelV x v → RelV y u → R x y H2 → wpAny (model X.prog X.w) X.A (f v u) Q X.xe s2) :
    wpAny (model X.prog X.w) X.A (eval a X.env) (fun v s₁ => wpAny (model X.prog X.w) X.A (eval b X.env) (fun u s₂ => wpAny (model X.prog X.w) X.A (f v u) Q X.xe s₂) X.xe s₁) X.xe s := by
  refine thn (ha pins s σ H _ I h) fun v s1 ⟨x, H1, I1, r1, q1⟩ => ?_
  refine thn (hb pins s1 σ H1 _ I1 q1) fun u s2 ⟨y, H2, I2, r2, q2⟩ => ?_
  exact hf v u s2 x y H2 I2 r1 r2 q2

theorem pe_op {op : Operator} {r : R2} (ho : OpR X (binaryOp op) r) (ha : PE X a ta) (hb : PE X b tb) : PE X (.BinOp a op b pos) (tOp r ta tb) := by
  intro pins s σ H Q I h
  exact wpAny_BinOp (binT ha hb I h fun v u s2 x y H2 I2 rx ry q => ho pins s2 σ H2 x y v u Q I2 rx ry q)
theorem pe_un {op : UnaryOp} {r : V → Hp → VK → Prop} (ho : UnR X (unaryOp op) r) (ha : PE X a ta) : PE X (.UnaryOp op a pos) (tUn r ta) := by
  intro pins s σ H Q I h
  exact UnaryOp_ (thn (ha pins s σ H _ I h) fun v s1 ⟨x, H1, I1, r1, q1⟩ => ho pins s1 σ H1 x v Q I1 r1 q1)
/-- a op= e at a name: the name's slot i -/
theorem augR {op : Operator} {r : R2} (ho : OpR X (inplaceOp op) r) {pins : List (Addr × Obj)} {s : Shared} {σ : St} {H : Hp} {x y : V} {v u : Value} {Q : VK} (I : Inv X pins σ H s)
    (rx : RelV x v) (ry : RelV y u) (q : r x y H Q) : wpAny (model X.prog X.w) X.A (inplaceOp op v u) (EP X pins σ Q) X.xe s := ho pins s σ H x y v u Q I rx ry q

/-! ### ints -/
theorem opI {f : Value → Value → Sem Value} {C : Int → Int → Prop} {g : Int → Int → Int}
    (rule : ∀ (i j : Int) (t u : Tok) (s : Shared) (Q : Value → Shared → Prop) (E : Value → Shared → Prop), C i j → Q (.int (g i j) s.toks) { s with toks := s.toks + 1 } → wpAny (model X.prog X.w) X.A (f (.int i t) (.int j u)) Q E s) :
    OpR X f (rI C fun i j => .int (g i j)) := by
  intro pins s σ H x y v u Q I rx ry h
  obtain ⟨i, j, rfl, rfl, hc, q⟩ := h
  obtain ⟨t, rfl⟩ := rx
  obtain ⟨t', rfl⟩ := ry
  exact rule i j t t' s _ _ hc ⟨.int (g i j), H, I.tok _, ⟨_, rfl⟩, q⟩
theorem opI0 {f : Value → Value → Sem Value} {g : Int → Int → Int}
    (rule : ∀ (i j : Int) (t u : Tok) (s : Shared) (Q : Value → Shared → Prop) (E : Value → Shared → Prop), Q (.int (g i j) s.toks) { s with toks := s.toks + 1 } → wpAny (model X.prog X.w) X.A (f (.int i t) (.int j u)) Q E s) :
    OpR X f (rI0 fun i j => .int (g i j)) := by
  intro pins s σ H x y v u Q I rx ry h
  obtain ⟨i, j, rfl, rfl, q⟩ := h
  obtain ⟨t, rfl⟩ := rx
  obtain ⟨t', rfl⟩ := ry
  exact rule i j t t' s _ _ ⟨.int (g i j), H, I.tok _, ⟨_, rfl⟩, q⟩
theorem opB0 {f : Value → Value → Sem Value} {g : Int → Int → Bool}
    (rule : ∀ (i j : Int) (t u : Tok) (s : Shared) (Q : Value → Shared → Prop) (E : Value → Shared → Prop), Q (.bool (g i j)) s → wpAny (model X.prog X.w) X.A (f (.int i t) (.int j u)) Q E s) :
    OpR X f (rI0 fun i j => .bl (g i j)) := by
  intro pins s σ H x y v u Q I rx ry h
  obtain ⟨i, j, rfl, rfl, q⟩ := h
  obtain ⟨t, rfl⟩ := rx
  obtain ⟨t', rfl⟩ := ry
  exact rule i j t t' s _ _ ⟨.bl (g i j), H, I, rfl, q⟩

def CDiv (i j : Int) : Prop := 0 < j ∧ j < 1073741824
def CDivN (i j : Int) : Prop := j ≠ 0 ∧ j.natAbs < 1073741824
def CPow (i j : Int) : Prop := 0 ≤ j ∧ j ≤ 1000000 ∧ i.natAbs < 2 ^ 64
def CMul (i j : Int) : Prop := (-(2 ^ 64) < i ∧ i < 2 ^ 64) ∨ (-(2 ^ 64) < j ∧ j < 2 ^ 64)
theorem CMul.ok {i j : Int} (h : CMul i j) : IntMulOk i j := by
  rcases h with ⟨h1, h2⟩ | ⟨h1, h2⟩
  · exact .of_left (intBits_le_64 h1 h2)
  · exact .of_right (intBits_le_64 h1 h2)
theorem two_pow_nn (k : Nat) : (0 : Int) ≤ 2 ^ k := by
  rw [two_pow_cast]
  exact Int.natCast_nonneg _

theorem op_add : OpR X (binaryOp .Add) (rI0 fun i j => .int (i + j)) := opI0 fun _ _ _ _ _ _ _ q => add_int q
theorem op_sub : OpR X (binaryOp .Sub) (rI0 fun i j => .int (i - j)) := opI0 fun _ _ _ _ _ _ _ q => sub_int q
theorem op_mul : OpR X (binaryOp .Mult) (rI CMul fun i j => .int (i * j)) := opI fun _ _ _ _ _ _ _ hc q => mul_int q hc.ok
/-- // by a positive divisor -/
theorem op_fdiv : OpR X (binaryOp .FloorDiv) (rI CDiv fun i j => .int (i / j)) := opI fun i j _ _ _ _ _ hc q => by
  have h1 : (0 : Int) < j := hc.1
  have h2 : j < 1073741824 := hc.2
  exact floordiv_int (by omega) (by rw [Int.fdiv_eq_ediv_of_nonneg i (by omega)]; exact q) (.inl (PyProof.noPylong_small (by omega)))
theorem op_fdivN : OpR X (binaryOp .FloorDiv) (rI CDivN fun i j => .int (i.fdiv j)) := opI fun _ _ _ _ _ _ _ hc q => floordiv_int hc.1 q (.inl (PyProof.noPylong_small hc.2))
/-- % by a positive divisor of any size -/
theorem op_mod : OpR X (binaryOp .Mod) (rI (fun _ j => 0 < j) fun i j => .int (i % j)) := opI fun i j _ _ _ _ _ hc q => by
  have h1 : (0 : Int) < j := hc
  exact mod_int' (by omega) (by rw [Int.fmod_eq_emod_of_nonneg i (by omega)]; exact q)
theorem op_modN : OpR X (binaryOp .Mod) (rI (fun _ j => j ≠ 0) fun i j => .int (i.fmod j)) := opI fun _ _ _ _ _ _ _ hc q => mod_int' hc q
theorem op_pow : OpR X (binaryOp .Pow) (rI CPow fun i j => .int (i ^ j.toNat)) := opI fun _ _ _ _ _ _ _ hc q => pow_int_small hc.1 hc.2.1 hc.2.2 q
theorem op_shl : OpR X (binaryOp .LShift) (rI CPow fun i j => .int (i * 2 ^ j.toNat)) := opI fun _ _ _ _ _ _ _ hc q => lshift_int_small hc.1 hc.2.1 hc.2.2 q
theorem op_shr : OpR X (binaryOp .RShift) (rI (fun _ j => 0 ≤ j) fun i j => .int (i / 2 ^ j.toNat)) := opI fun i j _ _ _ _ _ hc q =>
  rshift_int hc (by rw [Int.fdiv_eq_ediv_of_nonneg i (two_pow_nn _)]; exact q)
theorem op_and : OpR X (binaryOp .BitAnd) (rI0 fun i j => .int (Builtin.bitAnd i j)) := opI0 fun _ _ _ _ _ _ _ q => and_int q
theorem op_or : OpR X (binaryOp .BitOr) (rI0 fun i j => .int (Builtin.bitOr i j)) := opI0 fun _ _ _ _ _ _ _ q => or_int q
theorem op_xor : OpR X (binaryOp .BitXor) (rI0 fun i j => .int (Builtin.bitXor i j)) := opI0 fun _ _ _ _ _ _ _ q => xor_int q

theorem iop_add : OpR X (inplaceOp .Add) (rI0 fun i j => .int (i + j)) := opI0 fun _ _ _ _ _ _ _ q => iadd_int q
theorem iop_sub : OpR X (inplaceOp .Sub) (rI0 fun i j => .int (i - j)) := opI0 fun _ _ _ _ _ _ _ q => isub_int q
theorem iop_mul : OpR X (inplaceOp .Mult) (rI CMul fun i j => .int (i * j)) := opI fun _ _ _ _ _ _ _ hc q => imul_int q hc.ok
theorem iop_fdiv : OpR X (inplaceOp .FloorDiv) (rI CDiv fun i j => .int (i / j)) := opI fun i j _ _ _ _ _ hc q => by
  have h1 : (0 : Int) < j := hc.1
  have h2 : j < 1073741824 := hc.2
  exact ifloordiv_int (by omega) (by rw [Int.fdiv_eq_ediv_of_nonneg i (by omega)]; exact q) (.inl (PyProof.noPylong_small (by omega)))
theorem iop_mod : OpR X (inplaceOp .Mod) (rI (fun _ j => 0 < j) fun i j => .int (i % j)) := opI fun i j _ _ _ _ _ hc q => by
  have h1 : (0 : Int) < j := hc
  exact imod_int (by omega) (by rw [Int.fmod_eq_emod_of_nonneg i (by omega)]; exact q)
theorem iop_shl : OpR X (inplaceOp .LShift) (rI CPow fun i j => .int (i * 2 ^ j.toNat)) := opI fun _ _ _ _ _ _ _ hc q => ilshift_int_small hc.1 hc.2.1 hc.2.2 q
theorem iop_shr : OpR X (inplaceOp .RShift) (rI (fun _ j => 0 ≤ j) fun i j => .int (i / 2 ^ j.toNat)) := opI fun i j _ _ _ _ _ hc q =>
  irshift_int hc (by rw [Int.fdiv_eq_ediv_of_nonneg i (two_pow_nn _)]; exact q)
theorem iop_and : OpR X (inplaceOp .BitAnd) (rI0 fun i j => .int (Builtin.bitAnd i j)) := opI0 fun _ _ _ _ _ _ _ q => iand_int q
theorem iop_or : OpR X (inplaceOp .BitOr) (rI0 fun i j => .int (Builtin.bitOr i j)) := opI0 fun _ _ _ _ _ _ _ q => ior_int q
theorem iop_xor : OpR X (inplaceOp .BitXor) (rI0 fun i j => .int (Builtin.bitXor i j)) := opI0 fun _ _ _ _ _ _ _ q => ixor_int q

theorem unI {f : Value → Sem Value} {g : Int → Int}
    (rule : ∀ (i : Int) (t : Tok) (s : Shared) (Q : Value → Shared → Prop) (E : Value → Shared → Prop), Q (.int (g i) s.toks) { s with toks := s.toks + 1 } → wpAny (model X.prog X.w) X.A (f (.int i t)) Q E s) :
    UnR X f (rU fun i => .int (g i)) := by
  intro pins s σ H x v Q I rx h
  obtain ⟨i, rfl, q⟩ := h
  obtain ⟨t, rfl⟩ := rx
  exact rule i t s _ _ ⟨.int (g i), H, I.tok _, ⟨_, rfl⟩, q⟩
theorem un_neg : UnR X (unaryOp .USub) (rU fun i => .int (-i)) := unI fun _ _ _ _ _ q => neg_int q
theorem un_inv : UnR X (unaryOp .Invert) (rU fun i => .int (Builtin.bitNot i)) := unI fun _ _ _ _ _ q => invert_int q

/-! ### bools among ints: n += (a < b) -/
theorem op_add_ib : OpR X (binaryOp .Add) (fun x y H Q => ∃ i k, x = .int i ∧ y = .bl k ∧ Q (.int (i + b2i k)) H) := by
  intro pins s σ H x y v u Q I rx ry h
  obtain ⟨i, k, rfl, rfl, q⟩ := h
  obtain ⟨t, rfl⟩ := rx
  cases ry
  exact add_int_bool ⟨.int (i + b2i k), H, I.tok _, ⟨_, rfl⟩, q⟩
end

/-! ### comparisons -/
/-- the scalars that == tells apart as data does -/
def scal : V → V → Bool
  | .non, .non => true | .non, .int _ => true | .int _, .non => true | .non, .bl _ => true | .bl _, .non => true | .non, .str _ => true | .str _, .non => true
  | .int _, .int _ => true | .bl _, .bl _ => true | .str _, .str _ => true | .byt _, .byt _ => true
  | .int _, .str _ => true | .str _, .int _ => true | .bl _, .str _ => true | .str _, .bl _ => true
  | _, _ => false
def rEq : R2 := fun x y H Q => scal x y = true ∧ Q (.bl (decide (x = y))) H
def rNe : R2 := fun x y H Q => scal x y = true ∧ Q (.bl (!decide (x = y))) H

theorem dec_int {i j : Int} : decide (V.int i = V.int j) = (i == j) := by
  rw [Bool.eq_iff_iff]
  simp
theorem dec_bl {i j : Bool} : decide (V.bl i = V.bl j) = (i == j) := by
  rw [Bool.eq_iff_iff]
  simp
theorem dec_str {i j : Str} : decide (V.str i = V.str j) = (i == j) := by
  rw [Bool.eq_iff_iff]
  simp
theorem dec_byt {i j : Array UInt8} : decide (V.byt i = V.byt j) = (i.toList == j.toList) := by
  rw [Bool.eq_iff_iff]
  cases i
  cases j
  simp

section
variable {X : Cx} {a b c : Expr} {ta tb tc : TE} {pos : Pos}
theorem fin_bl {pins : List (Addr × Obj)} {σ : St} {H : Hp} {s : Shared} {Q : VK} {k k' : Bool} (I : Inv X pins σ H s) (q : Q (.bl k) H) (e : k = k') : EP X pins σ Q (.bool k') s := by
  subst e
  exact ⟨.bl k, H, I, rfl, q⟩
theorem op_eq : OpR X (compareOp .Eq) rEq := by
  intro pins s σ H x y v u Q I rx ry h
  obtain ⟨hs, q⟩ := h
  cases x with
  | non =>
    cases rx
    cases y with
    | non => cases ry; exact PySem.EqNone.eq_none_none (fin_bl I q (by simp))
    | bl j => cases ry; exact PySem.EqNone.eq_none_bool (fin_bl I q (by simp))
    | int j => obtain ⟨t', rfl⟩ := ry; exact PySem.EqNone.eq_none_int (fin_bl I q (by simp))
    | str j => obtain ⟨t', rfl⟩ := ry; exact PySem.EqNone.eq_none_str (fin_bl I q (by simp))
    | _ => exact absurd (show false = true from hs) Bool.false_ne_true
  | bl i =>
    cases rx
    cases y with
    | non => cases ry; exact PySem.EqNone.eq_bool_none (fin_bl I q (by simp))
    | bl j => cases ry; exact eq_bool (fin_bl I q dec_bl)
    | str j => obtain ⟨t', rfl⟩ := ry; exact PySem.EqMixed.eq_bool_str (fin_bl I q (by simp))
    | _ => exact absurd (show false = true from hs) Bool.false_ne_true
  | int i =>
    obtain ⟨t, rfl⟩ := rx
    cases y with
    | non => cases ry; exact PySem.EqNone.eq_int_none (fin_bl I q (by simp))
    | int j => obtain ⟨t', rfl⟩ := ry; exact eq_int (fin_bl I q dec_int)
    | str j => obtain ⟨t', rfl⟩ := ry; exact PySem.EqMixed.eq_int_str (fin_bl I q (by simp))
    | _ => exact absurd (show false = true from hs) Bool.false_ne_true
  | str i =>
    obtain ⟨t, rfl⟩ := rx
    cases y with
    | non => cases ry; exact PySem.EqNone.eq_str_none (fin_bl I q (by simp))
    | bl j => cases ry; exact PySem.EqMixed.eq_str_bool (fin_bl I q (by simp))
    | int j => obtain ⟨t', rfl⟩ := ry; exact PySem.EqMixed.eq_str_int (fin_bl I q (by simp))
    | str j => obtain ⟨t', rfl⟩ := ry; exact eq_str (fin_bl I q dec_str)
    | _ => exact absurd (show false = true from hs) Bool.false_ne_true
  | byt i =>
    obtain ⟨t, rfl⟩ := rx
    cases y with
    | byt j => obtain ⟨t', rfl⟩ := ry; exact PySem.W.eq_bytes (fin_bl I q dec_byt)
    | _ => exact absurd (show false = true from hs) Bool.false_ne_true
  | _ => cases y <;> exact absurd (show false = true from hs) Bool.false_ne_true
theorem op_ne : OpR X (compareOp .NotEq) rNe := by
  intro pins s σ H x y v u Q I rx ry h
  obtain ⟨hs, q⟩ := h
  cases x with
  | non =>
    cases rx
    cases y with
    | non => cases ry; exact PySem.EqNone.ne_none_none (fin_bl I q (by simp))
    | bl j => cases ry; exact PySem.EqNone.ne_none_bool (fin_bl I q (by simp))
    | int j => obtain ⟨t', rfl⟩ := ry; exact PySem.EqNone.ne_none_int (fin_bl I q (by simp))
    | str j => obtain ⟨t', rfl⟩ := ry; exact PySem.EqNone.ne_none_str (fin_bl I q (by simp))
    | _ => exact absurd (show false = true from hs) Bool.false_ne_true
  | bl i =>
    cases rx
    cases y with
    | non => cases ry; exact PySem.EqNone.ne_bool_none (fin_bl I q (by simp))
    | bl j => cases ry; exact ne_bool (fin_bl I q (congrArg not dec_bl))
    | str j => obtain ⟨t', rfl⟩ := ry; exact PySem.EqMixed.ne_bool_str (fin_bl I q (by simp))
    | _ => exact absurd (show false = true from hs) Bool.false_ne_true
  | int i =>
    obtain ⟨t, rfl⟩ := rx
    cases y with
    | non => cases ry; exact PySem.EqNone.ne_int_none (fin_bl I q (by simp))
    | int j => obtain ⟨t', rfl⟩ := ry; exact ne_int (fin_bl I q (congrArg not dec_int))
    | str j => obtain ⟨t', rfl⟩ := ry; exact PySem.EqMixed.ne_int_str (fin_bl I q (by simp))
    | _ => exact absurd (show false = true from hs) Bool.false_ne_true
  | str i =>
    obtain ⟨t, rfl⟩ := rx
    cases y with
    | non => cases ry; exact PySem.EqNone.ne_str_none (fin_bl I q (by simp))
    | bl j => cases ry; exact PySem.EqMixed.ne_str_bool (fin_bl I q (by simp))
    | int j => obtain ⟨t', rfl⟩ := ry; exact PySem.EqMixed.ne_str_int (fin_bl I q (by simp))
    | str j => obtain ⟨t', rfl⟩ := ry; exact ne_str (fin_bl I q (congrArg not dec_str))
    | _ => exact absurd (show false = true from hs) Bool.false_ne_true
  | byt i =>
    obtain ⟨t, rfl⟩ := rx
    cases y with
    | byt j => obtain ⟨t', rfl⟩ := ry; exact PySem.W.ne_bytes (fin_bl I q (congrArg not dec_byt))
    | _ => exact absurd (show false = true from hs) Bool.false_ne_true
  | _ => cases y <;> exact absurd (show false = true from hs) Bool.false_ne_true

theorem op_lt : OpR X (compareOp .Lt) (rI0 fun i j => .bl (decide (i < j))) := opB0 fun _ _ _ _ _ _ _ q => lt_int q
theorem op_le : OpR X (compareOp .LtE) (rI0 fun i j => .bl (decide (i ≤ j))) := opB0 fun _ _ _ _ _ _ _ q => le_int q
theorem op_gt : OpR X (compareOp .Gt) (rI0 fun i j => .bl (decide (j < i))) := opB0 fun _ _ _ _ _ _ _ q => gt_int q
theorem op_ge : OpR X (compareOp .GtE) (rI0 fun i j => .bl (decide (j ≤ i))) := opB0 fun _ _ _ _ _ _ _ q => ge_int q
theorem op_lt_str : OpR X (compareOp .Lt) (fun x y H Q => ∃ i j, x = .str i ∧ y = .str j ∧ Q (.bl (decide (i.cps.toList < j.cps.toList))) H) := by
  intro pins s σ H x y v u Q I rx ry h
  obtain ⟨i, j, rfl, rfl, q⟩ := h
  obtain ⟨t, rfl⟩ := rx
  obtain ⟨t', rfl⟩ := ry
  exact lt_str (fin_bl I q rfl)
/-- the one string within the other -/
theorem op_in_str : OpR X (compareOp .In) (fun x y H Q => ∃ i j, x = .str i ∧ y = .str j ∧ Q (.bl (!(Builtin.Str.occurrences j i 0 j.length 1).isEmpty)) H) := by
  intro pins s σ H x y v u Q I rx ry h
  obtain ⟨i, j, rfl, rfl, q⟩ := h
  obtain ⟨t, rfl⟩ := rx
  obtain ⟨t', rfl⟩ := ry
  exact in_str (fin_bl I q rfl)

/-- is None, is not None: the right side a value none -/
theorem op_isN : OpR X (compareOp .Is) (fun x y H Q => y = .non ∧ Q (.bl (decide (x = .non))) H) := by
  intro pins s σ H x y v u Q I rx ry h
  obtain ⟨rfl, q⟩ := h
  cases ry
  refine is_none_gen (fin_bl I q ?_)
  cases x <;> first
    | (cases rx; rfl)
    | (obtain ⟨t, rfl⟩ := rx; rfl)
theorem op_notN : OpR X (compareOp .IsNot) (fun x y H Q => y = .non ∧ Q (.bl (!decide (x = .non))) H) := by
  intro pins s σ H x y v u Q I rx ry h
  obtain ⟨rfl, q⟩ := h
  cases ry
  refine isnot_none_gen (fin_bl I q ?_)
  cases x <;> first
    | (cases rx; rfl)
    | (obtain ⟨t, rfl⟩ := rx; rfl)

theorem op_notin_str : OpR X (compareOp .NotIn) (fun x y H Q => ∃ i j, x = .str i ∧ y = .str j ∧ Q (.bl (!(!(Builtin.Str.occurrences j i 0 j.length 1).isEmpty))) H) := by
  intro pins s σ H x y v u Q I rx ry h
  obtain ⟨i, j, rfl, rfl, q⟩ := h
  obtain ⟨t, rfl⟩ := rx
  obtain ⟨t', rfl⟩ := ry
  exact notIn_str (fin_bl I q rfl)
/-- is, is not of two objects that are tracked lists or instances -/
def isObj : HO → Bool
  | .lst _ => true
  | .ins _ _ _ => true
  | _ => false
theorem obj_there {pins : List (Addr × Obj)} {s : Shared} {σ : St} {H : Hp} {a : Addr} {o : HO} (I : Inv X pins σ H s) (h : H a = some o) (p : isObj o = true) : ∃ ob, s.heap.get? a = some ob ∧ ob.cls ≠ .type "tuple" := by
  cases o with
  | lst xs =>
    obtain ⟨_, its, n, _, e⟩ : xs.length ≤ sizeLine ∧ ∃ (its : List Value) (n : Nat), Vals xs its ∧ s.heap.get? a = some { cls := .type "list", data := .seq its.toArray n } := I.hok a _ h
    exact ⟨_, e, (by show Value.type "list" ≠ .type "tuple"; decide +kernel)⟩
  | ins C dx fs =>
    have x := I.hok a _ h
    obtain ⟨_, _, _, e, _⟩ := x
    exact ⟨_, e, (by show Value.ref C ≠ .type "tuple"; exact fun z => by cases z)⟩
  | _ => exact absurd (show false = true from p) Bool.false_ne_true
theorem op_is_ref : OpR X (compareOp .Is) (fun x y H Q => ∃ a b oa ob, x = .ref a ∧ y = .ref b ∧ H a = some oa ∧ isObj oa = true ∧ H b = some ob ∧ isObj ob = true ∧ Q (.bl (decide (a = b))) H) := by
  intro pins s σ H x y v u Q I rx ry h
  obtain ⟨a, b, oa, ob, rfl, rfl, ha, pa, hb, pb, q⟩ := h
  cases rx
  cases ry
  obtain ⟨o1, e1, n1⟩ := obj_there I ha pa
  obtain ⟨o2, e2, _⟩ := obj_there I hb pb
  by_cases z : a = b
  · subst z
    exact wpAny_is_ref_self (fin_bl I q (by simp))
  · exact wpAny_is_ref_other z e1 e2 n1 (fin_bl I q (by simp [z]))
theorem op_isnot_ref : OpR X (compareOp .IsNot) (fun x y H Q => ∃ a b oa ob, x = .ref a ∧ y = .ref b ∧ H a = some oa ∧ isObj oa = true ∧ H b = some ob ∧ isObj ob = true ∧ Q (.bl (!decide (a = b))) H) := by
  intro pins s σ H x y v u Q I rx ry h
  obtain ⟨a, b, oa, ob, rfl, rfl, ha, pa, hb, pb, q⟩ := h
  cases rx
  cases ry
  obtain ⟨o1, e1, n1⟩ := obj_there I ha pa
  obtain ⟨o2, e2, _⟩ := obj_there I hb pb
  by_cases z : a = b
  · subst z
    exact wpAny_isNot_ref_self (fin_bl I q (by simp))
  · exact wpAny_isNot_ref_other z e1 e2 n1 (fin_bl I q (by simp [z]))

/-- two rules for one operation: by cases -/
theorem OpR.or {f : Value → Value → Sem Value} {r r' : R2} (h : OpR X f r) (h' : OpR X f r') : OpR X f (fun x y H Q => r x y H Q ∨ r' x y H Q) := by
  intro pins s σ H x y v u Q I rx ry q
  rcases q with q | q
  · exact h pins s σ H x y v u Q I rx ry q
  · exact h' pins s σ H x y v u Q I rx ry q

theorem nomark (b : Expr) {op : CmpOp} (h : op ≠ .In := by decide) (h2 : op ≠ .NotIn := by decide) : behindInMarks op b = false := by
  have e1 : (op == CmpOp.In) = false := by cases op <;> first | rfl | exact absurd rfl h
  have e2 : (op == CmpOp.NotIn) = false := by cases op <;> first | rfl | exact absurd rfl h2
  cases b <;> simp [behindInMarks, e1, e2]
/-- a comparison as a value; hm: nomark b, or (for in, not in) by with_unfolding_all rfl -/
theorem pe_cmpR {op : CmpOp} {r : R2} (ho : OpR X (compareOp op) r) (ha : PE X a ta) (hb : PE X b tb) (hm : behindInMarks op b = false) : PE X (.Compare a [op] [b] pos) (tOp r ta tb) := by
  intro pins s σ H Q I h
  exact wpAny_Compare1 (binT ha hb I h fun v u s2 x y H2 I2 rx ry q => ho pins s2 σ H2 x y v u Q I2 rx ry q) hm
/-- a reading of a value as a test -/
def tTest (t : TE) : TT := fun σ H Q => t σ H fun x H' => ∃ k, x = .bl k ∧ Q k H'
theorem pt_cmpR {op : CmpOp} {r : R2} (ho : OpR X (compareOp op) r) (ha : PE X a ta) (hb : PE X b tb) (hm : behindInMarks op b = false) : PT X (.Compare a [op] [b] pos) (tTest (tOp r ta tb)) := by
  intro pins s σ H Q I h
  refine wpAny_isTrue_Compare1 (thn (ha pins s σ H _ I h) fun v s1 ⟨x, H1, I1, r1, q1⟩ => thn (hb pins s1 σ H1 _ I1 q1) fun u s2 ⟨y, H2, I2, r2, q2⟩ =>
    thn (ho pins s2 σ H2 x y v u _ I2 r1 r2 q2) fun c s3 ⟨z, H3, I3, r3, k, e, q3⟩ => ?_) hm
  subst e
  cases r3
  exact wpAny_truthy_bool ⟨H3, I3, q3⟩
/-- a op1 b op2 c -/
def tChain (r r' : R2) (ta tb tc : TE) : TE := fun σ H Q => ta σ H fun x H1 => tb σ H1 fun y H2 => r x y H2 fun z H3 => ∃ k, z = .bl k ∧
  (if k = true then tc σ H3 fun w' H4 => r' y w' H4 Q else Q (.bl false) H3)
theorem pe_chain {op op' : CmpOp} {r r' : R2} (ho : OpR X (compareOp op) r) (ho' : OpR X (compareOp op') r') (ha : PE X a ta) (hb : PE X b tb) (hc : PE X c tc)
    (hm : lastMarks [op, op'] [b, c] = false := by with_unfolding_all rfl) : PE X (.Compare a [op, op'] [b, c] pos) (tChain r r' ta tb tc) := by
  intro pins s σ H Q I h
  refine Compare_chain (thn (ha pins s σ H _ I h) fun v s1 ⟨x, H1, I1, r1, q1⟩ => chain_link (thn (hb pins s1 σ H1 _ I1 q1) fun u s2 ⟨y, H2, I2, r2, q2⟩ =>
    thn (ho pins s2 σ H2 x y v u _ I2 r1 r2 q2) fun d s3 ⟨z, H3, I3, r3, k, e, q3⟩ => ?_)) hm
  subst e
  cases r3
  refine wpAny_truthy_bool ?_
  cases k with
  | false => exact ite_ff ⟨.bl false, H3, I3, rfl, q3⟩
  | true => exact ite_tt (chain_last (thn (hc pins s3 σ H3 _ I3 q3) fun w' s4 ⟨z', H4, I4, r4, q4⟩ => ho' pins s4 σ H4 y z' u w' Q I4 r2 r4 q4))
theorem pt_chain {op op' : CmpOp} {r r' : R2} (ho : OpR X (compareOp op) r) (ho' : OpR X (compareOp op') r') (ha : PE X a ta) (hb : PE X b tb) (hc : PE X c tc)
    (hm : lastMarks [op, op'] [b, c] = false := by with_unfolding_all rfl) : PT X (.Compare a [op, op'] [b, c] pos) (tTest (tChain r r' ta tb tc)) := by
  intro pins s σ H Q I h
  refine isTrue_chain (thn (ha pins s σ H _ I h) fun v s1 ⟨x, H1, I1, r1, q1⟩ => test_link (thn (hb pins s1 σ H1 _ I1 q1) fun u s2 ⟨y, H2, I2, r2, q2⟩ =>
    thn (ho pins s2 σ H2 x y v u _ I2 r1 r2 q2) fun d s3 ⟨z, H3, I3, r3, k, e, q3⟩ => ?_)) hm
  subst e
  cases r3
  refine wpAny_truthy_bool ?_
  cases k with
  | false =>
    obtain ⟨k', e', q'⟩ := q3
    cases e'
    exact ite_ff ⟨H3, I3, q'⟩
  | true =>
    refine ite_tt (test_last (thn (hc pins s3 σ H3 _ I3 q3) fun w' s4 ⟨z', H4, I4, r4, q4⟩ => thn (ho' pins s4 σ H4 y z' u w' _ I4 r2 r4 q4) fun d' s5 ⟨z2, H5, I5, r5, k2, e2, q5⟩ => ?_))
    subst e2
    cases r5
    exact wpAny_truthy_bool ⟨H5, I5, q5⟩

/-! ### truth -/
/-- a value's truth by the abstract heap -/
def TruV (K : PySem.W.Frag) (x : V) (H : Hp) (k : Bool) : Prop :=
  match x with
  | .non => k = false
  | .bl b => k = b
  | .int i => k = (i != 0)
  | .str y => y.length ≤ sizeLine ∧ k = ((y.length : Int) != 0)
  | .byt y => y.size ≤ sizeLine ∧ k = ((y.size : Int) != 0)
  | .ref p => (∃ xs, SqL K H p xs ∧ k = !xs.isEmpty) ∨ (∃ xs, SqT K H p xs ∧ k = !xs.isEmpty) ∨ ∃ kvs, H p = some (.dK kvs) ∧ k = !kvs.isEmpty
  | _ => False
theorem isEmpty_kv {κ : Type} {kvs : List (κ × V)} {vs : List (κ × Value)} (r : KV kvs vs) : (!vs.isEmpty) = !kvs.isEmpty := by
  cases r <;> rfl
theorem isEmpty_of {xs : List V} {its : List Value} (r : Vals xs its) : (!its.toArray.isEmpty) = !xs.isEmpty := by
  cases r <;> simp
theorem line63 : (sizeLine : Nat) < 2 ^ 63 := by rw [sizeLine_eq]; decide
theorem tru_ok : TruR X (fun x H Q => ∃ k, TruV X.K x H k ∧ Q k H) := by
  intro pins s σ H x v Q I rx h
  obtain ⟨k, e, q⟩ := h
  have hl := line63
  have hs : sizeLine = 16777216 := sizeLine_eq
  cases x with
  | non =>
    cases rx
    have e' : k = false := e
    subst e'
    exact truthy_none ⟨H, I, q⟩
  | bl b =>
    cases rx
    have e' : k = b := e
    subst e'
    exact wpAny_truthy_bool ⟨H, I, q⟩
  | int i =>
    obtain ⟨t, rfl⟩ := rx
    have e' : k = (i != 0) := e
    subst e'
    exact PySem.P.truthy_int ⟨H, I, q⟩
  | str y =>
    obtain ⟨t, rfl⟩ := rx
    obtain ⟨hy, e'⟩ : y.length ≤ sizeLine ∧ k = ((y.length : Int) != 0) := e
    subst e'
    exact PySem.P.truthy_str (by omega) ⟨H, I.tok _, q⟩
  | byt y =>
    obtain ⟨t, rfl⟩ := rx
    obtain ⟨hy, e'⟩ : y.size ≤ sizeLine ∧ k = ((y.size : Int) != 0) := e
    subst e'
    exact PySem.W.truthy_bytes (by omega) ⟨H, I.tok _, q⟩
  | ref p =>
    cases rx
    have e' : (∃ xs, SqL X.K H p xs ∧ k = !xs.isEmpty) ∨ (∃ xs, SqT X.K H p xs ∧ k = !xs.isEmpty) ∨ ∃ kvs, H p = some (.dK kvs) ∧ k = !kvs.isEmpty := e
    rcases e' with ⟨xs, hx, e'⟩ | ⟨xs, hx, e'⟩ | ⟨kvs, hx, e'⟩
    · subst e'
      obtain ⟨its, r, pl, hz⟩ := I.list hx
      have hlen := r.length
      exact wpAny_truthy_list pl.isList (by simp only [List.size_toArray]; omega) ⟨H, I.tok _, by rw [isEmpty_of r]; exact q⟩
    · subst e'
      obtain ⟨its, r, pl, hz⟩ := I.tuple hx
      have hlen := r.length
      exact truthy_tuple pl (by simp only [List.size_toArray]; omega) ⟨H, I.tok _, by rw [isEmpty_of r]; exact q⟩
    · subst e'
      obtain ⟨hz, hS, vs, r, m⟩ : kvs.length ≤ sizeLine ∧ (p == sysModules) = false ∧ ∃ vs, KV kvs vs ∧ s.heap.DictOf (mixKind X.prog X.w) p vs := I.hok p _ hx
      have hlen : kvs.length = vs.length := Paired.length r
      exact wpAny_truthy_dict hS m (by omega) ⟨H, I.tok _, by rw [isEmpty_kv r]; exact q⟩
  | _ => exact (show False from e).elim
/-- any expression whose test is its value's truth (a name, a call, a subscript, a field ..: he by fun _ => rfl) -/
theorem pt_truth (ha : PE X a ta) (he : ∀ whole, isTrue a X.env whole = (do let v ← whole; standAt a.pos; holding [v] (truthy v))) :
    PT X a (fun σ H Q => ta σ H fun x H' => ∃ k, TruV X.K x H' k ∧ Q k H') := by
  intro pins s σ H Q I h
  exact isTrue_plain (thn (ha pins s σ H _ I h) fun v s1 ⟨x, H1, I1, r1, q1⟩ => tru_ok pins s1 σ H1 x v Q I1 r1 q1) (he _)

/-! ### strs and bytes -/
theorem pe_byt {x : List UInt8} {k : Nat} : PE X (.Constant (.bytes x) k pos) (fun _ H Q => Q (.byt x.toArray) H) := fun _ _ _ H _ I h => PySem.W.Constant_bytes ⟨.byt x.toArray, H, I.tok _, ⟨_, rfl⟩, h⟩
theorem op_add_str : OpR X (binaryOp .Add) (fun x y H Q => ∃ i j, x = .str i ∧ y = .str j ∧ i.length + j.length ≤ sizeLine ∧ Q (.str (i ++ j)) H) := by
  intro pins s σ H x y v u Q I rx ry h
  obtain ⟨i, j, rfl, rfl, hz, q⟩ := h
  obtain ⟨t, rfl⟩ := rx
  obtain ⟨t', rfl⟩ := ry
  exact add_str (fun t' tk => ⟨.str (i ++ j), H, I.tok _, ⟨_, rfl⟩, q⟩) hz
theorem iop_add_str : OpR X (inplaceOp .Add) (fun x y H Q => ∃ i j, x = .str i ∧ y = .str j ∧ i.length + j.length ≤ sizeLine ∧ Q (.str (i ++ j)) H) := by
  intro pins s σ H x y v u Q I rx ry h
  obtain ⟨i, j, rfl, rfl, hz, q⟩ := h
  obtain ⟨t, rfl⟩ := rx
  obtain ⟨t', rfl⟩ := ry
  exact iadd_str (fun t' tk => ⟨.str (i ++ j), H, I.tok _, ⟨_, rfl⟩, q⟩) hz
theorem op_add_byt : OpR X (binaryOp .Add) (fun x y H Q => ∃ i j, x = .byt i ∧ y = .byt j ∧ i.size + j.size ≤ 16777216 ∧ Q (.byt (i ++ j)) H) := by
  intro pins s σ H x y v u Q I rx ry h
  obtain ⟨i, j, rfl, rfl, hz, q⟩ := h
  obtain ⟨t, rfl⟩ := rx
  obtain ⟨t', rfl⟩ := ry
  exact PySem.W.KBy.add_bytes hz (fun t' tk => ⟨.byt (i ++ j), H, I.tok _, ⟨_, rfl⟩, q⟩)

def PlainIxT (b : Expr) : Prop := ∀ o i, subscripted b false o i = operate [o, i] (getItem o i)
/-- s[i], 0 ≤ i < len -/
theorem pe_item_str (ha : PE X a ta) (hb : PE X b tb) (hs : PlainIxT b) :
    PE X (.Subscript a b pos) (tOp (fun x y H Q => ∃ z i c, x = .str z ∧ y = .int i ∧ 0 ≤ i ∧ i < 2 ^ 63 ∧ i < z.length ∧ z.cps[i.toNat]? = some c ∧ Q (.str ⟨#[c]⟩) H) ta tb) := by
  intro pins s σ H Q I h
  refine Subscript_ (binT ha hb I h fun v u s2 x y H2 I2 rx ry q => ?_)
  obtain ⟨z, i, c, rfl, rfl, h0, h63, h1, hc, q⟩ := q
  obtain ⟨t, rfl⟩ := rx
  obtain ⟨t', rfl⟩ := ry
  have e : seqIndex? i z.length = some i.toNat := PySem.StrLaws.seqIndex_nonneg h0 h1
  exact tail_any (typeIs_str s2 z t) slot_str_getitem.lookup (getItem_str (c := c) (by
    have e1 : decide (i < -(2 ^ 63 : Int)) = false := decide_eq_false (by omega)
    have e2 : decide (i ≥ 2 ^ 63) = false := decide_eq_false (by omega)
    rw [e1, e2] <;> rfl) (by rw [e]; exact hc) ⟨.str ⟨#[c]⟩, H2, I2.tok _, ⟨_, rfl⟩, q⟩) (hs _ _)
/-- b[i], 0 ≤ i < len -/
theorem pe_item_byt (ha : PE X a ta) (hb : PE X b tb) (hs : PlainIxT b) :
    PE X (.Subscript a b pos) (tOp (fun x y H Q => ∃ (z : List UInt8) (i : Int), x = .byt z.toArray ∧ y = .int i ∧ z.length ≤ sizeLine ∧ 0 ≤ i ∧ i < z.length ∧ Q (.int ((z.getD i.toNat 0).toNat : Nat)) H) ta tb) := by
  intro pins s σ H Q I h
  refine Subscript_ (binT ha hb I h fun v u s2 x y H2 I2 rx ry q => ?_)
  obtain ⟨z, i, rfl, rfl, hz, h0, h1, q⟩ := q
  obtain ⟨t, rfl⟩ := rx
  obtain ⟨t', rfl⟩ := ry
  have hl : sizeLine = 16777216 := sizeLine_eq
  exact tail_any (PySem.W.typeIs_bytes s2 z.toArray t) PySem.W.FB.slot_bytes_getitem.lookup (PySem.W.getItem_bytes (by omega) h0 h1 ⟨.int ((z.getD i.toNat 0).toNat : Nat), H2, I2.tok _, ⟨_, rfl⟩, q⟩) (hs _ _)

/-! ### scalar builtins, by CallR -/
theorem vals1 {x : V} {us : List Value} (r : Vals [x] us) : ∃ u, us = [u] ∧ RelV x u := by
  cases r with
  | cons r1 r2 => cases r2; exact ⟨_, rfl, r1⟩
theorem vals2 {x y : V} {us : List Value} (r : Vals [x, y] us) : ∃ u w', us = [u, w'] ∧ RelV x u ∧ RelV y w' := by
  cases r with
  | cons r1 r2 =>
    cases r2 with
    | cons r3 r4 => cases r4; exact ⟨_, _, rfl, r1, r3⟩
theorem call_abs : CallR X (.builtin "abs") (fun xs H Q => ∃ i, xs = [.int i] ∧ Q (.int (if i < 0 then -i else i)) H) := by
  intro pins s σ H xs us Q I r h
  obtain ⟨i, rfl, q⟩ := h
  obtain ⟨u, rfl, t, rfl⟩ := vals1 r
  exact call_abs_int fun u tk => ⟨.int (if i < 0 then -i else i), H, I.tok _, ⟨_, rfl⟩, q⟩
theorem call_max2 (hc : X.calm = true) : CallR X (.builtin "max") (fun xs H Q => ∃ i j, xs = [.int i, .int j] ∧ Q (.int (if j > i then j else i)) H) := by
  intro pins s σ H xs us Q I r h
  obtain ⟨i, j, rfl, q⟩ := h
  obtain ⟨u, w', rfl, ⟨t, rfl⟩, ⟨t', rfl⟩⟩ := vals2 r
  refine max_two_ints (I.ok.hd hc) fun h' tk k => ⟨_, H, I.kept k, ?_, q⟩
  by_cases hj : j > i
  · rw [if_pos hj, if_pos hj]; exact ⟨_, rfl⟩
  · rw [if_neg hj, if_neg hj]; exact ⟨_, rfl⟩
theorem call_min2 (hc : X.calm = true) : CallR X (.builtin "min") (fun xs H Q => ∃ i j, xs = [.int i, .int j] ∧ Q (.int (if j < i then j else i)) H) := by
  intro pins s σ H xs us Q I r h
  obtain ⟨i, j, rfl, q⟩ := h
  obtain ⟨u, w', rfl, ⟨t, rfl⟩, ⟨t', rfl⟩⟩ := vals2 r
  refine min_two_ints (I.ok.hd hc) fun h' tk k => ⟨_, H, I.kept k, ?_, q⟩
  by_cases hj : j < i
  · rw [if_pos hj, if_pos hj]; exact ⟨_, rfl⟩
  · rw [if_neg hj, if_neg hj]; exact ⟨_, rfl⟩
theorem call_int1 : CallR X (.type "int") (fun xs H Q => (∃ i, xs = [.int i] ∧ Q (.int i) H) ∨ ∃ k, xs = [.bl k] ∧ Q (.int (if k then 1 else 0)) H) := by
  intro pins s σ H xs us Q I r h
  rcases h with ⟨i, rfl, q⟩ | ⟨k, rfl, q⟩
  · obtain ⟨u, rfl, t, rfl⟩ := vals1 r
    exact call_int_int ⟨.int i, H, I, ⟨_, rfl⟩, q⟩
  · obtain ⟨u, rfl, r1⟩ := vals1 r
    cases r1
    exact call_int_bool ⟨.int (if k then 1 else 0), H, I.tok _, ⟨_, rfl⟩, q⟩
theorem call_bool1 : CallR X (.type "bool") (fun xs H Q => (∃ i, xs = [.int i] ∧ Q (.bl (i != 0)) H) ∨ ∃ k, xs = [.bl k] ∧ Q (.bl k) H) := by
  intro pins s σ H xs us Q I r h
  rcases h with ⟨i, rfl, q⟩ | ⟨k, rfl, q⟩
  · obtain ⟨u, rfl, t, rfl⟩ := vals1 r
    exact call_bool_int ⟨.bl (i != 0), H, I, rfl, q⟩
  · obtain ⟨u, rfl, r1⟩ := vals1 r
    cases r1
    exact call_bool_bool ⟨.bl k, H, I, rfl, q⟩
theorem call_str_int : CallR X (.type "str") (fun xs H Q => ∃ i, xs = [.int i] ∧ i.natAbs.log2 < 1920 ∧ Q (.str (toString i)) H) := by
  intro pins s σ H xs us Q I r h
  obtain ⟨i, rfl, hz, q⟩ := h
  obtain ⟨u, rfl, t, rfl⟩ := vals1 r
  exact PySem.P.str_of_int hz ⟨.str _, H, I.tok _, ⟨_, rfl⟩, q⟩
theorem call_ord : CallR X (.builtin "ord") (fun xs H Q => ∃ x, xs = [.str x] ∧ x.length = 1 ∧ Q (.int (x.cps.getD 0 0 : Nat)) H) := by
  intro pins s σ H xs us Q I r h
  obtain ⟨x, rfl, hz, q⟩ := h
  obtain ⟨u, rfl, t, rfl⟩ := vals1 r
  exact ord_of_one hz ⟨.int _, H, I.tok _, ⟨_, rfl⟩, q⟩
theorem call_chr : CallR X (.builtin "chr") (fun xs H Q => ∃ i, xs = [.int i] ∧ 0 ≤ i ∧ i ≤ 1114111 ∧ Q (.str ⟨#[i.toNat]⟩) H) := by
  intro pins s σ H xs us Q I r h
  obtain ⟨i, rfl, h0, h1, q⟩ := h
  obtain ⟨u, rfl, t, rfl⟩ := vals1 r
  exact chr_of_range h0 h1 ⟨.str _, H, I.tok _, ⟨_, rfl⟩, q⟩
/-- len of a str, a bytes, a list, a tuple -/
def LenV (K : PySem.W.Frag) (x : V) (H : Hp) (n : Nat) : Prop :=
  match x with
  | .str y => y.length ≤ sizeLine ∧ n = y.length
  | .byt y => y.size ≤ sizeLine ∧ n = y.size
  | .ref p => (∃ xs, SqL K H p xs ∧ n = xs.length) ∨ ∃ xs, SqT K H p xs ∧ n = xs.length
  | _ => False
theorem call_len : CallR X (.builtin "len") (fun xs H Q => ∃ x n, xs = [x] ∧ LenV X.K x H n ∧ Q (.int n) H) := by
  intro pins s σ H xs us Q I r h
  obtain ⟨x, n, rfl, e, q⟩ := h
  obtain ⟨u, rfl, rx⟩ := vals1 r
  have hl := line63
  have hs : sizeLine = 16777216 := sizeLine_eq
  cases x with
  | str y =>
    obtain ⟨t, rfl⟩ := rx
    obtain ⟨hy, e'⟩ : y.length ≤ sizeLine ∧ n = y.length := e
    subst e'
    exact len_str (by omega) ⟨.int _, H, I.tok _, ⟨_, rfl⟩, q⟩
  | byt y =>
    obtain ⟨t, rfl⟩ := rx
    obtain ⟨hy, e'⟩ : y.size ≤ sizeLine ∧ n = y.size := e
    subst e'
    exact PySem.W.len_bytes (by omega) ⟨.int _, H, I.tok _, ⟨_, rfl⟩, q⟩
  | ref p =>
    cases rx
    have e' : (∃ xs, SqL X.K H p xs ∧ n = xs.length) ∨ ∃ xs, SqT X.K H p xs ∧ n = xs.length := e
    rcases e' with ⟨xs, hx, e'⟩ | ⟨xs, hx, e'⟩
    · subst e'
      obtain ⟨its, r', pl, hz⟩ := I.list hx
      have hlen := r'.length
      exact Calls.call_len_list pl.isList (by simp only [List.size_toArray]; omega) ⟨.int xs.length, H, I.tok _, ⟨_, by simp only [List.size_toArray]; rw [hlen]⟩, q⟩
    · subst e'
      obtain ⟨its, r', pl, hz⟩ := I.tuple hx
      have hlen := r'.length
      exact len_tuple pl (by simp only [List.size_toArray]; omega) ⟨.int xs.length, H, I.tok _, ⟨_, by simp only [List.size_toArray]; rw [hlen]⟩, q⟩
  | _ => exact (show False from e).elim
/-- divmod: a new tuple -/
theorem call_divmod : CallR X (.builtin "divmod") (fun xs H Q => ∃ i j, xs = [.int i, .int j] ∧ CDiv i j ∧ ∀ p, H p = none → Q (.ref p) (upd H p (.tup [.int (i / j), .int (i % j)]))) := by
  intro pins s σ H xs us Q I r h
  obtain ⟨i, j, rfl, ⟨h1, h2⟩, q⟩ := h
  obtain ⟨u, w', rfl, ⟨t, rfl⟩, ⟨t', rfl⟩⟩ := vals2 r
  refine divmod_int (by omega) ?_ (.inl (PyProof.noPylong_small (by omega)))
  rw [Int.fdiv_eq_ediv_of_nonneg i (by omega), Int.fmod_eq_emod_of_nonneg i (by omega)]
  have hn : H s.heap.objs.size = none := I.hok.fresh (Nat.le_refl _)
  refine ⟨.ref s.heap.objs.size, _, ?_, rfl, q _ hn⟩
  refine I.laid (fun b o e => Heap.get?_push_of_some _ e) (Nat.le_refl _) ⟨by simp only [List.length_cons, List.length_nil]; rw [sizeLine_eq]; decide, [.int (i / j) s.toks, .int (i % j) (s.toks + 1)], .cons ⟨_, rfl⟩ (.cons ⟨_, rfl⟩ .nil), ?_⟩
  exact ⟨_, Heap.get?_push_size s.heap rfl, rfl, 0, rfl⟩
end
end L2

namespace L2
open PySem PySem.Spec PyProof.Rows

/-! ### an instance, its attributes a map -/
structure ObjM (h : Heap) (x dx C : Addr) (mA : Str → Option Value) : Prop where
  obj : h.get? x = some (PySem.W.instObj C dx)
  ns : h.Ns1 dx mA
  ne : dx ≠ x

theorem lookIn_ns {h : Heap} {dx : Addr} {mA : Str → Option Value} (n : h.Ns1 dx mA) : ∃ od, h.get? dx = some od ∧ ∀ name, PySem.W.lookIn name od = some (mA name) := by
  obtain ⟨o, es, ep, ho, hd, hk, _, hm⟩ := n
  refine ⟨o, ho, fun name => ?_⟩
  have e := hm name
  unfold nsFind findBy at e
  rw [← Array.find?_toList] at e
  unfold PySem.W.lookIn
  rw [hd]
  dsimp only
  split
  · rename_i y q
    rw [q] at e
    exact congrArg some e
  · rename_i q
    rw [q] at e
    have a : es.toList.any (·.refKey) = false := by
      rw [List.any_eq_false]
      intro y hy
      obtain ⟨z, t, hkey⟩ := hk y (Array.mem_toList_iff.mp hy)
      simp [DictEntry.refKey, hkey]
    have a' : ¬ es.toList.any (·.refKey) = true := by rw [a]; exact Bool.false_ne_true
    rw [if_neg a']
    exact congrArg some e

theorem ObjM.look {h : Heap} {x dx C : Addr} {mA : Str → Option Value} (I : ObjM h x dx C mA) : ∃ od, PySem.W.InstAt h x (PySem.W.instObj C dx) C (some od) ∧ ∀ name, PySem.W.lookIn name od = some (mA name) :=
  let ⟨od, ho, hl⟩ := lookIn_ns I.ns
  ⟨od, ⟨I.obj, rfl, rfl, ho⟩, hl⟩

section
variable {prog : Program} {w : World} {A : Around} {E : Value → Shared → Prop} {s : Shared} {K : PySem.W.Frag} {x dx C f : Addr} {mA : Str → Option Value} {name : Str} {v : Value}

theorem get_map {expr : Bool} {Q : Value → Shared → Prop} (X : K.In s.heap) (I : ObjM s.heap x dx C mA) (hg : PySem.W.plainGet K C name = true) (hh : PySem.W.hasDictIn K C = true)
    (ha : PySem.W.findIn K (.ref C) name = some none) (hv : mA name = some v) (hv' : PySem.W.handedIn v = true) (h : Q v { s with toks := s.toks + 1 }) :
    wpAny (model prog w) A (getAttr (.ref x) name expr) Q E s := by
  obtain ⟨od, J, hl⟩ := I.look
  exact PySem.W.get_value X J (PySem.W.plainGet_of hg).1 (PySem.W.findObj_own hh ha rfl (by rw [hl, hv])) hv' h

theorem get_const {expr : Bool} {a : Value} {Q : Value → Shared → Prop} (X : K.In s.heap) (I : ObjM s.heap x dx C mA) (hg : PySem.W.plainGet K C name = true) (hh : PySem.W.hasDictIn K C = true)
    (ha : PySem.W.findIn K (.ref C) name = some (some a)) (hn : PySem.W.specialIn K a "__get__" = some none) (hc : PySem.W.copiedNames.contains name = false) (hv : mA name = none) (hv' : PySem.W.handedIn a = true)
    (h : Q a { s with toks := s.toks + 1 }) : wpAny (model prog w) A (getAttr (.ref x) name expr) Q E s := by
  obtain ⟨od, J, hl⟩ := I.look
  exact PySem.W.get_value X J (PySem.W.plainGet_of hg).1 (PySem.W.findObj_cls hh ha hn hv' hc (by rw [hl, hv])) hv' h

theorem get_meth {pl : Sem Bool} {Q : Value × List Value → Shared → Prop} (X : K.In s.heap) (I : ObjM s.heap x dx C mA) (hg : PySem.W.plainGet K C name = true)
    (hf : PySem.W.findIn K (.ref C) name = some (some (.ref f))) (ht : PySem.W.isFn K (.ref f) = true) (hv : mA name = none) (h : Q (.ref f, [.ref x]) s) :
    wpAny (model prog w) A (getMethod (.ref x) name pl) Q E s := by
  obtain ⟨od, J, hl⟩ := I.look
  exact PySem.W.method_fn X J (PySem.W.plainGet_of hg).1 (PySem.W.plainGet_of hg).2 hf (beq_iff_eq.mp ht) (by show (PySem.W.lookIn name od).map (·.isSome) = some false; rw [hl, hv]; rfl) h

theorem set_map {ns : List Str} {Q : Unit → Shared → Prop} (X : K.In s.heap) (I : ObjM s.heap x dx C mA)
    (hs : PySem.W.findIn K (.ref C) "__setattr__" = some (some (.builtin "object.__setattr__"))) (hp : PySem.W.plainOver K C = true) (ht : PySem.W.takerIn K C name = some none) (hh : PySem.W.hasDictIn K C = true)
    (hw : PySem.Within mA ns) (hsz : ns.length ≤ sizeLine)
    (h : ∀ h', ObjM h' x dx C (fun y => if y = name then some v else mA y) → Heap.SameBut dx s.heap h' → Q () { s with heap := h', toks := s.toks + 2 }) :
    wpAny (model prog w) A (setAttr (.ref x) name v) Q E s := by
  obtain ⟨od, J, hl⟩ := I.look
  refine PySem.W.set_plain X J hs (PySem.W.osa_open (s := { s with toks := s.toks + 1 }) (r := none) X J hp ht fun b => ?_)
  obtain ⟨cd, hc, hd'⟩ := PySem.W.any_some hh
  have hx : s.heap.get? x = some ⟨.ref C, some dx, .plain, #[]⟩ := I.obj
  refine wpAny_bind (wpAny_pure (wpAny_bind (wpAny_bind (wpAny_loadPart hx (wpAny_bind (PySem.W.Looks.here (s := { s with toks := s.toks + 1 }) (PySem.W.looks_clsIn X hc) ?_))))))
  rw [hd']
  refine wpAny_pure (a := some dx) (wpAny_bind (wpAny_pure (wpAny_bind ?_)))
  refine wpAny_nsSet1 (s := { s with toks := s.toks + 1 }) I.ns fun h' hn2 hs2 => ?_
  obtain ⟨oD, esD, epD, hoD, hdD, hcD⟩ := hn2.count (PySem.Within.cons name v hw)
  refine wpAny_bind (wpAny_lookBehind hoD (by rw [hdD]; exact pastItsLine_dict (Nat.le_trans hcD (by rw [List.length_cons]; omega))) ?_)
  exact wpAny_pure (h _ ⟨(hs2.2 _ (Ne.symm I.ne)).trans I.obj, hn2, I.ne⟩ hs2)

/-- C(..): the dict at the heap's end, the instance behind it; then its __init__ -/
theorem make_map {R : Result → Shared → Prop} {vs : List Value} {kw : List (Str × Value)} (X : K.In s.heap) (hm : PySem.W.makesIn K C = true)
    (hi : PySem.W.findIn K (.ref C) "__init__" = some (some (.ref f))) (hf : PySem.W.typeIn K (.ref f) = some (.type "function"))
    (h : codeAny (model prog w) (A.under (.builtin "type.__call__" ⟨.ref C :: vs, kw⟩)) (.call (.ref f) ⟨.ref (s.heap.objs.size + 1) :: vs, kw⟩) (PySem.W.InitBack (s.heap.objs.size + 1) R)
      { s with heap := (s.heap.push PySem.W.emptyDict).push (PySem.W.instObj C s.heap.objs.size) }) :
    codeAny (model prog w) A (.call (.ref C) ⟨vs, kw⟩) R s := by
  obtain ⟨hh, g, d, t, os⟩ := s
  exact PySem.W.make_core (PySem.W.makes_of X hm) (PySem.W.looks_findIn X hi) (fun self => PySem.W.bind_fn X self hf) (.inl rfl) h
/-- C() where there is no __init__ but object's -/
theorem make_map0 {R : Result → Shared → Prop} (X : K.In s.heap) (hm : PySem.W.makesIn K C = true)
    (hi : PySem.W.findIn K (.ref C) "__init__" = some (some (.builtin "object.__init__")))
    (hb : ∀ self, PySem.W.Looks (model prog w) s.heap (bindSpecial (.builtin "object.__init__") self) (.builtin "object.__init__", [self]))
    (h : codeAny (model prog w) (A.under (.builtin "type.__call__" ⟨[.ref C], []⟩)) (.call (.builtin "object.__init__") ⟨[.ref (s.heap.objs.size + 1)], []⟩) (PySem.W.InitBack (s.heap.objs.size + 1) R)
      { s with heap := (s.heap.push PySem.W.emptyDict).push (PySem.W.instObj C s.heap.objs.size) }) :
    codeAny (model prog w) A (.call (.ref C) ⟨[], []⟩) R s := by
  obtain ⟨hh, g, d, t, os⟩ := s
  exact PySem.W.make_core (PySem.W.makes_of X hm) (PySem.W.looks_findIn X hi) hb (.inr ⟨rfl, rfl⟩) h
end

/-! ### the attributes as a list of pairs -/
def putF (f : Str) (v : V) : List (Str × V) → List (Str × V)
  | [] => [(f, v)]
  | (g, x) :: r => if g = f then (g, v) :: r else (g, x) :: putF f v r
theorem lookup_putF (f g : Str) (v : V) : ∀ fs : List (Str × V), (putF f v fs).lookup g = if g = f then some v else fs.lookup g
  | [] => by
    show List.lookup g [(f, v)] = _
    by_cases h : g = f
    · have hb : (g == f) = true := beq_iff_eq.mpr h
      simp only [List.lookup, hb, if_pos h]
    · have hb : (g == f) = false := beq_eq_false_iff_ne.mpr h
      simp only [List.lookup, hb, if_neg h]
  | (k, x) :: r => by
    have ih := lookup_putF f g v r
    rw [show putF f v ((k, x) :: r) = (if k = f then (k, v) :: r else (k, x) :: putF f v r) from rfl]
    by_cases hk : k = f
    · rw [if_pos hk]
      by_cases h : g = k
      · have hb : (g == k) = true := beq_iff_eq.mpr h
        simp only [List.lookup, hb, if_pos (h.trans hk)]
      · have hb : (g == k) = false := beq_eq_false_iff_ne.mpr h
        simp only [List.lookup, hb, if_neg (fun e : g = f => h (e.trans hk.symm))]
    · rw [if_neg hk]
      by_cases h : g = k
      · have hb : (g == k) = true := beq_iff_eq.mpr h
        simp only [List.lookup, hb, if_neg (fun e : g = f => hk (h.symm.trans e))]
      · have hb : (g == k) = false := beq_eq_false_iff_ne.mpr h
        simp only [List.lookup, hb]
        exact ih
theorem keys_putF (f : Str) (v : V) : ∀ fs : List (Str × V), f ∈ (putF f v fs).map (·.1) ∧ ∀ g, g ∈ fs.map (·.1) → g ∈ (putF f v fs).map (·.1)
  | [] => ⟨by simp [putF], fun g h => by simp at h⟩
  | (k, x) :: r => by
    obtain ⟨i1, i2⟩ := keys_putF f v r
    rw [show putF f v ((k, x) :: r) = (if k = f then (k, v) :: r else (k, x) :: putF f v r) from rfl]
    by_cases hk : k = f
    · rw [if_pos hk]
      subst hk
      exact ⟨by simp, fun g h => by simpa using h⟩
    · rw [if_neg hk]
      refine ⟨?_, fun g h => ?_⟩
      · rw [List.map_cons]
        exact List.mem_cons_of_mem _ i1
      · rw [List.map_cons] at h ⊢
        rcases List.mem_cons.mp h with e | e
        · exact List.mem_cons.mpr (.inl e)
        · exact List.mem_cons_of_mem _ (i2 g e)
theorem length_putF (f : Str) (v : V) : ∀ fs : List (Str × V), (putF f v fs).length ≤ fs.length + 1
  | [] => by simp [putF]
  | (k, x) :: r => by
    have ih := length_putF f v r
    rw [show putF f v ((k, x) :: r) = (if k = f then (k, v) :: r else (k, x) :: putF f v r) from rfl]
    by_cases hk : k = f
    · rw [if_pos hk, List.length_cons, List.length_cons]; omega
    · rw [if_neg hk, List.length_cons, List.length_cons]; omega

theorem RelO.some_of {v : V} {o : Option Value} (r : RelO (some v) o) : ∃ u, o = some u ∧ RelV v u := by
  cases o with
  | none => exact (show False from r).elim
  | some u => exact ⟨u, rfl, r⟩
theorem RelO.none_of {o : Option Value} (r : RelO none o) : o = none := by
  cases o with
  | none => rfl
  | some u => exact (show False from r).elim
theorem handed_of {v : V} {u : Value} (r : RelV v u) : PySem.W.handedIn u = true := by
  cases v with
  | non => cases (show u = Value.none from r); rfl
  | bl b => cases (show u = Value.bool b from r); rfl
  | int i => obtain ⟨t, e⟩ := (show ∃ t, u = Value.int i t from r); cases e; rfl
  | str x => obtain ⟨t, e⟩ := (show ∃ t, u = Value.str x t from r); cases e; rfl
  | byt b => obtain ⟨t, e⟩ := (show ∃ t, u = Value.bytes b t from r); cases e; rfl
  | flt b => obtain ⟨t, e⟩ := (show ∃ t, u = Value.float b t from r); cases e; rfl
  | ref a => cases (show u = Value.ref a from r); rfl
  | ty n => cases (show u = Value.type n from r); rfl

section
variable {P : Program} {w : World} {H H' : Hp} {h h' : Heap} {a C dx : Addr} {fs fs' : List (Str × V)}
theorem ins_get (hok : HOk P w H h) (e : H a = some (.ins C dx fs)) : ∃ mA, ObjM h a dx C mA ∧ (∀ f, RelO (fs.lookup f) (mA f)) ∧ PySem.Within mA (fs.map (·.1)) ∧ fs.length ≤ 1000 ∧ H dx = some (.own a) := by
  obtain ⟨d, z, ne, ob, mA, n, r, q⟩ := (show ObjOk P w H h a (.ins C dx fs) from hok a _ e)
  exact ⟨mA, ⟨ob, n, ne⟩, r, q, z, d⟩
end

/-! ### what of the text a class must have -/
structure Cls (K : PySem.W.Frag) (C : Addr) : Prop where
  pg : PySem.W.plainGet K C Str.empty = true
  hd : PySem.W.hasDictIn K C = true
  po : PySem.W.plainOver K C = true
  sa : PySem.W.findIn K (.ref C) "__setattr__" = some (some (.builtin "object.__setattr__"))
theorem Cls.get {K : PySem.W.Frag} {C : Addr} (c : Cls K C) (f : Str) : PySem.W.plainGet K C f = true := c.pg
/-- no class of it has the name -/
def NoAttr (K : PySem.W.Frag) (C : Addr) (f : Str) : Prop := PySem.W.findIn K (.ref C) f = some none
theorem NoAttr.taker {K : PySem.W.Frag} {C : Addr} {f : Str} (n : NoAttr K C f) : PySem.W.takerIn K C f = some none := by
  unfold PySem.W.takerIn
  rw [show PySem.W.findIn K (.ref C) f = some none from n]
  rfl
/-- a constant of the class -/
structure Con (K : PySem.W.Frag) (C : Addr) (f : Str) (v : V) (u : Value) : Prop where
  at_ : PySem.W.findIn K (.ref C) f = some (some u)
  rel : RelV v u
  get : PySem.W.specialIn K u "__get__" = some none
  cp : PySem.W.copiedNames.contains f = false
/-- a method: a plain def of the class or of one above it -/
structure Meth (K : PySem.W.Frag) (C : Addr) (m : Str) (f : Addr) : Prop where
  at_ : PySem.W.findIn K (.ref C) m = some (some (.ref f))
  fn : PySem.W.isFn K (.ref f) = true
  kp : PySem.W.keepIn K (.ref f) = true

section
variable {X : Cx} {pins : List (Addr × Obj)} {σ : St} {H : Hp} {s : Shared} {a C dx : Addr} {fs : List (Str × V)} {f : Str} {v : V} {A : Around} {E : Value → Shared → Prop}

theorem getattr_ok {b : Bool} {Q : Value → Shared → Prop} (I : Inv X pins σ H s) (e : H a = some (.ins C dx fs)) (c : Cls X.K C) (n : NoAttr X.K C f) (l : fs.lookup f = some v)
    (h : ∀ u s', Inv X pins σ H s' → RelV v u → Q u s') : wpAny (model X.prog X.w) A (getAttr (.ref a) f b) Q E s := by
  obtain ⟨mA, O, r, _, _, _⟩ := ins_get I.hok e
  obtain ⟨u, hu, ru⟩ := RelO.some_of (v := v) (o := mA f) (by rw [← l]; exact r f)
  exact get_map I.kIn O (c.get f) c.hd n hu (handed_of ru) (h u _ (I.tok _) ru)

theorem getcon_ok {b : Bool} {u : Value} {Q : Value → Shared → Prop} (I : Inv X pins σ H s) (e : H a = some (.ins C dx fs)) (c : Cls X.K C) (k : Con X.K C f v u) (l : fs.lookup f = none)
    (h : ∀ s', Inv X pins σ H s' → Q u s') : wpAny (model X.prog X.w) A (getAttr (.ref a) f b) Q E s := by
  obtain ⟨mA, O, r, _, _, _⟩ := ins_get I.hok e
  have hn : mA f = none := RelO.none_of (by rw [← l]; exact r f)
  exact get_const I.kIn O (c.get f) c.hd k.at_ k.get k.cp hn (handed_of k.rel) (h _ (I.tok _))

theorem getmeth_ok {m : Str} {g : Addr} {pl : Sem Bool} {Q : Value × List Value → Shared → Prop} (I : Inv X pins σ H s) (e : H a = some (.ins C dx fs)) (c : Cls X.K C) (k : Meth X.K C m g) (l : fs.lookup m = none)
    (h : Q (.ref g, [.ref a]) s) : wpAny (model X.prog X.w) A (getMethod (.ref a) m pl) Q E s := by
  obtain ⟨mA, O, r, _, _, _⟩ := ins_get I.hok e
  have hn : mA m = none := RelO.none_of (by rw [← l]; exact r m)
  exact get_meth I.kIn O (c.get m) k.at_ k.fn hn h

theorem setattr_ok {y : V} {u : Value} {Q : Unit → Shared → Prop} (I : Inv X pins σ H s) (e : H a = some (.ins C dx fs)) (c : Cls X.K C) (n : NoAttr X.K C f) (hl : fs.length < 1000) (ry : RelV y u)
    (h : ∀ s', Inv X pins σ (upd H a (.ins C dx (putF f y fs))) s' → Q () s') : wpAny (model X.prog X.w) A (setAttr (.ref a) f u) Q E s := by
  obtain ⟨mA, O, r, wi, _, ho⟩ := ins_get I.hok e
  have hz : (fs.map (·.1)).length ≤ sizeLine := by rw [List.length_map, sizeLine_eq]; omega
  refine set_map I.kIn O c.sa c.po n.taker c.hd wi hz fun h' O' sb => h _ ?_
  have hd : ∃ o, h'.get? dx = some o := let ⟨o, _, _, e', _⟩ := O'.ns; ⟨o, e'⟩
  refine I.write (x := a) (e := dx) (by rw [e]; exact True.intro) (.inr ho) (fun b q hb z => (sb.2 b hb).trans z) hd ?_
  refine ⟨by rw [upd_ne O.ne]; exact ho, ?_, O.ne, O'.obj, _, O'.ns, fun g => ?_, fun g hg => ?_⟩
  · have := length_putF f y fs; omega
  · show RelO ((putF f y fs).lookup g) (if g = f then some u else mA g)
    rw [lookup_putF]
    by_cases q : g = f
    · rw [if_pos q, if_pos q]; exact ry
    · rw [if_neg q, if_neg q]; exact r g
  · by_cases q : g = f
    · rw [q]; exact (keys_putF f y fs).1
    · refine (keys_putF f y fs).2 g (wi g fun z => hg ?_)
      show (if g = f then some u else mA g) = none
      rw [if_neg q]; exact z

/-- a new instance, tracked, without attributes -/
theorem Inv.made (I : Inv X pins σ H s) : Inv X pins σ (upd (upd H s.heap.objs.size (.own (s.heap.objs.size + 1))) (s.heap.objs.size + 1) (.ins C s.heap.objs.size []))
    { s with heap := (s.heap.push PySem.W.emptyDict).push (PySem.W.instObj C s.heap.objs.size) } := by
  have e1 : (s.heap.push PySem.W.emptyDict).get? s.heap.objs.size = some PySem.W.emptyDict := Heap.get?_push_size s.heap rfl
  have e2 : ((s.heap.push PySem.W.emptyDict).push (PySem.W.instObj C s.heap.objs.size)).get? (s.heap.objs.size + 1) = some (PySem.W.instObj C s.heap.objs.size) := by
    have := Heap.get?_push_size (s.heap.push PySem.W.emptyDict) (o := PySem.W.instObj C s.heap.objs.size) rfl
    rwa [Heap.size_push] at this
  have e3 : (s.heap.push PySem.W.emptyDict).Ns s.heap.objs.size (fun _ => none) := ⟨PySem.W.emptyDict, #[], _, e1, rfl, (fun e he => absurd he (by simp)), fun _ => rfl⟩
  have I1 := I.laid (a := s.heap.objs.size) (o := .own (s.heap.objs.size + 1)) (h' := s.heap.push PySem.W.emptyDict) (t' := s.toks) (fun b u q => Heap.get?_push_of_some _ q) (Nat.le_refl _) ⟨_, e1⟩
  refine I1.laid (a := s.heap.objs.size + 1) (o := .ins C s.heap.objs.size []) (t' := s.toks) (fun b u q => Heap.get?_push_of_some _ q) (Nat.le_of_eq (Heap.size_push _ _)) ?_
  have ne : s.heap.objs.size ≠ s.heap.objs.size + 1 := Nat.ne_of_lt (Nat.lt_succ_self _)
  refine ⟨by rw [upd_ne ne, upd_same], Nat.zero_le _, ne, e2, fun _ => none, (Heap.Ns1.of_empty e3).at fun o q => Heap.get?_push_of_some _ q, fun _ => True.intro, fun y hy => absurd rfl hy⟩

/-- e.f where nothing but the object is asked: through attributeBase (super) and the last hold -/
theorem attr_of {prog : Program} {w : World} {env : Env} {e : Expr} {f : Str} {pos : Pos} {s : Shared} {Q : Value → Shared → Prop} (hb : attributeBase e f env (eval e env) = eval e env)
    (h : wpAny (model prog w) A (eval e env) (fun o s₁ => wpAny (model prog w) A (getAttr o f true) Q E s₁) E s) : wpAny (model prog w) A (eval (.Attribute e f pos) env) Q E s :=
  Attribute_any_ h (by rw [arm_eval_Attribute, hb])
end

/-! ### readings and rules -/
/-- e.f, an attribute of the instance -/
def tFld (K : PySem.W.Frag) (ta : TE) (f : Str) : TE := fun σ H Q => ta σ H fun x H1 => ∃ a C dx fs v, x = .ref a ∧ H1 a = some (.ins C dx fs) ∧ Cls K C ∧ NoAttr K C f ∧ fs.lookup f = some v ∧ Q v H1
/-- e.f, a constant of the class -/
def tCon (K : PySem.W.Frag) (ta : TE) (f : Str) : TE := fun σ H Q => ta σ H fun x H1 => ∃ a C dx fs v u, x = .ref a ∧ H1 a = some (.ins C dx fs) ∧ Cls K C ∧ Con K C f v u ∧ fs.lookup f = none ∧ Q v H1
/-- e.f = value -/
def sFld (K : PySem.W.Frag) (ta tv : TE) (f : Str) : TS := fun D σ H => tv σ H fun y H1 => ta σ H1 fun x H2 => ∃ a C dx fs, x = .ref a ∧ H2 a = some (.ins C dx fs) ∧ Cls K C ∧ NoAttr K C f ∧ fs.length < 1000 ∧
  D.nx σ (upd H2 a (.ins C dx (putF f y fs)))
/-- an augmented operator on two values -/
def InOp (X : Cx) (op : Operator) (rd : V → V → Hp → VK → Prop) : Prop :=
  ∀ (pins : List (Addr × Obj)) (s : Shared) (σ : St) (H : Hp) (x y : V) (u v : Value) (Q : VK), Inv X pins σ H s → RelV x u → RelV y v → rd x y H Q → wpAny (model X.prog X.w) X.A (inplaceOp op u v) (EP X pins σ Q) X.xe s
/-- e.f op= value -/
def sFldAug (K : PySem.W.Frag) (ta tv : TE) (rd : V → V → Hp → VK → Prop) (f : Str) : TS := fun D σ H => ta σ H fun x H1 => ∃ a C dx fs v, x = .ref a ∧ H1 a = some (.ins C dx fs) ∧ Cls K C ∧ NoAttr K C f ∧ fs.lookup f = some v ∧
  tv σ H1 fun y H2 => rd v y H2 fun z H3 => ∃ dx' fs', H3 a = some (.ins C dx' fs') ∧ fs'.length < 1000 ∧ D.nx σ (upd H3 a (.ins C dx' (putF f z fs')))

section
variable {X : Cx} {o e value : Expr} {f : Str} {pos pos' tpos : Pos} {ta tv : TE}
theorem pe_fld (he : PE X e ta) (hb : attributeBase e f X.env (eval e X.env) = eval e X.env) : PE X (.Attribute e f pos) (tFld X.K ta f) := by
  intro pins s σ H Q I h
  refine attr_of hb (thn (he pins s σ H _ I h) fun u s1 ⟨x, H1, I1, rx, a, C, dx, fs, v, ex, ea, c, n, l, q⟩ => ?_)
  subst ex
  obtain rfl : u = Value.ref a := rx
  exact getattr_ok I1 ea c n l fun u' s2 I2 ru => ⟨v, H1, I2, ru, q⟩
theorem pe_con (he : PE X e ta) (hb : attributeBase e f X.env (eval e X.env) = eval e X.env) : PE X (.Attribute e f pos) (tCon X.K ta f) := by
  intro pins s σ H Q I h
  refine attr_of hb (thn (he pins s σ H _ I h) fun u s1 ⟨x, H1, I1, rx, a, C, dx, fs, v, u0, ex, ea, c, k, l, q⟩ => ?_)
  subst ex
  obtain rfl : u = Value.ref a := rx
  exact getcon_ok I1 ea c k l fun s2 I2 => ⟨v, H1, I2, k.rel, q⟩
theorem ps_fld (ha : PE X o ta) (hv : PE X value tv) (hs : swapsWith value (some (.Attribute o f pos')) pos.line X.env = pure false) : PS X (.Assign [.Attribute o f pos'] value pos) (sFld X.K ta tv f) := by
  intro pins s σ H D I h
  refine plainObj_wpAny_Assign_Attribute (thn (hv pins s σ H _ I h) fun u s1 ⟨y, H1, I1, ry, q⟩ => thn (ha pins s1 σ H1 _ I1 q) fun ov s2 ⟨x, H2, I2, rx, a, C, dx, fs, ex, ea, c, n, l, q2⟩ => ?_) hs
  subst ex
  obtain rfl : ov = Value.ref a := rx
  exact setattr_ok I2 ea c n l ry fun s3 I3 => ⟨σ, _, I3, q2⟩
theorem ps_fldaug {op : Operator} {rd : V → V → Hp → VK → Prop} (ha : PE X o ta) (hv : PE X value tv) (hop : InOp X op rd) : PS X (.AugAssign (.Attribute o f tpos) op value pos) (sFldAug X.K ta tv rd f) := by
  intro pins s σ H D I h
  refine wpAny_AugAssign_AttributeAny (thn (ha pins s σ H _ I h) fun ov s1 ⟨x, H1, I1, rx, a, C, dx, fs, v, ex, ea, c, n, l, q⟩ => ?_)
  subst ex
  obtain rfl : ov = Value.ref a := rx
  refine getattr_ok I1 ea c n l fun u s2 I2 ru => thn (hv pins s2 σ H1 _ I2 q) fun w3 s3 ⟨y, H2, I3, ry, q3⟩ => thn (hop pins s3 σ H2 v y u w3 _ I3 ru ry q3) fun w4 s4 ⟨z, H3, I4, rz, dx', fs', ea', l', q4⟩ => ?_
  exact setattr_ok I4 ea' c n l' rz fun s5 I5 => ⟨σ, _, I5, q4⟩
def rAdd : V → V → Hp → VK → Prop := fun x y H Q => ∃ i j, x = .int i ∧ y = .int j ∧ Q (.int (i + j)) H
def rSub : V → V → Hp → VK → Prop := fun x y H Q => ∃ i j, x = .int i ∧ y = .int j ∧ Q (.int (i - j)) H
theorem in_add : InOp X .Add rAdd := by
  rintro pins s σ H x y u v Q I rx ry ⟨i, j, rfl, rfl, q⟩
  obtain ⟨t, rfl⟩ := (show ∃ t, u = Value.int i t from rx)
  obtain ⟨t', rfl⟩ := (show ∃ t', v = Value.int j t' from ry)
  exact PyProof.Rows.iadd_int ⟨.int (i + j), H, I.tok _, ⟨_, rfl⟩, q⟩
theorem in_sub : InOp X .Sub rSub := by
  rintro pins s σ H x y u v Q I rx ry ⟨i, j, rfl, rfl, q⟩
  obtain ⟨t, rfl⟩ := (show ∃ t, u = Value.int i t from rx)
  obtain ⟨t', rfl⟩ := (show ∃ t', v = Value.int j t' from ry)
  exact PyProof.Rows.isub_int ⟨.int (i - j), H, I.tok _, ⟨_, rfl⟩, q⟩

/-- what is between an instance and its method: the tree of a method call -/
theorem methcall_of {pl : Sem Bool} {m : Str} {apos : Pos} {args : List Expr} {pins : List (Addr × Obj)} {s : Shared} {σ : St} {H : Hp} {Q : Value → Shared → Prop} {te : TE} (he : PE X e te) (I : Inv X pins σ H s)
    (h : te σ H fun x H1 => ∃ a C dx fs g, x = .ref a ∧ H1 a = some (.ins C dx fs) ∧ Cls X.K C ∧ Meth X.K C m g ∧ fs.lookup m = none ∧
      ∀ s1, Inv X pins σ H1 s1 → wpAny (model X.prog X.w) X.A (callWith pos (.ref g) [.ref a] (backTo pos (starEach args X.env)) (backToKw pos (keywordEach [] X.env))) Q X.xe s1)
    (ht : eval (.Call (.Attribute e m apos) args [] pos) X.env = (do
      let ov ← eval e X.env
      standAt apos.atName
      let (f, first) ← holding [ov] (getMethod ov m pl)
      callWith pos f first (backTo pos (starEach args X.env)) (backToKw pos (keywordEach [] X.env)))) :
    wpAny (model X.prog X.w) X.A (eval (.Call (.Attribute e m apos) args [] pos) X.env) Q X.xe s := by
  refine PySem.W.methodCall_KW (pl := pl) (thn (he pins s σ H _ I h) fun u s1 ⟨x, H1, I1, rx, a, C, dx, fs, g, ex, ea, c, k, l, q⟩ => ?_) ht
  subst ex
  obtain rfl : u = Value.ref a := rx
  exact getmeth_ok I1 ea c k l (q s1 I1)
end

/-! ### isinstance -/
section
variable {X : Cx} {pins : List (Addr × Obj)} {σ : St} {H : Hp} {s : Shared} {A : Around} {E : Value → Shared → Prop} {Q : Value → Shared → Prop} {c : Value} {b : Bool}
/-- the type of a value, as the fragment's deciders take it; for an instance its class -/
inductive TyOf (K : PySem.W.Frag) (H : Hp) : V → Value → Prop where
  | non : TyOf K H .non (.type "NoneType")
  | bl (x : Bool) : TyOf K H (.bl x) (.type "bool")
  | int (i : Int) : TyOf K H (.int i) (.type "int")
  | str (x : Str) : TyOf K H (.str x) (.type "str")
  | flt (x : UInt64) : TyOf K H (.flt x) (.type "float")
  | lst {a : Addr} {xs : List V} (e : H a = some (.lst xs)) : TyOf K H (.ref a) (.type "list")
  | frz {a : Addr} {o : Obj} {xs : List V} (e : H a = some (.frz o (.lst xs))) : TyOf K H (.ref a) (.type "list")
  | tup {a : Addr} {xs : List V} (e : H a = some (.tup xs)) : TyOf K H (.ref a) (.type "tuple")
  | dK {a : Addr} {kvs : List (Key × V)} (e : H a = some (.dK kvs)) : TyOf K H (.ref a) (.type "dict")
  | dT {a : Addr} {kvs : List (List Key × V)} (e : H a = some (.dT kvs)) : TyOf K H (.ref a) (.type "dict")
  | ins {a C dx : Addr} {fs : List (Str × V)} (e : H a = some (.ins C dx fs)) (cl : Cls K C) (ha : PySem.W.findIn K (.ref C) "__class__" = some (some (.builtin "object.__class__")))
      (hn : PySem.W.specialIn K (.builtin "object.__class__") "__get__" = some (some (.builtin "getset_descriptor.__get__"))) (htk : PySem.W.takesIn K (.builtin "object.__class__") = some true)
      (hm : PySem.W.mroIn K C (.type "object") = some true) : TyOf K H (.ref a) (.ref C)
/-- isinstance(x, c) for one class c, a built-in or an own one: kitOne's answer -/
theorem isinst_ok {x : V} {u t : Value} (I : Inv X pins σ H s) (rx : RelV x u) (ty : TyOf X.K H x t) (e : PySem.W.kitOne X.K t c = some b) (h : ∀ tk, Q (.bool b) { s with toks := tk }) :
    wpAny (model X.prog X.w) A (call (.builtin "isinstance") [u, c]) Q E s := by
  cases ty with
  | non => cases (show u = Value.none from rx); exact PySem.W.kia_one PySem.W.kitx_none I.kIn True.intro e (fun z => nomatch z) h
  | bl y => cases (show u = Value.bool y from rx); exact PySem.W.kia_one PySem.W.kitx_bool I.kIn True.intro e (fun z => nomatch z) h
  | int i => obtain ⟨t, q⟩ := (show ∃ t, u = Value.int i t from rx); cases q; exact PySem.W.kia_one PySem.W.kitx_int I.kIn True.intro e (fun z => nomatch z) h
  | str y => obtain ⟨t, q⟩ := (show ∃ t, u = Value.str y t from rx); cases q; exact PySem.W.kia_one PySem.W.kitx_str I.kIn True.intro e (fun z => nomatch z) h
  | flt y => obtain ⟨t, q⟩ := (show ∃ t, u = Value.float y t from rx); cases q; exact PySem.W.kia_one PySem.W.kitx_float I.kIn True.intro e (fun z => nomatch z) h
  | @lst a xs ea =>
    cases (show u = Value.ref a from rx)
    obtain ⟨_, _, n, _, h1⟩ := (show ObjOk X.prog X.w H s.heap a (.lst xs) from I.hok a _ ea)
    exact PySem.W.kia_one PySem.W.kitx_list I.kIn ⟨_, h1, rfl⟩ e (fun z => nomatch z) h
  | @frz a ob xs ea =>
    cases (show u = Value.ref a from rx)
    obtain ⟨_, _, _, n, _, h1⟩ := (show ObjOk X.prog X.w H s.heap a (.frz ob (.lst xs)) from I.hok a _ ea)
    exact PySem.W.kia_one PySem.W.kitx_list I.kIn ⟨_, h1, rfl⟩ e (fun z => nomatch z) h
  | @tup a xs ea =>
    cases (show u = Value.ref a from rx)
    obtain ⟨_, _, _, p⟩ := (show ObjOk X.prog X.w H s.heap a (.tup xs) from I.hok a _ ea)
    obtain ⟨o, h1, h2, _⟩ := p
    exact PySem.W.kia_one PySem.W.kitx_tuple I.kIn ⟨o, h1, h2⟩ e (fun z => nomatch z) h
  | @dK a kvs ea =>
    cases (show u = Value.ref a from rx)
    obtain ⟨_, _, vs, _, p⟩ := (show ObjOk X.prog X.w H s.heap a (.dK kvs) from I.hok a _ ea)
    obtain ⟨o, es, ep, h1, h2, _⟩ := p
    exact PySem.W.kia_one PySem.W.kitx_dict I.kIn ⟨o, h1, h2.1⟩ e (fun z => nomatch z) h
  | @dT a kvs ea =>
    cases (show u = Value.ref a from rx)
    obtain ⟨_, _, xs, _, o, es, ep, h1, h2, _⟩ := (show ObjOk X.prog X.w H s.heap a (.dT kvs) from I.hok a _ ea)
    exact PySem.W.kia_one PySem.W.kitx_dict I.kIn ⟨o, h1, h2.1⟩ e (fun z => nomatch z) h
  | @ins a C dx fs ea cl ha hn htk hm =>
    cases (show u = Value.ref a from rx)
    obtain ⟨mA, O, _⟩ := ins_get I.hok ea
    obtain ⟨od, J, _⟩ := O.look
    exact PySem.W.kia_one (PySem.W.kitx_own (cl.get _) cl.hd ha hn htk hm) I.kIn J e (fun z => nomatch z) h
end
end L2

namespace L2
open PySem PySem.Spec PyProof.Rows

/-! ### room -/
structure Room (k : Nat) (A : Around) : Prop where
  hd : A.handled = none
  dp : A.depth + 3 * k + 5 < recursionLimit
  un : A.units + 16 * k + 200 < cLine
theorem Room.mono {j k : Nat} {A : Around} (r : Room k A) (h : j ≤ k) : Room j A := ⟨r.hd, by have := r.dp; omega, by have := r.un; omega⟩
theorem Room.deeper {k : Nat} {A : Around} (r : Room (k + 1) A) (env : Env) : Room k (A.deeper env) :=
  ⟨r.hd, by have := r.dp; show A.depth + 1 + 3 * k + 5 < _; omega, by have := r.un; show A.units + 3 + 16 * k + 200 < _; omega⟩
theorem Room.in1 {k : Nat} {A : Around} (r : Room (k + 1) A) : Room k A.in1 :=
  ⟨r.hd, by have := r.dp; show A.depth + 3 * k + 5 < _; omega, by have := r.un; show A.units + 1 + 16 * k + 200 < _; omega⟩
theorem make_depth {A : Around} {C : Addr} {us : List Value} {kw : List (Str × Value)} : (A.under (.builtin "type.__call__" ⟨.ref C :: us, kw⟩)).depth = A.depth + 1 := by
  first | rfl | simp [Around.under, Code.weight, Code.isCreation, Code.isGuard, Code.isCaller, Code.frames, Code.isFrame, guardIds]
theorem make_units {A : Around} {C : Addr} {us : List Value} {kw : List (Str × Value)} : (A.under (.builtin "type.__call__" ⟨.ref C :: us, kw⟩)).units = A.units + 1 := by
  first | rfl | simp [Around.under, Code.cUnits, Code.frames, Code.isFrame]
theorem Room.make {k : Nat} {A : Around} (r : Room (k + 1) A) (C : Addr) (us : List Value) (kw : List (Str × Value)) : Room k (A.under (.builtin "type.__call__" ⟨.ref C :: us, kw⟩)) :=
  ⟨r.hd, by have := r.dp; rw [make_depth]; omega, by have := r.un; rw [make_units]; omega⟩
theorem Room.depth {k : Nat} {A : Around} (r : Room k A) : A.depth < recursionLimit := by have := r.dp; omega
theorem Room.units {k : Nat} {A : Around} (r : Room k A) : A.units + 64 < cLine := by have := r.un; omega
theorem Room.units0 {k : Nat} {A : Around} (r : Room k A) : A.units < cLine := by have := r.un; omega

/-! ### argument lists and displays -/
def tNil : TA := fun _ H Q => Q [] H
def tCons (ta : TE) (tr : TA) : TA := fun σ H Q => ta σ H fun x H1 => tr σ H1 fun xs H2 => Q (x :: xs) H2
section
variable {X : Cx} {e : Expr} {es : List Expr} {te : TE} {t : TA} {pos : Pos}
theorem pa_nil : PA X [] tNil := fun _ _ _ _ H Q I h => Calls.spliced_nil ⟨[], H, I, .nil, h⟩
theorem pa_cons (ha : PE X e te) (hr : PA X es t) (hs : starEach (e :: es) X.env = (false, eval e X.env) :: starEach es X.env := by rfl) : PA X (e :: es) (tCons te t) := by
  intro pos pins s σ H Q I h
  rw [hs]
  show wpAny _ _ (spliced ((false, eval e X.env) :: backTo pos (starEach es X.env))) _ _ s
  refine Calls.spliced_cons (thn (ha pins s σ H _ I h) fun u s1 ⟨x, H1, I1, r1, q1⟩ => ?_)
  exact thn (hr pos pins s1 σ H1 _ I1 q1) fun us s2 ⟨xs, H2, I2, r2, q2⟩ => ⟨x :: xs, H2, I2, .cons r1 r2, q2⟩

/-- a tuple, a list of written items -/
def tTup (t : TA) : TE := fun σ H Q => t σ H fun xs H1 => xs.length ≤ sizeLine ∧ ∀ p, H1 p = none → Q (.ref p) (upd H1 p (.tup xs))
def tLst (t : TA) : TE := fun σ H Q => t σ H fun xs H1 => xs.length ≤ sizeLine ∧ ∀ p, H1 p = none → Q (.ref p) (upd H1 p (.lst xs))
theorem pe_tup {x1} (h : PA X es t) : PE X (.Tuple es x1 pos) (tTup t) := by
  intro pins s σ H Q I hq
  refine wpAny_Tuple_spliced (thn (h pos pins s σ H _ I hq) fun us s1 ⟨xs, H1, I1, r, z, q⟩ => ⟨by rw [← r.length]; exact z, ?_⟩)
  have hf : H1 s1.heap.objs.size = none := I1.hok.fresh (Nat.le_refl _)
  refine ⟨.ref s1.heap.objs.size, upd H1 s1.heap.objs.size (.tup xs), I1.laid (t' := s1.toks) (fun b u e => Heap.get?_push_of_some _ e) (Nat.le_refl _) ?_, rfl, q _ hf⟩
  exact ⟨z, us, r, ⟨_, Heap.get?_push_size _ rfl, rfl, _, rfl⟩⟩
theorem pe_lst (h : PA X es t) : PE X (.List es pos) (tLst t) := by
  intro pins s σ H Q I hq
  refine wpAny_List_spliced (thn (h pos pins s σ H _ I hq) fun us s1 ⟨xs, H1, I1, r, z, q⟩ => ⟨by rw [← r.length]; exact z, ?_⟩)
  have hf : H1 s1.heap.objs.size = none := I1.hok.fresh (Nat.le_refl _)
  refine ⟨.ref s1.heap.objs.size, upd H1 s1.heap.objs.size (.lst xs), I1.laid (t' := s1.toks) (fun b u e => Heap.get?_push_of_some _ e) (Nat.le_refl _) ?_, rfl, q _ hf⟩
  exact ⟨z, us, 0, r, Heap.get?_push_size _ rfl⟩
end

/-! ### what a def promises -/
/-- a def's promise: the bound arguments in the parameters' order, the heap, the wanted end, the wanted exception -/
abbrev Sp := List V → Hp → VK → XK → Prop
/-- how an exception lies behind a call (file 08 gives it): the callers' frames, abstract heap and state ahead of the call, the wish, the exception, the state -/
abbrev CXT := List Env → Hp → Shared → XK → Value → Shared → Prop

/-- the state at a call -/
structure Env0 (P : Program) (w : World) (K : PySem.W.Frag) (mg : Str → Option Value) (base : Heap) (A : Around) (outer : List Env) (s : Shared) (H : Hp) : Prop where
  frames : A.frames = some outer
  mod : Mod K mg base
  bs : ∀ b o, base.get? b = some o → s.heap.get? b = some o ∧ H b = none
  bsz : base.objs.size ≤ s.heap.objs.size
  funs : s.heap.FunFrames base outer
  frf : ∀ b ∈ frs outer, H b = none
  hok : HOk P w H s.heap
  bare : AllBare s.gens
/-- a call's end -/
def CE (outer : List Env) (P : Program) (w : World) (H : Hp) (s : Shared) (Q : VK) (u : Value) (s' : Shared) : Prop :=
  ∃ v H', s'.os = s.os ∧ AllBare s'.gens ∧ Un (frs outer) [] H H' s.heap s'.heap ∧ HOk P w H' s'.heap ∧ RelV v u ∧ Q v H'
def CR (CX : CXT) (outer : List Env) (P : Program) (w : World) (H : Hp) (s : Shared) (Q : VK) (E : XK) (r : Result) (s' : Shared) : Prop :=
  match r with
  | .ok (.ret u) => CE outer P w H s Q u s'
  | .ok _ => False
  | .error e => CX outer H s E e s'
structure FnOk (P : Program) (w : World) (K : PySem.W.Frag) (mg : Str → Option Value) (base : Heap) (CX : CXT) (k : Nat) (f : Addr) (fd : FuncData) (ps : List Str) (sp : Sp) : Prop where
  len : ∀ vs H Q E, sp vs H Q E → vs.length = ps.length
  run : ∀ (A : Around) (outer : List Env) (s : Shared) (H : Hp) (args : Args) (us : List Value) (vs : List V) (Q : VK) (E : XK), Room k A → Env0 P w K mg base A outer s H → BindsTo s fd args (ps.zip us) → Vals vs us → sp vs H Q E →
    codeAny (model P w) A (.call (.ref f) args) (CR CX outer P w H s Q E) s
theorem FnOk.mono {P : Program} {w : World} {K : PySem.W.Frag} {mg : Str → Option Value} {base : Heap} {CX : CXT} {j k : Nat} {f : Addr} {fd : FuncData} {ps : List Str} {sp : Sp} (F : FnOk P w K mg base CX j f fd ps sp) (h : j ≤ k) :
    FnOk P w K mg base CX k f fd ps sp := ⟨F.len, fun A outer s H args us vs Q E hr => F.run A outer s H args us vs Q E (hr.mono h)⟩
/-- a weaker promise -/
theorem FnOk.imp {P : Program} {w : World} {K : PySem.W.Frag} {mg : Str → Option Value} {base : Heap} {CX : CXT} {k : Nat} {f : Addr} {fd : FuncData} {ps : List Str} {sp sp' : Sp} (F : FnOk P w K mg base CX k f fd ps sp)
    (h : ∀ vs H Q E, sp' vs H Q E → sp vs H Q E) : FnOk P w K mg base CX k f fd ps sp' :=
  ⟨fun vs H Q E q => F.len vs H Q E (h _ _ _ _ q), fun A outer s H args us vs Q E hr he hb hv hs => F.run A outer s H args us vs Q E hr he hb hv (h _ _ _ _ hs)⟩

theorem Env0.make {P : Program} {w : World} {K : PySem.W.Frag} {mg : Str → Option Value} {base : Heap} {A : Around} {outer : List Env} {s : Shared} {H : Hp} (e : Env0 P w K mg base A outer s H) (C : Addr) (us : List Value) (kw : List (Str × Value)) :
    Env0 P w K mg base (A.under (.builtin "type.__call__" ⟨.ref C :: us, kw⟩)) outer s H := ⟨by first | exact e.frames | (simpa [Around.under, Code.envs, Code.isFrame, pushEnvs] using e.frames), e.mod, e.bs, e.bsz, e.funs, e.frf, e.hok, e.bare⟩
theorem Env0.in1 {P : Program} {w : World} {K : PySem.W.Frag} {mg : Str → Option Value} {base : Heap} {A : Around} {outer : List Env} {s : Shared} {H : Hp} (e : Env0 P w K mg base A outer s H) :
    Env0 P w K mg base A.in1 outer s H := ⟨e.frames, e.mod, e.bs, e.bsz, e.funs, e.frf, e.hok, e.bare⟩

section
variable {X : Cx} {pins : List (Addr × Obj)} {σ : St} {H : Hp} {s s' : Shared}
/-- from a body: what a callee wants -/
theorem Inv.env0 (I : Inv X pins σ H s) : Env0 X.prog X.w X.K X.mg X.base X.A X.stack s H :=
  ⟨I.ok.frames, I.ok.mod, I.bs, Nat.le_trans I.ok.bsz I.sz, I.stack, I.stkFree, I.hok, I.bare⟩
/-- behind a call -/
theorem Inv.after {Q : VK} {u : Value} (I : Inv X pins σ H s) (h : CE X.stack X.prog X.w H s Q u s') : EP X pins σ Q u s' := by
  obtain ⟨v, H', os, bare, un, hok, r, q⟩ := h
  obtain ⟨hh, g, d, t, os'⟩ := s'
  obtain rfl : os' = s.os := os
  exact ⟨v, H', I.call (h' := hh) (g' := g) (d' := d) (t' := t) (ch := []) un hok bare (fun b z => absurd z (by simp)), r, q⟩
end

/-! ### calls -/
/-- f(..): the written arguments, then the defaults dvs; E: what is wanted of an exception -/
def tCall (sp : Sp) (dvs : List V) (E : XK) (t : TA) : TE := fun σ H Q => t σ H fun vs H1 => sp (vs ++ dvs) H1 Q E
/-- o.m(..) of an instance of the class at C -/
def tMeth (C : Addr) (m : Str) (sp : Sp) (dvs : List V) (E : XK) (ta : TE) (t : TA) : TE := fun σ H Q => ta σ H fun x H1 => ∃ a dx fs, x = .ref a ∧ H1 a = some (.ins C dx fs) ∧ fs.lookup m = none ∧
  t σ H1 fun vs H2 => sp (x :: (vs ++ dvs)) H2 Q E
/-- C(..): a new instance and its dict, then __init__ -/
def tMake (C : Addr) (sp : Sp) (dvs : List V) (E : XK) (t : TA) : TE := fun σ H Q => t σ H fun vs H1 => ∀ x dx, H1 x = none → H1 dx = none → dx ≠ x →
  sp (.ref x :: (vs ++ dvs)) (upd (upd H1 dx (.own x)) x (.ins C dx [])) (fun v H2 => v = .non ∧ Q (.ref x) H2) E

/-- how the parameters are bound: us the positional arguments, kw the keywords' values by name, ds the defaults that fill up -/
def Binds (K : PySem.W.Frag) (fd : FuncData) (ps : List Str) (ds : List Value) : Prop :=
  ∀ (s : Shared) (us : List Value), K.In s.heap → (us ++ ds).length = ps.length → BindsTo s fd ⟨us, []⟩ (ps.zip (us ++ ds))
/-- every parameter is given -/
theorem Binds.all {K : PySem.W.Frag} {fd : FuncData} {ps : List Str} (h : ∀ us : List Value, us.length = ps.length → bindArgs fd ⟨us, []⟩ = pure (ps.zip us)) : Binds K fd ps [] := fun s us _ hl => by
  rw [List.append_nil] at hl ⊢
  exact .of_eq (h us hl)

/-- an exception of a callee reaches what this body wants of exceptions -/
def Passes (CX : CXT) (X : Cx) (E : XK) : Prop := ∀ (pins : List (Addr × Obj)) (σ : St) (H : Hp) (s : Shared) (e : Value) (s' : Shared), Inv X pins σ H s → CX X.stack H s E e s' → X.xe e s'

section
variable {X : Cx} {CX : CXT} {k : Nat} {f C : Addr} {fd : FuncData} {ps : List Str} {sp : Sp} {dvs : List V} {ds : List Value} {E : XK} {x m : Str} {p pos apos : Pos} {e o : Expr} {es : List Expr} {ta : TE} {t : TA}

/-- the callee runs -/
theorem run_fn {pins : List (Addr × Obj)} {σ : St} {H : Hp} {s : Shared} {Q : VK} {us : List Value} {vs : List V} (F : FnOk X.prog X.w X.K X.mg X.base CX k f fd ps sp) (hr : Room k X.A) (hb : Binds X.K fd ps ds) (hd : Vals dvs ds) (hx : Passes CX X E)
    (I : Inv X pins σ H s) (r : Vals vs us) (h : sp (vs ++ dvs) H Q E) : wpAny (model X.prog X.w) X.A (call (.ref f) us) (EP X pins σ Q) X.xe s := by
  have r2 : Vals (vs ++ dvs) (us ++ ds) := r.append hd
  have hl : (us ++ ds).length = ps.length := by rw [← r2.length]; exact F.len _ _ _ _ h
  refine wpAny_call (codeAny_mono (F.run X.A X.stack s H ⟨us, []⟩ (us ++ ds) (vs ++ dvs) Q E hr I.env0 (hb s us I.kIn hl) r2 h) fun r s' hq => ?_)
  cases r with
  | error e => exact hx pins σ H s e s' I hq
  | ok fl =>
    cases fl with
    | ret u => exact I.after hq
    | next => exact False.elim hq
    | brk => exact False.elim hq
    | cont => exact False.elim hq

theorem pe_call (F : FnOk X.prog X.w X.K X.mg X.base CX k f fd ps sp) (hr : Room k X.A) (hg : Gl X x) (hm : X.mg x = some (.ref f)) (hk : PySem.W.keepIn X.K (.ref f) = true) (hb : Binds X.K fd ps ds) (hd : Vals dvs ds) (hx : Passes CX X E)
    (ha : PA X (e :: es) t) (hdb : (x == ("__debug__" : Str)) = false := by decide) (he : starEach (e :: es) X.env = (false, eval e X.env) :: starEach es X.env := by rfl) (hpl : (backTo pos (starEach es X.env)).any (·.1) = false := by rfl) :
    PE X (.Call (.Name x p) (e :: es) [] pos) (tCall sp dvs E t) := by
  intro pins s σ H Q I h
  refine wpAny_Call_Name_kw (ld_glob I hg hm ?_ hdb)
  refine PySem.W.callWith_K (h₀ := X.base) I.ok.mod.kin hk (thn (ha pos pins s σ H _ I h) fun us s1 ⟨vs, H1, I1, r, q⟩ => ⟨I1.kIn, ?_⟩) he hpl
  exact run_fn F hr hb hd hx I1 r q
theorem pe_call0 (F : FnOk X.prog X.w X.K X.mg X.base CX k f fd ps sp) (hr : Room k X.A) (hg : Gl X x) (hm : X.mg x = some (.ref f)) (hk : PySem.W.keepIn X.K (.ref f) = true) (hb : Binds X.K fd ps ds) (hd : Vals dvs ds) (hx : Passes CX X E)
    (hdb : (x == ("__debug__" : Str)) = false := by decide) : PE X (.Call (.Name x p) [] [] pos) (tCall sp dvs E tNil) := by
  intro pins s σ H Q I h
  refine wpAny_Call_Name_kw (ld_glob I hg hm ?_ hdb)
  exact PySem.W.callWith_K0 I.kIn hk (run_fn (us := []) F hr hb hd hx I .nil h)

/-- o.m(e, ..) -/
theorem pe_meth {pl : Sem Bool} (he : PE X o ta) (c : Cls X.K C) (hm : Meth X.K C m f) (F : FnOk X.prog X.w X.K X.mg X.base CX k f fd ps sp) (hr : Room k X.A) (hb : Binds X.K fd ps ds) (hd : Vals dvs ds) (hx : Passes CX X E) (ha : PA X (e :: es) t)
    (hst : starEach (e :: es) X.env = (false, eval e X.env) :: starEach es X.env := by rfl) (hpl : (backTo pos (starEach es X.env)).any (·.1) = false := by rfl)
    (ht : eval (.Call (.Attribute o m apos) (e :: es) [] pos) X.env = (do
      let ov ← eval o X.env
      standAt apos.atName
      let (f, first) ← holding [ov] (getMethod ov m pl)
      callWith pos f first (backTo pos (starEach (e :: es) X.env)) (backToKw pos (keywordEach [] X.env))) := by rfl) :
    PE X (.Call (.Attribute o m apos) (e :: es) [] pos) (tMeth C m sp dvs E ta t) := by
  intro pins s σ H Q I h
  refine PySem.W.methodCall_KW (pl := pl) (thn (he pins s σ H _ I h) fun u s1 ⟨x, H1, I1, rx, a, dx, fs, ex, ea, l, q⟩ => ?_) ht
  subst ex
  obtain rfl : u = Value.ref a := rx
  refine getmeth_ok I1 ea c hm l ?_
  refine PySem.W.callWith_K (first := [.ref a]) (h₀ := X.base) I.ok.mod.kin hm.kp (thn (ha pos pins s1 σ H1 _ I1 q) fun us s2 ⟨vs, H2, I2, r, q2⟩ => ⟨I2.kIn, ?_⟩) hst hpl
  exact run_fn (us := .ref a :: us) (vs := .ref a :: vs) F hr hb hd hx I2 (.cons rfl r) q2
/-- o.m() -/
theorem pe_meth0 {pl : Sem Bool} (he : PE X o ta) (c : Cls X.K C) (hm : Meth X.K C m f) (F : FnOk X.prog X.w X.K X.mg X.base CX k f fd ps sp) (hr : Room k X.A) (hb : Binds X.K fd ps ds) (hd : Vals dvs ds) (hx : Passes CX X E)
    (ht : eval (.Call (.Attribute o m apos) [] [] pos) X.env = (do
      let ov ← eval o X.env
      standAt apos.atName
      let (f, first) ← holding [ov] (getMethod ov m pl)
      callWith pos f first (backTo pos (starEach [] X.env)) (backToKw pos (keywordEach [] X.env))) := by rfl) :
    PE X (.Call (.Attribute o m apos) [] [] pos) (tMeth C m sp dvs E ta tNil) := by
  intro pins s σ H Q I h
  refine PySem.W.methodCall_KW (pl := pl) (thn (he pins s σ H _ I h) fun u s1 ⟨x, H1, I1, rx, a, dx, fs, ex, ea, l, q⟩ => ?_) ht
  subst ex
  obtain rfl : u = Value.ref a := rx
  refine getmeth_ok I1 ea c hm l ?_
  exact PySem.W.callWith_K0 (first := [.ref a]) I1.kIn hm.kp (run_fn (us := [.ref a]) (vs := [.ref a]) F hr hb hd hx I1 (.cons rfl .nil) q)

/-- what a class must have to be made -/
structure Mk (K : PySem.W.Frag) (C f : Addr) : Prop where
  makes : PySem.W.makesIn K C = true
  init : PySem.W.findIn K (.ref C) "__init__" = some (some (.ref f))
  fn : PySem.W.isFn K (.ref f) = true
  kp : PySem.W.keepIn K (.ref C) = true

theorem run_make {pins : List (Addr × Obj)} {σ : St} {H : Hp} {s : Shared} {Q : VK} {us : List Value} {vs : List V} (M : Mk X.K C f) (F : FnOk X.prog X.w X.K X.mg X.base CX k f fd ps sp) (hr : Room (k + 1) X.A) (hb : Binds X.K fd ps ds) (hd : Vals dvs ds)
    (hx : Passes CX X E) (I : Inv X pins σ H s) (r : Vals vs us)
    (h : ∀ x dx, H x = none → H dx = none → dx ≠ x → sp (.ref x :: (vs ++ dvs)) (upd (upd H dx (.own x)) x (.ins C dx [])) (fun v H2 => v = .non ∧ Q (.ref x) H2) E) :
    wpAny (model X.prog X.w) X.A (call (.ref C) us) (EP X pins σ Q) X.xe s := by
  have hq := h (s.heap.objs.size + 1) s.heap.objs.size (I.hok.fresh (Nat.le_succ _)) (I.hok.fresh (Nat.le_refl _)) (Nat.ne_of_lt (Nat.lt_succ_self _))
  have I2 := Inv.made (C := C) I
  have r2 : Vals (V.ref (s.heap.objs.size + 1) :: (vs ++ dvs)) (Value.ref (s.heap.objs.size + 1) :: (us ++ ds)) := .cons rfl (r.append hd)
  have hl : (Value.ref (s.heap.objs.size + 1) :: us ++ ds).length = ps.length := by
    have e := r2.length
    rw [F.len _ _ _ _ hq] at e
    exact e.symm
  refine wpAny_call (make_map (f := f) I.kIn M.makes M.init (beq_iff_eq.mp M.fn) (codeAny_mono (F.run _ X.stack _ _ ⟨Value.ref (s.heap.objs.size + 1) :: us, []⟩ (Value.ref (s.heap.objs.size + 1) :: (us ++ ds)) _ _ E (hr.make C us [])
    (I2.env0.make C us []) (hb _ (Value.ref (s.heap.objs.size + 1) :: us) I2.kIn hl) r2 hq) fun r s' hq' => ?_))
  cases r with
  | error e => exact hx pins σ _ _ e s' I2 hq'
  | ok fl =>
    cases fl with
    | ret u =>
      obtain ⟨v, H', I3, rv, ev, q3⟩ := I2.after hq'
      subst ev
      exact ⟨rv, ⟨V.ref (s.heap.objs.size + 1), H', I3, rfl, q3⟩⟩
    | next => exact False.elim hq'
    | brk => exact False.elim hq'
    | cont => exact False.elim hq'
theorem pe_make (M : Mk X.K C f) (F : FnOk X.prog X.w X.K X.mg X.base CX k f fd ps sp) (hr : Room (k + 1) X.A) (hg : Gl X x) (hm : X.mg x = some (.ref C)) (hb : Binds X.K fd ps ds) (hd : Vals dvs ds) (hx : Passes CX X E)
    (ha : PA X (e :: es) t) (hdb : (x == ("__debug__" : Str)) = false := by decide) (he : starEach (e :: es) X.env = (false, eval e X.env) :: starEach es X.env := by rfl) (hpl : (backTo pos (starEach es X.env)).any (·.1) = false := by rfl) :
    PE X (.Call (.Name x p) (e :: es) [] pos) (tMake C sp dvs E t) := by
  intro pins s σ H Q I h
  refine wpAny_Call_Name_kw (ld_glob I hg hm ?_ hdb)
  refine PySem.W.callWith_K (h₀ := X.base) I.ok.mod.kin M.kp (thn (ha pos pins s σ H _ I h) fun us s1 ⟨vs, H1, I1, r, q⟩ => ⟨I1.kIn, ?_⟩) he hpl
  exact run_make M F hr hb hd hx I1 r q
theorem pe_make0 (M : Mk X.K C f) (F : FnOk X.prog X.w X.K X.mg X.base CX k f fd ps sp) (hr : Room (k + 1) X.A) (hg : Gl X x) (hm : X.mg x = some (.ref C)) (hb : Binds X.K fd ps ds) (hd : Vals dvs ds) (hx : Passes CX X E)
    (hdb : (x == ("__debug__" : Str)) = false := by decide) : PE X (.Call (.Name x p) [] [] pos) (tMake C sp dvs E tNil) := by
  intro pins s σ H Q I h
  refine wpAny_Call_Name_kw (ld_glob I hg hm ?_ hdb)
  exact PySem.W.callWith_K0 I.kIn M.kp (run_make (us := []) M F hr hb hd hx I .nil h)
end

/-! ### keywords -/
/-- the values of the keywords, from the left -/
def PK (X : Cx) (kws : List Keyword) (t : TA) : Prop :=
  ∀ (pos : Pos) (pins : List (Addr × Obj)) (s : Shared) (σ : St) (H : Hp) (Q : List V → Hp → Prop), Inv X pins σ H s → t σ H Q → wpAny (model X.prog X.w) X.A (evalAll ((backToKw pos (keywordEach kws X.env)).map (·.2))) (AP X pins σ Q) X.xe s
section
variable {X : Cx} {CX : CXT} {k : Nat} {f C : Addr} {fd : FuncData} {ps ks : List Str} {sp : Sp} {E : XK} {x m : Str} {p pos apos kpos : Pos} {e o : Expr} {es : List Expr} {kws : List Keyword} {te ta : TE} {t tk : TA} {nm : Option Str}
theorem pk_nil : PK X [] tNil := fun _ _ _ _ H Q I h => wpAny_evalAll_nil ⟨[], H, I, .nil, h⟩
theorem pk_cons (ha : PE X e te) (hr : PK X kws t) : PK X (⟨nm, e, kpos⟩ :: kws) (tCons te t) := by
  intro pos pins s σ H Q I h
  show wpAny _ _ (evalAll ((do let v ← eval e X.env; standAt pos; pure v) :: (backToKw pos (keywordEach kws X.env)).map (·.2))) _ _ s
  refine wpAny_evalAll_cons (wpAny_bind (thn (ha pins s σ H _ I h) fun u s1 ⟨x, H1, I1, r1, q1⟩ => wpAny_bind (wpAny_standAt (wpAny_pure ?_))))
  exact thn (hr pos pins s1 σ H1 _ I1 q1) fun us s2 ⟨xs, H2, I2, r2, q2⟩ => ⟨x :: xs, H2, I2, .cons r1 r2, q2⟩

/-- how a call with keywords binds: g puts the positional values us and the keywords' values ws (names ks) in the parameters' order, defaults among them -/
structure KBinds (K : PySem.W.Frag) (fd : FuncData) (ps ks : List Str) (g : List Value → List Value → List Value) (gV : List V → List V → List V) : Prop where
  to : ∀ (s : Shared) (us ws : List Value), K.In s.heap → (g us ws).length = ps.length → BindsTo s fd ⟨us, ks.zip ws⟩ (ps.zip (g us ws))
  rel : ∀ {vs : List V} {us : List Value} {zs : List V} {ws : List Value}, Vals vs us → Vals zs ws → Vals (gV vs zs) (g us ws)
def tCallK (sp : Sp) (gV : List V → List V → List V) (E : XK) (t tk : TA) : TE := fun σ H Q => t σ H fun vs H1 => tk σ H1 fun zs H2 => sp (gV vs zs) H2 Q E
variable {g : List Value → List Value → List Value} {gV : List V → List V → List V}
theorem run_fnk {pins : List (Addr × Obj)} {σ : St} {H : Hp} {s : Shared} {Q : VK} {us ws : List Value} {vs zs : List V} (F : FnOk X.prog X.w X.K X.mg X.base CX k f fd ps sp) (hr : Room k X.A) (hb : KBinds X.K fd ps ks g gV) (hx : Passes CX X E)
    (I : Inv X pins σ H s) (r : Vals vs us) (rz : Vals zs ws) (h : sp (gV vs zs) H Q E) : wpAny (model X.prog X.w) X.A (call (.ref f) us (ks.zip ws)) (EP X pins σ Q) X.xe s := by
  have r2 := hb.rel r rz
  have hl : (g us ws).length = ps.length := by rw [← r2.length]; exact F.len _ _ _ _ h
  refine wpAny_call (codeAny_mono (F.run X.A X.stack s H ⟨us, ks.zip ws⟩ (g us ws) (gV vs zs) Q E hr I.env0 (hb.to s us ws I.kIn hl) r2 h) fun r s' hq => ?_)
  cases r with
  | error e => exact hx pins σ H s e s' I hq
  | ok fl =>
    cases fl with
    | ret u => exact I.after hq
    | next => exact False.elim hq
    | brk => exact False.elim hq
    | cont => exact False.elim hq
/-- f(e, .., k = v, ..) -/
theorem pe_callK (F : FnOk X.prog X.w X.K X.mg X.base CX k f fd ps sp) (hr : Room k X.A) (hg : Gl X x) (hm : X.mg x = some (.ref f)) (hk : PySem.W.keepIn X.K (.ref f) = true) (hb : KBinds X.K fd ps ks g gV) (hx : Passes CX X E)
    (ha : PA X (e :: es) t) (hkw : PK X kws tk) (hall : (backToKw pos (keywordEach kws X.env)).all (·.1.isSome) = true := by rfl) (hks : (backToKw pos (keywordEach kws X.env)).filterMap (·.1) = ks := by rfl)
    (hdb : (x == ("__debug__" : Str)) = false := by decide) (he : starEach (e :: es) X.env = (false, eval e X.env) :: starEach es X.env := by rfl)
    (hpl : ((backTo pos (starEach (e :: es) X.env)).any (·.1) || (backToKw pos (keywordEach kws X.env)).any (·.1.isNone)) = false := by rfl) :
    PE X (.Call (.Name x p) (e :: es) kws pos) (tCallK sp gV E t tk) := by
  intro pins s σ H Q I h
  refine wpAny_Call_Name_kw (ld_glob I hg hm ?_ hdb)
  refine PySem.W.callWith_KW (h₀ := X.base) I.ok.mod.kin hk hall (thn (ha pos pins s σ H _ I h) fun us s1 ⟨vs, H1, I1, r, q⟩ => ?_) hpl he
  refine thn (hkw pos pins s1 σ H1 _ I1 q) fun ws s2 ⟨zs, H2, I2, rz, q2⟩ => ⟨I2.kIn, ?_⟩
  rw [hks]
  exact run_fnk F hr hb hx I2 r rz q2
end

/-! ### a def's body keeps its promise -/
/-- names: the parameters first -/
structure FnScope (N P : List Str) (sc : Scope) : Prop where
  kind : sc.kind = .function
  co : sc.isCoroutine = false
  gen : sc.isGenerator = false
  nd : N.Nodup
  pre : N.take P.length = P
  par : ∀ x ∈ P, sc.names.lookup x = some .local ∨ sc.names.lookup x = some .cell
  nofree : ∀ y ∈ sc.names, y.2 ≠ .free

theorem bindL_out {kindOf : Str → Option NameKind} {x : Str} : ∀ {binds : List (Str × Value)} {m : Str → Option Value}, (∀ v, (x, v) ∉ binds) → bindL kindOf binds m x = m x
  | [], _, _ => rfl
  | (n, v) :: r, m, h => by
    unfold bindL
    rw [bindL_out fun w hw => h w (List.mem_cons_of_mem _ hw)]
    split
    · have : x ≠ n := by rintro rfl; exact h v List.mem_cons_self
      simp [this]
    · rfl
theorem bindC_out {kindOf : Str → Option NameKind} {x : Str} : ∀ {binds : List (Str × Value)} {m : Str → Option Value}, (∀ v, (x, v) ∉ binds) → bindC kindOf binds m x = m x
  | [], _, _ => rfl
  | (n, v) :: r, m, h => by
    unfold bindC
    rw [bindC_out fun w hw => h w (List.mem_cons_of_mem _ hw)]
    split
    · rfl
    · have : x ≠ n := by rintro rfl; exact h v List.mem_cons_self
      simp [this]
theorem bindL_get {kindOf : Str → Option NameKind} {x : Str} {v : Value} : ∀ {P : List Str} {vs : List Value} {i : Nat} {m : Str → Option Value}, P.Nodup → P[i]? = some x → vs[i]? = some v → kindOf x = some .local →
    bindL kindOf (P.zip vs) m x = some v
  | [], _, _, _, _, h, _, _ => by simp at h
  | _ :: _, [], _, _, _, _, h, _ => by simp at h
  | p :: P, w :: vs, 0, m, nd, h1, h2, hk => by
    simp at h1 h2; subst h1; subst h2
    show bindL kindOf ((p, w) :: P.zip vs) m p = _
    unfold bindL
    rw [bindL_out fun v hv => (List.nodup_cons.mp nd).1 (List.of_mem_zip hv).1, if_pos hk]
    simp
  | p :: P, w :: vs, i + 1, m, nd, h1, h2, hk => by
    show bindL kindOf ((p, w) :: P.zip vs) m x = _
    unfold bindL
    exact bindL_get (i := i) (List.nodup_cons.mp nd).2 (by simpa using h1) (by simpa using h2) hk
theorem bindC_get {kindOf : Str → Option NameKind} {x : Str} {v : Value} : ∀ {P : List Str} {vs : List Value} {i : Nat} {m : Str → Option Value}, P.Nodup → P[i]? = some x → vs[i]? = some v → kindOf x ≠ some .local →
    bindC kindOf (P.zip vs) m x = some v
  | [], _, _, _, _, h, _, _ => by simp at h
  | _ :: _, [], _, _, _, _, h, _ => by simp at h
  | p :: P, w :: vs, 0, m, nd, h1, h2, hk => by
    simp at h1 h2; subst h1; subst h2
    show bindC kindOf ((p, w) :: P.zip vs) m p = _
    unfold bindC
    rw [bindC_out fun v hv => (List.nodup_cons.mp nd).1 (List.of_mem_zip hv).1, if_neg hk]
    simp
  | p :: P, w :: vs, i + 1, m, nd, h1, h2, hk => by
    show bindC kindOf ((p, w) :: P.zip vs) m x = _
    unfold bindC
    exact bindC_get (i := i) (List.nodup_cons.mp nd).2 (by simpa using h1) (by simpa using h2) hk

/-- the names' values at the entry -/
def start (N : List Str) (vs : List V) : St := vs.map some ++ List.replicate (N.length - vs.length) none

/-- the context of a def's body, at its entry; an exception leaves the frame, then lies as CX says -/
def cxOf (CX : CXT) (P : Program) (w : World) (K : PySem.W.Frag) (mg : Str → Option Value) (base : Heap) (N : List Str) (qual : Str) (scope : Scope) (f : Addr) (cd : Value) (A : Around) (outer : List Env) (s : Shared) (H : Hp) (E : XK) : Cx where
  prog := P
  w := w
  K := K
  mg := mg
  base := base
  A := A.deeper (envOfC qual scope s.heap.objs.size f cd)
  N := N
  s₀ := s
  H₀ := H
  env := envOfC qual scope s.heap.objs.size f cd
  outer := outer
  stack := envOfC qual scope s.heap.objs.size f cd :: outer
  ex := []
  calm := true
  fn := fun _ => true
  pn := []
  xe := fun e s' => wpAny (model P w) (A.deeper (envOfC qual scope s.heap.objs.size f cd)) (leaving (envOfC qual scope s.heap.objs.size f cd) e) (fun _ s'' => CX outer H s E e s'') (fun e' s'' => CX outer H s E e' s'') s'

theorem cell_has {sc : Scope} {n : Nat} {x : Str} (h : sc.names.lookup x = some .cell) : ∃ c, (cellsFrom n sc.names []).lookup x = some c := by
  have q := PySem.W.cellsFrom_some sc.names n [] (.inl h)
  exact Option.isSome_iff_exists.mp q

theorem inv_start {CX : CXT} {P : Program} {w : World} {K : PySem.W.Frag} {mg : Str → Option Value} {base : Heap} {N ps : List Str} {qual : Str} {scope : Scope} {f : Addr} {cd : Value} {A : Around} {outer : List Env} {s s1 : Shared} {H : Hp} {E : XK} {us : List Value} {vs : List V}
    (S : FnScope N ps scope) (hd : A.handled = none) (e0 : Env0 P w K mg base A outer s H) (hl : vs.length = ps.length) (r : Vals vs us)
    (x : InCallC s s.heap.objs.size (bindL (envOfC qual scope s.heap.objs.size f cd).kindOf (ps.zip us) fun _ => none) (cellsFrom (s.heap.objs.size + 1) scope.names []) (bindC (envOfC qual scope s.heap.objs.size f cd).kindOf (ps.zip us) fun _ => none) s1) :
    Inv (cxOf CX P w K mg base N qual scope f cd A outer s H E) [] (start N vs) H s1 := by
  have hpl : ps.length ≤ N.length := by have := congrArg List.length S.pre; rw [List.length_take] at this; omega
  obtain ⟨h1, tk, rfl, hk⟩ := x.done
  have noA : ∀ b : Addr, b ∉ (cxOf CX P w K mg base N qual scope f cd A outer s H E).ex := fun b z => absurd (show b ∈ ([] : List Addr) from z) (by simp)
  refine ⟨⟨e0.mod, S.kind, rfl, rfl, Nat.le_refl _, fun y z c h1 h2 => ?_, fun y hy => ?_, fun y c _ h => ?_, fun _ => hd, Around.frames_deeper e0.frames, .inr ⟨rfl, rfl⟩, fun b z => absurd z (noA b), e0.bs, e0.bsz, fun b _ _ => noA b, fun b z => absurd z (noA b), e0.funs, e0.frf⟩,
    rfl, e0.bare, Un.kept hk, ⟨_, x.toInCall.ns, fun i y v h1 h2 h3 => ?_⟩, fun y c h => ⟨_, x.cell y c h⟩, e0.hok.fresh (Nat.le_refl _), fun y c h => ?_, fun p hp => absurd (show p ∈ ([] : List (Addr × Obj)) from hp) (by simp), e0.hok.kept hk, ?_⟩
  · exact name_of_addr x.apart (PySem.mem_of_lookup h1) (PySem.mem_of_lookup h2)
  · have hy : scope.names.lookup y = some .cell ∨ scope.names.lookup y = some .free := hy
    rcases hy with hy | hy
    · exact cell_has hy
    · exact absurd rfl (S.nofree _ (PySem.mem_of_lookup hy))
  · exact Nat.le_of_lt (x.above y c (PySem.mem_of_lookup h))
  · have hi : i < vs.length := by
      unfold start at h2
      by_cases hi : i < vs.length
      · exact hi
      · rw [List.getElem?_append_right (by simpa using hi)] at h2
        rw [List.getElem?_replicate] at h2
        split at h2 <;> cases h2
    have ha : vs[i]? = some v := by
      unfold start at h2
      rw [List.getElem?_append_left (by simpa using hi), List.getElem?_map] at h2
      cases e : vs[i]? with
      | none => rw [e] at h2; cases h2
      | some a => rw [e] at h2; cases h2; rfl
    obtain ⟨u, hu, rv⟩ := r.get ha
    have hp : ps[i]? = some y := by
      rw [← S.pre, List.getElem?_take_of_lt (by omega)]; exact h1
    have ndP : ps.Nodup := by rw [← S.pre]; exact S.nd.sublist (List.take_sublist _ _)
    refine ⟨u, rv, ?_⟩
    rcases S.par y (List.mem_of_getElem? hp) with k | k
    · exact .inl ⟨k, bindL_get ndP hp hu k⟩
    · obtain ⟨c, e⟩ := cell_has (n := s.heap.objs.size + 1) k
      refine .inr ⟨.inl k, c, e, ?_⟩
      have q := x.cell y c e
      rw [bindC_get ndP hp hu (by show scope.names.lookup y ≠ _; rw [k]; decide)] at q
      exact q
  · exact e0.hok.fresh (Nat.le_of_lt (x.above y c (PySem.mem_of_lookup h)))
  · unfold start
    show _ = N.length
    rw [List.length_append, List.length_map, List.length_replicate]
    omega

/-- THE RULE: a def (or a method) of the text, by its body. The body's reading t is chosen for each entry; it is run at the parameters' values -/
theorem fn_of {CX : CXT} {P : Program} {w : World} {K : PySem.W.Frag} {mg : Str → Option Value} {base : Heap} {k : Nat} {f : Addr} {name qual : Str} {params : Arguments} {body : List Stmt} {scope : Scope} {dV kV doc pm cdv ct oc : Value} {an od : Option Addr}
    {osl : Array (Option Value)} {N ps : List Str} {sp : Sp} (lk : K.lookup f = some ⟨oc, od, .func (PySem.W.fnOf name qual params body scope dV kV doc pm an cdv ct), osl⟩) (hcd : PySem.W.codeIn K cdv qual = true) (S : FnScope N ps scope)
    (len : ∀ vs H Q E, sp vs H Q E → vs.length = ps.length)
    (hbody : ∀ (A : Around) (outer : List Env) (s : Shared) (H : Hp) (vs : List V) (Q : VK) (E : XK), Room k (A.deeper (envOfC qual scope s.heap.objs.size f cdv)) → sp vs H Q E →
      ∃ t, PSs (cxOf CX P w K mg base N qual scope f cdv A outer s H E) body t ∧ t { nx := fun _ H' => Q .non H', rt := Q } (start N vs) H) :
    FnOk P w K mg base CX (k + 1) f (PySem.W.fnOf name qual params body scope dV kV doc pm an cdv ct) ps sp := by
  refine ⟨len, fun A outer s H args us vs Q E hr e0 hb r hsp => ?_⟩
  have hl := len _ _ _ _ hsp
  have KX : K.In s.heap := e0.mod.kin.keeps fun b o e => (e0.bs b o e).1
  have lim : s.heap.NoLimit := e0.mod.nolimit.keeps fun b o e => (e0.bs b o e).1
  have hkind : ∀ y ∈ ps.zip us, scope.names.lookup y.1 = some .local ∨ (scope.names.lookup y.1 = some .cell ∧ ((cellsFrom (s.heap.objs.size + 1) scope.names []).lookup y.1).isSome = true) := fun ⟨n, v⟩ hy => by
    rcases S.par n (List.of_mem_zip hy).1 with q | q
    · exact .inl q
    · exact .inr ⟨q, PySem.W.cellsFrom_some _ _ _ (.inl q)⟩
  refine codeAny_call_function hr.depth (KX _ _ lk) rfl S.co S.gen rfl (PySem.W.codeRec_of KX hcd) (hb _ _ _ _ ?_)
  refine wpAny_newFunctionEnv_cells S.kind hkind fun env he s1 x => ?_
  subst he
  refine ⟨lim.keeps x.toInCall.keep, codeAny_func ?_⟩
  obtain ⟨t, ht, hq⟩ := hbody A outer s H vs Q E (hr.deeper _) hsp
  have I : Inv (cxOf CX P w K mg base N qual scope f cdv A outer s H E) [] (start N vs) H s1 := inv_start S hr.hd e0 hl r x
  refine wpAny_mono (ht [] s1 (start N vs) H _ I hq) (fun fl s' hs => ?_) fun e s' hs => hs
  have fin : ∀ {σ' : St} {H' : Hp} {v : V} {u : Value}, Inv (cxOf CX P w K mg base N qual scope f cdv A outer s H E) [] σ' H' s' → RelV v u → Q v H' → CE outer P w H s Q u s' :=
    fun {σ' H' v u} J rv q => ⟨v, H', J.os, J.bare, J.base, J.hok, rv, q⟩
  cases fl with
  | ret u =>
    obtain ⟨v, σ', H', J, rv, q⟩ := hs
    exact fin J rv q
  | next =>
    obtain ⟨σ', H', J, q⟩ := hs
    exact fin (v := V.non) (u := Value.none) J rfl q
  | brk =>
    obtain ⟨_, _, _, q⟩ := hs
    exact False.elim q
  | cont =>
    obtain ⟨_, _, _, q⟩ := hs
    exact False.elim q
end L2

namespace L2
open PySem PySem.Spec PyProof.Rows
section
variable {X : Cx} {x : Str} {p pos : Pos} {e : Expr} {es : List Expr} {t : TA} {id T : String} {r : List V → Hp → VK → Prop}

def tCB (r : List V → Hp → VK → Prop) (t : TA) : TE := fun σ H Q => t σ H fun vs H1 => r vs H1 Q
/-- f(e, ..), f a built-in function -/
theorem pe_callB (hc : CallR X (.builtin id) r) (hg : Gl X x) (hm : X.mg x = none) (hv : bootBuiltins x = some (.builtin id)) (ha : PA X (e :: es) t) (hn : x ≠ "__name__" := by decide) (hdb : (x == ("__debug__" : Str)) = false := by decide)
    (he : starEach (e :: es) X.env = (false, eval e X.env) :: starEach es X.env := by rfl) (hpl : (backTo pos (starEach es X.env)).any (·.1) = false := by rfl) : PE X (.Call (.Name x p) (e :: es) [] pos) (tCB r t) := by
  intro pins s σ H Q I h
  refine wpAny_Call_Name_kw (ld_blt I hg hm hv ?_ hn hdb)
  exact PyProof.Rows.callWith_builtin1 (thn (ha pos pins s σ H _ I h) fun us s1 ⟨vs, H1, I1, r1, q1⟩ => hc pins s1 σ H1 vs us Q I1 r1 q1) he hpl
/-- T(e, ..), T a built-in type -/
theorem pe_callTy (hc : CallR X (.type T) r) (hg : Gl X x) (hm : X.mg x = none) (hv : bootBuiltins x = some (.type T)) (ha : PA X (e :: es) t) (hn : x ≠ "__name__" := by decide) (hdb : (x == ("__debug__" : Str)) = false := by decide)
    (he : starEach (e :: es) X.env = (false, eval e X.env) :: starEach es X.env := by rfl) (hpl : (backTo pos (starEach es X.env)).any (·.1) = false := by rfl) : PE X (.Call (.Name x p) (e :: es) [] pos) (tCB r t) := by
  intro pins s σ H Q I h
  refine wpAny_Call_Name_kw (ld_blt I hg hm hv ?_ hn hdb)
  exact PyProof.Rows.callWith_type1 (thn (ha pos pins s σ H _ I h) fun us s1 ⟨vs, H1, I1, r1, q1⟩ => hc pins s1 σ H1 vs us Q I1 r1 q1) he hpl
/-- T() -/
theorem pe_callTy0 (hc : CallR X (.type T) r) (hg : Gl X x) (hm : X.mg x = none) (hv : bootBuiltins x = some (.type T)) (hn : x ≠ "__name__" := by decide) (hdb : (x == ("__debug__" : Str)) = false := by decide) :
    PE X (.Call (.Name x p) [] [] pos) (tCB r tNil) := by
  intro pins s σ H Q I h
  refine wpAny_Call_Name_kw (ld_blt I hg hm hv ?_ hn hdb)
  exact PyProof.Rows.callWith_type0 (hc pins s σ H [] [] Q I .nil h)
end
end L2

namespace HT
open PySem PyProof.Rows

/-- t < u of tuples of ints -/
def lexLt : List Int → List Int → Bool
  | [], [] => false
  | [], _ :: _ => true
  | _ :: _, [] => false
  | x :: xs, y :: ys => if x = y then lexLt xs ys else decide (x < y)
theorem lexLt_cons (x y : Int) (xs ys : List Int) : lexLt (x :: xs) (y :: ys) = if x = y then lexLt xs ys else decide (x < y) := rfl
theorem lexLt_nil_nil : lexLt [] [] = false := rfl
theorem lexLt_nil_cons (y : Int) (ys : List Int) : lexLt [] (y :: ys) = true := rfl
theorem lexLt_cons_nil (x : Int) (xs : List Int) : lexLt (x :: xs) [] = false := rfl

theorem eqAt_int (A : Around) (s : Shared) (a : Int) (t : Tok) (c : Int) (u : Tok) : ∃ e, SeqAt.EqAt A s (.int a t) (.int c u) e ∧ (e = true ↔ a = c) :=
  ⟨(a == c), SeqAt.EqAt.int_int a t c u, by simp⟩
theorem rcLt_int (A : Around) (s : Shared) (a : Int) (t : Tok) (c : Int) (u : Tok) (prog : Program) (w : World) (E : Value → Shared → Prop) (Q : Value → Shared → Prop) (h : Q (.bool (decide (a < c))) s) :
    wpAny (model prog w) A (richCompare .Lt (.int a t) (.int c u)) Q E s :=
  (PyProof.Rows.lt_int h : wpAny (model prog w) A (compareOp .Lt (.int a t) (.int c u)) Q E s)

section
open PySem.SeqAt
open PySem.AutoSeq1 (wpAny_loadPart')
open PySem.MeetsSeq PySem.MeetsSeq2 PySem.MeetsSeq3

theorem tuple_lt_ints (l b : Addr) (items items2 : Array Value) (n n2 : Nat) (dd dd2 : Option Addr) (sl sl2 : Array (Option Value)) (ns ms : List Int) (hi : IntsAre items.toList ns) (hj : IntsAre items2.toList ms) :
    Meets (Builtin.«tuple.__lt__» ⟨[.ref l, .ref b], []⟩)
      (fun _ R s => s.heap.get? l = some { cls := .type "tuple", dict := dd, data := .seq items n, slots := sl } ∧ s.heap.get? b = some { cls := .type "tuple", dict := dd2, data := .seq items2 n2, slots := sl2 } ∧
        R (.ok (.ret (.bool (lexLt ns ms)))) s) :=
  .of_wp fun prog w A R s h => by
    obtain ⟨hp, g, d, tk, os⟩ := s; obtain ⟨hl, hb, h⟩ := h
    have f2 := AutoSeq1.sub_tuple_tuple
    have z1 : items.size = ns.length := by rw [← hi.length]; simp
    have z2 : items2.size = ms.length := by rw [← hj.length]; simp
    wp_walk using wpAny_loadPart' hl, wpAny_loadPart' hb, wpAny_forIn_list _ (fun rest b s' => b.1 = none ∧ s' = ⟨hp, g, d, tk, os⟩ ∧ ∃ (vs ws : List Value) (ns' ms' : List Int), rest = vs.zip ws ∧
      IntsAre vs ns' ∧ IntsAre ws ms' ∧ ns'.length + items2.size = ms'.length + items.size ∧ R (.ok (.ret (.bool (lexLt ns' ms')))) ⟨hp, g, d, tk, os⟩) _
    case turn =>
      rintro ⟨y, x⟩ rest b s' ⟨hb', rfl, vs, ws, ns', ms', hz, hvi, hwi, hlen, hR⟩
      cases hvi with
      | nil => rw [List.zip_nil_left] at hz; cases hz
      | cons a t hvi' =>
        cases hwi with
        | nil => rw [List.zip_nil_right] at hz; cases hz
        | cons c u hwi' =>
          rw [List.zip_cons_cons] at hz
          injection hz with hyx hrest
          injection hyx with hy hx
          subst hy hx
          rw [lexLt_cons] at hR
          simp only [List.length_cons] at hlen
          obtain ⟨e, he, hiff⟩ := eqAt_int A.in1 ⟨hp, g, d, tk, os⟩ a t c u
          refine wpAny_bind (he prog w _ _ ?_)
          cases e with
          | true =>
            rw [if_pos (hiff.mp rfl)] at hR
            wp_walk
            exact ⟨rfl, rfl, _, _, _, _, hrest, hvi', hwi', by omega, hR⟩
          | false =>
            rw [if_neg (fun q => absurd (hiff.mpr q) Bool.false_ne_true)] at hR
            have hri := rcLt_int A.in1 ⟨hp, g, d, tk, os⟩ a t c u prog w
            wp_walk using hri
            exact ⟨_, rfl, by simpa using hR⟩
    case fin =>
      rintro ⟨b1, b2⟩ s' ⟨hb', rfl, vs, ws, ns', ms', hz, hvi, hwi, hlen, hR⟩
      simp only at hb'
      subst hb'
      have hv : lexLt ns' ms' = decide (items.size < items2.size) := by
        cases hvi with
        | nil =>
          cases hwi with
          | nil =>
            simp only [List.length_nil] at hlen
            rw [lexLt_nil_nil]
            exact (decide_eq_false (by omega)).symm
          | cons c u hw =>
            simp only [List.length_nil, List.length_cons] at hlen
            rw [lexLt_nil_cons]
            exact (decide_eq_true (by omega)).symm
        | cons a t hv =>
          cases hwi with
          | nil =>
            simp only [List.length_nil, List.length_cons] at hlen
            rw [lexLt_cons_nil]
            exact (decide_eq_false (by omega)).symm
          | cons c u hw =>
            rw [List.zip_cons_cons] at hz
            cases hz
      rw [hv] at hR
      wp_walk
      exact ⟨_, rfl, by simpa [Builtin.Tuple.tupleCompareSizes] using hR⟩
    case h =>
      exact ⟨rfl, rfl, items.toList, items2.toList, ns, ms, rfl, hi, hj, by omega, h⟩
end

section
variable {prog : Program} {w : World} {A : Around} {E : Value → Shared → Prop} {s : Shared}

theorem lt_tupInts {l b : Addr} {items items2 : Array Value} {ns ms : List Int} {Q : Value → Shared → Prop} (hl : IsTup s.heap l items) (hb : IsTup s.heap b items2) (hi : IntsAre items.toList ns) (hj : IntsAre items2.toList ms)
    (hu : A.units < cLine) (h : Q (.bool (lexLt ns ms)) s) : wpAny (model prog w) A (compareOp .Lt (.ref l) (.ref b)) Q E s := by
  obtain ⟨⟨cls, dd, data, sl⟩, ho, hc, n, hd⟩ := id hl
  obtain ⟨⟨cls2, dd2, data2, sl2⟩, ho2, hc2, n2, hd2⟩ := id hb
  simp only at hc hd hc2 hd2
  subst hc hd hc2 hd2
  exact richCompare_meets_room (op := .Lt) ⟨_, ho, rfl⟩ ⟨_, ho2, rfl⟩ PySem.F.slot_tuple_lt PySem.F.entry_tuple_lt (PySem.F.args_tuple_lt_2 _ _) (tuple_lt_ints l b items items2 n n2 dd dd2 sl sl2 ns ms hi hj)
    ⟨ho, ho2, show Value.bool (lexLt ns ms) ≠ Value.notImplemented ∧ Q (.bool (lexLt ns ms)) s from ⟨(fun x => nomatch x), h⟩⟩ hu

/-- t + u, t not empty -/
theorem cat_tup {t b : Addr} {vs ws : List Value} {Q : Value → Shared → Prop} (ht : IsTup s.heap t vs.toArray) (hb : IsTup s.heap b ws.toArray) (hv : vs ≠ [])
    (h1 : ws = [] → Q (.ref t) s) (h2 : ws ≠ [] → Q (.ref s.heap.objs.size) { s with heap := s.heap.push { cls := .type "tuple", data := .seq (vs ++ ws).toArray } })
    (hsz : vs.length + ws.length ≤ sizeLine) : wpAny (model prog w) A (binaryOp .Add (.ref t) (.ref b)) Q E s := by
  obtain ⟨⟨cls, dd, data, sl⟩, ho, hc, n, hd⟩ := id ht
  obtain ⟨⟨cls2, dd2, data2, sl2⟩, ho2, hc2, n2, hd2⟩ := id hb
  simp only at hc hd hc2 hd2
  subst hc hd hc2 hd2
  have e : vs.toArray ++ ws.toArray = (vs ++ ws).toArray := by simp
  by_cases hw : ws = []
  · exact concat_meets ⟨_, ho, rfl⟩ ⟨_, ho2, rfl⟩ noFill_tuple_add seq_tuple_add PySem.F.slot_tuple_add PySem.F.entry_tuple_add (PySem.F.args_tuple_add_2 _ _)
      (tuple_addW1 t b vs.toArray ws.toArray n n2 dd dd2 sl sl2 (by simpa using hv) (by simp [hw])) ⟨ho, ho2, h1 hw⟩
  · refine concat_meets ⟨_, ho, rfl⟩ ⟨_, ho2, rfl⟩ noFill_tuple_add seq_tuple_add PySem.F.slot_tuple_add PySem.F.entry_tuple_add (PySem.F.args_tuple_add_2 _ _)
      (tuple_addW2 t b vs.toArray ws.toArray n n2 dd dd2 sl sl2 (by simpa using hv) (by simpa using hw) (by rw [List.size_toArray, List.size_toArray]; exact hsz)) ⟨ho, ho2, ?_⟩
    rw [e]
    exact h2 hw

/-! ### t[a:b], not the whole -/
/-- a slice's bound as a place among n (d where it is left out) -/
def sIx (n d : Nat) : Option Int → Nat
  | none => d
  | some v => if v < 0 then (v + (n : Int)).toNat else min v.toNat n
theorem sIx_none (n d : Nat) : sIx n d none = d := rfl
theorem sIx_nat (n d k : Nat) : sIx n d (some (k : Int)) = min k n := by
  show (if (k : Int) < 0 then ((k : Int) + (n : Int)).toNat else min (k : Int).toNat n) = min k n
  rw [if_neg (by omega), Int.toNat_natCast]
theorem sIx_le (n d : Nat) (hd : d ≤ n) (o : Option Int) : sIx n d o ≤ n := by
  cases o with
  | none => exact hd
  | some v =>
    show (if v < 0 then (v + (n : Int)).toNat else min v.toNat n) ≤ n
    by_cases hv : v < 0
    · rw [if_pos hv]; omega
    · rw [if_neg hv]; exact Nat.min_le_right _ _
theorem clip_eq (v : Int) (n d : Nat) : (if v < 0 then max (v + (n : Int)) 0 else min v (n : Int)) = ((sIx n d (some v) : Nat) : Int) := by
  show (if v < 0 then max (v + (n : Int)) 0 else min v (n : Int)) = (((if v < 0 then (v + (n : Int)).toNat else min v.toNat n) : Nat) : Int)
  by_cases hv : v < 0
  · simp only [if_pos hv]; omega
  · simp only [if_neg hv]; omega
theorem adjust_gen (lo hi : Option Int) (n : Nat) : Builtin.Slice.sliceAdjust lo hi 1 (n : Int) = (((sIx n 0 lo : Nat) : Int), ((sIx n n hi : Nat) : Int)) := by
  have h1 : ¬ ((1 : Int) < 0) := by omega
  unfold Builtin.Slice.sliceAdjust
  simp only [h1, if_false]
  refine Prod.ext ?_ ?_
  · cases lo with
    | none => rfl
    | some v => exact clip_eq v n 0
  · cases hi with
    | none => rfl
    | some v => exact clip_eq v n n
theorem places_gen (i j : Nat) : Builtin.Slice.slicePlaces (i : Int) (j : Int) 1 = j - i := by
  unfold Builtin.Slice.slicePlaces
  have h1 : (1 : Int) > 0 := by omega
  simp only [h1, if_true, Int.ediv_one]
  split <;> omega
theorem slicePart_ {v : Value} {o : Option Int} {Q : Option Int → Shared → Prop} (p : IsPart v o) (h : Q o s) : wpAny (model prog w) A (Builtin.Slice.slicePartIndex v) Q E s := by
  cases p with
  | none => exact slicePart_none h
  | int i t => exact slicePart_int h
theorem sliceApplied_gen {sl : Addr} {vl vu : Value} {lo hi : Option Int} {n : Nat} {Q : Int × Int × Nat → Shared → Prop} (hs : s.heap.IsSliceOf sl vl vu .none) (pl : IsPart vl lo) (pu : IsPart vu hi)
    (h : Q (((sIx n 0 lo : Nat) : Int), 1, sIx n n hi - sIx n 0 lo) s) : wpAny (model prog w) A (Builtin.Slice.sliceApplied (.ref sl) (pure (n : Int))) Q E s := by
  obtain ⟨os, hos, hcs, hds⟩ := id hs
  unfold Builtin.Slice.sliceApplied Builtin.Slice.sliceFields
  refine wpAny_bind (wpAny_bind (wpAny_field hos hds (x := vl) rfl (wpAny_bind (wpAny_field hos hds (x := vu) rfl (wpAny_bind (wpAny_field hos hds (x := .none) rfl (wpAny_pure ?_)))))))
  refine wpAny_bind (slicePart_none ?_)
  show wpAny _ _ (if ((1 : Int) == 0) = true then _ else _) _ _ s
  rw [if_neg (by decide)]
  refine wpAny_bind (slicePart_ pl (wpAny_bind (slicePart_ pu (wpAny_bind (wpAny_pure ?_)))))
  show wpAny _ _ (match Builtin.Slice.sliceAdjust lo hi 1 (n : Int) with | (lo, hi) => pure (lo, (1 : Int), Builtin.Slice.slicePlaces lo hi 1)) _ _ s
  rw [adjust_gen lo hi n]
  show wpAny _ _ (pure (((sIx n 0 lo : Nat) : Int), (1 : Int), Builtin.Slice.slicePlaces ((sIx n 0 lo : Nat) : Int) ((sIx n n hi : Nat) : Int) 1)) _ _ s
  rw [places_gen]
  exact wpAny_pure h
theorem pick_gen (xs : Array Value) (i k : Nat) : ((List.range k).filterMap fun (m : Nat) => xs[((i : Int) + (m : Int) * 1).toNat]?).toArray = ((xs.toList.drop i).take k).toArray := by
  have e : (fun (m : Nat) => xs[((i : Int) + (m : Int) * 1).toNat]?) = fun m => xs[i + m]? := by
    funext m
    have : ((i : Int) + (m : Int) * 1).toNat = i + m := by omega
    rw [this]
  rw [e]
  have := pick_run xs i k
  rw [List.filterMap_map] at this
  have e2 : ((fun x => xs[x]?) ∘ fun x => i + x) = fun m => xs[i + m]? := rfl
  rw [e2] at this
  rw [this]

theorem getItem_tuple_cut {t sl : Addr} {items : Array Value} {vl vu : Value} {lo hi : Option Int} {Q : Value → Shared → Prop} (ht : IsTup s.heap t items) (hs : s.heap.IsSliceOf sl vl vu .none) (pl : IsPart vl lo) (pu : IsPart vu hi)
    (hw : ¬ (sIx items.size 0 lo = 0 ∧ sIx items.size items.size hi = items.size))
    (h : Q (.ref s.heap.objs.size) { s with heap := s.heap.push { cls := .type "tuple", data := .seq ((items.toList.drop (sIx items.size 0 lo)).take (sIx items.size items.size hi - sIx items.size 0 lo)).toArray } })
    (hsz : items.size ≤ sizeLine) : wpAny (model prog w) A (getItem (.ref t) (.ref sl)) Q E s := by
  have htake : sizeOk (.seq ((items.toList.drop (sIx items.size 0 lo)).take (sIx items.size items.size hi - sIx items.size 0 lo)).toArray) := by
    show ((items.toList.drop (sIx items.size 0 lo)).take (sIx items.size items.size hi - sIx items.size 0 lo)).toArray.size ≤ sizeLine
    rw [List.size_toArray, List.length_take, List.length_drop, Array.length_toList]
    omega
  have hj : sIx items.size items.size hi ≤ items.size := sIx_le _ _ (Nat.le_refl _) hi
  obtain ⟨os, hos, hcs, hds⟩ := id hs
  have hTs : s.TypeIs (.ref sl) "slice" := ⟨os, hos, hcs⟩
  unfold getItem
  try with_reducible refine wpAny_holding ?_
  first | refine wpAny_bind (wpAny_pure ?_) | skip
  refine wpAny_bind (wpAny_sequenceKey ht.typeIs (by decide) ?_)
  refine wpAny_bind (wpAny_callSpecial?_slot (name := Str.ofString "__getitem__") ht.typeIs PyProof.Rows.slot_tuple_getitem
    (wpAny_call_entry PyProof.Rows.slot_tuple_getitem ht.typeIs entry_tuple_getitem ?_ (args_tuple_getitem _ _)))
  show wpAny _ _ (Builtin.Tuple.tupleItemsOf (.ref t) >>= _) _ _ s
  refine wpAny_bind (tupleItemsOf_ ht ?_)
  refine wpAny_bind (wpAny_typeOf hTs ?_)
  rw [if_pos (by decide)]
  refine wpAny_bind (sliceApplied_gen hs pl pu ?_)
  have hno : ¬ ((((sIx items.size 0 lo : Nat) : Int) == 0 && (1 : Int) == 1 && (sIx items.size items.size hi - sIx items.size 0 lo) == items.size) = true) := by
    intro q
    rw [Bool.and_eq_true, Bool.and_eq_true] at q
    have q1 : ((sIx items.size 0 lo : Nat) : Int) = 0 := eq_of_beq q.1.1
    have q2 : sIx items.size items.size hi - sIx items.size 0 lo = items.size := eq_of_beq q.2
    exact hw ⟨by omega, by omega⟩
  show wpAny _ _ (if (((sIx items.size 0 lo : Nat) : Int) == 0 && (1 : Int) == 1 && (sIx items.size items.size hi - sIx items.size 0 lo) == items.size) = true then _ else _) _ _ s
  rw [if_neg hno, pick_gen]
  first
    | exact wpAny_bind (m := Builtin.Tuple.tupleExact _) (wpAny_newObj_type (wpAny_pure ⟨_, rfl, wpAny_pure h⟩) htake)
    | exact wpAny_bind (m := Builtin.Tuple.tupleExact _) (wpAny_newObj_type (wpAny_bind (wpAny_pure (wpAny_pure ⟨_, rfl, wpAny_pure h⟩))) htake)
    | exact wpAny_bind (wpAny_bind (m := Builtin.Tuple.tupleExact _) (wpAny_newObj_type (wpAny_pure (wpAny_pure ⟨_, rfl, wpAny_pure h⟩)) htake))
    | exact wpAny_bind (wpAny_bind (m := Builtin.Tuple.tupleExact _) (wpAny_newObj_type (wpAny_pure ⟨_, rfl, wpAny_pure h⟩) htake))
end
end HT

namespace L2
open PySem PySem.Spec PyProof.Rows

/-! ### the parts of a slice -/
abbrev TO := St → Hp → (Option Int → Hp → Prop) → Prop
/-- a slice's part (left out, or an int) -/
def PO (X : Cx) (e : Option Expr) (t : TO) : Prop :=
  ∀ (pins : List (Addr × Obj)) (s : Shared) (σ : St) (H : Hp) (Q : Option Int → Hp → Prop), Inv X pins σ H s → t σ H Q →
    wpAny (model X.prog X.w) X.A (evalPart e X.env) (fun u s' => ∃ o H', Inv X pins σ H' s' ∧ IsPart u o ∧ Q o H') X.xe s
def tNoPart : TO := fun _ H Q => Q none H
def tPart (t : TE) : TO := fun σ H Q => t σ H fun x H1 => ∃ i, x = .int i ∧ Q (some i) H1

theorem intsAre_of {ns : List Int} : ∀ {us : List Value}, Vals (ns.map V.int) us → IntsAre us ns := by
  induction ns with
  | nil => intro us r; rw [List.map_nil] at r; cases r; exact .nil
  | cons n ns ih =>
    intro us r
    rw [List.map_cons] at r
    cases r with
    | cons r1 r2 =>
      obtain ⟨t, e⟩ := r1
      subst e
      exact .cons n t (ih r2)

section
variable {X : Cx} {e : Expr} {te : TE} {lo hi : Option Expr} {tl th : TO} {pos p2 : Pos}

theorem po_none : PO X none tNoPart := by
  intro pins s σ H Q I h
  rw [evalPart_none]
  exact wpAny_pure ⟨none, H, I, .none, h⟩
theorem po_some (h : PE X e te) : PO X (some e) (tPart te) := by
  intro pins s σ H Q I hw
  rw [evalPart_some]
  refine thn (h pins s σ H _ I hw) fun u s1 ⟨x, H1, I1, r1, q1⟩ => ?_
  obtain ⟨i, rfl, q⟩ := q1
  obtain ⟨t, rfl⟩ := r1
  exact ⟨some i, H1, I1, .int i t, q⟩

/-- what a slice of a value is, by values: the slice object stands at sl -/
def SlR (X : Cx) (r : V → Option Int → Option Int → Hp → VK → Prop) : Prop :=
  ∀ (pins : List (Addr × Obj)) (s : Shared) (σ : St) (H : Hp) (x : V) (v vl vu : Value) (lo hi : Option Int) (sl : Addr) (Q : VK), Inv X pins σ H s → RelV x v → s.heap.IsSliceOf sl vl vu .none → IsPart vl lo → IsPart vu hi → r x lo hi H Q →
    ∃ T id, typeLookup (.type T) "__getitem__" = pure (some (.builtin id)) ∧ s.TypeIs v T ∧ wpAny (model X.prog X.w) X.A (getItem v (.ref sl)) (EP X pins σ Q) X.xe s
theorem SlR.or {r r' : V → Option Int → Option Int → Hp → VK → Prop} (h : SlR X r) (h' : SlR X r') : SlR X (fun x lo hi H Q => r x lo hi H Q ∨ r' x lo hi H Q) := by
  intro pins s σ H x v vl vu lo hi sl Q I rx hs pl pu q
  rcases q with q | q
  · exact h pins s σ H x v vl vu lo hi sl Q I rx hs pl pu q
  · exact h' pins s σ H x v vl vu lo hi sl Q I rx hs pl pu q
def tSl (r : V → Option Int → Option Int → Hp → VK → Prop) (te : TE) (tl th : TO) : TE := fun σ H Q => te σ H fun x H1 => tl σ H1 fun l H2 => th σ H2 fun u H3 => r x l u H3 Q
/-- a[lo:hi], any a -/
theorem pe_slice {r : V → Option Int → Option Int → Hp → VK → Prop} (hr : SlR X r) (he : PE X e te) (hl : PO X lo tl) (hu : PO X hi th) : PE X (.Subscript e (.Slice lo hi none p2) pos) (tSl r te tl th) := by
  intro pins s σ H Q I h
  refine Subscript_ (thn (he pins s σ H _ I h) fun v s1 ⟨x, H1, I1, r1, q1⟩ => ?_)
  refine wpAny_Slice (thn (hl pins s1 σ H1 _ I1 q1) fun vl s2 ⟨l, H2, I2, pl, q2⟩ => thn (hu pins s2 σ H2 _ I2 q2) fun vu s3 ⟨u, H3, I3, pu, q3⟩ => ?_)
  rw [evalPart_none]
  refine wpAny_pure ?_
  have I4 : Inv X pins σ H3 { s3 with heap := s3.heap.push { cls := .type "slice", data := .fields #[vl, vu, .none] } } := I3.kept (t' := s3.toks) fun b ob q => Heap.get?_push_of_some _ q
  obtain ⟨T, id, hT, ht, hg⟩ := hr pins { s3 with heap := s3.heap.push { cls := .type "slice", data := .fields #[vl, vu, .none] } } σ H3 x v vl vu l u s3.heap.objs.size Q I4 r1 (Heap.IsSliceOf.new ..) pl pu q3
  show wpAny (model X.prog X.w) X.A (subscriptTail e (.Slice lo hi none p2) v (.ref s3.heap.objs.size)) (EP X pins σ Q) X.xe { s3 with heap := s3.heap.push { cls := .type "slice", data := .fields #[vl, vu, .none] } }
  exact tail_any (ops := [.ref s3.heap.objs.size, v]) ht hT hg (by with_unfolding_all rfl)

/-- the items of xs[lo:hi] -/
def cutV (xs : List V) (lo hi : Option Int) : List V := (xs.drop (HT.sIx xs.length 0 lo)).take (HT.sIx xs.length xs.length hi - HT.sIx xs.length 0 lo)
theorem cutV_length (xs : List V) (lo hi : Option Int) : (cutV xs lo hi).length ≤ xs.length := by
  unfold cutV
  rw [List.length_take, List.length_drop]
  omega
/-- t[lo:hi], not the whole of it (the whole would be t itself) -/
def rSlT (K : PySem.W.Frag) : V → Option Int → Option Int → Hp → VK → Prop := fun x lo hi H Q => ∃ a xs, x = .ref a ∧ SqT K H a xs ∧
  ¬ (HT.sIx xs.length 0 lo = 0 ∧ HT.sIx xs.length xs.length hi = xs.length) ∧ ∀ p, H p = none → Q (.ref p) (upd H p (.tup (cutV xs lo hi)))
theorem sl_tup : SlR X (rSlT X.K) := by
  intro pins s σ H x v vl vu lo hi sl Q I rx hs pl pu h
  obtain ⟨a, xs, rfl, hx, hw, q⟩ := h
  cases rx
  obtain ⟨its, r, ht, hz⟩ := I.tuple hx
  have hlen : its.toArray.size = xs.length := by rw [List.size_toArray]; exact r.length.symm
  refine ⟨"tuple", _, PyProof.Rows.slot_tuple_getitem.lookup, ht.typeIs, ?_⟩
  refine HT.getItem_tuple_cut ht hs pl pu (by rw [hlen]; exact hw) ?_ (by rw [hlen]; exact hz)
  rw [hlen]
  refine ⟨.ref s.heap.objs.size, _, I.laid (t' := s.toks) (o := .tup (cutV xs lo hi)) (fun b ob q => Heap.get?_push_of_some _ q) (Nat.le_refl _) ?_, rfl, q _ (I.hok.fresh (Nat.le_refl _))⟩
  exact ⟨Nat.le_trans (cutV_length xs lo hi) hz, _, (r.drop (HT.sIx xs.length 0 lo)).take (HT.sIx xs.length xs.length hi - HT.sIx xs.length 0 lo), IsTup.new _ _⟩

/-! ### t < u, t + u -/
def rLtT (K : PySem.W.Frag) : R2 := fun x y H Q => ∃ a b ns ms, x = .ref a ∧ y = .ref b ∧ SqT K H a (ns.map V.int) ∧ SqT K H b (ms.map V.int) ∧ Q (.bl (HT.lexLt ns ms)) H
theorem op_ltT (hu : X.A.units < cLine) : OpR X (compareOp .Lt) (rLtT X.K) := by
  intro pins s σ H x y v u Q I rx ry h
  obtain ⟨a, b, ns, ms, rfl, rfl, ha, hb, q⟩ := h
  cases rx
  cases ry
  obtain ⟨its, r1, p1, _⟩ := I.tuple ha
  obtain ⟨its2, r2, p2, _⟩ := I.tuple hb
  have i1 : IntsAre its.toArray.toList ns := intsAre_of r1
  have i2 : IntsAre its2.toArray.toList ms := intsAre_of r2
  exact HT.lt_tupInts p1 p2 i1 i2 hu ⟨.bl (HT.lexLt ns ms), H, I, rfl, q⟩
/-- t + u, t not empty: u empty gives t itself -/
def rCatT (K : PySem.W.Frag) : R2 := fun x y H Q => ∃ a b xs ys, x = .ref a ∧ y = .ref b ∧ SqT K H a xs ∧ SqT K H b ys ∧ xs ≠ [] ∧ xs.length + ys.length ≤ sizeLine ∧
  (ys = [] → Q (.ref a) H) ∧ (ys ≠ [] → ∀ p, H p = none → Q (.ref p) (upd H p (.tup (xs ++ ys))))
theorem Vals.nil_iff {xs : List V} {us : List Value} (r : Vals xs us) : us = [] ↔ xs = [] := by
  cases r with
  | nil => simp
  | cons _ _ => simp
theorem op_catT : OpR X (binaryOp .Add) (rCatT X.K) := by
  intro pins s σ H x y v u Q I rx ry h
  obtain ⟨a, b, xs, ys, rfl, rfl, ha, hb, hx, hz, q1, q2⟩ := h
  cases rx
  cases ry
  obtain ⟨its, r1, p1, _⟩ := I.tuple ha
  obtain ⟨its2, r2, p2, _⟩ := I.tuple hb
  refine HT.cat_tup p1 p2 (fun z => hx (r1.nil_iff.mp z)) (fun z => ⟨.ref a, H, I, rfl, q1 (r2.nil_iff.mp z)⟩) (fun z => ?_) (by rw [← r1.length, ← r2.length]; exact hz)
  refine ⟨.ref s.heap.objs.size, _, I.laid (t' := s.toks) (o := .tup (xs ++ ys)) (fun b ob q => Heap.get?_push_of_some _ q) (Nat.le_refl _) ?_, rfl, q2 (fun w => z (r2.nil_iff.mpr w)) _ (I.hok.fresh (Nat.le_refl _))⟩
  exact ⟨by rw [List.length_append]; exact hz, _, r1.append r2, IsTup.new _ _⟩
/-- tuple(t) -/
theorem call_tupleT : CallR X (.type "tuple") (fun xs H Q => ∃ a ys, xs = [.ref a] ∧ SqT X.K H a ys ∧ Q (.ref a) H) := by
  intro pins s σ H xs us Q I r h
  obtain ⟨a, ys, rfl, ha, q⟩ := h
  obtain ⟨u, rfl, ru⟩ := vals1 r
  cases ru
  obtain ⟨its, _, p1, _⟩ := I.tuple ha
  exact call_tuple_same (items := its.toArray) p1 ⟨.ref a, H, I, rfl, q⟩
end
end L2

namespace L2
open PySem PySem.Spec PyProof.Rows

/-! ### places -/
/-- the place that an index of any sign means -/
def ixN (n : Nat) (i : Int) : Option Nat := if 0 ≤ i then (if i < n then some i.toNat else none) else if -(n : Int) ≤ i then some (i + n).toNat else none
def atI {α : Type} (xs : List α) (i : Int) : Option α := (ixN xs.length i).bind fun j => xs[j]?
theorem ixN_seq {n : Nat} {i : Int} {j : Nat} (h : ixN n i = some j) : seqIndex? i n = some j ∧ j < n ∧ -(n : Int) ≤ i ∧ i < n := by
  unfold ixN at h
  by_cases h0 : 0 ≤ i
  · rw [if_pos h0] at h
    by_cases h1 : i < n
    · rw [if_pos h1] at h
      have e : i.toNat = j := Option.some.inj h
      exact ⟨by rw [seqIndex_of h0 h1, e], by omega, by omega, h1⟩
    · rw [if_neg h1] at h; cases h
  · rw [if_neg h0] at h
    by_cases h1 : -(n : Int) ≤ i
    · rw [if_pos h1] at h
      have e : (i + n).toNat = j := Option.some.inj h
      exact ⟨by rw [seqIndex_neg (by omega) h1, e], by omega, h1, by omega⟩
    · rw [if_neg h1] at h; cases h
theorem atI_get {α : Type} {xs : List α} {i : Int} {v : α} (h : atI xs i = some v) : ∃ j, seqIndex? i xs.length = some j ∧ xs[j]? = some v ∧ j < xs.length ∧ -(xs.length : Int) ≤ i ∧ i < xs.length := by
  unfold atI at h
  cases e : ixN xs.length i with
  | none => rw [e] at h; cases h
  | some j =>
    rw [e] at h
    obtain ⟨h1, h2, h3, h4⟩ := ixN_seq e
    exact ⟨j, h1, h, h2, h3, h4⟩
theorem atI_nat {α : Type} {xs : List α} {j : Nat} {v : α} (h : xs[j]? = some v) : atI xs (j : Int) = some v := by
  have hj : j < xs.length := (List.getElem?_eq_some_iff.mp h).1
  have e : ixN xs.length (j : Int) = some j := by
    unfold ixN
    rw [if_pos (by omega), if_pos (by omega)]; simp
  unfold atI; rw [e]; exact h
theorem atI_last {α : Type} (xs : List α) (v : α) : atI (xs ++ [v]) (-1) = some v := by
  have hl : (xs ++ [v]).length = xs.length + 1 := by simp
  have e : ixN (xs ++ [v]).length (-1) = some xs.length := by
    unfold ixN
    rw [hl, if_neg (by decide), if_pos (by omega)]
    congr 1
    omega
  unfold atI
  rw [e]
  show (xs ++ [v])[xs.length]? = some v
  simp

/-! ### what may be subscripted -/
/-- what stands as an index of a plain subscript -/
def PlainIx (b : Expr) : Prop := ∀ o i, subscripted b false o i = operate [o, i] (getItem o i)
/-- a subscript by values -/
def IxR (X : Cx) (r : R2) : Prop :=
  ∀ (value slice : Expr) (pins : List (Addr × Obj)) (s : Shared) (σ : St) (H : Hp) (x y : V) (v u : Value) (Q : VK), Inv X pins σ H s → RelV x v → RelV y u → r x y H Q →
    subscripted slice false v u = operate [v, u] (getItem v u) → wpAny (model X.prog X.w) X.A (subscriptTail value slice v u) (EP X pins σ Q) X.xe s
/-- a call of a builtin's method by values: the receiver, the arguments -/
def MtR (X : Cx) (id : String) (r : V → List V → Hp → VK → Prop) : Prop :=
  ∀ (pins : List (Addr × Obj)) (s : Shared) (σ : St) (H : Hp) (x : V) (xs : List V) (v : Value) (us : List Value) (Q : VK), Inv X pins σ H s → RelV x v → Vals xs us → r x xs H Q →
    wpAny (model X.prog X.w) X.A (call (.builtin id) (v :: us)) (EP X pins σ Q) X.xe s
section
variable {X : Cx} {a b : Expr} {ta tb : TE} {pos : Pos}
theorem IxR.or {r r' : R2} (h : IxR X r) (h' : IxR X r') : IxR X (fun x y H Q => r x y H Q ∨ r' x y H Q) := by
  intro value slice pins s σ H x y v u Q I rx ry q hs
  rcases q with q | q
  · exact h value slice pins s σ H x y v u Q I rx ry q hs
  · exact h' value slice pins s σ H x y v u Q I rx ry q hs
theorem MtR.or {id : String} {r r' : V → List V → Hp → VK → Prop} (h : MtR X id r) (h' : MtR X id r') : MtR X id (fun x xs H Q => r x xs H Q ∨ r' x xs H Q) := by
  intro pins s σ H x xs v us Q I rx rs q
  rcases q with q | q
  · exact h pins s σ H x xs v us Q I rx rs q
  · exact h' pins s σ H x xs v us Q I rx rs q
/-- a[b] -/
theorem pe_ix {r : R2} (hr : IxR X r) (ha : PE X a ta) (hb : PE X b tb) (hs : PlainIx b) : PE X (.Subscript a b pos) (tOp r ta tb) := by
  intro pins s σ H Q I h
  exact Subscript_ (binT ha hb I h fun v u s2 x y H2 I2 rx ry q => hr a b pins s2 σ H2 x y v u Q I2 rx ry q (hs _ _))

def rIxL (K : PySem.W.Frag) : R2 := fun x y H Q => ∃ p xs i v, x = .ref p ∧ y = .int i ∧ SqL K H p xs ∧ atI xs i = some v ∧ Q v H
def rIxT (K : PySem.W.Frag) : R2 := fun x y H Q => ∃ p xs i v, x = .ref p ∧ y = .int i ∧ SqT K H p xs ∧ atI xs i = some v ∧ Q v H
def rIxS : R2 := fun x y H Q => ∃ z i c, x = .str z ∧ y = .int i ∧ z.length ≤ sizeLine ∧ atI z.cps.toList i = some c ∧ Q (.str ⟨#[c]⟩) H
theorem ix_list : IxR X (rIxL X.K) := by
  intro value slice pins s σ H x y v u Q I rx ry h hs
  obtain ⟨p, xs, i, z, rfl, rfl, hq, he, q⟩ := h
  cases rx
  obtain ⟨t, rfl⟩ := ry
  obtain ⟨its, r, pl, hz⟩ := I.list hq
  obtain ⟨j, h1, h2, h3, h4, h5⟩ := atI_get he
  obtain ⟨w, ew, rw'⟩ := r.get h2
  have hl := r.length
  have hn := line63
  have fin : EP X pins σ Q w s := ⟨z, H, I, rw', q⟩
  by_cases h0 : 0 ≤ i
  · have hj : i.toNat = j := by
      rw [seqIndex_of h0 h5] at h1
      exact Option.some.inj h1
    exact item_listR pl.isList h0 (by omega) (by rw [hj]; simpa using ew) fin hs
  · have hj : (i + (its.toArray.size : Int)).toNat = j := by
      rw [seqIndex_neg (by omega) h4] at h1
      rw [List.size_toArray, ← hl]
      exact Option.some.inj h1
    exact subscriptTail_builtinR (x := w) pl.isList.typeIs slot_list_getitem.lookup
      (wpAny_getItem_list_neg (Q := fun r s' => r = w ∧ EP X pins σ Q r s') pl.isList (by omega) (by rw [List.size_toArray] <;> omega) (by omega) (by rw [hj]; simpa using ew) ⟨rfl, fin⟩) hs
theorem ix_tup : IxR X (rIxT X.K) := by
  intro value slice pins s σ H x y v u Q I rx ry h hs
  obtain ⟨p, xs, i, z, rfl, rfl, hq, he, q⟩ := h
  cases rx
  obtain ⟨t, rfl⟩ := ry
  obtain ⟨its, r, pl, hz⟩ := I.tuple hq
  obtain ⟨j, h1, h2, h3, h4, h5⟩ := atI_get he
  obtain ⟨w, ew, rw'⟩ := r.get h2
  have hl := r.length
  have hn := line63
  have fin : EP X pins σ Q w s := ⟨z, H, I, rw', q⟩
  exact subscriptTail_builtinR (x := w) pl.typeIs slot_tuple_getitem.lookup
    (getItem_tuple (j := j) (Q := fun r s' => r = w ∧ EP X pins σ Q r s') pl (by omega) (by omega) (by rw [List.size_toArray, ← hl]; exact h1) (by simpa using ew) ⟨rfl, fin⟩) hs
theorem ix_str : IxR X rIxS := by
  intro value slice pins s σ H x y v u Q I rx ry h hs
  obtain ⟨z, i, c, rfl, rfl, hz, he, q⟩ := h
  obtain ⟨t, rfl⟩ := rx
  obtain ⟨t', rfl⟩ := ry
  obtain ⟨j, h1, h2, h3, h4, h5⟩ := atI_get he
  have hl : z.cps.toList.length = z.length := by simp [Str.length]
  rw [hl] at h1 h4 h5
  have hn := line63
  exact tail_any (typeIs_str s z t) slot_str_getitem.lookup (getItem_str (c := c) (by
    have e1 : decide (i < -(2 ^ 63 : Int)) = false := decide_eq_false (by omega)
    have e2 : decide (i ≥ 2 ^ 63) = false := decide_eq_false (by omega)
    rw [e1, e2, Bool.or_false]) (by rw [h1]; simpa using h2) ⟨.str ⟨#[c]⟩, H, I.tok _, ⟨_, rfl⟩, q⟩) hs
/-- list, tuple or str -/
def rIx (K : PySem.W.Frag) : R2 := fun x y H Q => rIxL K x y H Q ∨ rIxT K x y H Q ∨ rIxS x y H Q
theorem ix_seq : IxR X (rIx X.K) := ix_list.or (ix_tup.or ix_str)

/-! ### xs[i] = v, any sign -/
/-- the list's object behind a store -/
theorem mapSeq_set (its : List Value) (n j : Nat) (u : Value) : Obj.mapSeq (·.setIfInBounds j u) { cls := .type "list", data := .seq its.toArray n } = { cls := .type "list", data := .seq (its.set j u).toArray n } := by
  simp [Obj.mapSeq]
theorem Inv.lst {pins : List (Addr × Obj)} {σ : St} {H : Hp} {s : Shared} {p : Addr} {xs : List V} (I : Inv X pins σ H s) (h : H p = some (.lst xs)) :
    ∃ (its : List Value) (n : Nat), Vals xs its ∧ s.heap.get? p = some { cls := .type "list", data := .seq its.toArray n } ∧ xs.length ≤ sizeLine := by
  obtain ⟨z, its, n, r, e⟩ := I.hok p _ h
  exact ⟨its, n, r, e, z⟩
/-- the list at p is written by an update of its object -/
theorem Inv.lstUpd {pins : List (Addr × Obj)} {σ : St} {H : Hp} {s : Shared} {p : Addr} {xs ys : List V} {its its' : List Value} {n n' : Nat} {f : Obj → Obj} (I : Inv X pins σ H s) (h : H p = some (.lst xs))
    (ho : s.heap.get? p = some { cls := .type "list", data := .seq its.toArray n }) (hf : f { cls := .type "list", data := .seq its.toArray n } = { cls := .type "list", data := .seq its'.toArray n' }) (r : Vals ys its') (hz : ys.length ≤ sizeLine) (t : Nat) :
    Inv X pins σ (upd H p (.lst ys)) { s with heap := s.heap.update p f, toks := t } := by
  have e : (s.heap.update p f).get? p = some { cls := .type "list", data := .seq its'.toArray n' } := by
    rw [Heap.get?_update_self f ho (by rw [hf] <;> rfl), hf]
  refine I.write (x := p) (e := p) (by rw [h]; trivial) (.inl rfl) (fun b u hb q => (Heap.get?_update_other _ _ (Ne.symm hb)).trans q) ⟨_, e⟩ ?_
  exact ⟨hz, its', n', r, e⟩
def rSetL : V → V → V → Hp → (Hp → Prop) → Prop := fun o i v H Q => ∃ p xs k j, o = .ref p ∧ i = .int k ∧ H p = some (.lst xs) ∧ ixN xs.length k = some j ∧ Q (upd H p (.lst (xs.set j v)))
theorem set_list : PSet X rSetL := by
  intro pins s σ H o i v ov iv u Q I ro ri rv h
  obtain ⟨p, xs, k, j, rfl, rfl, hp, hj, q⟩ := h
  cases ro
  obtain ⟨t, rfl⟩ := ri
  obtain ⟨its, n, r, ho, hz⟩ := I.lst hp
  obtain ⟨h1, h2, h3, h4⟩ := ixN_seq hj
  have hl := r.length
  have hn := line63
  have I' : Inv X pins σ (upd H p (.lst (xs.set j v))) { s with heap := s.heap.update p (Obj.mapSeq (·.setIfInBounds j u)) } :=
    I.lstUpd hp ho (mapSeq_set its n j u) (r.set rv j) (by rw [List.length_set]; exact hz) s.toks
  by_cases h0 : 0 ≤ k
  · have hk : k.toNat = j := by
      rw [seqIndex_of h0 h4] at h1
      exact Option.some.inj h1
    exact PySem.W.ki_setAt ho h0 (by omega) (by rw [List.size_toArray, ← hl]; exact h4) (by rw [hk]; exact ⟨_, I', q⟩)
  · have hk : (k + (its.toArray.size : Int)).toNat = j := by
      rw [seqIndex_neg (by omega) h3] at h1
      rw [List.size_toArray, ← hl]
      exact Option.some.inj h1
    exact PySem.W.ki_setBack ho (by omega) (by rw [List.size_toArray, ← hl]; exact h3) (by omega) (by rw [hk]; exact ⟨_, I', q⟩)

/-! ### slices -/
theorem slice_bounds (lo hi : Option Int) (n : Nat) : (sliceBounds lo hi none n).1 = ((HT.sIx n 0 lo : Nat) : Int) ∧ (sliceBounds lo hi none n).2.1 = ((HT.sIx n n hi : Nat) : Int) ∧ (sliceBounds lo hi none n).2.2 = 1 := by
  refine ⟨?_, ?_, rfl⟩
  · cases lo with
    | none => simp [sliceBounds, HT.sIx]
    | some i =>
      simp only [sliceBounds, HT.sIx, Option.getD_none, show (1 : Int) > 0 by decide, if_true]
      by_cases h : i < 0
      · simp only [h, if_true] <;> omega
      · simp only [h, if_false] <;> omega
  · cases hi with
    | none => simp [sliceBounds, HT.sIx]
    | some i =>
      simp only [sliceBounds, HT.sIx, Option.getD_none, show (1 : Int) > 0 by decide, if_true]
      by_cases h : i < 0
      · simp only [h, if_true] <;> omega
      · simp only [h, if_false] <;> omega
theorem slicePick_cut (its : List Value) (lo hi : Option Int) : slicePick its.toArray lo hi none = ((its.drop (HT.sIx its.length 0 lo)).take (HT.sIx its.length its.length hi - HT.sIx its.length 0 lo)).toArray := by
  obtain ⟨h1, h2, h3⟩ := slice_bounds lo hi its.toArray.size
  unfold slicePick
  rw [h1, h2, h3]
  simp only [sliceRange_one, pick_run, List.size_toArray] <;> rfl
/-- xs[lo:hi] of a list: a new list -/
def rSlL (K : PySem.W.Frag) : V → Option Int → Option Int → Hp → VK → Prop := fun x lo hi H Q => ∃ a xs, x = .ref a ∧ SqL K H a xs ∧ ∀ p, H p = none → Q (.ref p) (upd H p (.lst (cutV xs lo hi)))
theorem sl_list : SlR X (rSlL X.K) := by
  intro pins s σ H x v vl vu lo hi sl Q I rx hs pl pu h
  obtain ⟨a, xs, rfl, hx, q⟩ := h
  cases rx
  obtain ⟨its, r, ht, hz⟩ := I.list hx
  have hlen := r.length
  refine ⟨"list", _, slot_list_getitem.lookup, ht.isList.typeIs, ?_⟩
  refine wpAny_getItem_list_slice ht.isList hs pl pu .none (by simp) ?_ (by rw [List.size_toArray] <;> omega)
  rw [slicePick_cut, ← hlen]
  refine ⟨.ref s.heap.objs.size, _, I.laid (t' := s.toks) (o := .lst (cutV xs lo hi)) (fun b ob q => Heap.get?_push_of_some _ q) (Nat.le_refl _) ?_, rfl, q _ (I.hok.fresh (Nat.le_refl _))⟩
  exact ⟨Nat.le_trans (cutV_length xs lo hi) hz, _, 0, (r.drop (HT.sIx xs.length 0 lo)).take (HT.sIx xs.length xs.length hi - HT.sIx xs.length 0 lo), Heap.get?_push_size _ rfl⟩

/-! ### in, not in: flat items -/
def flatV : V → Bool
  | .non => true
  | .bl _ => true
  | .int _ => true
  | .str _ => true
  | _ => false
/-- == of flat values -/
def eqV : V → V → Bool
  | .non, .non => true
  | .bl a, .bl b => a == b
  | .bl a, .int b => (if a then 1 else 0) == b
  | .int a, .bl b => a == (if b then 1 else 0)
  | .int a, .int b => a == b
  | .str a, .str b => a == b
  | _, _ => false
theorem eqAt_V {A : Around} {s : Shared} {y x : V} {u v : Value} (ry : RelV y u) (rx : RelV x v) (fy : flatV y = true) (fx : flatV x = true) : SeqAt.EqAt A s u v (eqV y x) := by
  cases y with
  | non =>
    cases ry
    cases x with
    | non => cases rx; exact SeqAt.EqAt.same _
    | bl b => cases rx; exact SeqAt.EqAt.none_bool b
    | int b => obtain ⟨t, rfl⟩ := rx; exact SeqAt.EqAt.none_int b t
    | str b => obtain ⟨t, rfl⟩ := rx; exact SeqAt.EqAt.none_str b t
    | _ => exact absurd (show false = true from fx) Bool.false_ne_true
  | bl a =>
    cases ry
    cases x with
    | non => cases rx; exact SeqAt.EqAt.bool_none a
    | bl b => cases rx; exact SeqAt.EqAt.bool_bool a b
    | int b => obtain ⟨t, rfl⟩ := rx; exact SeqAt.EqAt.bool_int a b t
    | str b => obtain ⟨t, rfl⟩ := rx; exact SeqAt.EqAt.bool_str a b t
    | _ => exact absurd (show false = true from fx) Bool.false_ne_true
  | int a =>
    obtain ⟨t', rfl⟩ := ry
    cases x with
    | non => cases rx; exact SeqAt.EqAt.int_none a t'
    | bl b => cases rx; exact SeqAt.EqAt.int_bool a t' b
    | int b => obtain ⟨t, rfl⟩ := rx; exact SeqAt.EqAt.int_int a t' b t
    | str b => obtain ⟨t, rfl⟩ := rx; exact SeqAt.EqAt.int_str a t' b t
    | _ => exact absurd (show false = true from fx) Bool.false_ne_true
  | str a =>
    obtain ⟨t', rfl⟩ := ry
    cases x with
    | non => cases rx; exact SeqAt.EqAt.str_none a t'
    | bl b => cases rx; exact SeqAt.EqAt.str_bool a t' b
    | int b => obtain ⟨t, rfl⟩ := rx; exact SeqAt.EqAt.str_int a t' b t
    | str b => obtain ⟨t, rfl⟩ := rx; exact SeqAt.EqAt.str_str a t' b t
    | _ => exact absurd (show false = true from fx) Bool.false_ne_true
  | _ => exact absurd (show false = true from fy) Bool.false_ne_true
/-- the items' answers, read off the values (a value's own answer does not lean on its token) -/
def eqU (x : V) (u : Value) : Bool := match u with
  | .none => eqV .non x
  | .bool b => eqV (.bl b) x
  | .int i _ => eqV (.int i) x
  | .str z _ => eqV (.str z) x
  | _ => false
theorem eqU_of {x y : V} {u : Value} (r : RelV y u) (f : flatV y = true) : eqU x u = eqV y x := by
  cases y with
  | non => cases r; rfl
  | bl b => cases r; rfl
  | int i => obtain ⟨t, rfl⟩ := r; rfl
  | str z => obtain ⟨t, rfl⟩ := r; rfl
  | _ => exact absurd (show false = true from f) Bool.false_ne_true
theorem any_eqU {x : V} : ∀ {xs : List V} {us : List Value}, Vals xs us → xs.all flatV = true → us.any (eqU x) = xs.any fun y => eqV y x
  | _, _, .nil, _ => rfl
  | y :: xs, u :: us, .cons r t, f => by
    rw [List.all_cons, Bool.and_eq_true] at f
    rw [List.any_cons, List.any_cons, eqU_of r f.1, any_eqU t f.2]
theorem mem_eqAt {A : Around} {s : Shared} {x : V} {v : Value} (rx : RelV x v) (fx : flatV x = true) : ∀ {xs : List V} {us : List Value}, Vals xs us → xs.all flatV = true → ∀ u ∈ us, SeqAt.EqAt A s u v (eqU x u)
  | _, _, .nil, _ => fun u hu => by cases hu
  | y :: xs, u :: us, .cons r t, f => fun u' hu => by
    rw [List.all_cons, Bool.and_eq_true] at f
    rcases List.mem_cons.mp hu with rfl | hu
    · rw [eqU_of r f.1]; exact eqAt_V r rx f.1 fx
    · exact mem_eqAt rx fx t f.2 u' hu
def inV (x : V) (xs : List V) : Bool := xs.any fun y => eqV y x
/-- x in a list or tuple of flat items -/
def rIn (K : PySem.W.Frag) (neg : Bool) : R2 := fun x y H Q => ∃ p xs, y = .ref p ∧ (SqL K H p xs ∨ SqT K H p xs) ∧ flatV x = true ∧ xs.all flatV = true ∧ Q (.bl (if neg then !inV x xs else inV x xs)) H
theorem op_in_seq : OpR X (compareOp .In) (rIn X.K false) := by
  intro pins s σ H x y v u Q I rx ry h
  obtain ⟨p, xs, rfl, hq, fx, fs, q⟩ := h
  cases ry
  rcases hq with hq | hq
  · obtain ⟨its, r, pl, hz⟩ := I.list hq
    refine SeqAt.in_listAt (eqU x) pl.isList (fun w hw => mem_eqAt rx fx r fs w (by simpa using hw)) ⟨.bl _, H, I, rfl, ?_⟩
    rw [show its.toArray.any (eqU x) = its.any (eqU x) by simp, any_eqU r fs]
    exact q
  · obtain ⟨its, r, pl, hz⟩ := I.tuple hq
    refine SeqAt.in_tupleAt (eqU x) pl (fun w hw => mem_eqAt rx fx r fs w (by simpa using hw)) ⟨.bl _, H, I, rfl, ?_⟩
    rw [show its.toArray.any (eqU x) = its.any (eqU x) by simp, any_eqU r fs]
    exact q
theorem op_notIn_seq : OpR X (compareOp .NotIn) (rIn X.K true) := by
  intro pins s σ H x y v u Q I rx ry h
  obtain ⟨p, xs, rfl, hq, fx, fs, q⟩ := h
  cases ry
  rcases hq with hq | hq
  · obtain ⟨its, r, pl, hz⟩ := I.list hq
    refine SeqAt.notIn_listAt (eqU x) pl.isList (fun w hw => mem_eqAt rx fx r fs w (by simpa using hw)) ⟨.bl _, H, I, rfl, ?_⟩
    rw [show its.toArray.any (eqU x) = its.any (eqU x) by simp, any_eqU r fs]
    exact q
  · obtain ⟨its, r, pl, hz⟩ := I.tuple hq
    refine SeqAt.notIn_tupleAt (eqU x) pl (fun w hw => mem_eqAt rx fx r fs w (by simpa using hw)) ⟨.bl _, H, I, rfl, ?_⟩
    rw [show its.toArray.any (eqU x) = its.any (eqU x) by simp, any_eqU r fs]
    exact q
theorem op_notIn_str : OpR X (compareOp .NotIn) (fun x y H Q => ∃ i j, x = .str i ∧ y = .str j ∧ Q (.bl (!(!(Builtin.Str.occurrences j i 0 j.length 1).isEmpty))) H) := by
  intro pins s σ H x y v u Q I rx ry h
  obtain ⟨i, j, rfl, rfl, q⟩ := h
  obtain ⟨t, rfl⟩ := rx
  obtain ⟨t', rfl⟩ := ry
  exact notIn_str ⟨.bl _, H, I, rfl, q⟩

/-! ### len, list(x), tuple(x) of any list or tuple that is read -/
theorem call_len_seq : CallR X (.builtin "len") (fun xs H Q => ∃ p ys, xs = [.ref p] ∧ (SqL X.K H p ys ∨ SqT X.K H p ys) ∧ Q (.int ys.length) H) := by
  intro pins s σ H xs us Q I r h
  obtain ⟨p, ys, rfl, hq, q⟩ := h
  obtain ⟨u, rfl, rx⟩ := vals1 r
  cases rx
  have hn := line63
  rcases hq with hq | hq
  · obtain ⟨its, r', pl, hz⟩ := I.list hq
    have hlen := r'.length
    exact Calls.call_len_list pl.isList (by simp only [List.size_toArray] <;> omega) ⟨.int ys.length, H, I.tok _, ⟨s.toks + 1, by rw [List.size_toArray, hlen]⟩, q⟩
  · obtain ⟨its, r', pl, hz⟩ := I.tuple hq
    have hlen := r'.length
    exact len_tuple pl (by simp only [List.size_toArray] <;> omega) ⟨.int ys.length, H, I.tok _, ⟨s.toks + 1, by rw [List.size_toArray, hlen]⟩, q⟩
theorem call_len_str : CallR X (.builtin "len") (fun xs H Q => ∃ z, xs = [.str z] ∧ z.length ≤ sizeLine ∧ Q (.int z.length) H) := by
  intro pins s σ H xs us Q I r h
  obtain ⟨z, rfl, hz, q⟩ := h
  obtain ⟨u, rfl, t, rfl⟩ := vals1 r
  have hn := line63
  exact len_str (by omega) ⟨.int z.length, H, I.tok _, ⟨_, rfl⟩, q⟩
theorem CallR.or {f : Value} {r r' : List V → Hp → VK → Prop} (h : CallR X f r) (h' : CallR X f r') : CallR X f (fun xs H Q => r xs H Q ∨ r' xs H Q) := by
  intro pins s σ H xs us Q I rs q
  rcases q with q | q
  · exact h pins s σ H xs us Q I rs q
  · exact h' pins s σ H xs us Q I rs q
theorem call_list_of : CallR X (.type "list") (fun xs H Q => ∃ p ys, xs = [.ref p] ∧ (SqL X.K H p ys ∨ SqT X.K H p ys) ∧ ∀ l, H l = none → Q (.ref l) (upd H l (.lst ys))) := by
  intro pins s σ H xs us Q I r h
  obtain ⟨p, ys, rfl, hq, q⟩ := h
  obtain ⟨u, rfl, rx⟩ := vals1 r
  cases rx
  have fin : ∀ (its : List Value), Vals ys its → ys.length ≤ sizeLine → ∀ (h' : Heap) (c' : Nat), (∀ b o', s.heap.get? b = some o' → h'.get? b = some o') →
      h'.get? s.heap.objs.size = some { cls := .type "list", dict := none, data := .seq its.toArray c', slots := #[] } → EP X pins σ Q (.ref s.heap.objs.size) { s with heap := h' } := fun its r' hz h' c' kp e =>
    ⟨.ref s.heap.objs.size, _, I.laid (t' := s.toks) kp (Nat.le_refl _) (show ObjOk X.prog X.w _ h' _ (.lst ys) from ⟨hz, its, c', r', e⟩), rfl, q _ (I.hok.fresh (Nat.le_refl _))⟩
  rcases hq with hq | hq
  · obtain ⟨its, r', pl, hz⟩ := I.list hq
    have hlen := r'.length
    obtain ⟨o, ho, hc, n, hd⟩ := pl.isList
    exact call_list_seq p (.inl rfl) ho hc hd (fun h' c' kp e => fin its r' hz h' c' kp e) (by simp only [List.size_toArray] <;> omega)
  · obtain ⟨its, r', pl, hz⟩ := I.tuple hq
    have hlen := r'.length
    obtain ⟨o, ho, hc, n, hd⟩ := pl
    exact call_list_seq p (.inr rfl) ho hc hd (fun h' c' kp e => fin its r' hz h' c' kp e) (by simp only [List.size_toArray] <;> omega)
theorem call_tuple_of : CallR X (.type "tuple") (fun xs H Q => ∃ p ys, xs = [.ref p] ∧ ((SqL X.K H p ys ∧ ∀ l, H l = none → Q (.ref l) (upd H l (.tup ys))) ∨ (SqT X.K H p ys ∧ Q (.ref p) H))) := by
  intro pins s σ H xs us Q I r h
  obtain ⟨p, ys, rfl, h⟩ := h
  obtain ⟨u, rfl, rx⟩ := vals1 r
  cases rx
  rcases h with ⟨hq, q⟩ | ⟨hq, q⟩
  · obtain ⟨its, r', pl, hz⟩ := I.list hq
    have hlen := r'.length
    refine call_tuple_list pl.isList (fun h' kp => ?_) (by simp only [List.size_toArray] <;> omega)
    have I1 : Inv X pins σ H { s with heap := h' } := I.kept (t' := s.toks) kp
    have I2 : Inv X pins σ (upd H h'.objs.size (.tup ys)) { s with heap := h'.push { cls := .type "tuple", data := .seq its.toArray } } :=
      I1.laid (t' := s.toks) (fun b o e => Heap.get?_push_of_some _ e) (Nat.le_refl _) (show ObjOk X.prog X.w _ _ _ (.tup ys) from ⟨hz, its, r', IsTup.new _ _⟩)
    exact ⟨.ref h'.objs.size, _, I2, rfl, q _ (I1.hok.fresh (Nat.le_refl _))⟩
  · obtain ⟨its, r', pl, hz⟩ := I.tuple hq
    exact call_tuple_same pl ⟨.ref p, H, I, rfl, q⟩

/-! ### the call of a builtin's method: o.m(..) -/
/-- the value is of that builtin type -/
def tyV (K : PySem.W.Frag) (T : String) (x : V) (H : Hp) : Prop := match x with
  | .str _ => T = "str"
  | .int _ => T = "int"
  | .ref p => (T = "list" ∧ ∃ xs, SqL K H p xs) ∨ (T = "tuple" ∧ ∃ o, K.lookup p = some o ∧ o.cls = .type "tuple" ∧ o.dict = none) ∨
      (T = "dict" ∧ ((∃ kvs, H p = some (.dK kvs)) ∨ ∃ kvs, H p = some (.dT kvs))) ∨ (T = "set" ∧ ∃ S n, H p = some (.set S n))
  | _ => False
theorem tyV_is {pins : List (Addr × Obj)} {σ : St} {H : Hp} {s : Shared} {T : String} {x : V} {v : Value} (I : Inv X pins σ H s) (r : RelV x v) (ty : tyV X.K T x H) :
    s.TypeIs v T ∧ ∀ a, v = .ref a → ∃ ob, s.heap.get? a = some ob ∧ ob.dict = none := by
  cases x with
  | str z =>
    obtain ⟨t, rfl⟩ := r
    cases (show T = "str" from ty)
    exact ⟨typeIs_str s z t, fun _ e => nomatch e⟩
  | int i =>
    obtain ⟨t, rfl⟩ := r
    cases (show T = "int" from ty)
    exact ⟨typeIs_int s i t, fun _ e => nomatch e⟩
  | ref p =>
    cases r
    rcases ty with ⟨rfl, xs, hq⟩ | ⟨rfl, o, hk, hc, hd⟩ | ⟨rfl, hk⟩ | ⟨rfl, S, n, hk⟩
    · obtain ⟨its, _, pl, _⟩ := I.list hq
      refine ⟨pl.isList.typeIs, fun a e => ?_⟩
      cases e
      obtain ⟨o, n, e, c, hd, _⟩ := pl
      exact ⟨o, e, hd⟩
    · refine ⟨⟨o, I.kIn p o hk, hc⟩, fun a e => ?_⟩
      cases e
      exact ⟨o, I.kIn _ o hk, hd⟩
    · have z : ∃ o, s.heap.get? p = some o ∧ o.ExactDict := by
        rcases hk with ⟨kvs, hk⟩ | ⟨kvs, hk⟩
        · obtain ⟨_, _, _, _, o, _, _, e, ex, _⟩ := I.hok p _ hk
          exact ⟨o, e, ex⟩
        · obtain ⟨_, _, _, _, o, _, _, e, ex, _⟩ := I.hok p _ hk
          exact ⟨o, e, ex⟩
      obtain ⟨o, e, ex⟩ := z
      refine ⟨⟨o, e, ex.1⟩, fun a e2 => ?_⟩
      cases e2
      exact ⟨o, e, ex.2.1⟩
    · obtain ⟨o, _, _, _, e, ex, _⟩ := I.hok p _ hk
      refine ⟨⟨o, e, ex.1⟩, fun a e2 => ?_⟩
      cases e2
      exact ⟨o, e, ex.2.1⟩
  | _ => exact False.elim ty
def tBM0 (K : PySem.W.Frag) (T : String) (r : V → List V → Hp → VK → Prop) (to : TE) : TE := fun σ H Q => to σ H fun x H1 => tyV K T x H1 ∧ r x [] H1 Q
def tBM (K : PySem.W.Frag) (T : String) (r : V → List V → Hp → VK → Prop) (to : TE) (t : TA) : TE := fun σ H Q => to σ H fun x H1 => tyV K T x H1 ∧ t σ H1 fun xs H2 => r x xs H2 Q
variable {o e : Expr} {es : List Expr} {to : TE} {t : TA} {name : Str} {apos cpos : Pos} {T id : String} {r : V → List V → Hp → VK → Prop}
theorem pe_bm0 (pa : PlainAttrs T) (slot : Slot T name id) (hty : typeOf (.builtin id) = pure (.type "method_descriptor")) (hm : MtR X id r) (ho : PE X o to)
    (hbase : attributeBase o name X.env (eval o X.env) = eval o X.env := by rfl) (hline : (apos.endLine == cpos.line) = true := by rfl) : PE X (.Call (.Attribute o name apos) [] [] cpos) (tBM0 X.K T r to) := by
  intro pins s σ H Q I h
  refine wpAny_Call_method0_late hbase hline (thn (ho pins s σ H _ I h) fun v s1 ⟨x, H1, I1, r1, ty, q1⟩ => ?_)
  obtain ⟨h1, h2⟩ := tyV_is I1 r1 ty
  exact ⟨T, id, pa, slot, hty, h1, h2, Calls.callWith_builtin rfl (PySem.evalArgs_none (hm pins s1 σ H1 x [] v [] Q I1 r1 .nil q1))⟩
theorem pe_bm (pa : PlainAttrs T) (slot : Slot T name id) (hty : typeOf (.builtin id) = pure (.type "method_descriptor")) (hm : MtR X id r) (ho : PE X o to) (ha : PA X (e :: es) t)
    (hbase : attributeBase o name X.env (eval o X.env) = eval o X.env := by rfl)
    (hfew : ((backTo cpos (starEach (e :: es) X.env)).all (fun x => !x.1) && (backToKw cpos (keywordEach [] X.env)).all (fun x => x.1.isSome)
      && decide ((e :: es).length + ([] : List Keyword).length + (if ([] : List Keyword).isEmpty then 0 else 1) < 30)) = true := by rfl)
    (hline : (apos.endLine == cpos.line) = true := by rfl) (hs : starEach (e :: es) X.env = (false, eval e X.env) :: starEach es X.env := by rfl) (hplain : (backTo cpos (starEach es X.env)).any (·.1) = false := by rfl) :
    PE X (.Call (.Attribute o name apos) (e :: es) [] cpos) (tBM X.K T r to t) := by
  intro pins s σ H Q I h
  refine wpAny_Call_method_late hbase hfew hline rfl (thn (ho pins s σ H _ I h) fun v s1 ⟨x, H1, I1, r1, ty, q1⟩ => ?_)
  obtain ⟨h1, h2⟩ := tyV_is I1 r1 ty
  refine ⟨T, id, pa, slot, hty, h1, h2, ?_⟩
  have hA := ha cpos pins s1 σ H1 _ I1 q1
  rw [hs] at hA ⊢
  refine Calls.callWith_builtin (by show (false || (backTo cpos (starEach es X.env)).any (·.1)) = false; rw [hplain] <;> rfl) (Calls.evalArgs_plain ?_)
  exact thn hA fun us s2 ⟨vs, H2, I2, r2, q2⟩ => hm pins s2 σ H2 x vs v us Q I2 r1 r2 q2
/- xs.append(e), list.index on a module's tuple .. are MtR facts of 06m -/
end
end L2

namespace L2
open PySem PySem.Spec PyProof.Rows

def MtM (X : Cx) (id : String) (r : V → List V → Hp → VK → Prop) : Prop :=
  ∀ (pins : List (Addr × Obj)) (s : Shared) (σ : St) (H : Hp) (x : V) (xs : List V) (v : Value) (us : List Value) (Q : VK), Inv X pins σ H s → RelV x v → Vals xs us → r x xs H Q →
    wpAny (model X.prog X.w) X.A (call (.builtin id) (v :: us)) (EP X pins σ Q) X.xe s

/-! ### lists of values -/
theorem Vals.one : ∀ {x : V} {us : List Value}, Vals [x] us → ∃ u, us = [u] ∧ RelV x u
  | _, _, .cons r .nil => ⟨_, rfl, r⟩
theorem Vals.two : ∀ {x y : V} {us : List Value}, Vals [x, y] us → ∃ u v, us = [u, v] ∧ RelV x u ∧ RelV y v
  | _, _, _, .cons r (.cons q .nil) => ⟨_, _, rfl, r, q⟩
theorem Vals.zero : ∀ {us : List Value}, Vals [] us → us = []
  | _, .nil => rfl
theorem Vals.dropLast {xs : List V} {us : List Value} (h : Vals xs us) : Vals xs.dropLast us.dropLast := by
  induction h with
  | nil => exact .nil
  | cons r t ih =>
    cases t with
    | nil => exact .nil
    | cons q t' => exact .cons r ih
theorem Vals.eraseIdx : ∀ {xs : List V} {us : List Value} (i : Nat), Vals xs us → Vals (xs.eraseIdx i) (us.eraseIdx i)
  | _, _, _, .nil => .nil
  | _, _, 0, .cons _ t => t
  | _, _, i + 1, .cons r t => .cons r (Vals.eraseIdx i t)
theorem Vals.reverse {xs : List V} {us : List Value} (h : Vals xs us) : Vals xs.reverse us.reverse := by
  induction h with
  | nil => exact .nil
  | cons r t ih => rw [List.reverse_cons, List.reverse_cons]; exact Vals.append ih (.cons r .nil)
theorem Vals.rep {xs : List V} {us : List Value} (h : Vals xs us) : ∀ k : Nat, Vals (List.replicate k xs).flatten (List.replicate k us).flatten
  | 0 => .nil
  | k + 1 => by
    rw [List.replicate_succ, List.replicate_succ, List.flatten_cons, List.flatten_cons]
    exact Vals.append h (Vals.rep h k)
theorem erase_last {α : Type} (l : List α) : l.eraseIdx (l.length - 1) = l.dropLast := by
  induction l with
  | nil => rfl
  | cons a r ih =>
    cases r with
    | nil => rfl
    | cons b r =>
      have e : (a :: b :: r).length - 1 = ((b :: r).length - 1) + 1 := by
        have h1 : (a :: b :: r).length = r.length + 2 := rfl
        have h2 : (b :: r).length = r.length + 1 := rfl
        omega
      rw [e, List.eraseIdx_cons_succ, ih]
      all_goals rfl
theorem len_erase {α : Type} : ∀ (l : List α) (i : Nat), (l.eraseIdx i).length ≤ l.length
  | [], _ => Nat.le_refl _
  | _ :: _, 0 => Nat.le_succ _
  | _ :: r, i + 1 => Nat.succ_le_succ (len_erase r i)
theorem foldl_rep (its : List Value) : ∀ (k : Nat) (acc : List Value),
    List.foldl (fun x1 x2 => x1 ++ x2) acc.toArray (List.replicate k its.toArray) = (acc ++ (List.replicate k its).flatten).toArray
  | 0, acc => by simp
  | k + 1, acc => by
    have e : acc.toArray ++ its.toArray = (acc ++ its).toArray := by simp
    have e2 : (acc ++ its) ++ (List.replicate k its).flatten = acc ++ (List.replicate (k + 1) its).flatten := by
      rw [List.replicate_succ, List.flatten_cons, List.append_assoc]
    rw [← e2, ← foldl_rep its k (acc ++ its), ← e, List.replicate_succ, List.foldl_cons]

section
variable {X : Cx} {pins : List (Addr × Obj)} {σ : St} {H : Hp} {s : Shared} {l b : Addr} {xs ys zs : List V}

/-! ### the two steps: a tracked list is rewritten, a new list is laid -/
theorem Inv.lset {its its' : List Value} {n : Nat} {f : Array Value → Array Value} {t' : Nat} (I : Inv X pins σ H s) (hH : H l = some (.lst xs))
    (e : s.heap.get? l = some { cls := .type "list", data := .seq its.toArray n }) (hf : f its.toArray = its'.toArray) (hv : Vals ys its') (hz : ys.length ≤ sizeLine) :
    Inv X pins σ (upd H l (.lst ys)) { s with heap := s.heap.update l (Obj.mapSeq f), toks := t' } := by
  have q := PySem.IsL.update e f
  rw [hf] at q
  refine I.write (x := l) (e := l) (by rw [hH]; exact trivial) (.inl rfl) (fun b' u hb hu => (Heap.get?_update_other s.heap (Obj.mapSeq f) (Ne.symm hb)).trans hu) ⟨_, q⟩ ?_
  exact ⟨hz, its', _, hv, q⟩
theorem Inv.lnew {its : List Value} {t' : Nat} (I : Inv X pins σ H s) (hv : Vals ys its) (hz : ys.length ≤ sizeLine) :
    Inv X pins σ (upd H s.heap.objs.size (.lst ys)) { s with heap := s.heap.push { cls := .type "list", data := .seq its.toArray }, toks := t' } :=
  I.laid (fun _ _ q => Heap.get?_push_of_some _ q) (Nat.le_refl _) ⟨hz, its, 0, hv, Heap.get?_push_size _ rfl⟩
theorem Inv.fresh (I : Inv X pins σ H s) : H s.heap.objs.size = none := I.hok.fresh (Nat.le_refl _)
theorem Inv.lstM (I : Inv X pins σ H s) (hH : H l = some (.lst xs)) : xs.length ≤ sizeLine ∧ ∃ (its : List Value) (n : Nat), Vals xs its ∧ xs.length = its.length ∧ s.heap.get? l = some { cls := .type "list", data := .seq its.toArray n } := by
  obtain ⟨z, its, n, r, e⟩ := I.hok l _ hH
  exact ⟨z, its, n, r, r.length, e⟩

theorem notLongL {n : Nat} (h : n ≤ sizeLine) : Builtin.List.listTooLong n = false := by
  unfold Builtin.List.listTooLong
  exact decide_eq_false (by omega)
end

section
variable {X : Cx}

/-! ### methods -/
def rAppend : V → List V → Hp → VK → Prop := fun x vs H Q => ∃ l xs y, x = .ref l ∧ vs = [y] ∧ H l = some (.lst xs) ∧ xs.length < sizeLine ∧ Q .non (upd H l (.lst (xs ++ [y])))
theorem mt_append : MtM X "list.append" rAppend := by
  intro pins s σ H x vs v us Q I rx rv h
  obtain ⟨l, xs, y, rfl, rfl, hH, hz, q⟩ := h
  cases rx
  obtain ⟨u, rfl, ru⟩ := rv.one
  obtain ⟨z, its, n, r, hl, e⟩ := I.lstM hH
  refine call_meets F.slot_list_append ⟨_, e, rfl⟩ F.entry_list_append (F.args_list_append_2 _ _) (PySem.list_append l its.toArray n u (by rw [List.size_toArray]; omega)) ⟨e, ?_⟩
  refine ⟨.non, _, I.lset (its' := its ++ [u]) hH e (by simp) (r.append (.cons ru .nil)) ?_, rfl, q⟩
  rw [List.length_append, List.length_singleton]
  omega

def rExtend : V → List V → Hp → VK → Prop := fun x vs H Q => ∃ l b xs zs, x = .ref l ∧ vs = [.ref b] ∧ H l = some (.lst xs) ∧ H b = some (.lst zs) ∧ xs.length + zs.length ≤ sizeLine ∧ Q .non (upd H l (.lst (xs ++ zs)))
theorem mt_extend : MtM X "list.extend" rExtend := by
  intro pins s σ H x vs v us Q I rx rv h
  obtain ⟨l, b, xs, zs, rfl, rfl, hH, hB, hz, q⟩ := h
  cases rx
  obtain ⟨u, rfl, ru⟩ := rv.one
  cases ru
  obtain ⟨z, its, n, r, hl, e⟩ := I.lstM hH
  obtain ⟨z2, its2, n2, r2, hl2, e2⟩ := I.lstM hB
  have hsz : its.toArray.size + its2.toArray.size ≤ sizeLine := by rw [List.size_toArray, List.size_toArray]; omega
  have hlong : ¬ (!its.toArray.isEmpty && Builtin.List.listTooLong (its.toArray.size + its2.toArray.size)) = true := by
    rw [notLongL hsz, Bool.and_false]
    exact Bool.false_ne_true
  refine call_meets F.slot_list_extend ⟨_, e, rfl⟩ F.entry_list_extend (F.args_list_extend_2 _ _)
    (AutoSeq1.list_extend_list_list_0 l its.toArray n b its2.toArray n2 hlong (by rw [List.size_toArray]; omega) (by omega)) ⟨e, e2, ?_⟩
  refine ⟨.non, _, I.lset (its' := its ++ its2) hH e (by simp) (r.append r2) ?_, rfl, q⟩
  rw [List.length_append]
  omega

def rPop : V → List V → Hp → VK → Prop := fun x vs H Q => ∃ l xs y, x = .ref l ∧ vs = [] ∧ H l = some (.lst xs) ∧ xs[xs.length - 1]? = some y ∧ Q y (upd H l (.lst xs.dropLast))
theorem mt_pop : MtM X "list.pop" rPop := by
  intro pins s σ H x vs v us Q I rx rv h
  obtain ⟨l, xs, y, rfl, rfl, hH, hy, q⟩ := h
  cases rx
  have hus := rv.zero
  subst hus
  obtain ⟨z, its, n, r, hl, e⟩ := I.lstM hH
  obtain ⟨u, hu, ru⟩ := r.get hy
  have hy' : its.toArray[its.toArray.size - 1]? = some u := by
    show its.toArray[its.length - 1]? = some u
    rw [← Array.getElem?_toList, ← hl]
    exact hu
  refine call_meets F.slot_list_pop ⟨_, e, rfl⟩ F.entry_list_pop (F.args_list_pop_1 _) (MeetsSeq.list_pop_last l its.toArray n u hy' (by rw [List.size_toArray]; omega)) ⟨e, ?_⟩
  refine ⟨y, _, I.lset (its' := its.dropLast) hH e ?_ r.dropLast ?_, ru, q⟩
  · show its.toArray.eraseIdxIfInBounds (its.toArray.size - 1) = its.dropLast.toArray
    rw [List.size_toArray, List.eraseIdxIfInBounds_toArray, erase_last]
  · rw [List.length_dropLast]
    omega

def rPopAt : V → List V → Hp → VK → Prop := fun x vs H Q => ∃ l xs i k y, x = .ref l ∧ vs = [.int i] ∧ H l = some (.lst xs) ∧ -(2 ^ 63) ≤ i ∧ i < 2 ^ 63 ∧ seqIndex? i xs.length = some k ∧ xs[k]? = some y ∧ Q y (upd H l (.lst (xs.eraseIdx k)))
theorem mt_popAt : MtM X "list.pop" rPopAt := by
  intro pins s σ H x vs v us Q I rx rv h
  obtain ⟨l, xs, i, k, y, rfl, rfl, hH, h1, h2, hk, hy, q⟩ := h
  cases rx
  obtain ⟨u, rfl, ru⟩ := rv.one
  obtain ⟨t, rfl⟩ := ru
  obtain ⟨z, its, n, r, hl, e⟩ := I.lstM hH
  obtain ⟨w, hw, rw'⟩ := r.get hy
  refine call_meets F.slot_list_pop ⟨_, e, rfl⟩ F.entry_list_pop (F.args_list_pop_2 _ _)
    (MeetsSeq.list_pop_at l its.toArray n i t k w (fitsIndex_both h1 h2) (by rw [List.size_toArray, ← hl]; exact hk) (by rw [← Array.getElem?_toList]; exact hw) (by rw [List.size_toArray]; omega)) ⟨e, ?_⟩
  refine ⟨y, _, I.lset (its' := its.eraseIdx k) hH e ?_ (r.eraseIdx k) ?_, rw', q⟩
  · show its.toArray.eraseIdxIfInBounds k = (its.eraseIdx k).toArray
    rw [List.eraseIdxIfInBounds_toArray]
  · have := len_erase xs k
    omega

def rReverse : V → List V → Hp → VK → Prop := fun x vs H Q => ∃ l xs, x = .ref l ∧ vs = [] ∧ H l = some (.lst xs) ∧ Q .non (upd H l (.lst xs.reverse))
theorem mt_reverse : MtM X "list.reverse" rReverse := by
  intro pins s σ H x vs v us Q I rx rv h
  obtain ⟨l, xs, rfl, rfl, hH, q⟩ := h
  cases rx
  have hus := rv.zero
  subst hus
  obtain ⟨z, its, n, r, hl, e⟩ := I.lstM hH
  refine call_meets F.slot_list_reverse ⟨_, e, rfl⟩ F.entry_list_reverse (F.args_list_reverse_1 _) (AutoSeq1.list_reverse_list_0 l its.toArray n (by rw [List.size_toArray]; omega)) ⟨e, ?_⟩
  refine ⟨.non, _, I.lset (its' := its.reverse) hH e (by simp) r.reverse ?_, rfl, q⟩
  rw [List.length_reverse]
  omega

def rClear : V → List V → Hp → VK → Prop := fun x vs H Q => ∃ l xs, x = .ref l ∧ vs = [] ∧ H l = some (.lst xs) ∧ Q .non (upd H l (.lst []))
theorem mt_clear : MtM X "list.clear" rClear := by
  intro pins s σ H x vs v us Q I rx rv h
  obtain ⟨l, xs, rfl, rfl, hH, q⟩ := h
  cases rx
  have hus := rv.zero
  subst hus
  obtain ⟨z, its, n, r, hl, e⟩ := I.lstM hH
  refine call_meets F.slot_list_clear ⟨_, e, rfl⟩ F.entry_list_clear (F.args_list_clear_1 _) (AutoSeq1.list_clear_list_0 l its.toArray n (by rw [List.size_toArray]; omega)) ⟨e, ?_⟩
  exact ⟨.non, _, I.lset (its' := []) (ys := []) hH e rfl .nil (Nat.zero_le _), rfl, q⟩

/-! ### list + list, list += list, list * int -/
def rCat : R2 := fun x y H Q => ∃ l b xs zs, x = .ref l ∧ y = .ref b ∧ H l = some (.lst xs) ∧ H b = some (.lst zs) ∧ xs.length + zs.length ≤ sizeLine ∧ ∀ p, H p = none → Q (.ref p) (upd H p (.lst (xs ++ zs)))
theorem op_cat : OpR X (binaryOp .Add) rCat := by
  intro pins s σ H x y v u Q I rx ry h
  obtain ⟨l, b, xs, zs, rfl, rfl, hH, hB, hz, q⟩ := h
  cases rx
  cases ry
  obtain ⟨z, its, n, r, hl, e⟩ := I.lstM hH
  obtain ⟨z2, its2, n2, r2, hl2, e2⟩ := I.lstM hB
  refine PySem.P.add_list e e2 ?_ (by rw [List.size_toArray, List.size_toArray]; omega)
  have ea : its.toArray ++ its2.toArray = (its ++ its2).toArray := by simp
  rw [ea]
  exact ⟨.ref _, _, I.lnew (t' := s.toks) (r.append r2) (by rw [List.length_append]; omega), rfl, q _ I.fresh⟩
/-- a list times an int (a negative one is nothing) -/
def rRep : R2 := fun x y H Q => ∃ l k xs, x = .ref l ∧ y = .int k ∧ H l = some (.lst xs) ∧ -(2 ^ 63) ≤ k ∧ k < 2 ^ 63 ∧ xs.length * k.toNat ≤ sizeLine ∧
  ∀ p, H p = none → Q (.ref p) (upd H p (.lst (List.replicate k.toNat xs).flatten))
theorem len_rep {α : Type} (xs : List α) (k : Nat) : (List.replicate k xs).flatten.length = k * xs.length := by
  induction k with
  | zero => simp
  | succ k ih => rw [List.replicate_succ, List.flatten_cons, List.length_append, ih, Nat.succ_mul, Nat.add_comm]
theorem op_rep : OpR X (binaryOp .Mult) rRep := by
  intro pins s σ H x y v u Q I rx ry h
  obtain ⟨l, k, xs, rfl, rfl, hH, h1, h2, hz, q⟩ := h
  cases rx
  obtain ⟨t, rfl⟩ := ry
  obtain ⟨z, its, n, r, hl, e⟩ := I.lstM hH
  have hlen : its.toArray.size * k.toNat ≤ sizeLine := by rw [List.size_toArray, ← hl]; exact hz
  have hcap : ¬ its.toArray.size * k.toNat > (2 ^ 63 - 1) / 8 := by
    have : (sizeLine : Nat) ≤ (2 ^ 63 - 1) / 8 := by decide
    omega
  have hfit : ¬ (!Builtin.List.listFitsIndex k) = true := by
    rw [fitsIndex_both h1 h2]
    exact Bool.false_ne_true
  have hlong : ¬ Builtin.List.listTooLong (its.toArray.size * k.toNat) = true := by
    rw [notLongL hlen]
    exact Bool.false_ne_true
  have hnew : List.foldl (fun x1 x2 => x1 ++ x2) #[] (List.replicate (if its.toArray.isEmpty = true then 0 else k.toNat) its.toArray) = (List.replicate k.toNat its).flatten.toArray := by
    have f0 : ∀ m : Nat, List.foldl (fun x1 x2 => x1 ++ x2) #[] (List.replicate m its.toArray) = (List.replicate m its).flatten.toArray := fun m => by
      have := foldl_rep its m []
      rw [List.nil_append] at this
      exact this
    rw [f0]
    cases its with
    | nil => simp
    | cons a r' => rw [if_neg (by simp)]
  refine wpAny_binaryOp_repeat_ref (T := "list") (U := "int") (by decide) ⟨_, e, rfl⟩ (fun s' => typeIs_int s' k t) noFill_list_mul F.fills_int_mul F.slot_int_rmul repeat_list F.slot_int_index.lookup
    (call_meets F.slot_int_rmul (typeIs_int s k t) F.entry_int_rmul (F.args_int_rmul_2 _ _) (int___rmul___int_list k t l its.toArray n)
      ⟨e, rfl, ⟨_, e, rfl⟩, call_meets F.slot_list_mul ⟨_, e, rfl⟩ F.entry_list_mul (F.args_list_mul_2 _ _) (AutoListH.list___mul___list_int_3 l its.toArray n k t hfit hcap hlong) ⟨e, ?_⟩⟩)
  rw [hnew]
  exact ⟨.ref _, _, I.lnew (t' := s.toks) (r.rep k.toNat) (by rw [len_rep, Nat.mul_comm]; exact hz), rfl, q _ I.fresh⟩

/-! ### del xs[i] -/
theorem del_list {pins : List (Addr × Obj)} {s : Shared} {σ : St} {H : Hp} {l : Addr} {xs : List V} {i : Int} {t : Tok} {k : Nat} {Q : Unit → Shared → Prop} (I : Inv X pins σ H s) (hH : H l = some (.lst xs))
    (h1 : -(2 ^ 63) ≤ i) (h2 : i < 2 ^ 63) (hk : seqIndex? i xs.length = some k) (h : ∀ s', Inv X pins σ (upd H l (.lst (xs.eraseIdx k))) s' → Q () s') :
    wpAny (model X.prog X.w) X.A (delItem (.ref l) (.int i t)) Q X.xe s := by
  obtain ⟨z, its, n, r, hl, e⟩ := I.lstM hH
  refine PySem.P.delItem_list (k := k) e (fitsIndex_both h1 h2) (by rw [List.size_toArray, ← hl]; exact hk) (h _ ?_) (by rw [List.size_toArray]; omega)
  refine I.lset (its' := its.eraseIdx k) (t' := s.toks) hH e ?_ (r.eraseIdx k) ?_
  · show its.toArray.eraseIdxIfInBounds k = (its.eraseIdx k).toArray
    rw [List.eraseIdxIfInBounds_toArray]
  · have := len_erase xs k
    omega
end

/-! ### xs[a:b] = ys -/
section
variable {prog : Program} {w : World} {A : Around} {E : Value → Shared → Prop} {s : Shared}
theorem splice_eq (its its2 : List Value) (a c : Nat) : its.toArray.extract 0 a ++ its2.toArray ++ its.toArray.extract c its.toArray.size = (its.take a ++ its2 ++ its.drop c).toArray := by
  apply Array.toList_inj.mp
  first
    | (simp
       exact List.take_of_length_le (by simp))
    | simp [List.take_of_length_le]
    | simp
theorem bounds_run {a c n : Nat} (hac : a ≤ c) (hc : c ≤ n) : sliceBounds (some (a : Int)) (some (c : Int)) none n = ((a : Int), (c : Int), 1) := by
  simp only [sliceBounds, Option.getD_none]
  have h1 : ¬ ((a : Int) < 0) := by omega
  have h2 : ¬ ((c : Int) < 0) := by omega
  simp only [h1, h2, if_false, show (1 : Int) > 0 by decide, if_true]
  congr 1
  · omega
  · congr 1; omega
set_option maxRecDepth 100000 in
/-- list.__setitem__ with a slice of step one and another list -/
theorem setItem_slice {l b sl : Addr} {items new : Array Value} {n n2 : Nat} {vl vu : Value} {a c : Nat} {Q : Unit → Shared → Prop}
    (e : s.heap.get? l = some { cls := .type "list", data := .seq items n }) (e2 : s.heap.get? b = some { cls := .type "list", data := .seq new n2 }) (hne : l ≠ b)
    (hs : s.heap.IsSliceOf sl vl vu .none) (pl : IsPart vl (some (a : Int))) (pu : IsPart vu (some (c : Int))) (hac : a ≤ c) (hc : c ≤ items.size)
    (hsz : items.size + new.size ≤ sizeLine) (h : Q () { s with heap := s.heap.update l (Obj.mapSeq fun xs => xs.extract 0 a ++ new ++ xs.extract c xs.size) }) :
    wpAny (model prog w) A (setItem (.ref l) (.ref sl) (.ref b)) Q E s := by
  have hl : s.heap.IsList l items := PySem.IsL.isList e
  have hb : s.heap.IsList b new := PySem.IsL.isList e2
  obtain ⟨os, hos, hcs, hds⟩ := id hs
  have hTs : s.TypeIs (.ref sl) "slice" := ⟨os, hos, hcs⟩
  have hstep : ¬ ((rawPart none == rawInt 0) = true) := Bool.false_ne_true
  have hsame : Builtin.List.listSameRef (.ref l) (.ref b) = false := by
    unfold Builtin.List.listSameRef
    exact beq_eq_false_iff_ne.mpr hne
  have hmax : (max (a : Int) (c : Int)).toNat = c := by omega
  have hz' : ((fun xs : Array Value => xs.extract 0 a ++ new ++ xs.extract c xs.size) items).size ≤ sizeLine + 1 := by
    simp only [Array.size_append, Array.size_extract]
    omega
  unfold setItem
  try with_reducible refine wpAny_holding ?_
  first | refine wpAny_bind (wpAny_pure ?_) | skip
  refine wpAny_bind (wpAny_sequenceKey hl.typeIs (by decide) ?_)
  refine wpAny_bind (wpAny_callSpecial?_slot (name := Str.ofString "__setitem__") hl.typeIs slot_list_setitem
    (wpAny_call_entry slot_list_setitem hl.typeIs entry_list_setitem ?_ (args_list_setitem _ _ _)))
  show wpAny _ _ (Builtin.List.listSubscript? (.ref sl) >>= _) _ _ s
  refine wpAny_bind ?_
  unfold Builtin.List.listSubscript?
  refine wpAny_bind (wpAny_specialOf hTs slice_no_index ?_)
  simp only [Option.isNone_none, if_true]
  refine wpAny_pure ?_
  show wpAny _ _ (typeOf (.ref sl) >>= _) _ _ s
  refine wpAny_bind (wpAny_typeOf hTs ?_)
  first
    | rw [if_neg (by decide)]
    | refine PySem.W.KFB.if_not (by decide) ?_
  rw [listSliceParts_eq]
  refine wpAny_bind (wpAny_bind (wpAny_field hos hds (x := .none) rfl (wpAny_bind (wpAny_listPart .none ?_))))
  rw [if_neg hstep]
  refine wpAny_bind (wpAny_field hos hds (x := vl) rfl (wpAny_bind (wpAny_listPart pl ?_)))
  refine wpAny_bind (wpAny_field hos hds (x := vu) rfl (wpAny_bind (wpAny_listPart pu (wpAny_pure ?_))))
  first
    | simp only [hsame, Bool.false_eq_true, if_false]
    | refine PySem.W.KFB.if_not hsame ?_
    | (dsimp only
       rw [if_neg (by rw [hsame]; exact Bool.false_ne_true)])
  refine wpAny_bind (m := Builtin.List.listAllItems (.ref b) "must assign iterable to extended slice") ?_
  unfold Builtin.List.listAllItems
  refine wpAny_bind (wpAny_typeOf hb.typeIs ?_)
  first
    | refine PySem.W.KFB.if_so (by decide) ?_
    | rw [if_pos (by decide)]
    | simp only [beq_self_eq_true, Bool.true_or, if_true]
  unfold Builtin.List.listItems
  refine wpAny_bind (wpAny_seqItems e2 rfl (wpAny_pure ?_))
  refine wpAny_bind (wpAny_bind (wpAny_seqItems e rfl (wpAny_pure ?_)))
  refine wpAny_bind (wpAny_of_eq ((sliceIndices_raw (some (a : Int)) (some (c : Int)) none items.size (by simp)).trans (congrArg (pure : Int × Int × Int → Sem (Int × Int × Int)) (bounds_run hac hc))) ?_)
  show wpAny _ _ (if ((1 : Int) == 1) = true then _ else _) _ _ s
  rw [if_pos (by decide)]
  refine wpAny_bind (wpAny_rule ?_)
  first
    | simp only [notLongL hsz, Bool.false_eq_true, if_false]
    | refine PySem.W.KFB.if_not (notLongL hsz) ?_
  first | refine wpAny_bind (wpAny_pure ?_) | skip
  show wpAny _ _ (updateSeq l (fun xs => xs.extract 0 ((a : Int)).toNat ++ new ++ xs.extract (max (a : Int) (c : Int)).toNat xs.size) >>= _) _ _ s
  rw [hmax, Int.toNat_natCast]
  refine wpAny_bind (wpAny_updateSeq (hz := Nat.le_trans (Nat.le_add_right _ _) hsz) (_hz' := hz') e rfl ?_)
  refine wpAny_bind (wpAny_letGo ?_)
  first
    | exact wpAny_bind (wpAny_pure (wpAny_pure ⟨.none, rfl, wpAny_pure h⟩))
    | exact wpAny_pure ⟨.none, rfl, wpAny_pure h⟩
end

section
variable {X : Cx}
/-- xs[a:c] = ys of another list, at the value level: sl is the slice object that was just made -/
theorem set_slice {pins : List (Addr × Obj)} {s : Shared} {σ : St} {H : Hp} {l b sl : Addr} {xs ys : List V} {a c : Int} {vl vu : Value} {Q : Unit → Shared → Prop} (I : Inv X pins σ H s)
    (hH : H l = some (.lst xs)) (hB : H b = some (.lst ys)) (hne : l ≠ b) (hs : s.heap.IsSliceOf sl vl vu .none) (ra : RelV (.int a) vl) (rc : RelV (.int c) vu) (h0 : 0 ≤ a) (hac : a ≤ c) (hc : c ≤ xs.length)
    (hz : xs.length + ys.length ≤ sizeLine) (h : ∀ s', Inv X pins σ (upd H l (.lst (xs.take a.toNat ++ ys ++ xs.drop c.toNat))) s' → Q () s') :
    wpAny (model X.prog X.w) X.A (setItem (.ref l) (.ref sl) (.ref b)) Q X.xe s := by
  obtain ⟨ta, rfl⟩ := ra
  obtain ⟨tc, rfl⟩ := rc
  obtain ⟨z, its, n, r, hl, e⟩ := I.lstM hH
  obtain ⟨z2, its2, n2, r2, hl2, e2⟩ := I.lstM hB
  obtain ⟨a', rfl⟩ := Int.eq_ofNat_of_zero_le h0
  obtain ⟨c', rfl⟩ := Int.eq_ofNat_of_zero_le (Int.le_trans h0 hac)
  simp only [Int.toNat_natCast] at h
  refine setItem_slice (a := a') (c := c') e e2 hne hs (.int _ _) (.int _ _) (by omega) (by rw [List.size_toArray]; omega) (by rw [List.size_toArray, List.size_toArray]; omega) (h _ ?_)
  refine I.lset (its' := its.take a' ++ its2 ++ its.drop c') (t' := s.toks) hH e ?_ (Vals.append (Vals.append (r.take _) r2) (r.drop _)) ?_
  · exact splice_eq its its2 a' c'
  · rw [List.length_append, List.length_append, List.length_take, List.length_drop]
    omega
end
end L2

namespace Att
open PySem PySem.W PySem.Calls PyProof.Rows

/-! ### the script -/
theorem ints_of_wellAll {P : Params} {h : Heap} : ∀ (ns : List Int) (vs : List Value), WellAll P h vs (ns.map WData.int) → IntsAre vs ns := by
  intro ns
  induction ns with
  | nil =>
    intro vs w
    rw [List.map_nil] at w
    cases w
    exact .nil
  | cons n ns ih =>
    intro vs w
    rw [List.map_cons] at w
    cases w with
    | cons a b =>
      cases a
      exact .cons _ _ (ih _ b)

theorem script_of {l : OpenLaw} {n : Nat} (hn : l.most = some n) {P : Params} {h : Heap} {args : List WData} {vals : List Value}
    (hpre : l.row.toRowW.claim.pre args = true) (hwl : WellAll P h vals args) :
    ∃ a vs ns, vals = [Value.ref a] ∧ args = [WData.list (ns.map WData.int)] ∧ h.get? a = some { cls := .type "list", data := .seq vs.toArray } ∧ IntsAre vs ns ∧ ns.length ≤ n := by
  have hsh : WShape.hasAll [] args [.list .int] = true := (pre_splitW hpre).1
  have hc : l.pre.holds [] { args := args } = true := (pre_splitW hpre).2
  obtain ⟨d, r, rfl, h1, h2⟩ := hasAllW_cons hsh
  obtain rfl := hasAllW_nil h2
  obtain ⟨xs, rfl, h3⟩ := hasW_list h1
  obtain ⟨ns, rfl⟩ := items_int h3
  have hlen : ns.length ≤ n := by
    unfold OpenLaw.pre at hc
    have h4 : (WTm.not (.lt (.lit (.int (n : Int))) (.len (.arg 0)))).holds [] { args := [.list (ns.map .int)] } = true := by
      have h4 := (holds_andW hc).1
      rw [hn] at h4
      exact h4
    have h5 := condW_of h4 (w_not (w_lt w_lit (w_len_list (w_arg rfl))))
    rw [List.length_map] at h5
    refine Nat.le_of_not_lt fun q => ?_
    have q' : (n : Int) < ((ns.length : Nat) : Int) := by omega
    first
      | (rw [decide_eq_true q'] at h5; exact absurd h5 (by decide))
      | (simp at h5; omega)
  cases hwl with
  | cons w1 w2 =>
    cases w2
    cases w1 with
    | list ho hall => exact ⟨_, _, ns, rfl, rfl, ho, ints_of_wellAll ns _ hall, hlen⟩

theorem post_true (l : OpenLaw) (args : List WData) : l.row.toRowW.claim.post args (.bool true) args = true :=
  postW_of (r := l.row.toRowW) (X := (true == true))
    (show WShape.has [] (.bool true) .bool = true by first | rfl | decide | simp [WShape.has, WShape.arms, WShape.armsAll])
    (show (WTm.eq .res (.lit (.bool true))).value [] { args := args, res := some (.bool true), after := args } = some (.bool (true == true)) from w_eq_bool (w_res rfl) w_lit) rfl

/-! ### the attachment: holds_open's last premise (the goal 'hc' behind k_head) from a wpAny of the law's body -/
theorem attach {l : OpenLaw} {n : Nat} {q : Program} {loose : List Str} {XP : (Str → Option Value) → Heap → Prop} {YP : World → Heap → Prop} {d : DefRec} {x : Str}
    (hn : l.most = some n) (hdf : d.params.defaults = [])
    (hbind : ∀ pm cd doc v : Value, bindArgs (docDef d.name d.params d.body d.scope pm cd doc) ⟨[v], []⟩ = pure [(x, v)])
    (hx : d.scope.names.lookup x = some .local ∨ d.scope.names.lookup x = some .cell)
    (hk : d.scope.kind = .function) (hco : d.scope.isCoroutine = false) (hgen : d.scope.isGenerator = false)
    (body : ∀ (w : World) (s₀ s₁ s : Shared) (mg mb : Str → Option Value) (fa : Addr) (o : Obj) (pm cd doc : Value) (a : Addr) (vs : List Value) (ns : List Int),
      Ground q loose [] XP w s₀ mg mb s₁.heap → YP w s₁.heap →
      s₁.heap.get? fa = some o → o.data = .func (docDef d.name d.params d.body d.scope pm cd doc) → s₁.heap.CodeRec cd d.name → mg d.name = some (.ref fa) →
      s₁.heap.get? a = some { cls := .type "list", data := .seq vs.toArray } → IntsAre vs ns → ns.length ≤ n →
      s.gens = #[] → s.os = s₁.os →
      Fr s₁.heap s₁.heap.objs.size s.heap (bindL (envOfC d.name d.scope s₁.heap.objs.size fa cd).kindOf [(x, .ref a)] fun _ => none) →
      Cl s₁.heap.objs.size (cellsFrom (s₁.heap.objs.size + 1) d.scope.names []) s.heap (bindC (envOfC d.name d.scope s₁.heap.objs.size fa cd).kindOf [(x, .ref a)] fun _ => none) →
      wpAny (model l.prog w) (callerA.deeper (envOfC d.name d.scope s₁.heap.objs.size fa cd)) (execs d.body (envOfC d.name d.scope s₁.heap.objs.size fa cd))
        (fun f s' => f = .ret (.bool true) ∧ OldK s₁.heap s'.heap ∧ s'.os = s₁.os ∧ AllBare s'.gens) (fun _ _ => False) s) :
    WalkO q loose XP YP l.row.toRowW d [] (fun f vs => PySem.call f vs) := by
  intro w s₀ s₁ mg mb G Y fa o pm cd doc dV kV ho hd hcd hD hmg hg args vals as hpre hlay hrd hwl hlo
  obtain rfl : dV = .none := Dflts.none hD hdf
  obtain rfl : kV = .none := Dflts.noKw hD
  obtain ⟨a, vs, ns, rfl, rfl, hobj, hints, hlen⟩ := script_of hn hpre hwl
  refine enter_call ?_
  refine call_cells_ret (o := o) (by rw [depth_caller]; decide) ho (fd_plain hd) G.T.nolimit hcd (hbind pm cd doc (.ref a)) (fun y hy => ?_) (fun h₁ tk F X => ?_) hco hgen hk
  · obtain rfl : y = (x, Value.ref a) := List.mem_singleton.mp hy
    rcases hx with e | e
    · exact .inl e
    · exact .inr ⟨e, cellsFrom_some _ _ _ (.inl e)⟩
  · refine wpAny_mono (body w s₀ s₁ { s₁ with heap := h₁, toks := tk } mg mb fa o pm cd doc a vs ns G Y ho (fd_plain hd) hcd hmg hobj hints hlen hg rfl F X) (fun f s' hq => ?_) (fun _ _ hq => hq)
    obtain ⟨rfl, h2, h3, h4⟩ := hq
    exact ⟨.inl ⟨.bool true, .bool true, [], rfl, fun _ => rfl, .bool true, post_true l _, fun _ => ⟨List.Pairwise.nil, fun _ hm => (nomatch hm)⟩⟩, h2, h3, h4⟩

/-- the same from a codeAny of the CALL (for a layer whose function contracts speak of calls) -/
theorem attach_call {l : OpenLaw} {n : Nat} {q : Program} {loose : List Str} {XP : (Str → Option Value) → Heap → Prop} {YP : World → Heap → Prop} {d : DefRec}
    (hn : l.most = some n) (hdf : d.params.defaults = [])
    (call : ∀ (w : World) (s₀ s₁ : Shared) (mg mb : Str → Option Value) (fa : Addr) (o : Obj) (pm cd doc : Value) (a : Addr) (vs : List Value) (ns : List Int),
      Ground q loose [] XP w s₀ mg mb s₁.heap → YP w s₁.heap →
      s₁.heap.get? fa = some o → o.data = .func (docDef d.name d.params d.body d.scope pm cd doc) → s₁.heap.CodeRec cd d.name → mg d.name = some (.ref fa) →
      s₁.heap.get? a = some { cls := .type "list", data := .seq vs.toArray } → IntsAre vs ns → ns.length ≤ n → s₁.gens = #[] →
      codeAny (model l.prog w) callerA (.call (.ref fa) ⟨[.ref a], []⟩) (fun r s' => r = .ok (.ret (.bool true)) ∧ OldK s₁.heap s'.heap ∧ s'.os = s₁.os ∧ AllBare s'.gens) s₁) :
    WalkO q loose XP YP l.row.toRowW d [] (fun f vs => PySem.call f vs) := by
  intro w s₀ s₁ mg mb G Y fa o pm cd doc dV kV ho hd hcd hD hmg hg args vals as hpre hlay hrd hwl hlo
  obtain rfl : dV = .none := Dflts.none hD hdf
  obtain rfl : kV = .none := Dflts.noKw hD
  obtain ⟨a, vs, ns, rfl, rfl, hobj, hints, hlen⟩ := script_of hn hpre hwl
  refine enter_call (codeAny_mono (call w s₀ s₁ mg mb fa o pm cd doc a vs ns G Y ho (fd_plain hd) hcd hmg hobj hints hlen hg) fun r s' hq => ?_)
  obtain ⟨rfl, h2, h3, h4⟩ := hq
  exact ⟨.inl ⟨.bool true, .bool true, [], rfl, fun _ => rfl, .bool true, post_true l _, fun _ => ⟨List.Pairwise.nil, fun _ hm => (nomatch hm)⟩⟩, h2, h3, h4⟩

/-- the same where the top left finished generators (o_head chose holds_openN): nothing may have changed at all and no generator may be left -/
theorem attachN {l : OpenLaw} {n : Nat} {q : Program} {loose : List Str} {XP : (Str → Option Value) → Heap → Prop} {YP : World → Heap → Prop} {d : DefRec} {x : Str}
    (hn : l.most = some n) (hdf : d.params.defaults = [])
    (hbind : ∀ pm cd doc v : Value, bindArgs (docDef d.name d.params d.body d.scope pm cd doc) ⟨[v], []⟩ = pure [(x, v)])
    (hx : d.scope.names.lookup x = some .local ∨ d.scope.names.lookup x = some .cell)
    (hk : d.scope.kind = .function) (hco : d.scope.isCoroutine = false) (hgen : d.scope.isGenerator = false)
    (body : ∀ (w : World) (s₀ s₁ s : Shared) (mg mb : Str → Option Value) (fa : Addr) (o : Obj) (pm cd doc : Value) (a : Addr) (vs : List Value) (ns : List Int),
      Ground q loose [] XP w s₀ mg mb s₁.heap → YP w s₁.heap →
      s₁.heap.get? fa = some o → o.data = .func (docDef d.name d.params d.body d.scope pm cd doc) → s₁.heap.CodeRec cd d.name → mg d.name = some (.ref fa) →
      s₁.heap.get? a = some { cls := .type "list", data := .seq vs.toArray } → IntsAre vs ns → ns.length ≤ n →
      s.gens = #[] → s.os = s₁.os →
      Fr s₁.heap s₁.heap.objs.size s.heap (bindL (envOfC d.name d.scope s₁.heap.objs.size fa cd).kindOf [(x, .ref a)] fun _ => none) →
      Cl s₁.heap.objs.size (cellsFrom (s₁.heap.objs.size + 1) d.scope.names []) s.heap (bindC (envOfC d.name d.scope s₁.heap.objs.size fa cd).kindOf [(x, .ref a)] fun _ => none) →
      wpAny (model l.prog w) (callerA.deeper (envOfC d.name d.scope s₁.heap.objs.size fa cd)) (execs d.body (envOfC d.name d.scope s₁.heap.objs.size fa cd))
        (fun f s' => f = .ret (.bool true) ∧ (∀ b o, s₁.heap.get? b = some o → s'.heap.get? b = some o) ∧ s'.os = s₁.os ∧ s'.gens = #[]) (fun _ _ => False) s) :
    WalkN q loose XP YP l.row.toRowW d [] (fun f vs => PySem.call f vs) := by
  intro w s₀ s₁ mg mb G Y fa o pm cd doc dV kV ho hd hcd hD hmg hg args vals as hpre hlay hrd hwl hlo
  obtain rfl : dV = .none := Dflts.none hD hdf
  obtain rfl : kV = .none := Dflts.noKw hD
  obtain ⟨a, vs, ns, rfl, rfl, hobj, hints, hlen⟩ := script_of hn hpre hwl
  refine enter_callW ?_
  refine call_cells_ret (o := o) (by rw [depth_caller]; decide) ho (fd_plain hd) G.T.nolimit hcd (hbind pm cd doc (.ref a)) (fun y hy => ?_) (fun h₁ tk F X => ?_) hco hgen hk
  · obtain rfl : y = (x, Value.ref a) := List.mem_singleton.mp hy
    rcases hx with e | e
    · exact .inl e
    · exact .inr ⟨e, cellsFrom_some _ _ _ (.inl e)⟩
  · refine wpAny_mono (body w s₀ s₁ { s₁ with heap := h₁, toks := tk } mg mb fa o pm cd doc a vs ns G Y ho (fd_plain hd) hcd hmg hobj hints hlen hg rfl F X) (fun f s' hq => ?_) (fun _ _ hq => hq)
    obtain ⟨rfl, h2, h3, h4⟩ := hq
    exact ⟨.inl ⟨.bool true, .bool true, [], rfl, fun _ => rfl, .bool true, post_true l _, fun _ => ⟨List.Pairwise.nil, fun _ hm => (nomatch hm)⟩⟩, h2, h3, h4⟩

/-! ### rules over ANY heap (no ledger) from facts about the written part K: the library's own take a ledger (News) for what they write -/
section
variable {prog : Program} {w : World} {A : Around} {E : Value → Shared → Prop} {s : Shared} {K : Frag}

/-- a def of the module, or a method (qual 'C.m'), entered: the frame is the next address; cells behind it -/
theorem call_fn {R : Result → Shared → Prop} {name qual : Str} {params : Arguments} {body : List Stmt} {scope : Scope} {dV kV doc pm cdv ct oc : Value} {an od : Option Addr} {osl : Array (Option Value)} {f : Addr} {args : Args} {binds : List (Str × Value)}
    (X : K.In s.heap) (hlim : s.heap.NoLimit) (ho : K.lookup f = some ⟨oc, od, .func (fnOf name qual params body scope dV kV doc pm an cdv ct), osl⟩) (hcd : codeIn K cdv qual = true) (hroom : A.depth < recursionLimit)
    (hbind : BindsTo s (fnOf name qual params body scope dV kV doc pm an cdv ct) args binds)
    (hkind : (binds.all fun y => scope.names.lookup y.1 == some .local || scope.names.lookup y.1 == some .cell) = true)
    (h : ∀ s₁, InCallC s s.heap.objs.size (bindL (envOfC qual scope s.heap.objs.size f cdv).kindOf binds fun _ => none) (cellsFrom (s.heap.objs.size + 1) scope.names [])
        (bindC (envOfC qual scope s.heap.objs.size f cdv).kindOf binds fun _ => none) s₁ →
      wpAny (model prog w) (A.deeper (envOfC qual scope s.heap.objs.size f cdv)) (execs body (envOfC qual scope s.heap.objs.size f cdv))
        (fun fl s' => R (.ok (.ret (match fl with | .ret v => v | _ => .none))) s')
        (fun e s' => wpAny (model prog w) (A.deeper (envOfC qual scope s.heap.objs.size f cdv)) (leaving (envOfC qual scope s.heap.objs.size f cdv) e) (fun _ s'' => R (.error e) s'') (fun e' s'' => R (.error e') s'') s') s₁)
    (hco : scope.isCoroutine = false) (hgen : scope.isGenerator = false) (hk : scope.kind = .function) : codeAny (model prog w) A (.call (.ref f) args) R s := by
  refine codeAny_call_function hroom (X _ _ ho) rfl hco hgen rfl (codeRec_of X hcd) (hbind _ _ _ _ ?_)
  refine wpAny_newFunctionEnv_cells hk (kindsX hkind _) fun env he s₁ x => ?_
  subst he
  exact ⟨hlim.keeps x.toInCall.keep, codeAny_func (h s₁ x)⟩

/-- C(..): dict at size, instance at size + 1, then __init__ -/
theorem make_obj {R : Result → Shared → Prop} {C fI : Addr} {rest : List Value} {kw : List (Str × Value)}
    (X : K.In s.heap) (hm : makesIn K C = true) (hi : findIn K (.ref C) "__init__" = some (some (.ref fI))) (hf : isFn K (.ref fI) = true)
    (h : codeAny (model prog w) (A.under (.builtin "type.__call__" ⟨.ref C :: rest, kw⟩)) (.call (.ref fI) ⟨.ref (s.heap.objs.size + 1) :: rest, kw⟩) (InitBack (s.heap.objs.size + 1) R)
      { s with heap := (s.heap.push emptyDict).push (instObj C s.heap.objs.size) }) : codeAny (model prog w) A (.call (.ref C) ⟨rest, kw⟩) R s := by
  obtain ⟨hh, g, d, t, os⟩ := s
  exact make_core (makes_of X hm) (looks_findIn X hi) (fun self => bind_fn X self (beq_iff_eq.mp hf)) (.inl rfl) h

/-- x.name where the instance's dict holds the name and the class does not -/
theorem get_field {x C : Addr} {ox : Obj} {es : List DictEntry} {n : Nat} {name : Str} {expr : Bool} {v : Value} {Q : Value → Shared → Prop}
    (X : K.In s.heap) (I : PySem.W.InstAt s.heap x ox C (some (dictOf es n))) (hg : plainGet K C name = true) (hh : hasDictIn K C = true) (ha : findIn K (.ref C) name = some none)
    (hl : getL name es = some (some v)) (hv : handedIn v = true) (h : Q v { s with toks := s.toks + 1 }) : wpAny (model prog w) A (getAttr (.ref x) name expr) Q E s :=
  get_value X I (plainGet_of hg).1 (findObj_own hh ha rfl hl) hv h

/-- x.m(..): the method found in the class -/
theorem get_method {x C f : Addr} {ox : Obj} {es : List DictEntry} {n : Nat} {name : Str} {pl : Sem Bool} {Q : Value × List Value → Shared → Prop}
    (X : K.In s.heap) (I : PySem.W.InstAt s.heap x ox C (some (dictOf es n))) (hg : plainGet K C name = true) (hf : findIn K (.ref C) name = some (some (.ref f))) (ht : isFn K (.ref f) = true)
    (hl : getL name es = some none) (h : Q (.ref f, [.ref x]) s) : wpAny (model prog w) A (getMethod (.ref x) name pl) Q E s :=
  method_fn X I (plainGet_of hg).1 (plainGet_of hg).2 hf (beq_iff_eq.mp ht) (by show (lookIn name (dictOf es n)).map _ = _; rw [lookIn_dict, hl]; rfl) h

/-! the whole heap as the ledger: makes every rule that writes through a ledger a rule over any heap -/
def noObjs (h : Heap) : Heap := { h with objs := #[] }
theorem noObjs_get (h : Heap) (b : Addr) : (noObjs h).get? b = none := by
  cases e : (noObjs h).get? b with
  | none => rfl
  | some o => exact absurd (Heap.lt_size e) (Nat.not_lt_zero _)
def ledger (h : Heap) (L d : Addr) : List (Addr × Obj) := (List.range h.objs.size).filterMap fun a => if a = L ∨ a = d then none else (h.get? a).map fun o => (a, o)
theorem mem_ledger {h : Heap} {L d a : Addr} {o : Obj} : (a, o) ∈ ledger h L d ↔ a ≠ L ∧ a ≠ d ∧ h.get? a = some o := by
  unfold ledger
  rw [List.mem_filterMap]
  constructor
  · rintro ⟨b, _, e⟩
    split at e
    · cases e
    · rename_i hb
      obtain ⟨o', ho, e'⟩ := Option.map_eq_some_iff.mp e
      cases e'
      exact ⟨fun q => hb (.inl q), fun q => hb (.inr q), ho⟩
  · rintro ⟨n1, n2, ho⟩
    refine ⟨a, List.mem_range.mpr (Heap.lt_size ho), ?_⟩
    rw [if_neg (show ¬ (a = L ∨ a = d) from fun q => q.elim n1 n2), ho] <;> rfl
theorem news_ledger {h : Heap} {L d : Addr} {od : Obj} (hne : d ≠ L) (ho : h.get? d = some od) : News (noObjs h) L h ([] ++ (d, od) :: ledger h L d) := by
  rintro ⟨a, o⟩ hp
  rcases List.mem_cons.mp hp with e | hp
  · cases e
    exact ⟨ho, hne, noObjs_get _ _⟩
  · obtain ⟨n1, n2, e⟩ := mem_ledger.mp hp
    exact ⟨e, n1, noObjs_get _ _⟩
theorem fr_all {h : Heap} {L : Addr} {m : Str → Option Value} (n : h.Ns L m) : Fr (noObjs h) L h m :=
  ⟨n, fun b o e => (by rw [noObjs_get] at e; cases e), Nat.zero_le _⟩
/-- Upd of the head entry (for append_K, setItem_K ..) -/
theorem upd_ledger {h : Heap} {L d : Addr} {o o' : Obj} : Upd d o o' ((d, o) :: ledger h L d) ((d, o') :: ledger h L d) :=
  .head fun ⟨_, _⟩ hp => (mem_ledger.mp hp).2.1

/-- x.name = v over any heap: L is any namespace of the heap (the frame's, say): its map stays, its object is not told; all else but the dict stays -/
theorem set_field {x C dx L : Addr} {ox : Obj} {m : Str → Option Value} {es es' : List DictEntry} {n n' : Nat} {name : Str} {v : Value} {Q : Unit → Shared → Prop}
    (X : K.In s.heap) (I : PySem.W.InstAt s.heap x ox C (some (dictOf es n))) (hd : ox.dict = some dx) (hL : s.heap.Ns L m) (hne : dx ≠ L)
    (hs : findIn K (.ref C) "__setattr__" = some (some (.builtin "object.__setattr__"))) (hp : plainOver K C = true) (ht : takerIn K C name = some none) (hh : hasDictIn K C = true) (hl : (getL name es).isSome = true)
    (e : (putL name (PyData.keyHash w.params name) (.str name (s.toks + 1)) v es, putN name es n) = (es', n')) (hz : es'.length ≤ 1000)
    (h : ∀ h' : Heap, h'.Ns L m → h'.get? dx = some (dictOf es' n') → (∀ b o, b ≠ dx → b ≠ L → s.heap.get? b = some o → h'.get? b = some o) → Q () { s with heap := h', toks := s.toks + 2 }) :
    wpAny (model prog w) A (setAttr (.ref x) name v) Q E s := by
  obtain ⟨e1, e2⟩ := Prod.mk.inj e
  have hdx : s.heap.get? dx = some (dictOf es n) := by
    have := I.dict
    rw [hd] at this
    exact this
  refine set_plain X I hs (osa_dict (s := { s with toks := s.toks + 1 }) (h₀ := noObjs s.heap) (L := L) (m := m) (od := dictOf es n) (od' := dictOf es' n') (es := es') (n := n') (pre := []) (post := ledger s.heap L dx)
    (fr_all hL) (news_ledger hne hdx) X I hd hp ht hh hl (fun _ q => nomatch q) (fun ⟨_, _⟩ q => (mem_ledger.mp q).2.1) (by rw [putName_dict, e1, e2]) rfl hz fun h' F' N' => ?_)
  exact h h' F'.ns (N'.get (List.Mem.head _)) fun b o n1 n2 ho => N'.get (List.Mem.tail _ (mem_ledger.mpr ⟨n2, n1, ho⟩))
end
end Att

namespace L2
open PySem PySem.Spec PyProof.Rows

theorem vals_ints : ∀ {vs : List Value} {ns : List Int}, IntsAre vs ns → Vals (ns.map V.int) vs
  | _, _, .nil => .nil
  | _, _, .cons n t h => .cons ⟨t, rfl⟩ (vals_ints h)

/-- nothing is tracked but the script, known to the object (or it is an object of the module) -/
def Only (H : Hp) : Prop := ∀ b, H b = none ∨ ∃ o xs, H b = some (.frz o (.lst xs))

/-- THE HEAD: the law's promise, at the heap behind the top. F, the promise of the law's def, may use that base is part of the heap (so K.In base, base.Ns mainGlobals mg stand in Mod) -/
theorem law_call {P : Program} {w : World} {K : PySem.W.Frag} {mg mb : Str → Option Value} {CX : CXT} {k : Nat} {fa a : Addr} {fd : FuncData} {x : Str} {sp : Sp} {s₁ : Shared} {vs : List Value} {ns : List Int}
    (KX : K.In s₁.heap) (hns : s₁.heap.Ns mainGlobals mg) (hb : s₁.heap.Ns builtinsNs mb) (hbb : ∀ x : Str, x ≠ "__name__" → mb x = bootBuiltins x) (hlim : s₁.heap.NoLimit) (hg : s₁.gens = #[])
    (ha : s₁.heap.get? a = some { cls := .type "list", data := .seq vs.toArray }) (hi : IntsAre vs ns) (hl : ns.length ≤ sizeLine) (hr : Room k callerA)
    (F : ∀ base : Heap, K.In base → base.Ns mainGlobals mg → FnOk P w K mg base CX k fa fd [x] sp) (hbind : ∀ (s : Shared) (u : Value), BindsTo s fd ⟨[u], []⟩ [(x, u)])
    (hsp : ∀ H : Hp, Only H → SqL K H a (ns.map V.int) → sp [.ref a] H (fun v _ => v = .bl true) fun _ _ _ => False)
    (hCX : ∀ H e s', CX [] H s₁ (fun _ _ _ => False) e s' → False) :
    codeAny (model P w) callerA (.call (.ref fa) ⟨[.ref a], []⟩) (fun r s' => r = .ok (.ret (.bool true)) ∧ OldK s₁.heap s'.heap ∧ s'.os = s₁.os ∧ AllBare s'.gens) s₁ := by
  have rv := vals_ints hi
  have lenV := hi.length
  -- from an abstract heap in which nothing but the script may be tracked
  have core : ∀ H : Hp, Only H → SqL K H a (ns.map V.int) → HOk P w H s₁.heap → (∀ b, H b ≠ none → b = a) → (H a ≠ none → K.lookup a = none) →
      codeAny (model P w) callerA (.call (.ref fa) ⟨[.ref a], []⟩) (fun r s' => r = .ok (.ret (.bool true)) ∧ OldK s₁.heap s'.heap ∧ s'.os = s₁.os ∧ AllBare s'.gens) s₁ := by
    intro H hO hS hok hA hK
    have base_of : ∀ {b : Addr} {o : Obj}, s₁.heap.get? b = some o → H b = none → (hidT s₁.heap H).get? b = some o := fun e n => hidT_get e n
    have noA : ∀ {b : Addr} {o : Obj} {es : Array DictEntry} {ep : Nat}, s₁.heap.get? b = some o → o.data = .dict es ep → H b = none := fun {b o es ep} e d => by
      cases q : H b with
      | none => rfl
      | some u =>
        have e' : b = a := hA b (by rw [q]; simp)
        subst e'
        rw [ha] at e; cases e
        have d' : Data.seq vs.toArray _ = Data.dict es ep := d
        cases d'
    have nsK : ∀ {b : Addr} {m : Str → Option Value}, s₁.heap.Ns b m → (hidT s₁.heap H).Ns b m := fun {b m} ⟨o, es, ep, e, d, r⟩ => ⟨o, es, ep, base_of e (noA e d), d, r⟩
    have hKb : K.In (hidT s₁.heap H) := fun b o e => base_of (KX b o e) (by
      cases q : H b with
      | none => rfl
      | some u =>
        have e' : b = a := hA b (by rw [q]; simp)
        subst e'
        rw [hK (by rw [q]; simp)] at e; cases e)
    have hM : Mod K mg (hidT s₁.heap H) := ⟨hKb, nsK hns, ⟨mb, nsK hb, hbb⟩, let ⟨mc, h1, h2⟩ := hlim; ⟨mc, nsK h1, h2⟩⟩
    have e0 : Env0 P w K mg (hidT s₁.heap H) callerA [] s₁ H := ⟨rfl, hM, fun b o e => of_hidT e, Nat.le_of_eq (hidT_size _ _), trivial, fun b hb => absurd (show b ∈ ([] : List Addr) from hb) (by simp), hok, .of_eq hg⟩
    refine codeAny_mono ((F _ hKb (nsK hns)).run callerA [] s₁ H ⟨[.ref a], []⟩ [.ref a] [.ref a] _ _ hr e0 (hbind s₁ (.ref a)) (.cons rfl .nil) (hsp H hO hS)) fun r s' h => ?_
    cases r with
    | error e => exact (hCX H e s' h).elim
    | ok fl =>
      cases fl with
      | next => exact False.elim h
      | brk => exact False.elim h
      | cont => exact False.elim h
      | ret u =>
        obtain ⟨v, H', os, bare, un, hok', r', q⟩ := h
        have q' : v = .bl true := q
        subst q'
        obtain rfl : u = Value.bool true := r'
        refine ⟨rfl, OldK.of_keep fun b o e => ?_, os, bare⟩
        cases q : H b with
        | none => exact un.keep b o e q (by intro z; exact absurd (show b ∈ ([] : List Addr) from z) (by simp)) (by simp)
        | some u =>
          rcases hO b with z | ⟨ob, xs, z⟩
          · rw [q] at z; cases z
          · have z2 := un.frzs b ob _ z
            obtain ⟨e1, _⟩ := hok b _ z
            obtain ⟨e2, _⟩ := hok' b _ z2
            rw [e] at e1; cases e1
            exact e2
  cases hk : K.lookup a with
  | some o =>
    -- the script is one of the module's own objects
    have e := KX a o hk
    rw [ha] at e
    cases e
    refine core (fun _ => none) (fun _ => .inl rfl) (.inr ⟨_, vs.toArray, _, hk, rfl, rfl, rfl, by rw [List.size_toArray, lenV]; exact hl, by simpa using rv⟩) (fun b u z => by have z' : (none : Option HO) = some u := z; cases z') (fun b z => absurd rfl z) fun z => absurd rfl z
  | none =>
    refine core (fun b => if b = a then some (.frz { cls := .type "list", data := .seq vs.toArray } (.lst (ns.map V.int))) else none) (fun b => ?_) (.inl (.inr ⟨{ cls := .type "list", data := .seq vs.toArray }, if_pos rfl⟩)) (fun b u z => ?_) (fun b z => ?_) fun _ => hk
    · by_cases hb : b = a
      · exact .inr ⟨_, _, if_pos hb⟩
      · exact .inl (if_neg hb)
    · by_cases hb : b = a
      · have z' := (if_pos hb).symm.trans z
        cases z'
        subst hb
        exact ⟨ha, by rw [List.length_map]; exact hl, vs, _, rv, ha⟩
      · have z' := (if_neg hb).symm.trans z
        cases z'
    · by_cases hb : b = a
      · exact hb
      · exact absurd (if_neg hb) z
end L2

namespace L2
open PySem PySem.Spec PyProof.Rows

abbrev KOf {K : PySem.W.Frag} {h : Heap} (_ : K.In h) : PySem.W.Frag := K

/-- the goal that k_head leaves (case hc), from the law's promise. F gives the function object fd (K's own) once, then the promise over every base -/
theorem walk_of {l : PySem.W.OpenLaw} {n k : Nat} {q : Program} {loose : List Str} {XP : (Str → Option Value) → Heap → Prop} {YP : World → Heap → Prop} {d : DefRec} {K : Params → PySem.W.Frag} {CX : World → CXT} {sp : World → Sp} {x : Str}
    (hn : l.most = some n) (hn2 : n ≤ sizeLine) (hdf : d.params.defaults = []) (hr : Room k callerA)
    (hY : ∀ (w : World) (h : Heap), YP w h → (K w.params).In h)
    (F : ∀ (w : World) (mg : Str → Option Value) (fa : Addr) (h : Heap), (K w.params).In h → h.Ns mainGlobals mg → mg d.name = some (.ref fa) →
      ∃ fd : FuncData, (∀ (s : Shared) (u : Value), BindsTo s fd ⟨[u], []⟩ [(x, u)]) ∧
        ∀ base : Heap, (K w.params).In base → base.Ns mainGlobals mg → FnOk l.prog w (K w.params) mg base (CX w) k fa fd [x] (sp w))
    (hsp : ∀ (w : World) (H : Hp) (a : Addr) (ns : List Int), ns.length ≤ n → Only H → SqL (K w.params) H a (ns.map V.int) → sp w [.ref a] H (fun v _ => v = .bl true) fun _ _ _ => False)
    (hCX : ∀ (w : World) (H : Hp) (s : Shared) (e : Value) (s' : Shared), CX w [] H s (fun _ _ _ => False) e s' → False) :
    PySem.W.WalkO q loose XP YP l.row.toRowW d [] (fun f vs => PySem.call f vs) := by
  refine Att.attach_call hn hdf fun w s₀ s₁ mg mb fa o pm cd doc a vs ns G Y ho hd hcd hmg hobj hints hlen hg => ?_
  have KX := hY w _ Y
  obtain ⟨fd, hb, hF⟩ := F w mg fa _ KX G.T.g hmg
  exact law_call KX G.T.g G.T.b G.T.builtins G.T.nolimit hg hobj hints (Nat.le_trans hlen hn2) hr hF hb (fun H hO hS => hsp w H a ns hlen hO hS) fun H e s' => hCX w H s₁ e s'
/-- the same where the promise hangs on the written part alone: (sp := My.sp_law), no hole under a binder -/
theorem walk_ofK {l : PySem.W.OpenLaw} {n k : Nat} {q : Program} {loose : List Str} {XP : (Str → Option Value) → Heap → Prop} {YP : World → Heap → Prop} {d : DefRec} {K : Params → PySem.W.Frag} {CX : CXT} {sp : PySem.W.Frag → Sp} {x : Str}
    (hn : l.most = some n) (hn2 : n ≤ sizeLine) (hdf : d.params.defaults = []) (hr : Room k callerA)
    (hY : ∀ (w : World) (h : Heap), YP w h → (K w.params).In h)
    (F : ∀ (w : World) (mg : Str → Option Value) (fa : Addr) (h : Heap), (K w.params).In h → h.Ns mainGlobals mg → mg d.name = some (.ref fa) →
      ∃ fd : FuncData, (∀ (s : Shared) (u : Value), BindsTo s fd ⟨[u], []⟩ [(x, u)]) ∧
        ∀ base : Heap, (K w.params).In base → base.Ns mainGlobals mg → FnOk l.prog w (K w.params) mg base CX k fa fd [x] (sp (K w.params)))
    (hsp : ∀ (K : PySem.W.Frag) (H : Hp) (a : Addr) (ns : List Int), ns.length ≤ n → Only H → SqL K H a (ns.map V.int) → sp K [.ref a] H (fun v _ => v = .bl true) fun _ _ _ => False)
    (hCX : ∀ (H : Hp) (s : Shared) (e : Value) (s' : Shared), CX [] H s (fun _ _ _ => False) e s' → False) :
    PySem.W.WalkO q loose XP YP l.row.toRowW d [] (fun f vs => PySem.call f vs) :=
  walk_of (K := K) (CX := fun _ => CX) (sp := fun w => sp (K w.params)) hn hn2 hdf hr hY F (fun w H a ns h1 h2 h3 => hsp (K w.params) H a ns h1 h2 h3) fun _ H s e s' => hCX H s e s'
end L2

/- THE LAST THEOREM (shape; LID, My.* are yours):
   My.Adr: a structure of the addresses that your layer names (classes, functions); My.Txt K t: a structure (Prop) of the equations over K;
   My.txt_mk : {K} {implicit addresses ..} (e1 : nsIn K mainGlobals "law" = some (some (.ref f))) (e2 : K.lookup f = some ⟨oc, od, .func (fnOf "law" "law" params body scope dV kV doc pm an cdv ct), sl⟩) (e3 : codeIn K cdv "law" = true) .. : ∃ t, My.Txt K t

set_option maxRecDepth 100000 in
set_option maxHeartbeats 0 in
theorem PySem.Challenge.cw_LID_holds : PySem.Challenge.rw_LID.Holds := by
  w_on; o_law; k_head; (case hw => w_witness2)
  k_fill
  refine L2.walk_of (l := PySem.Challenge.rw_LID) (n := 63) (k := 40) (x := "script") (CX := fun w => ..) (sp := fun _ => My.sp_law) rfl (by decide) rfl ⟨rfl, by decide, by decide⟩ (fun w h Y => PySem.W.kIn_of Y) ?F ?S ?C
  case F =>
    intro w mg fa h KX G hmg
    have T : ∃ t, My.Txt (L2.KOf KX) t := by
      dsimp only [L2.KOf]                          -- K must stand as «<heap const> w.params» for k_is
      refine' My.txt_mk ?e1 ?e2 ?e3 ..
      (case e1 => PySem.W.k_is)                    -- in the order: a name -> its address -> its object -> its parts
      (case e2 => PySem.W.k_is)
      ..
    obtain ⟨t, T⟩ := T
    have e0 := hmg.symm.trans (PySem.W.mg_of KX G T.law)
    cases e0                                       -- fa is the law's own address
    exact ⟨_, fun s u => .of_eq rfl, fun base kb nb => My.law_fn T kb nb⟩     -- if «.of_eq rfl» comes too early: refine' ⟨_, ?b, fun base kb nb => My.law_fn T kb nb⟩; exact fun s u => .of_eq rfl
  case S => exact fun w H a ns hl hO hS => ..
  case C => exact ..
(the tactic k_is has no namespace: write k_is) -/

/-! SHORT WORDS over the layer: a def of the text, its body, what a loop and a test want. -/
namespace L2
open PySem PySem.Spec PyProof.Rows

/-! ### the text by places -/
/-- the j-th statement of a class's body -/
def inClass (s : Stmt) (j : Nat) : Stmt := match s with
  | .ClassDef _ _ _ body _ _ _ _ _ _ _ => body.getD j (.Pass ⟨0, 0, 0, 0⟩)
  | _ => .Pass ⟨0, 0, 0, 0⟩
def defArgs (s : Stmt) : Arguments := match s with
  | .FunctionDef _ a _ _ _ _ _ _ _ _ => a
  | _ => { posonlyargs := [], args := [], vararg := none, kwonlyargs := [], kw_defaults := [], kwarg := none, defaults := [] }
def defBody (s : Stmt) : List Stmt := match s with
  | .FunctionDef _ _ b _ _ _ _ _ _ _ => b
  | _ => []
def defScope (s : Stmt) : Scope := match s with
  | .FunctionDef _ _ _ _ _ _ sc _ _ _ => sc
  | _ => { kind := .function, names := [], isGenerator := false, isCoroutine := false }

/-! ### no exception leaves a def -/
abbrev CX0 : CXT := fun _ _ _ _ _ _ => False
abbrev E0 : XK := fun _ _ _ => False
theorem pass0 {X : Cx} : Passes CX0 X E0 := fun _ _ _ _ _ _ _ h => h.elim

/-! ### a def (or method) of the text as it stands behind the top -/
structure Fun (K : PySem.W.Frag) (x qual : Str) (st : Stmt) (f : Addr) (fd : FuncData) : Prop where
  ex : ∃ (oc : Value) (od : Option Addr) (kV doc pm : Value) (an : Option Addr) (cdv ct : Value) (osl : Array (Option Value)),
    fd = PySem.W.fnOf x qual (defArgs st) (defBody st) (defScope st) .none kV doc pm an cdv ct ∧ K.lookup f = some ⟨oc, od, .func fd, osl⟩ ∧ PySem.W.codeIn K cdv qual = true
  kp : PySem.W.keepIn K (.ref f) = true
section
variable {P : Program} {w : World} {K : PySem.W.Frag} {mg : Str → Option Value} {base : Heap}
/-- THE RULE for a def: its body as a term of rules, and the reading of that term -/
theorem Fun.ok {x qual : Str} {st : Stmt} {f : Addr} {fd : FuncData} {N ps : List Str} {k : Nat} {sp : Sp} (F : Fun K x qual st f fd) (S : FnScope N ps (defScope st)) (len : ∀ vs H Q E, sp vs H Q E → vs.length = ps.length)
    (hbody : ∀ (cdv : Value) (A : Around) (outer : List Env) (s : Shared) (H : Hp) (vs : List V) (Q : VK) (E : XK), Room k (A.deeper (envOfC qual (defScope st) s.heap.objs.size f cdv)) → sp vs H Q E →
      ∃ t, PSs (cxOf CX0 P w K mg base N qual (defScope st) f cdv A outer s H E).nox (defBody st) t ∧ t { nx := fun _ H' => Q .non H', rt := Q } (start N vs) H) : FnOk P w K mg base CX0 (k + 1) f fd ps sp := by
  obtain ⟨oc, od, kV, doc, pm, an, cdv, ct, osl, rfl, lk, hcd⟩ := F.ex
  refine fn_of lk hcd S len fun A outer s H vs Q E hr hsp => ?_
  obtain ⟨t, h, q⟩ := hbody cdv A outer s H vs Q E hr hsp
  exact ⟨t, h.nox, q⟩
/-- how its arguments bind (no defaults): h is «fun _ _ _ _ _ _ us hl => match us, hl with | [_, _], _ => rfl», one _ a parameter -/
theorem Fun.binds {x qual : Str} {st : Stmt} {f : Addr} {fd : FuncData} {ps : List Str} (F : Fun K x qual st f fd)
    (h : ∀ (kV doc pm : Value) (an : Option Addr) (cdv ct : Value) (us : List Value), us.length = ps.length → bindArgs (PySem.W.fnOf x qual (defArgs st) (defBody st) (defScope st) .none kV doc pm an cdv ct) ⟨us, []⟩ = pure (ps.zip us)) : Binds K fd ps [] := by
  obtain ⟨oc, od, kV, doc, pm, an, cdv, ct, osl, rfl, lk, hcd⟩ := F.ex
  exact .all (h kV doc pm an cdv ct)
theorem fun_mk {x qual : Str} {st : Stmt} {f : Addr} {oc : Value} {od an : Option Addr} {osl : Array (Option Value)} {kV doc pm cdv ct : Value} (l : K.lookup f = some ⟨oc, od, .func (PySem.W.fnOf x qual (defArgs st) (defBody st) (defScope st) .none kV doc pm an cdv ct), osl⟩)
    (c : PySem.W.codeIn K cdv qual = true) (k : PySem.W.keepIn K (.ref f) = true) : Fun K x qual st f (PySem.W.fnOf x qual (defArgs st) (defBody st) (defScope st) .none kV doc pm an cdv ct) := ⟨⟨oc, od, kV, doc, pm, an, cdv, ct, osl, rfl, l, c⟩, k⟩
end
theorem hu_of {A : Around} {k : Nat} (hr : Room k A) : A.units + 1 < cLine := Nat.lt_of_le_of_lt (Nat.add_le_add_left (by decide : 1 ≤ 64) _) hr.units
theorem small1000 {n : Nat} (h : n ≤ 1000) : n < sizeLine := Nat.lt_of_le_of_lt h (by decide)

/-! ### expressions in short: the name that stands in the i-th slot -/
section
variable {X : Cx}
theorem pv (i : Nat) {x : Str} {pos : Pos} (hN : X.N[i]? = some x := by rfl) (hv : Vis X.env.scope x := by first | exact Or.inl rfl | exact Or.inr (Or.inl rfl) | exact Or.inr (Or.inr rfl)) (hd : (x == ("__debug__" : Str)) = false := by decide)
    (hcd : (x == ("__classdict__" : Str)) = false := by decide) : PE X (.Name x pos) (tVar i) := pe_var hN hv hd hcd
end

/-! ### tests -/
theorem iteF {A B : Prop} (h : B) : if false = true then A else B := by
  rw [if_neg Bool.false_ne_true]
  exact h
theorem iteT {A B : Prop} (h : A) : if true = true then A else B := by
  rw [if_pos rfl]
  exact h
theorem ite2 {c A B : Prop} [Decidable c] (h1 : c → A) (h2 : ¬ c → B) : if c then A else B := by
  by_cases h : c
  · rw [if_pos h]
    exact h1 h
  · rw [if_neg h]
    exact h2 h
theorem iteNS {c A B : Prop} [Decidable c] (hc : c) (h : B) : if (!decide c) = true then A else B := by
  rw [decide_eq_true hc]
  exact iteF h

/-! ### heaps -/
/-- all that was tracked is as it was -/
def Same (H H' : Hp) : Prop := ∀ b o, H b = some o → H' b = some o
theorem Same.refl (H : Hp) : Same H H := fun _ _ h => h
theorem Same.trans {H H1 H2 : Hp} (a : Same H H1) (b : Same H1 H2) : Same H H2 := fun c o h => b c o (a c o h)
theorem Same.free {H H' : Hp} (e : Same H H') {l : Addr} (h : H' l = Option.none) : H l = Option.none := by
  cases q : H l with
  | none => rfl
  | some o =>
    rw [e l o q] at h
    cases h
theorem Same.seq {K : PySem.W.Frag} {H H' : Hp} {a : Addr} {xs : List V} (e : Same H H') (h : SqL K H a xs) : SqL K H' a xs := by
  rcases h with (h | ⟨o, h⟩) | h
  · exact .inl (.inl (e _ _ h))
  · exact .inl (.inr ⟨o, e _ _ h⟩)
  · exact .inr h

end L2

set_option Elab.async false
set_option linter.all false
set_option maxRecDepth 100000
set_option maxHeartbeats 4000000
/-! DL: data as trees over the hand layer; owned lists in a store. -/
namespace DL
open PySem PySem.Spec L2
open PyProof.Rows

abbrev St := L2.St
/-- a datum -/
inductive D where
  | non | bl (b : Bool) | int (i : Int) | str (x : Str) | tup (ds : List D) | lst (ds : List D) | loc (k : Nat) | dic
abbrev Store := List (List D)
abbrev Gam := List (Option D)
/-- owned addresses (the store's, in order), hidden addresses -/
structure Own where
  A : List Addr
  B : List Addr
abbrev Own.has (O : Own) (a : Addr) : Prop := a ∈ O.A ∨ a ∈ O.B

def Tp (K : PySem.W.Frag) (O : Own) (H : Hp) (a : Addr) (xs : List V) : Prop := (¬ O.has a ∧ Rd H a (.tup xs)) ∨ SqT K (fun _ => none) a xs
def Ls (K : PySem.W.Frag) (O : Own) (H : Hp) (a : Addr) (xs : List V) : Prop := (¬ O.has a ∧ Rd H a (.lst xs)) ∨ SqL K (fun _ => none) a xs
theorem Tp.sq {K : PySem.W.Frag} {O : Own} {H : Hp} {a : Addr} {xs : List V} (h : Tp K O H a xs) : SqT K H a xs := by
  rcases h with ⟨_, h⟩ | (h | h)
  · exact .inl h
  · rcases h with h | ⟨_, h⟩ <;> cases h
  · exact .inr h
theorem Ls.sq {K : PySem.W.Frag} {O : Own} {H : Hp} {a : Addr} {xs : List V} (h : Ls K O H a xs) : SqL K H a xs := by
  rcases h with ⟨_, h⟩ | (h | h)
  · exact .inl h
  · rcases h with h | ⟨_, h⟩ <;> cases h
  · exact .inr h

mutual
inductive Rep (K : PySem.W.Frag) (O : Own) (H : Hp) : V → D → Prop
  | non : Rep K O H .non .non
  | bl (b : Bool) : Rep K O H (.bl b) (.bl b)
  | int (i : Int) : Rep K O H (.int i) (.int i)
  | str (x : Str) : Rep K O H (.str x) (.str x)
  | tup {a : Addr} {xs : List V} {ds : List D} (h : Tp K O H a xs) (r : Reps K O H xs ds) : Rep K O H (.ref a) (.tup ds)
  | lst {a : Addr} {xs : List V} {ds : List D} (h : Ls K O H a xs) (r : Reps K O H xs ds) : Rep K O H (.ref a) (.lst ds)
  | loc {a : Addr} {k : Nat} (h : O.A[k]? = some a) : Rep K O H (.ref a) (.loc k)
  | dic {a : Addr} (h : ¬ O.has a) (e : H a = some (.dK [])) : Rep K O H (.ref a) .dic
inductive Reps (K : PySem.W.Frag) (O : Own) (H : Hp) : List V → List D → Prop
  | nil : Reps K O H [] []
  | cons {v : V} {d : D} {vs : List V} {ds : List D} (r : Rep K O H v d) (t : Reps K O H vs ds) : Reps K O H (v :: vs) (d :: ds)
end

/-- what a piece of code does to the tracked heap -/
structure Step (O O' : Own) (H H' : Hp) : Prop where
  kept : ∀ b o, b ∉ O.A → H b = some o → H' b = some o
  dom : ∀ b, H b ≠ none → H' b ≠ none
  ext : ∃ N, O'.A = O.A ++ N ∧ ∀ b ∈ N, H b = none
  hid : O'.B = O.B
theorem Step.refl (O : Own) (H : Hp) : Step O O H H := ⟨fun _ _ _ h => h, fun _ h => h, ⟨[], by simp, fun _ h => nomatch h⟩, rfl⟩
theorem Step.trans {O O1 O2 : Own} {H H1 H2 : Hp} (a : Step O O1 H H1) (b : Step O1 O2 H1 H2) : Step O O2 H H2 := by
  obtain ⟨N1, e1, f1⟩ := a.ext
  obtain ⟨N2, e2, f2⟩ := b.ext
  refine ⟨fun c o hc h => b.kept c o (fun z => ?_) (a.kept c o hc h), fun c h => b.dom c (a.dom c h), ⟨N1 ++ N2, by rw [e2, e1, List.append_assoc], fun c hc => ?_⟩, b.hid.trans a.hid⟩
  · rw [e1] at z
    rcases List.mem_append.mp z with z | z
    · exact hc z
    · rw [f1 c z] at h; cases h
  · rcases List.mem_append.mp hc with z | z
    · exact f1 c z
    · cases q : H c with
      | none => rfl
      | some o => exact absurd (f2 c z) (a.dom c (by rw [q]; simp))
theorem Step.nothas {O O' : Own} {H H' : Hp} (s : Step O O' H H') {a : Addr} (h : ¬ O.has a) (t : H a ≠ none) : ¬ O'.has a := by
  obtain ⟨N, e, f⟩ := s.ext
  rintro (z | z)
  · rw [e] at z
    rcases List.mem_append.mp z with z | z
    · exact h (.inl z)
    · exact t (f a z)
  · rw [s.hid] at z; exact h (.inr z)
/-- what is described over O, H is so over O', H' -/
structure Conv (O O' : Own) (H H' : Hp) : Prop where
  tr : ∀ a u, ¬ O.has a → H a = some u → ¬ O'.has a ∧ H' a = some u
  lc : ∀ (k : Nat) a, O.A[k]? = some a → O'.A[k]? = some a
theorem Step.conv {O O' : Own} {H H' : Hp} (s : Step O O' H H') : Conv O O' H H' :=
  ⟨fun a u h t => ⟨s.nothas h (by rw [t]; simp), s.kept a u (fun z => h (.inl z)) t⟩, fun k a h => by
    obtain ⟨N, e, _⟩ := s.ext
    rw [e, List.getElem?_append_left (List.getElem?_eq_some_iff.mp h).1]; exact h⟩
theorem Conv.trans {O O1 O2 : Own} {H H1 H2 : Hp} (a : Conv O O1 H H1) (b : Conv O1 O2 H1 H2) : Conv O O2 H H2 :=
  ⟨fun c u h t => b.tr c u (a.tr c u h t).1 (a.tr c u h t).2, fun k c h => b.lc k c (a.lc k c h)⟩
theorem Rd.conv {O O' : Own} {H H' : Hp} (s : Conv O O' H H') {a : Addr} {u : HO} (h : ¬ O.has a) (r : Rd H a u) : ¬ O'.has a ∧ Rd H' a u := by
  rcases r with r | ⟨o, r⟩
  · obtain ⟨x, y⟩ := s.tr a _ h r
    exact ⟨x, .inl y⟩
  · obtain ⟨x, y⟩ := s.tr a _ h r
    exact ⟨x, .inr ⟨o, y⟩⟩
theorem Tp.conv {K : PySem.W.Frag} {O O' : Own} {H H' : Hp} {a : Addr} {xs : List V} (h : Tp K O H a xs) (s : Conv O O' H H') : Tp K O' H' a xs := by
  rcases h with ⟨n, r⟩ | h
  · exact .inl (Rd.conv s n r)
  · exact .inr h
theorem Ls.conv {K : PySem.W.Frag} {O O' : Own} {H H' : Hp} {a : Addr} {xs : List V} (h : Ls K O H a xs) (s : Conv O O' H H') : Ls K O' H' a xs := by
  rcases h with ⟨n, r⟩ | h
  · exact .inl (Rd.conv s n r)
  · exact .inr h
mutual
theorem Rep.conv {K : PySem.W.Frag} {O O' : Own} {H H' : Hp} (s : Conv O O' H H') : ∀ {v : V} {d : D}, Rep K O H v d → Rep K O' H' v d
  | _, _, .non => .non
  | _, _, .bl b => .bl b
  | _, _, .int i => .int i
  | _, _, .str x => .str x
  | _, _, .tup h r => .tup (h.conv s) (Reps.conv s r)
  | _, _, .lst h r => .lst (h.conv s) (Reps.conv s r)
  | _, _, .loc h => .loc (s.lc _ _ h)
  | _, _, .dic h e => .dic (s.tr _ _ h e).1 (s.tr _ _ h e).2
theorem Reps.conv {K : PySem.W.Frag} {O O' : Own} {H H' : Hp} (s : Conv O O' H H') : ∀ {vs : List V} {ds : List D}, Reps K O H vs ds → Reps K O' H' vs ds
  | _, _, .nil => .nil
  | _, _, .cons r t => .cons (Rep.conv s r) (Reps.conv s t)
end
theorem Rep.mono {K : PySem.W.Frag} {O O' : Own} {H H' : Hp} {v : V} {d : D} (h : Rep K O H v d) (s : Step O O' H H') : Rep K O' H' v d := h.conv s.conv
theorem Reps.mono {K : PySem.W.Frag} {O O' : Own} {H H' : Hp} {v : List V} {d : List D} (h : Reps K O H v d) (s : Step O O' H H') : Reps K O' H' v d := h.conv s.conv
theorem Tp.mono {K : PySem.W.Frag} {O O' : Own} {H H' : Hp} {a : Addr} {xs : List V} (h : Tp K O H a xs) (s : Step O O' H H') : Tp K O' H' a xs := h.conv s.conv
theorem Ls.mono {K : PySem.W.Frag} {O O' : Own} {H H' : Hp} {a : Addr} {xs : List V} (h : Ls K O H a xs) (s : Step O O' H H') : Ls K O' H' a xs := h.conv s.conv
/-- a new hidden object; forgetting that it is hidden; a hidden object is written -/
abbrev Own.hide (O : Own) (p : Addr) : Own := ⟨O.A, p :: O.B⟩
theorem Conv.hide {O : Own} {H : Hp} {p : Addr} (h : H p = none) (o : HO) : Conv O (O.hide p) H (upd H p o) :=
  ⟨fun a u n t => by
    have ne : a ≠ p := ne_of_none t h
    refine ⟨fun z => ?_, by rw [upd_ne ne]; exact t⟩
    rcases z with z | z
    · exact n (.inl z)
    · rcases List.mem_cons.mp z with z | z
      · exact ne z
      · exact n (.inr z), fun _ _ h => h⟩
theorem Conv.unhide {A B : List Addr} {H : Hp} {p : Addr} : Conv ⟨A, p :: B⟩ ⟨A, B⟩ H H :=
  ⟨fun a u n t => ⟨fun z => n (z.elim .inl fun z => .inr (List.mem_cons_of_mem _ z)), t⟩, fun _ _ h => h⟩
theorem Conv.updHid {O : Own} {H : Hp} {p : Addr} (h : p ∈ O.B) (o : HO) : Conv O O H (upd H p o) :=
  ⟨fun a u n t => ⟨n, by rw [upd_ne (fun e => n (.inr (by rw [e]; exact h)))]; exact t⟩, fun _ _ h => h⟩
theorem Reps.length {K : PySem.W.Frag} {O : Own} {H : Hp} : ∀ {vs : List V} {ds : List D}, Reps K O H vs ds → vs.length = ds.length
  | _, _, .nil => rfl
  | _, _, .cons _ t => by simp [Reps.length t]
theorem Reps.get {K : PySem.W.Frag} {O : Own} {H : Hp} : ∀ {vs : List V} {ds : List D} {i : Nat} {d : D}, Reps K O H vs ds → ds[i]? = some d → ∃ v, vs[i]? = some v ∧ Rep K O H v d
  | _, _, _, _, .nil, e => by simp at e
  | _, _, 0, _, .cons r _, e => by simp at e; subst e; exact ⟨_, rfl, r⟩
  | _, _, i + 1, d, .cons _ t, e => by
    obtain ⟨v, h1, h2⟩ := Reps.get (i := i) (d := d) t (by simpa using e)
    exact ⟨v, by simpa using h1, h2⟩
theorem Reps.get' {K : PySem.W.Frag} {O : Own} {H : Hp} : ∀ {vs : List V} {ds : List D} {i : Nat} {v : V}, Reps K O H vs ds → vs[i]? = some v → ∃ d, ds[i]? = some d ∧ Rep K O H v d
  | _, _, _, _, .nil, e => by simp at e
  | _, _, 0, _, .cons r _, e => by simp at e; subst e; exact ⟨_, rfl, r⟩
  | _, _, i + 1, d, .cons _ t, e => by
    obtain ⟨v, h1, h2⟩ := Reps.get' (i := i) t (by simpa using e)
    exact ⟨v, by simpa using h1, h2⟩
theorem Reps.append {K : PySem.W.Frag} {O : Own} {H : Hp} : ∀ {vs ws : List V} {ds es : List D}, Reps K O H vs ds → Reps K O H ws es → Reps K O H (vs ++ ws) (ds ++ es)
  | _, _, _, _, .nil, s => s
  | _, _, _, _, .cons r t, s => .cons r (Reps.append t s)
theorem Reps.take {K : PySem.W.Frag} {O : Own} {H : Hp} : ∀ {vs : List V} {ds : List D} (n : Nat), Reps K O H vs ds → Reps K O H (vs.take n) (ds.take n)
  | _, _, 0, _ => .nil
  | _, _, _ + 1, .nil => .nil
  | _, _, n + 1, .cons r t => .cons r (Reps.take n t)
theorem Reps.drop {K : PySem.W.Frag} {O : Own} {H : Hp} : ∀ {vs : List V} {ds : List D} (n : Nat), Reps K O H vs ds → Reps K O H (vs.drop n) (ds.drop n)
  | _, _, 0, r => r
  | _, _, _ + 1, .nil => .nil
  | _, _, n + 1, .cons _ t => Reps.drop n t
theorem Reps.set {K : PySem.W.Frag} {O : Own} {H : Hp} {v : V} {d : D} (r : Rep K O H v d) : ∀ {vs : List V} {ds : List D} (i : Nat), Reps K O H vs ds → Reps K O H (vs.set i v) (ds.set i d)
  | _, _, _, .nil => .nil
  | _, _, 0, .cons _ t => .cons r t
  | _, _, i + 1, .cons q t => .cons q (Reps.set r i t)
theorem Reps.ints {K : PySem.W.Frag} {O : Own} {H : Hp} : ∀ {vs : List V} {ns : List Int}, Reps K O H vs (ns.map D.int) → vs = ns.map V.int
  | _, [], .nil => rfl
  | _, _ :: _, .cons r t => by cases r; simp [Reps.ints t]
theorem Reps.of_ints {K : PySem.W.Frag} {O : Own} {H : Hp} : ∀ ns : List Int, Reps K O H (ns.map V.int) (ns.map D.int)
  | [] => .nil
  | n :: ns => .cons (.int n) (Reps.of_ints ns)
theorem Reps.bools {K : PySem.W.Frag} {O : Own} {H : Hp} : ∀ {vs : List V} {ns : List Bool}, Reps K O H vs (ns.map D.bl) → vs = ns.map V.bl
  | _, [], .nil => rfl
  | _, _ :: _, .cons r t => by cases r; simp [Reps.bools t]

/-- the store is held -/
structure StOk (K : PySem.W.Frag) (O : Own) (H : Hp) (S : Store) : Prop where
  nd : O.A.Nodup
  len : O.A.length = S.length
  obj : ∀ (k : Nat) (a : Addr) (ds : List D), O.A[k]? = some a → S[k]? = some ds → ∃ xs, H a = some (.lst xs) ∧ Reps K O H xs ds
  apart : ∀ a ∈ O.A, a ∉ O.B
  hidden : ∀ b ∈ O.B, H b ≠ none
structure EnvOk (K : PySem.W.Frag) (O : Own) (H : Hp) (σ : St) (Γ : Gam) : Prop where
  len : σ.length = Γ.length
  at_ : ∀ (i : Nat) (d : D), Γ[i]? = some (some d) → ∃ v, σ[i]? = some (some v) ∧ Rep K O H v d
theorem EnvOk.mono {K : PySem.W.Frag} {O O' : Own} {H H' : Hp} {σ : St} {Γ : Gam} (e : EnvOk K O H σ Γ) (s : Step O O' H H') : EnvOk K O' H' σ Γ :=
  ⟨e.len, fun i d h => let ⟨v, a, b⟩ := e.at_ i d h; ⟨v, a, b.mono s⟩⟩
theorem EnvOk.set {K : PySem.W.Frag} {O : Own} {H : Hp} {σ : St} {Γ : Gam} (e : EnvOk K O H σ Γ) {v : V} {d : D} (r : Rep K O H v d) (i : Nat) : EnvOk K O H (σ.set i (some v)) (Γ.set i (some d)) := by
  refine ⟨by simp [e.len], fun j c h => ?_⟩
  by_cases hj : i = j
  · subst hj
    have hl : i < Γ.length := by
      have := (List.getElem?_eq_some_iff.mp h).1
      simpa using this
    rw [List.getElem?_set_self hl] at h
    cases h
    exact ⟨v, List.getElem?_set_self (by rw [e.len]; exact hl), r⟩
  · rw [List.getElem?_set_ne hj] at h
    rw [List.getElem?_set_ne hj]
    exact e.at_ j c h
theorem StOk.tracked {K : PySem.W.Frag} {O : Own} {H : Hp} {S : Store} (s : StOk K O H S) {a : Addr} (h : O.has a) : H a ≠ none := by
  rcases h with h | h
  · obtain ⟨k, hk, e⟩ := List.mem_iff_getElem.mp h
    have hl : k < S.length := by rw [← s.len]; exact hk
    obtain ⟨xs, q, _⟩ := s.obj k a S[k] (by rw [List.getElem?_eq_getElem hk, e]) (List.getElem?_eq_getElem hl)
    rw [q]; simp
  · exact s.hidden a h
/-- a fresh object, not owned -/
theorem Step.fresh {O : Own} {H : Hp} {p : Addr} (h : H p = none) (o : HO) : Step O O H (upd H p o) :=
  ⟨fun b u _ q => by rw [upd_ne (ne_of_none q h)]; exact q, fun b q => by
    by_cases e : b = p
    · subst e; rw [upd_same]; simp
    · rw [upd_ne e]; exact q, ⟨[], by simp, fun _ z => nomatch z⟩, rfl⟩
theorem Step.same {O : Own} {H H' : Hp} (h : Same H H') : Step O O H H' :=
  ⟨fun b o _ q => h b o q, fun b q => by
    cases e : H b with
    | none => exact absurd e q
    | some o => rw [h b o e]; simp, ⟨[], by simp, fun _ z => nomatch z⟩, rfl⟩
theorem Same.fresh {H : Hp} {p : Addr} (h : H p = none) (o : HO) : Same H (upd H p o) := fun b u q => by rw [upd_ne (ne_of_none q h)]; exact q
theorem StOk.same {K : PySem.W.Frag} {O : Own} {H H' : Hp} {S : Store} (s : StOk K O H S) (h : Same H H') : StOk K O H' S :=
  ⟨s.nd, s.len, fun k a ds e1 e2 => let ⟨xs, q, r⟩ := s.obj k a ds e1 e2; ⟨xs, h _ _ q, r.mono (Step.same h)⟩, s.apart, fun b hb => (Step.same (O := O) h).dom b (s.hidden b hb)⟩
theorem StOk.fresh_not {K : PySem.W.Frag} {O : Own} {H : Hp} {S : Store} (s : StOk K O H S) {p : Addr} (h : H p = none) : ¬ O.has p := fun z => s.tracked z h
theorem StOk.fresh {K : PySem.W.Frag} {O : Own} {H : Hp} {S : Store} (s : StOk K O H S) {p : Addr} (h : H p = none) (o : HO) : StOk K O (upd H p o) S := s.same (Same.fresh h o)
/-- a new owned list -/
abbrev Own.more (O : Own) (p : Addr) : Own := ⟨O.A ++ [p], O.B⟩
theorem Step.own {O : Own} {H : Hp} {p : Addr} (h : H p = none) (o : HO) : Step O (O.more p) H (upd H p o) :=
  ⟨(Step.fresh (O := O) h o).kept, (Step.fresh (O := O) h o).dom, ⟨[p], rfl, fun b z => by rw [List.mem_singleton.mp z]; exact h⟩, rfl⟩
theorem StOk.own {K : PySem.W.Frag} {O : Own} {H : Hp} {S : Store} (s : StOk K O H S) {p : Addr} (h : H p = none) {xs : List V} {ds : List D} (r : Reps K O H xs ds) :
    StOk K (O.more p) (upd H p (.lst xs)) (S ++ [ds]) := by
  have st := Step.own (O := O) h (.lst xs)
  have np := s.fresh_not h
  refine ⟨List.nodup_append.mpr ⟨s.nd, by simp, fun a ha b hb e => ?_⟩, by simp [s.len], fun k a es e1 e2 => ?_, fun a ha => ?_, fun b hb => st.dom b (s.hidden b hb)⟩
  · rw [List.mem_singleton.mp hb] at e; rw [e] at ha; exact np (.inl ha)
  · by_cases hk : k < O.A.length
    · rw [List.getElem?_append_left hk] at e1
      rw [List.getElem?_append_left (by rw [← s.len]; exact hk)] at e2
      obtain ⟨ys, q, r'⟩ := s.obj k a es e1 e2
      exact ⟨ys, by rw [upd_ne (ne_of_none q h)]; exact q, r'.mono st⟩
    · rw [List.getElem?_append_right (by omega)] at e1
      rw [List.getElem?_append_right (by rw [← s.len]; omega)] at e2
      have hk0 : k - O.A.length = 0 := by
        have := (List.getElem?_eq_some_iff.mp e1).1
        simp at this; omega
      rw [hk0] at e1
      rw [← s.len, hk0] at e2
      simp at e1 e2
      subst e1; subst e2
      exact ⟨xs, upd_same, r.mono st⟩
  · rcases List.mem_append.mp ha with z | z
    · exact s.apart a z
    · rw [List.mem_singleton.mp z]; exact fun q => np (.inr q)
/-- an owned list is written -/
theorem Step.put {O : Own} {H : Hp} {a : Addr} (h : a ∈ O.A) (o : HO) : Step O O H (upd H a o) :=
  ⟨fun b u hb q => by rw [upd_ne (fun e => hb (by rw [e]; exact h))]; exact q, fun b q => by
    by_cases e : b = a
    · subst e; rw [upd_same]; simp
    · rw [upd_ne e]; exact q, ⟨[], by simp, fun _ z => nomatch z⟩, rfl⟩
theorem StOk.put {K : PySem.W.Frag} {O : Own} {H : Hp} {S : Store} (s : StOk K O H S) {k : Nat} {a : Addr} (h : O.A[k]? = some a) {xs : List V} {ds : List D} (r : Reps K O H xs ds) :
    StOk K O (upd H a (.lst xs)) (S.set k ds) := by
  have st := Step.put (O := O) (H := H) (List.mem_of_getElem? h) (.lst xs)
  refine ⟨s.nd, by simp [s.len], fun j b es e1 e2 => ?_, s.apart, fun b hb => st.dom b (s.hidden b hb)⟩
  by_cases hj : k = j
  · subst hj
    rw [h] at e1; cases e1
    have hl := (List.getElem?_eq_some_iff.mp e2).1
    rw [List.getElem?_set_self (by simpa using hl)] at e2
    cases e2
    exact ⟨xs, upd_same, r.mono st⟩
  · rw [List.getElem?_set_ne hj] at e2
    obtain ⟨ys, q, r'⟩ := s.obj j b es e1 e2
    have ne : b ≠ a := fun e => hj (by
      obtain ⟨h1, e1'⟩ := List.getElem?_eq_some_iff.mp h
      obtain ⟨h2, e2'⟩ := List.getElem?_eq_some_iff.mp e1
      exact (List.getElem_inj s.nd).mp (e1'.trans (e.symm.trans e2'.symm)))
    exact ⟨ys, by rw [upd_ne ne]; exact q, r'.mono st⟩
theorem StOk.hide {K : PySem.W.Frag} {O : Own} {H : Hp} {S : Store} (s : StOk K O H S) {p : Addr} (h : H p = none) (o : HO) : StOk K (O.hide p) (upd H p o) S := by
  have st := Step.fresh (O := O) h o
  refine ⟨s.nd, s.len, fun k a ds e1 e2 => ?_, fun a ha z => ?_, fun b hb => ?_⟩
  · obtain ⟨xs, q, r⟩ := s.obj k a ds e1 e2
    exact ⟨xs, by rw [upd_ne (ne_of_none q h)]; exact q, r.conv (Conv.hide h o)⟩
  · rcases List.mem_cons.mp z with z | z
    · exact s.tracked (.inl ha) (z ▸ h)
    · exact s.apart a ha z
  · rcases List.mem_cons.mp hb with z | z
    · subst z; rw [upd_same]; simp
    · exact st.dom b (s.hidden b z)
theorem StOk.unhide {K : PySem.W.Frag} {A B : List Addr} {H : Hp} {S : Store} {p : Addr} (s : StOk K ⟨A, p :: B⟩ H S) : StOk K ⟨A, B⟩ H S :=
  ⟨s.nd, s.len, fun k a ds e1 e2 => let ⟨xs, q, r⟩ := s.obj k a ds e1 e2; ⟨xs, q, r.conv Conv.unhide⟩, fun a ha z => s.apart a ha (List.mem_cons_of_mem _ z), fun b hb => s.hidden b (List.mem_cons_of_mem _ hb)⟩
theorem StOk.updHid {K : PySem.W.Frag} {O : Own} {H : Hp} {S : Store} (s : StOk K O H S) {p : Addr} (h : p ∈ O.B) (o : HO) : StOk K O (upd H p o) S :=
  ⟨s.nd, s.len, fun k a ds e1 e2 => by
    obtain ⟨xs, q, r⟩ := s.obj k a ds e1 e2
    have ne : a ≠ p := fun e => s.apart a (List.mem_of_getElem? e1) (e ▸ h)
    exact ⟨xs, by rw [upd_ne ne]; exact q, r.conv (Conv.updHid h o)⟩, s.apart, fun b hb => by
    by_cases e : b = p
    · subst e; rw [upd_same]; simp
    · rw [upd_ne e]; exact s.hidden b hb⟩
/-- seen from outside the hidden object -/
theorem Step.inner {O : Own} {A1 A2 B : List Addr} {H H1 H2 : Hp} {p : Addr} (a : Step O ⟨A1, B⟩ H H1) (b : Step ⟨A1, p :: B⟩ ⟨A2, p :: B⟩ H1 H2) (h : H p = none) (o : HO) : Step O ⟨A2, B⟩ H (upd H2 p o) := by
  have b' : Step ⟨A1, B⟩ ⟨A2, B⟩ H1 H2 := ⟨b.kept, b.dom, b.ext, rfl⟩
  have c := a.trans b'
  refine ⟨fun x u hx t => ?_, fun x t => ?_, c.ext, c.hid⟩
  · rw [upd_ne (ne_of_none t h)]; exact c.kept x u hx t
  · by_cases e : x = p
    · subst e; rw [upd_same]; simp
    · rw [upd_ne e]; exact c.dom x t
end DL

set_option Elab.async false
set_option linter.all false
set_option maxRecDepth 100000
set_option maxHeartbeats 4000000
namespace DL
open PySem PySem.Spec L2
open PyProof.Rows

abbrev Pins := List (Addr × Obj)
abbrev WD := D → Store → Prop
def QG (K : PySem.W.Frag) (O : Own) (H : Hp) (W : WD) : VK := fun v H' => ∃ O' d S', W d S' ∧ Step O O' H H' ∧ StOk K O' H' S' ∧ Rep K O' H' v d
def QA (K : PySem.W.Frag) (O : Own) (H : Hp) (W : List D → Store → Prop) : List V → Hp → Prop := fun vs H' => ∃ O' ds S', W ds S' ∧ Step O O' H H' ∧ StOk K O' H' S' ∧ Reps K O' H' vs ds
def QT (K : PySem.W.Frag) (O : Own) (H : Hp) (W : Bool → Store → Prop) : Bool → Hp → Prop := fun b H' => ∃ O' S', W b S' ∧ Step O O' H H' ∧ StOk K O' H' S'
/-- e comes to a datum in W -/
def Ev (X : Cx) (Γ : Gam) (S : Store) (e : Expr) (W : WD) : Prop :=
  ∀ (pins : Pins) (s : Shared) (σ : St) (H : Hp) (O : Own), Inv X pins σ H s → EnvOk X.K O H σ Γ → StOk X.K O H S →
    wpAny (model X.prog X.w) X.A (eval e X.env) (EP X pins σ (QG X.K O H W)) X.xe s
def EvA (X : Cx) (Γ : Gam) (S : Store) (es : List Expr) (W : List D → Store → Prop) : Prop :=
  ∀ (pos : Pos) (pins : Pins) (s : Shared) (σ : St) (H : Hp) (O : Own), Inv X pins σ H s → EnvOk X.K O H σ Γ → StOk X.K O H S →
    wpAny (model X.prog X.w) X.A (spliced (backTo pos (starEach es X.env))) (AP X pins σ (QA X.K O H W)) X.xe s
def TsW (X : Cx) (Γ : Gam) (S : Store) (e : Expr) (W : Bool → Store → Prop) : Prop :=
  ∀ (whole : Sem Value) (pins : Pins) (s : Shared) (σ : St) (H : Hp) (O : Own), Inv X pins σ H s → EnvOk X.K O H σ Γ → StOk X.K O H S →
    wpAny (model X.prog X.w) X.A (isTrue e X.env whole) (TP X pins σ (QT X.K O H W)) X.xe s
def Ts (X : Cx) (Γ : Gam) (S : Store) (e : Expr) (W : Bool → Store → Prop) : Prop :=
  ∀ (pins : Pins) (s : Shared) (σ : St) (H : Hp) (O : Own), Inv X pins σ H s → EnvOk X.K O H σ Γ → StOk X.K O H S →
    wpAny (model X.prog X.w) X.A (isTrue e X.env (eval e X.env)) (TP X pins σ (QT X.K O H W)) X.xe s
/-- an operation on two data -/
def OpW (X : Cx) (f : Value → Value → Sem Value) (x y : D) (S : Store) (W : WD) : Prop :=
  ∀ (pins : Pins) (s : Shared) (σ : St) (H : Hp) (O : Own) (v w : V) (u u' : Value), Inv X pins σ H s → StOk X.K O H S → Rep X.K O H v x → Rep X.K O H w y → RelV v u → RelV w u' →
    wpAny (model X.prog X.w) X.A (f u u') (EP X pins σ (QG X.K O H W)) X.xe s
def CalW (X : Cx) (f : Value) (ds : List D) (S : Store) (W : WD) : Prop :=
  ∀ (pins : Pins) (s : Shared) (σ : St) (H : Hp) (O : Own) (vs : List V) (us : List Value), Inv X pins σ H s → StOk X.K O H S → Reps X.K O H vs ds → Vals vs us →
    wpAny (model X.prog X.w) X.A (call f us) (EP X pins σ (QG X.K O H W)) X.xe s
abbrev BinW (X : Cx) (op : Operator) := OpW X (binaryOp op)
abbrev CmpW (X : Cx) (op : CmpOp) := OpW X (compareOp op)

section
variable {X : Cx} {Γ : Gam} {S S1 : Store} {W : WD} {a b e : Expr} {es rest : List Expr} {pos : Pos}

theorem QG.pre {K : PySem.W.Frag} {O O1 : Own} {H H1 : Hp} (st : Step O O1 H H1) {v : V} {H' : Hp} (q : QG K O1 H1 W v H') : QG K O H W v H' := by
  obtain ⟨O', d, S', w, s', ok, r⟩ := q
  exact ⟨O', d, S', w, st.trans s', ok, r⟩
theorem EPpre {pins : Pins} {σ : St} {O O1 : Own} {H H1 : Hp} (st : Step O O1 H H1) {u : Value} {s' : Shared} (q : EP X pins σ (QG X.K O1 H1 W) u s') : EP X pins σ (QG X.K O H W) u s' := by
  obtain ⟨v, H', I, r, q⟩ := q
  exact ⟨v, H', I, r, q.pre st⟩
theorem TPpre {pins : Pins} {σ : St} {O O1 : Own} {H H1 : Hp} (st : Step O O1 H H1) {W : Bool → Store → Prop} {u : Bool} {s' : Shared} (q : TP X pins σ (QT X.K O1 H1 W) u s') : TP X pins σ (QT X.K O H W) u s' := by
  obtain ⟨H', I, O', S', w, s2, ok⟩ := q
  exact ⟨H', I, O', S', w, st.trans s2, ok⟩
theorem Ev.mono {W' : WD} (h : Ev X Γ S e W) (k : ∀ d S', W d S' → W' d S') : Ev X Γ S e W' := fun pins s σ H O I env st =>
  thn (h pins s σ H O I env st) fun _ _ ⟨v, H', I', r, O', d, S', w, q⟩ => ⟨v, H', I', r, O', d, S', k d S' w, q⟩
theorem OpW.mono {f : Value → Value → Sem Value} {x y : D} {W' : WD} (h : OpW X f x y S W) (k : ∀ d S', W d S' → W' d S') : OpW X f x y S W' := fun pins s σ H O v w u u' I st r1 r2 r3 r4 =>
  thn (h pins s σ H O v w u u' I st r1 r2 r3 r4) fun _ _ ⟨v, H', I', r, O', d, S', w, q⟩ => ⟨v, H', I', r, O', d, S', k d S' w, q⟩
theorem opW_of {f : Value → Value → Sem Value} {r : R2} {x y : D} (ho : OpR X f r) (h : ∀ O H v w, StOk X.K O H S → Rep X.K O H v x → Rep X.K O H w y → r v w H (QG X.K O H W)) : OpW X f x y S W :=
  fun pins s σ H O v w u u' I st r1 r2 r3 r4 => ho pins s σ H v w u u' _ I r3 r4 (h O H v w st r1 r2)
theorem calW_of {f : Value} {r : List V → Hp → VK → Prop} {ds : List D} (hc : CallR X f r) (h : ∀ O H vs, StOk X.K O H S → Reps X.K O H vs ds → r vs H (QG X.K O H W)) : CalW X f ds S W :=
  fun pins s σ H O vs us I st r1 r2 => hc pins s σ H vs us _ I r2 (h O H vs st r1)
theorem QG.here {K : PySem.W.Frag} {O : Own} {H : Hp} {v : V} {d : D} (w : W d S) (st : StOk K O H S) (r : Rep K O H v d) : QG K O H W v H := ⟨O, d, S, w, Step.refl O H, st, r⟩

/-! names, constants -/
theorem ev_var (i : Nat) {x : Str} {d : D} (hΓ : Γ[i]? = some (some d)) (w : W d S) (hN : X.N[i]? = some x := by rfl)
    (hv : Vis X.env.scope x := by first | exact Or.inl rfl | exact Or.inr (Or.inl rfl) | exact Or.inr (Or.inr rfl)) (hd : (x == ("__debug__" : Str)) = false := by decide) (hcd : (x == ("__classdict__" : Str)) = false := by decide) :
    Ev X Γ S (.Name x pos) W := by
  intro pins s σ H O I env st
  obtain ⟨v, e, r⟩ := env.at_ i d hΓ
  exact pe_var hN hv hd hcd pins s σ H _ I ⟨v, e, QG.here w st r⟩
theorem ev_int {i : Int} {j} (w : W (.int i) S) : Ev X Γ S (.Constant (.int i) j pos) W := fun pins s σ H O I _ st => pe_int pins s σ H _ I (QG.here w st (.int i))
theorem ev_bl {i : Bool} {j} (w : W (.bl i) S) : Ev X Γ S (.Constant (.bool i) j pos) W := fun pins s σ H O I _ st => pe_bl pins s σ H _ I (QG.here w st (.bl i))
theorem ev_non {j} (w : W .non S) : Ev X Γ S (.Constant .none j pos) W := fun pins s σ H O I _ st => pe_non pins s σ H _ I (QG.here w st .non)
theorem ev_str {x : Str} {j} (w : W (.str x) S) : Ev X Γ S (.Constant (.str x) j pos) W := fun pins s σ H O I _ st => pe_str pins s σ H _ I (QG.here w st (.str x))
theorem ev_globI {x : Str} {i : Int} {t : Tok} (hm : X.mg x = some (.int i t)) (w : W (.int i) S) (hg : Gl X x := by rfl) (hd : (x == ("__debug__" : Str)) = false := by decide) : Ev X Γ S (.Name x pos) W :=
  fun pins s σ H O I _ st => pe_glob hg hm (v := .int i) ⟨t, rfl⟩ hd pins s σ H _ I (QG.here w st (.int i))

/-! operators -/
theorem ev_bin {op : Operator} (h : Ev X Γ S a fun x S1 => Ev X Γ S1 b fun y S2 => BinW X op x y S2 W) : Ev X Γ S (.BinOp a op b pos) W := by
  intro pins s σ H O I env st
  refine wpAny_BinOp (thn (h pins s σ H O I env st) fun u s1 ⟨v, H1, I1, r1, O1, x, S1, hb, st1, ok1, rep1⟩ => ?_)
  refine thn (hb pins s1 σ H1 O1 I1 (env.mono st1) ok1) fun u' s2 ⟨w, H2, I2, r2, O2, y, S2, hw, st2, ok2, rep2⟩ => ?_
  exact thn (hw pins s2 σ H2 O2 v w u u' I2 ok2 (rep1.mono st2) rep2 r1 r2) fun _ _ q => EPpre (st1.trans st2) q
theorem ev_cmp {op : CmpOp} (h : Ev X Γ S a fun x S1 => Ev X Γ S1 b fun y S2 => CmpW X op x y S2 W) (hm : behindInMarks op b = false := by first | exact nomark _ | (with_unfolding_all rfl)) : Ev X Γ S (.Compare a [op] [b] pos) W := by
  intro pins s σ H O I env st
  refine wpAny_Compare1 (thn (h pins s σ H O I env st) fun u s1 ⟨v, H1, I1, r1, O1, x, S1, hb, st1, ok1, rep1⟩ => ?_) hm
  refine thn (hb pins s1 σ H1 O1 I1 (env.mono st1) ok1) fun u' s2 ⟨w, H2, I2, r2, O2, y, S2, hw, st2, ok2, rep2⟩ => ?_
  exact thn (hw pins s2 σ H2 O2 v w u u' I2 ok2 (rep1.mono st2) rep2 r1 r2) fun _ _ q => EPpre (st1.trans st2) q
/-- a datum as a truth -/
abbrev asB (W : Bool → Store → Prop) : WD := fun d S => ∃ c, d = .bl c ∧ W c S
theorem ts_cmp {op : CmpOp} {W : Bool → Store → Prop} (h : Ev X Γ S a fun x S1 => Ev X Γ S1 b fun y S2 => CmpW X op x y S2 (asB W)) (hm : behindInMarks op b = false := by first | exact nomark _ | (with_unfolding_all rfl)) : Ts X Γ S (.Compare a [op] [b] pos) W := by
  intro pins s σ H O I env st
  refine wpAny_isTrue_Compare1 (thn (h pins s σ H O I env st) fun u s1 ⟨v, H1, I1, r1, O1, x, S1, hb, st1, ok1, rep1⟩ => ?_) hm
  refine thn (hb pins s1 σ H1 O1 I1 (env.mono st1) ok1) fun u' s2 ⟨w, H2, I2, r2, O2, y, S2, hw, st2, ok2, rep2⟩ => ?_
  refine thn (hw pins s2 σ H2 O2 v w u u' I2 ok2 (rep1.mono st2) rep2 r1 r2) fun _ _ ⟨z, H3, I3, r3, O3, d, S3, ⟨c, hd, wc⟩, st3, ok3, rep3⟩ => ?_
  subst hd
  cases rep3
  cases r3
  exact wpAny_truthy_bool ⟨H3, I3, O3, S3, wc, (st1.trans st2).trans st3, ok3⟩
theorem ts_val {W : Bool → Store → Prop} (h : Ev X Γ S e (asB W)) (he : ∀ whole, isTrue e X.env whole = (do let v ← whole; standAt e.pos; holding [v] (truthy v)) := by intro _; rfl) : Ts X Γ S e W := by
  intro pins s σ H O I env st
  refine isTrue_plain (thn (h pins s σ H O I env st) fun _ _ ⟨z, H3, I3, r3, O3, d, S3, ⟨c, hd, wc⟩, st3, ok3, rep3⟩ => ?_) (he _)
  subst hd
  cases rep3
  cases r3
  exact wpAny_truthy_bool ⟨H3, I3, O3, S3, wc, st3, ok3⟩
theorem TsW.ts {W : Bool → Store → Prop} (h : TsW X Γ S e W) : Ts X Γ S e W := fun pins s σ H O I env st => h _ pins s σ H O I env st
theorem tw_and1 {W : Bool → Store → Prop} (h : Ts X Γ S a W) : TsW X Γ S (.BoolOp .And [a] pos) W := by
  intro wh pins s σ H O I env st
  refine isTrue_and (thn (h pins s σ H O I env st) fun c s1 e => ?_)
  cases c with
  | true => exact isTrue_and_nil e
  | false => exact e
theorem tw_or1 {W : Bool → Store → Prop} (h : Ts X Γ S a W) : TsW X Γ S (.BoolOp .Or [a] pos) W := by
  intro wh pins s σ H O I env st
  refine isTrue_or (thn (h pins s σ H O I env st) fun c s1 e => ?_)
  cases c with
  | false => exact isTrue_or_nil e
  | true => exact e
theorem tw_and {W : Bool → Store → Prop} (h : Ts X Γ S a fun c S1 => (c = true → TsW X Γ S1 (.BoolOp .And (b :: rest) pos) W) ∧ (c = false → W false S1)) : TsW X Γ S (.BoolOp .And (a :: b :: rest) pos) W := by
  intro wh pins s σ H O I env st
  refine isTrue_and (thn (h pins s σ H O I env st) fun c s1 ⟨H1, I1, O1, S1, w1, st1, ok1⟩ => ?_)
  cases c with
  | true => exact thn (w1.1 rfl wh pins s1 σ H1 O1 I1 (env.mono st1) ok1) fun _ _ q => TPpre st1 q
  | false => exact ⟨H1, I1, O1, S1, w1.2 rfl, st1, ok1⟩
theorem tw_or {W : Bool → Store → Prop} (h : Ts X Γ S a fun c S1 => (c = true → W true S1) ∧ (c = false → TsW X Γ S1 (.BoolOp .Or (b :: rest) pos) W)) : TsW X Γ S (.BoolOp .Or (a :: b :: rest) pos) W := by
  intro wh pins s σ H O I env st
  refine isTrue_or (thn (h pins s σ H O I env st) fun c s1 ⟨H1, I1, O1, S1, w1, st1, ok1⟩ => ?_)
  cases c with
  | false => exact thn (w1.2 rfl wh pins s1 σ H1 O1 I1 (env.mono st1) ok1) fun _ _ q => TPpre st1 q
  | true => exact ⟨H1, I1, O1, S1, w1.1 rfl, st1, ok1⟩
theorem ts_not {W : Bool → Store → Prop} (h : Ts X Γ S a fun c S1 => W (!c) S1) : Ts X Γ S (.UnaryOp .Not a pos) W := by
  intro pins s σ H O I env st
  exact isTrue_not (thn (h pins s σ H O I env st) fun c s1 ⟨H1, I1, O1, S1, w1, st1, ok1⟩ => ⟨H1, I1, O1, S1, w1, st1, ok1⟩)
theorem ev_one {op} (h : Ev X Γ S a W) : Ev X Γ S (.BoolOp op [a] pos) W := fun pins s σ H O I env st => BoolOp_one (h pins s σ H O I env st)
theorem ev_and (h : Ev X Γ S a fun x S1 => ∃ c, x = .bl c ∧ (c = true → Ev X Γ S1 (.BoolOp .And (b :: rest) pos) W) ∧ (c = false → W (.bl false) S1)) : Ev X Γ S (.BoolOp .And (a :: b :: rest) pos) W := by
  intro pins s σ H O I env st
  refine BoolOp_and (thn (h pins s σ H O I env st) fun u s1 ⟨v, H1, I1, r1, O1, x, S1, ⟨c, hx, h1, h2⟩, st1, ok1, rep1⟩ => ?_)
  subst hx
  cases rep1
  cases r1
  refine wpAny_truthy_bool ?_
  cases c with
  | true => exact thn (h1 rfl pins s1 σ H1 O1 I1 (env.mono st1) ok1) fun _ _ q => EPpre st1 q
  | false => exact ⟨.bl false, H1, I1, rfl, O1, .bl false, S1, h2 rfl, st1, ok1, .bl false⟩
theorem ev_or (h : Ev X Γ S a fun x S1 => ∃ c, x = .bl c ∧ (c = true → W (.bl true) S1) ∧ (c = false → Ev X Γ S1 (.BoolOp .Or (b :: rest) pos) W)) : Ev X Γ S (.BoolOp .Or (a :: b :: rest) pos) W := by
  intro pins s σ H O I env st
  refine BoolOp_or (thn (h pins s σ H O I env st) fun u s1 ⟨v, H1, I1, r1, O1, x, S1, ⟨c, hx, h1, h2⟩, st1, ok1, rep1⟩ => ?_)
  subst hx
  cases rep1
  cases r1
  refine wpAny_truthy_bool ?_
  cases c with
  | false => exact thn (h2 rfl pins s1 σ H1 O1 I1 (env.mono st1) ok1) fun _ _ q => EPpre st1 q
  | true => exact ⟨.bl true, H1, I1, rfl, O1, .bl true, S1, h1 rfl, st1, ok1, .bl true⟩
theorem ev_not (h : Ev X Γ S a fun x S1 => ∃ c, x = .bl c ∧ W (.bl (!c)) S1) : Ev X Γ S (.UnaryOp .Not a pos) W := by
  intro pins s σ H O I env st
  refine UnaryOp_ (thn (h pins s σ H O I env st) fun u s1 ⟨v, H1, I1, r1, O1, x, S1, ⟨c, hx, h1⟩, st1, ok1, rep1⟩ => ?_)
  subst hx
  cases rep1
  cases r1
  exact not_of (wpAny_truthy_bool ⟨.bl (!c), H1, I1, rfl, O1, .bl (!c), S1, h1, st1, ok1, .bl (!c)⟩)
theorem ev_neg (h : Ev X Γ S a fun x S1 => ∃ i, x = .int i ∧ W (.int (-i)) S1) : Ev X Γ S (.UnaryOp .USub a pos) W := by
  intro pins s σ H O I env st
  refine UnaryOp_ (thn (h pins s σ H O I env st) fun u s1 ⟨v, H1, I1, r1, O1, x, S1, ⟨c, hx, h1⟩, st1, ok1, rep1⟩ => ?_)
  subst hx
  cases rep1
  exact un_neg pins s1 σ H1 _ _ _ I1 r1 ⟨c, rfl, O1, .int (-c), S1, h1, st1, ok1, .int (-c)⟩
theorem ev_ifExp {c : Expr} (h : Ts X Γ S c fun k S1 => (k = true → Ev X Γ S1 a W) ∧ (k = false → Ev X Γ S1 b W)) : Ev X Γ S (.IfExp c a b pos) W := by
  intro pins s σ H O I env st
  refine wpAny_IfExp (thn (h pins s σ H O I env st) fun d s1 ⟨H1, I1, O1, S1, w1, st1, ok1⟩ => ?_)
  cases d with
  | true => exact thn (w1.1 rfl pins s1 σ H1 O1 I1 (env.mono st1) ok1) fun _ _ q => EPpre st1 q
  | false => exact thn (w1.2 rfl pins s1 σ H1 O1 I1 (env.mono st1) ok1) fun _ _ q => EPpre st1 q

/-! chains of two and three -/
theorem ev_chain {c : Expr} {op op' : CmpOp} (h : Ev X Γ S a fun x S1 => Ev X Γ S1 b fun y S2 => CmpW X op x y S2 fun z S3 => ∃ k, z = .bl k ∧ (k = false → W (.bl false) S3) ∧ (k = true → Ev X Γ S3 c fun t S4 => CmpW X op' y t S4 W))
    (hm : lastMarks [op, op'] [b, c] = false := by with_unfolding_all rfl) : Ev X Γ S (.Compare a [op, op'] [b, c] pos) W := by
  intro pins s σ H O I env st
  refine Compare_chain (thn (h pins s σ H O I env st) fun u s1 ⟨v, H1, I1, r1, O1, x, S1, hb, st1, ok1, rep1⟩ => chain_link (thn (hb pins s1 σ H1 O1 I1 (env.mono st1) ok1) fun u' s2 ⟨w, H2, I2, r2, O2, y, S2, hw, st2, ok2, rep2⟩ => ?_)) hm
  refine thn (hw pins s2 σ H2 O2 v w u u' I2 ok2 (rep1.mono st2) rep2 r1 r2) fun _ s3 ⟨z, H3, I3, r3, O3, d, S3, ⟨k, hd, k1, k2⟩, st3, ok3, rep3⟩ => ?_
  subst hd
  cases rep3
  cases r3
  refine wpAny_truthy_bool ?_
  cases k with
  | false => exact ite_ff ⟨.bl false, H3, I3, rfl, O3, .bl false, S3, k1 rfl, (st1.trans st2).trans st3, ok3, .bl false⟩
  | true =>
    refine ite_tt (chain_last (thn (k2 rfl pins s3 σ H3 O3 I3 (((env.mono st1).mono st2).mono st3) ok3) fun u4 s4 ⟨w4, H4, I4, r4, O4, t, S4, h4, st4, ok4, rep4⟩ => ?_))
    exact thn (h4 pins s4 σ H4 O4 w w4 u' u4 I4 ok4 ((rep2.mono st3).mono st4) rep4 r2 r4) fun _ _ q => EPpre (((st1.trans st2).trans st3).trans st4) q
theorem ts_chain3 {c d : Expr} {op op' op'' : CmpOp} {W : Bool → Store → Prop} (h : Ev X Γ S a fun x S1 => Ev X Γ S1 b fun y S2 => CmpW X op x y S2 (asB fun k S3 => (k = false → W false S3) ∧ (k = true → Ev X Γ S3 c fun t S4 => CmpW X op' y t S4 (asB fun k S5 =>
      (k = false → W false S5) ∧ (k = true → Ev X Γ S5 d fun t' S6 => CmpW X op'' t t' S6 (asB W))))))
    (hm : lastMarks [op, op', op''] [b, c, d] = false := by with_unfolding_all rfl) (hev : evalEach [d] X.env = [eval d X.env] := by rfl) : Ts X Γ S (.Compare a [op, op', op''] [b, c, d] pos) W := by
  intro pins s σ H O I env st
  refine isTrue_chain (rs := [d]) (thn (h pins s σ H O I env st) fun u s1 ⟨v, H1, I1, r1, O1, x, S1, hb, st1, ok1, rep1⟩ => ?_) hm
  rw [hev]
  refine test_link (thn (hb pins s1 σ H1 O1 I1 (env.mono st1) ok1) fun u' s2 ⟨w, H2, I2, r2, O2, y, S2, hw, st2, ok2, rep2⟩ => ?_)
  refine thn (hw pins s2 σ H2 O2 v w u u' I2 ok2 (rep1.mono st2) rep2 r1 r2) fun _ s3 ⟨z, H3, I3, r3, O3, d3, S3, ⟨k, hd, k1, k2⟩, st3, ok3, rep3⟩ => ?_
  subst hd
  cases rep3
  cases r3
  refine wpAny_truthy_bool ?_
  cases k with
  | false => exact ite_ff ⟨H3, I3, O3, S3, k1 rfl, (st1.trans st2).trans st3, ok3⟩
  | true =>
    refine ite_tt (test_link (thn (k2 rfl pins s3 σ H3 O3 I3 (((env.mono st1).mono st2).mono st3) ok3) fun u4 s4 ⟨w4, H4, I4, r4, O4, t, S4, h4, st4, ok4, rep4⟩ => ?_))
    refine thn (h4 pins s4 σ H4 O4 w w4 u' u4 I4 ok4 ((rep2.mono st3).mono st4) rep4 r2 r4) fun _ s5 ⟨z5, H5, I5, r5, O5, d5, S5, ⟨k, hd, k1, k2⟩, st5, ok5, rep5⟩ => ?_
    subst hd
    cases rep5
    cases r5
    refine wpAny_truthy_bool ?_
    cases k with
    | false => exact ite_ff ⟨H5, I5, O5, S5, k1 rfl, (((st1.trans st2).trans st3).trans st4).trans st5, ok5⟩
    | true =>
      refine ite_tt (test_last (thn (k2 rfl pins s5 σ H5 O5 I5 (((((env.mono st1).mono st2).mono st3).mono st4).mono st5) ok5) fun u6 s6 ⟨w6, H6, I6, r6, O6, t', S6, h6, st6, ok6, rep6⟩ => ?_))
      refine thn (h6 pins s6 σ H6 O6 w4 w6 u4 u6 I6 ok6 ((rep4.mono st5).mono st6) rep6 r4 r6) fun _ s7 ⟨z7, H7, I7, r7, O7, d7, S7, ⟨k, hd, w7⟩, st7, ok7, rep7⟩ => ?_
      subst hd
      cases rep7
      cases r7
      exact wpAny_truthy_bool ⟨H7, I7, O7, S7, w7, (((((st1.trans st2).trans st3).trans st4).trans st5).trans st6).trans st7, ok7⟩

/-! argument lists, displays -/
theorem eva_nil {W : List D → Store → Prop} (w : W [] S) : EvA X Γ S [] W := fun _ pins s σ H O I _ st => Calls.spliced_nil ⟨[], H, I, .nil, O, [], S, w, Step.refl O H, st, .nil⟩
theorem eva_cons {W : List D → Store → Prop} (h : Ev X Γ S e fun d S1 => EvA X Γ S1 es fun ds S2 => W (d :: ds) S2) (hs : starEach (e :: es) X.env = (false, eval e X.env) :: starEach es X.env := by rfl) : EvA X Γ S (e :: es) W := by
  intro pos pins s σ H O I env st
  rw [hs]
  show wpAny _ _ (spliced ((false, eval e X.env) :: backTo pos (starEach es X.env))) _ _ s
  refine Calls.spliced_cons (thn (h pins s σ H O I env st) fun u s1 ⟨v, H1, I1, r1, O1, x, S1, hb, st1, ok1, rep1⟩ => ?_)
  exact thn (hb pos pins s1 σ H1 O1 I1 (env.mono st1) ok1) fun us s2 ⟨xs, H2, I2, r2, O2, ds, S2, w, st2, ok2, rep2⟩ => ⟨v :: xs, H2, I2, .cons r1 r2, O2, x :: ds, S2, w, st1.trans st2, ok2, .cons (rep1.mono st2) rep2⟩
theorem small {n : Nat} (h : n ≤ 1000000) : n ≤ sizeLine := Nat.le_trans h (by decide)
theorem tp_new {K : PySem.W.Frag} {O : Own} {H : Hp} {p : Addr} {xs : List V} (st : StOk K O H S) (h : H p = none) : Tp K O (upd H p (.tup xs)) p xs := .inl ⟨st.fresh_not h, .inl upd_same⟩
theorem ls_new {K : PySem.W.Frag} {O : Own} {H : Hp} {p : Addr} {xs : List V} (st : StOk K O H S) (h : H p = none) : Ls K O (upd H p (.lst xs)) p xs := .inl ⟨st.fresh_not h, .inl upd_same⟩
theorem qg_tup {K : PySem.W.Frag} {O : Own} {H : Hp} {p : Addr} {xs : List V} {ds : List D} (w : W (.tup ds) S) (st : StOk K O H S) (h : H p = none) (r : Reps K O H xs ds) : QG K O H W (.ref p) (upd H p (.tup xs)) :=
  ⟨O, .tup ds, S, w, Step.fresh h _, st.fresh h _, .tup (tp_new st h) (r.mono (Step.fresh h _))⟩
theorem qg_lst {K : PySem.W.Frag} {O : Own} {H : Hp} {p : Addr} {xs : List V} {ds : List D} (w : W (.lst ds) S) (st : StOk K O H S) (h : H p = none) (r : Reps K O H xs ds) : QG K O H W (.ref p) (upd H p (.lst xs)) :=
  ⟨O, .lst ds, S, w, Step.fresh h _, st.fresh h _, .lst (ls_new st h) (r.mono (Step.fresh h _))⟩
theorem qg_loc {K : PySem.W.Frag} {O : Own} {H : Hp} {p : Addr} {xs : List V} {ds : List D} (w : W (.loc S.length) (S ++ [ds])) (st : StOk K O H S) (h : H p = none) (r : Reps K O H xs ds) : QG K O H W (.ref p) (upd H p (.lst xs)) :=
  ⟨O.more p, .loc S.length, S ++ [ds], w, Step.own h _, st.own h r, .loc (by show (O.A ++ [p])[S.length]? = some p; rw [← st.len]; simp)⟩
theorem ev_tup {x1} (h : EvA X Γ S es fun ds S1 => ds.length ≤ 1000000 ∧ W (.tup ds) S1) : Ev X Γ S (.Tuple es x1 pos) W := by
  intro pins s σ H O I env st
  refine wpAny_Tuple_spliced (thn (h pos pins s σ H O I env st) fun us s1 ⟨xs, H1, I1, r, O1, ds, S1, ⟨z, w⟩, st1, ok1, rep⟩ => ⟨by rw [← r.length, rep.length]; exact small z, ?_⟩)
  have hf : H1 s1.heap.objs.size = none := I1.hok.fresh (Nat.le_refl _)
  refine ⟨.ref s1.heap.objs.size, upd H1 s1.heap.objs.size (.tup xs), I1.laid (t' := s1.toks) (fun b u e => Heap.get?_push_of_some _ e) (Nat.le_refl _) ?_, rfl, (qg_tup w ok1 hf rep).pre st1⟩
  exact ⟨by rw [rep.length]; exact small z, us, r, ⟨_, Heap.get?_push_size _ rfl, rfl, _, rfl⟩⟩
theorem ev_lst (h : EvA X Γ S es fun ds S1 => ds.length ≤ 1000000 ∧ W (.lst ds) S1) : Ev X Γ S (.List es pos) W := by
  intro pins s σ H O I env st
  refine wpAny_List_spliced (thn (h pos pins s σ H O I env st) fun us s1 ⟨xs, H1, I1, r, O1, ds, S1, ⟨z, w⟩, st1, ok1, rep⟩ => ⟨by rw [← r.length, rep.length]; exact small z, ?_⟩)
  have hf : H1 s1.heap.objs.size = none := I1.hok.fresh (Nat.le_refl _)
  refine ⟨.ref s1.heap.objs.size, upd H1 s1.heap.objs.size (.lst xs), I1.laid (t' := s1.toks) (fun b u e => Heap.get?_push_of_some _ e) (Nat.le_refl _) ?_, rfl, (qg_lst w ok1 hf rep).pre st1⟩
  exact ⟨by rw [rep.length]; exact small z, us, 0, r, Heap.get?_push_size _ rfl⟩
/-- a written list, owned -/
theorem ev_lstO (h : EvA X Γ S es fun ds S1 => ds.length ≤ 1000000 ∧ W (.loc S1.length) (S1 ++ [ds])) : Ev X Γ S (.List es pos) W := by
  intro pins s σ H O I env st
  refine wpAny_List_spliced (thn (h pos pins s σ H O I env st) fun us s1 ⟨xs, H1, I1, r, O1, ds, S1, ⟨z, w⟩, st1, ok1, rep⟩ => ⟨by rw [← r.length, rep.length]; exact small z, ?_⟩)
  have hf : H1 s1.heap.objs.size = none := I1.hok.fresh (Nat.le_refl _)
  refine ⟨.ref s1.heap.objs.size, upd H1 s1.heap.objs.size (.lst xs), I1.laid (t' := s1.toks) (fun b u e => Heap.get?_push_of_some _ e) (Nat.le_refl _) ?_, rfl, (qg_loc w ok1 hf rep).pre st1⟩
  exact ⟨by rw [rep.length]; exact small z, us, 0, r, Heap.get?_push_size _ rfl⟩

/-! what an operation comes to -/
theorem bin_int {op : Operator} {C : Int → Int → Prop} {g : Int → Int → Int} (ho : OpR X (binaryOp op) (rI C fun i j => .int (g i j))) {i j : Int} (c : C i j) (w : W (.int (g i j)) S) : BinW X op (.int i) (.int j) S W :=
  opW_of ho fun O H v w' st r1 r2 => by cases r1; cases r2; exact ⟨i, j, rfl, rfl, c, QG.here w st (.int _)⟩
theorem bin_int0 {op : Operator} {g : Int → Int → Int} (ho : OpR X (binaryOp op) (rI0 fun i j => .int (g i j))) {i j : Int} (w : W (.int (g i j)) S) : BinW X op (.int i) (.int j) S W :=
  opW_of ho fun O H v w' st r1 r2 => by cases r1; cases r2; exact ⟨i, j, rfl, rfl, QG.here w st (.int _)⟩
theorem b_add {i j : Int} (w : W (.int (i + j)) S) : BinW X .Add (.int i) (.int j) S W := bin_int0 op_add w
theorem b_sub {i j : Int} (w : W (.int (i - j)) S) : BinW X .Sub (.int i) (.int j) S W := bin_int0 op_sub w
theorem b_mul {i j : Int} (c : CMul i j) (w : W (.int (i * j)) S) : BinW X .Mult (.int i) (.int j) S W := bin_int op_mul c w
theorem b_mod {i j : Int} (c : 0 < j) (w : W (.int (i % j)) S) : BinW X .Mod (.int i) (.int j) S W := bin_int op_mod c w
theorem b_fdiv {i j : Int} (c : 0 < j ∧ j < 1073741824) (w : W (.int (i / j)) S) : BinW X .FloorDiv (.int i) (.int j) S W := bin_int op_fdiv c w
theorem b_pow {i j : Int} (c : CPow i j) (w : W (.int (i ^ j.toNat)) S) : BinW X .Pow (.int i) (.int j) S W := bin_int op_pow c w
theorem cmp_int {op : CmpOp} {g : Int → Int → Bool} (ho : OpR X (compareOp op) (rI0 fun i j => .bl (g i j))) {i j : Int} (w : W (.bl (g i j)) S) : CmpW X op (.int i) (.int j) S W :=
  opW_of ho fun O H v w' st r1 r2 => by cases r1; cases r2; exact ⟨i, j, rfl, rfl, QG.here w st (.bl _)⟩
theorem c_lt {i j : Int} (w : W (.bl (decide (i < j))) S) : CmpW X .Lt (.int i) (.int j) S W := cmp_int op_lt w
theorem c_le {i j : Int} (w : W (.bl (decide (i ≤ j))) S) : CmpW X .LtE (.int i) (.int j) S W := cmp_int op_le w
theorem c_gt {i j : Int} (w : W (.bl (decide (j < i))) S) : CmpW X .Gt (.int i) (.int j) S W := cmp_int op_gt w
theorem c_ge {i j : Int} (w : W (.bl (decide (j ≤ i))) S) : CmpW X .GtE (.int i) (.int j) S W := cmp_int op_ge w
theorem c_eqI {i j : Int} (w : W (.bl (decide (i = j))) S) : CmpW X .Eq (.int i) (.int j) S W :=
  opW_of op_eq fun O H v w' st r1 r2 => by
    cases r1; cases r2
    have e : decide (V.int i = V.int j) = decide (i = j) := by rw [dec_int]; exact (Bool.beq_eq_decide_eq i j)
    exact ⟨rfl, by rw [e]; exact QG.here w st (.bl _)⟩
theorem c_neI {i j : Int} (w : W (.bl (!decide (i = j))) S) : CmpW X .NotEq (.int i) (.int j) S W :=
  opW_of op_ne fun O H v w' st r1 r2 => by
    cases r1; cases r2
    have e : decide (V.int i = V.int j) = decide (i = j) := by rw [dec_int]; exact (Bool.beq_eq_decide_eq i j)
    exact ⟨rfl, by rw [e]; exact QG.here w st (.bl _)⟩
theorem c_eqB {i j : Bool} (w : W (.bl (i == j)) S) : CmpW X .Eq (.bl i) (.bl j) S W :=
  opW_of op_eq fun O H v w' st r1 r2 => by
    cases r1; cases r2
    exact ⟨rfl, by rw [dec_bl]; exact QG.here w st (.bl _)⟩
theorem c_neB {i j : Bool} (w : W (.bl (!(i == j))) S) : CmpW X .NotEq (.bl i) (.bl j) S W :=
  opW_of op_ne fun O H v w' st r1 r2 => by
    cases r1; cases r2
    exact ⟨rfl, by rw [dec_bl]; exact QG.here w st (.bl _)⟩
theorem c_isN {x : D} (w : W (.bl (match x with | .non => true | _ => false)) S) : CmpW X .Is x .non S W :=
  opW_of op_isN fun O H v w' st r1 r2 => by
    cases r2
    refine ⟨rfl, ?_⟩
    cases r1 <;> exact QG.here w st (.bl _)
theorem c_isNot {x : D} (w : W (.bl (match x with | .non => false | _ => true)) S) : CmpW X .IsNot x .non S W :=
  opW_of op_notN fun O H v w' st r1 r2 => by
    cases r2
    refine ⟨rfl, ?_⟩
    cases r1 <;> exact QG.here w st (.bl _)
/-- t + u -/
theorem b_catT {ds es : List D} (hz : ds.length + es.length ≤ 1000000) (w : W (.tup (ds ++ es)) S) : BinW X .Add (.tup ds) (.tup es) S W := by
  intro pins s σ H O v w' u u' I st r1 r2 r3 r4
  cases r1 with
  | @tup a xs _ h1 q1 =>
    cases r2 with
    | @tup b ys _ h2 q2 =>
      by_cases hx : xs = []
      · subst hx
        have e : ds = [] := by have := q1.length; simpa using this.symm
        subst e
        cases r3
        cases r4
        obtain ⟨its, v1, p1, _⟩ := I.tuple h1.sq
        obtain ⟨its2, v2, p2, _⟩ := I.tuple h2.sq
        cases v1
        obtain ⟨⟨cls, dd, data, sl⟩, ho, hc, n, hd⟩ := id p1
        obtain ⟨⟨cls2, dd2, data2, sl2⟩, ho2, hc2, n2, hd2⟩ := id p2
        simp only at hc hd hc2 hd2
        subst hc hd hc2 hd2
        exact concat_meets ⟨_, ho, rfl⟩ ⟨_, ho2, rfl⟩ noFill_tuple_add seq_tuple_add PySem.F.slot_tuple_add PySem.F.entry_tuple_add (PySem.F.args_tuple_add_2 _ _)
          (tuple_addW0 a b ([] : List Value).toArray its2.toArray n n2 dd dd2 sl sl2 rfl) ⟨ho, ho2, ⟨.ref b, H, I, rfl, QG.here w st (.tup h2 q2)⟩⟩
      · refine op_catT pins s σ H _ _ u u' _ I r3 r4 ⟨a, b, xs, ys, rfl, rfl, h1.sq, h2.sq, hx, by rw [q1.length, q2.length]; exact small hz, fun e => ?_, fun _ p hp => qg_tup w st hp (q1.append q2)⟩
        subst e
        have e : es = [] := by have := q2.length; simpa using this.symm
        subst e
        rw [List.append_nil] at w
        exact QG.here w st (.tup h1 q1)
/-- xs + ys of frozen lists -/
theorem b_catL {ds es : List D} (hz : ds.length + es.length ≤ 1000000) (w : W (.lst (ds ++ es)) S) : BinW X .Add (.lst ds) (.lst es) S W := by
  intro pins s σ H O v w' u u' I st r1 r2 r3 r4
  cases r1 with
  | @lst a xs _ h1 q1 =>
    cases r2 with
    | @lst b ys _ h2 q2 =>
      cases r3
      cases r4
      obtain ⟨its, v1, p1, _⟩ := I.list h1.sq
      obtain ⟨its2, v2, p2, _⟩ := I.list h2.sq
      obtain ⟨⟨cls, dd, data, sl⟩, n, ho, hc, hdd, hd⟩ := id p1
      obtain ⟨⟨cls2, dd2, data2, sl2⟩, n2, ho2, hc2, hdd2, hd2⟩ := id p2
      simp only at hc hd hc2 hd2
      subst hc hd hc2 hd2
      have z : its.length + its2.length ≤ sizeLine := by rw [← v1.length, ← v2.length, q1.length, q2.length]; exact small hz
      refine concat_meets ⟨_, ho, rfl⟩ ⟨_, ho2, rfl⟩ noFill_list_add seq_list_add PySem.F.slot_list_add PySem.F.entry_list_add (PySem.F.args_list_add_2 _ _)
          (list_addW a b its.toArray its2.toArray n n2 dd dd2 sl sl2 (by simpa using z)) ⟨ho, ho2, ?_⟩
      have ea : its.toArray ++ its2.toArray = (its ++ its2).toArray := by simp
      rw [ea]
      refine ⟨.ref s.heap.objs.size, _, I.lnew (t' := s.toks) (v1.append v2) (by rw [List.length_append, q1.length, q2.length]; exact small hz), rfl, qg_lst w st I.fresh (q1.append q2)⟩
end
end DL

set_option Elab.async false
set_option linter.all false
set_option maxRecDepth 100000
set_option maxHeartbeats 4000000
namespace DL
open PySem PySem.Spec L2
open PyProof.Rows

section
variable {X : Cx} {Γ : Gam} {S : Store} {W : WD} {a b e : Expr} {es : List Expr} {pos : Pos}
/-! subscripts -/
def IxW (X : Cx) (a b : Expr) (x y : D) (S : Store) (W : WD) : Prop :=
  ∀ (pins : Pins) (s : Shared) (σ : St) (H : Hp) (O : Own) (v w : V) (u u' : Value), Inv X pins σ H s → StOk X.K O H S → Rep X.K O H v x → Rep X.K O H w y → RelV v u → RelV w u' →
    subscripted b false u u' = operate [u, u'] (getItem u u') → wpAny (model X.prog X.w) X.A (subscriptTail a b u u') (EP X pins σ (QG X.K O H W)) X.xe s
theorem ev_ix (h : Ev X Γ S a fun x S1 => Ev X Γ S1 b fun y S2 => IxW X a b x y S2 W) (hs : PlainIx b := by intro _ _; rfl) : Ev X Γ S (.Subscript a b pos) W := by
  intro pins s σ H O I env st
  refine Subscript_ (thn (h pins s σ H O I env st) fun u s1 ⟨v, H1, I1, r1, O1, x, S1, hb, st1, ok1, rep1⟩ => ?_)
  refine thn (hb pins s1 σ H1 O1 I1 (env.mono st1) ok1) fun u' s2 ⟨w, H2, I2, r2, O2, y, S2, hw, st2, ok2, rep2⟩ => ?_
  exact thn (hw pins s2 σ H2 O2 v w u u' I2 ok2 (rep1.mono st2) rep2 r1 r2 (hs _ _)) fun _ _ q => EPpre (st1.trans st2) q
theorem atI_rep {K : PySem.W.Frag} {O : Own} {H : Hp} {xs : List V} {ds : List D} {i : Int} {d : D} (r : Reps K O H xs ds) (h : atI ds i = some d) : ∃ v, atI xs i = some v ∧ Rep K O H v d := by
  unfold atI at h ⊢
  rw [r.length]
  cases e : ixN ds.length i with
  | none => rw [e] at h; cases h
  | some j =>
    rw [e] at h
    exact r.get (i := j) h
theorem i_tup {ds : List D} {i : Int} {d : D} (h : atI ds i = some d) (w : W d S) : IxW X a b (.tup ds) (.int i) S W := by
  intro pins s σ H O v w' u u' I st r1 r2 r3 r4 hs
  cases r2
  cases r1 with
  | @tup p xs _ h1 q1 =>
    obtain ⟨z, hz, rz⟩ := atI_rep q1 h
    exact ix_tup a b pins s σ H _ _ u u' _ I r3 r4 ⟨p, xs, i, z, rfl, rfl, h1.sq, hz, QG.here w st rz⟩ hs
theorem i_lst {ds : List D} {i : Int} {d : D} (h : atI ds i = some d) (w : W d S) : IxW X a b (.lst ds) (.int i) S W := by
  intro pins s σ H O v w' u u' I st r1 r2 r3 r4 hs
  cases r2
  cases r1 with
  | @lst p xs _ h1 q1 =>
    obtain ⟨z, hz, rz⟩ := atI_rep q1 h
    exact ix_list a b pins s σ H _ _ u u' _ I r3 r4 ⟨p, xs, i, z, rfl, rfl, h1.sq, hz, QG.here w st rz⟩ hs
theorem i_loc {k : Nat} {ds : List D} {i : Int} {d : D} (hk : S[k]? = some ds) (h : atI ds i = some d) (w : W d S) : IxW X a b (.loc k) (.int i) S W := by
  intro pins s σ H O v w' u u' I st r1 r2 r3 r4 hs
  cases r2
  cases r1 with
  | @loc p _ h1 =>
    obtain ⟨xs, hx, q1⟩ := st.obj k p ds h1 hk
    obtain ⟨z, hz, rz⟩ := atI_rep q1 h
    exact ix_list a b pins s σ H _ _ u u' _ I r3 r4 ⟨p, xs, i, z, rfl, rfl, SqL.of hx, hz, QG.here w st rz⟩ hs

/-! slices -/
def PoD (X : Cx) (Γ : Gam) (S : Store) (o : Option Expr) (W : Option Int → Store → Prop) : Prop := match o with
  | none => W none S
  | some e => Ev X Γ S e fun d S1 => ∃ i, d = .int i ∧ W (some i) S1
def SlW (X : Cx) (x : D) (lo hi : Option Int) (S : Store) (W : WD) : Prop :=
  ∀ (pins : Pins) (s : Shared) (σ : St) (H : Hp) (O : Own) (v : V) (u vl vu : Value) (sl : Addr), Inv X pins σ H s → StOk X.K O H S → Rep X.K O H v x → RelV v u → s.heap.IsSliceOf sl vl vu .none → IsPart vl lo → IsPart vu hi →
    ∃ T id, typeLookup (.type T) "__getitem__" = pure (some (.builtin id)) ∧ s.TypeIs u T ∧ wpAny (model X.prog X.w) X.A (getItem u (.ref sl)) (EP X pins σ (QG X.K O H W)) X.xe s
theorem po_use {W : Option Int → Store → Prop} {o : Option Expr} (h : PoD X Γ S o W) {pins : Pins} {s : Shared} {σ : St} {H : Hp} {O : Own} (I : Inv X pins σ H s) (env : EnvOk X.K O H σ Γ) (st : StOk X.K O H S) :
    wpAny (model X.prog X.w) X.A (evalPart o X.env) (fun u s' => ∃ p H' O' S', Inv X pins σ H' s' ∧ IsPart u p ∧ W p S' ∧ Step O O' H H' ∧ StOk X.K O' H' S') X.xe s := by
  cases o with
  | none =>
    rw [evalPart_none]
    exact wpAny_pure ⟨none, H, O, S, I, .none, h, Step.refl O H, st⟩
  | some e =>
    rw [evalPart_some]
    refine thn (h pins s σ H O I env st) fun u s1 ⟨v, H1, I1, r1, O1, x, S1, ⟨i, hx, w⟩, st1, ok1, rep1⟩ => ?_
    subst hx
    cases rep1
    obtain ⟨t, rfl⟩ := r1
    exact ⟨some i, H1, O1, S1, I1, .int i t, w, st1, ok1⟩
theorem ev_slice {lo hi : Option Expr} {p2 : Pos} (h : Ev X Γ S e fun x S1 => PoD X Γ S1 lo fun l S2 => PoD X Γ S2 hi fun r S3 => SlW X x l r S3 W) : Ev X Γ S (.Subscript e (.Slice lo hi none p2) pos) W := by
  intro pins s σ H O I env st
  refine Subscript_ (thn (h pins s σ H O I env st) fun v s1 ⟨y, H1, I1, r1, O1, x, S1, hb, st1, ok1, rep1⟩ => ?_)
  refine wpAny_Slice (thn (po_use hb I1 (env.mono st1) ok1) fun vl s2 ⟨l, H2, O2, S2, I2, pl, hc, st2, ok2⟩ => thn (po_use hc I2 ((env.mono st1).mono st2) ok2) fun vu s3 ⟨r, H3, O3, S3, I3, pu, hd, st3, ok3⟩ => ?_)
  rw [evalPart_none]
  refine wpAny_pure ?_
  have I4 : Inv X pins σ H3 { s3 with heap := s3.heap.push { cls := .type "slice", data := .fields #[vl, vu, .none] } } := I3.kept (t' := s3.toks) fun b ob q => Heap.get?_push_of_some _ q
  obtain ⟨T, id, hT, ht, hg⟩ := hd pins { s3 with heap := s3.heap.push { cls := .type "slice", data := .fields #[vl, vu, .none] } } σ H3 O3 y v vl vu s3.heap.objs.size I4 ok3 ((rep1.mono st2).mono st3) r1 (Heap.IsSliceOf.new ..) pl pu
  show wpAny (model X.prog X.w) X.A (subscriptTail e (.Slice lo hi none p2) v (.ref s3.heap.objs.size)) _ X.xe { s3 with heap := s3.heap.push { cls := .type "slice", data := .fields #[vl, vu, .none] } }
  exact tail_any (ops := [.ref s3.heap.objs.size, v]) ht hT (thn hg fun _ _ q => EPpre ((st1.trans st2).trans st3) q) (by with_unfolding_all rfl)
def cutD (ds : List D) (lo hi : Option Int) : List D := (ds.drop (HT.sIx ds.length 0 lo)).take (HT.sIx ds.length ds.length hi - HT.sIx ds.length 0 lo)
theorem cut_rep {K : PySem.W.Frag} {O : Own} {H : Hp} {xs : List V} {ds : List D} (r : Reps K O H xs ds) (lo hi : Option Int) : Reps K O H (cutV xs lo hi) (cutD ds lo hi) := by
  unfold cutV cutD
  rw [r.length]
  exact (r.drop _).take _
/-- the whole of a tuple, cut -/
theorem tuple_whole {prog : Program} {w : World} {A : Around} {E : Value → Shared → Prop} {s : Shared} {t sl : Addr} {items : Array Value} {vl vu : Value} {lo hi : Option Int} {Q : Value → Shared → Prop} (ht : IsTup s.heap t items) (hs : s.heap.IsSliceOf sl vl vu .none) (pl : IsPart vl lo) (pu : IsPart vu hi)
    (h0 : HT.sIx items.size 0 lo = 0) (h1 : HT.sIx items.size items.size hi = items.size) (h : Q (.ref t) s) : wpAny (model prog w) A (getItem (.ref t) (.ref sl)) Q E s := by
  obtain ⟨os, hos, hcs, hds⟩ := id hs
  have isS : s.TypeIs (.ref sl) "slice" := ⟨os, hos, hcs⟩
  unfold getItem
  try with_reducible refine wpAny_holding ?_
  first | refine wpAny_bind (wpAny_pure ?_) | skip
  refine wpAny_bind (wpAny_sequenceKey ht.typeIs (by decide) ?_)
  refine wpAny_bind (wpAny_callSpecial?_slot (name := Str.ofString "__getitem__") ht.typeIs PyProof.Rows.slot_tuple_getitem
    (wpAny_call_entry PyProof.Rows.slot_tuple_getitem ht.typeIs entry_tuple_getitem ?_ (args_tuple_getitem _ _)))
  show wpAny _ _ (Builtin.Tuple.tupleItemsOf (.ref t) >>= _) _ _ s
  refine wpAny_bind (tupleItemsOf_ ht (wpAny_bind (wpAny_typeOf isS ?_)))
  rw [if_pos (by decide)]
  refine wpAny_bind (HT.sliceApplied_gen hs pl pu ?_)
  rw [h0, h1]
  show wpAny _ _ (if (((0 : Nat) : Int) == 0 && (1 : Int) == 1 && (items.size - 0) == items.size) = true then _ else _) _ _ s
  rw [if_pos (by simp)]
  unfold Builtin.Tuple.tupleIsExact
  first
    | exact wpAny_bind (wpAny_bind (wpAny_typeOf ht.typeIs (wpAny_pure (by rw [if_pos (by decide)]; exact wpAny_bind (wpAny_rule (wpAny_pure ⟨_, rfl, wpAny_pure h⟩))))))
    | (refine wpAny_bind (wpAny_bind (wpAny_typeOf ht.typeIs (wpAny_pure ?_)))
       simp only [beq_self_eq_true, if_true]
       exact wpAny_bind (wpAny_rule (wpAny_pure ⟨_, rfl, wpAny_pure h⟩)))
theorem s_tup {ds : List D} {lo hi : Option Int} (w : W (.tup (cutD ds lo hi)) S) : SlW X (.tup ds) lo hi S W := by
  intro pins s σ H O v u vl vu sl I st r1 r3 hs pl pu
  cases r1 with
  | @tup p xs _ h1 q1 =>
    by_cases hw : HT.sIx xs.length 0 lo = 0 ∧ HT.sIx xs.length xs.length hi = xs.length
    · cases r3
      obtain ⟨its, r, ht, hz⟩ := I.tuple h1.sq
      have hlen : its.toArray.size = xs.length := by rw [List.size_toArray]; exact r.length.symm
      refine ⟨"tuple", _, PyProof.Rows.slot_tuple_getitem.lookup, ht.typeIs, tuple_whole ht hs pl pu (by rw [hlen]; exact hw.1) (by rw [hlen]; exact hw.2) ⟨.ref p, H, I, rfl, ?_⟩⟩
      have e : cutD ds lo hi = ds := by
        unfold cutD
        rw [← q1.length, hw.1, hw.2, List.drop_zero, List.take_of_length_le (by rw [← q1.length]; omega)]
      rw [e] at w
      exact QG.here w st (.tup h1 q1)
    · exact sl_tup pins s σ H _ u vl vu lo hi sl _ I r3 hs pl pu ⟨p, xs, rfl, h1.sq, hw, fun p' hp => qg_tup w st hp (cut_rep q1 lo hi)⟩
theorem s_lst {ds : List D} {lo hi : Option Int} (w : W (.lst (cutD ds lo hi)) S) : SlW X (.lst ds) lo hi S W := by
  intro pins s σ H O v u vl vu sl I st r1 r3 hs pl pu
  cases r1 with
  | @lst p xs _ h1 q1 => exact sl_list pins s σ H _ u vl vu lo hi sl _ I r3 hs pl pu ⟨p, xs, rfl, h1.sq, fun p' hp => qg_lst w st hp (cut_rep q1 lo hi)⟩

/-! calls of built-ins -/
theorem ev_callB {x : Str} {p : Pos} {id : String} (h : EvA X Γ S (e :: es) fun ds S1 => CalW X (.builtin id) ds S1 W) (hm : X.mg x = none) (hv : bootBuiltins x = some (.builtin id)) (hg : Gl X x := by rfl) (hn : x ≠ "__name__" := by decide) (hdb : (x == ("__debug__" : Str)) = false := by decide)
    (he : starEach (e :: es) X.env = (false, eval e X.env) :: starEach es X.env := by rfl) (hpl : (backTo pos (starEach es X.env)).any (·.1) = false := by rfl) : Ev X Γ S (.Call (.Name x p) (e :: es) [] pos) W := by
  intro pins s σ H O I env st
  refine wpAny_Call_Name_kw (ld_blt I hg hm hv ?_ hn hdb)
  exact PyProof.Rows.callWith_builtin1 (thn (h pos pins s σ H O I env st) fun us s1 ⟨vs, H1, I1, r1, O1, ds, S1, w, st1, ok1, rep⟩ => thn (w pins s1 σ H1 O1 vs us I1 ok1 rep r1) fun _ _ q => EPpre st1 q) he hpl
theorem ev_callT {x : Str} {p : Pos} {T : String} (h : EvA X Γ S (e :: es) fun ds S1 => CalW X (.type T) ds S1 W) (hm : X.mg x = none) (hv : bootBuiltins x = some (.type T)) (hg : Gl X x := by rfl) (hn : x ≠ "__name__" := by decide) (hdb : (x == ("__debug__" : Str)) = false := by decide)
    (he : starEach (e :: es) X.env = (false, eval e X.env) :: starEach es X.env := by rfl) (hpl : (backTo pos (starEach es X.env)).any (·.1) = false := by rfl) : Ev X Γ S (.Call (.Name x p) (e :: es) [] pos) W := by
  intro pins s σ H O I env st
  refine wpAny_Call_Name_kw (ld_blt I hg hm hv ?_ hn hdb)
  exact PyProof.Rows.callWith_type1 (thn (h pos pins s σ H O I env st) fun us s1 ⟨vs, H1, I1, r1, O1, ds, S1, w, st1, ok1, rep⟩ => thn (w pins s1 σ H1 O1 vs us I1 ok1 rep r1) fun _ _ q => EPpre st1 q) he hpl
theorem reps1 {K : PySem.W.Frag} {O : Own} {H : Hp} {vs : List V} {d : D} (r : Reps K O H vs [d]) : ∃ v, vs = [v] ∧ Rep K O H v d := by
  cases r with
  | cons a t => cases t; exact ⟨_, rfl, a⟩
theorem k_lenT {ds : List D} (w : W (.int ds.length) S) : CalW X (.builtin "len") [.tup ds] S W := calW_of call_len_seq fun O H vs st r => by
  obtain ⟨v, rfl, r'⟩ := reps1 r
  cases r' with
  | @tup p xs _ h1 q1 => exact ⟨p, xs, rfl, .inr h1.sq, by rw [q1.length]; exact QG.here w st (.int _)⟩
theorem k_lenL {ds : List D} (w : W (.int ds.length) S) : CalW X (.builtin "len") [.lst ds] S W := calW_of call_len_seq fun O H vs st r => by
  obtain ⟨v, rfl, r'⟩ := reps1 r
  cases r' with
  | @lst p xs _ h1 q1 => exact ⟨p, xs, rfl, .inl h1.sq, by rw [q1.length]; exact QG.here w st (.int _)⟩
theorem k_lenO {k : Nat} {ds : List D} (hk : S[k]? = some ds) (w : W (.int ds.length) S) : CalW X (.builtin "len") [.loc k] S W := calW_of call_len_seq fun O H vs st r => by
  obtain ⟨v, rfl, r'⟩ := reps1 r
  cases r' with
  | @loc p _ h1 =>
    obtain ⟨xs, hx, q1⟩ := st.obj k p ds h1 hk
    exact ⟨p, xs, rfl, .inl (SqL.of hx), by rw [q1.length]; exact QG.here w st (.int _)⟩
theorem k_tupL {ds : List D} (w : W (.tup ds) S) : CalW X (.type "tuple") [.lst ds] S W := calW_of call_tuple_of fun O H vs st r => by
  obtain ⟨v, rfl, r'⟩ := reps1 r
  cases r' with
  | @lst p xs _ h1 q1 => exact ⟨p, xs, rfl, .inl ⟨h1.sq, fun l hl => qg_tup w st hl q1⟩⟩
theorem k_tupO {k : Nat} {ds : List D} (hk : S[k]? = some ds) (w : W (.tup ds) S) : CalW X (.type "tuple") [.loc k] S W := calW_of call_tuple_of fun O H vs st r => by
  obtain ⟨v, rfl, r'⟩ := reps1 r
  cases r' with
  | @loc p _ h1 =>
    obtain ⟨xs, hx, q1⟩ := st.obj k p ds h1 hk
    exact ⟨p, xs, rfl, .inl ⟨SqL.of hx, fun l hl => qg_tup w st hl q1⟩⟩
theorem k_lstT {ds : List D} (w : W (.lst ds) S) : CalW X (.type "list") [.tup ds] S W := calW_of call_list_of fun O H vs st r => by
  obtain ⟨v, rfl, r'⟩ := reps1 r
  cases r' with
  | @tup p xs _ h1 q1 => exact ⟨p, xs, rfl, .inr h1.sq, fun l hl => qg_lst w st hl q1⟩
theorem k_lstL {ds : List D} (w : W (.lst ds) S) : CalW X (.type "list") [.lst ds] S W := calW_of call_list_of fun O H vs st r => by
  obtain ⟨v, rfl, r'⟩ := reps1 r
  cases r' with
  | @lst p xs _ h1 q1 => exact ⟨p, xs, rfl, .inl h1.sq, fun l hl => qg_lst w st hl q1⟩

/-! contracts -/
abbrev Ct := List D → Store → WD → Prop
def spC (K : PySem.W.Frag) (n : Nat) (F : Ct) : Sp := fun vs H Q _ => ∃ O ds S W, ds.length = n ∧ Reps K O H vs ds ∧ StOk K O H S ∧ F ds S W ∧ ∀ v H', QG K O H W v H' → Q v H'
structure Callee (P : Program) (w : World) (K : PySem.W.Frag) (mg : Str → Option Value) (base : Heap) (x : Str) (k n : Nat) (F : Ct) : Prop where
  ex : ∃ f fd ps, FnOk P w K mg base CX0 k f fd ps (spC K n F) ∧ mg x = some (.ref f) ∧ PySem.W.keepIn K (.ref f) = true ∧ Binds K fd ps []
theorem ev_call {x : Str} {p : Pos} {k n : Nat} {F : Ct} (C : Callee X.prog X.w X.K X.mg X.base x k n F) (hr : Room k X.A) (h : EvA X Γ S (e :: es) fun ds S1 => ds.length = n ∧ F ds S1 W) (hg : Gl X x := by rfl) (hdb : (x == ("__debug__" : Str)) = false := by decide)
    (he : starEach (e :: es) X.env = (false, eval e X.env) :: starEach es X.env := by rfl) (hpl : (backTo pos (starEach es X.env)).any (·.1) = false := by rfl) : Ev X Γ S (.Call (.Name x p) (e :: es) [] pos) W := by
  intro pins s σ H O I env st
  obtain ⟨f, fd, ps, hF, hm, hk, hb⟩ := C.ex
  refine wpAny_Call_Name_kw (ld_glob I hg hm ?_ hdb)
  refine PySem.W.callWith_K (h₀ := X.base) I.ok.mod.kin hk (thn (h pos pins s σ H O I env st) fun us s1 ⟨vs, H1, I1, r1, O1, ds, S1, ⟨hl, w⟩, st1, ok1, rep⟩ => ⟨I1.kIn, ?_⟩) he hpl
  refine run_fn hF hr hb .nil pass0 I1 r1 ?_
  rw [List.append_nil]
  exact ⟨O1, ds, S1, W, hl, rep, ok1, w, fun v H' q => q.pre st1⟩

/-! statements -/
structure Fin where
  nx : Gam → Store → Prop
  rt : WD
  bk : Gam → Store → Prop := fun _ _ => False
  ct : Gam → Store → Prop := fun _ _ => False
def QN (K : PySem.W.Frag) (O : Own) (H : Hp) (W : Gam → Store → Prop) : St → Hp → Prop := fun σ' H' => ∃ O' Γ' S', W Γ' S' ∧ Step O O' H H' ∧ StOk K O' H' S' ∧ EnvOk K O' H' σ' Γ'
def ends (K : PySem.W.Frag) (O : Own) (H : Hp) (W : Fin) : Ends := { nx := QN K O H W.nx, rt := QG K O H W.rt, bk := QN K O H W.bk, ct := QN K O H W.ct }
def Rn (X : Cx) (Γ : Gam) (S : Store) (st : Stmt) (W : Fin) : Prop :=
  ∀ (pins : Pins) (s : Shared) (σ : St) (H : Hp) (O : Own), Inv X pins σ H s → EnvOk X.K O H σ Γ → StOk X.K O H S →
    wpAny (model X.prog X.w) X.A (exec st X.env) (SP X pins (ends X.K O H W)) X.xe s
def Rns (X : Cx) (Γ : Gam) (S : Store) (sts : List Stmt) (W : Fin) : Prop :=
  ∀ (pins : Pins) (s : Shared) (σ : St) (H : Hp) (O : Own), Inv X pins σ H s → EnvOk X.K O H σ Γ → StOk X.K O H S →
    wpAny (model X.prog X.w) X.A (execs sts X.env) (SP X pins (ends X.K O H W)) X.xe s
theorem QN.pre {K : PySem.W.Frag} {O O1 : Own} {H H1 : Hp} (st : Step O O1 H H1) {W : Gam → Store → Prop} {v : St} {H' : Hp} (q : QN K O1 H1 W v H') : QN K O H W v H' := by
  obtain ⟨O', d, S', w, s', ok, r⟩ := q
  exact ⟨O', d, S', w, st.trans s', ok, r⟩
theorem SPpre {pins : Pins} {O O1 : Own} {H H1 : Hp} {W : Fin} (st : Step O O1 H H1) {f : Flow} {s' : Shared} (q : SP X pins (ends X.K O1 H1 W) f s') : SP X pins (ends X.K O H W) f s' := by
  cases f with
  | next => obtain ⟨σ, H', I, q⟩ := q; exact ⟨σ, H', I, QN.pre st q⟩
  | brk => obtain ⟨σ, H', I, q⟩ := q; exact ⟨σ, H', I, QN.pre st q⟩
  | cont => obtain ⟨σ, H', I, q⟩ := q; exact ⟨σ, H', I, QN.pre st q⟩
  | ret u => obtain ⟨v, σ, H', I, r, q⟩ := q; exact ⟨v, σ, H', I, r, QG.pre st q⟩
variable {W : Fin} {st : Stmt} {sts : List Stmt}
theorem rs_nil (w : W.nx Γ S) : Rns X Γ S [] W := fun pins s σ H O I env st => wpAny_execs_nil ⟨σ, H, I, O, Γ, S, w, Step.refl O H, st, env⟩
theorem rs_cons (h : Rn X Γ S st { W with nx := fun Γ1 S1 => Rns X Γ1 S1 sts W }) : Rns X Γ S (st :: sts) W := by
  intro pins s σ H O I env ok
  refine wpAny_execs_cons (thn (h pins s σ H O I env ok) fun f s1 q => ?_)
  cases f with
  | next =>
    obtain ⟨σ', H', I', O1, Γ1, S1, w, st1, ok1, env1⟩ := q
    exact thn (w pins s1 σ' H' O1 I' env1 ok1) fun _ _ q => SPpre st1 q
  | ret v => exact q
  | brk => exact q
  | cont => exact q
theorem r_ret (h : Ev X Γ S e W.rt) : Rn X Γ S (.Return (some e) pos) W := by
  intro pins s σ H O I env ok
  exact wpAny_Return_some (thn (h pins s σ H O I env ok) fun v s1 ⟨x, H1, I1, r1, q1⟩ => ⟨x, σ, H1, I1, r1, q1⟩)
theorem r_if {c : Expr} {xs ys : List Stmt} (h : Ts X Γ S c fun k S1 => (k = true → Rns X Γ S1 xs W) ∧ (k = false → Rns X Γ S1 ys W)) : Rn X Γ S (.If c xs ys pos) W := by
  intro pins s σ H O I env ok
  refine wpAny_If (thn (h pins s σ H O I env ok) fun d s1 ⟨H1, I1, O1, S1, w, st1, ok1⟩ => ?_)
  cases d with
  | true => exact thn (w.1 rfl pins s1 σ H1 O1 I1 (env.mono st1) ok1) fun _ _ q => SPpre st1 q
  | false => exact thn (w.2 rfl pins s1 σ H1 O1 I1 (env.mono st1) ok1) fun _ _ q => SPpre st1 q
theorem r_set (i : Nat) {x : Str} {pos' : Pos} (h : Ev X Γ S e fun d S1 => W.nx (Γ.set i (some d)) S1) (hN : X.N.Nodup) (hi : X.N[i]? = some x := by rfl) (hx : Loc X.env.scope x := by first | exact Or.inl rfl | exact Or.inr rfl)
    (hs : swapsWith e (some (.Name x pos')) pos.line X.env = pure false := by rfl) (hf : X.fn x = true ∨ X.env.scope.names.lookup x = some .local := by first | exact .inl rfl | exact .inr rfl) : Rn X Γ S (.Assign [.Name x pos'] e pos) W := by
  intro pins s σ H O I env ok
  refine wpAny_Assign_Name (thn (h pins s σ H O I env ok) fun v s1 ⟨y, H1, I1, r1, O1, d, S1, w, st1, ok1, rep1⟩ => ?_) hs
  exact store_ok I1 hN hi hx r1 (fun s2 I2 => ⟨_, H1, I2, O1, _, S1, w, st1, ok1, (env.mono st1).set rep1 i⟩) hf
theorem r_expr (h : Ev X Γ S e fun d S1 => W.nx Γ S1) (hs : swapsWith e none pos.line X.env = pure false := by rfl) : Rn X Γ S (.Expr e pos) W := by
  intro pins s σ H O I env ok
  exact wpAny_Expr_any (thn (h pins s σ H O I env ok) fun v s1 ⟨x, H1, I1, r1, O1, d, S1, w, st1, ok1, rep1⟩ => ⟨σ, H1, I1, O1, Γ, S1, w, st1, ok1, env.mono st1⟩) I.quiet hs
theorem r_pass (h : W.nx Γ S) : Rn X Γ S (.Pass pos) W := fun pins s σ H O I env ok => wpAny_Pass ⟨σ, H, I, O, Γ, S, h, Step.refl O H, ok, env⟩

/-! to the layer's judgements -/
def tE (K : PySem.W.Frag) (Γ : Gam) (S : Store) (W : WD) : TE := fun σ H Q => ∃ O, EnvOk K O H σ Γ ∧ StOk K O H S ∧ ∀ v H', QG K O H W v H' → Q v H'
theorem EPmono {pins : Pins} {σ : St} {Q Q' : VK} {u : Value} {s' : Shared} (q : EP X pins σ Q u s') (k : ∀ v H', Q v H' → Q' v H') : EP X pins σ Q' u s' := by
  obtain ⟨v, H', I, r, q⟩ := q
  exact ⟨v, H', I, r, k v H' q⟩
theorem Ev.pe {W : WD} (h : Ev X Γ S e W) : PE X e (tE X.K Γ S W) := fun pins s σ H Q I ⟨O, env, st, k⟩ => thn (h pins s σ H O I env st) fun _ _ q => EPmono q k
def tEA (K : PySem.W.Frag) (Γ : Gam) (S : Store) (W : List D → Store → Prop) : TA := fun σ H Q => ∃ O, EnvOk K O H σ Γ ∧ StOk K O H S ∧ ∀ v H', QA K O H W v H' → Q v H'
theorem EvA.pa {W : List D → Store → Prop} (h : EvA X Γ S es W) : PA X es (tEA X.K Γ S W) := fun pos pins s σ H Q I ⟨O, env, st, k⟩ => thn (h pos pins s σ H O I env st) fun _ _ ⟨v, H', I', r, q⟩ => ⟨v, H', I', r, k v H' q⟩

/-! o[i] = e -/
theorem r_setIx {o i : Expr} {tpos : Pos} (h : Ev X Γ S e fun d S1 => Ev X Γ S1 o fun x S2 => Ev X Γ S2 i fun y S3 => ∃ k n ds j, x = .loc k ∧ y = .int n ∧ S3[k]? = some ds ∧ ixN ds.length n = some j ∧ W.nx Γ (S3.set k (ds.set j d)))
    (ha : ∀ v, assign (.Subscript o i tpos) X.env v = (do
      let ov ← holding [v] (eval o X.env)
      let iv ← holding [v, ov] (eval i X.env)
      standAt tpos
      holding [v, ov, iv] (setItem ov iv v)
      release [v, ov, iv] []) := by intro _; rfl) (hs : swapsWithSole [.Subscript o i tpos] e pos.line X.env = pure false := by rfl) (hw : swappedStores [.Subscript o i tpos] e X.env = pure none := by rfl)
    (h1 : (assignEach [.Subscript o i tpos] X.env).map (·.2) = [assign (.Subscript o i tpos) X.env] := by rfl) : Rn X Γ S (.Assign [.Subscript o i tpos] e pos) W := by
  intro pins s σ H O I env ok
  refine wpAny_Assign_stores (thn (h pins s σ H O I env ok) fun u s1 ⟨v, H1, I1, r1, O1, d, S1, w1, st1, ok1, rep1⟩ => ?_) hs hw
  rw [h1]
  show wpAny _ _ (assign (.Subscript o i tpos) X.env u) _ _ _
  rw [ha]
  refine wpAny_bind (wpAny_holding (thn (w1 pins s1 σ H1 O1 I1 (env.mono st1) ok1) fun ov s2 ⟨x, H2, I2, r2, O2, dx, S2, w2, st2, ok2, rep2⟩ => ?_))
  refine wpAny_bind (wpAny_holding (thn (w2 pins s2 σ H2 O2 I2 ((env.mono st1).mono st2) ok2) fun iv s3 ⟨y, H3, I3, r3, O3, dy, S3, ⟨k, n, ds, j, ex, ey, hk, hj, w⟩, st3, ok3, rep3⟩ => ?_))
  subst ex
  subst ey
  have rx := rep2.mono st3
  cases rx with
  | @loc p _ hp =>
    cases rep3
    obtain ⟨xs, hx, q⟩ := ok3.obj k p ds hp hk
    have rd := (rep1.mono st2).mono st3
    refine wpAny_bind (wpAny_standAt (wpAny_bind (wpAny_holding (thn (set_list pins s3 σ H3 _ _ v ov iv u (fun H' => H' = upd H3 p (.lst (xs.set j v))) I3 r2 r3 r1 ⟨p, xs, n, j, rfl, rfl, hx, by rw [q.length]; exact hj, rfl⟩) fun _ s4 ⟨H4, I4, e4⟩ => ?_))))
    subst e4
    refine wpAny_release ⟨σ, _, I4, O3, Γ, _, w, ((st1.trans st2).trans st3).trans (Step.put (List.mem_of_getElem? hp) _), ok3.put hp (q.set rd j), (((env.mono st1).mono st2).mono st3).mono (Step.put (List.mem_of_getElem? hp) _)⟩

/-! targets -/
def BdW (X : Cx) (tg : Expr) (d : D) (Γ : Gam) (S : Store) (W : Gam → Store → Prop) : Prop :=
  ∀ (pins : Pins) (s : Shared) (σ : St) (H : Hp) (O : Own) (v : V) (u : Value), Inv X pins σ H s → EnvOk X.K O H σ Γ → StOk X.K O H S → Rep X.K O H v d → RelV v u →
    wpAny (model X.prog X.w) X.A (assign tg X.env u) (fun _ s' => ∃ σ' H', Inv X pins σ' H' s' ∧ QN X.K O H W σ' H') X.xe s
def BdsW (X : Cx) (ts : List Expr) (ds : List D) (Γ : Gam) (S : Store) (W : Gam → Store → Prop) : Prop :=
  ∀ (pins : Pins) (s : Shared) (σ : St) (H : Hp) (O : Own) (vs : List V) (us : List Value), Inv X pins σ H s → EnvOk X.K O H σ Γ → StOk X.K O H S → Reps X.K O H vs ds → Vals vs us →
    wpAny (model X.prog X.w) X.A (assignInOrder ((assignEach ts X.env).map (·.2)) us) (fun _ s' => ∃ σ' H', Inv X pins σ' H' s' ∧ QN X.K O H W σ' H') X.xe s
theorem bd_name (i : Nat) {x : Str} {d : D} {W : Gam → Store → Prop} (w : W (Γ.set i (some d)) S) (hN : X.N.Nodup) (hi : X.N[i]? = some x := by rfl) (hx : Loc X.env.scope x := by first | exact Or.inl rfl | exact Or.inr rfl)
    (hf : X.fn x = true ∨ X.env.scope.names.lookup x = some .local := by first | exact .inl rfl | exact .inr rfl) : BdW X (.Name x pos) d Γ S W := fun pins s σ H O v u I env st r ru =>
  wpAny_assign_Name (store_ok I hN hi hx ru (fun s' I' => ⟨_, H, I', O, _, S, w, Step.refl O H, st, env.set r i⟩) hf)
theorem bds_nil {W : Gam → Store → Prop} (w : W Γ S) : BdsW X [] [] Γ S W := fun pins s σ H O vs us I env st r ru => by
  cases r
  cases ru
  exact assignInOrder_nil ⟨σ, H, I, O, Γ, S, w, Step.refl O H, st, env⟩
theorem bds_cons {t : Expr} {ts : List Expr} {d : D} {ds : List D} {W : Gam → Store → Prop} (h : BdW X t d Γ S fun Γ1 S1 => BdsW X ts ds Γ1 S1 W)
    (hs : (assignEach (t :: ts) X.env).map (·.2) = assign t X.env :: (assignEach ts X.env).map (·.2) := by rfl) : BdsW X (t :: ts) (d :: ds) Γ S W := fun pins s σ H O vs us I env st r ru => by
  cases r with
  | cons r rr =>
    cases ru with
    | cons ru rru =>
      rw [hs]
      refine assignInOrder_cons (thn (h pins s σ H O _ _ I env st r ru) fun _ s1 ⟨σ1, H1, I1, O1, Γ1, S1, w, st1, ok1, env1⟩ => ?_)
      refine thn (w pins s1 σ1 H1 O1 _ _ I1 env1 ok1 (rr.mono st1) rru) fun _ s2 ⟨σ2, H2, I2, q⟩ => ⟨σ2, H2, I2, QN.pre st1 q⟩
theorem bd_tup {ts : List Expr} {k : Nat} {ds : List D} {W : Gam → Store → Prop} (h : BdsW X ts ds Γ S W) (hc : X.calm = true := by rfl) (hn : (assignEach ts X.env).length = ds.length := by rfl) (hst : (assignEach ts X.env).findIdx? (·.1) = none := by rfl) : BdW X (.Tuple ts k pos) (.tup ds) Γ S W := fun pins s σ H O v u I env st r ru => by
  cases r with
  | @tup p xs _ h1 q1 =>
    cases ru
    obtain ⟨its, rv, ht, hz⟩ := I.tuple h1.sq
    refine assign_Tuple_tuple (I.ok.hd hc) ht (by simp [hn, ← q1.length, rv.length]) hst fun h' hx => ?_
    have I1 : Inv X pins σ H { s with heap := h' } := I.kept (t' := s.toks) fun b o e => hx b o (Nat.ne_of_lt (Heap.lt_size e)) e
    exact h pins _ σ H O xs _ I1 env st q1 (by simpa using rv)

/-! iterables -/
def Yields (K : PySem.W.Frag) (J : It) (O : Own) (H : Hp) (ds : List D) : Prop :=
  ∀ (O' : Own) (H' : Hp), Conv O O' H H' → (∀ a, O'.has a → H' a ≠ none) → ∀ i : Nat, (∀ d, ds[i]? = some d → J.go i H' ∧ ∀ x H'', J.yld i H' x H'' → Same H' H'' ∧ Rep K O' H'' x d) ∧ (i = ds.length → J.stop i H')
def QI (K : PySem.W.Frag) (O : Own) (H : Hp) (W : List D → Store → Prop) : It → Hp → Prop := fun J H' => ∃ O' ds S', W ds S' ∧ Step O O' H H' ∧ StOk K O' H' S' ∧ Yields K J O' H' ds
def ItW (X : Cx) (Γ : Gam) (S : Store) (tg iter : Expr) (W : List D → Store → Prop) : Prop :=
  ∀ (pins : Pins) (s : Shared) (σ : St) (H : Hp) (O : Own), Inv X pins σ H s → EnvOk X.K O H σ Γ → StOk X.K O H S →
    wpAny (model X.prog X.w) X.A (eval iter X.env) (fun v s1 => wpAny (model X.prog X.w) X.A (pyIter v) (PIE X pins σ tg (QI X.K O H W)) X.xe s1) X.xe s
theorem yields_list {K : PySem.W.Frag} {O : Own} {H : Hp} {a : Addr} {xs : List V} {ds : List D} (h : Ls K O H a xs) (r : Reps K O H xs ds) : Yields K (Itl K a) O H ds := by
  intro O' H' st _ i
  have hq := (h.conv st).sq
  refine ⟨fun d hd => ?_, fun hi => ⟨xs, hq, by rw [r.length]; exact Nat.le_of_eq hi.symm⟩⟩
  obtain ⟨v, hv, rv⟩ := r.get hd
  refine ⟨⟨xs, v, hq, hv⟩, fun x H'' y => ?_⟩
  obtain ⟨e, y⟩ := y
  subst e
  have e := y xs hq
  rw [hv] at e
  cases e
  exact ⟨Same.refl _, rv.conv st⟩
theorem it_lst {tg : Expr} {W : List D → Store → Prop} (h : Ev X Γ S e fun d S1 => ∃ ds, d = .lst ds ∧ W ds S1) : ItW X Γ S tg e W := by
  intro pins s σ H O I env st
  refine pi_list h.pe pins s σ H _ I ⟨O, env, st, fun v H' q => ?_⟩
  obtain ⟨O', d, S', ⟨ds, ed, w⟩, st1, ok1, rep⟩ := q
  subst ed
  cases rep with
  | @lst a xs _ h1 q1 => exact ⟨a, rfl, ⟨xs, h1.sq⟩, O', ds, S', w, st1, ok1, yields_list h1 q1⟩
theorem yields_tup {K : PySem.W.Frag} {O : Own} {H : Hp} {a : Addr} {xs : List V} {ds : List D} (h : Tp K O H a xs) (r : Reps K O H xs ds) : Yields K (Itt K a) O H ds := by
  intro O' H' st _ i
  have hq := (h.conv st).sq
  refine ⟨fun d hd => ?_, fun hi => ⟨xs, hq, by rw [r.length]; exact Nat.le_of_eq hi.symm⟩⟩
  obtain ⟨v, hv, rv⟩ := r.get hd
  refine ⟨⟨xs, v, hq, hv⟩, fun x H'' y => ?_⟩
  obtain ⟨e, y⟩ := y
  subst e
  have e := y xs hq
  rw [hv] at e
  cases e
  exact ⟨Same.refl _, rv.conv st⟩
theorem it_tup {tg : Expr} {W : List D → Store → Prop} (h : Ev X Γ S e fun d S1 => ∃ ds, d = .tup ds ∧ W ds S1) : ItW X Γ S tg e W := by
  intro pins s σ H O I env st
  refine pi_tup h.pe pins s σ H _ I ⟨O, env, st, fun v H' q => ?_⟩
  obtain ⟨O', d, S', ⟨ds, ed, w⟩, st1, ok1, rep⟩ := q
  subst ed
  cases rep with
  | @tup a xs _ h1 q1 => exact ⟨a, rfl, ⟨xs, h1.sq⟩, O', ds, S', w, st1, ok1, yields_tup h1 q1⟩
/-- lo, lo + 1, .. -/
def upTo (lo : Int) (n : Nat) : List D := (List.range n).map fun (k : Nat) => D.int (lo + (k : Int))
theorem upTo_length (lo : Int) (n : Nat) : (upTo lo n).length = n := by simp [upTo]
theorem upTo_get {lo : Int} {n i : Nat} {d : D} (h : (upTo lo n)[i]? = some d) : i < n ∧ d = .int (lo + i) := by
  unfold upTo at h
  rw [List.getElem?_map] at h
  cases e : (List.range n)[i]? with
  | none => rw [e] at h; cases h
  | some k =>
    rw [e] at h
    obtain ⟨hl, hk⟩ := List.getElem?_eq_some_iff.mp e
    simp at hl hk
    subst hk
    cases h
    exact ⟨hl, rfl⟩
theorem yields_range {K : PySem.W.Frag} {O : Own} {H : Hp} (lo : Int) (n : Nat) : Yields K (Itr lo n) O H (upTo lo n) := by
  intro O' H' st _ i
  refine ⟨fun d hd => ?_, fun hi => by rw [upTo_length] at hi; exact Nat.le_of_eq hi.symm⟩
  obtain ⟨hi, ed⟩ := upTo_get hd
  subst ed
  refine ⟨hi, fun x H'' y => ?_⟩
  obtain ⟨e, ex⟩ := y
  subst e
  subst ex
  exact ⟨Same.refl _, .int _⟩
theorem it_range1 {tg a : Expr} {p : Pos} {W : List D → Store → Prop} (h : Ev X Γ S a fun d S1 => ∃ j : Int, d = .int j ∧ -(2 ^ 62) ≤ j ∧ j < 2 ^ 62 ∧ W (upTo 0 j.toNat) S1) (hm : X.mg "range" = none) (hg : Gl X "range" := by rfl) (hs : starEach [a] X.env = [(false, eval a X.env)] := by rfl) :
    ItW X Γ S tg (.Call (.Name "range" p) [a] [] pos) W := by
  intro pins s σ H O I env st
  refine pi_range1 hg hm (pa_cons h.pe pa_nil hs) hs pins s σ H _ I ⟨O, env, st, fun v H' q => ?_⟩
  obtain ⟨O', d, S', ⟨j, ed, h1, h2, w⟩, st1, ok1, rep⟩ := q
  subst ed
  cases rep
  exact ⟨j, rfl, h1, h2, O', _, S', w, st1, ok1, yields_range 0 _⟩
theorem it_range2 {tg a b : Expr} {p : Pos} {W : List D → Store → Prop} (h : Ev X Γ S a fun d S1 => Ev X Γ S1 b fun d' S2 => ∃ i j : Int, d = .int i ∧ d' = .int j ∧ (-(2 ^ 62) ≤ i ∧ i < 2 ^ 62 ∧ -(2 ^ 62) ≤ j ∧ j < 2 ^ 62) ∧ W (upTo i (j - i).toNat) S2) (hm : X.mg "range" = none) (hg : Gl X "range" := by rfl)
    (hs : starEach [a, b] X.env = [(false, eval a X.env), (false, eval b X.env)] := by rfl) (hs2 : starEach [b] X.env = [(false, eval b X.env)] := by rfl) :
    ItW X Γ S tg (.Call (.Name "range" p) [a, b] [] pos) W := by
  intro pins s σ H O I env st
  have hA : EvA X Γ S [a, b] fun ds S2 => ∃ i j : Int, ds = [.int i, .int j] ∧ (-(2 ^ 62) ≤ i ∧ i < 2 ^ 62 ∧ -(2 ^ 62) ≤ j ∧ j < 2 ^ 62) ∧ W (upTo i (j - i).toNat) S2 :=
    eva_cons (h.mono fun d S1 h1 => eva_cons (h1.mono fun d' S2 ⟨i, j, e1, e2, hb, w⟩ => eva_nil ⟨i, j, by rw [e1, e2], hb, w⟩) hs2) (by rw [hs, hs2])
  refine pi_range2 hg hm hA.pa hs hs2 pins s σ H _ I ⟨O, env, st, fun v H' q => ?_⟩
  obtain ⟨O', ds, S', ⟨i, j, ed, hb, w⟩, st1, ok1, rep⟩ := q
  subst ed
  cases rep with
  | cons r1 r2 =>
    cases r2 with
    | cons r2 r3 =>
      cases r3
      cases r1
      cases r2
      exact ⟨i, j, rfl, hb, O', _, S', w, st1, ok1, yields_range i _⟩

/-! for -/
theorem r_for {tg iter : Expr} {body : List Stmt} (h : ItW X Γ S tg iter fun ds S1 => ∃ Pv : Nat → Gam → Store → Prop, Pv 0 Γ S1 ∧
      (∀ i d Γ' S', ds[i]? = some d → Pv i Γ' S' → BdW X tg d Γ' S' fun Γ2 S2 => Rns X Γ2 S2 body { W with nx := Pv (i + 1), ct := Pv (i + 1), bk := W.nx }) ∧ (∀ Γ' S', Pv ds.length Γ' S' → W.nx Γ' S'))
    (hp : PassesOwn (model X.prog X.w) X.A X.env X.xe := by exact PassesOwn.never) (hc : X.calm = true := by rfl) (hs : ∀ x, foldedSetIterable iter X.env x = pure x := by intro _; rfl) : Rn X Γ S (.For tg iter body [] pos) W := by
  intro pins s σ H O I env ok
  let WI : List D → Store → Prop := fun ds S1 => ∃ Pv : Nat → Gam → Store → Prop, Pv 0 Γ S1 ∧
      (∀ i d Γ' S', ds[i]? = some d → Pv i Γ' S' → BdW X tg d Γ' S' fun Γ2 S2 => Rns X Γ2 S2 body { W with nx := Pv (i + 1), ct := Pv (i + 1), bk := W.nx }) ∧ (∀ Γ' S', Pv ds.length Γ' S' → W.nx Γ' S')
  have hI : PI X tg iter (fun σ H R => ∃ O, EnvOk X.K O H σ Γ ∧ StOk X.K O H S ∧ ∀ J H', QI X.K O H WI J H' → R J H') := fun pins s σ H R I ⟨O, env, st, k⟩ =>
    thn (h pins s σ H O I env st) fun _ _ q => thn q fun _ _ ⟨it, fp, tn, J, H', e1, e2, e3, e4, e5, e6⟩ => ⟨it, fp, tn, J, H', e1, e2, e3, e4, e5, k J H' e6⟩
  have hG : PG X tg (fun v σ H Q => ∃ O d Γ S W', EnvOk X.K O H σ Γ ∧ StOk X.K O H S ∧ Rep X.K O H v d ∧ BdW X tg d Γ S W' ∧ ∀ σ' H', QN X.K O H W' σ' H' → Q σ' H') := fun pins s σ H v u Q I ru ⟨O, d, Γ, S, W', env, st, r, b, k⟩ =>
    thn (b pins s σ H O v u I env st r ru) fun _ _ ⟨σ', H', I', q⟩ => ⟨σ', H', I', k σ' H' q⟩
  have hB : PSs X body (fun D σ H => ∃ O Γ S W', EnvOk X.K O H σ Γ ∧ StOk X.K O H S ∧ Rns X Γ S body W' ∧ (∀ σ' H', QN X.K O H W'.nx σ' H' → D.nx σ' H') ∧ (∀ v H', QG X.K O H W'.rt v H' → D.rt v H') ∧ (∀ σ' H', QN X.K O H W'.bk σ' H' → D.bk σ' H') ∧ ∀ σ' H', QN X.K O H W'.ct σ' H' → D.ct σ' H') :=
    fun pins s σ H D I ⟨O, Γ, S, W', env, st, b, k1, k2, k3, k4⟩ => thn (b pins s σ H O I env st) fun f s' q => by
      cases f with
      | next => obtain ⟨σ', H', I', q⟩ := q; exact ⟨σ', H', I', k1 σ' H' q⟩
      | brk => obtain ⟨σ', H', I', q⟩ := q; exact ⟨σ', H', I', k3 σ' H' q⟩
      | cont => obtain ⟨σ', H', I', q⟩ := q; exact ⟨σ', H', I', k4 σ' H' q⟩
      | ret u => obtain ⟨v, σ', H', I', r, q⟩ := q; exact ⟨v, σ', H', I', r, k2 v H' q⟩
  refine ps_for hp hc hI hG hB hs pins s σ H _ I ⟨O, env, ok, fun J H1 q => ?_⟩
  obtain ⟨O1, ds, S1, ⟨Pv, p0, pt, pe⟩, st1, ok1, yl⟩ := q
  refine ⟨fun i m σ' H' => m = ds.length - i ∧ i ≤ ds.length ∧ ∃ O' Γ' S', Pv i Γ' S' ∧ Step O1 O' H1 H' ∧ StOk X.K O' H' S' ∧ EnvOk X.K O' H' σ' Γ', ⟨ds.length, by simp, Nat.zero_le _, O1, Γ, S1, p0, Step.refl _ _, ok1, env.mono st1⟩, ?_⟩
  rintro i m σ2 H2 ⟨rfl, hi, O2, Γ2, S2, p2, st2, ok2, env2⟩
  obtain ⟨y1, y2⟩ := yl O2 H2 st2.conv (fun a ha => ok2.tracked ha) i
  by_cases hlt : i < ds.length
  · obtain ⟨go, yy⟩ := y1 ds[i] (List.getElem?_eq_getElem hlt)
    refine .inr ⟨go, fun σ' H' => i + 1 ≤ ds.length ∧ ∃ O' Γ' S', Pv (i + 1) Γ' S' ∧ Step O1 O' H1 H' ∧ StOk X.K O' H' S' ∧ EnvOk X.K O' H' σ' Γ', fun σ' H' q => ⟨ds.length - (i + 1), by omega, rfl, q.1, q.2⟩, fun x H3 y => ?_⟩
    obtain ⟨sm, rx⟩ := yy x H3 y
    have st3 := Step.same (O := O2) sm
    refine ⟨O2, ds[i], Γ2, S2, _, env2.mono st3, ok2.same sm, rx, pt i ds[i] Γ2 S2 (List.getElem?_eq_getElem hlt) p2, fun σ4 H4 q4 => ?_⟩
    obtain ⟨O4, Γ4, S4, w4, st4, ok4, env4⟩ := q4
    have stA := (st2.trans st3).trans st4
    refine ⟨O4, Γ4, S4, _, env4, ok4, w4, ?_, ?_, ?_, ?_⟩
    · rintro σ5 H5 ⟨O5, Γ5, S5, w5, st5, ok5, env5⟩
      exact ⟨hlt, O5, Γ5, S5, w5, stA.trans st5, ok5, env5⟩
    · exact fun v H' q => QG.pre (st1.trans stA) q
    · exact fun σ' H' q => QN.pre (st1.trans stA) q
    · rintro σ5 H5 ⟨O5, Γ5, S5, w5, st5, ok5, env5⟩
      exact ⟨hlt, O5, Γ5, S5, w5, stA.trans st5, ok5, env5⟩
  · have e : i = ds.length := by omega
    subst e
    exact .inl ⟨y2 rfl, O2, Γ2, S2, pe Γ2 S2 p2, st1.trans st2, ok2, env2⟩

/-! a def -/
theorem fn_ok {P : Program} {w : World} {K : PySem.W.Frag} {mg : Str → Option Value} {base : Heap} {x qual : Str} {sm : Stmt} {f : Addr} {fd : FuncData} {N ps : List Str} {k : Nat} {F : Ct} (FF : Fun K x qual sm f fd) (SC : FnScope N ps (defScope sm))
    (body : ∀ (cdv : Value) (A : Around) (outer : List Env) (s : Shared) (H : Hp) (E : XK) (ds : List D) (S : Store) (W : WD), Room k (A.deeper (envOfC qual (defScope sm) s.heap.objs.size f cdv)) → ds.length = ps.length → F ds S W →
      Rns (cxOf CX0 P w K mg base N qual (defScope sm) f cdv A outer s H E).nox (ds.map some ++ List.replicate (N.length - ds.length) none) S (defBody sm) { nx := fun _ S1 => W .non S1, rt := W }) : FnOk P w K mg base CX0 (k + 1) f fd ps (spC K ps.length F) := by
  refine FF.ok SC (fun vs H Q E h => ?_) (fun cdv A outer s H vs Q E hr h => ?_)
  · obtain ⟨O, ds, S, W, hl, r, _⟩ := h
    rw [r.length, hl]
  · obtain ⟨O, ds, S, W, hl, r, st, hF, q⟩ := h
    have hB := body cdv A outer s H E ds S W hr hl hF
    refine ⟨fun D σ H' => ∃ O Γ S W', EnvOk K O H' σ Γ ∧ StOk K O H' S ∧ Rns (cxOf CX0 P w K mg base N qual (defScope sm) f cdv A outer s H E).nox Γ S (defBody sm) W' ∧ (∀ σ' H2, QN K O H' W'.nx σ' H2 → D.nx σ' H2) ∧ (∀ v H2, QG K O H' W'.rt v H2 → D.rt v H2) ∧ (∀ σ' H2, QN K O H' W'.bk σ' H2 → D.bk σ' H2) ∧ ∀ σ' H2, QN K O H' W'.ct σ' H2 → D.ct σ' H2, ?_, ?_⟩
    · intro pins s σ H' D I ⟨O, Γ, S, W', env, st, b, k1, k2, k3, k4⟩
      refine thn (b pins s σ H' O I env st) fun f s' q => ?_
      cases f with
      | next => obtain ⟨σ', H', I', q⟩ := q; exact ⟨σ', H', I', k1 σ' H' q⟩
      | brk => obtain ⟨σ', H', I', q⟩ := q; exact ⟨σ', H', I', k3 σ' H' q⟩
      | cont => obtain ⟨σ', H', I', q⟩ := q; exact ⟨σ', H', I', k4 σ' H' q⟩
      | ret u => obtain ⟨v, σ', H', I', r, q⟩ := q; exact ⟨v, σ', H', I', r, k2 v H' q⟩
    · refine ⟨O, _, S, _, ?_, st, hB, ?_, ?_, ?_, ?_⟩
      · have hv : vs.length = ds.length := r.length
        refine ⟨by simp [L2.start, hv], fun i d h => ?_⟩
        by_cases hi : i < ds.length
        · rw [List.getElem?_append_left (by simpa using hi), List.getElem?_map] at h
          cases e : ds[i]? with
          | none => rw [e] at h; cases h
          | some d' =>
            rw [e] at h
            cases h
            obtain ⟨v, hv', rv⟩ := r.get e
            refine ⟨v, ?_, rv⟩
            unfold L2.start
            rw [List.getElem?_append_left (by rw [List.length_map, hv]; exact hi), List.getElem?_map, hv']
            rfl
        · rw [List.getElem?_append_right (by simpa using hi), List.getElem?_replicate] at h
          split at h <;> cases h
      · rintro σ' H2 ⟨O', Γ', S', w, st', ok', _⟩
        exact q _ _ ⟨O', .non, S', w, st', ok', .non⟩
      · exact fun v H2 z => q v H2 z
      · rintro σ' H2 ⟨_, _, _, w, _⟩
        exact w.elim
      · rintro σ' H2 ⟨_, _, _, w, _⟩
        exact w.elim
end
end DL

set_option Elab.async false
set_option linter.all false
set_option maxRecDepth 100000
set_option maxHeartbeats 4000000
namespace DL
open PySem PySem.Spec L2
open PyProof.Rows

/-! the names of a comprehension's block -/
def rk (env : Env) (n : Str) (k : NameKind) : NameKind := if (k == NameKind.free && env.scope.kind == .function && env.kindOf n == some .cell) = true then .cell else k
theorem rk_names (sc : Scope) (env : Env) : (relabel sc env).names = sc.names.map fun p => (p.1, rk env p.1 p.2) := by
  show sc.names.map _ = _
  congr 1
  funext p
  obtain ⟨n, k⟩ := p
  unfold rk
  by_cases h : (k == NameKind.free && env.scope.kind == .function && env.kindOf n == some .cell) = true
  · simp only [h, if_true]
  · simp only [h, if_false, Bool.false_eq_true]
theorem map_lookup (g : Str → NameKind → NameKind) (x : Str) : ∀ names : List (Str × NameKind), (names.map fun p => (p.1, g p.1 p.2)).lookup x = (names.lookup x).map (g x)
  | [] => rfl
  | (n, k) :: r => by
    have ih := map_lookup g x r
    rw [List.map_cons, List.lookup_cons, List.lookup_cons]
    cases hx : x == n with
    | true => rw [eq_of_beq hx]; rfl
    | false => exact ih
theorem rk_cases (env : Env) (n : Str) (k : NameKind) : rk env n k = k ∨ (k = .free ∧ rk env n k = .cell) := by
  unfold rk
  by_cases h : (k == NameKind.free && env.scope.kind == .function && env.kindOf n == some .cell) = true
  · rw [if_pos h]
    rw [Bool.and_eq_true, Bool.and_eq_true] at h
    exact .inr ⟨eq_of_beq h.1.1, rfl⟩
  · rw [if_neg h]; exact .inl rfl
theorem relabel_lookup {env : Env} {sc : Scope} {x : Str} {k : NameKind} (h : (relabel sc env).names.lookup x = some k) : ∃ k0, sc.names.lookup x = some k0 ∧ (k = k0 ∨ (k0 = .free ∧ k = .cell)) := by
  rw [rk_names, map_lookup] at h
  cases e : sc.names.lookup x with
  | none => rw [e] at h; cases h
  | some k0 =>
    rw [e] at h
    have h' : rk env x k0 = k := Option.some.inj h
    refine ⟨k0, rfl, ?_⟩
    rcases rk_cases env x k0 with q | ⟨q1, q2⟩
    · exact .inl (h'.symm.trans q)
    · exact .inr ⟨q1, h'.symm.trans q2⟩
theorem relabel_free {env : Env} {sc : Scope} {x : Str} (h : sc.names.lookup x = some .free) : (relabel sc env).names.lookup x = some .cell ∨ (relabel sc env).names.lookup x = some .free := by
  rw [rk_names, map_lookup, h]
  rcases rk_cases env x .free with q | ⟨_, q⟩
  · exact .inr (congrArg some q)
  · exact .inl (congrArg some q)
/-- the cells that a block takes along -/
def closes (env : Env) : List (Str × NameKind) → List (Str × Addr) → List (Str × Addr)
  | [], cs => cs
  | (n, k) :: r, cs => closes env r (if k == .free then (n, (env.cells.lookup n).getD 0) :: cs else cs)
theorem closure_run {env : Env} : ∀ (names : List (Str × NameKind)) (cs : List (Str × Addr)), (∀ y ∈ names, y.2 = .free → ∃ c, env.cells.lookup y.1 = some c) →
    (forIn (m := Sem) names cs fun x r => if (x.2 == .free) = true then do let a ← cellOf env x.1; pure (ForInStep.yield ((x.1, a) :: r)) else pure (ForInStep.yield r)) = pure (closes env names cs)
  | [], cs, _ => by rw [List.forIn_nil]; rfl
  | (n, k) :: r, cs, h => by
    rw [List.forIn_cons]
    have ih := fun cs => closure_run (env := env) r cs fun y hy => h y (List.mem_cons_of_mem _ hy)
    by_cases hk : (k == NameKind.free) = true
    · obtain ⟨c, hc⟩ := h (n, k) List.mem_cons_self (eq_of_beq hk)
      have hc' : env.cells.lookup n = some c := hc
      have e : cellOf env n = pure c := by unfold cellOf; rw [hc']
      have q := ih ((n, c) :: cs)
      simp only [hk, if_true, e, pure_bind]
      rw [q]
      simp [closes, hk, hc']
    · have q := ih cs
      simp only [hk, if_false, pure_bind, Bool.false_eq_true]
      rw [q]
      simp [closes, hk]
theorem closureFor_eq {env : Env} {sc : Scope} (h : ∀ y ∈ sc.names, y.2 = .free → ∃ c, env.cells.lookup y.1 = some c) : closureFor sc env = pure (closes env sc.names []) := by
  have q := closure_run (env := env) sc.names [] h
  unfold closureFor
  first
    | (simp only [bind_pure]; exact q)
    | (rw [show (forIn sc.names ([] : List (Str × Addr)) _ : Sem _) = _ from q]; rfl)
    | (refine Eq.trans (congrArg (fun t => t >>= pure) q) ?_; simp)
theorem closes_look {env : Env} {x : Str} {c : Addr} : ∀ (names : List (Str × NameKind)) (cs : List (Str × Addr)), (∀ y ∈ names, y.2 = .free → ∃ c, env.cells.lookup y.1 = some c) → (∀ c, cs.lookup x = some c → env.cells.lookup x = some c) → (closes env names cs).lookup x = some c → env.cells.lookup x = some c
  | [], cs, _, hc, h => hc c h
  | (n, k) :: r, cs, hf, hc, h => by
    refine closes_look r _ (fun y hy => hf y (List.mem_cons_of_mem _ hy)) ?_ h
    intro c' h'
    by_cases hk : (k == NameKind.free) = true
    · rw [if_pos hk] at h'
      obtain ⟨c2, h2⟩ := hf (n, k) List.mem_cons_self (eq_of_beq hk)
      have h2 : env.cells.lookup n = some c2 := h2
      rw [List.lookup_cons] at h'
      cases hx : x == n with
      | true =>
        rw [hx, h2] at h'
        have e : x = n := eq_of_beq hx
        subst e
        simp only [Option.getD_some] at h'
        cases h'
        exact h2
      | false => rw [hx] at h'; exact hc c' h'
    · rw [if_neg hk] at h'
      exact hc c' h'
theorem closes_has {env : Env} {x : Str} : ∀ (names : List (Str × NameKind)) (cs : List (Str × Addr)), ((∃ c, cs.lookup x = some c) ∨ names.lookup x = some .free) → ∃ c, (closes env names cs).lookup x = some c
  | [], cs, h => by
    rcases h with h | h
    · exact h
    · simp at h
  | (n, k) :: r, cs, h => by
    refine closes_has r _ ?_
    rcases h with ⟨c, h⟩ | h
    · refine .inl ?_
      by_cases hk : (k == NameKind.free) = true
      · rw [if_pos hk, List.lookup_cons]
        cases hx : x == n with
        | true => exact ⟨_, rfl⟩
        | false => exact ⟨c, h⟩
      · rw [if_neg hk]; exact ⟨c, h⟩
    · rw [List.lookup_cons] at h
      cases hx : x == n with
      | true =>
        rw [hx] at h
        simp only at h
        cases h
        refine .inl ⟨(env.cells.lookup n).getD 0, ?_⟩
        simp [List.lookup_cons, hx]
      | false => rw [hx] at h; exact .inr h

/-- the context of a block -/
def blkCx (X : Cx) (sc : Scope) (N : List Str) (C : Addr) (s : Shared) (H : Hp) (ex : List Addr) : Cx :=
  { X with N := N, s₀ := s, H₀ := H, env := compEnvC sc (closes X.env sc.names []) C X.env, outer := X.stack, stack := X.stack, ex := ex, fn := fun _ => false, pn := [] }
/-- what a block takes along: at each of its slots the outer slot -/
def capt {α : Type} (cap : List (Option Nat)) (xs : List (Option α)) : List (Option α) := cap.map fun o => o.bind fun j => (xs[j]?).join
def capOk (N : List Str) (names : List (Str × NameKind)) (N' : List Str) (names' : List (Str × NameKind)) : List (Option Nat) → List Str → Bool
  | [], [] => true
  | none :: r, _ :: t => capOk N names N' names' r t
  | some j :: r, x :: t => (N[j]? == some x) && (names.lookup x == some .cell || names.lookup x == some .free) && (names'.lookup x == some .free) && capOk N names N' names' r t
  | _, _ => false
theorem capOk_len {N : List Str} {names : List (Str × NameKind)} {N' : List Str} {names' : List (Str × NameKind)} : ∀ {cap : List (Option Nat)} {t : List Str}, capOk N names N' names' cap t = true → cap.length = t.length
  | [], [], _ => rfl
  | [], _ :: _, h => by simp [capOk] at h
  | _ :: _, [], h => by
    rename_i o r
    cases o <;> simp [capOk] at h
  | none :: r, _ :: t, h => by simp only [capOk] at h; simp [capOk_len h]
  | some j :: r, x :: t, h => by
    simp only [capOk, Bool.and_eq_true] at h
    simp [capOk_len h.2]
theorem capOk_at {N : List Str} {names : List (Str × NameKind)} {N' : List Str} {names' : List (Str × NameKind)} : ∀ {cap : List (Option Nat)} {t : List Str} {i j : Nat}, capOk N names N' names' cap t = true → cap[i]? = some (some j) →
    ∃ x, t[i]? = some x ∧ N[j]? = some x ∧ (names.lookup x = some .cell ∨ names.lookup x = some .free) ∧ names'.lookup x = some .free
  | [], _, _, _, _, h => by simp at h
  | none :: r, [], _, _, h, _ => by simp [capOk] at h
  | some _ :: r, [], _, _, h, _ => by simp [capOk] at h
  | none :: r, x :: t, 0, j, _, h => by simp at h
  | none :: r, x :: t, i + 1, j, h, e => by
    simp only [capOk] at h
    obtain ⟨y, a, b⟩ := capOk_at (i := i) h (by simpa using e)
    exact ⟨y, by simpa using a, b⟩
  | some k :: r, x :: t, 0, j, h, e => by
    simp only [capOk, Bool.and_eq_true, Bool.or_eq_true, beq_iff_eq] at h
    simp at e
    subst e
    exact ⟨x, rfl, h.1.1.1, h.1.1.2, h.1.2⟩
  | some k :: r, x :: t, i + 1, j, h, e => by
    simp only [capOk, Bool.and_eq_true] at h
    obtain ⟨y, a, b⟩ := capOk_at (i := i) h.2 (by simpa using e)
    exact ⟨y, by simpa using a, b⟩
theorem capt_at {α : Type} {cap : List (Option Nat)} {xs : List (Option α)} {i : Nat} {d : α} (h : (capt cap xs)[i]? = some (some d)) : ∃ j, cap[i]? = some (some j) ∧ xs[j]? = some (some d) := by
  unfold capt at h
  rw [List.getElem?_map] at h
  cases e : cap[i]? with
  | none => rw [e] at h; cases h
  | some o =>
    rw [e] at h
    cases o with
    | none => simp at h
    | some j =>
      simp at h
      refine ⟨j, rfl, ?_⟩
      cases q : xs[j]? with
      | none => rw [q] at h; cases h
      | some z => rw [q] at h; simp at h; rw [h]
theorem EnvOk.capt {K : PySem.W.Frag} {O : Own} {H : Hp} {σ : St} {Γ : Gam} (e : EnvOk K O H σ Γ) (cap : List (Option Nat)) : EnvOk K O H (capt cap σ) (capt cap Γ) := by
  refine ⟨by simp [DL.capt], fun i d h => ?_⟩
  obtain ⟨j, hj, hd⟩ := capt_at h
  obtain ⟨v, hv, r⟩ := e.at_ j d hd
  refine ⟨v, ?_, r⟩
  unfold DL.capt
  rw [List.getElem?_map, hj]
  simp [hv]
/-- Γ knows no more than Γ' -/
def Sub (Γ Γ' : Gam) : Prop := Γ.length = Γ'.length ∧ ∀ (i : Nat) (d : D), Γ[i]? = some (some d) → Γ'[i]? = some (some d)
theorem Sub.refl (Γ : Gam) : Sub Γ Γ := ⟨rfl, fun _ _ h => h⟩
theorem Sub.set {Γ Γ' : Gam} (s : Sub Γ Γ') (i : Nat) (d : Option D) (h : Γ[i]? = some none := by rfl) : Sub Γ (Γ'.set i d) := ⟨by rw [List.length_set]; exact s.1, fun j c hj => by
  have ne : i ≠ j := fun e => by subst e; rw [h] at hj; cases hj
  rw [List.getElem?_set_ne ne]; exact s.2 j c hj⟩
theorem EnvOk.sub {K : PySem.W.Frag} {O : Own} {H : Hp} {σ : St} {Γ Γ' : Gam} (e : EnvOk K O H σ Γ') (s : Sub Γ Γ') : EnvOk K O H σ Γ := ⟨e.len.trans s.1.symm, fun i d h => e.at_ i d (s.2 i d h)⟩
theorem EnvOk.conv {K : PySem.W.Frag} {O O' : Own} {H H' : Hp} {σ : St} {Γ : Gam} (e : EnvOk K O H σ Γ) (s : Conv O O' H H') : EnvOk K O' H' σ Γ :=
  ⟨e.len, fun i d h => let ⟨v, a, b⟩ := e.at_ i d h; ⟨v, a, b.conv s⟩⟩

def freeOk (names names' : List (Str × NameKind)) : Bool := names'.all fun y => !(y.2 == .free) || (names.lookup y.1 == some .cell || names.lookup y.1 == some .free)
theorem freeOk_at {names names' : List (Str × NameKind)} (h : freeOk names names' = true) : ∀ y ∈ names', y.2 = .free → names.lookup y.1 = some .cell ∨ names.lookup y.1 = some .free := fun y hy e => by
  have q := List.all_eq_true.mp h y hy
  simp only [e, beq_self_eq_true, Bool.not_true, Bool.false_or, Bool.or_eq_true, beq_iff_eq] at q
  exact q
section
variable {X : Cx}
/-- a block begins -/
theorem blk_inv {pins : Pins} {σ : St} {H : Hp} {s : Shared} {sc : Scope} {N' : List Str} {cap : List (Option Nat)} {fp : List Addr} {h1 : Heap} {t : Nat} (I : Inv X pins σ H s) (hfp : ∀ b ∈ fp, FpOk X pins H b) (hob : ∀ b ∈ fp, ∃ o, s.heap.get? b = some o)
    (hkind : sc.kind = .function) (hcell : ∀ y ∈ sc.names, y.2 ≠ .cell) (hfree : ∀ y ∈ sc.names, y.2 = .free → X.env.kindOf y.1 = some .cell ∨ X.env.kindOf y.1 = some .free) (hcap : capOk X.N X.env.scope.names N' sc.names cap N' = true)
    (k : ∀ b u, s.heap.get? b = some u → h1.get? b = some u) (hD : h1.get? s.heap.objs.size = some { cls := .type "list", data := .seq #[] 0 }) (hC : ∃ m, h1.Ns (s.heap.objs.size + 1) m) :
    Inv (blkCx X sc N' (s.heap.objs.size + 1) s H fp) [] (capt cap σ) (upd H s.heap.objs.size (.lst [])) { s with heap := h1, toks := t } := by
  have fr0 : H s.heap.objs.size = none := I.hok.fresh (Nat.le_refl _)
  have fr1 : H (s.heap.objs.size + 1) = none := I.hok.fresh (Nat.le_succ _)
  have hf : ∀ y ∈ sc.names, y.2 = .free → ∃ c, X.env.cells.lookup y.1 = some c := fun y hy e => I.ok.has y.1 (hfree y hy e)
  have look : ∀ {x c}, (closes X.env sc.names []).lookup x = some c → X.env.cells.lookup x = some c := fun {x c} h => closes_look sc.names [] hf (fun c h => by simp at h) h
  have lt : ∀ b ∈ fp, b < s.heap.objs.size := fun b hb => let ⟨o, e⟩ := hob b hb; Heap.lt_size e
  have clt : ∀ {x c}, (closes X.env sc.names []).lookup x = some c → c < s.heap.objs.size := fun {x c} h => by
    obtain ⟨v, q⟩ := I.cell x c (look h)
    exact q.lt
  refine ⟨⟨I.ok.mod, hkind, I.ok.glob, I.ok.blt, Nat.le_succ _, fun x y c a b => I.ok.inj x y c (look a) (look b), fun x hx => ?_, fun x c z => (nomatch z), I.ok.hd, I.ok.frames, .inl rfl, fun b hb => ⟨Nat.ne_of_lt (Nat.lt_succ_of_lt (lt b hb)), fun x c h => (hfp b hb).2.2.2.2.1 x c (look h)⟩,
    I.bs, Nat.le_trans I.ok.bsz I.sz, fun b o e hb => ?_, fun b hb z => ?_, I.stack, I.stkFree⟩, rfl, I.bare, Un.laid k (Nat.le_refl _) fr0, ?_, fun x c h => ?_, ?_, fun x c h => ?_, fun p hp => absurd (show p ∈ ([] : Pins) from hp) (by simp), I.hok.laid k (Nat.le_refl _) ⟨Nat.zero_le _, [], 0, .nil, hD⟩, ?_⟩
  · have hx' : (relabel sc X.env).names.lookup x = some .cell ∨ (relabel sc X.env).names.lookup x = some .free := hx
    have z : sc.names.lookup x = some .free := by
      rcases hx' with q | q
      · obtain ⟨k0, e, r⟩ := relabel_lookup q
        rcases r with r | r
        · exact absurd r.symm (hcell _ (PySem.mem_of_lookup e))
        · rw [e, r.1]
      · obtain ⟨k0, e, r⟩ := relabel_lookup q
        rcases r with r | r
        · rw [e, r]
        · exact absurd r.2 (by decide)
    exact closes_has sc.names [] (.inr z)
  · rcases (hfp b hb).2.2.2.1 with z | z
    · exact I.ok.noex b o e z
    · exact absurd (Nat.lt_of_lt_of_le (Heap.lt_size e) (Nat.le_trans I.ok.bsz z)) (Nat.lt_irrefl _)
  · rcases List.mem_cons.mp (I.stkSub b z) with q | q
    · exact (hfp b hb).2.1 q
    · exact (hfp b hb).2.2.1 q
  · obtain ⟨m, hm⟩ := hC
    refine ⟨m, hm, fun i x v e1 e2 e3 => ?_⟩
    obtain ⟨j, hj, hv⟩ := capt_at e2
    obtain ⟨y, a, b, c, d⟩ := capOk_at hcap hj
    have e1' : N'[i]? = some x := e1
    rw [a] at e1'
    cases e1'
    obtain ⟨m0, hn0, hl⟩ := I.loc
    have vis : Vis X.env.scope x := by
      rcases c with c | c
      · exact .inr (.inl c)
      · exact .inr (.inr c)
    obtain ⟨u, r, l⟩ := hl j x v b hv vis
    refine ⟨u, r, ?_⟩
    rcases l with ⟨q, _⟩ | ⟨q, cc, hc, hcell'⟩
    · exfalso
      have q' : X.env.scope.names.lookup x = some .local := q
      rcases c with c | c <;> · rw [c] at q'; cases q'
    · obtain ⟨c2, h2⟩ := closes_has (env := X.env) sc.names [] (.inr d)
      have e := look h2
      rw [hc] at e
      cases e
      obtain ⟨o, ho, hd⟩ := hcell'
      refine .inr ⟨?_, cc, h2, ⟨o, k _ _ ho, hd⟩⟩
      exact relabel_free d
  · obtain ⟨v, o, ho, hd⟩ := I.cell x c (look h)
    exact ⟨v, o, k _ _ ho, hd⟩
  · show upd H s.heap.objs.size (.lst []) (s.heap.objs.size + 1) = none
    rw [upd_ne (Nat.succ_ne_self _)]; exact fr1
  · rw [upd_ne (Nat.ne_of_lt (clt h))]; exact I.freeC x c (look h)
  · show (capt cap σ).length = N'.length
    rw [← capOk_len hcap]
    simp [capt]
theorem unAfter {fs ex : List Addr} {H H' : Hp} {h h1 h2 : Heap} {C : Addr} (u : Un fs ex H H' h h1) (sb : Heap.SameBut C h1 h2) (hC : ∀ b o, h.get? b = some o → b ≠ C) : Un fs ex H H' h h2 :=
  ⟨fun b o e n hb hx => (sb.2 b (hC b o e)).trans (u.keep b o e n hb hx), fun b o e n hb hx => let ⟨sl, q⟩ := u.slot b o e n hb hx; ⟨sl, (sb.2 b (hC b o e)).trans q⟩, u.free, fun b o e hx => let ⟨o', q⟩ := u.there b o e hx; ⟨o', (sb.2 b (hC b o e)).trans q⟩, u.tups, u.frzs, u.tbls⟩
theorem noXe {α : Type} {t : Sem α} {Q : α → Shared → Prop} {s : Shared} {M : Model} {A : Around} {E E' : Value → Shared → Prop} (hx : E = fun _ _ => False) (h : wpAny M A t Q E s) : wpAny M A t Q E' s := wpAny_mono h (fun _ _ q => q) fun _ _ z => by rw [hx] at z; exact z.elim
/-- the tests of a clause -/
def TsA (X : Cx) (Γ : Gam) (S : Store) : List Expr → (Bool → Store → Prop) → Prop
  | [], W => W true S
  | [c], W => Ts X Γ S c W
  | _, _ => False
theorem tsA_run {X : Cx} {Γ : Gam} {S : Store} {ifs : List Expr} {W : Bool → Store → Prop} (h : TsA X Γ S ifs W) {pins : Pins} {s : Shared} {σ : St} {H : Hp} {O : Own} (I : Inv X pins σ H s) (env : EnvOk X.K O H σ Γ) (st : StOk X.K O H S) :
    wpAny (model X.prog X.w) X.A (forIn ifs true fun c r => if r = true then do let ok ← isTrue c X.env (eval c X.env); pure (ForInStep.yield ok) else pure (ForInStep.yield r)) (TP X pins σ (QT X.K O H W)) X.xe s := by
  match ifs, h with
  | [], h => exact wpAny_tests_nil ⟨H, I, O, S, h, Step.refl O H, st⟩
  | [c], h => exact wpAny_tests_one (h pins s σ H O I env st)
  | _ :: _ :: _, h => exact h.elim

/-- what the turns of a comprehension keep -/
abbrev Turns (X : Cx) (sc : Scope) (N' : List Str) (cap : List (Option Nat)) (Γ : Gam) (elt tg : Expr) (ifs : List Expr) (W : WD) : List D → Store → Prop := fun ds S1 =>
  ds.length ≤ 1000000 ∧ ∃ Pv : Nat → List D → Store → Prop, Pv 0 [] S1 ∧
    (∀ i d acc S', ds[i]? = some d → Pv i acc S' → ∀ (C : Addr) (s : Shared) (H : Hp) (ex : List Addr), BdW (blkCx X sc N' C s H ex) tg d (capt cap Γ) S' fun Γ2 S2 => Sub (capt cap Γ) Γ2 ∧
      TsA (blkCx X sc N' C s H ex) Γ2 S2 ifs fun ok S3 => (ok = true → Ev (blkCx X sc N' C s H ex) Γ2 S3 elt fun y S4 => Pv (i + 1) (acc ++ [y]) S4) ∧ (ok = false → Pv (i + 1) acc S3)) ∧
    ∀ acc S', Pv ds.length acc S' → W (.lst acc) S'

theorem comp_core {Γ : Gam} {S : Store} {elt tg iter : Expr} {ifs : List Expr} {sc : Scope} {cpos : Pos} {N' : List Str} {cap : List (Option Nat)} {W : WD} {E : Value → Shared → Prop} {pins : Pins} {s : Shared} {σ : St} {H : Hp} {O : Own}
    {RR : Value → Addr → Result → Shared → Prop}
    (hx : X.xe = fun _ _ => False) (hc : X.calm = true) (hkind : sc.kind = .function) (hcell : ∀ y ∈ sc.names, y.2 ≠ .cell) (hfree : ∀ y ∈ sc.names, y.2 = .free → X.env.kindOf y.1 = some .cell ∨ X.env.kindOf y.1 = some .free)
    (hcap : capOk X.N X.env.scope.names N' sc.names cap N' = true) (h : ItW X Γ S tg iter (Turns X sc N' cap Γ elt tg ifs W)) (I : Inv X pins σ H s) (env : EnvOk X.K O H σ Γ) (st : StOk X.K O H S)
    (fin : ∀ (s' : Shared) (Hc : Hp) (D0 C : Addr) (m : Str → Option Value), Inv X pins σ Hc s' → s'.heap.Ns C m → FpOk X pins Hc C → D0 ≠ C → QG X.K O H W (.ref D0) Hc → RR (.ref D0) C (.ok .next) s') :
    wpAny (model X.prog X.w) X.A (eval iter X.env) (fun x s₁ => wpAny (model X.prog X.w) X.A (pyIter x) (fun it s₂ => wpAny (model X.prog X.w) X.A (newList []) (fun acc s₃ =>
      wpAny (model X.prog X.w) X.A (newFunctionEnv sc X.env.globals (closes X.env sc.names []) [] X.env.qual none .none (some X.env)) (fun cenv s₄ =>
        codeAny (model X.prog X.w) X.A (.compStart (.ListComp elt [⟨tg, iter, ifs, 0⟩] sc cpos) 0 it acc { cenv with scope := relabel sc X.env }) (RR acc cenv.locals) s₄) E s₃) E s₂) E s₁) E s := by
  refine thn (noXe hx (h pins s σ H O I env st)) fun xv s1 h1 => thn (noXe hx h1) fun itv s2 h2 => ?_
  obtain ⟨it, fp, tn, J, H2, e, I2, T, st2, f2, O2, ds, S2, ⟨hz, Pv, p0, pt, pe⟩, stp, ok2, yl⟩ := h2
  subst e
  refine wpAny_newObj_type (wpAny_newFunctionEnv hcell (by intro y hy; simp at hy) (fun h₁ hns₁ hsb₁ => ?_) hkind)
  dsimp only at hns₁ hsb₁ ⊢
  -- the places
  have hD0 : H2 s2.heap.objs.size = none := I2.hok.fresh (Nat.le_refl _)
  have hsz : (s2.heap.push { cls := .type "list", dict := none, data := .seq ([] : List Value).toArray }).objs.size = s2.heap.objs.size + 1 := Heap.size_push ..
  rw [hsz] at hns₁ hsb₁ ⊢
  have kp : ∀ b u, s2.heap.get? b = some u → h₁.get? b = some u := fun b u e =>
    (hsb₁.2 b (Nat.ne_of_lt (Nat.lt_succ_of_lt (Heap.lt_size e)))).trans (Heap.get?_push_of_some _ (Heap.get?_push_of_some _ e))
  have hD1 : h₁.get? s2.heap.objs.size = some { cls := .type "list", data := .seq #[] 0 } :=
    (hsb₁.2 _ (Nat.ne_of_lt (Nat.lt_succ_self _))).trans (Heap.get?_push_of_some _ (Heap.get?_push_size _ rfl))
  have hob : ∀ b ∈ fp, ∃ o, s2.heap.get? b = some o := fun b hb => let ⟨o, e, _⟩ := T.obj _ _ st2 b hb; ⟨o, e⟩
  have I4 := blk_inv (t := s2.toks + ([] : List (Str × Value)).length) (h1 := h₁) I2 f2 hob hkind hcell hfree hcap kp hD1 ⟨_, hns₁⟩
  generalize hX' : blkCx X sc N' (s2.heap.objs.size + 1) s2 H2 fp = X' at I4
  have pt' := fun i d acc S' a b => pt i d acc S' a b (s2.heap.objs.size + 1) s2 H2 fp
  rw [hX'] at pt'
  have eP : X'.prog = X.prog := by rw [← hX']; rfl
  have ew : X'.w = X.w := by rw [← hX']; rfl
  have eK : X'.K = X.K := by rw [← hX']; rfl
  have eA : X'.A = X.A := by rw [← hX']; rfl
  have ec : X'.calm = true := by rw [← hX']; exact hc
  have ex' : X'.xe = fun _ _ => False := by rw [← hX']; exact hx
  have eenv : X'.env = compEnvC sc (closes X.env sc.names []) (s2.heap.objs.size + 1) X.env := by rw [← hX']; rfl
  have eex : X'.ex = fp := by rw [← hX']; rfl
  have eout : X'.outer = X.stack := by rw [← hX']; rfl
  have es0 : X'.s₀ = s2 := by rw [← hX']; rfl
  have eH0 : X'.H₀ = H2 := by rw [← hX']; rfl
  have epn : X'.pn = [] := by rw [← hX']; rfl
  -- the iterator's records in the block
  have stat : ∀ {H' : Hp}, (∀ b ∈ fp, H' b = none) → ∀ b ∈ fp, FpOk X' [] H' b := fun hn b hb => by
    refine ⟨hn b hb, (I4.ok.exf b (by rw [eex]; exact hb)).1, I4.ok.exfs b (by rw [eex]; exact hb), .inl (by rw [eex]; exact hb), (I4.ok.exf b (by rw [eex]; exact hb)).2, fun p hp => ?_⟩
    rw [epn] at hp
    exact absurd hp (by simp)
  have loop : ∀ s₃ : Shared, s₃ = { s2 with heap := h₁, toks := s2.toks + ([] : List (Str × Value)).length } →
      codeAny (model X.prog X.w) X.A (.compLoop (.ListComp elt [⟨tg, iter, ifs, 0⟩] sc cpos) 0 (.ref it) (.ref s2.heap.objs.size) (compEnvC sc (closes X.env sc.names []) (s2.heap.objs.size + 1) X.env))
        (RR (.ref s2.heap.objs.size) (s2.heap.objs.size + 1)) s₃ := by
    intro s₃ es
    rw [← eenv]
    refine codeAny_loop rfl (fun n s' => ∃ i acc xs Hc Ac Sc σc, n = ds.length - i ∧ i ≤ ds.length ∧ Inv X' [] σc Hc s' ∧ tn i s'.heap ∧ (∀ b ∈ fp, Hc b = none) ∧ Pv i acc Sc ∧ Hc s2.heap.objs.size = some (.lst xs) ∧ xs.length ≤ i ∧
      Reps X.K ⟨Ac, s2.heap.objs.size :: O2.B⟩ Hc xs acc ∧ Step O2 ⟨Ac, O2.B⟩ H2 Hc ∧ StOk X.K ⟨Ac, s2.heap.objs.size :: O2.B⟩ Hc Sc ∧ EnvOk X.K ⟨Ac, s2.heap.objs.size :: O2.B⟩ Hc σc (capt cap Γ)) ?_ ds.length ?_
    · rintro n s' ⟨i, acc, xs, Hc, Ac, Sc, σc, rfl, hi, Ic, stc, frc, pc, hxs, hxl, rc, sc', okc, envc⟩
      show wpAny _ _ ((compTurn (.ListComp elt [⟨tg, iter, ifs, 0⟩] sc cpos) 0 (.ref it) (.ref s2.heap.objs.size) X'.env).onRaise (fun x => do noteFrame x X'.env; theTreesLotGoes x)) _ _ s'
      refine wpAny_noted ?_
      rw [compTurn_list]
      refine wpAny_bind (wpAny_standAt (wpAny_bind ?_))
      have cv : Conv O2 ⟨Ac, s2.heap.objs.size :: O2.B⟩ H2 Hc := by
        refine ⟨fun a u n t => ?_, sc'.conv.lc⟩
        obtain ⟨x1, x2⟩ := sc'.conv.tr a u n t
        refine ⟨fun z => ?_, x2⟩
        rcases z with z | z
        · exact x1 (.inl z)
        · rcases List.mem_cons.mp z with z | z
          · subst z; rw [hD0] at t; cases t
          · exact x1 (.inr z)
      obtain ⟨y1, y2⟩ := yl _ _ cv (fun a ha => okc.tracked ha) i
      by_cases hlt : i < ds.length
      · obtain ⟨go, yy⟩ := y1 ds[i] (List.getElem?_eq_getElem hlt)
        have it1 := T.item X' eP ew eK ec i [] s' σc Hc (fun _ _ => False) Ic (stat frc) stc go
        rw [eA] at it1
        refine wpAny_mono it1 (fun r s3 ⟨u, hr, h3⟩ => ?_) fun _ _ z => z.elim
        subst hr
        refine wpAny_bind (wpAny_mono h3 (fun _ s5 ⟨x, H5, I5, r5, y5, st5, fr5⟩ => ?_) fun _ _ z => z.elim)
        obtain ⟨sm, rx⟩ := yy x H5 y5
        have I5' := I5.pinned (stat fr5) (T.obj _ _ st5)
        have st35 := Step.same (O := ⟨Ac, s2.heap.objs.size :: O2.B⟩) sm
        have bd := pt' i ds[i] acc Sc (List.getElem?_eq_getElem hlt) pc _ s5 σc H5 ⟨Ac, s2.heap.objs.size :: O2.B⟩ x u I5' (by rw [eK]; exact envc.mono st35) (by rw [eK]; exact okc.same sm) (by rw [eK]; exact rx) r5
        rw [eP, ew, eA] at bd
        refine wpAny_bind (wpAny_mono (noXe (E' := fun _ _ => False) ex' bd) (fun _ s6 ⟨σ6, H6, I6, O6, Γ6, S6, ⟨sub6, w6⟩, st6, ok6, env6⟩ => ?_) fun _ _ z => z.elim)
        have tst := tsA_run w6 I6 env6 ok6
        rw [eP, ew, eA] at tst
        refine wpAny_bind (wpAny_mono (noXe (E' := fun _ _ => False) ex' tst) (fun ok s7 ⟨H7, I7, O7, S7, w7, st7, ok7⟩ => ?_) fun _ _ z => z.elim)
        have st57 : Step ⟨Ac, s2.heap.objs.size :: O2.B⟩ O7 Hc H7 := st35.trans (st6.trans st7)
        have eB7 : O7.B = s2.heap.objs.size :: O2.B := st57.hid
        -- behind the turn
        have next : ∀ (s9 : Shared) (H8 : Hp) (O8 : Own) (S8 : Store) (ys : List V) (acc' : List D), Step ⟨Ac, s2.heap.objs.size :: O2.B⟩ O8 Hc H8 →
            StOk X.K O8 H8 S8 → EnvOk X.K O8 H8 σ6 (capt cap Γ) → Pv (i + 1) acc' S8 → Inv X' ([] ++ pinsAt fp s5.heap) σ6 (upd H8 s2.heap.objs.size (.lst ys)) s9 → Reps X.K O8 H8 ys acc' → ys.length ≤ i + 1 →
            ∃ m, m < ds.length - i ∧ ∃ i acc xs Hc Ac Sc σc, m = ds.length - i ∧ i ≤ ds.length ∧ Inv X' [] σc Hc s9 ∧ tn i s9.heap ∧ (∀ b ∈ fp, Hc b = none) ∧ Pv i acc Sc ∧ Hc s2.heap.objs.size = some (.lst xs) ∧ xs.length ≤ i ∧
              Reps X.K ⟨Ac, s2.heap.objs.size :: O2.B⟩ Hc xs acc ∧ Step O2 ⟨Ac, O2.B⟩ H2 Hc ∧ StOk X.K ⟨Ac, s2.heap.objs.size :: O2.B⟩ Hc Sc ∧ EnvOk X.K ⟨Ac, s2.heap.objs.size :: O2.B⟩ Hc σc (capt cap Γ) := by
          intro s9 H8 O8 S8 ys acc' st8 ok8 env8 p8 I8 r8 hl8
          have eB : O8.B = s2.heap.objs.size :: O2.B := st8.hid
          obtain ⟨A8, B8⟩ := O8
          have eB' : B8 = s2.heap.objs.size :: O2.B := eB
          subst eB'
          have mem : s2.heap.objs.size ∈ (⟨A8, s2.heap.objs.size :: O2.B⟩ : Own).B := List.mem_cons_self
          refine ⟨ds.length - (i + 1), by omega, i + 1, acc', ys, _, A8, S8, σ6, rfl, hlt, I8.unpinned, T.keep _ _ _ st5 fun b hb o e => (I8.pin (b, o) (List.mem_append_right _ (List.mem_append_right _ (mem_pinsAt hb e)))).1, fun b hb => ?_, p8, upd_same, hl8,
            r8.conv (Conv.updHid mem _), sc'.inner st8 hD0 _, ok8.updHid mem _, env8.conv (Conv.updHid mem _)⟩
          obtain ⟨o, e, d⟩ := T.obj _ _ st5 b hb
          exact (I8.pin (b, o) (List.mem_append_right _ (List.mem_append_right _ (mem_pinsAt hb e)))).2.1
        rw [eK] at ok7 env6 ok6
        have hid : ∀ {O' : Own} {H' : Hp} {S' : Store}, Step ⟨Ac, s2.heap.objs.size :: O2.B⟩ O' Hc H' → H' s2.heap.objs.size = some (.lst xs) := fun st' =>
          st'.kept _ _ (fun z => okc.apart _ z List.mem_cons_self) hxs
        cases ok with
        | false =>
          refine wpAny_pure ⟨rfl, ?_⟩
          have hx7 := hid (S' := S7) st57
          have eq7 : upd H7 s2.heap.objs.size (.lst xs) = H7 := by
            funext b
            by_cases hb : b = s2.heap.objs.size
            · subst hb; rw [upd_same]; exact hx7.symm
            · exact upd_ne hb
          exact next s7 H7 O7 S7 xs acc st57 ok7 ((env6.mono st7).sub sub6) (w7.2 rfl) (by rw [eq7]; exact I7) (rc.mono st57) (Nat.le_succ_of_le hxl)
        | true =>
          have el := w7.1 rfl _ s7 σ6 H7 O7 I7 (by rw [eK]; exact env6.mono st7) (by rw [eK]; exact ok7)
          rw [eP, ew, eA] at el
          refine wpAny_bind (wpAny_bind (wpAny_mono (noXe (E' := fun _ _ => False) ex' el) (fun xe s8 ⟨v8, H8, I8, r8, O8, y, S8, w8, st8, ok8, rep8⟩ => ?_) fun _ _ z => z.elim))
          rw [eK] at ok8 rep8
          have st58 := st57.trans st8
          have hx8 := hid (S' := S8) st58
          have ap := mt_append (X := X') _ s8 σ6 H8 (.ref s2.heap.objs.size) [v8] (.ref s2.heap.objs.size) [xe] (fun v H' => H' = upd H8 s2.heap.objs.size (.lst (xs ++ [v8]))) I8 rfl (.cons r8 .nil)
            ⟨s2.heap.objs.size, xs, v8, rfl, rfl, hx8, Nat.lt_of_le_of_lt (Nat.le_trans hxl (Nat.le_trans hi hz)) (by decide), rfl⟩
          rw [eP, ew, eA] at ap
          refine wpAny_bind (wpAny_mono (noXe (E' := fun _ _ => False) ex' ap) (fun _ s9 ⟨_, H9, I9, _, e9⟩ => wpAny_pure (wpAny_pure ⟨rfl, ?_⟩)) fun _ _ z => z.elim)
          subst e9
          exact next s9 H8 O8 S8 (xs ++ [v8]) (acc ++ [y]) st58 ok8 (((env6.mono st7).mono st8).sub sub6) w8 I9 ((rc.mono st58).append (.cons rep8 .nil)) (by rw [List.length_append, List.length_singleton]; omega)
      · have e : i = ds.length := by omega
        subst e
        have dn := T.done X' eP ew eK ec ds.length [] s' σc Hc (fun _ _ => False) Ic (stat frc) stc (y2 rfl)
        rw [eA] at dn
        refine wpAny_mono dn (fun r s3 ⟨hr, I3⟩ => ?_) fun _ _ z => z.elim
        subst hr
        refine wpAny_pure ?_
        obtain ⟨m, hm, _⟩ := I3.loc
        have un : Un (frs X.stack) fp H2 Hc s2.heap s3.heap := by
          have := I3.base
          rw [eex, eH0, es0] at this
          show Un (frs X.stack) fp H2 Hc s2.heap s3.heap
          rw [← eout]
          exact this
        have os : s3.os = s2.os := by
          have := I3.os
          rw [es0] at this
          exact this
        have hok3 : HOk X.prog X.w Hc s3.heap := by
          have := I3.hok
          rw [eP, ew] at this
          exact this
        have IX : Inv X pins σ Hc s3 := I2.call' os un hok3 I3.bare (fun b hb => ⟨(f2 b hb).2.2.2.1, (f2 b hb).2.1, (f2 b hb).2.2.2.2.1, (f2 b hb).2.2.2.2.2⟩)
        have hCn : Hc (s2.heap.objs.size + 1) = none := by
          have := I3.free
          rw [eenv] at this
          exact this
        refine fin s3 Hc _ _ m IX (by rw [eenv] at hm; exact hm) (I2.fpOk (Nat.le_succ _) hCn) (Nat.ne_of_lt (Nat.lt_succ_self _)) ?_
        refine ⟨⟨Ac, O2.B⟩, .lst acc, Sc, pe acc Sc pc, stp.trans sc', okc.unhide, .lst (.inl ⟨fun z => ?_, .inl hxs⟩) (rc.conv Conv.unhide)⟩
        rcases z with z | z
        · exact okc.apart _ z List.mem_cons_self
        · exact ok2.hidden _ z hD0
    · refine ⟨0, [], [], upd H2 s2.heap.objs.size (.lst []), O2.A, S2, capt cap σ, rfl, Nat.zero_le _, by rw [es]; exact I4, by rw [es]; exact T.keep 0 s2.heap h₁ st2 fun b hb o e => kp b o e, fun b hb => ?_, p0, upd_same, Nat.le_refl 0, .nil, Step.fresh hD0 _, ok2.hide hD0 _, ((env.mono stp).capt cap).conv (Conv.hide hD0 _)⟩
      obtain ⟨o, e⟩ := hob b hb
      rw [upd_ne (Nat.ne_of_lt (Heap.lt_size e))]
      exact (f2 b hb).1
  exact codeAny_compStart_list (loop _ rfl) (T.self _ 0 _ _ _ (T.keep 0 s2.heap h₁ st2 fun b hb o e => kp b o e) (loop _ rfl))
variable {Γ : Gam} {S : Store} {elt tg iter : Expr} {ifs : List Expr} {sc : Scope} {pos : Pos} {N' : List Str} {cap : List (Option Nat)}
theorem ev_comp (N' : List Str) (cap : List (Option Nat)) {W : WD} (h : ItW X Γ S tg iter (Turns X sc N' cap Γ elt tg ifs W)) (hx : X.xe = fun _ _ => False := by rfl) (hc : X.calm = true := by rfl) (hkind : sc.kind = .function := by rfl)
    (hcell : ∀ y ∈ sc.names, y.2 ≠ .cell := by decide +kernel) (hfr : freeOk X.env.scope.names sc.names = true := by rfl)
    (hnames : ∀ y ∈ sc.names, y.2 = .local → sc.names.lookup y.1 = some .local := by decide +kernel) (hcap : capOk X.N X.env.scope.names N' sc.names cap N' = true := by rfl) (hs : ∀ x, foldedSetIterable iter X.env x = pure x := by intro _; rfl) :
    Ev X Γ S (.ListComp elt [⟨tg, iter, ifs, 0⟩] sc pos) W := by
  intro pins s σ H O I env st
  have hfree : ∀ y ∈ sc.names, y.2 = .free → X.env.kindOf y.1 = some .cell ∨ X.env.kindOf y.1 = some .free := freeOk_at hfr
  have hf : ∀ y ∈ sc.names, y.2 = .free → ∃ c, X.env.cells.lookup y.1 = some c := fun y hy e => I.ok.has y.1 (hfree y hy e)
  rw [eval_ListComp]
  refine wpAny_comprehension_free (use := none) (g := ⟨tg, iter, ifs, 0⟩) (gs := []) rfl hs (closureFor_eq hf) hkind hnames ?_
  refine comp_core (RR := fun acc C => compPost (model X.prog X.w) X.A X.xe none (EP X pins σ (QG X.K O H W)) acc C) hx hc hkind hcell hfree hcap h I env st ?_
  intro s' Hc D0 C m I' hm fp ne q
  refine ⟨m, hm, fun h' sb => ⟨.ref D0, Hc, ?_, rfl, q⟩⟩
  obtain ⟨f0, f1, f2, f3, f4, f5⟩ := fp
  exact I'.turned (t' := s'.toks) (fun b o hb e => (sb.2 b hb).trans e) f0 f1 f3 f4 f5
/-- x = [.. for ..] on one line: the store comes ahead of the block's end -/
theorem r_setComp (i : Nat) {x : Str} {pos' spos : Pos} {W : Fin} (N' : List Str) (cap : List (Option Nat)) (h : ItW X Γ S tg iter (Turns X sc N' cap Γ elt tg ifs fun d S1 => W.nx (Γ.set i (some d)) S1)) (hN : X.N.Nodup) (hi : X.N[i]? = some x := by rfl)
    (hl : Loc X.env.scope x := by first | exact Or.inl rfl | exact Or.inr rfl) (hsw : swapsWith (.ListComp elt [⟨tg, iter, ifs, 0⟩] sc pos) (some (.Name x pos')) spos.line X.env = pure true := by rfl)
    (hfn : X.fn x = true ∨ X.env.scope.names.lookup x = some .local := by first | exact .inl rfl | exact .inr rfl) (hx : X.xe = fun _ _ => False := by rfl) (hc : X.calm = true := by rfl) (hkind : sc.kind = .function := by rfl)
    (hcell : ∀ y ∈ sc.names, y.2 ≠ .cell := by decide +kernel) (hfr : freeOk X.env.scope.names sc.names = true := by rfl)
    (hnames : ∀ y ∈ sc.names, y.2 = .local → sc.names.lookup y.1 = some .local := by decide +kernel) (hcap : capOk X.N X.env.scope.names N' sc.names cap N' = true := by rfl) (hs : ∀ x, foldedSetIterable iter X.env x = pure x := by intro _; rfl) :
    Rn X Γ S (.Assign [.Name x pos'] (.ListComp elt [⟨tg, iter, ifs, 0⟩] sc pos) spos) W := by
  intro pins s σ H O I env st
  have hfree : ∀ y ∈ sc.names, y.2 = .free → X.env.kindOf y.1 = some .cell ∨ X.env.kindOf y.1 = some .free := freeOk_at hfr
  have hf : ∀ y ∈ sc.names, y.2 = .free → ∃ c, X.env.cells.lookup y.1 = some c := fun y hy e => I.ok.has y.1 (hfree y hy e)
  rw [exec_Assign_Name_used _ _ _ _ hsw]
  refine wpAny_bind (wpAny_standAt (wpAny_bind ?_))
  show wpAny _ X.A (do let _ ← comprehension (.ListComp elt [⟨tg, iter, ifs, 0⟩] sc pos) sc X.env _ (newList []) false (eval iter X.env) (some (assign (.Name x pos') X.env))) _ _ s
  refine wpAny_bind (wpAny_mono (wpAny_comprehension_free (use := some (assign (.Name x pos') X.env)) (g := ⟨tg, iter, ifs, 0⟩) (gs := []) (Q := fun _ s' => SP X pins (ends X.K O H W) .next s') rfl hs (closureFor_eq hf) hkind hnames ?_) (fun _ s' hq => wpAny_pure (wpAny_pure hq)) fun _ _ e => e)
  refine comp_core (RR := fun acc C => compPost (model X.prog X.w) X.A X.xe (some (assign (.Name x pos') X.env)) (fun _ s' => SP X pins (ends X.K O H W) .next s') acc C) hx hc hkind hcell hfree hcap h I env st ?_
  intro s' Hc D0 C m I' hm fp ne q
  show wpAny _ X.A (assign (.Name x pos') X.env (.ref D0)) _ _ _
  refine wpAny_assign_Name (store_ok2 I' hN hi hl (show RelV (.ref D0) (.ref D0) from rfl) (fun s2 I2 ⟨a, sa, ha⟩ => ?_) hfn)
  obtain ⟨f0, f1, f2, f3, f4, f5⟩ := fp
  have neC : C ≠ a := by
    rcases ha with z | z
    · rw [z]; exact f1
    · exact (f4 x a z).symm
  refine ⟨m, hm.sameBut sa neC, fun h' sb => ?_⟩
  obtain ⟨O', d, S', w, stp, okp, rep⟩ := q
  exact ⟨_, Hc, I2.turned (t' := s2.toks) (fun b o hb e => (sb.2 b hb).trans e) f0 f1 f3 f4 f5, O', _, S', w, stp, okp, (env.mono stp).set rep i⟩
end
end DL

set_option Elab.async false
set_option linter.all false
set_option maxRecDepth 100000
set_option maxHeartbeats 4000000
namespace DL
open PySem PySem.Spec L2
open PyProof.Rows

/-! isinstance -/
def tyD : D → String
  | .non => "NoneType" | .bl _ => "bool" | .int _ => "int" | .str _ => "str" | .tup _ => "tuple" | .lst _ => "list" | .loc _ => "list" | .dic => "dict"
def isi (t c : String) : Bool := t == c || (t == "bool" && c == "int")
def isT (c : String) : Bool := c == "int" || c == "bool" || c == "tuple" || c == "list"
theorem kit_at (K : PySem.W.Frag) (d : D) {c : String} (hc : isT c = true) : PySem.W.kitOne K (.type (tyD d)) (.type c) = some (isi (tyD d) c) := by
  have h : c = "int" ∨ c = "bool" ∨ c = "tuple" ∨ c = "list" := by
    simp only [isT, Bool.or_eq_true, beq_iff_eq] at hc
    rcases hc with ((h | h) | h) | h
    · exact .inl h
    · exact .inr (.inl h)
    · exact .inr (.inr (.inl h))
    · exact .inr (.inr (.inr h))
  rcases h with h | h | h | h <;> subst h <;> cases d <;> kernel_rfl
section
variable {X : Cx} {Γ : Gam} {S : Store} {W : WD} {a b e : Expr} {es : List Expr} {pos : Pos}
theorem isi_run {pins : Pins} {s : Shared} {σ : St} {H : Hp} {O : Own} {v : V} {u c : Value} {d : D} {A : Around} {E : Value → Shared → Prop} {Q : Value → Shared → Prop} (I : Inv X pins σ H s) (st : StOk X.K O H S) (r : Rep X.K O H v d) (ru : RelV v u)
    (go : ∀ {x t : Value} {Hh : Heap → Prop}, PySem.W.KitX X.K x t Hh → t = .type (tyD d) → Hh s.heap → x ≠ .builtin "__main__.__loader__#opaque" → wpAny (model X.prog X.w) A (call (.builtin "isinstance") [x, c]) Q E s) :
    wpAny (model X.prog X.w) A (call (.builtin "isinstance") [u, c]) Q E s := by
  cases r with
  | non => cases ru; exact go PySem.W.kitx_none rfl True.intro (fun z => nomatch z)
  | bl y => cases ru; exact go PySem.W.kitx_bool rfl True.intro (fun z => nomatch z)
  | int y => obtain ⟨t, rfl⟩ := ru; exact go PySem.W.kitx_int rfl True.intro (fun z => nomatch z)
  | str y => obtain ⟨t, rfl⟩ := ru; exact go PySem.W.kitx_str rfl True.intro (fun z => nomatch z)
  | tup h1 q1 =>
    cases ru
    obtain ⟨its, _, ⟨o, h2, h3, _⟩, _⟩ := I.tuple h1.sq
    exact go PySem.W.kitx_tuple rfl ⟨o, h2, h3⟩ (fun z => nomatch z)
  | lst h1 q1 =>
    cases ru
    obtain ⟨its, _, pl, _⟩ := I.list h1.sq
    obtain ⟨o, h2, h3, _⟩ := pl.isList
    exact go PySem.W.kitx_list rfl ⟨o, h2, h3⟩ (fun z => nomatch z)
  | @loc p k hk =>
    cases ru
    have hl : k < S.length := by rw [← st.len]; exact (List.getElem?_eq_some_iff.mp hk).1
    obtain ⟨xs, hx, _⟩ := st.obj k p S[k] hk (List.getElem?_eq_getElem hl)
    obtain ⟨its, _, pl, _⟩ := I.list (SqL.of hx)
    obtain ⟨o, h2, h3, _⟩ := pl.isList
    exact go PySem.W.kitx_list rfl ⟨o, h2, h3⟩ (fun z => nomatch z)
  | @dic p h1 h2 =>
    cases ru
    obtain ⟨_, _, vs, _, o, es, ep, h3, h4, _⟩ := (show ObjOk X.prog X.w H s.heap p (.dK []) from I.hok p _ h2)
    exact go PySem.W.kitx_dict rfl ⟨o, h3, h4.1⟩ (fun z => nomatch z)
theorem ev_isi {T : Str} {Tn : String} {p q : Pos} (h : Ev X Γ S a fun x S1 => W (.bl (isi (tyD x) Tn)) S1) (hT : isT Tn = true) (hb : bootBuiltins T = some (.type Tn)) (hm1 : X.mg "isinstance" = none) (hm : X.mg T = none) (hg1 : Gl X "isinstance" := by rfl) (hg : Gl X T := by rfl)
    (hn : T ≠ "__name__" := by decide) (hdb : (T == ("__debug__" : Str)) = false := by decide) (hs1 : starEach [a, .Name T q] X.env = (false, eval a X.env) :: starEach [.Name T q] X.env := by rfl) (hs2 : starEach [.Name T q] X.env = [(false, eval (.Name T q) X.env)] := by rfl) :
    Ev X Γ S (.Call (.Name "isinstance" p) [a, .Name T q] [] pos) W := by
  intro pins s σ H O I env st
  have hc : CallR X (.builtin "isinstance") (fun xs H' Q => ∃ v, xs = [v, .ty Tn] ∧ ∃ O' d S', StOk X.K O' H' S' ∧ Rep X.K O' H' v d ∧ Q (.bl (isi (tyD d) Tn)) H') := by
    intro pins s σ H xs us Q I r h
    obtain ⟨v, rfl, O', d, S', st', rep, q⟩ := h
    obtain ⟨u, u2, rfl, r1, r2⟩ := vals2 r
    cases r2
    refine isi_run I st' rep r1 fun Z e p ne => ?_
    subst e
    exact PySem.W.kia_one Z I.kIn p (kit_at X.K d hT) ne fun tk => ⟨.bl _, H, I.tok tk, rfl, q⟩
  refine pe_callB hc hg1 hm1 PyProof.Rows.boot_isinstance (pa_cons h.pe (pa_cons (pe_bltn hg hm hb (v := .ty Tn) rfl hn hdb) pa_nil hs2) hs1) (by decide) (by decide) hs1 (by rw [hs2]; rfl) pins s σ H _ I ⟨O, env, st, fun v H' q => ?_⟩
  obtain ⟨O', d, S', w, st1, ok1, rep⟩ := q
  exact ⟨v, rfl, O', d, S', ok1, rep, O', _, S', w, st1, ok1, .bl _⟩
/-- isinstance(a, (T1, T2)) -/
theorem ev_isi2 {T1 T2 : Str} {n1 n2 : String} {p q1 q2 q3 : Pos} {x1} (h : Ev X Γ S a fun x S1 => W (.bl (isi (tyD x) n1 || isi (tyD x) n2)) S1) (hT1 : isT n1 = true) (hT2 : isT n2 = true) (hb1 : bootBuiltins T1 = some (.type n1)) (hb2 : bootBuiltins T2 = some (.type n2)) (hmi : X.mg "isinstance" = none) (hm1 : X.mg T1 = none) (hm2 : X.mg T2 = none)
    (hgi : Gl X "isinstance" := by rfl) (hg1 : Gl X T1 := by rfl) (hg2 : Gl X T2 := by rfl) (hn1 : T1 ≠ "__name__" := by decide) (hd1 : (T1 == ("__debug__" : Str)) = false := by decide) (hn2 : T2 ≠ "__name__" := by decide) (hd2 : (T2 == ("__debug__" : Str)) = false := by decide)
    (hs1 : starEach [a, .Tuple [.Name T1 q1, .Name T2 q2] x1 q3] X.env = (false, eval a X.env) :: starEach [.Tuple [.Name T1 q1, .Name T2 q2] x1 q3] X.env := by rfl) (hs2 : starEach [.Tuple [.Name T1 q1, .Name T2 q2] x1 q3] X.env = [(false, eval (.Tuple [.Name T1 q1, .Name T2 q2] x1 q3) X.env)] := by rfl)
    (hs3 : starEach [.Name T1 q1, .Name T2 q2] X.env = (false, eval (.Name T1 q1) X.env) :: starEach [.Name T2 q2] X.env := by rfl) (hs4 : starEach [.Name T2 q2] X.env = [(false, eval (.Name T2 q2) X.env)] := by rfl) :
    Ev X Γ S (.Call (.Name "isinstance" p) [a, .Tuple [.Name T1 q1, .Name T2 q2] x1 q3] [] pos) W := by
  intro pins s σ H O I env st
  have hc : CallR X (.builtin "isinstance") (fun xs H' Q => ∃ v tp, xs = [v, .ref tp] ∧ H' tp = some (.tup [.ty n1, .ty n2]) ∧ ∃ O' d S', StOk X.K O' H' S' ∧ Rep X.K O' H' v d ∧ Q (.bl (isi (tyD d) n1 || isi (tyD d) n2)) H') := by
    intro pins s σ H xs us Q I r h
    obtain ⟨v, tp, rfl, ht, O', d, S', st', rep, q⟩ := h
    obtain ⟨u, u2, rfl, r1, r2⟩ := vals2 r
    cases r2
    obtain ⟨its, rv, ⟨⟨cls, dd, data, sl⟩, e1, e2, n, e3⟩, _⟩ := I.tuple (SqT.of (K := X.K) ht)
    simp only at e2 e3
    subst e2 e3
    cases rv with
    | cons z1 rv =>
      cases rv with
      | cons z2 rv =>
        cases rv
        cases z1
        cases z2
        refine isi_run I st' rep r1 fun Z e p ne => ?_
        subst e
        refine PySem.W.kia_tup Z I.kIn p e1 (b := isi (tyD d) n1 || isi (tyD d) n2) ?_ ne fun tk => ⟨.bl _, H, I.tok tk, rfl, q⟩
        unfold PySem.W.kitAny
        rw [kit_at X.K d hT1]
        cases isi (tyD d) n1 with
        | true => rfl
        | false =>
          simp only
          unfold PySem.W.kitAny
          rw [kit_at X.K d hT2]
          cases isi (tyD d) n2 <;> rfl
  refine pe_callB hc hgi hmi PyProof.Rows.boot_isinstance (pa_cons h.pe (pa_cons (pe_tup (pa_cons (pe_bltn hg1 hm1 hb1 (v := .ty n1) rfl hn1 hd1) (pa_cons (pe_bltn hg2 hm2 hb2 (v := .ty n2) rfl hn2 hd2) pa_nil hs4) hs3)) pa_nil hs2) hs1) (by decide) (by decide) hs1 (by rw [hs2]; rfl) pins s σ H _ I ⟨O, env, st, fun v H' q => ?_⟩
  obtain ⟨O', d, S', w, st1, ok1, rep⟩ := q
  refine ⟨by show 2 ≤ sizeLine; decide, fun tp hp => ⟨v, tp, rfl, upd_same, O', d, S', ok1.fresh hp _, rep.mono (Step.fresh hp _), O', _, S', w, st1.trans (Step.fresh hp _), ok1.fresh hp _, .bl _⟩⟩

/-! all, sum -/
theorem range_all {α : Type} (f : α → Bool) (d : α) : ∀ (bs : List α) (k : Nat), ((List.range' k bs.length).all fun i => f ((List.replicate k d ++ bs).getD i d)) = bs.all f
  | [], _ => by simp
  | b :: bs, k => by
    have ih := range_all f d bs (k + 1)
    rw [List.length_cons, List.range'_succ, List.all_cons, List.all_cons]
    congr 1
    · simp [List.getD]
    · rw [← ih]
      have e : List.replicate k d ++ b :: bs = (List.replicate k d ++ [b]) ++ bs := by simp
      rw [List.all_eq, List.all_eq]
      congr 1
      apply propext
      constructor
      · intro h i hi
        have := h i hi
        rw [List.mem_range'] at hi
        obtain ⟨j, hj, rfl⟩ := hi
        simp only [List.getD, List.getElem?_append, List.length_replicate] at this ⊢
        have g1 : ¬ (k + 1 + 1 * j < k) := by omega
        have g2 : ¬ (k + 1 + 1 * j < k + 1) := by omega
        rw [if_neg g1] at this
        rw [if_neg g2]
        have e1 : k + 1 + 1 * j - k = (k + 1 + 1 * j - (k + 1)) + 1 := by omega
        rw [e1, List.getElem?_cons_succ] at this
        exact this
      · intro h i hi
        have := h i hi
        rw [List.mem_range'] at hi
        obtain ⟨j, hj, rfl⟩ := hi
        simp only [List.getD, List.getElem?_append, List.length_replicate] at this ⊢
        have g1 : ¬ (k + 1 + 1 * j < k) := by omega
        have g2 : ¬ (k + 1 + 1 * j < k + 1) := by omega
        rw [if_neg g2] at this
        rw [if_neg g1]
        have e1 : k + 1 + 1 * j - k = (k + 1 + 1 * j - (k + 1)) + 1 := by omega
        rw [e1, List.getElem?_cons_succ]
        exact this
theorem range_allB (bs : List Bool) : ((List.range bs.length).all fun i => bs.getD i false) = bs.all id := by
  have := range_all id false bs 0
  simpa [List.range_eq_range'] using this
theorem k_all {bs : List Bool} (w : W (.bl (bs.all id)) S) (hc : X.calm = true := by rfl) : CalW X (.builtin "all") [.lst (bs.map .bl)] S W := by
  intro pins s σ H O vs us I st r ru
  obtain ⟨v, rfl, r'⟩ := reps1 r
  obtain ⟨u, rfl, ru'⟩ := vals1 ru
  cases r' with
  | @lst a xs _ h1 q1 =>
    cases ru'
    obtain ⟨its, rv, pl, hz⟩ := I.list h1.sq
    have ex := q1.bools
    subst ex
    have hlen : its.length = bs.length := by rw [← rv.length]; simp
    refine call_all_walk (wpAny_pyIter_list pl.isList ?_)
    have ne : a ≠ s.heap.objs.size := by
      obtain ⟨o, e, _⟩ := pl.isList
      exact Nat.ne_of_lt (Heap.lt_size e)
    refine ⟨_, _, _, _, _, _, fun i => bs.getD i false, rfl, Walks.list (A := X.A.in1) (I.ok.hd hc) _ a ne its.toArray, ⟨⟨_, Heap.get?_push_size _ rfl, rfl, rfl⟩, pl.isList.push _⟩, fun i v s' Q' E' hv hq => ?_, fun h' tk hk => ?_⟩
    · have hv : its[i]? = some v := by simpa using hv
      have hi : i < bs.length := by rw [← hlen]; exact (List.getElem?_eq_some_iff.mp hv).1
      obtain ⟨z, hz', rz⟩ := rv.get (i := i) (x := V.bl bs[i]) (by rw [List.getElem?_map, List.getElem?_eq_getElem hi]; rfl)
      rw [hv] at hz'
      cases hz'
      cases rz
      have e : bs.getD i false = bs[i] := by simp [List.getD, hi]
      have hq' : Q' (bs.getD i false) s' := hq
      rw [e] at hq'
      exact wpAny_truthy_bool hq'
    · have e : (List.range its.toArray.size).all (fun i => bs.getD i false) = bs.all id := by rw [List.size_toArray, hlen]; exact range_allB bs
      rw [e]
      refine ⟨.bl _, H, I.kept (fun b o q => hk b o (fun z => ?_) (Heap.get?_push_of_some _ q)), rfl, QG.here w st (.bl _)⟩
      have z' : b = s.heap.objs.size := by simpa using z
      exact absurd (Heap.lt_size q) (by rw [z']; exact Nat.lt_irrefl _)
theorem k_sum {ns : List Int} (w : W (.int ns.sum) S) (hc : X.calm = true := by rfl) : CalW X (.builtin "sum") [.lst (ns.map .int)] S W := by
  intro pins s σ H O vs us I st r ru
  obtain ⟨v, rfl, r'⟩ := reps1 r
  obtain ⟨u, rfl, ru'⟩ := vals1 ru
  cases r' with
  | @lst a xs _ h1 q1 =>
    cases ru'
    obtain ⟨its, rv, pl, hz⟩ := I.list h1.sq
    have ex := q1.ints
    subst ex
    have hi : IntsAre its ns := intsAre_of rv
    obtain ⟨zs, ez⟩ := hi.allInts.items
    have hL := pl.isList
    rw [ez] at hL
    refine sum_intListG (I.ok.hd hc) hL fun h' tk t' hk => ?_
    have e : preSum (numAt zs) zs.size = ns.sum := by
      rw [preSum_eq, List.take_of_length_le (by simp), ← nums_intItems, ← ez]
      exact congrArg List.sum hi.numsOf
    rw [e]
    exact ⟨.int _, H, I.kept hk, ⟨_, rfl⟩, QG.here w st (.int _)⟩

/-! {} -/
theorem ev_dict0 (w : W .dic S) : Ev X Γ S (.Dict [] [] pos) W := by
  intro pins s σ H O I env st
  have hp : H s.heap.objs.size = none := I.hok.fresh (Nat.le_refl _)
  have big : sysModules < s.heap.objs.size := Nat.lt_trans (by decide) (show mainGlobals < s.heap.objs.size from (I.mod.glob.keeps I.bk).lt)
  refine wpAny_Dict_empty ⟨.ref s.heap.objs.size, _, I.laid (a := s.heap.objs.size) (o := .dK []) (t' := s.toks) (fun _ _ q => Heap.get?_push_of_some _ q) (Nat.le_refl _) ⟨Nat.zero_le _, beq_eq_false_iff_ne.mpr (Ne.symm (Nat.ne_of_lt big)), [], .nil, Heap.DictOf.new s.heap⟩, rfl, ?_⟩
  exact ⟨O, .dic, S, w, Step.fresh hp _, st.fresh hp _, .dic (st.fresh_not hp) upd_same⟩

/-! x != x, x == x -/
mutual
def deep : D → Nat
  | .tup ds => deeps ds + 1
  | .lst ds => deeps ds + 1
  | .dic => 1
  | _ => 0
def deeps : List D → Nat
  | [] => 0
  | d :: ds => max (deep d) (deeps ds)
end
mutual
def noloc : D → Bool
  | .tup ds => nolocs ds
  | .lst ds => nolocs ds
  | .loc _ => false
  | _ => true
def nolocs : List D → Bool
  | [] => true
  | d :: ds => noloc d && nolocs ds
end
theorem deeps_le {d : D} : ∀ {ds : List D} {i : Nat}, ds[i]? = some d → deep d ≤ deeps ds
  | [], _, h => by simp at h
  | c :: ds, 0, h => by simp at h; subst h; simp [deeps]; omega
  | c :: ds, i + 1, h => by
    have := deeps_le (ds := ds) (i := i) (by simpa using h)
    simp [deeps]; omega
theorem nolocs_at {d : D} : ∀ {ds : List D} {i : Nat}, nolocs ds = true → ds[i]? = some d → noloc d = true
  | [], _, _, h => by simp at h
  | c :: ds, 0, n, h => by simp at h; subst h; simp [nolocs] at n; exact n.1
  | c :: ds, i + 1, n, h => by
    simp [nolocs] at n
    exact nolocs_at (ds := ds) (i := i) n.2 (by simpa using h)
theorem dic_both {pins : Pins} {s : Shared} {σ : St} {H : Hp} {a : Addr} (I : Inv X pins σ H s) (h : H a = some (.dK [])) : (a == sysModules) = false ∧ s.heap.DictOf (mixKind X.prog X.w) a [] := by
  obtain ⟨_, h2, vs, h3, h4⟩ := (show ObjOk X.prog X.w H s.heap a (.dK []) from I.hok a _ h)
  cases h3
  exact ⟨h2, h4⟩
theorem dict0 {P P' : Program} {w w' : World} {h : Heap} {a : Addr} (d : h.DictOf (mixKind P w) a []) : h.DictOf (mixKind P' w') a [] := by
  obtain ⟨o, es, ep, h1, h2, h3, h4, h5, h6⟩ := d
  have e : es = #[] := by
    have q0 : ∀ l, Pairs (mixKind P w) l ([] : List (Key × Value)) → l = [] := by
      intro l hl
      cases hl
      rfl
    have q : es.toList = [] := q0 _ h5
    exact Array.toList_eq_nil_iff.mp q
  subst e
  exact ⟨o, #[], ep, h1, h2, h3, fun _ he => by simp at he, Pairs.nil, List.nodup_nil⟩
theorem eqSelf (n : Nat) : ∀ (x : D), deep x ≤ n → noloc x = true → ∀ {pins : Pins} {s : Shared} {σ : St} {H : Hp} {O : Own} {v w : V} {u u' : Value} {A : Around}, Inv X pins σ H s → Rep X.K O H v x → Rep X.K O H w x → RelV v u → RelV w u' → A.units + n < cLine → SeqAt.EqAt A s u u' true := by
  induction n with
  | zero =>
    intro x hx hn pins s σ H O v w u u' A I r1 r2 ru ru' hu
    cases r1 with
    | non => cases r2; cases ru; cases ru'; exact SeqAt.EqAt.same _
    | bl b => cases r2; cases ru; cases ru'; exact SeqAt.EqAt.same _
    | int i =>
      cases r2; obtain ⟨t, rfl⟩ := ru; obtain ⟨t', rfl⟩ := ru'
      have := SeqAt.EqAt.int_int (A := A) (s := s) i t i t'
      rw [beq_self_eq_true] at this
      exact this
    | str i =>
      cases r2; obtain ⟨t, rfl⟩ := ru; obtain ⟨t', rfl⟩ := ru'
      have := SeqAt.EqAt.str_str (A := A) (s := s) i t i t'
      rw [beq_self_eq_true] at this
      exact this
    | tup _ _ => simp [deep] at hx
    | lst _ _ => simp [deep] at hx
    | loc _ => simp [noloc] at hn
    | dic _ _ => simp [deep] at hx
  | succ n ih =>
    intro x hx hn pins s σ H O v w u u' A I r1 r2 ru ru' hu
    cases r1 with
    | non => cases r2; cases ru; cases ru'; exact SeqAt.EqAt.same _
    | bl b => cases r2; cases ru; cases ru'; exact SeqAt.EqAt.same _
    | int i =>
      cases r2; obtain ⟨t, rfl⟩ := ru; obtain ⟨t', rfl⟩ := ru'
      have := SeqAt.EqAt.int_int (A := A) (s := s) i t i t'
      rw [beq_self_eq_true] at this
      exact this
    | str i =>
      cases r2; obtain ⟨t, rfl⟩ := ru; obtain ⟨t', rfl⟩ := ru'
      have := SeqAt.EqAt.str_str (A := A) (s := s) i t i t'
      rw [beq_self_eq_true] at this
      exact this
    | @tup a xs ds h1 q1 =>
      cases r2 with
      | @tup b ys _ h2 q2 =>
        cases ru; cases ru'
        by_cases e : a = b
        · subst e; exact SeqAt.EqAt.same _
        · obtain ⟨its, v1, p1, _⟩ := I.tuple h1.sq
          obtain ⟨its2, v2, p2, _⟩ := I.tuple h2.sq
          have l1 : its.length = ds.length := by rw [← v1.length, q1.length]
          have l2 : its2.length = ds.length := by rw [← v2.length, q2.length]
          have rc := SeqAt.RcAt.tuples (A := A) (e := fun _ => true) (show s.heap.IsTuple a its.toArray from p1) (show s.heap.IsTuple b its2.toArray from p2) (by omega) (fun j j1 j2 => ?_)
          · have e2 : ((List.range (min its.toArray.size its2.toArray.size)).all (fun _ => true) && its.toArray.size == its2.toArray.size) = true := by simp [l1, l2]
            rw [e2] at rc
            exact SeqAt.EqAt.of_refs e rc
          · have hj : j < ds.length := by simpa [l1] using j1
            obtain ⟨z1, a1, b1⟩ := q1.get (List.getElem?_eq_getElem hj)
            obtain ⟨z2, a2, b2⟩ := q2.get (List.getElem?_eq_getElem hj)
            obtain ⟨u1, c1, d1⟩ := v1.get a1
            obtain ⟨u2, c2, d2⟩ := v2.get a2
            have e1 : its.toArray[j] = u1 := by have := (List.getElem?_eq_some_iff.mp c1).2; simpa using this
            have e2 : its2.toArray[j] = u2 := by have := (List.getElem?_eq_some_iff.mp c2).2; simpa using this
            rw [e1, e2]
            have hd := deeps_le (List.getElem?_eq_getElem hj)
            exact ih ds[j] (by simp [deep] at hx; omega) (nolocs_at (by simpa [noloc] using hn) (List.getElem?_eq_getElem hj)) I b1 b2 d1 d2 (by show A.units + 1 + n < cLine; omega)
    | @lst a xs ds h1 q1 =>
      cases r2 with
      | @lst b ys _ h2 q2 =>
        cases ru; cases ru'
        by_cases e : a = b
        · subst e; exact SeqAt.EqAt.same _
        · obtain ⟨its, v1, p1, _⟩ := I.list h1.sq
          obtain ⟨its2, v2, p2, _⟩ := I.list h2.sq
          have l1 : its.length = ds.length := by rw [← v1.length, q1.length]
          have l2 : its2.length = ds.length := by rw [← v2.length, q2.length]
          have rc := SeqAt.RcAt.lists (A := A) (e := fun _ => true) p1.isList p2.isList (by simp [l1, l2]) (by omega) (fun j j1 j2 => ?_)
          · have e2 : (List.range its.toArray.size).all (fun _ => true) = true := by simp
            rw [e2] at rc
            exact SeqAt.EqAt.of_refs e rc
          · have hj : j < ds.length := by simpa [l1] using j1
            obtain ⟨z1, a1, b1⟩ := q1.get (List.getElem?_eq_getElem hj)
            obtain ⟨z2, a2, b2⟩ := q2.get (List.getElem?_eq_getElem hj)
            obtain ⟨u1, c1, d1⟩ := v1.get a1
            obtain ⟨u2, c2, d2⟩ := v2.get a2
            have e1 : its.toArray[j] = u1 := by have := (List.getElem?_eq_some_iff.mp c1).2; simpa using this
            have e2 : its2.toArray[j] = u2 := by have := (List.getElem?_eq_some_iff.mp c2).2; simpa using this
            rw [e1, e2]
            have hd := deeps_le (List.getElem?_eq_getElem hj)
            exact ih ds[j] (by simp [deep] at hx; omega) (nolocs_at (by simpa [noloc] using hn) (List.getElem?_eq_getElem hj)) I b1 b2 d1 d2 (by show A.units + 1 + n < cLine; omega)
    | loc _ => simp [noloc] at hn
    | @dic a h1 e1 =>
      cases r2 with
      | @dic b h2 e2 =>
        cases ru; cases ru'
        by_cases e : a = b
        · subst e; exact SeqAt.EqAt.same _
        · obtain ⟨z1, d1⟩ := dic_both I e1
          obtain ⟨z2, d2⟩ := dic_both I e2
          refine SeqAt.EqAt.of_refs e fun prog w' E Q hq => ?_
          exact PySem.W.keq_eq (knd := mixKind prog w') z1 z2 (dict0 d1) (dict0 d2) (by omega) (fun _ => .nil) (by simpa using hq)
end
end DL

set_option Elab.async false
set_option linter.all false
set_option maxRecDepth 100000
set_option maxHeartbeats 4000000
namespace DL
open PySem PySem.Spec L2
open PyProof.Rows

section
variable {X : Cx} {Γ : Gam} {S : Store} {W : WD} {a b e : Expr} {es : List Expr} {pos : Pos}
theorem c_neSelf {x : D} (hu : X.A.units + 60 < cLine) (hn : noloc x = true) (hd : deep x ≤ 50) (w : W (.bl false) S) : CmpW X .NotEq x x S W := by
  intro pins s σ H O v w' u u' I st r1 r2 r3 r4
  have fin : ∀ {k : Bool}, SeqAt.RcNeAt X.A s u u' k → k = false → wpAny (model X.prog X.w) X.A (compareOp .NotEq u u') (EP X pins σ (QG X.K O H W)) X.xe s := fun h e => by
    subst e
    exact h _ _ _ _ ⟨.bl false, H, I, rfl, QG.here w st (.bl false)⟩
  cases r1 with
  | non => cases r2; cases r3; cases r4; exact fin SeqAt.RcNeAt.none_none rfl
  | bl y => cases r2; cases r3; cases r4; exact fin (SeqAt.RcNeAt.bool_bool y y) (by simp)
  | int y => cases r2; obtain ⟨t, rfl⟩ := r3; obtain ⟨t', rfl⟩ := r4; exact fin (SeqAt.RcNeAt.int_int y t y t') (by simp)
  | str y => cases r2; obtain ⟨t, rfl⟩ := r3; obtain ⟨t', rfl⟩ := r4; exact fin (SeqAt.RcNeAt.str_str y t y t') (by simp)
  | @tup a xs ds h1 q1 =>
    cases r2 with
    | @tup b ys _ h2 q2 =>
      cases r3; cases r4
      obtain ⟨its, v1, p1, _⟩ := I.tuple h1.sq
      obtain ⟨its2, v2, p2, _⟩ := I.tuple h2.sq
      have l1 : its.length = ds.length := by rw [← v1.length, q1.length]
      have l2 : its2.length = ds.length := by rw [← v2.length, q2.length]
      refine fin (SeqAt.RcNeAt.tuples (e := fun _ => true) (show s.heap.IsTuple a its.toArray from p1) (show s.heap.IsTuple b its2.toArray from p2) (by omega) (fun j j1 j2 => ?_)) (by simp [l1, l2])
      have hj : j < ds.length := by simpa [l1] using j1
      obtain ⟨z1, a1, b1⟩ := q1.get (List.getElem?_eq_getElem hj)
      obtain ⟨z2, a2, b2⟩ := q2.get (List.getElem?_eq_getElem hj)
      obtain ⟨u1, c1, d1⟩ := v1.get a1
      obtain ⟨u2, c2, d2⟩ := v2.get a2
      have e1 : its.toArray[j] = u1 := by have := (List.getElem?_eq_some_iff.mp c1).2; simpa using this
      have e2 : its2.toArray[j] = u2 := by have := (List.getElem?_eq_some_iff.mp c2).2; simpa using this
      rw [e1, e2]
      have hd' := deeps_le (List.getElem?_eq_getElem hj)
      exact eqSelf 49 ds[j] (by simp [deep] at hd; omega) (nolocs_at (by simpa [noloc] using hn) (List.getElem?_eq_getElem hj)) I b1 b2 d1 d2 (by show X.A.units + 1 + 49 < cLine; omega)
  | @lst a xs ds h1 q1 =>
    cases r2 with
    | @lst b ys _ h2 q2 =>
      cases r3; cases r4
      obtain ⟨its, v1, p1, _⟩ := I.list h1.sq
      obtain ⟨its2, v2, p2, _⟩ := I.list h2.sq
      have l1 : its.length = ds.length := by rw [← v1.length, q1.length]
      have l2 : its2.length = ds.length := by rw [← v2.length, q2.length]
      refine fin (SeqAt.RcNeAt.lists (e := fun _ => true) p1.isList p2.isList (by simp [l1, l2]) (by omega) (fun j j1 j2 => ?_)) (by simp)
      have hj : j < ds.length := by simpa [l1] using j1
      obtain ⟨z1, a1, b1⟩ := q1.get (List.getElem?_eq_getElem hj)
      obtain ⟨z2, a2, b2⟩ := q2.get (List.getElem?_eq_getElem hj)
      obtain ⟨u1, c1, d1⟩ := v1.get a1
      obtain ⟨u2, c2, d2⟩ := v2.get a2
      have e1 : its.toArray[j] = u1 := by have := (List.getElem?_eq_some_iff.mp c1).2; simpa using this
      have e2 : its2.toArray[j] = u2 := by have := (List.getElem?_eq_some_iff.mp c2).2; simpa using this
      rw [e1, e2]
      have hd' := deeps_le (List.getElem?_eq_getElem hj)
      exact eqSelf 49 ds[j] (by simp [deep] at hd; omega) (nolocs_at (by simpa [noloc] using hn) (List.getElem?_eq_getElem hj)) I b1 b2 d1 d2 (by show X.A.units + 1 + 49 < cLine; omega)
  | loc _ => simp [noloc] at hn
  | @dic a h1 e1 =>
    cases r2 with
    | @dic b h2 e2 =>
      cases r3; cases r4
      obtain ⟨z1, d1⟩ := dic_both I e1
      obtain ⟨z2, d2⟩ := dic_both I e2
      exact PySem.W.keq_ne (knd := mixKind X.prog X.w) z1 z2 d1 d2 (by omega) (fun _ => .nil) ⟨.bl false, H, I, rfl, QG.here w st (.bl false)⟩
end

/-! what walks: a list or a tuple -/
structure SqKind (P : Program) (w : World) (K : PySem.W.Frag) where
  Sq : Hp → Addr → List V → Prop
  It : Heap → Addr → Addr → Nat → Prop
  Ob : Heap → Addr → Array Value → Prop
  itObj : ∀ {h it a i}, It h it a i → ∃ o vs, h.get? it = some o ∧ o.data = .fields vs
  itAt : ∀ {h h' it a i}, It h it a i → (∀ o, h.get? it = some o → h'.get? it = some o) → It h' it a i
  obObj : ∀ {h a its}, Ob h a its → ∃ o n, h.get? a = some o ∧ o.data = .seq its n
  draws : ∀ (A : Around), A.handled = none → ∀ (it a : Addr), a ≠ it → ∀ items : Array Value, Draws P w A it [it, a] items.size (fun i v => items[i]? = some v) (fun i h => It h it a i ∧ Ob h a items)
  get : ∀ {X : Cx} {pins : Pins} {σ : St} {H : Hp} {s : Shared} {a : Addr} {xs : List V}, X.prog = P → X.w = w → X.K = K → Inv X pins σ H s → Sq H a xs → ∃ its : List Value, Vals xs its ∧ Ob s.heap a its.toArray
  inj : ∀ {X : Cx} {pins : Pins} {σ : St} {H : Hp} {s : Shared} {a : Addr} {xs ys : List V}, X.prog = P → X.w = w → X.K = K → Inv X pins σ H s → Sq H a xs → Sq H a ys → xs = ys
  far : ∀ {X : Cx} {pins : Pins} {σ : St} {H : Hp} {s : Shared} {a b : Addr} {xs : List V}, X.K = K → Inv X pins σ H s → Sq H a xs → FpOk X pins H b → a ≠ b
section
variable {P : Program} {w : World} {K : PySem.W.Frag}
theorem SqKind.ne (q : SqKind P w K) {h : Heap} {it a : Addr} {i : Nat} {its : Array Value} (x : q.It h it a i) (y : q.Ob h a its) : a ≠ it := fun e => by
  obtain ⟨o, vs, h1, h2⟩ := q.itObj x
  obtain ⟨o', n, h3, h4⟩ := q.obObj y
  rw [e, h1] at h3
  cases h3
  rw [h2] at h4
  cases h4
theorem farK {X : Cx} {pins : Pins} {σ : St} {H : Hp} {s : Shared} {a b : Addr} {o : Obj} (I : Inv X pins σ H s) (h : X.K.lookup a = some o) (f : FpOk X pins H b) : a ≠ b := fun z => by
  have e := I.ok.mod.kin a o h
  rw [z] at e
  rcases f.2.2.2.1 with q | q
  · exact I.ok.noex b o e q
  · exact absurd (Nat.lt_of_lt_of_le (Heap.lt_size e) (Nat.le_trans I.ok.bsz q)) (Nat.lt_irrefl _)
def kList (P : Program) (w : World) (K : PySem.W.Frag) : SqKind P w K where
  Sq := SqL K
  It := fun h it a i => h.IsListIter it a i
  Ob := fun h a its => h.IsList a its
  itObj := fun x => let ⟨o, e, _, d⟩ := x; ⟨o, _, e, d⟩
  itAt := fun x k => x.at k
  obObj := fun x => let ⟨o, e, _, n, d⟩ := x; ⟨o, n, e, d⟩
  draws := fun A hh it a ne items => Draws.list hh it a ne items
  get := fun hP hw hK I h => by
    subst hP hw hK
    obtain ⟨its, rv, p, _⟩ := I.list h
    exact ⟨its, rv, p.isList⟩
  inj := fun hP hw hK I h h' => by
    subst hP hw hK
    exact I.list_inj h h'
  far := fun hK I h f => by
    subst hK
    rcases h with (h | ⟨_, h⟩) | ⟨o, _, _, h, _⟩
    · exact ne_of_none h f.1
    · exact ne_of_none h f.1
    · exact farK I h f
theorem nx_tup {prog : Program} {w : World} {A : Around} {E : Value → Shared → Prop} {s : Shared} {it t : Addr} {i : Nat} {items : Array Value} {x : Value} {Q : Value → Shared → Prop} (hi : s.heap.IsTupleIter it t i) (ht : s.heap.IsTuple t items) (hx : items[i]? = some x)
    (hQ : ∀ h', h'.IsTupleIter it t (i + 1) → Heap.SameBut it s.heap h' → Q x { s with heap := h' }) : wpAny (model prog w) A (Builtin.SmallTypes.nextOf (.ref it)) Q E s := by
  obtain ⟨o, ho, hc, hd⟩ := id hi
  obtain ⟨o2, ho2, _, n2, hd2⟩ := ht
  unfold Builtin.SmallTypes.nextOf
  refine wpAny_bind (wpAny_callSpecial?_slot (name := Str.ofString "__next__") hi.typeIs F.slot_tuple_iterator_next (wpAny_call_entry F.slot_tuple_iterator_next hi.typeIs F.entry_tuple_iterator_next ?_ (F.args_tuple_iterator_next_1 _)))
  refine wpAny_bind (m := field (.ref it) 0) (wpAny_field ho hd (x := .ref t) rfl ?_)
  rw [if_neg (show ¬ ((Value.ref t == Value.none) = true) from Bool.false_ne_true)]
  refine wpAny_bind (m := field (.ref it) 1) (wpAny_field ho hd (x := .int i 0) rfl ?_)
  refine wpAny_bind (m := seqItems? (.ref t)) (wpAny_seqItems ho2 hd2 ?_)
  simp only [Int.toNat_natCast, hx]
  refine wpAny_bind (wpAny_setField ho hd (by simp) (wpAny_pure ⟨x, rfl, wpAny_pure (hQ _ ⟨_, Heap.get?_update_self _ ho (Obj.isFreed_of_fields (Obj.data_mapFields hd _)), (Obj.cls_mapFields ..).trans hc, by rw [Obj.data_mapFields hd]; simp [rawInt]⟩ (Heap.SameBut.update ..))⟩))
theorem nx_tupEnd {prog : Program} {w : World} {A : Around} {E : Value → Shared → Prop} {s : Shared} {it t : Addr} {i : Nat} {items : Array Value} {Q : Value → Shared → Prop} (hh : A.handled = none) (hi : s.heap.IsTupleIter it t i) (ht : s.heap.IsTuple t items) (hx : items[i]? = none)
    (hE : ∀ h' e, Heap.ExtBut it s.heap h' → (∃ o, h'.get? e = some o ∧ o.cls = .type "StopIteration") → E (.ref e) { s with heap := h' }) : wpAny (model prog w) A (Builtin.SmallTypes.nextOf (.ref it)) Q E s := by
  obtain ⟨o, ho, hc, hd⟩ := id hi
  obtain ⟨o2, ho2, _, n2, hd2⟩ := ht
  unfold Builtin.SmallTypes.nextOf
  refine wpAny_bind (wpAny_callSpecial?_slot (name := Str.ofString "__next__") hi.typeIs F.slot_tuple_iterator_next (wpAny_call_entry F.slot_tuple_iterator_next hi.typeIs F.entry_tuple_iterator_next ?_ (F.args_tuple_iterator_next_1 _)))
  refine wpAny_bind (m := field (.ref it) 0) (wpAny_field ho hd (x := .ref t) rfl ?_)
  rw [if_neg (show ¬ ((Value.ref t == Value.none) = true) from Bool.false_ne_true)]
  refine wpAny_bind (m := field (.ref it) 1) (wpAny_field ho hd (x := .int i 0) rfl ?_)
  refine wpAny_bind (m := seqItems? (.ref t)) (wpAny_seqItems ho2 hd2 ?_)
  simp only [Int.toNat_natCast, hx]
  refine wpAny_bind (wpAny_rule (wpAny_bind (wpAny_setField ho hd (by simp) (wpAny_bind (m := newExc (.type "StopIteration") []) ?_))))
  simp only [newExc, newTuple]
  refine wpAny_bind (wpAny_newObj_type (wpAny_bind (m := firstArgMember _ _) (wpAny_of_eq (a := Value.none) (by first | rfl | (simp only [firstArgMember]; rfl)) (wpAny_newObj_type ?_ (by size_fits)))) (by size_fits))
  simp only [raiseNew]
  refine wpAny_bind (wpAny_handled ?_)
  first | rw [show A.in1.handled = none from hh] | rw [hh]
  exact wpAny_bind (wpAny_pure (wpAny_throw (hE _ _ (((Heap.SameBut.update ..).extBut.push _).push _) ⟨_, Heap.get?_push_size _ rfl, rfl⟩)))
theorem drawsTup {prog : Program} {w : World} {A : Around} (hh : A.handled = none) (it t : Addr) (ne : t ≠ it) (items : Array Value) :
    Draws prog w A it [it, t] items.size (fun i v => items[i]? = some v) (fun i h => h.IsTupleIter it t i ∧ h.IsTuple t items) where
  live := fun i h x => let ⟨o, e, _⟩ := x.1; ⟨o, e⟩
  frame := fun i h h' x k => by
    obtain ⟨⟨o, e, r⟩, ⟨o2, e2, r2⟩⟩ := x
    exact ⟨⟨o, k it (by simp) o e, r⟩, ⟨o2, k t (by simp) o2 e2, r2⟩⟩
  item := fun i s Q E hi x hQ => nx_tup x.1 x.2 (x := items[i]) (by simp [hi]) fun h' y sb => hQ _ h' s.toks (by simp [hi]) ⟨y, x.2.extBut sb.extBut ne⟩ sb
  done := fun s Q E x hE => nx_tupEnd hh x.1 x.2 (by simp) hE
def kTup (P : Program) (w : World) (K : PySem.W.Frag) : SqKind P w K where
  Sq := SqT K
  It := fun h it a i => h.IsTupleIter it a i
  Ob := fun h a its => h.IsTuple a its
  itObj := fun x => let ⟨o, e, _, d⟩ := x; ⟨o, _, e, d⟩
  itAt := fun x k => let ⟨o, e, r⟩ := x; ⟨o, k o e, r⟩
  obObj := fun x => let ⟨o, e, _, n, d⟩ := x; ⟨o, n, e, d⟩
  draws := fun A hh it a ne items => drawsTup hh it a ne items
  get := fun hP hw hK I h => by
    subst hP hw hK
    obtain ⟨its, rv, p, _⟩ := I.tuple h
    exact ⟨its, rv, p⟩
  inj := fun hP hw hK I h h' => by
    subst hP hw hK
    exact I.tuple_inj h h'
  far := fun hK I h f => by
    subst hK
    rcases h with (h | ⟨_, h⟩) | ⟨o, _, _, h, _⟩
    · exact ne_of_none h f.1
    · exact ne_of_none h f.1
    · exact farK I h f

/-! records that turn; a new object tracked -/
theorem invRecs {X : Cx} {pins : Pins} {σ : St} {H : Hp} {s : Shared} {h' : Heap} {t : Nat} {ch : List Addr} (I : Inv X pins σ H s) (hf : ∀ b ∈ ch, FpOk X pins H b) (k : ∀ b o, b ∉ ch → s.heap.get? b = some o → h'.get? b = some o) : Inv X pins σ H { s with heap := h', toks := t } := by
  have nch : ∀ b u, H b = some u → b ∉ ch := fun b u e z => by rw [(hf b z).1] at e; cases e
  refine I.step (g' := s.gens) (d' := s.drawn) (ch := ch) (fun b hb => ⟨(hf b hb).2.2.2.1, (hf b hb).2.1, (hf b hb).2.2.2.2.1, (hf b hb).2.2.2.2.2⟩) (fun b o _ _ hc e _ => k b o hc e) (fun b o _ _ hc e _ => ⟨o.slots, k b o hc e⟩) (fun _ _ _ _ n => n) (fun b o hc e => ⟨o, k b o hc e⟩)
    (fun _ _ e => e) (fun _ _ _ e => e) (fun b ps e => ⟨#[], by rw [e]; simp⟩) (fun m hm => ?_) (fun b u e => ?_) I.bare
  · obtain ⟨o, es, ep, ho, r⟩ := hm
    exact ⟨o, es, ep, k _ o (fun z => (hf _ z).2.1 rfl) ho, r⟩
  · refine (I.hok b u e).stay (fun c v hc q => k c v ?_ q) (fun _ q => q) fun _ _ q => q
    rcases hc with z | z
    · rw [z]; exact nch b u e
    · exact nch c _ z
theorem invTrack {X : Cx} {pins : Pins} {σ : St} {H : Hp} {s s' : Shared} {p : Addr} {o : HO} (I : Inv X pins σ H s) (I' : Inv X pins σ H s') (hp : s.heap.objs.size ≤ p) (ob : ObjOk X.prog X.w (upd H p o) s'.heap p o) : Inv X pins σ (upd H p o) s' := by
  have hn : H p = none := I.hok.fresh hp
  have nt : ∀ b u, H b = some u → b ≠ p := fun b u e => ne_of_none e hn
  refine ⟨I'.ok, I'.os, I'.bare, ⟨I'.base.keep, I'.base.slot, fun b ob e n hx => ?_, I'.base.there, fun b xs e => ?_, fun b ob u e => ?_, fun b ps e => ?_⟩, I'.loc, I'.cell, ?_, fun x c e => ?_, fun q hq => ?_, fun b u e => ?_, I'.len⟩
  · have lt : b < s.heap.objs.size := Nat.lt_of_lt_of_le (Heap.lt_size e) I.sz
    rw [upd_ne (Nat.ne_of_lt (Nat.lt_of_lt_of_le lt hp))]
    exact I'.base.free b ob e n hx
  · have := I'.base.tups b xs e
    rw [upd_ne (nt b _ this)]; exact this
  · have := I'.base.frzs b ob u e
    rw [upd_ne (nt b _ this)]; exact this
  · obtain ⟨m, e'⟩ := I'.base.tbls b ps e
    exact ⟨m, by rw [upd_ne (nt b _ e')]; exact e'⟩
  · rw [upd_ne (Nat.ne_of_lt (Nat.lt_of_lt_of_le I.lt hp))]; exact I'.free
  · obtain ⟨v, z⟩ := I.cell x c e
    rw [upd_ne (Nat.ne_of_lt (Nat.lt_of_lt_of_le z.lt hp))]; exact I'.freeC x c e
  · obtain ⟨e1, _⟩ := I.pin q hq
    obtain ⟨a1, a2, a3⟩ := I'.pin q hq
    exact ⟨a1, by rw [upd_ne (Nat.ne_of_lt (Nat.lt_of_lt_of_le (Heap.lt_size e1) hp))]; exact a2, a3⟩
  · by_cases hb : b = p
    · subst hb; rw [upd_same] at e; cases e; exact ob
    · rw [upd_ne hb] at e
      exact (I'.hok b u e).stay (fun c v _ q => q) (fun c q => by rw [upd_ne (nt c _ q)]; exact q) fun c xs q => by rw [upd_ne (nt c _ q)]; exact q

/-! enumerate -/
def Ite (q : SqKind P w K) (a : Addr) : It :=
  ⟨fun i H => ∃ xs x, q.Sq H a xs ∧ xs[i]? = some x, fun i H x H' => ∃ p y, H p = none ∧ H' = upd H p (.tup [.int i, y]) ∧ x = .ref p ∧ ∀ xs, q.Sq H a xs → xs[i]? = some y, fun i H => ∃ xs, q.Sq H a xs ∧ i = xs.length⟩
theorem turn_enum (q : SqKind P w K) {elts : List Expr} {k : Nat} {pos : Pos} (a e it : Addr) (hne : e ≠ it) : Turn P w K (.Tuple elts k pos) (Ite q a) [e, it] e (fun i h => (∃ old, IsEnum h e it i old) ∧ q.It h it a i) where
  mem := by simp
  obj := fun i h st b hb => by
    obtain ⟨⟨old, he⟩, hi⟩ := st
    rcases List.mem_cons.mp hb with rfl | hb
    · exact ⟨_, he, fun v z => nomatch z⟩
    · rw [List.mem_singleton.mp hb]
      obtain ⟨o, vs, h1, h2⟩ := q.itObj hi
      exact ⟨o, h1, fun v z => by rw [h2] at z; cases z⟩
  keep := fun i h h' st k => ⟨let ⟨old, he⟩ := st.1; ⟨old, k e (by simp) _ he⟩, q.itAt st.2 fun o e => k it (by simp) o e⟩
  item := by
    intro X hP hw hK hc i pins s σ H E I hf st hg
    obtain ⟨xs, x, hq, hx⟩ := hg
    obtain ⟨its, rv, ob⟩ := q.get hP hw hK I hq
    obtain ⟨u, hu, ru⟩ := rv.get hx
    obtain ⟨⟨old, he⟩, hi⟩ := st
    have ne := q.ne hi ob
    have hea : e ≠ a := fun z => by
      obtain ⟨o, n, h1, h2⟩ := q.obObj ob
      rw [← z, he] at h1
      cases h1
      cases h2
    have hlt : i < its.toArray.size := by simpa using (List.getElem?_eq_some_iff.mp hu).1
    have uq : ∀ ys, q.Sq H a ys → ys[i]? = some x := fun ys hy => by rw [q.inj hP hw hK I hy hq]; exact hx
    subst hP hw
    refine wpAny_pyNext_enum_itemD (q.draws X.A.in1 (I.ok.hd hc) it a ne its.toArray) he ⟨hi, ob⟩ hlt hne (by simp [hne, hea]) fun x' h' tk hPx ho hs' hT hsz hk => ?_
    have ex : x' = u := by
      have : its.toArray[i]? = some u := by simpa using hu
      rw [this] at hPx
      exact (Option.some.inj hPx).symm
    subst ex
    refine ⟨_, rfl, wpAny_letOwnedTupleGo_enum ho fun h2 he2 sb => ?_⟩
    have I1 : Inv X pins σ H { s with heap := h2, toks := tk + 1 } := invRecs (ch := [e, it]) I hf fun b o hb q' => (sb.2 b (fun z => hb (by simp [z]))).trans (hk b o (fun z => hb (by simp [z])) (fun z => hb (by simp [z])) q')
    have hp : H s.heap.objs.size = none := I.hok.fresh (Nat.le_refl _)
    have elt : e < s.heap.objs.size := Heap.lt_size he
    have hT2 : h2.get? s.heap.objs.size = some { cls := .type "tuple", data := .seq #[.int i tk, x'] } := (sb.2 _ (Nat.ne_of_gt elt)).trans hT
    have I2 : Inv X pins σ (upd H s.heap.objs.size (.tup [.int i, x])) { s with heap := h2, toks := tk + 1 } := invTrack I I1 (Nat.le_refl _) ⟨by show 2 ≤ sizeLine; decide, [.int i tk, x'], .cons ⟨tk, rfl⟩ (.cons ru .nil), _, hT2, rfl, _, rfl⟩
    refine ⟨.ref s.heap.objs.size, _, I2, rfl, ⟨_, x, hp, rfl, rfl, uq⟩, ⟨⟨_, by simpa using he2⟩, q.itAt hs'.1 fun o q' => (sb.2 it hne.symm).trans q'⟩, fun b hb => ?_⟩
    rw [upd_ne (Nat.ne_of_lt ?_)]
    · exact (hf b hb).1
    · rcases List.mem_cons.mp hb with rfl | hb
      · exact elt
      · rw [List.mem_singleton.mp hb]
        obtain ⟨o, vs, h1, _⟩ := q.itObj hi
        exact Heap.lt_size h1
  done := by
    intro X hP hw hK hc i pins s σ H E I hf st hg
    obtain ⟨xs, hq, hx⟩ := hg
    obtain ⟨its, rv, ob⟩ := q.get hP hw hK I hq
    obtain ⟨⟨old, he⟩, hi⟩ := st
    have ne := q.ne hi ob
    subst hP hw
    obtain ⟨f0, f1, f2, f3, f4, f5⟩ := hf it (by simp)
    have hn : i = its.toArray.size := by rw [hx, rv.length]; simp
    have st' : q.It s.heap it a its.toArray.size ∧ q.Ob s.heap a its.toArray := ⟨hn ▸ hi, ob⟩
    exact wpAny_pyNext_enum_endD (q.draws X.A.in1 (I.ok.hd hc) it a ne its.toArray) he st' fun h' ext => ⟨rfl, I.turned (t' := s.toks) (fun b o hb e => ext b o hb e) f0 f1 f3 f4 f5⟩
  self := fun _ _ _ _ _ st h => let ⟨old, he⟩ := st.1; wpAny_pyIter_enum he h
theorem yields_enum (q : SqKind P w K) {O : Own} {H : Hp} {a : Addr} {ds : List D} (h : ∀ O' H', Conv O O' H H' → ∃ xs, q.Sq H' a xs ∧ Reps K O' H' xs ds) : Yields K (Ite q a) O H (ds.mapIdx fun i d => .tup [.int i, d]) := by
  intro O' H' cv tr i
  obtain ⟨xs, hq, r⟩ := h O' H' cv
  refine ⟨fun d hd => ?_, fun hi => ⟨xs, hq, by rw [hi, r.length]; simp⟩⟩
  rw [List.getElem?_mapIdx] at hd
  cases e : ds[i]? with
  | none => rw [e] at hd; cases hd
  | some d0 =>
    rw [e] at hd
    cases hd
    obtain ⟨v, hv, rv⟩ := r.get e
    refine ⟨⟨xs, v, hq, hv⟩, fun x H'' y => ?_⟩
    obtain ⟨p, y, hp, rfl, rfl, hy⟩ := y
    have ey := hy xs hq
    rw [hv] at ey
    cases ey
    have np : ¬ O'.has p := fun z => tr p z hp
    exact ⟨Same.fresh hp _, .tup (.inl ⟨np, .inl upd_same⟩) (.cons (.int _) (.cons (rv.mono (Step.fresh hp _)) .nil))⟩
section
variable {X : Cx} {Γ : Gam} {S : Store} {e : Expr} {pos : Pos}
/-- an enumerate just made over a list -/
theorem enum_it {pins : Pins} {σ : St} {H : Hp} {s : Shared} {elts : List Expr} {k : Nat} {tp : Pos} {R : It → Hp → Prop} {E : Value → Shared → Prop} {h' : Heap} (q : SqKind X.prog X.w X.K) {a : Addr} (I : Inv X pins σ H s) (he : IsEnum h' (s.heap.objs.size + 1) s.heap.objs.size 0 .none) (hi : q.It h' s.heap.objs.size a 0)
    (kp : ∀ b o, s.heap.get? b = some o → h'.get? b = some o) (r : R (Ite q a) H) : wpAny (model X.prog X.w) X.A (pyIter (.ref (s.heap.objs.size + 1))) (PIE X pins σ (.Tuple elts k tp) R) E { s with heap := h' } := by
  refine wpAny_pyIter_enum he ?_
  refine ⟨s.heap.objs.size + 1, [s.heap.objs.size + 1, s.heap.objs.size], _, _, H, rfl, I.kept (t' := s.toks) kp, turn_enum q a (s.heap.objs.size + 1) s.heap.objs.size (Nat.succ_ne_self _), ⟨⟨_, he⟩, hi⟩, fun b hb => ?_, r⟩
  rcases List.mem_cons.mp hb with rfl | hb
  · exact I.fpOk (Nat.le_succ _) (I.hok.fresh (Nat.le_succ _))
  · rw [List.mem_singleton.mp hb]
    exact I.fpOk (Nat.le_refl _) (I.hok.fresh (Nat.le_refl _))
theorem it_enumL {elts : List Expr} {k : Nat} {tp p : Pos} {W : List D → Store → Prop} (h : Ev X Γ S e fun d S1 => ∃ ds, d = .lst ds ∧ W (ds.mapIdx fun i d => .tup [.int i, d]) S1) (hm : X.mg "enumerate" = none) (hg : Gl X "enumerate" := by rfl) (hs : starEach [e] X.env = [(false, eval e X.env)] := by rfl) :
    ItW X Γ S (.Tuple elts k tp) (.Call (.Name "enumerate" p) [e] [] pos) W := by
  intro pins s σ H O I env st
  refine Call_ (ld_blt I hg hm boot_enumerate (PyProof.Rows.callWith_type1 (thn (pa_cons h.pe pa_nil hs pos pins s σ H (fun vs H' => ∃ v, vs = [v] ∧ QG X.K O H (fun d S1 => ∃ ds, d = .lst ds ∧ W (ds.mapIdx fun i d => .tup [.int i, d]) S1) v H') I ⟨O, env, st, fun v H' q => ⟨v, rfl, q⟩⟩) fun us s1 ⟨vs, H1, I1, r1, v, ev, O1, d, S1, ⟨ds, ed, w⟩, st1, ok1, rep⟩ => ?_) hs rfl))
  subst ev
  subst ed
  obtain ⟨u, rfl, ru⟩ := vals1 r1
  cases rep with
  | @lst a xs _ h1 q1 =>
    cases ru
    obtain ⟨its, rv, pl, hz⟩ := I1.list h1.sq
    refine call_enumerate_list pl.isList fun h' he hi _ kp => enum_it (kList X.prog X.w X.K) I1 he hi kp ⟨O1, _, S1, w, st1, ok1, yields_enum _ fun O' H' cv => ⟨xs, (h1.conv cv).sq, q1.conv cv⟩⟩
/-- an enumerate over a tuple is made -/
theorem enum_newT (l : Addr) (items : Array Value) (n : Nat) (dct : Option Addr) (sl : Array (Option Value)) :
    Meets (Builtin.«enumerate.__new__» ⟨[.type "enumerate", .ref l], []⟩) (fun _ R s => s.heap.get? l = some { cls := .type "tuple", dict := dct, data := .seq items n, slots := sl } ∧
      R (.ok (.ret (.ref (s.heap.push { cls := .type "tuple_iterator", data := .fields #[.ref l, .int 0 0] }).objs.size)))
        { s with heap := (s.heap.push { cls := .type "tuple_iterator", data := .fields #[.ref l, .int 0 0] }).push { cls := .type "enumerate", data := .fields #[.none, .bool false, .ref s.heap.objs.size, rawInt 0, .none, .none] } }) :=
  .of_wp fun prog w A R s h => by
    obtain ⟨hp, g, d, tk, os⟩ := s; obtain ⟨hl, h⟩ := h
    have hsub := sub_enumerate
    have hT : Heap.IsTuple (Shared.heap ⟨hp, g, d, tk, os⟩) l items := ⟨_, hl, rfl, n, rfl⟩
    wp_walk using AutoSeq1.wpAny_loadPart' hl
    refine wpAny_stack_any fun st => wpAny_pure ?_
    split
    · rename_i c _ _ _ _ _
      cases (c == Value.type "enumerate") <;> (wp_walk using AutoSeq1.wpAny_loadPart' hl, wpAny_pyIter_tuple hT; exact ⟨_, rfl, h⟩)
    · wp_walk using AutoSeq1.wpAny_loadPart' hl, wpAny_pyIter_tuple hT
      exact ⟨_, rfl, h⟩
end
end
end DL

set_option Elab.async false
set_option linter.all false
set_option maxRecDepth 100000
set_option maxHeartbeats 4000000
namespace DL
open PySem PySem.Spec L2
open PyProof.Rows

/-! zip of two that walk -/
structure Zd (z TI TO i1 i2 : Addr) (f1 f2 : List Addr) : Prop where
  a : TI ≠ z
  b : TO ≠ z
  c : TI ≠ TO
  d : TI ≠ i1
  e : TI ≠ i2
  f : TO ≠ i1
  g : TO ≠ i2
  h : i1 ≠ z
  i : i2 ≠ z
  j : z ∉ f1
  k : z ∉ f2
  l : TO ∉ f1
  m : TO ∉ f2
  n : i1 ∉ f2
  o : i2 ∉ f1
section
variable {prog : Program} {w : World} {A : Around} {E : Value → Shared → Prop} {s : Shared} {z TI TO i1 i2 : Addr} {f1 f2 : List Addr} {n1 n2 k : Nat} {P1 P2 : Nat → Value → Prop} {T1 T2 : Nat → Heap → Prop} {va vb : Value}
theorem zip_nx {Q : Value → Shared → Prop} (D1 : Draws prog w A i1 f1 n1 P1 T1) (D2 : Draws prog w A i2 f2 n2 P2 T2) (Z : Zd z TI TO i1 i2 f1 f2) (hz : IsZip s.heap z TI TO .none) (hTI : IsPair s.heap TI (.ref i1) (.ref i2)) (hTO : IsPair s.heap TO va vb) (t1 : T1 k s.heap) (t2 : T2 k s.heap) (k1 : k < n1) (k2 : k < n2)
    (hQ : ∀ x y h' tk, P1 k x → P2 k y → IsZip h' z TI TO (rawInt s.heap.objs.size) → IsPair h' TO x y → T1 (k + 1) h' → T2 (k + 1) h' → IsPair h' s.heap.objs.size x y →
      (∀ c o, c ≠ z → c ≠ TO → c ≠ i1 → c ≠ i2 → s.heap.get? c = some o → h'.get? c = some o) → Q (.ref s.heap.objs.size) { s with heap := h', toks := tk }) :
    wpAny (model prog w) A (Builtin.«zip.__next__» ⟨[.ref z], []⟩) (fun fin s' => ∃ v, fin = .done (.ret v) ∧ Q v s') E s := by
  obtain ⟨hp, g, d, tk0, os⟩ := s
  refine wpAny_bind (m := field (.ref z) 2) (wpAny_field hz rfl (x := .bool false) rfl (wpAny_bind (m := field (.ref z) 3) (wpAny_field hz rfl (x := .ref TI) rfl (wpAny_bind (wpAny_seqItems hTI rfl ?_)))))
  refine wpAny_bind (m := Builtin.SmallTypes.ownedTupleIsFree (.ref z)) ?_
  unfold Builtin.SmallTypes.ownedTupleIsFree
  refine wpAny_bind (wpAny_field hz rfl (x := .none) rfl (wpAny_pure ?_))
  simp only [if_true]
  refine wpAny_bind (wpAny_rule (wpAny_bind (wpAny_field hz rfl (x := .ref TO) rfl (wpAny_bind (wpAny_setField_rec hz (by simp) fun h1 hz1 s1 => ?_)))))
  replace hz1 : IsZip h1 z TI TO .ellipsis := hz1
  refine wpAny_bind ?_
  simp only [List.zipIdx_cons, List.zipIdx_nil, List.forIn_cons, List.forIn_nil]
  refine wpAny_bind (wpAny_bind (wpAny_onRaise (wpAny_bind (m := Builtin.SmallTypes.nextOf (.ref i1)) ?_)))
  refine D1.item k _ _ _ k1 (D1.frame _ _ _ t1 fun b hb o e => s1.extBut b o (fun q => Z.j (q ▸ hb)) e) fun x h2 tk1 p1 t1' s2 => wpAny_pure ?_
  replace s2 : Heap.SameBut i1 h1 h2 := s2
  have o2 : IsPair h2 TO va vb := s2.extBut _ _ Z.f (s1.extBut _ _ Z.b hTO)
  refine wpAny_bind (wpAny_seqItems o2 rfl (wpAny_bind (wpAny_updateSeq_pair o2 fun h3 o3 s3 => wpAny_bind (wpAny_letGo (wpAny_pure ?_)))))
  replace o3 : IsPair h3 TO x vb := o3
  refine wpAny_bind (wpAny_bind (wpAny_onRaise (wpAny_bind (m := Builtin.SmallTypes.nextOf (.ref i2)) ?_)))
  have t2' : T2 k h3 := D2.frame _ _ _ t2 fun b hb o e => s3.extBut b o (fun q => Z.m (q ▸ hb)) (s2.extBut b o (fun q => Z.n (q ▸ hb)) (s1.extBut b o (fun q => Z.k (q ▸ hb)) e))
  refine D2.item k _ _ _ k2 t2' fun y h4 tk2 p2 t2'' s4 => wpAny_pure ?_
  replace s4 : Heap.SameBut i2 h3 h4 := s4
  have o4 : IsPair h4 TO x vb := s4.extBut _ _ Z.g o3
  refine wpAny_bind (wpAny_seqItems o4 rfl (wpAny_bind (wpAny_updateSeq_pair o4 fun h5 o5 s5 => wpAny_bind (wpAny_letGo (wpAny_pure (wpAny_pure ?_))))))
  replace o5 : IsPair h5 TO x y := o5
  refine wpAny_bind (wpAny_seqItems o5 rfl (wpAny_bind (wpAny_newTuple ?_)))
  have sz : h5.objs.size = hp.objs.size := by rw [s5.1, s4.1, s3.1, s2.1, s1.1]
  have hz5 : IsZip h5 z TI TO .ellipsis := s5.extBut _ _ Z.b.symm (s4.extBut _ _ Z.i.symm (s3.extBut _ _ Z.b.symm (s2.extBut _ _ Z.h.symm hz1)))
  have k5 : ∀ c o, c ≠ z → c ≠ TO → c ≠ i1 → c ≠ i2 → hp.get? c = some o → h5.get? c = some o := fun c o c1 c2 c3 c4 q => s5.extBut _ _ c2 (s4.extBut _ _ c4 (s3.extBut _ _ c2 (s2.extBut _ _ c3 (s1.extBut _ _ c1 q))))
  have zlt : z < h5.objs.size := Heap.lt_size hz5
  refine wpAny_bind (m := Builtin.SmallTypes.ownedTupleHandOut (.ref z) (.ref h5.objs.size)) ?_
  unfold Builtin.SmallTypes.ownedTupleHandOut
  have hz6 : IsZip (h5.push { cls := .type "tuple", data := .seq #[x, y] }) z TI TO .ellipsis := Heap.get?_push_of_some _ hz5
  refine wpAny_bind (wpAny_setField_rec hz6 (by simp) fun h7 hz7 s7 => ?_)
  replace hz7 : IsZip h7 z TI TO (rawInt h5.objs.size) := hz7
  refine wpAny_setField_rec hz7 (by simp) fun h8 hz8 s8 => ?_
  replace hz8 : IsZip h8 z TI TO (rawInt h5.objs.size) := hz8
  have up : ∀ c o, c ≠ z → h5.get? c = some o → h8.get? c = some o := fun c o c1 q => s8.extBut _ _ c1 (s7.extBut _ _ c1 (Heap.get?_push_of_some _ q))
  have p8 : IsPair h8 h5.objs.size x y := s8.extBut _ _ (Nat.ne_of_gt zlt) (s7.extBut _ _ (Nat.ne_of_gt zlt) (Heap.get?_push_size _ rfl))
  rw [sz] at hz8 p8
  refine wpAny_pure ⟨_, rfl, ?_⟩
  show Q (.ref h5.objs.size) _
  rw [sz]
  have u1 : T1 (k + 1) h8 := D1.frame _ _ _ t1' fun b hb o q => up b o (fun r => Z.j (r ▸ hb)) (s5.extBut b o (fun r => Z.l (r ▸ hb)) (s4.extBut b o (fun r => Z.o (r ▸ hb)) (s3.extBut b o (fun r => Z.l (r ▸ hb)) q)))
  have u2 : T2 (k + 1) h8 := D2.frame _ _ _ t2'' fun b hb o q => up b o (fun r => Z.k (r ▸ hb)) (s5.extBut b o (fun r => Z.m (r ▸ hb)) q)
  exact hQ x y h8 tk2 p1 p2 hz8 (up _ _ Z.b o5) u1 u2 p8 fun c o c1 c2 c3 c4 q => up c o c1 (k5 c o c1 c2 c3 c4 q)
theorem zip_stop {Q : PySem.Fin → Shared → Prop} (D1 : Draws prog w A i1 f1 n1 P1 T1) (D2 : Draws prog w A i2 f2 n2 P2 T2) (Z : Zd z TI TO i1 i2 f1 f2) (hz : IsZip s.heap z TI TO .none) (hTI : IsPair s.heap TI (.ref i1) (.ref i2)) (hTO : IsPair s.heap TO va vb) (t1 : T1 k s.heap) (t2 : T2 k s.heap) (hk : k = n1 ∨ (k < n1 ∧ k = n2))
    (hE : ∀ h' tk e, (∀ c o, c ≠ z → c ≠ TO → c ≠ i1 → c ≠ i2 → s.heap.get? c = some o → h'.get? c = some o) → (∃ o, h'.get? e = some o ∧ o.cls = .type "StopIteration") → E (.ref e) { s with heap := h', toks := tk }) :
    wpAny (model prog w) A (Builtin.«zip.__next__» ⟨[.ref z], []⟩) Q E s := by
  obtain ⟨hp, g, d, tk0, os⟩ := s
  refine wpAny_bind (m := field (.ref z) 2) (wpAny_field hz rfl (x := .bool false) rfl (wpAny_bind (m := field (.ref z) 3) (wpAny_field hz rfl (x := .ref TI) rfl (wpAny_bind (wpAny_seqItems hTI rfl ?_)))))
  refine wpAny_bind (m := Builtin.SmallTypes.ownedTupleIsFree (.ref z)) ?_
  unfold Builtin.SmallTypes.ownedTupleIsFree
  refine wpAny_bind (wpAny_field hz rfl (x := .none) rfl (wpAny_pure ?_))
  simp only [if_true]
  refine wpAny_bind (wpAny_rule (wpAny_bind (wpAny_field hz rfl (x := .ref TO) rfl (wpAny_bind (wpAny_setField_rec hz (by simp) fun h1 hz1 s1 => ?_)))))
  replace hz1 : IsZip h1 z TI TO .ellipsis := hz1
  refine wpAny_bind ?_
  simp only [List.zipIdx_cons, List.zipIdx_nil, List.forIn_cons, List.forIn_nil]
  refine wpAny_bind (wpAny_bind (wpAny_onRaise (wpAny_bind (m := Builtin.SmallTypes.nextOf (.ref i1)) ?_)))
  have t1' : T1 k h1 := D1.frame _ _ _ t1 fun b hb o e => s1.extBut b o (fun q => Z.j (q ▸ hb)) e
  rcases hk with rfl | ⟨k1, rfl⟩
  · refine D1.done _ _ _ t1' fun h2 e s2 ⟨oe, he, ce⟩ => ?_
    replace s2 : Heap.ExtBut i1 h1 h2 := s2
    have hz2 : IsZip h2 z TI TO .ellipsis := s2 _ _ Z.h.symm hz1
    have ez : e ≠ z := fun q => by subst q; rw [hz2] at he; cases he; simp at ce
    exact wpAny_setField_rec hz2 (by simp) fun h3 _ s3 => hE h3 _ e (fun c o c1 _ c3 _ q => s3.extBut _ _ c1 (s2 _ _ c3 (s1.extBut _ _ c1 q))) ⟨oe, s3.extBut _ _ ez he, ce⟩
  · refine D1.item k _ _ _ k1 t1' fun x h2 tk1 p1 _ s2 => wpAny_pure ?_
    replace s2 : Heap.SameBut i1 h1 h2 := s2
    have o2 : IsPair h2 TO va vb := s2.extBut _ _ Z.f (s1.extBut _ _ Z.b hTO)
    refine wpAny_bind (wpAny_seqItems o2 rfl (wpAny_bind (wpAny_updateSeq_pair o2 fun h3 o3 s3 => wpAny_bind (wpAny_letGo (wpAny_pure ?_)))))
    refine wpAny_bind (wpAny_bind (wpAny_onRaise (wpAny_bind (m := Builtin.SmallTypes.nextOf (.ref i2)) ?_)))
    have t2' : T2 k h3 := D2.frame _ _ _ t2 fun b hb o e => s3.extBut b o (fun q => Z.m (q ▸ hb)) (s2.extBut b o (fun q => Z.n (q ▸ hb)) (s1.extBut b o (fun q => Z.k (q ▸ hb)) e))
    refine D2.done _ _ _ t2' fun h4 e s4 ⟨oe, he, ce⟩ => ?_
    replace s4 : Heap.ExtBut i2 h3 h4 := s4
    have hz4 : IsZip h4 z TI TO .ellipsis := s4 _ _ Z.i.symm (s3.extBut _ _ Z.b.symm (s2.extBut _ _ Z.h.symm hz1))
    have ez : e ≠ z := fun q => by subst q; rw [hz4] at he; cases he; simp at ce
    exact wpAny_setField_rec hz4 (by simp) fun h5 _ s5 => hE h5 _ e (fun c o c1 c2 c3 c4 q => s5.extBut _ _ c1 (s4 _ _ c4 (s3.extBut _ _ c2 (s2.extBut _ _ c3 (s1.extBut _ _ c1 q))))) ⟨oe, s5.extBut _ _ ez he, ce⟩
end

/-! the walk of a zip -/
section
variable {P : Program} {w : World} {K : PySem.W.Frag}
def Itz (q r : SqKind P w K) (a b : Addr) : It :=
  ⟨fun i H => ∃ xs ys x y, q.Sq H a xs ∧ r.Sq H b ys ∧ xs[i]? = some x ∧ ys[i]? = some y,
   fun i H v H' => ∃ p x y, H p = none ∧ H' = upd H p (.tup [x, y]) ∧ v = .ref p ∧ (∀ xs, q.Sq H a xs → xs[i]? = some x) ∧ ∀ ys, r.Sq H b ys → ys[i]? = some y,
   fun i H => ∃ xs ys, q.Sq H a xs ∧ r.Sq H b ys ∧ i = min xs.length ys.length⟩
/-- the records of a zip -/
structure Zr (z TI TO i1 i2 : Addr) : Prop where
  a : TI ≠ z
  b : TO ≠ z
  c : TI ≠ TO
  d : TI ≠ i1
  e : TI ≠ i2
  f : TO ≠ i1
  g : TO ≠ i2
  h : i1 ≠ z
  i : i2 ≠ z
  j : i1 ≠ i2
theorem Zr.zd (q r : SqKind P w K) {X : Cx} {pins : Pins} {σ : St} {H : Hp} {s : Shared} {z TI TO i1 i2 a b : Addr} {xs ys : List V} (Z : Zr z TI TO i1 i2) (hK : X.K = K) (I : Inv X pins σ H s) (hf : ∀ c ∈ [z, TI, TO, i1, i2], FpOk X pins H c) (hq : q.Sq H a xs) (hr : r.Sq H b ys) : Zd z TI TO i1 i2 [i1, a] [i2, b] := by
  have fa : ∀ c ∈ [z, TI, TO, i1, i2], c ≠ a := fun c hc => (q.far hK I hq (hf c hc)).symm
  have fb : ∀ c ∈ [z, TI, TO, i1, i2], c ≠ b := fun c hc => (r.far hK I hr (hf c hc)).symm
  refine ⟨Z.a, Z.b, Z.c, Z.d, Z.e, Z.f, Z.g, Z.h, Z.i, ?_, ?_, ?_, ?_, ?_, ?_⟩
  · simp [Z.h.symm, fa z (by simp)]
  · simp [Z.i.symm, fb z (by simp)]
  · simp [Z.f, fa TO (by simp)]
  · simp [Z.g, fb TO (by simp)]
  · simp [Z.j, fb i1 (by simp)]
  · simp [Z.j.symm, fa i2 (by simp)]
theorem turn_zip (q r : SqKind P w K) {elts : List Expr} {k : Nat} {pos : Pos} (a b z TI TO i1 i2 : Addr) (Z : Zr z TI TO i1 i2) : Turn P w K (.Tuple elts k pos) (Itz q r a b) [z, TI, TO, i1, i2] z
    (fun i h => IsZip h z TI TO .none ∧ IsPair h TI (.ref i1) (.ref i2) ∧ (∃ va vb, IsPair h TO va vb) ∧ q.It h i1 a i ∧ r.It h i2 b i) where
  mem := by simp
  obj := fun i h st c hc => by
    obtain ⟨hz, hTI, ⟨va, vb, hTO⟩, hi, hj⟩ := st
    obtain ⟨o, vs, h1, h2⟩ := q.itObj hi
    obtain ⟨o', vs', h1', h2'⟩ := r.itObj hj
    simp only [List.mem_cons, List.not_mem_nil, or_false] at hc
    rcases hc with rfl | rfl | rfl | rfl | rfl
    · exact ⟨_, hz, fun v z => nomatch z⟩
    · exact ⟨_, hTI, fun v z => nomatch z⟩
    · exact ⟨_, hTO, fun v z => nomatch z⟩
    · exact ⟨o, h1, fun v z => by rw [h2] at z; cases z⟩
    · exact ⟨o', h1', fun v z => by rw [h2'] at z; cases z⟩
  keep := fun i h h' st k => by
    obtain ⟨hz, hTI, ⟨va, vb, hTO⟩, hi, hj⟩ := st
    exact ⟨k z (by simp) _ hz, k TI (by simp) _ hTI, ⟨va, vb, k TO (by simp) _ hTO⟩, q.itAt hi fun o e => k i1 (by simp) o e, r.itAt hj fun o e => k i2 (by simp) o e⟩
  item := by
    intro X hP hw hK hc i pins s σ H E I hf st hg
    obtain ⟨xs, ys, x, y, hq, hr, hx, hy⟩ := hg
    obtain ⟨its, rv, ob⟩ := q.get hP hw hK I hq
    obtain ⟨its2, rv2, ob2⟩ := r.get hP hw hK I hr
    obtain ⟨u, hu, ru⟩ := rv.get hx
    obtain ⟨u2, hu2, ru2⟩ := rv2.get hy
    obtain ⟨hz, hTI, ⟨va, vb, hTO⟩, hi, hj⟩ := st
    have ux : ∀ zs, q.Sq H a zs → zs[i]? = some x := fun zs h => by rw [q.inj hP hw hK I h hq]; exact hx
    have uy : ∀ zs, r.Sq H b zs → zs[i]? = some y := fun zs h => by rw [r.inj hP hw hK I h hr]; exact hy
    have Z2 := Z.zd q r hK I hf hq hr
    have l1 : i < its.toArray.size := by simpa using (List.getElem?_eq_some_iff.mp hu).1
    have l2 : i < its2.toArray.size := by simpa using (List.getElem?_eq_some_iff.mp hu2).1
    subst hP hw
    have hT : s.TypeIs (.ref z) "zip" := ⟨_, hz, rfl⟩
    unfold pyNext
    refine wpAny_bind (wpAny_attempt (wpAny_callSpecial?_slot (name := Str.ofString "__next__") hT F.slot_zip_next (wpAny_call_entry F.slot_zip_next hT F.entry_zip_next ?_ (F.args_zip_next_1 _))))
    refine zip_nx (q.draws X.A.in1 (I.ok.hd hc) i1 a (q.ne hi ob) its.toArray) (r.draws X.A.in1 (I.ok.hd hc) i2 b (r.ne hj ob2) its2.toArray) Z2 hz hTI hTO ⟨hi, ob⟩ ⟨hj, ob2⟩ l1 l2 fun x' y' h' tk px py hz' hTO' t1 t2 hp' kp => wpAny_pure ?_
    have ex : x' = u := by
      have e1 : its.toArray[i]? = some u := by simpa using hu
      rw [e1] at px
      exact (Option.some.inj px).symm
    have ey : y' = u2 := by
      have e1 : its2.toArray[i]? = some u2 := by simpa using hu2
      rw [e1] at py
      exact (Option.some.inj py).symm
    subst ex
    subst ey
    refine ⟨_, rfl, wpAny_letOwnedTupleGo_zip hz' fun h2 hz2 sb => ?_⟩
    have I1 : Inv X pins σ H { s with heap := h2, toks := tk } := invRecs (ch := [z, TI, TO, i1, i2]) I hf fun c o hb q' => (sb.2 c (fun z => hb (by simp [z]))).trans (kp c o (fun z => hb (by simp [z])) (fun z => hb (by simp [z])) (fun z => hb (by simp [z])) (fun z => hb (by simp [z])) q')
    have hp : H s.heap.objs.size = none := I.hok.fresh (Nat.le_refl _)
    have elt : z < s.heap.objs.size := Heap.lt_size hz
    have hT2 : h2.get? s.heap.objs.size = some { cls := .type "tuple", data := .seq #[x', y'] } := (sb.2 _ (Nat.ne_of_gt elt)).trans hp'
    have I2 : Inv X pins σ (upd H s.heap.objs.size (.tup [x, y])) { s with heap := h2, toks := tk } := invTrack I I1 (Nat.le_refl _) ⟨by show 2 ≤ sizeLine; decide, [x', y'], .cons ru (.cons ru2 .nil), _, hT2, rfl, _, rfl⟩
    have hTI' : IsPair h2 TI (.ref i1) (.ref i2) := (sb.2 _ Z.a).trans (kp _ _ Z.a Z.c Z.d Z.e hTI)
    refine ⟨.ref s.heap.objs.size, _, I2, rfl, ⟨_, x, y, hp, rfl, rfl, ux, uy⟩, ⟨hz2, hTI', ⟨_, _, (sb.2 _ Z.b).trans hTO'⟩, q.itAt t1.1 fun o q' => (sb.2 i1 Z.h).trans q', r.itAt t2.1 fun o q' => (sb.2 i2 Z.i).trans q'⟩, fun c hb => ?_⟩
    rw [upd_ne (Nat.ne_of_lt ?_)]
    · exact (hf c hb).1
    · obtain ⟨o, vs, h1, _⟩ := q.itObj hi
      obtain ⟨o', vs', h1', _⟩ := r.itObj hj
      simp only [List.mem_cons, List.not_mem_nil, or_false] at hb
      rcases hb with rfl | rfl | rfl | rfl | rfl
      · exact elt
      · exact Heap.lt_size hTI
      · exact Heap.lt_size hTO
      · exact Heap.lt_size h1
      · exact Heap.lt_size h1'
  done := by
    intro X hP hw hK hc i pins s σ H E I hf st hg
    obtain ⟨xs, ys, hq, hr, hn⟩ := hg
    obtain ⟨its, rv, ob⟩ := q.get hP hw hK I hq
    obtain ⟨its2, rv2, ob2⟩ := r.get hP hw hK I hr
    obtain ⟨hz, hTI, ⟨va, vb, hTO⟩, hi, hj⟩ := st
    have Z2 := Z.zd q r hK I hf hq hr
    subst hP hw
    have hT : s.TypeIs (.ref z) "zip" := ⟨_, hz, rfl⟩
    have hk : i = its.toArray.size ∨ (i < its.toArray.size ∧ i = its2.toArray.size) := by
      have e1 := rv.length
      have e2 := rv2.length
      simp only [List.size_toArray]
      omega
    unfold pyNext
    refine wpAny_bind (wpAny_attempt (wpAny_callSpecial?_slot (name := Str.ofString "__next__") hT F.slot_zip_next (wpAny_call_entry F.slot_zip_next hT F.entry_zip_next ?_ (F.args_zip_next_1 _))))
    refine zip_stop (q.draws X.A.in1 (I.ok.hd hc) i1 a (q.ne hi ob) its.toArray) (r.draws X.A.in1 (I.ok.hd hc) i2 b (r.ne hj ob2) its2.toArray) Z2 hz hTI hTO ⟨hi, ob⟩ ⟨hj, ob2⟩ hk fun h' tk e kp ⟨o, he, ce⟩ => ?_
    refine wpAny_bind (wpAny_isInstance (T := "StopIteration") (b := true) ⟨o, he, ce⟩ isSubtype_stop (wpAny_pure ⟨rfl, ?_⟩))
    exact invRecs (ch := [z, TI, TO, i1, i2]) I hf fun c o hb q' => kp c o (fun z => hb (by simp [z])) (fun z => hb (by simp [z])) (fun z => hb (by simp [z])) (fun z => hb (by simp [z])) q'
  self := fun _ _ _ _ _ st h => wpAny_pyIter_zip st.1 h
theorem yields_zip (q r : SqKind P w K) {O : Own} {H : Hp} {a b : Addr} {ds es : List D} (h : ∀ O' H', Conv O O' H H' → ∃ xs ys, q.Sq H' a xs ∧ Reps K O' H' xs ds ∧ r.Sq H' b ys ∧ Reps K O' H' ys es) : Yields K (Itz q r a b) O H (List.zipWith (fun x y => .tup [x, y]) ds es) := by
  intro O' H' cv tr i
  obtain ⟨xs, ys, hq, r1, hr, r2⟩ := h O' H' cv
  refine ⟨fun d hd => ?_, fun hi => ⟨xs, ys, hq, hr, by rw [hi, r1.length, r2.length, List.length_zipWith]⟩⟩
  rw [List.getElem?_zipWith] at hd
  cases e1 : ds[i]? with
  | none => rw [e1] at hd; cases hd
  | some d1 =>
    cases e2 : es[i]? with
    | none => rw [e1, e2] at hd; cases hd
    | some d2 =>
      rw [e1, e2] at hd
      cases hd
      obtain ⟨v1, hv1, rv1⟩ := r1.get e1
      obtain ⟨v2, hv2, rv2⟩ := r2.get e2
      refine ⟨⟨xs, ys, v1, v2, hq, hr, hv1, hv2⟩, fun x H'' y => ?_⟩
      obtain ⟨p, x', y', hp, rfl, rfl, hx, hy⟩ := y
      have ex := hx xs hq
      have ey := hy ys hr
      rw [hv1] at ex
      rw [hv2] at ey
      cases ex
      cases ey
      have np : ¬ O'.has p := fun z => tr p z hp
      exact ⟨Same.fresh hp _, .tup (.inl ⟨np, .inl upd_same⟩) (.cons (rv1.mono (Step.fresh hp _)) (.cons (rv2.mono (Step.fresh hp _)) .nil))⟩
/-- the heap behind zip(..): two iterators, their pair, the pair that is handed out, the zip -/
abbrev zh (h : Heap) (c1 c2 : String) (l1 l2 : Addr) : Heap :=
  ((((h.push { cls := .type c1, data := .fields #[.ref l1, .int 0 0] }).push { cls := .type c2, data := .fields #[.ref l2, .int 0 0] }).push { cls := .type "tuple", data := .seq #[.ref h.objs.size, .ref (h.push { cls := .type c1, data := .fields #[.ref l1, .int 0 0] }).objs.size] }).push { cls := .type "tuple", data := .seq #[.none, .none] })
abbrev zhz (h : Heap) (c1 c2 : String) (l1 l2 : Addr) : Heap :=
  (zh h c1 c2 l1 l2).push { cls := .type "zip", data := .fields #[.none, .bool false, .bool false, .ref ((h.push { cls := .type c1, data := .fields #[.ref l1, .int 0 0] }).push { cls := .type c2, data := .fields #[.ref l2, .int 0 0] }).objs.size,
    .ref (((h.push { cls := .type c1, data := .fields #[.ref l1, .int 0 0] }).push { cls := .type c2, data := .fields #[.ref l2, .int 0 0] }).push { cls := .type "tuple", data := .seq #[.ref h.objs.size, .ref (h.push { cls := .type c1, data := .fields #[.ref l1, .int 0 0] }).objs.size] }).objs.size] }
theorem zip_newTT (l1 l2 : Addr) (xs ys : Array Value) :
    Meets (Builtin.«zip.__new__» ⟨[.type "zip", .ref l1, .ref l2], []⟩) (fun _ R s => s.heap.IsTuple l1 xs ∧ s.heap.IsTuple l2 ys ∧
      R (.ok (.ret (.ref (zh s.heap "tuple_iterator" "tuple_iterator" l1 l2).objs.size))) { s with heap := zhz s.heap "tuple_iterator" "tuple_iterator" l1 l2 }) :=
  .of_wp fun prog w A R s h => by
    obtain ⟨hp, g, d, tk, os⟩ := s; obtain ⟨a1, a2, h⟩ := h
    have hsub := sub_zip
    have b1 : Heap.IsTuple (Shared.heap ⟨hp, g, d, tk, os⟩) l1 xs := a1
    have b2 : Heap.IsTuple (Shared.heap ⟨hp.push { cls := .type "tuple_iterator", data := .fields #[.ref l1, .int 0 0] }, g, d, tk, os⟩) l2 ys := Heap.IsTuple.push a2 _
    wp_walk using wpAny_pyIter_tuple b1, wpAny_pyIter_tuple b2
    exact ⟨_, rfl, h⟩
end
section
variable {X : Cx} {Γ : Gam} {S : Store} {pos : Pos}
theorem zip_parts (h : Heap) (c1 c2 : String) (l1 l2 : Addr) : (zh h c1 c2 l1 l2).objs.size = h.objs.size + 4 ∧ IsZip (zhz h c1 c2 l1 l2) (h.objs.size + 4) (h.objs.size + 2) (h.objs.size + 3) .none ∧ IsPair (zhz h c1 c2 l1 l2) (h.objs.size + 2) (.ref h.objs.size) (.ref (h.objs.size + 1)) ∧ IsPair (zhz h c1 c2 l1 l2) (h.objs.size + 3) .none .none ∧
    (zhz h c1 c2 l1 l2).get? h.objs.size = some { cls := .type c1, data := .fields #[.ref l1, .int 0 0] } ∧ (zhz h c1 c2 l1 l2).get? (h.objs.size + 1) = some { cls := .type c2, data := .fields #[.ref l2, .int 0 0] } ∧ ∀ b o, h.get? b = some o → (zhz h c1 c2 l1 l2).get? b = some o := by
  have z1 : (h.push { cls := .type c1, data := .fields #[.ref l1, .int 0 0] }).objs.size = h.objs.size + 1 := Heap.size_push ..
  have z2 : ((h.push { cls := .type c1, data := .fields #[.ref l1, .int 0 0] }).push { cls := .type c2, data := .fields #[.ref l2, .int 0 0] }).objs.size = h.objs.size + 2 := by rw [Heap.size_push, z1]
  have z3 : (((h.push { cls := .type c1, data := .fields #[.ref l1, .int 0 0] }).push { cls := .type c2, data := .fields #[.ref l2, .int 0 0] }).push { cls := .type "tuple", data := .seq #[.ref h.objs.size, .ref (h.push { cls := .type c1, data := .fields #[.ref l1, .int 0 0] }).objs.size] }).objs.size = h.objs.size + 3 := by rw [Heap.size_push, z2]
  have z4 : (zh h c1 c2 l1 l2).objs.size = h.objs.size + 4 := by rw [Heap.size_push, z3]
  have g5 := Heap.get?_push_size (zh h c1 c2 l1 l2) (o := { cls := .type "zip", data := .fields #[.none, .bool false, .bool false, .ref ((h.push { cls := .type c1, data := .fields #[.ref l1, .int 0 0] }).push { cls := .type c2, data := .fields #[.ref l2, .int 0 0] }).objs.size,
    .ref (((h.push { cls := .type c1, data := .fields #[.ref l1, .int 0 0] }).push { cls := .type c2, data := .fields #[.ref l2, .int 0 0] }).push { cls := .type "tuple", data := .seq #[.ref h.objs.size, .ref (h.push { cls := .type c1, data := .fields #[.ref l1, .int 0 0] }).objs.size] }).objs.size] }) rfl
  have g4 : (zhz h c1 c2 l1 l2).get? (((h.push { cls := .type c1, data := .fields #[.ref l1, .int 0 0] }).push { cls := .type c2, data := .fields #[.ref l2, .int 0 0] }).push { cls := .type "tuple", data := .seq #[.ref h.objs.size, .ref (h.push { cls := .type c1, data := .fields #[.ref l1, .int 0 0] }).objs.size] }).objs.size = some { cls := .type "tuple", data := .seq #[.none, .none] } := Heap.get?_push_of_some _ (Heap.get?_push_size _ rfl)
  have g3 : (zhz h c1 c2 l1 l2).get? ((h.push { cls := .type c1, data := .fields #[.ref l1, .int 0 0] }).push { cls := .type c2, data := .fields #[.ref l2, .int 0 0] }).objs.size = some { cls := .type "tuple", data := .seq #[.ref h.objs.size, .ref (h.push { cls := .type c1, data := .fields #[.ref l1, .int 0 0] }).objs.size] } := Heap.get?_push_of_some _ (Heap.get?_push_of_some _ (Heap.get?_push_size _ rfl))
  have g2 : (zhz h c1 c2 l1 l2).get? (h.push { cls := .type c1, data := .fields #[.ref l1, .int 0 0] }).objs.size = some { cls := .type c2, data := .fields #[.ref l2, .int 0 0] } := Heap.get?_push_of_some _ (Heap.get?_push_of_some _ (Heap.get?_push_of_some _ (Heap.get?_push_size _ rfl)))
  have g1 : (zhz h c1 c2 l1 l2).get? h.objs.size = some { cls := .type c1, data := .fields #[.ref l1, .int 0 0] } := Heap.get?_push_of_some _ (Heap.get?_push_of_some _ (Heap.get?_push_of_some _ (Heap.get?_push_of_some _ (Heap.get?_push_size _ rfl))))
  rw [z2, z3, z4] at g5
  rw [z3] at g4
  rw [z1, z2] at g3
  rw [z1] at g2
  refine ⟨z4, ?_, g3, g4, g1, g2, fun b o e => Heap.get?_push_of_some _ (Heap.get?_push_of_some _ (Heap.get?_push_of_some _ (Heap.get?_push_of_some _ (Heap.get?_push_of_some _ e))))⟩
  show (zhz h c1 c2 l1 l2).get? _ = _
  unfold zhz
  rw [z2, z3]
  exact g5
theorem zip_it {pins : Pins} {σ : St} {H : Hp} {s : Shared} {elts : List Expr} {k : Nat} {tp : Pos} {R : It → Hp → Prop} {E : Value → Shared → Prop} {c1 c2 : String} {l1 l2 : Addr} (q r : SqKind X.prog X.w X.K) (I : Inv X pins σ H s)
    (hi : q.It (zhz s.heap c1 c2 l1 l2) s.heap.objs.size l1 0) (hj : r.It (zhz s.heap c1 c2 l1 l2) (s.heap.objs.size + 1) l2 0) (rr : R (Itz q r l1 l2) H) :
    wpAny (model X.prog X.w) X.A (pyIter (.ref (s.heap.objs.size + 4))) (PIE X pins σ (.Tuple elts k tp) R) E { s with heap := zhz s.heap c1 c2 l1 l2 } := by
  obtain ⟨_, p1, p2, p3, _, _, kp⟩ := zip_parts s.heap c1 c2 l1 l2
  refine wpAny_pyIter_zip p1 ?_
  refine ⟨s.heap.objs.size + 4, [s.heap.objs.size + 4, s.heap.objs.size + 2, s.heap.objs.size + 3, s.heap.objs.size, s.heap.objs.size + 1], _, _, H, rfl, I.kept (t' := s.toks) kp, turn_zip q r l1 l2 (s.heap.objs.size + 4) (s.heap.objs.size + 2) (s.heap.objs.size + 3) s.heap.objs.size (s.heap.objs.size + 1) ?_, ⟨p1, p2, ⟨_, _, p3⟩, hi, hj⟩, fun b hb => ?_, rr⟩
  · constructor <;> exact fun z => by have z' : (_ : Nat) = _ := z; omega
  · have hb' : s.heap.objs.size ≤ b := by
      simp only [List.mem_cons, List.not_mem_nil, or_false] at hb
      rcases hb with rfl | rfl | rfl | rfl | rfl
      · exact Nat.le_add_right _ _
      · exact Nat.le_add_right _ _
      · exact Nat.le_add_right _ _
      · exact Nat.le_refl _
      · exact Nat.le_add_right _ _
    exact I.fpOk hb' (I.hok.fresh hb')
theorem it_zipTT {e1 e2 : Expr} {elts : List Expr} {k : Nat} {tp p : Pos} {W : List D → Store → Prop} (h : Ev X Γ S e1 fun d S1 => Ev X Γ S1 e2 fun d' S2 => ∃ ds es, d = .tup ds ∧ d' = .tup es ∧ W (List.zipWith (fun x y => .tup [x, y]) ds es) S2) (hm : X.mg "zip" = none) (hg : Gl X "zip" := by rfl)
    (hs : starEach [e1, e2] X.env = (false, eval e1 X.env) :: starEach [e2] X.env := by rfl) (hs2 : starEach [e2] X.env = [(false, eval e2 X.env)] := by rfl) :
    ItW X Γ S (.Tuple elts k tp) (.Call (.Name "zip" p) [e1, e2] [] pos) W := by
  intro pins s σ H O I env st
  have hA : EvA X Γ S [e1, e2] fun dd S2 => ∃ ds es, dd = [.tup ds, .tup es] ∧ W (List.zipWith (fun x y => .tup [x, y]) ds es) S2 :=
    eva_cons (h.mono fun d S1 h1 => eva_cons (h1.mono fun d' S2 ⟨ds, es, a, b, w⟩ => eva_nil ⟨ds, es, by rw [a, b], w⟩) hs2) hs
  refine Call_ (ld_blt I hg hm boot_zip (PyProof.Rows.callWith_type1 (thn (hA pos pins s σ H O I env st) fun us s1 ⟨vs, H1, I1, r1, O1, dd, S1, ⟨ds, es, ed, w⟩, st1, ok1, rep⟩ => ?_) hs (by rw [hs2]; rfl)))
  subst ed
  cases rep with
  | cons ra rb =>
    cases rb with
    | cons rb rc =>
      cases rc
      obtain ⟨u, u2, rfl, ru, ru2⟩ := vals2 r1
      cases ra with
      | @tup a xs _ h1 q1 =>
        cases rb with
        | @tup b ys _ h2 q2 =>
          cases ru
          cases ru2
          obtain ⟨its, rv, pl, hz⟩ := I1.tuple h1.sq
          obtain ⟨its2, rv2, pl2, hz2⟩ := I1.tuple h2.sq
          obtain ⟨z4, p1, p2, p3, p4, p5, kp⟩ := zip_parts s1.heap "tuple_iterator" "tuple_iterator" a b
          refine callType_new F.called_zip (by decide) (F.typeCall_zip_2 _ _) (F.newCall_zip_2 _ _) (fun obj => F.args_object_init_3 obj _ _) F.entry_zip_new (zip_newTT a b its.toArray its2.toArray) ⟨pl, pl2, ?_⟩
          show _ ∧ _
          rw [z4]
          refine ⟨⟨_, p1, rfl⟩, zip_it (kTup X.prog X.w X.K) (kTup X.prog X.w X.K) I1 ⟨_, p4, rfl, rfl⟩ ⟨_, p5, rfl, rfl⟩ ⟨O1, _, S1, w, st1, ok1, yields_zip _ _ fun O' H' cv => ⟨xs, ys, (h1.conv cv).sq, q1.conv cv, (h2.conv cv).sq, q2.conv cv⟩⟩⟩
end
end DL

set_option Elab.async false
set_option linter.all false
set_option maxRecDepth 100000
set_option maxHeartbeats 4000000
namespace DL
open PySem PySem.Spec L2
open PyProof.Rows
section
variable {X : Cx} {Γ : Gam} {S : Store} {e : Expr}
theorem po_s {W : Option Int → Store → Prop} (h : Ev X Γ S e fun d S1 => ∃ i, d = .int i ∧ W (some i) S1) : PoD X Γ S (some e) W := h
theorem po_n {W : Option Int → Store → Prop} (h : W none S) : PoD X Γ S none W := h
theorem turn0 {elt : Expr} {W : WD} {Q : Store → Prop} (h : Ev X Γ S elt W) : TsA X Γ S [] fun ok S3 => (ok = true → Ev X Γ S3 elt W) ∧ (ok = false → Q S3) := ⟨fun _ => h, fun z => nomatch z⟩
theorem turn1 {c : Expr} {W : Bool → Store → Prop} (h : Ts X Γ S c W) : TsA X Γ S [c] W := h
end
theorem take_one {α : Type} {xs : List α} {i : Nat} {x : α} (h : xs[i]? = some x) : xs.take (i + 1) = xs.take i ++ [x] := by rw [List.take_add_one, h]; rfl
theorem cut_tail (d : D) (ds : List D) : cutD (d :: ds) (some 1) none = ds := by
  unfold cutD
  have h1 : HT.sIx (d :: ds).length 0 (some 1) = 1 := by
    have := HT.sIx_nat (d :: ds).length 0 1
    simp only [List.length_cons] at this ⊢
    have h2 : ((1 : Nat) : Int) = 1 := rfl
    rw [h2] at this
    rw [this]; omega
  rw [h1, HT.sIx_none]
  simp
theorem cut_len (ds : List D) (lo hi : Option Int) : (cutD ds lo hi).length ≤ ds.length := by
  unfold cutD
  rw [List.length_take, List.length_drop]; omega
theorem cut_mem {ds : List D} {lo hi : Option Int} {x : D} (h : x ∈ cutD ds lo hi) : x ∈ ds := by
  unfold cutD at h
  exact List.mem_of_mem_drop (List.mem_of_mem_take h)
/-- t[:k], t[k:] -/
theorem cut_to {ds : List D} {k : Int} (h : 0 ≤ k) : cutD ds none (some k) = ds.take k.toNat := by
  unfold cutD
  rw [HT.sIx_none]
  have e : HT.sIx ds.length ds.length (some k) = min k.toNat ds.length := by
    have := HT.sIx_nat ds.length ds.length k.toNat
    rwa [Int.toNat_of_nonneg h] at this
  rw [e, List.drop_zero, Nat.sub_zero]
  rcases Nat.le_total k.toNat ds.length with q | q
  · rw [Nat.min_eq_left q]
  · rw [Nat.min_eq_right q, List.take_of_length_le (Nat.le_refl _), List.take_of_length_le q]
theorem cut_from {ds : List D} {k : Int} (h : 0 ≤ k) : cutD ds (some k) none = ds.drop k.toNat := by
  unfold cutD
  rw [HT.sIx_none]
  have e : HT.sIx ds.length 0 (some k) = min k.toNat ds.length := by
    have := HT.sIx_nat ds.length 0 k.toNat
    rwa [Int.toNat_of_nonneg h] at this
  rw [e]
  rcases Nat.le_total k.toNat ds.length with q | q
  · rw [Nat.min_eq_left q, List.take_of_length_le (by rw [List.length_drop]; omega)]
  · rw [Nat.min_eq_right q, List.drop_eq_nil_of_le (Nat.le_refl _), List.drop_eq_nil_of_le q]; simp
theorem atI_lt {α : Type} {ds : List α} {v : Int} (h0 : 0 ≤ v) (h1 : v < ds.length) : ∃ x, atI ds v = some x ∧ ds[v.toNat]? = some x := by
  have hk : v.toNat < ds.length := by omega
  refine ⟨ds[v.toNat], ?_, List.getElem?_eq_getElem hk⟩
  have q := atI_nat (xs := ds) (j := v.toNat) (List.getElem?_eq_getElem hk)
  rwa [Int.toNat_of_nonneg h0] at q
theorem atI_zero {α : Type} (x : α) (xs : List α) : atI (x :: xs) 0 = some x := atI_nat (xs := x :: xs) (j := 0) rfl
theorem set_get {S : Store} {k : Nat} {l l' : List D} (h : S[k]? = some l) : (S.set k l')[k]? = some l' := List.getElem?_set_self (List.getElem?_eq_some_iff.mp h).1

/-! the pen of a law: a list of the script, where it stands, what is left of the cell, how often it was asked, its way, its seed -/
def penL (ns : List Int) (a c n m z : Int) : List D := [.lst (ns.map .int), .int a, .int c, .int n, .int m, .int z]
def Pen (S : Store) (k : Nat) : Prop := ∃ ns a c n m z, S[k]? = some (penL ns a c n m z) ∧ 0 ≤ a
/-- nothing but the pen has changed -/
def Upd (S : Store) (k : Nat) (S' : Store) : Prop := ∃ ns a c n m z, S' = S.set k (penL ns a c n m z) ∧ 0 ≤ a
theorem Upd.pen {S S' : Store} {k : Nat} (p : Pen S k) (u : Upd S k S') : Pen S' k := by
  obtain ⟨_, _, _, _, _, _, h, _⟩ := p
  obtain ⟨ns, a, c, n, m, z, rfl, ha⟩ := u
  exact ⟨ns, a, c, n, m, z, set_get h, ha⟩
theorem Upd.trans {S S1 S2 : Store} {k : Nat} (a : Upd S k S1) (b : Upd S1 k S2) : Upd S k S2 := by
  obtain ⟨_, _, _, _, _, _, rfl, _⟩ := a
  obtain ⟨ns, x, c, n, m, z, rfl, ha⟩ := b
  exact ⟨ns, x, c, n, m, z, by rw [List.set_set], ha⟩
theorem Upd.refl {S : Store} {k : Nat} (p : Pen S k) : Upd S k S := by
  obtain ⟨ns, a, c, n, m, z, h, ha⟩ := p
  exact ⟨ns, a, c, n, m, z, by
    obtain ⟨hl, e⟩ := List.getElem?_eq_some_iff.mp h
    rw [← e, List.set_getElem_self], ha⟩
theorem Upd.len {S S' : Store} {k : Nat} (u : Upd S k S') : S'.length = S.length := by
  obtain ⟨_, _, _, _, _, _, rfl, _⟩ := u
  simp
end DL

set_option Elab.async false
set_option linter.all false
set_option maxRecDepth 100000
set_option maxHeartbeats 4000000
namespace RF
open PySem PySem.Spec L2 DL
open PyProof.Rows
open Builtin
theorem noFill_tuple_mul : fillsNumberSlot (.type "tuple") "mul" = pure false :=
  PySem.fillsNumberSlot_seq (id := "tuple.__mul__") (r := some (.builtin "tuple.__rmul__")) F.slot_tuple_mul.lookup (by decide +kernel) F.slot_tuple_rmul.lookup (by decide +kernel)
theorem repeat_tuple : seqRepeat? (.type "tuple") = pure (some (.builtin "tuple.__mul__")) := by
  unfold seqRepeat?
  rw [PySem.seqSlot_of (T := "tuple") (name := "__mul__") (id := "tuple.__mul__") F.slot_tuple_mul.lookup (by decide +kernel), PySem.seqSlot_of (T := "tuple") (name := "__rmul__") (id := "tuple.__rmul__") F.slot_tuple_rmul.lookup (by decide +kernel)]
  rfl
theorem int_rmul_tuple (a : Int) (t : Tok) (l : Addr) (items : Array Value) (n : Nat) (dct : Option Addr) (sl : Array (Option Value)) :
    Meets (Builtin.«int.__rmul__» ⟨[.int a t, .ref l], []⟩) (fun _ R s => s.heap.get? l = some { cls := .type "tuple", dict := dct, data := .seq items n, slots := sl } ∧ R (.ok (.ret Value.notImplemented)) s) :=
  .of_wp fun prog w A R s h => by obtain ⟨hp, g, d, tk, os⟩ := s; obtain ⟨hl, h⟩ := h; wp_walk; exact ⟨_, rfl, h⟩
theorem tuple_mul_same (l : Addr) (items : Array Value) (n : Nat) (dct : Option Addr) (sl : Array (Option Value)) (x : Int) (u : Tok) (h1 : ¬ (decide (x < -(2 ^ 63)) || decide (x ≥ 2 ^ 63)) = true) (hc : (items.isEmpty || x == 1) = true) :
    Meets (Builtin.«tuple.__mul__» ⟨[.ref l, .int x u], []⟩) (fun _ R s => s.heap.get? l = some { cls := .type "tuple", dict := dct, data := .seq items n, slots := sl } ∧ R (.ok (.ret (.ref l))) s) :=
  .of_wp fun prog w A R s h => by
    obtain ⟨hp, g, d, tk, os⟩ := s; obtain ⟨hl, h⟩ := h
    unfold Builtin.«tuple.__mul__»
    wp_walk
    rw [if_neg h1]
    wp_walk using AutoSeq1.wpAny_loadPart' hl
    try rw [if_pos hc]
    wp_walk using AutoSeq1.wpAny_loadPart' hl
    exact ⟨_, rfl, h⟩
theorem tuple_mul_none (l : Addr) (items : Array Value) (n : Nat) (dct : Option Addr) (sl : Array (Option Value)) (x : Int) (u : Tok) (h1 : ¬ (decide (x < -(2 ^ 63)) || decide (x ≥ 2 ^ 63)) = true) (hc : ¬ (items.isEmpty || x == 1) = true) (h2 : (decide (x ≤ 0) || items.isEmpty) = true) :
    Meets (Builtin.«tuple.__mul__» ⟨[.ref l, .int x u], []⟩) (fun _ R s => s.heap.get? l = some { cls := .type "tuple", dict := dct, data := .seq items n, slots := sl } ∧ R (.ok (.ret (.ref s.heap.objs.size))) { s with heap := s.heap.push { cls := .type "tuple", data := .seq #[] } }) :=
  .of_wp fun prog w A R s h => by
    obtain ⟨hp, g, d, tk, os⟩ := s; obtain ⟨hl, h⟩ := h
    unfold Builtin.«tuple.__mul__»
    wp_walk
    rw [if_neg h1]
    wp_walk using AutoSeq1.wpAny_loadPart' hl
    try rw [if_neg hc]
    wp_walk using AutoSeq1.wpAny_loadPart' hl
    try rw [if_pos h2]
    wp_walk using AutoSeq1.wpAny_loadPart' hl
    exact ⟨_, rfl, h⟩
theorem tuple_mul_many (l : Addr) (items : Array Value) (n : Nat) (dct : Option Addr) (sl : Array (Option Value)) (x : Int) (u : Tok) (h1 : ¬ (decide (x < -(2 ^ 63)) || decide (x ≥ 2 ^ 63)) = true) (hc : ¬ (items.isEmpty || x == 1) = true) (h2 : ¬ (decide (x ≤ 0) || items.isEmpty) = true)
    (h3 : ¬ ((items.size : Int) * x > (2 ^ 63 - 1) / 8)) (h4 : ¬ Builtin.Tuple.tupleTooMany ((items.size : Int) * x) = true) (h5 : ((List.replicate x.toNat items).foldl (· ++ ·) #[]).size ≤ sizeLine) :
    Meets (Builtin.«tuple.__mul__» ⟨[.ref l, .int x u], []⟩) (fun _ R s => s.heap.get? l = some { cls := .type "tuple", dict := dct, data := .seq items n, slots := sl } ∧ R (.ok (.ret (.ref s.heap.objs.size))) { s with heap := s.heap.push { cls := .type "tuple", data := .seq ((List.replicate x.toNat items).foldl (· ++ ·) #[]) } }) :=
  .of_wp fun prog w A R s h => by
    obtain ⟨hp, g, d, tk, os⟩ := s; obtain ⟨hl, h⟩ := h
    unfold Builtin.«tuple.__mul__»
    wp_walk
    rw [if_neg h1]
    wp_walk using AutoSeq1.wpAny_loadPart' hl
    try rw [if_neg hc]
    wp_walk using AutoSeq1.wpAny_loadPart' hl
    try rw [if_neg h2]
    wp_walk using AutoSeq1.wpAny_loadPart' hl
    try rw [if_neg h3]
    wp_walk using AutoSeq1.wpAny_loadPart' hl
    try rw [if_neg h4]
    wp_walk using AutoSeq1.wpAny_loadPart' hl
    exact ⟨_, rfl, h⟩
theorem Reps.rep {K : PySem.W.Frag} {O : Own} {H : Hp} {vs : List V} {ds : List D} (r : Reps K O H vs ds) : ∀ k : Nat, Reps K O H (List.replicate k vs).flatten (List.replicate k ds).flatten
  | 0 => .nil
  | k + 1 => by
    rw [List.replicate_succ, List.replicate_succ, List.flatten_cons, List.flatten_cons]
    exact r.append (Reps.rep r k)
theorem b_repT {X : Cx} {S : Store} {W : WD} {ds : List D} {k : Int} (hk : -(2 ^ 63) ≤ k ∧ k < 2 ^ 63) (hz : ds.length * k.toNat ≤ 1000000) (w : W (.tup (List.replicate k.toNat ds).flatten) S) : BinW X .Mult (.tup ds) (.int k) S W := by
  intro pins s σ H O v w' u u' I st r1 r2 r3 r4
  cases r1 with
  | @tup a xs _ h1 q1 =>
    cases r2
    cases r3
    obtain ⟨t, rfl⟩ := r4
    obtain ⟨its, v1, p1, _⟩ := I.tuple h1.sq
    obtain ⟨⟨cls, dd, data, sl⟩, ho, hc, n, hd⟩ := id p1
    simp only at hc hd
    subst hc hd
    have l1 : its.length = ds.length := by rw [← v1.length, q1.length]
    have c1 : ¬ (decide (k < -(2 ^ 63)) || decide (k ≥ 2 ^ 63)) = true := by
      rw [decide_eq_false (by omega), decide_eq_false (by omega)]; decide
    have new : ∀ m : Nat, m = k.toNat → EP X pins σ (QG X.K O H W) (.ref s.heap.objs.size) { s with heap := s.heap.push { cls := .type "tuple", data := .seq (List.replicate m its).flatten.toArray } } := by
      rintro m rfl
      refine ⟨.ref s.heap.objs.size, upd H s.heap.objs.size (.tup (List.replicate k.toNat xs).flatten), I.laid (t' := s.toks) (fun b u e => Heap.get?_push_of_some _ e) (Nat.le_refl _) ?_, rfl, qg_tup w st I.fresh (Reps.rep q1 _)⟩
      exact ⟨by rw [len_rep, q1.length, Nat.mul_comm]; exact small hz, _, v1.rep _, ⟨_, Heap.get?_push_size _ rfl, rfl, _, rfl⟩⟩
    refine PySem.wpAny_binaryOp_repeat_ref (T := "tuple") (U := "int") (by decide) ⟨_, ho, rfl⟩ (fun s' => typeIs_int s' k t) noFill_tuple_mul F.fills_int_mul F.slot_int_rmul repeat_tuple F.slot_int_index.lookup
      (call_meets F.slot_int_rmul (typeIs_int s k t) F.entry_int_rmul (F.args_int_rmul_2 _ _) (int_rmul_tuple k t a its.toArray n dd sl) ⟨ho, rfl, ⟨_, ho, rfl⟩, ?_⟩)
    by_cases b1 : (its.toArray.isEmpty || k == 1) = true
    · refine call_meets F.slot_tuple_mul ⟨_, ho, rfl⟩ F.entry_tuple_mul (F.args_tuple_mul_2 _ _) (tuple_mul_same a its.toArray n dd sl k t c1 b1) ⟨ho, .ref a, H, I, rfl, ?_⟩
      have e : (List.replicate k.toNat ds).flatten = ds := by
        rw [Bool.or_eq_true] at b1
        rcases b1 with z | z
        · have : its = [] := by simpa using z
          have : ds = [] := by rw [this] at l1; simpa using l1.symm
          subst this
          simp
        · have : k = 1 := eq_of_beq z
          subst this
          simp
      rw [e] at w
      exact QG.here w st (.tup h1 q1)
    · by_cases b2 : (decide (k ≤ 0) || its.toArray.isEmpty) = true
      · refine call_meets F.slot_tuple_mul ⟨_, ho, rfl⟩ F.entry_tuple_mul (F.args_tuple_mul_2 _ _) (tuple_mul_none a its.toArray n dd sl k t c1 b1 b2) ⟨ho, ?_⟩
        have h0 : k.toNat = 0 := by
          rw [Bool.or_eq_true] at b2
          rcases b2 with z | z
          · have := of_decide_eq_true z; omega
          · exact absurd (by rw [z]; rfl) b1
        have := new 0 h0.symm
        exact this
      · have h0 : 0 < k := by
          cases z : decide (k ≤ 0) with
          | true => exact absurd (by rw [z]; rfl) b2
          | false => have := of_decide_eq_false z; omega
        have ek : (its.toArray.size : Int) * k = ((its.length * k.toNat : Nat) : Int) := by
          rw [List.size_toArray, Int.natCast_mul, Int.toNat_of_nonneg (by omega)]
        have fz : List.foldl (fun x1 x2 => x1 ++ x2) #[] (List.replicate k.toNat its.toArray) = (List.replicate k.toNat its).flatten.toArray := by
          have := foldl_rep its k.toNat []
          rw [List.nil_append] at this
          exact this
        have big : its.length * k.toNat ≤ 1000000 := by rw [l1]; exact hz
        refine call_meets F.slot_tuple_mul ⟨_, ho, rfl⟩ F.entry_tuple_mul (F.args_tuple_mul_2 _ _) (tuple_mul_many a its.toArray n dd sl k t c1 b1 b2 (by rw [ek]; omega) ?_ ?_) ⟨ho, ?_⟩
        · rw [ek]
          have : (1000000 : Nat) ≤ sizeLine := by decide
          unfold Builtin.Tuple.tupleTooMany
          rw [decide_eq_true_eq]
          omega
        · rw [fz, List.size_toArray, len_rep, Nat.mul_comm]; exact small big
        · rw [fz]
          exact new _ rfl
end RF

set_option Elab.async false
set_option linter.all false
set_option maxRecDepth 100000
set_option maxHeartbeats 4000000
/-! RF: texts as terms. A term carries its look at the text (chk), what it asks of the data (wp), and why that is enough (sound). -/
namespace RF
open PySem PySem.Spec L2 DL
open PyProof.Rows

structure Wd where
  P : Program
  w : World
  K : PySem.W.Frag
  mg : Str → Option Value
  base : Heap
abbrev Nm := List (Str × NameKind)
/-- where a text stands (top: in a def itself, not in a comprehension's block) -/
structure At (Ω : Wd) (X : Cx) (r : Nat) (top : Bool) (N : List Str) (nm : Nm) : Prop where
  p : X.prog = Ω.P
  w : X.w = Ω.w
  k : X.K = Ω.K
  g : X.mg = Ω.mg
  b : X.base = Ω.base
  room : Room r X.A
  xe : X.xe = fun _ _ => False
  calm : X.calm = true
  n : X.N = N
  nd : N.Nodup
  kind : X.env.scope.kind = .function
  look : ∀ x k, nm.lookup x = some k → X.env.kindOf x = some k ∨ (k = .free ∧ X.env.kindOf x = some .cell)
  fn : top = true → ∀ x, X.fn x = true

def vis (nm : Nm) (x : Str) : Bool := match nm.lookup x with | some .local => true | some .cell => true | some .free => true | _ => false
def lcl (top : Bool) (nm : Nm) (x : Str) : Bool := match nm.lookup x with | some .local => true | some .cell => top | _ => false
def glb (nm : Nm) (x : Str) : Bool := nm.lookup x == some .globalImplicit
def okN (x : Str) : Bool := !(x == ("__debug__" : Str)) && (!(x == ("__classdict__" : Str)) && !(x == ("__name__" : Str)))
def okE : Expr → Bool
  | .Starred .. => false | .Set .. => false | .Slice .. => false | _ => true
def noC : Expr → Bool
  | .ListComp .. => false | .SetComp .. => false | .DictComp .. => false | _ => true
def valE : Expr → Bool
  | .UnaryOp .. => false | .BoolOp .. => false | .IfExp .. => false | .Compare .. => false | _ => true

theorem and2 {a b : Bool} (h : (a && b) = true) : a = true ∧ b = true := by cases a <;> cases b <;> first | exact ⟨rfl, rfl⟩ | exact (Bool.false_ne_true h).elim
theorem nt {a : Bool} (h : (!a) = true) : a = false := by cases a <;> first | rfl | exact (Bool.false_ne_true h).elim
theorem okN_at {x : Str} (h : okN x = true) : (x == ("__debug__" : Str)) = false ∧ (x == ("__classdict__" : Str)) = false ∧ x ≠ "__name__" := by
  obtain ⟨h1, h2⟩ := and2 h
  obtain ⟨h2, h3⟩ := and2 h2
  exact ⟨nt h1, nt h2, fun e => by rw [e] at h3; simp at h3⟩
section
variable {Ω : Wd} {X : Cx} {r : Nat} {top : Bool} {N : List Str} {nm : Nm} {x : Str}
theorem At.vis (A : At Ω X r top N nm) (h : RF.vis nm x = true) : Vis X.env.scope x := by
  unfold RF.vis at h
  cases e : nm.lookup x with
  | none => rw [e] at h; cases h
  | some k =>
    rw [e] at h
    have q := A.look x k e
    cases k with
    | «local» => rcases q with q | ⟨q, _⟩; exact .inl q; exact nomatch q
    | cell => rcases q with q | ⟨q, _⟩; exact .inr (.inl q); exact nomatch q
    | free => rcases q with q | ⟨_, q⟩; exact .inr (.inr q); exact .inr (.inl q)
    | _ => exact (Bool.false_ne_true h).elim
theorem At.lcl (A : At Ω X r top N nm) (h : RF.lcl top nm x = true) : Loc X.env.scope x ∧ (X.fn x = true ∨ X.env.scope.names.lookup x = some .local) := by
  unfold RF.lcl at h
  cases e : nm.lookup x with
  | none => rw [e] at h; cases h
  | some k =>
    rw [e] at h
    have q := A.look x k e
    cases k with
    | «local» => rcases q with q | ⟨q, _⟩; exact ⟨.inl q, .inr q⟩; exact nomatch q
    | cell => rcases q with q | ⟨q, _⟩; exact ⟨.inr q, .inl (A.fn h x)⟩; exact nomatch q
    | _ => exact (Bool.false_ne_true h).elim
theorem At.glb (A : At Ω X r top N nm) (h : RF.glb nm x = true) : Gl X x := by
  have e : nm.lookup x = some .globalImplicit := eq_of_beq h
  rcases A.look x _ e with q | ⟨q, _⟩
  · exact q
  · exact nomatch q
theorem At.mono (A : At Ω X r top N nm) {j : Nat} (h : j ≤ r) : At Ω X j top N nm := { A with room := A.room.mono h }
end
theorem star_ok {e : Expr} (h : okE e = true) (es : List Expr) (env : Env) : starEach (e :: es) env = (false, eval e env) :: starEach es env := by
  cases e <;> first | rfl | exact (Bool.false_ne_true h).elim
theorem any_ok : ∀ {es : List Expr} (_ : es.all okE = true) (pos : Pos) (env : Env), (backTo pos (starEach es env)).any (·.1) = false
  | [], _, _, _ => rfl
  | e :: es, h, pos, env => by
    rw [List.all_cons] at h
    obtain ⟨h1, h2⟩ := and2 h
    rw [star_ok h1]
    show (false || (backTo pos (starEach es env)).any (·.1)) = false
    rw [any_ok h2]; rfl
theorem marks_ok {op : CmpOp} {e : Expr} (h : okE e = true) : behindInMarks op e = false := by
  cases e <;> first | rfl | exact (Bool.false_ne_true h).elim
theorem plain_ix {e : Expr} (h : okE e = true) : PlainIx e := by
  intro _ _
  cases e <;> first | rfl | exact (Bool.false_ne_true h).elim
theorem fold_ok {e : Expr} (h : okE e = true) (env : Env) : ∀ x, foldedSetIterable e env x = pure x := by
  intro x
  cases e <;> first | rfl | exact (Bool.false_ne_true h).elim
theorem swaps_ok {e : Expr} (h : noC e = true) (t : Option Expr) (l : Nat) (env : Env) : swapsWith e t l env = pure false := by
  cases e <;> first | rfl | exact (Bool.false_ne_true h).elim
theorem val_ok {e : Expr} (h : valE e = true) (env : Env) : ∀ whole, isTrue e env whole = (do let v ← whole; standAt e.pos; holding [v] (truthy v)) := by
  intro w
  cases e <;> first | rfl | exact (Bool.false_ne_true h).elim

/-! judgements said weaker -/
section
variable {X : Cx} {Γ : Gam} {S : Store} {e : Expr} {es : List Expr}
theorem EvA.mono {W W' : List D → Store → Prop} (h : EvA X Γ S es W) (k : ∀ ds S', W ds S' → W' ds S') : EvA X Γ S es W' := fun pos pins s σ H O I env st =>
  thn (h pos pins s σ H O I env st) fun _ _ ⟨v, H', I', r, O', d, S', w, q⟩ => ⟨v, H', I', r, O', d, S', k d S' w, q⟩
theorem Ts.mono {W W' : Bool → Store → Prop} (h : Ts X Γ S e W) (k : ∀ c S', W c S' → W' c S') : Ts X Γ S e W' := fun pins s σ H O I env st =>
  thn (h pins s σ H O I env st) fun _ _ ⟨H', I', O', S', w, q⟩ => ⟨H', I', O', S', k _ S' w, q⟩
theorem BdW.mono {d : D} {W W' : Gam → Store → Prop} (h : BdW X e d Γ S W) (k : ∀ G S', W G S' → W' G S') : BdW X e d Γ S W' := fun pins s σ H O v u I env st r ru =>
  thn (h pins s σ H O v u I env st r ru) fun _ _ ⟨σ', H', I', O', G, S', w, q⟩ => ⟨σ', H', I', O', G, S', k G S' w, q⟩
theorem ItW.mono {tg : Expr} {W W' : List D → Store → Prop} (h : ItW X Γ S tg e W) (k : ∀ ds S', W ds S' → W' ds S') : ItW X Γ S tg e W' := fun pins s σ H O I env st =>
  thn (h pins s σ H O I env st) fun _ _ q => thn q fun _ _ ⟨it, fp, tn, J, H', e1, e2, e3, e4, e5, O', ds, S', w, z⟩ => ⟨it, fp, tn, J, H', e1, e2, e3, e4, e5, O', ds, S', k ds S' w, z⟩
theorem SPmono {pins : Pins} {O : Own} {H : Hp} {W W' : DL.Fin} (h1 : ∀ G S, W.nx G S → W'.nx G S) (h2 : ∀ d S, W.rt d S → W'.rt d S) (h3 : ∀ G S, W.bk G S → W'.bk G S) (h4 : ∀ G S, W.ct G S → W'.ct G S) {f : Flow} {s' : Shared} (q : SP X pins (ends X.K O H W) f s') : SP X pins (ends X.K O H W') f s' := by
  cases f with
  | next => obtain ⟨σ, H', I, O', G, S', w, q⟩ := q; exact ⟨σ, H', I, O', G, S', h1 _ _ w, q⟩
  | brk => obtain ⟨σ, H', I, O', G, S', w, q⟩ := q; exact ⟨σ, H', I, O', G, S', h3 _ _ w, q⟩
  | cont => obtain ⟨σ, H', I, O', G, S', w, q⟩ := q; exact ⟨σ, H', I, O', G, S', h4 _ _ w, q⟩
  | ret u => obtain ⟨v, σ, H', I, r, O', d, S', w, q⟩ := q; exact ⟨v, σ, H', I, r, O', d, S', h2 _ _ w, q⟩
theorem Rn.mono {st : Stmt} {W W' : DL.Fin} (h : Rn X Γ S st W) (h1 : ∀ G S, W.nx G S → W'.nx G S) (h2 : ∀ d S, W.rt d S → W'.rt d S) (h3 : ∀ G S, W.bk G S → W'.bk G S) (h4 : ∀ G S, W.ct G S → W'.ct G S) : Rn X Γ S st W' := fun pins s σ H O I env ok =>
  thn (h pins s σ H O I env ok) fun _ _ q => SPmono h1 h2 h3 h4 q
/-- a < b < c as a test -/
theorem ts_chain2 {a b c : Expr} {op op' : CmpOp} {pos : Pos} {W : Bool → Store → Prop} (h : Ev X Γ S a fun x S1 => Ev X Γ S1 b fun y S2 => CmpW X op x y S2 (asB fun k S3 => (k = false → W false S3) ∧ (k = true → Ev X Γ S3 c fun t S4 => CmpW X op' y t S4 (asB W))))
    (hm : lastMarks [op, op'] [b, c] = false) : Ts X Γ S (.Compare a [op, op'] [b, c] pos) W := by
  intro pins s σ H O I env st
  refine isTrue_chain (rs := []) (thn (h pins s σ H O I env st) fun u s1 ⟨v, H1, I1, r1, O1, x, S1, hb, st1, ok1, rep1⟩ => ?_) hm
  refine test_link (thn (hb pins s1 σ H1 O1 I1 (env.mono st1) ok1) fun u' s2 ⟨w, H2, I2, r2, O2, y, S2, hw, st2, ok2, rep2⟩ => ?_)
  refine thn (hw pins s2 σ H2 O2 v w u u' I2 ok2 (rep1.mono st2) rep2 r1 r2) fun _ s3 ⟨z, H3, I3, r3, O3, d3, S3, ⟨k, hd, k1, k2⟩, st3, ok3, rep3⟩ => ?_
  subst hd
  cases rep3
  cases r3
  refine wpAny_truthy_bool ?_
  cases k with
  | false => exact ite_ff ⟨H3, I3, O3, S3, k1 rfl, (st1.trans st2).trans st3, ok3⟩
  | true =>
    refine ite_tt (test_last (thn (k2 rfl pins s3 σ H3 O3 I3 (((env.mono st1).mono st2).mono st3) ok3) fun u4 s4 ⟨w4, H4, I4, r4, O4, t, S4, h4, st4, ok4, rep4⟩ => ?_))
    refine thn (h4 pins s4 σ H4 O4 w w4 u' u4 I4 ok4 ((rep2.mono st3).mono st4) rep4 r2 r4) fun _ s5 ⟨z5, H5, I5, r5, O5, d5, S5, ⟨k, hd, w5⟩, st5, ok5, rep5⟩ => ?_
    subst hd
    cases rep5
    cases r5
    exact wpAny_truthy_bool ⟨H5, I5, O5, S5, w5, (((st1.trans st2).trans st3).trans st4).trans st5, ok5⟩
end

/-! what operations ask -/
def wpBin (op : Operator) (x y : D) (S : Store) (W : WD) : Prop := match op, x, y with
  | .Add, .int i, .int j => W (.int (i + j)) S
  | .Sub, .int i, .int j => W (.int (i - j)) S
  | .Mult, .int i, .int j => CMul i j ∧ W (.int (i * j)) S
  | .Mod, .int i, .int j => 0 < j ∧ W (.int (i % j)) S
  | .FloorDiv, .int i, .int j => (0 < j ∧ j < 1073741824) ∧ W (.int (i / j)) S
  | .Pow, .int i, .int j => CPow i j ∧ W (.int (i ^ j.toNat)) S
  | .Add, .tup a, .tup b => a.length + b.length ≤ 1000000 ∧ W (.tup (a ++ b)) S
  | .Add, .lst a, .lst b => a.length + b.length ≤ 1000000 ∧ W (.lst (a ++ b)) S
  | .Mult, .tup a, .int n => (-(2 ^ 63) ≤ n ∧ n < 2 ^ 63) ∧ a.length * n.toNat ≤ 1000000 ∧ W (.tup (List.replicate n.toNat a).flatten) S
  | _, _, _ => False
theorem wpBin_ok {X : Cx} {op : Operator} {x y : D} {S : Store} {W : WD} (h : wpBin op x y S W) : BinW X op x y S W := by
  unfold wpBin at h
  split at h
  · exact b_add h
  · exact b_sub h
  · exact b_mul h.1 h.2
  · exact b_mod h.1 h.2
  · exact b_fdiv h.1 h.2
  · exact b_pow h.1 h.2
  · exact b_catT h.1 h.2
  · exact b_catL h.1 h.2
  · exact b_repT h.1 h.2.1 h.2.2
  · exact h.elim
def wpIx (x y : D) (S : Store) (W : WD) : Prop := match x, y with
  | .tup ds, .int i => ∃ d, atI ds i = some d ∧ W d S
  | .lst ds, .int i => ∃ d, atI ds i = some d ∧ W d S
  | .loc k, .int i => ∃ ds d, S[k]? = some ds ∧ atI ds i = some d ∧ W d S
  | _, _ => False
theorem wpIx_ok {X : Cx} {a b : Expr} {x y : D} {S : Store} {W : WD} (h : wpIx x y S W) : IxW X a b x y S W := by
  unfold wpIx at h
  split at h
  · obtain ⟨d, h1, h2⟩ := h; exact i_tup h1 h2
  · obtain ⟨d, h1, h2⟩ := h; exact i_lst h1 h2
  · obtain ⟨ds, d, h1, h2, h3⟩ := h; exact i_loc h1 h2 h3
  · exact h.elim
def wpSl (x : D) (l h : Option Int) (S : Store) (W : WD) : Prop := match x with
  | .tup ds => W (.tup (cutD ds l h)) S
  | .lst ds => W (.lst (cutD ds l h)) S
  | .loc k => ∃ ds, S[k]? = some ds ∧ W (.lst (cutD ds l h)) S
  | _ => False
theorem s_loc {X : Cx} {S : Store} {W : WD} {k : Nat} {ds : List D} {lo hi : Option Int} (hk : S[k]? = some ds) (w : W (.lst (cutD ds lo hi)) S) : SlW X (.loc k) lo hi S W := by
  intro pins s σ H O v u vl vu sl I st r1 r3 hs pl pu
  cases r1 with
  | @loc p _ h1 =>
    obtain ⟨xs, hx, q1⟩ := st.obj k p ds h1 hk
    exact sl_list pins s σ H _ u vl vu lo hi sl _ I r3 hs pl pu ⟨p, xs, rfl, SqL.of hx, fun p' hp => qg_lst w st hp (cut_rep q1 lo hi)⟩
theorem wpSl_ok {X : Cx} {x : D} {l r : Option Int} {S : Store} {W : WD} (h : wpSl x l r S W) : SlW X x l r S W := by
  unfold wpSl at h
  split at h
  · exact s_tup h
  · exact s_lst h
  · obtain ⟨ds, h1, h2⟩ := h; exact s_loc h1 h2
  · exact h.elim
/-- classes that are asked for -/
inductive Ty where
  | int | bool | tuple | list
  deriving DecidableEq
def Ty.id : Ty → String
  | .int => "int" | .bool => "bool" | .tuple => "tuple" | .list => "list"
def Ty.nm : Ty → Str
  | .int => "int" | .bool => "bool" | .tuple => "tuple" | .list => "list"
def isD : Ty → D → Bool
  | .int, .int _ => true | .int, .bl _ => true | .bool, .bl _ => true | .tuple, .tup _ => true | .list, .lst _ => true | .list, .loc _ => true | _, _ => false
theorem isD_eq (T : Ty) (x : D) : isi (tyD x) T.id = isD T x := by cases T <;> cases x <;> rfl
theorem Ty.isT (T : Ty) : DL.isT T.id = true := by cases T <;> rfl
theorem Ty.boot (T : Ty) : bootBuiltins T.nm = some (.type T.id) := by cases T <;> decide +kernel
theorem Ty.ok (T : Ty) : (T.nm == ("__debug__" : Str)) = false ∧ T.nm ≠ "__name__" := by cases T <;> decide +kernel
end RF

set_option Elab.async false
set_option linter.all false
set_option maxRecDepth 100000
set_option maxHeartbeats 4000000
/-! data compared -/
namespace RF
open PySem PySem.Spec L2 DL
open PyProof.Rows
mutual
def eqD : D → D → Bool
  | .non, .non => true
  | .bl a, .bl b => a == b
  | .int a, .int b => a == b
  | .bl a, .int b => (if a then 1 else 0) == b
  | .int a, .bl b => a == (if b then 1 else 0)
  | .str a, .str b => a == b
  | .tup a, .tup b => eqDs a b
  | .lst a, .lst b => eqDs a b
  | .dic, .dic => true
  | _, _ => false
def eqDs : List D → List D → Bool
  | [], [] => true
  | a :: as, b :: bs => eqD a b && eqDs as bs
  | _, _ => false
end
mutual
def okD : D → Bool
  | .tup ds => okDs ds
  | .lst ds => okDs ds
  | .loc _ => false
  | .dic => false
  | _ => true
def okDs : List D → Bool
  | [] => true
  | d :: ds => okD d && okDs ds
end
mutual
/-- what a value is just now, whoever owns it -/
inductive Sn (K : PySem.W.Frag) (H : Hp) : V → D → Prop
  | non : Sn K H .non .non
  | bl (b : Bool) : Sn K H (.bl b) (.bl b)
  | int (i : Int) : Sn K H (.int i) (.int i)
  | str (x : Str) : Sn K H (.str x) (.str x)
  | tup {a : Addr} {xs : List V} {ds : List D} (h : SqT K H a xs) (r : Sns K H xs ds) : Sn K H (.ref a) (.tup ds)
  | lst {a : Addr} {xs : List V} {ds : List D} (h : SqL K H a xs) (r : Sns K H xs ds) : Sn K H (.ref a) (.lst ds)
inductive Sns (K : PySem.W.Frag) (H : Hp) : List V → List D → Prop
  | nil : Sns K H [] []
  | cons {v : V} {d : D} {vs : List V} {ds : List D} (r : Sn K H v d) (t : Sns K H vs ds) : Sns K H (v :: vs) (d :: ds)
end
section
variable {K : PySem.W.Frag} {H : Hp} {O : Own}
theorem Sns.length : ∀ {vs : List V} {ds : List D}, Sns K H vs ds → vs.length = ds.length
  | _, _, .nil => rfl
  | _, _, .cons _ t => by simp [Sns.length t]
theorem Sns.get : ∀ {vs : List V} {ds : List D} {i : Nat} {d : D}, Sns K H vs ds → ds[i]? = some d → ∃ v, vs[i]? = some v ∧ Sn K H v d
  | _, _, _, _, .nil, e => by simp at e
  | _, _, 0, _, .cons r _, e => by simp at e; subst e; exact ⟨_, rfl, r⟩
  | _, _, i + 1, d, .cons _ t, e => by
    obtain ⟨v, h1, h2⟩ := Sns.get (i := i) (d := d) t (by simpa using e)
    exact ⟨v, by simpa using h1, h2⟩
mutual
theorem rep_sn : ∀ {v : V} {d : D}, okD d = true → Rep K O H v d → Sn K H v d
  | _, _, _, .non => .non
  | _, _, _, .bl b => .bl b
  | _, _, _, .int i => .int i
  | _, _, _, .str x => .str x
  | _, _, h, .tup h1 r => .tup h1.sq (reps_sn (by simpa [okD] using h) r)
  | _, _, h, .lst h1 r => .lst h1.sq (reps_sn (by simpa [okD] using h) r)
  | _, _, h, .loc _ => by simp [okD] at h
  | _, _, h, .dic _ _ => by simp [okD] at h
theorem reps_sn : ∀ {vs : List V} {ds : List D}, okDs ds = true → Reps K O H vs ds → Sns K H vs ds
  | _, _, _, .nil => .nil
  | _, _, h, .cons r t => by
    simp only [okDs, Bool.and_eq_true] at h
    exact .cons (rep_sn h.1 r) (reps_sn h.2 t)
end
end
section
variable {X : Cx} {pins : Pins} {s : Shared} {σ : DL.St} {H : Hp}
mutual
theorem sn_inj (I : Inv X pins σ H s) : ∀ {v : V} {x y : D}, Sn X.K H v x → Sn X.K H v y → x = y
  | _, _, _, .non, b => by cases b; rfl
  | _, _, _, .bl _, b => by cases b; rfl
  | _, _, _, .int _, b => by cases b; rfl
  | _, _, _, .str _, b => by cases b; rfl
  | _, _, _, .tup h r, b => by
    cases b with
    | tup h' r' =>
      have e := I.tuple_inj h h'
      subst e
      rw [sns_inj I r r']
    | lst h' r' =>
      exfalso
      obtain ⟨its, _, ⟨o, h2, h3, _⟩, _⟩ := I.tuple h
      obtain ⟨its2, _, pl, _⟩ := I.list h'
      obtain ⟨o', h2', h3', _⟩ := pl.isList
      rw [h2] at h2'
      cases h2'
      rw [h3] at h3'
      exact absurd h3' (by decide)
  | _, _, _, .lst h r, b => by
    cases b with
    | lst h' r' =>
      have e := I.list_inj h h'
      subst e
      rw [sns_inj I r r']
    | tup h' r' =>
      exfalso
      obtain ⟨its, _, ⟨o, h2, h3, _⟩, _⟩ := I.tuple h'
      obtain ⟨its2, _, pl, _⟩ := I.list h
      obtain ⟨o', h2', h3', _⟩ := pl.isList
      rw [h2] at h2'
      cases h2'
      rw [h3] at h3'
      exact absurd h3' (by decide)
theorem sns_inj (I : Inv X pins σ H s) : ∀ {vs : List V} {xs ys : List D}, Sns X.K H vs xs → Sns X.K H vs ys → xs = ys
  | _, _, _, .nil, b => by cases b; rfl
  | _, _, _, .cons r t, b => by
    cases b with
    | cons r' t' => rw [sn_inj I r r', sns_inj I t t']
end
end
mutual
theorem eqD_self : ∀ (x : D), noloc x = true → eqD x x = true
  | .non, _ => by simp [eqD]
  | .bl _, _ => by simp [eqD]
  | .int _, _ => by simp [eqD]
  | .str _, _ => by simp [eqD]
  | .tup ds, h => by simp only [eqD]; exact eqDs_self ds (by simpa [noloc] using h)
  | .lst ds, h => by simp only [eqD]; exact eqDs_self ds (by simpa [noloc] using h)
  | .loc _, h => by simp [noloc] at h
  | .dic, _ => by simp [eqD]
theorem eqDs_self : ∀ (xs : List D), nolocs xs = true → eqDs xs xs = true
  | [], _ => by simp [eqDs]
  | d :: ds, h => by
    simp only [nolocs, Bool.and_eq_true] at h
    simp only [eqDs, Bool.and_eq_true]
    exact ⟨eqD_self d h.1, eqDs_self ds h.2⟩
end
mutual
theorem ok_noloc : ∀ (x : D), okD x = true → noloc x = true
  | .non, _ => by simp [noloc]
  | .bl _, _ => by simp [noloc]
  | .int _, _ => by simp [noloc]
  | .str _, _ => by simp [noloc]
  | .tup ds, h => by simp only [noloc]; exact oks_noloc ds (by simpa [okD] using h)
  | .lst ds, h => by simp only [noloc]; exact oks_noloc ds (by simpa [okD] using h)
  | .loc _, h => by simp [okD] at h
  | .dic, h => by simp [okD] at h
theorem oks_noloc : ∀ (xs : List D), okDs xs = true → nolocs xs = true
  | [], _ => by simp [nolocs]
  | d :: ds, h => by
    simp only [okDs, Bool.and_eq_true] at h
    simp only [nolocs, Bool.and_eq_true]
    exact ⟨ok_noloc d h.1, oks_noloc ds h.2⟩
end
abbrev eqJ (ds es : List D) (j : Nat) : Bool := eqD (ds.getD j .non) (es.getD j .non)
theorem eqJ_succ (d e : D) (ds es : List D) : (eqJ (d :: ds) (e :: es)) ∘ Nat.succ = eqJ ds es := by
  funext j; simp [eqJ, List.getD]
theorem eqDs_min : ∀ (ds es : List D), ((List.range (min ds.length es.length)).all (eqJ ds es) && ds.length == es.length) = eqDs ds es
  | [], [] => by simp [eqDs]
  | [], e :: es => by simp [eqDs]
  | d :: ds, [] => by simp [eqDs]
  | d :: ds, e :: es => by
    have ih := eqDs_min ds es
    have h1 : min (d :: ds).length (e :: es).length = min ds.length es.length + 1 := by simp only [List.length_cons]; omega
    rw [h1, List.range_succ_eq_map, List.all_cons, List.all_map, eqJ_succ]
    have h2 : ((d :: ds).length == (e :: es).length) = (ds.length == es.length) := by simp
    have h3 : eqJ (d :: ds) (e :: es) 0 = eqD d e := by simp [eqJ, List.getD]
    rw [h2, h3, Bool.and_assoc, ih]
    simp only [eqDs]
theorem eqDs_len {ds es : List D} (h : ds.length = es.length) : (List.range ds.length).all (eqJ ds es) = eqDs ds es := by
  rw [← eqDs_min ds es, ← h, Nat.min_self, beq_self_eq_true, Bool.and_true]
theorem eqDs_ne {ds es : List D} (h : ds.length ≠ es.length) : eqDs ds es = false := by
  rw [← eqDs_min ds es]
  have : (ds.length == es.length) = false := by simpa using h
  rw [this, Bool.and_false]
section
variable {X : Cx}
/-- the two compares of two data, their parts given -/
theorem rc_both {n : Nat} (ih : ∀ (x y : D), deep x ≤ n → ∀ {pins : Pins} {s : Shared} {σ : DL.St} {H : Hp} {v w : V} {u u' : Value} {A : Around}, Inv X pins σ H s → Sn X.K H v x → Sn X.K H w y → RelV v u → RelV w u' → A.units + n < cLine → SeqAt.EqAt A s u u' (eqD x y))
    (x y : D) (hx : deep x ≤ n + 1) {pins : Pins} {s : Shared} {σ : DL.St} {H : Hp} {v w : V} {u u' : Value} {A : Around} (I : Inv X pins σ H s) (r1 : Sn X.K H v x) (r2 : Sn X.K H w y) (ru : RelV v u) (ru' : RelV w u') (hu : A.units + (n + 1) < cLine) :
    SeqAt.RcAt A s u u' (eqD x y) ∧ SeqAt.RcNeAt A s u u' (!eqD x y) := by
  have hu0 : A.units < cLine := by omega
  have part : ∀ {ds es : List D} {xs ys : List V} {its its2 : List Value}, deeps ds ≤ n → Sns X.K H xs ds → Sns X.K H ys es → Vals xs its → Vals ys its2 → ∀ j (h1 : j < its.toArray.size) (h2 : j < its2.toArray.size), SeqAt.EqAt A.in1 s its.toArray[j] its2.toArray[j] (eqJ ds es j) := by
    intro ds es xs ys its its2 hd q1 q2 v1 v2 j j1 j2
    have l1 : its.length = ds.length := by rw [← v1.length, q1.length]
    have l2 : its2.length = es.length := by rw [← v2.length, q2.length]
    have hj : j < ds.length := by simpa [l1] using j1
    have hj2 : j < es.length := by simpa [l2] using j2
    obtain ⟨z1, a1, b1⟩ := q1.get (List.getElem?_eq_getElem hj)
    obtain ⟨z2, a2, b2⟩ := q2.get (List.getElem?_eq_getElem hj2)
    obtain ⟨u1, c1, d1⟩ := v1.get a1
    obtain ⟨u2, c2, d2⟩ := v2.get a2
    have e1 : its.toArray[j] = u1 := by have := (List.getElem?_eq_some_iff.mp c1).2; simpa using this
    have e2 : its2.toArray[j] = u2 := by have := (List.getElem?_eq_some_iff.mp c2).2; simpa using this
    rw [e1, e2]
    have e3 : eqJ ds es j = eqD ds[j] es[j] := by simp [eqJ, List.getD, hj, hj2]
    rw [e3]
    have hd' := deeps_le (List.getElem?_eq_getElem hj)
    exact ih ds[j] es[j] (by omega) I b1 b2 d1 d2 (by show A.units + 1 + n < cLine; omega)
  cases r1 with
  | non =>
    cases ru
    cases r2 with
    | non => cases ru'; exact ⟨SeqAt.RcAt.none_none, SeqAt.RcNeAt.none_none⟩
    | bl b => cases ru'; exact ⟨SeqAt.RcAt.none_bool b, SeqAt.RcNeAt.none_bool b⟩
    | int i => obtain ⟨t', rfl⟩ := ru'; exact ⟨SeqAt.RcAt.none_int i t', SeqAt.RcNeAt.none_int i t'⟩
    | str i => obtain ⟨t', rfl⟩ := ru'; exact ⟨SeqAt.RcAt.none_str i t', SeqAt.RcNeAt.none_str i t'⟩
    | tup h2 q2 =>
      cases ru'; obtain ⟨its2, v2, p2, _⟩ := I.tuple h2
      exact ⟨SeqAt.RcAt.none_tuple (show s.heap.IsTuple _ its2.toArray from p2) hu0, SeqAt.RcNeAt.none_tuple (show s.heap.IsTuple _ its2.toArray from p2) hu0⟩
    | lst h2 q2 =>
      cases ru'; obtain ⟨its2, v2, p2, _⟩ := I.list h2
      exact ⟨SeqAt.RcAt.none_list p2.isList hu0, SeqAt.RcNeAt.none_list p2.isList hu0⟩
  | bl a =>
    cases ru
    cases r2 with
    | non => cases ru'; exact ⟨SeqAt.RcAt.bool_none a, SeqAt.RcNeAt.bool_none a⟩
    | bl b => cases ru'; exact ⟨SeqAt.RcAt.bool_bool a b, SeqAt.RcNeAt.bool_bool a b⟩
    | int i => obtain ⟨t', rfl⟩ := ru'; exact ⟨SeqAt.RcAt.bool_int a i t', SeqAt.RcNeAt.bool_int a i t'⟩
    | str i => obtain ⟨t', rfl⟩ := ru'; exact ⟨SeqAt.RcAt.bool_str a i t', SeqAt.RcNeAt.bool_str a i t'⟩
    | tup h2 q2 =>
      cases ru'; obtain ⟨its2, v2, p2, _⟩ := I.tuple h2
      exact ⟨SeqAt.RcAt.bool_tuple a (show s.heap.IsTuple _ its2.toArray from p2) hu0, SeqAt.RcNeAt.bool_tuple a (show s.heap.IsTuple _ its2.toArray from p2) hu0⟩
    | lst h2 q2 =>
      cases ru'; obtain ⟨its2, v2, p2, _⟩ := I.list h2
      exact ⟨SeqAt.RcAt.bool_list a p2.isList hu0, SeqAt.RcNeAt.bool_list a p2.isList hu0⟩
  | int a =>
    obtain ⟨t, rfl⟩ := ru
    cases r2 with
    | non => cases ru'; exact ⟨SeqAt.RcAt.int_none a t, SeqAt.RcNeAt.int_none a t⟩
    | bl b => cases ru'; exact ⟨SeqAt.RcAt.int_bool a t b, SeqAt.RcNeAt.int_bool a t b⟩
    | int i => obtain ⟨t', rfl⟩ := ru'; exact ⟨SeqAt.RcAt.int_int a t i t', SeqAt.RcNeAt.int_int a t i t'⟩
    | str i => obtain ⟨t', rfl⟩ := ru'; exact ⟨SeqAt.RcAt.int_str a t i t', SeqAt.RcNeAt.int_str a t i t'⟩
    | tup h2 q2 =>
      cases ru'; obtain ⟨its2, v2, p2, _⟩ := I.tuple h2
      exact ⟨SeqAt.RcAt.int_tuple a t (show s.heap.IsTuple _ its2.toArray from p2) hu0, SeqAt.RcNeAt.int_tuple a t (show s.heap.IsTuple _ its2.toArray from p2) hu0⟩
    | lst h2 q2 =>
      cases ru'; obtain ⟨its2, v2, p2, _⟩ := I.list h2
      exact ⟨SeqAt.RcAt.int_list a t p2.isList hu0, SeqAt.RcNeAt.int_list a t p2.isList hu0⟩
  | str a =>
    obtain ⟨t, rfl⟩ := ru
    cases r2 with
    | non => cases ru'; exact ⟨SeqAt.RcAt.str_none a t, SeqAt.RcNeAt.str_none a t⟩
    | bl b => cases ru'; exact ⟨SeqAt.RcAt.str_bool a t b, SeqAt.RcNeAt.str_bool a t b⟩
    | int i => obtain ⟨t', rfl⟩ := ru'; exact ⟨SeqAt.RcAt.str_int a t i t', SeqAt.RcNeAt.str_int a t i t'⟩
    | str i => obtain ⟨t', rfl⟩ := ru'; exact ⟨SeqAt.RcAt.str_str a t i t', SeqAt.RcNeAt.str_str a t i t'⟩
    | tup h2 q2 =>
      cases ru'; obtain ⟨its2, v2, p2, _⟩ := I.tuple h2
      exact ⟨SeqAt.RcAt.str_tuple a t (show s.heap.IsTuple _ its2.toArray from p2) hu0, SeqAt.RcNeAt.str_tuple a t (show s.heap.IsTuple _ its2.toArray from p2) hu0⟩
    | lst h2 q2 =>
      cases ru'; obtain ⟨its2, v2, p2, _⟩ := I.list h2
      exact ⟨SeqAt.RcAt.str_list a t p2.isList hu0, SeqAt.RcNeAt.str_list a t p2.isList hu0⟩
  | @tup a xs ds h1 q1 =>
    cases ru
    obtain ⟨its, v1, p1, _⟩ := I.tuple h1
    have p1 : s.heap.IsTuple a its.toArray := p1
    cases r2 with
    | non => cases ru'; exact ⟨SeqAt.RcAt.tuple_none p1 hu0, SeqAt.RcNeAt.tuple_none p1 hu0⟩
    | bl b => cases ru'; exact ⟨SeqAt.RcAt.tuple_bool b p1 hu0, SeqAt.RcNeAt.tuple_bool b p1 hu0⟩
    | int i => obtain ⟨t', rfl⟩ := ru'; exact ⟨SeqAt.RcAt.tuple_int i t' p1 hu0, SeqAt.RcNeAt.tuple_int i t' p1 hu0⟩
    | str i => obtain ⟨t', rfl⟩ := ru'; exact ⟨SeqAt.RcAt.tuple_str i t' p1 hu0, SeqAt.RcNeAt.tuple_str i t' p1 hu0⟩
    | @tup b ys es h2 q2 =>
      cases ru'
      obtain ⟨its2, v2, p2, _⟩ := I.tuple h2
      have p2 : s.heap.IsTuple b its2.toArray := p2
      have l1 : its.toArray.size = ds.length := by rw [List.size_toArray, ← v1.length, q1.length]
      have l2 : its2.toArray.size = es.length := by rw [List.size_toArray, ← v2.length, q2.length]
      have hd : deeps ds ≤ n := by simp [deep] at hx; exact hx
      have a1 := SeqAt.RcAt.tuples (e := eqJ ds es) p1 p2 hu0 (part hd q1 q2 v1 v2)
      have a2 := SeqAt.RcNeAt.tuples (e := eqJ ds es) p1 p2 hu0 (part hd q1 q2 v1 v2)
      rw [l1, l2, eqDs_min] at a1 a2
      simp only [eqD]
      exact ⟨a1, a2⟩
    | lst h2 q2 =>
      cases ru'; obtain ⟨its2, v2, p2, _⟩ := I.list h2
      exact ⟨SeqAt.RcAt.tuple_list p1 p2.isList hu0, SeqAt.RcNeAt.tuple_list p1 p2.isList hu0⟩
  | @lst a xs ds h1 q1 =>
    cases ru
    obtain ⟨its, v1, p1, _⟩ := I.list h1
    have p1 := p1.isList
    cases r2 with
    | non => cases ru'; exact ⟨SeqAt.RcAt.list_none p1 hu0, SeqAt.RcNeAt.list_none p1 hu0⟩
    | bl b => cases ru'; exact ⟨SeqAt.RcAt.list_bool b p1 hu0, SeqAt.RcNeAt.list_bool b p1 hu0⟩
    | int i => obtain ⟨t', rfl⟩ := ru'; exact ⟨SeqAt.RcAt.list_int i t' p1 hu0, SeqAt.RcNeAt.list_int i t' p1 hu0⟩
    | str i => obtain ⟨t', rfl⟩ := ru'; exact ⟨SeqAt.RcAt.list_str i t' p1 hu0, SeqAt.RcNeAt.list_str i t' p1 hu0⟩
    | tup h2 q2 =>
      cases ru'; obtain ⟨its2, v2, p2, _⟩ := I.tuple h2
      exact ⟨SeqAt.RcAt.list_tuple p1 (show s.heap.IsTuple _ its2.toArray from p2) hu0, SeqAt.RcNeAt.list_tuple p1 (show s.heap.IsTuple _ its2.toArray from p2) hu0⟩
    | @lst b ys es h2 q2 =>
      cases ru'
      obtain ⟨its2, v2, p2, _⟩ := I.list h2
      have p2 := p2.isList
      have l1 : its.toArray.size = ds.length := by rw [List.size_toArray, ← v1.length, q1.length]
      have l2 : its2.toArray.size = es.length := by rw [List.size_toArray, ← v2.length, q2.length]
      have hd : deeps ds ≤ n := by simp [deep] at hx; exact hx
      simp only [eqD]
      by_cases hl : ds.length = es.length
      · have a1 := SeqAt.RcAt.lists (e := eqJ ds es) p1 p2 (by rw [l1, l2, hl]) hu0 (part hd q1 q2 v1 v2)
        have a2 := SeqAt.RcNeAt.lists (e := eqJ ds es) p1 p2 (by rw [l1, l2, hl]) hu0 (part hd q1 q2 v1 v2)
        rw [l1, eqDs_len hl] at a1 a2
        exact ⟨a1, a2⟩
      · have z : (its.toArray.size != its2.toArray.size) = true := by rw [l1, l2]; simpa using hl
        rw [eqDs_ne hl]
        exact ⟨SeqAt.RcAt.lists_lengths p1 p2 z hu0, SeqAt.RcNeAt.lists_lengths p1 p2 z hu0⟩
theorem sn_noloc : ∀ {K : PySem.W.Frag} {H : Hp} {v : V} {x : D}, Sn K H v x → noloc x = true := by
  intro K H v x h
  refine Sn.rec (motive_1 := fun v x _ => noloc x = true) (motive_2 := fun vs xs _ => nolocs xs = true) ?_ ?_ ?_ ?_ ?_ ?_ ?_ ?_ h
  · simp [noloc]
  · intro b; simp [noloc]
  · intro b; simp [noloc]
  · intro b; simp [noloc]
  · intro a xs ds h r ih; simpa [noloc] using ih
  · intro a xs ds h r ih; simpa [noloc] using ih
  · simp [nolocs]
  · intro v d vs ds r t ih1 ih2; simp [nolocs, ih1, ih2]
theorem eqAt (n : Nat) : ∀ (x y : D), deep x ≤ n → ∀ {pins : Pins} {s : Shared} {σ : DL.St} {H : Hp} {v w : V} {u u' : Value} {A : Around}, Inv X pins σ H s → Sn X.K H v x → Sn X.K H w y → RelV v u → RelV w u' → A.units + n < cLine → SeqAt.EqAt A s u u' (eqD x y) := by
  induction n with
  | zero =>
    intro x y hx pins s σ H v w u u' A I r1 r2 ru ru' hu
    cases r1 with
    | non =>
      cases ru
      cases r2 with
      | non => cases ru'; exact SeqAt.EqAt.same _
      | bl b => cases ru'; exact SeqAt.EqAt.none_bool b
      | int i => obtain ⟨t', rfl⟩ := ru'; exact SeqAt.EqAt.none_int i t'
      | str i => obtain ⟨t', rfl⟩ := ru'; exact SeqAt.EqAt.none_str i t'
      | tup h2 q2 => cases ru'; obtain ⟨its2, v2, p2, _⟩ := I.tuple h2; exact SeqAt.EqAt.none_tuple (show s.heap.IsTuple _ its2.toArray from p2) (by omega)
      | lst h2 q2 => cases ru'; obtain ⟨its2, v2, p2, _⟩ := I.list h2; exact SeqAt.EqAt.none_list p2.isList (by omega)
    | bl a =>
      cases ru
      cases r2 with
      | non => cases ru'; exact SeqAt.EqAt.bool_none a
      | bl b => cases ru'; exact SeqAt.EqAt.bool_bool a b
      | int i => obtain ⟨t', rfl⟩ := ru'; exact SeqAt.EqAt.bool_int a i t'
      | str i => obtain ⟨t', rfl⟩ := ru'; exact SeqAt.EqAt.bool_str a i t'
      | tup h2 q2 => cases ru'; obtain ⟨its2, v2, p2, _⟩ := I.tuple h2; exact SeqAt.EqAt.bool_tuple a (show s.heap.IsTuple _ its2.toArray from p2) (by omega)
      | lst h2 q2 => cases ru'; obtain ⟨its2, v2, p2, _⟩ := I.list h2; exact SeqAt.EqAt.bool_list a p2.isList (by omega)
    | int a =>
      obtain ⟨t, rfl⟩ := ru
      cases r2 with
      | non => cases ru'; exact SeqAt.EqAt.int_none a t
      | bl b => cases ru'; exact SeqAt.EqAt.int_bool a t b
      | int i => obtain ⟨t', rfl⟩ := ru'; exact SeqAt.EqAt.int_int a t i t'
      | str i => obtain ⟨t', rfl⟩ := ru'; exact SeqAt.EqAt.int_str a t i t'
      | tup h2 q2 => cases ru'; obtain ⟨its2, v2, p2, _⟩ := I.tuple h2; exact SeqAt.EqAt.int_tuple a t (show s.heap.IsTuple _ its2.toArray from p2) (by omega)
      | lst h2 q2 => cases ru'; obtain ⟨its2, v2, p2, _⟩ := I.list h2; exact SeqAt.EqAt.int_list a t p2.isList (by omega)
    | str a =>
      obtain ⟨t, rfl⟩ := ru
      cases r2 with
      | non => cases ru'; exact SeqAt.EqAt.str_none a t
      | bl b => cases ru'; exact SeqAt.EqAt.str_bool a t b
      | int i => obtain ⟨t', rfl⟩ := ru'; exact SeqAt.EqAt.str_int a t i t'
      | str i => obtain ⟨t', rfl⟩ := ru'; exact SeqAt.EqAt.str_str a t i t'
      | tup h2 q2 => cases ru'; obtain ⟨its2, v2, p2, _⟩ := I.tuple h2; exact SeqAt.EqAt.str_tuple a t (show s.heap.IsTuple _ its2.toArray from p2) (by omega)
      | lst h2 q2 => cases ru'; obtain ⟨its2, v2, p2, _⟩ := I.list h2; exact SeqAt.EqAt.str_list a t p2.isList (by omega)
    | tup _ _ => simp [deep] at hx
    | lst _ _ => simp [deep] at hx
  | succ n ih =>
    intro x y hx pins s σ H v w u u' A I r1 r2 ru ru' hu
    by_cases h0 : deep x ≤ n
    · exact ih x y h0 I r1 r2 ru ru' (by omega)
    · have both := rc_both ih x y hx I r1 r2 ru ru' hu
      cases r1 with
      | non => simp [deep] at h0
      | bl b => simp [deep] at h0
      | int b => simp [deep] at h0
      | str b => simp [deep] at h0
      | @tup a xs ds h1 q1 =>
        cases ru
        obtain ⟨its, v1, p1, _⟩ := I.tuple h1
        have p1 : s.heap.IsTuple a its.toArray := p1
        cases r2 with
        | non => cases ru'; exact SeqAt.EqAt.tuple_none p1 (by omega)
        | bl b => cases ru'; exact SeqAt.EqAt.tuple_bool b p1 (by omega)
        | int i => obtain ⟨t', rfl⟩ := ru'; exact SeqAt.EqAt.tuple_int i t' p1 (by omega)
        | str i => obtain ⟨t', rfl⟩ := ru'; exact SeqAt.EqAt.tuple_str i t' p1 (by omega)
        | @tup b ys es h2 q2 =>
          cases ru'
          by_cases e : a = b
          · subst e
            have e2 := sn_inj I (.tup h1 q1) (.tup h2 q2)
            rw [← e2, eqD_self _ (sn_noloc (.tup h1 q1))]
            exact SeqAt.EqAt.same _
          · exact SeqAt.EqAt.of_refs e both.1
        | @lst b ys es h2 q2 =>
          cases ru'; obtain ⟨its2, v2, p2, _⟩ := I.list h2; exact SeqAt.EqAt.tuple_list p1 p2.isList (by omega)
      | @lst a xs ds h1 q1 =>
        cases ru
        obtain ⟨its, v1, p1, _⟩ := I.list h1
        have p1 := p1.isList
        cases r2 with
        | non => cases ru'; exact SeqAt.EqAt.list_none p1 (by omega)
        | bl b => cases ru'; exact SeqAt.EqAt.list_bool b p1 (by omega)
        | int i => obtain ⟨t', rfl⟩ := ru'; exact SeqAt.EqAt.list_int i t' p1 (by omega)
        | str i => obtain ⟨t', rfl⟩ := ru'; exact SeqAt.EqAt.list_str i t' p1 (by omega)
        | tup h2 q2 => cases ru'; obtain ⟨its2, v2, p2, _⟩ := I.tuple h2; exact SeqAt.EqAt.list_tuple p1 (show s.heap.IsTuple _ its2.toArray from p2) (by omega)
        | @lst b ys es h2 q2 =>
          cases ru'
          by_cases e : a = b
          · subst e
            have e2 := sn_inj I (.lst h1 q1) (.lst h2 q2)
            rw [← e2, eqD_self _ (sn_noloc (.lst h1 q1))]
            exact SeqAt.EqAt.same _
          · exact SeqAt.EqAt.of_refs e both.1
/-- a datum as it is now -/
def vw (S : Store) : D → D
  | .loc k => match S[k]? with | some ds => .lst ds | none => .loc k
  | d => d
def eqOk (S : Store) (x y : D) : Prop := okD (vw S x) = true ∧ okD (vw S y) = true ∧ deep (vw S x) ≤ 50
theorem vw_sn {K : PySem.W.Frag} {O : Own} {H : Hp} {S : Store} {v : V} {x : D} (st : StOk K O H S) (r : Rep K O H v x) (h : okD (vw S x) = true) : Sn K H v (vw S x) := by
  cases r with
  | @loc a k hk =>
    simp only [vw] at h ⊢
    have hl : k < S.length := by rw [← st.len]; exact (List.getElem?_eq_some_iff.mp hk).1
    obtain ⟨xs, hx, q⟩ := st.obj k a S[k] hk (List.getElem?_eq_getElem hl)
    rw [List.getElem?_eq_getElem hl] at h ⊢
    exact .lst (SqL.of hx) (reps_sn (by simpa [okD] using h) q)
  | non => exact .non
  | bl b => exact .bl b
  | int i => exact .int i
  | str i => exact .str i
  | tup h1 q1 => exact rep_sn h (.tup h1 q1)
  | lst h1 q1 => exact rep_sn h (.lst h1 q1)
  | dic h1 e1 => simp [vw, okD] at h
theorem c_eqD {x y : D} {S : Store} {W : Bool → Store → Prop} (hu : X.A.units + 60 < cLine) (h : eqOk S x y) (w : W (eqD (vw S x) (vw S y)) S) : CmpW X .Eq x y S (asB W) := by
  intro pins s σ H O v w' u u' I st r1 r2 r3 r4
  obtain ⟨h1, h2, h3⟩ := h
  have := (rc_both (n := 50) (A := X.A) (eqAt 50) (vw S x) (vw S y) (by omega) I (vw_sn st r1 h1) (vw_sn st r2 h2) r3 r4 (by omega)).1
  exact this _ _ _ _ ⟨.bl _, H, I, rfl, QG.here ⟨_, rfl, w⟩ st (.bl _)⟩
theorem c_neD {x y : D} {S : Store} {W : Bool → Store → Prop} (hu : X.A.units + 60 < cLine) (h : eqOk S x y) (w : W (!eqD (vw S x) (vw S y)) S) : CmpW X .NotEq x y S (asB W) := by
  intro pins s σ H O v w' u u' I st r1 r2 r3 r4
  obtain ⟨h1, h2, h3⟩ := h
  have := (rc_both (n := 50) (A := X.A) (eqAt 50) (vw S x) (vw S y) (by omega) I (vw_sn st r1 h1) (vw_sn st r2 h2) r3 r4 (by omega)).2
  exact this _ _ _ _ ⟨.bl _, H, I, rfl, QG.here ⟨_, rfl, w⟩ st (.bl _)⟩
end
end RF

set_option Elab.async false
set_option linter.all false
set_option maxRecDepth 100000
set_option maxHeartbeats 4000000
namespace RF
open PySem PySem.Spec L2 DL
open PyProof.Rows

def isN : D → Bool
  | .non => true
  | _ => false
theorem isN_not (x : D) : (match x with | .non => false | _ => true) = !isN x := by cases x <;> rfl
@[irreducible] def wpCmp (op : CmpOp) (x y : D) (S : Store) (W : Bool → Store → Prop) : Prop := match op, x, y with
  | .Lt, .int i, .int j => W (decide (i < j)) S
  | .LtE, .int i, .int j => W (decide (i ≤ j)) S
  | .Gt, .int i, .int j => W (decide (j < i)) S
  | .GtE, .int i, .int j => W (decide (j ≤ i)) S
  | .Eq, .int i, .int j => W (decide (i = j)) S
  | .NotEq, .int i, .int j => W (!decide (i = j)) S
  | .Eq, .bl i, .bl j => W (i == j) S
  | .NotEq, .bl i, .bl j => W (!(i == j)) S
  | .Is, x, .non => W (isN x) S
  | .IsNot, x, .non => W (!isN x) S
  | .Eq, x, y => eqOk S x y ∧ W (eqD (vw S x) (vw S y)) S
  | .NotEq, x, y => (eqOk S x y ∧ W (!eqD (vw S x) (vw S y)) S) ∨ (x = y ∧ noloc x = true ∧ deep x ≤ 50 ∧ W false S)
  | _, _, _ => False
theorem asB_mono {X : Cx} {op : CmpOp} {x y : D} {S : Store} {W : Bool → Store → Prop} {b : Bool} (h : ∀ V : WD, V (.bl b) S → CmpW X op x y S V) (w : W b S) : CmpW X op x y S (asB W) := h (asB W) ⟨b, rfl, w⟩
theorem wpCmp_ok {X : Cx} {op : CmpOp} {x y : D} {S : Store} {W : Bool → Store → Prop} (hu : X.A.units + 60 < cLine) (h : wpCmp op x y S W) : CmpW X op x y S (asB W) := by
  unfold wpCmp at h
  split at h
  · exact asB_mono (fun _ => c_lt) h
  · exact asB_mono (fun _ => c_le) h
  · exact asB_mono (fun _ => c_gt) h
  · exact asB_mono (fun _ => c_ge) h
  · exact asB_mono (fun _ => c_eqI) h
  · exact asB_mono (fun _ => c_neI) h
  · exact asB_mono (fun _ => c_eqB) h
  · exact asB_mono (fun _ => c_neB) h
  · exact asB_mono (fun V w => c_isN w) h
  · refine asB_mono (fun V w => c_isNot ?_) h
    cases x <;> exact w
  · exact c_eqD hu h.1 h.2
  · rcases h with h | ⟨rfl, h1, h2, h3⟩
    · exact c_neD hu h.1 h.2
    · exact c_neSelf hu h1 h2 ⟨false, rfl, h3⟩
  · exact h.elim
section
variable {i j : Int} {a b : Bool} {x y : D} {S : Store} {W : Bool → Store → Prop}
theorem cLt (w : W (decide (i < j)) S) : wpCmp .Lt (.int i) (.int j) S W := by unfold wpCmp; exact w
theorem cLe (w : W (decide (i ≤ j)) S) : wpCmp .LtE (.int i) (.int j) S W := by unfold wpCmp; exact w
theorem cGt (w : W (decide (j < i)) S) : wpCmp .Gt (.int i) (.int j) S W := by unfold wpCmp; exact w
theorem cGe (w : W (decide (j ≤ i)) S) : wpCmp .GtE (.int i) (.int j) S W := by unfold wpCmp; exact w
theorem cEqI (w : W (decide (i = j)) S) : wpCmp .Eq (.int i) (.int j) S W := by unfold wpCmp; exact w
theorem cNeI (w : W (!decide (i = j)) S) : wpCmp .NotEq (.int i) (.int j) S W := by unfold wpCmp; exact w
theorem cEqB (w : W (a == b) S) : wpCmp .Eq (.bl a) (.bl b) S W := by unfold wpCmp; exact w
theorem cNeB (w : W (!(a == b)) S) : wpCmp .NotEq (.bl a) (.bl b) S W := by unfold wpCmp; exact w
theorem cIsN (w : W (isN x) S) : wpCmp .Is x .non S W := by unfold wpCmp; cases x <;> exact w
theorem cIsNot (w : W (!isN x) S) : wpCmp .IsNot x .non S W := by unfold wpCmp; cases x <;> exact w
theorem cNeSelf (h1 : noloc x = true) (h2 : deep x ≤ 50) (w : W false S) : wpCmp .NotEq x x S W := by
  unfold wpCmp
  cases x with
  | int i => simpa using w
  | bl i => simpa using w
  | _ => exact .inr ⟨rfl, h1, h2, w⟩
end

/-! expressions -/
structure Ex (Ω : Wd) where
  lev : Nat
  chk : Bool → List Str → Nm → Expr → Bool
  wp : Gam → Store → WD → Prop
  sound : ∀ {X : Cx} {r : Nat} {top : Bool} {N : List Str} {nm : Nm} {e : Expr} {Γ : Gam} {S : Store} {W : WD}, At Ω X r top N nm → lev ≤ r → chk top N nm e = true → wp Γ S W → Ev X Γ S e W
/-- tests -/
structure Te (Ω : Wd) where
  lev : Nat
  chk : Bool → List Str → Nm → Expr → Bool
  wp : Gam → Store → (Bool → Store → Prop) → Prop
  sound : ∀ {X : Cx} {r : Nat} {top : Bool} {N : List Str} {nm : Nm} {e : Expr} {Γ : Gam} {S : Store} {W : Bool → Store → Prop}, At Ω X r top N nm → lev ≤ r → chk top N nm e = true → wp Γ S W → Ts X Γ S e W
/-- arguments -/
structure Ar (Ω : Wd) where
  lev : Nat
  chk : Bool → List Str → Nm → List Expr → Bool
  wp : Gam → Store → (List D → Store → Prop) → Prop
  plain : ∀ {top : Bool} {N : List Str} {nm : Nm} {es : List Expr}, chk top N nm es = true → es.all okE = true
  sound : ∀ {X : Cx} {r : Nat} {top : Bool} {N : List Str} {nm : Nm} {es : List Expr} {Γ : Gam} {S : Store} {W : List D → Store → Prop}, At Ω X r top N nm → lev ≤ r → chk top N nm es = true → wp Γ S W → EvA X Γ S es W
/-- operands of and, or -/
structure Bo (Ω : Wd) where
  lev : Nat
  chk : Bool → List Str → Nm → List Expr → Bool
  wpA : Gam → Store → WD → Prop
  wpO : Gam → Store → WD → Prop
  ne : ∀ {top : Bool} {N : List Str} {nm : Nm} {es : List Expr}, chk top N nm es = true → ∃ b rest, es = b :: rest
  soundA : ∀ {X : Cx} {r : Nat} {top : Bool} {N : List Str} {nm : Nm} {es : List Expr} {Γ : Gam} {S : Store} {W : WD} {pos : Pos}, At Ω X r top N nm → lev ≤ r → chk top N nm es = true → wpA Γ S W → Ev X Γ S (.BoolOp .And es pos) W
  soundO : ∀ {X : Cx} {r : Nat} {top : Bool} {N : List Str} {nm : Nm} {es : List Expr} {Γ : Gam} {S : Store} {W : WD} {pos : Pos}, At Ω X r top N nm → lev ≤ r → chk top N nm es = true → wpO Γ S W → Ev X Γ S (.BoolOp .Or es pos) W
structure Bt (Ω : Wd) where
  lev : Nat
  chk : Bool → List Str → Nm → List Expr → Bool
  wpA : Gam → Store → (Bool → Store → Prop) → Prop
  wpO : Gam → Store → (Bool → Store → Prop) → Prop
  ne : ∀ {top : Bool} {N : List Str} {nm : Nm} {es : List Expr}, chk top N nm es = true → ∃ b rest, es = b :: rest
  soundA : ∀ {X : Cx} {r : Nat} {top : Bool} {N : List Str} {nm : Nm} {es : List Expr} {Γ : Gam} {S : Store} {W : Bool → Store → Prop} {pos : Pos}, At Ω X r top N nm → lev ≤ r → chk top N nm es = true → wpA Γ S W → TsW X Γ S (.BoolOp .And es pos) W
  soundO : ∀ {X : Cx} {r : Nat} {top : Bool} {N : List Str} {nm : Nm} {es : List Expr} {Γ : Gam} {S : Store} {W : Bool → Store → Prop} {pos : Pos}, At Ω X r top N nm → lev ≤ r → chk top N nm es = true → wpO Γ S W → TsW X Γ S (.BoolOp .Or es pos) W

theorem At.hu {Ω : Wd} {X : Cx} {r : Nat} {top : Bool} {N : List Str} {nm : Nm} (A : At Ω X r top N nm) : X.A.units + 60 < cLine := by have := A.room.un; omega
theorem lv2 {a b r : Nat} (h : max a b ≤ r) : a ≤ r ∧ b ≤ r := by omega
variable {Ω : Wd}
def Ex.var (i : Nat) : Ex Ω where
  lev := 0
  chk _ N nm e := match e with | .Name x _ => (N[i]? == some x) && (vis nm x && okN x) | _ => false
  wp Γ S W := match Γ[i]? with | some (some d) => W d S | _ => False
  sound := by
    intro X r top N nm e Γ S W A _ hc hw
    cases e with
    | Name x pos =>
      obtain ⟨h1, h2⟩ := and2 hc
      obtain ⟨h2, h3⟩ := and2 h2
      obtain ⟨d1, d2, _⟩ := okN_at h3
      have h1 : N[i]? = some x := eq_of_beq h1
      cases hΓ : Γ[i]? with
      | none => rw [hΓ] at hw; exact hw.elim
      | some o =>
        cases o with
        | none => rw [hΓ] at hw; exact hw.elim
        | some d =>
          rw [hΓ] at hw
          exact ev_var i hΓ hw (by rw [A.n]; exact h1) (A.vis h2) d1 d2
    | _ => exact (Bool.false_ne_true hc).elim
def Ex.int (i : Int) : Ex Ω where
  lev := 0
  chk _ _ _ e := match e with | .Constant (.int j) _ _ => j == i | _ => false
  wp _ S W := W (.int i) S
  sound := by
    intro X r top N nm e Γ S W A _ hc hw
    cases e with
    | Constant c k pos =>
      cases c with
      | int j => have e : j = i := eq_of_beq hc; subst e; exact ev_int hw
      | _ => exact (Bool.false_ne_true hc).elim
    | _ => exact (Bool.false_ne_true hc).elim
def Ex.bl (i : Bool) : Ex Ω where
  lev := 0
  chk _ _ _ e := match e with | .Constant (.bool j) _ _ => j == i | _ => false
  wp _ S W := W (.bl i) S
  sound := by
    intro X r top N nm e Γ S W A _ hc hw
    cases e with
    | Constant c k pos =>
      cases c with
      | bool j => have e : j = i := eq_of_beq hc; subst e; exact ev_bl hw
      | _ => exact (Bool.false_ne_true hc).elim
    | _ => exact (Bool.false_ne_true hc).elim
def Ex.non : Ex Ω where
  lev := 0
  chk _ _ _ e := match e with | .Constant .none _ _ => true | _ => false
  wp _ S W := W .non S
  sound := by
    intro X r top N nm e Γ S W A _ hc hw
    cases e with
    | Constant c k pos =>
      cases c with
      | none => exact ev_non hw
      | _ => exact (Bool.false_ne_true hc).elim
    | _ => exact (Bool.false_ne_true hc).elim
def Ex.str (i : Str) : Ex Ω where
  lev := 0
  chk _ _ _ e := match e with | .Constant (.str j) _ _ => j == i | _ => false
  wp _ S W := W (.str i) S
  sound := by
    intro X r top N nm e Γ S W A _ hc hw
    cases e with
    | Constant c k pos =>
      cases c with
      | str j => have e : j = i := eq_of_beq hc; subst e; exact ev_str hw
      | _ => exact (Bool.false_ne_true hc).elim
    | _ => exact (Bool.false_ne_true hc).elim
def Ex.gint {x : Str} {i : Int} (h : ∃ t, Ω.mg x = some (.int i t)) : Ex Ω where
  lev := 0
  chk _ _ nm e := match e with | .Name y _ => (y == x) && (glb nm x && okN x) | _ => false
  wp _ S W := W (.int i) S
  sound := by
    intro X r top N nm e Γ S W A _ hc hw
    cases e with
    | Name y pos =>
      obtain ⟨h1, h2⟩ := and2 hc
      obtain ⟨h2, h3⟩ := and2 h2
      have e : y = x := eq_of_beq h1
      subst e
      obtain ⟨t, h⟩ := h
      exact ev_globI (by rw [A.g]; exact h) hw (A.glb h2) (okN_at h3).1
    | _ => exact (Bool.false_ne_true hc).elim
def Ex.bin (op : Operator) (a b : Ex Ω) : Ex Ω where
  lev := max a.lev b.lev
  chk top N nm e := match e with | .BinOp l o r _ => (o == op) && (a.chk top N nm l && b.chk top N nm r) | _ => false
  wp Γ S W := a.wp Γ S fun x S1 => b.wp Γ S1 fun y S2 => wpBin op x y S2 W
  sound := by
    intro X r top N nm e Γ S W A hl hc hw
    obtain ⟨l1, l2⟩ := lv2 hl
    cases e with
    | BinOp l o r' pos =>
      obtain ⟨h1, h2⟩ := and2 hc
      obtain ⟨h2, h3⟩ := and2 h2
      have e : o = op := eq_of_beq h1
      subst e
      exact ev_bin ((a.sound A l1 h2 hw).mono fun x S1 q => (b.sound A l2 h3 q).mono fun y S2 q => wpBin_ok q)
    | _ => exact (Bool.false_ne_true hc).elim
def Ex.cmp (op : CmpOp) (a b : Ex Ω) : Ex Ω where
  lev := max a.lev b.lev
  chk top N nm e := match e with | .Compare l [o] [r] _ => (o == op) && (okE r && (a.chk top N nm l && b.chk top N nm r)) | _ => false
  wp Γ S W := a.wp Γ S fun x S1 => b.wp Γ S1 fun y S2 => wpCmp op x y S2 fun c S3 => W (.bl c) S3
  sound := by
    intro X r top N nm e Γ S W A hl hc hw
    obtain ⟨l1, l2⟩ := lv2 hl
    cases e with
    | Compare l os rs pos =>
      match os, rs, hc with
      | [o], [r'], hc =>
        obtain ⟨h1, h2⟩ := and2 hc
        obtain ⟨h0, h2⟩ := and2 h2
        obtain ⟨h2, h3⟩ := and2 h2
        have e : o = op := eq_of_beq h1
        subst e
        exact ev_cmp ((a.sound A l1 h2 hw).mono fun x S1 q => (b.sound A l2 h3 q).mono fun y S2 q => (wpCmp_ok A.hu q).mono fun d S3 ⟨c, e, w⟩ => by subst e; exact w) (marks_ok h0)
      | [], _, hc => exact (Bool.false_ne_true hc).elim
      | [_], [], hc => exact (Bool.false_ne_true hc).elim
      | [_], _ :: _ :: _, hc => exact (Bool.false_ne_true hc).elim
      | _ :: _ :: _, _, hc => exact (Bool.false_ne_true hc).elim
    | _ => exact (Bool.false_ne_true hc).elim
def Te.cmp (op : CmpOp) (a b : Ex Ω) : Te Ω where
  lev := max a.lev b.lev
  chk top N nm e := match e with | .Compare l [o] [r] _ => (o == op) && (okE r && (a.chk top N nm l && b.chk top N nm r)) | _ => false
  wp Γ S W := a.wp Γ S fun x S1 => b.wp Γ S1 fun y S2 => wpCmp op x y S2 W
  sound := by
    intro X r top N nm e Γ S W A hl hc hw
    obtain ⟨l1, l2⟩ := lv2 hl
    cases e with
    | Compare l os rs pos =>
      match os, rs, hc with
      | [o], [r'], hc =>
        obtain ⟨h1, h2⟩ := and2 hc
        obtain ⟨h0, h2⟩ := and2 h2
        obtain ⟨h2, h3⟩ := and2 h2
        have e : o = op := eq_of_beq h1
        subst e
        exact ts_cmp ((a.sound A l1 h2 hw).mono fun x S1 q => (b.sound A l2 h3 q).mono fun y S2 q => wpCmp_ok A.hu q) (marks_ok h0)
      | [], _, hc => exact (Bool.false_ne_true hc).elim
      | [_], [], hc => exact (Bool.false_ne_true hc).elim
      | [_], _ :: _ :: _, hc => exact (Bool.false_ne_true hc).elim
      | _ :: _ :: _, _, hc => exact (Bool.false_ne_true hc).elim
    | _ => exact (Bool.false_ne_true hc).elim
abbrev wpCh2 (a : Ex Ω) (o1 : CmpOp) (b : Ex Ω) (o2 : CmpOp) (c : Ex Ω) (Γ : Gam) (S : Store) (W : Bool → Store → Prop) : Prop :=
  a.wp Γ S fun x S1 => b.wp Γ S1 fun y S2 => wpCmp o1 x y S2 fun k S3 => (k = false → W false S3) ∧ (k = true → c.wp Γ S3 fun t S4 => wpCmp o2 y t S4 W)
def Ex.ch2 (a : Ex Ω) (o1 : CmpOp) (b : Ex Ω) (o2 : CmpOp) (c : Ex Ω) : Ex Ω where
  lev := max (max a.lev b.lev) c.lev
  chk top N nm e := match e with | .Compare l [p1, p2] [m, r] _ => (p1 == o1) && ((p2 == o2) && (okE r && (a.chk top N nm l && (b.chk top N nm m && c.chk top N nm r)))) | _ => false
  wp Γ S W := wpCh2 a o1 b o2 c Γ S fun k S1 => W (.bl k) S1
  sound := by
    intro X r top N nm e Γ S W A hl hc hw
    obtain ⟨l1, l3⟩ := lv2 hl
    obtain ⟨l1, l2⟩ := lv2 l1
    cases e with
    | Compare l os rs pos =>
      match os, rs, hc with
      | [p1, p2], [m, r'], hc =>
        obtain ⟨h1, h2⟩ := and2 hc
        obtain ⟨h2, h3⟩ := and2 h2
        obtain ⟨h0, h3⟩ := and2 h3
        obtain ⟨h3, h4⟩ := and2 h3
        obtain ⟨h4, h5⟩ := and2 h4
        have e : p1 = o1 := eq_of_beq h1
        subst e
        have e : p2 = o2 := eq_of_beq h2
        subst e
        refine ev_chain ((a.sound A l1 h3 hw).mono fun x S1 q => (b.sound A l2 h4 q).mono fun y S2 q => (wpCmp_ok A.hu q).mono fun d S3 ⟨k, e, w⟩ => ⟨k, e, w.1, fun hk => (c.sound A l3 h5 (w.2 hk)).mono fun t S4 q => (wpCmp_ok A.hu q).mono fun d S3 ⟨c, e, w⟩ => by subst e; exact w⟩) (marks_ok h0)
      | [], _, hc => exact (Bool.false_ne_true hc).elim
      | [_], _, hc => exact (Bool.false_ne_true hc).elim
      | [_, _], [], hc => exact (Bool.false_ne_true hc).elim
      | [_, _], [_], hc => exact (Bool.false_ne_true hc).elim
      | [_, _], _ :: _ :: _ :: _, hc => exact (Bool.false_ne_true hc).elim
      | _ :: _ :: _ :: _, _, hc => exact (Bool.false_ne_true hc).elim
    | _ => exact (Bool.false_ne_true hc).elim
def Te.ch2 (a : Ex Ω) (o1 : CmpOp) (b : Ex Ω) (o2 : CmpOp) (c : Ex Ω) : Te Ω where
  lev := max (max a.lev b.lev) c.lev
  chk top N nm e := match e with | .Compare l [p1, p2] [m, r] _ => (p1 == o1) && ((p2 == o2) && (okE r && (a.chk top N nm l && (b.chk top N nm m && c.chk top N nm r)))) | _ => false
  wp Γ S W := wpCh2 a o1 b o2 c Γ S W
  sound := by
    intro X r top N nm e Γ S W A hl hc hw
    obtain ⟨l1, l3⟩ := lv2 hl
    obtain ⟨l1, l2⟩ := lv2 l1
    cases e with
    | Compare l os rs pos =>
      match os, rs, hc with
      | [p1, p2], [m, r'], hc =>
        obtain ⟨h1, h2⟩ := and2 hc
        obtain ⟨h2, h3⟩ := and2 h2
        obtain ⟨h0, h3⟩ := and2 h3
        obtain ⟨h3, h4⟩ := and2 h3
        obtain ⟨h4, h5⟩ := and2 h4
        have e : p1 = o1 := eq_of_beq h1
        subst e
        have e : p2 = o2 := eq_of_beq h2
        subst e
        refine ts_chain2 ((a.sound A l1 h3 hw).mono fun x S1 q => (b.sound A l2 h4 q).mono fun y S2 q => (wpCmp_ok A.hu q).mono fun d S3 ⟨k, e, w⟩ => ⟨k, e, w.1, fun hk => (c.sound A l3 h5 (w.2 hk)).mono fun t S4 q => wpCmp_ok A.hu q⟩) (marks_ok h0)
      | [], _, hc => exact (Bool.false_ne_true hc).elim
      | [_], _, hc => exact (Bool.false_ne_true hc).elim
      | [_, _], [], hc => exact (Bool.false_ne_true hc).elim
      | [_, _], [_], hc => exact (Bool.false_ne_true hc).elim
      | [_, _], _ :: _ :: _ :: _, hc => exact (Bool.false_ne_true hc).elim
      | _ :: _ :: _ :: _, _, hc => exact (Bool.false_ne_true hc).elim
    | _ => exact (Bool.false_ne_true hc).elim
def Te.ch3 (a : Ex Ω) (o1 : CmpOp) (b : Ex Ω) (o2 : CmpOp) (c : Ex Ω) (o3 : CmpOp) (d : Ex Ω) : Te Ω where
  lev := max (max a.lev b.lev) (max c.lev d.lev)
  chk top N nm e := match e with | .Compare l [p1, p2, p3] [m, n, r] _ => (p1 == o1) && ((p2 == o2) && ((p3 == o3) && (okE r && (a.chk top N nm l && (b.chk top N nm m && (c.chk top N nm n && d.chk top N nm r)))))) | _ => false
  wp Γ S W := a.wp Γ S fun x S1 => b.wp Γ S1 fun y S2 => wpCmp o1 x y S2 fun k S3 => (k = false → W false S3) ∧ (k = true → c.wp Γ S3 fun t S4 => wpCmp o2 y t S4 fun k S5 => (k = false → W false S5) ∧ (k = true → d.wp Γ S5 fun t' S6 => wpCmp o3 t t' S6 W))
  sound := by
    intro X r top N nm e Γ S W A hl hc hw
    obtain ⟨l1, l3⟩ := lv2 hl
    obtain ⟨l1, l2⟩ := lv2 l1
    obtain ⟨l3, l4⟩ := lv2 l3
    cases e with
    | Compare l os rs pos =>
      match os, rs, hc with
      | [p1, p2, p3], [m, n, r'], hc =>
        obtain ⟨h1, h2⟩ := and2 hc
        obtain ⟨h2, h3⟩ := and2 h2
        obtain ⟨h3, h4⟩ := and2 h3
        obtain ⟨h0, h4⟩ := and2 h4
        obtain ⟨h4, h5⟩ := and2 h4
        obtain ⟨h5, h6⟩ := and2 h5
        obtain ⟨h6, h7⟩ := and2 h6
        have e : p1 = o1 := eq_of_beq h1
        subst e
        have e : p2 = o2 := eq_of_beq h2
        subst e
        have e : p3 = o3 := eq_of_beq h3
        subst e
        refine ts_chain3 ((a.sound A l1 h4 hw).mono fun x S1 q => (b.sound A l2 h5 q).mono fun y S2 q => (wpCmp_ok A.hu q).mono fun d' S3 ⟨k, e, w⟩ => ⟨k, e, w.1, fun hk => (c.sound A l3 h6 (w.2 hk)).mono fun t S4 q => (wpCmp_ok A.hu q).mono fun d' S3 ⟨k, e, w⟩ => ⟨k, e, w.1, fun hk => (d.sound A l4 h7 (w.2 hk)).mono fun t S4 q => wpCmp_ok A.hu q⟩⟩) (marks_ok h0)
      | [], _, hc => exact (Bool.false_ne_true hc).elim
      | [_], _, hc => exact (Bool.false_ne_true hc).elim
      | [_, _], _, hc => exact (Bool.false_ne_true hc).elim
      | [_, _, _], [], hc => exact (Bool.false_ne_true hc).elim
      | [_, _, _], [_], hc => exact (Bool.false_ne_true hc).elim
      | [_, _, _], [_, _], hc => exact (Bool.false_ne_true hc).elim
      | [_, _, _], _ :: _ :: _ :: _ :: _, hc => exact (Bool.false_ne_true hc).elim
      | _ :: _ :: _ :: _ :: _, _, hc => exact (Bool.false_ne_true hc).elim
    | _ => exact (Bool.false_ne_true hc).elim
/-- a value that is a truth, as a test -/
def Te.val (a : Ex Ω) : Te Ω where
  lev := a.lev
  chk top N nm e := valE e && a.chk top N nm e
  wp Γ S W := a.wp Γ S fun d S1 => match d with | .bl c => W c S1 | _ => False
  sound := by
    intro X r top N nm e Γ S W A hl hc hw
    obtain ⟨h1, h2⟩ := and2 hc
    refine ts_val ((a.sound A hl h2 hw).mono fun d S1 q => ?_) (val_ok h1 _)
    cases d <;> first | exact ⟨_, rfl, q⟩ | exact q.elim
def Te.not (t : Te Ω) : Te Ω where
  lev := t.lev
  chk top N nm e := match e with | .UnaryOp .Not a _ => t.chk top N nm a | _ => false
  wp Γ S W := t.wp Γ S fun c S1 => W (!c) S1
  sound := by
    intro X r top N nm e Γ S W A hl hc hw
    cases e with
    | UnaryOp o a pos =>
      cases o with
      | Not => exact ts_not (t.sound A hl hc hw)
      | _ => exact (Bool.false_ne_true hc).elim
    | _ => exact (Bool.false_ne_true hc).elim
def Bt.one (t : Te Ω) : Bt Ω where
  lev := t.lev
  chk top N nm es := match es with | [e] => t.chk top N nm e | _ => false
  wpA Γ S W := t.wp Γ S W
  wpO Γ S W := t.wp Γ S W
  ne := by
    intro top N nm es hc
    match es, hc with
    | [e], _ => exact ⟨_, _, rfl⟩
    | [], hc => exact (Bool.false_ne_true hc).elim
    | _ :: _ :: _, hc => exact (Bool.false_ne_true hc).elim
  soundA := by
    intro X r top N nm es Γ S W pos A hl hc hw
    match es, hc with
    | [e], hc => exact tw_and1 (t.sound A hl hc hw)
    | [], hc => exact (Bool.false_ne_true hc).elim
    | _ :: _ :: _, hc => exact (Bool.false_ne_true hc).elim
  soundO := by
    intro X r top N nm es Γ S W pos A hl hc hw
    match es, hc with
    | [e], hc => exact tw_or1 (t.sound A hl hc hw)
    | [], hc => exact (Bool.false_ne_true hc).elim
    | _ :: _ :: _, hc => exact (Bool.false_ne_true hc).elim
theorem TsW.mono {X : Cx} {Γ : Gam} {S : Store} {e : Expr} {W W' : Bool → Store → Prop} (h : TsW X Γ S e W) (k : ∀ c S', W c S' → W' c S') : TsW X Γ S e W' := fun wh pins s σ H O I env st =>
  thn (h wh pins s σ H O I env st) fun _ _ ⟨H', I', O', S', w, q⟩ => ⟨H', I', O', S', k _ S' w, q⟩
def Bt.cons (t : Te Ω) (r : Bt Ω) : Bt Ω where
  lev := max t.lev r.lev
  chk top N nm es := match es with | e :: es => t.chk top N nm e && r.chk top N nm es | _ => false
  wpA Γ S W := t.wp Γ S fun c S1 => (c = true → r.wpA Γ S1 W) ∧ (c = false → W false S1)
  wpO Γ S W := t.wp Γ S fun c S1 => (c = true → W true S1) ∧ (c = false → r.wpO Γ S1 W)
  ne := by
    intro top N nm es hc
    match es, hc with
    | _ :: _, _ => exact ⟨_, _, rfl⟩
    | [], hc => exact (Bool.false_ne_true hc).elim
  soundA := by
    intro X r' top N nm es Γ S W pos A hl hc hw
    obtain ⟨l1, l2⟩ := lv2 hl
    match es, hc with
    | e :: es, hc =>
      obtain ⟨h1, h2⟩ := and2 hc
      obtain ⟨b, rest, rfl⟩ := r.ne h2
      exact tw_and (Ts.mono (t.sound A l1 h1 hw) fun c S1 q => ⟨fun hk => r.soundA A l2 h2 (q.1 hk), q.2⟩)
    | [], hc => exact (Bool.false_ne_true hc).elim
  soundO := by
    intro X r' top N nm es Γ S W pos A hl hc hw
    obtain ⟨l1, l2⟩ := lv2 hl
    match es, hc with
    | e :: es, hc =>
      obtain ⟨h1, h2⟩ := and2 hc
      obtain ⟨b, rest, rfl⟩ := r.ne h2
      exact tw_or (Ts.mono (t.sound A l1 h1 hw) fun c S1 q => ⟨q.1, fun hk => r.soundO A l2 h2 (q.2 hk)⟩)
    | [], hc => exact (Bool.false_ne_true hc).elim
def Te.and (l : Bt Ω) : Te Ω where
  lev := l.lev
  chk top N nm e := match e with | .BoolOp .And es _ => l.chk top N nm es | _ => false
  wp Γ S W := l.wpA Γ S W
  sound := by
    intro X r top N nm e Γ S W A hl hc hw
    cases e with
    | BoolOp o es pos =>
      cases o with
      | And => exact (l.soundA A hl hc hw).ts
      | _ => exact (Bool.false_ne_true hc).elim
    | _ => exact (Bool.false_ne_true hc).elim
def Te.or (l : Bt Ω) : Te Ω where
  lev := l.lev
  chk top N nm e := match e with | .BoolOp .Or es _ => l.chk top N nm es | _ => false
  wp Γ S W := l.wpO Γ S W
  sound := by
    intro X r top N nm e Γ S W A hl hc hw
    cases e with
    | BoolOp o es pos =>
      cases o with
      | Or => exact (l.soundO A hl hc hw).ts
      | _ => exact (Bool.false_ne_true hc).elim
    | _ => exact (Bool.false_ne_true hc).elim
def Bo.one (t : Ex Ω) : Bo Ω where
  lev := t.lev
  chk top N nm es := match es with | [e] => t.chk top N nm e | _ => false
  wpA Γ S W := t.wp Γ S W
  wpO Γ S W := t.wp Γ S W
  ne := by
    intro top N nm es hc
    match es, hc with
    | [e], _ => exact ⟨_, _, rfl⟩
    | [], hc => exact (Bool.false_ne_true hc).elim
    | _ :: _ :: _, hc => exact (Bool.false_ne_true hc).elim
  soundA := by
    intro X r top N nm es Γ S W pos A hl hc hw
    match es, hc with
    | [e], hc => exact ev_one (t.sound A hl hc hw)
    | [], hc => exact (Bool.false_ne_true hc).elim
    | _ :: _ :: _, hc => exact (Bool.false_ne_true hc).elim
  soundO := by
    intro X r top N nm es Γ S W pos A hl hc hw
    match es, hc with
    | [e], hc => exact ev_one (t.sound A hl hc hw)
    | [], hc => exact (Bool.false_ne_true hc).elim
    | _ :: _ :: _, hc => exact (Bool.false_ne_true hc).elim
def Bo.cons (t : Ex Ω) (r : Bo Ω) : Bo Ω where
  lev := max t.lev r.lev
  chk top N nm es := match es with | e :: es => t.chk top N nm e && r.chk top N nm es | _ => false
  wpA Γ S W := t.wp Γ S fun d S1 => match d with | .bl c => (c = true → r.wpA Γ S1 W) ∧ (c = false → W (.bl false) S1) | _ => False
  wpO Γ S W := t.wp Γ S fun d S1 => match d with | .bl c => (c = true → W (.bl true) S1) ∧ (c = false → r.wpO Γ S1 W) | _ => False
  ne := by
    intro top N nm es hc
    match es, hc with
    | _ :: _, _ => exact ⟨_, _, rfl⟩
    | [], hc => exact (Bool.false_ne_true hc).elim
  soundA := by
    intro X r' top N nm es Γ S W pos A hl hc hw
    obtain ⟨l1, l2⟩ := lv2 hl
    match es, hc with
    | e :: es, hc =>
      obtain ⟨h1, h2⟩ := and2 hc
      obtain ⟨b, rest, rfl⟩ := r.ne h2
      refine ev_and ((t.sound A l1 h1 hw).mono fun d S1 q => ?_)
      cases d <;> first | exact ⟨_, rfl, fun hk => r.soundA A l2 h2 (q.1 hk), q.2⟩ | exact q.elim
    | [], hc => exact (Bool.false_ne_true hc).elim
  soundO := by
    intro X r' top N nm es Γ S W pos A hl hc hw
    obtain ⟨l1, l2⟩ := lv2 hl
    match es, hc with
    | e :: es, hc =>
      obtain ⟨h1, h2⟩ := and2 hc
      obtain ⟨b, rest, rfl⟩ := r.ne h2
      refine ev_or ((t.sound A l1 h1 hw).mono fun d S1 q => ?_)
      cases d <;> first | exact ⟨_, rfl, q.1, fun hk => r.soundO A l2 h2 (q.2 hk)⟩ | exact q.elim
    | [], hc => exact (Bool.false_ne_true hc).elim
def Ex.and (l : Bo Ω) : Ex Ω where
  lev := l.lev
  chk top N nm e := match e with | .BoolOp .And es _ => l.chk top N nm es | _ => false
  wp Γ S W := l.wpA Γ S W
  sound := by
    intro X r top N nm e Γ S W A hl hc hw
    cases e with
    | BoolOp o es pos =>
      cases o with
      | And => exact l.soundA A hl hc hw
      | _ => exact (Bool.false_ne_true hc).elim
    | _ => exact (Bool.false_ne_true hc).elim
def Ex.or (l : Bo Ω) : Ex Ω where
  lev := l.lev
  chk top N nm e := match e with | .BoolOp .Or es _ => l.chk top N nm es | _ => false
  wp Γ S W := l.wpO Γ S W
  sound := by
    intro X r top N nm e Γ S W A hl hc hw
    cases e with
    | BoolOp o es pos =>
      cases o with
      | Or => exact l.soundO A hl hc hw
      | _ => exact (Bool.false_ne_true hc).elim
    | _ => exact (Bool.false_ne_true hc).elim
def Ex.not (a : Ex Ω) : Ex Ω where
  lev := a.lev
  chk top N nm e := match e with | .UnaryOp .Not b _ => a.chk top N nm b | _ => false
  wp Γ S W := a.wp Γ S fun d S1 => match d with | .bl c => W (.bl (!c)) S1 | _ => False
  sound := by
    intro X r top N nm e Γ S W A hl hc hw
    cases e with
    | UnaryOp o b pos =>
      cases o with
      | Not =>
        refine ev_not ((a.sound A hl hc hw).mono fun d S1 q => ?_)
        cases d <;> first | exact ⟨_, rfl, q⟩ | exact q.elim
      | _ => exact (Bool.false_ne_true hc).elim
    | _ => exact (Bool.false_ne_true hc).elim
def Ex.neg (a : Ex Ω) : Ex Ω where
  lev := a.lev
  chk top N nm e := match e with | .UnaryOp .USub b _ => a.chk top N nm b | _ => false
  wp Γ S W := a.wp Γ S fun d S1 => match d with | .int c => W (.int (-c)) S1 | _ => False
  sound := by
    intro X r top N nm e Γ S W A hl hc hw
    cases e with
    | UnaryOp o b pos =>
      cases o with
      | USub =>
        refine ev_neg ((a.sound A hl hc hw).mono fun d S1 q => ?_)
        cases d <;> first | exact ⟨_, rfl, q⟩ | exact q.elim
      | _ => exact (Bool.false_ne_true hc).elim
    | _ => exact (Bool.false_ne_true hc).elim
def Ex.ifE (c : Te Ω) (a b : Ex Ω) : Ex Ω where
  lev := max c.lev (max a.lev b.lev)
  chk top N nm e := match e with | .IfExp t x y _ => c.chk top N nm t && (a.chk top N nm x && b.chk top N nm y) | _ => false
  wp Γ S W := c.wp Γ S fun k S1 => (k = true → a.wp Γ S1 W) ∧ (k = false → b.wp Γ S1 W)
  sound := by
    intro X r top N nm e Γ S W A hl hc hw
    obtain ⟨l1, l2⟩ := lv2 hl
    obtain ⟨l2, l3⟩ := lv2 l2
    cases e with
    | IfExp t x y pos =>
      obtain ⟨h1, h2⟩ := and2 hc
      obtain ⟨h2, h3⟩ := and2 h2
      exact ev_ifExp (Ts.mono (c.sound A l1 h1 hw) fun k S1 q => ⟨fun hk => a.sound A l2 h2 (q.1 hk), fun hk => b.sound A l3 h3 (q.2 hk)⟩)
    | _ => exact (Bool.false_ne_true hc).elim
def Ar.nil : Ar Ω where
  lev := 0
  chk _ _ _ es := match es with | [] => true | _ => false
  wp _ S W := W [] S
  plain := by
    intro top N nm es hc
    match es, hc with
    | [], _ => rfl
    | _ :: _, hc => exact (Bool.false_ne_true hc).elim
  sound := by
    intro X r top N nm es Γ S W A _ hc hw
    match es, hc with
    | [], _ => exact eva_nil hw
    | _ :: _, hc => exact (Bool.false_ne_true hc).elim
def Ar.cons (a : Ex Ω) (r : Ar Ω) : Ar Ω where
  lev := max a.lev r.lev
  chk top N nm es := match es with | e :: es => okE e && (a.chk top N nm e && r.chk top N nm es) | _ => false
  wp Γ S W := a.wp Γ S fun d S1 => r.wp Γ S1 fun ds S2 => W (d :: ds) S2
  plain := by
    intro top N nm es hc
    match es, hc with
    | e :: es, hc =>
      obtain ⟨h1, h2⟩ := and2 hc
      obtain ⟨h2, h3⟩ := and2 h2
      rw [List.all_cons, h1, r.plain h3]; rfl
    | [], hc => exact (Bool.false_ne_true hc).elim
  sound := by
    intro X r' top N nm es Γ S W A hl hc hw
    obtain ⟨l1, l2⟩ := lv2 hl
    match es, hc with
    | e :: es, hc =>
      obtain ⟨h1, h2⟩ := and2 hc
      obtain ⟨h2, h3⟩ := and2 h2
      exact eva_cons ((a.sound A l1 h2 hw).mono fun d S1 q => r.sound A l2 h3 q) (star_ok h1 _ _)
    | [], hc => exact (Bool.false_ne_true hc).elim
def Ex.tup (as : Ar Ω) : Ex Ω where
  lev := as.lev
  chk top N nm e := match e with | .Tuple es _ _ => as.chk top N nm es | _ => false
  wp Γ S W := as.wp Γ S fun ds S1 => ds.length ≤ 1000000 ∧ W (.tup ds) S1
  sound := by
    intro X r top N nm e Γ S W A hl hc hw
    cases e with
    | Tuple es k pos => exact ev_tup (as.sound A hl hc hw)
    | _ => exact (Bool.false_ne_true hc).elim
def Ex.lst (as : Ar Ω) : Ex Ω where
  lev := as.lev
  chk top N nm e := match e with | .List es _ => as.chk top N nm es | _ => false
  wp Γ S W := as.wp Γ S fun ds S1 => ds.length ≤ 1000000 ∧ W (.lst ds) S1
  sound := by
    intro X r top N nm e Γ S W A hl hc hw
    cases e with
    | List es pos => exact ev_lst (as.sound A hl hc hw)
    | _ => exact (Bool.false_ne_true hc).elim
/-- a list that is to be changed: owned -/
def Ex.own (as : Ar Ω) : Ex Ω where
  lev := as.lev
  chk top N nm e := match e with | .List es _ => as.chk top N nm es | _ => false
  wp Γ S W := as.wp Γ S fun ds S1 => ds.length ≤ 1000000 ∧ W (.loc S1.length) (S1 ++ [ds])
  sound := by
    intro X r top N nm e Γ S W A hl hc hw
    cases e with
    | List es pos => exact ev_lstO (as.sound A hl hc hw)
    | _ => exact (Bool.false_ne_true hc).elim
def Ex.dic : Ex Ω where
  lev := 0
  chk top N nm e := match e with | .Dict [] [] _ => true | _ => false
  wp Γ S W := W .dic S
  sound := by
    intro X r top N nm e Γ S W A hl hc hw
    cases e with
    | Dict ks vs pos =>
      match ks, vs, hc with
      | [], [], _ => exact ev_dict0 hw
      | [], _ :: _, hc => exact (Bool.false_ne_true hc).elim
      | _ :: _, _, hc => exact (Bool.false_ne_true hc).elim
    | _ => exact (Bool.false_ne_true hc).elim
def Ex.ix (a b : Ex Ω) : Ex Ω where
  lev := max a.lev b.lev
  chk top N nm e := match e with | .Subscript l r _ => okE r && (a.chk top N nm l && b.chk top N nm r) | _ => false
  wp Γ S W := a.wp Γ S fun x S1 => b.wp Γ S1 fun y S2 => wpIx x y S2 W
  sound := by
    intro X r top N nm e Γ S W A hl hc hw
    obtain ⟨l1, l2⟩ := lv2 hl
    cases e with
    | Subscript l r' pos =>
      obtain ⟨h1, h2⟩ := and2 hc
      obtain ⟨h2, h3⟩ := and2 h2
      exact ev_ix ((a.sound A l1 h2 hw).mono fun x S1 q => (b.sound A l2 h3 q).mono fun y S2 q => wpIx_ok q) (plain_ix h1)
    | _ => exact (Bool.false_ne_true hc).elim
/-- an end of a slice -/
structure Po (Ω : Wd) where
  lev : Nat
  chk : Bool → List Str → Nm → Option Expr → Bool
  wp : Gam → Store → (Option Int → Store → Prop) → Prop
  sound : ∀ {X : Cx} {r : Nat} {top : Bool} {N : List Str} {nm : Nm} {e : Option Expr} {Γ : Gam} {S : Store} {W : Option Int → Store → Prop}, At Ω X r top N nm → lev ≤ r → chk top N nm e = true → wp Γ S W → PoD X Γ S e W
def Po.no : Po Ω where
  lev := 0
  chk _ _ _ e := match e with | none => true | _ => false
  wp _ S W := W none S
  sound := by
    intro X r top N nm e Γ S W A hl hc hw
    cases e with
    | none => exact po_n hw
    | some e => exact (Bool.false_ne_true hc).elim
def Po.so (a : Ex Ω) : Po Ω where
  lev := a.lev
  chk top N nm e := match e with | some e => a.chk top N nm e | _ => false
  wp Γ S W := a.wp Γ S fun d S1 => match d with | .int i => W (some i) S1 | _ => False
  sound := by
    intro X r top N nm e Γ S W A hl hc hw
    cases e with
    | some e =>
      refine po_s ((a.sound A hl hc hw).mono fun d S1 q => ?_)
      cases d <;> first | exact ⟨_, rfl, q⟩ | exact q.elim
    | none => exact (Bool.false_ne_true hc).elim
theorem PoD.mono {X : Cx} {Γ : Gam} {S : Store} {e : Option Expr} {W W' : Option Int → Store → Prop} (h : PoD X Γ S e W) (k : ∀ c S', W c S' → W' c S') : PoD X Γ S e W' := by
  cases e with
  | none => exact k _ _ h
  | some e => exact Ev.mono h fun d S1 ⟨i, e, w⟩ => ⟨i, e, k _ _ w⟩
def Ex.sl (a : Ex Ω) (lo hi : Po Ω) : Ex Ω where
  lev := max a.lev (max lo.lev hi.lev)
  chk top N nm e := match e with | .Subscript l (.Slice x y none _) _ => a.chk top N nm l && (lo.chk top N nm x && hi.chk top N nm y) | _ => false
  wp Γ S W := a.wp Γ S fun x S1 => lo.wp Γ S1 fun l S2 => hi.wp Γ S2 fun h S3 => wpSl x l h S3 W
  sound := by
    intro X r top N nm e Γ S W A hl hc hw
    obtain ⟨l1, l2⟩ := lv2 hl
    obtain ⟨l2, l3⟩ := lv2 l2
    cases e with
    | Subscript l sl pos =>
      cases sl with
      | Slice x y z p2 =>
        cases z with
        | none =>
          obtain ⟨h1, h2⟩ := and2 hc
          obtain ⟨h2, h3⟩ := and2 h2
          exact ev_slice ((a.sound A l1 h1 hw).mono fun x S1 q => PoD.mono (lo.sound A l2 h2 q) fun l S2 q => PoD.mono (hi.sound A l3 h3 q) fun h S3 q => wpSl_ok q)
        | some _ => exact (Bool.false_ne_true hc).elim
      | _ => exact (Bool.false_ne_true hc).elim
    | _ => exact (Bool.false_ne_true hc).elim
def Ex.call {x : Str} {k n : Nat} {F : Ct} (C : Callee Ω.P Ω.w Ω.K Ω.mg Ω.base x k n F) (as : Ar Ω) : Ex Ω where
  lev := max k as.lev
  chk top N nm e := match e with | .Call (.Name y _) (a :: es) [] _ => (y == x) && (glb nm x && (okN x && as.chk top N nm (a :: es))) | _ => false
  wp Γ S W := as.wp Γ S fun ds S1 => ds.length = n ∧ F ds S1 W
  sound := by
    intro X r top N nm e Γ S W A hl hc hw
    obtain ⟨l1, l2⟩ := lv2 hl
    cases e with
    | Call f es ks pos =>
      cases f with
      | Name y p =>
        match es, ks, hc with
        | a :: es, [], hc =>
          obtain ⟨h1, h2⟩ := and2 hc
          obtain ⟨h2, h3⟩ := and2 h2
          obtain ⟨h3, h4⟩ := and2 h3
          have e : y = x := eq_of_beq h1
          subst e
          have pl := as.plain h4
          rw [List.all_cons] at pl
          obtain ⟨p1, p2⟩ := and2 pl
          have C' : Callee X.prog X.w X.K X.mg X.base y k n F := by rw [A.p, A.w, A.k, A.g, A.b]; exact C
          exact ev_call C' (A.room.mono l1) (as.sound A l2 h4 hw) (A.glb h2) (okN_at h3).1 (star_ok p1 _ _) (any_ok p2 _ _)
        | [], _, hc => exact (Bool.false_ne_true hc).elim
        | _ :: _, _ :: _, hc => exact (Bool.false_ne_true hc).elim
      | _ => exact (Bool.false_ne_true hc).elim
    | _ => exact (Bool.false_ne_true hc).elim
/-- a built-in function -/
structure Bf where
  x : Str
  id : String
  boot : bootBuiltins x = some (.builtin id)
  wp : List D → Store → WD → Prop
  sound : ∀ {X : Cx} {ds : List D} {S : Store} {W : WD}, X.calm = true → Room 0 X.A → wp ds S W → CalW X (.builtin id) ds S W
def Ex.blt (b : Bf) (hm : Ω.mg b.x = none) (as : Ar Ω) : Ex Ω where
  lev := as.lev
  chk top N nm e := match e with | .Call (.Name y _) (a :: es) [] _ => (y == b.x) && (glb nm b.x && (okN b.x && as.chk top N nm (a :: es))) | _ => false
  wp Γ S W := as.wp Γ S fun ds S1 => b.wp ds S1 W
  sound := by
    intro X r top N nm e Γ S W A hl hc hw
    cases e with
    | Call f es ks pos =>
      cases f with
      | Name y p =>
        match es, ks, hc with
        | a :: es, [], hc =>
          obtain ⟨h1, h2⟩ := and2 hc
          obtain ⟨h2, h3⟩ := and2 h2
          obtain ⟨h3, h4⟩ := and2 h3
          have e : y = b.x := eq_of_beq h1
          subst e
          have pl := as.plain h4
          rw [List.all_cons] at pl
          obtain ⟨p1, p2⟩ := and2 pl
          exact ev_callB (EvA.mono (as.sound A hl h4 hw) fun ds S1 q => b.sound A.calm (A.room.mono (Nat.zero_le _)) q) (by rw [A.g]; exact hm) b.boot (A.glb h2) (okN_at h3).2.2 (okN_at h3).1 (star_ok p1 _ _) (any_ok p2 _ _)
        | [], _, hc => exact (Bool.false_ne_true hc).elim
        | _ :: _, _ :: _, hc => exact (Bool.false_ne_true hc).elim
      | _ => exact (Bool.false_ne_true hc).elim
    | _ => exact (Bool.false_ne_true hc).elim
/-- a built-in class, called -/
structure Bc where
  x : Str
  id : String
  boot : bootBuiltins x = some (.type id)
  wp : List D → Store → WD → Prop
  sound : ∀ {X : Cx} {ds : List D} {S : Store} {W : WD}, X.calm = true → Room 0 X.A → wp ds S W → CalW X (.type id) ds S W
def Ex.typ (b : Bc) (hm : Ω.mg b.x = none) (as : Ar Ω) : Ex Ω where
  lev := as.lev
  chk top N nm e := match e with | .Call (.Name y _) (a :: es) [] _ => (y == b.x) && (glb nm b.x && (okN b.x && as.chk top N nm (a :: es))) | _ => false
  wp Γ S W := as.wp Γ S fun ds S1 => b.wp ds S1 W
  sound := by
    intro X r top N nm e Γ S W A hl hc hw
    cases e with
    | Call f es ks pos =>
      cases f with
      | Name y p =>
        match es, ks, hc with
        | a :: es, [], hc =>
          obtain ⟨h1, h2⟩ := and2 hc
          obtain ⟨h2, h3⟩ := and2 h2
          obtain ⟨h3, h4⟩ := and2 h3
          have e : y = b.x := eq_of_beq h1
          subst e
          have pl := as.plain h4
          rw [List.all_cons] at pl
          obtain ⟨p1, p2⟩ := and2 pl
          exact ev_callT (EvA.mono (as.sound A hl h4 hw) fun ds S1 q => b.sound A.calm (A.room.mono (Nat.zero_le _)) q) (by rw [A.g]; exact hm) b.boot (A.glb h2) (okN_at h3).2.2 (okN_at h3).1 (star_ok p1 _ _) (any_ok p2 _ _)
        | [], _, hc => exact (Bool.false_ne_true hc).elim
        | _ :: _, _ :: _, hc => exact (Bool.false_ne_true hc).elim
      | _ => exact (Bool.false_ne_true hc).elim
    | _ => exact (Bool.false_ne_true hc).elim
/-- isinstance(a, T) -/
def Ex.isi (hm : Ω.mg "isinstance" = none) (a : Ex Ω) (T : Ty) (hT : Ω.mg T.nm = none) : Ex Ω where
  lev := a.lev
  chk top N nm e := match e with | .Call (.Name y _) [b, .Name t _] [] _ => (y == ("isinstance" : Str)) && (glb nm "isinstance" && ((t == T.nm) && (glb nm T.nm && (okE b && a.chk top N nm b)))) | _ => false
  wp Γ S W := a.wp Γ S fun d S1 => W (.bl (isD T d)) S1
  sound := by
    intro X r top N nm e Γ S W A hl hc hw
    split at hc
    · rename_i y p b t q pos
      obtain ⟨h1, g2⟩ := and2 hc
      obtain ⟨h2, g3⟩ := and2 g2
      obtain ⟨h3, g4⟩ := and2 g3
      obtain ⟨h4, g5⟩ := and2 g4
      obtain ⟨h5, h6⟩ := and2 g5
      have e : y = "isinstance" := eq_of_beq h1
      subst e
      have e : t = T.nm := eq_of_beq h3
      subst e
      exact ev_isi (Tn := T.id) ((a.sound A hl h6 hw).mono fun d S1 q => by rw [isD_eq]; exact q) T.isT T.boot (by rw [A.g]; exact hm) (by rw [A.g]; exact hT) (A.glb h2) (A.glb h4) T.ok.2 T.ok.1 (star_ok h5 _ _) (star_ok (e := .Name T.nm q) rfl [] _)
    · exact (Bool.false_ne_true hc).elim
/-- isinstance(a, (T1, T2)) -/
def Ex.isi2 (hm : Ω.mg "isinstance" = none) (a : Ex Ω) (T1 T2 : Ty) (hT1 : Ω.mg T1.nm = none) (hT2 : Ω.mg T2.nm = none) : Ex Ω where
  lev := a.lev
  chk top N nm e := match e with | .Call (.Name y _) [b, .Tuple [.Name t _, .Name u _] _ _] [] _ => (y == ("isinstance" : Str)) && (glb nm "isinstance" && ((t == T1.nm) && (glb nm T1.nm && ((u == T2.nm) && (glb nm T2.nm && (okE b && a.chk top N nm b)))))) | _ => false
  wp Γ S W := a.wp Γ S fun d S1 => W (.bl (isD T1 d || isD T2 d)) S1
  sound := by
    intro X r top N nm e Γ S W A hl hc hw
    split at hc
    · rename_i y p b t q1 u q2 x1 q3 pos
      obtain ⟨h1, g2⟩ := and2 hc
      obtain ⟨h2, g3⟩ := and2 g2
      obtain ⟨h3, g4⟩ := and2 g3
      obtain ⟨h4, g5⟩ := and2 g4
      obtain ⟨h5, g6⟩ := and2 g5
      obtain ⟨h6, g7⟩ := and2 g6
      obtain ⟨h7, h8⟩ := and2 g7
      have e : y = "isinstance" := eq_of_beq h1
      subst e
      have e : t = T1.nm := eq_of_beq h3
      subst e
      have e : u = T2.nm := eq_of_beq h5
      subst e
      exact ev_isi2 (n1 := T1.id) (n2 := T2.id) ((a.sound A hl h8 hw).mono fun d S1 q => by rw [isD_eq, isD_eq]; exact q) T1.isT T2.isT T1.boot T2.boot (by rw [A.g]; exact hm) (by rw [A.g]; exact hT1) (by rw [A.g]; exact hT2) (A.glb h2) (A.glb h4) (A.glb h6) T1.ok.2 T1.ok.1 T2.ok.2 T2.ok.1 (star_ok h7 _ _) (star_ok (e := .Tuple _ _ _) rfl [] _) (star_ok (e := .Name _ _) rfl _ _) (star_ok (e := .Name _ _) rfl [] _)
    · exact (Bool.false_ne_true hc).elim
end RF

set_option Elab.async false
set_option linter.all false
set_option maxRecDepth 100000
set_option maxHeartbeats 4000000
namespace RF
open PySem PySem.Spec L2 DL
open PyProof.Rows
/-! targets -/
inductive Tg where
  | nm (i : Nat) | tup (is : List Nat)
def setAll : Gam → List Nat → List D → Gam
  | Γ, i :: is, d :: ds => setAll (Γ.set i (some d)) is ds
  | Γ, _, _ => Γ
def Tg.wp : Tg → D → Gam → (Gam → Prop) → Prop
  | .nm i, d, Γ, W => W (Γ.set i (some d))
  | .tup is, .tup ds, Γ, W => ds.length = is.length ∧ W (setAll Γ is ds)
  | .tup _, _, _, _ => False
def Tg.slots : Tg → List Nat
  | .nm i => [i]
  | .tup is => is
def chkNm (top : Bool) (N : List Str) (nm : Nm) (i : Nat) (e : Expr) : Bool := match e with | .Name x _ => (N[i]? == some x) && lcl top nm x | _ => false
def chkNms (top : Bool) (N : List Str) (nm : Nm) : List Nat → List Expr → Bool
  | [], [] => true
  | i :: is, e :: es => chkNm top N nm i e && chkNms top N nm is es
  | _, _ => false
def Tg.chk (t : Tg) (top : Bool) (N : List Str) (nm : Nm) (e : Expr) : Bool := match t with
  | .nm i => chkNm top N nm i e
  | .tup is => match e with | .Tuple es _ _ => chkNms top N nm is es | _ => false
section
variable {Ω : Wd} {X : Cx} {r : Nat} {top : Bool} {N : List Str} {nm : Nm}
theorem bd1_ok (A : At Ω X r top N nm) {i : Nat} {e : Expr} {d : D} {Γ : Gam} {S : Store} {W : Gam → Store → Prop} (hc : chkNm top N nm i e = true) (hw : W (Γ.set i (some d)) S) : BdW X e d Γ S W := by
  cases e with
  | Name x pos =>
    obtain ⟨h1, h2⟩ := and2 hc
    have h1 : N[i]? = some x := eq_of_beq h1
    obtain ⟨l1, l2⟩ := A.lcl h2
    exact bd_name i hw (by rw [A.n]; exact A.nd) (by rw [A.n]; exact h1) l1 l2
  | _ => exact (Bool.false_ne_true hc).elim
theorem nms_cons {i : Nat} {is : List Nat} {es : List Expr} (h : chkNms top N nm (i :: is) es = true) : ∃ x p es', es = .Name x p :: es' ∧ chkNm top N nm i (.Name x p) = true ∧ chkNms top N nm is es' = true := by
  cases es with
  | nil => exact (Bool.false_ne_true h).elim
  | cons e es =>
    obtain ⟨h1, h2⟩ := and2 h
    cases e with
    | Name x p => exact ⟨x, p, es, rfl, h1, h2⟩
    | _ => exact (Bool.false_ne_true h1).elim
theorem nms_nil {es : List Expr} (h : chkNms top N nm [] es = true) : es = [] := by
  cases es with
  | nil => rfl
  | cons e es => exact (Bool.false_ne_true h).elim
theorem bds_ok (A : At Ω X r top N nm) {S : Store} {W : Gam → Store → Prop} : ∀ {is : List Nat} {es : List Expr} {ds : List D} {Γ : Gam}, chkNms top N nm is es = true → ds.length = is.length → W (setAll Γ is ds) S → BdsW X es ds Γ S W
  | [], es, ds, Γ, hc, hl, hw => by
    have e := nms_nil hc
    subst e
    have e : ds = [] := by simpa using hl
    subst e
    exact bds_nil hw
  | i :: is, es, ds, Γ, hc, hl, hw => by
    obtain ⟨x, p, es', rfl, h1, h2⟩ := nms_cons hc
    cases ds with
    | nil => simp at hl
    | cons d ds => exact bds_cons (bd1_ok A h1 (bds_ok A h2 (by simpa using hl) hw)) rfl
theorem nms_env : ∀ {is : List Nat} {es : List Expr}, chkNms top N nm is es = true → ∀ env : Env, (assignEach es env).length = is.length ∧ (assignEach es env).findIdx? (·.1) = none
  | [], es, hc, env => by
    have e := nms_nil hc
    subst e
    exact ⟨rfl, rfl⟩
  | i :: is, es, hc, env => by
    obtain ⟨x, p, es', rfl, h1, h2⟩ := nms_cons hc
    obtain ⟨a, b⟩ := nms_env h2 env
    have e : assignEach (.Name x p :: es') env = (false, assign (.Name x p) env) :: assignEach es' env := rfl
    rw [e]
    refine ⟨by simp [a], ?_⟩
    rw [List.findIdx?_cons, b]
    rfl
theorem Tg.sound (A : At Ω X r top N nm) {t : Tg} {e : Expr} {d : D} {Γ : Gam} {S : Store} {W : Gam → Store → Prop} (hc : t.chk top N nm e = true) (hw : t.wp d Γ fun Γ' => W Γ' S) : BdW X e d Γ S W := by
  cases t with
  | nm i => exact bd1_ok A hc hw
  | tup is =>
    cases e with
    | Tuple es k pos =>
      have hc : chkNms top N nm is es = true := hc
      cases d with
      | tup ds =>
        obtain ⟨hl, hw⟩ : ds.length = is.length ∧ W (setAll Γ is ds) S := hw
        obtain ⟨a, b⟩ := nms_env hc X.env
        exact bd_tup (bds_ok A hc hl hw) A.calm (a.trans hl.symm) b
      | _ => exact hw.elim
    | _ => exact (Bool.false_ne_true hc).elim
end
/-- names of a block that it does not take along -/
theorem Sub.setAll {Γ : Gam} : ∀ {is : List Nat} {ds : List D} {Γ' : Gam}, Sub Γ Γ' → (∀ i ∈ is, Γ[i]? = some none) → Sub Γ (RF.setAll Γ' is ds)
  | [], ds, Γ', h, _ => by cases ds <;> exact h
  | i :: is, [], Γ', h, _ => h
  | i :: is, d :: ds, Γ', h, hi => show Sub Γ (RF.setAll (Γ'.set i (some d)) is ds) from Sub.setAll (Γ' := Γ'.set i (some d)) (h.set i (some d) (hi i List.mem_cons_self)) fun j hj => hi j (List.mem_cons_of_mem _ hj)
theorem capt_none {cap : List (Option Nat)} {Γ : Gam} {i : Nat} (h : cap[i]? = some none) : (capt cap Γ)[i]? = some none := by
  unfold capt
  rw [List.getElem?_map, h]; rfl

/-! what is walked -/
structure Itb (Ω : Wd) where
  lev : Nat
  chk : Bool → List Str → Nm → Expr → Expr → Bool
  wp : Gam → Store → (List D → Store → Prop) → Prop
  sound : ∀ {X : Cx} {r : Nat} {top : Bool} {N : List Str} {nm : Nm} {tg e : Expr} {Γ : Gam} {S : Store} {W : List D → Store → Prop}, At Ω X r top N nm → lev ≤ r → chk top N nm tg e = true → wp Γ S W → ItW X Γ S tg e W
theorem it_seq {X : Cx} {Γ : Gam} {S : Store} {tg e : Expr} {W : List D → Store → Prop} (h : Ev X Γ S e fun d S1 => match d with | .lst ds => W ds S1 | .tup ds => W ds S1 | _ => False) : ItW X Γ S tg e W := by
  intro pins s σ H O I env st
  refine thn (h pins s σ H O I env st) fun u s1 ⟨v, H1, I1, r1, O1, d, S1, w, st1, ok1, rep⟩ => ?_
  cases rep with
  | @lst a xs ds h1 q1 =>
    cases r1
    obtain ⟨its, rv, p, hz⟩ := I1.list h1.sq
    refine wpAny_pyIter_list p.isList ?_
    refine ⟨s1.heap.objs.size, [s1.heap.objs.size], _, _, H1, rfl, I1.kept (t' := s1.toks) fun b o e => Heap.get?_push_of_some _ e, turn_list a _, ⟨_, Heap.get?_push_size _ rfl, rfl, rfl⟩, fun b hb => ?_, O1, ds, S1, w, st1, ok1, yields_list h1 q1⟩
    have e : b = s1.heap.objs.size := by simpa using hb
    subst e
    exact I1.fpOk (Nat.le_refl _) (I1.hok.fresh (Nat.le_refl _))
  | @tup a xs ds h1 q1 =>
    cases r1
    obtain ⟨its, rv, p, hz⟩ := I1.tuple h1.sq
    refine wpAny_pyIter_tuple (show s1.heap.IsTuple a its.toArray from p) ?_
    refine ⟨s1.heap.objs.size, [s1.heap.objs.size], _, _, H1, rfl, I1.kept (t' := s1.toks) fun b o e => Heap.get?_push_of_some _ e, turn_tuple a _, ⟨_, Heap.get?_push_size _ rfl, rfl, rfl⟩, fun b hb => ?_, O1, ds, S1, w, st1, ok1, yields_tup h1 q1⟩
    have e : b = s1.heap.objs.size := by simpa using hb
    subst e
    exact I1.fpOk (Nat.le_refl _) (I1.hok.fresh (Nat.le_refl _))
  | _ => exact w.elim
variable {Ω : Wd}
def Itb.seq (a : Ex Ω) : Itb Ω where
  lev := a.lev
  chk top N nm _ e := a.chk top N nm e
  wp Γ S W := a.wp Γ S fun d S1 => match d with | .lst ds => W ds S1 | .tup ds => W ds S1 | _ => False
  sound := by
    intro X r top N nm tg e Γ S W A hl hc hw
    exact it_seq (a.sound A hl hc hw)
def Itb.rng1 (hm : Ω.mg "range" = none) (a : Ex Ω) : Itb Ω where
  lev := a.lev
  chk top N nm _ e := match e with | .Call (.Name y _) [b] [] _ => (y == ("range" : Str)) && (glb nm "range" && (okE b && a.chk top N nm b)) | _ => false
  wp Γ S W := a.wp Γ S fun d S1 => match d with | .int j => (-(2 ^ 62) ≤ j ∧ j < 2 ^ 62) ∧ W (upTo 0 j.toNat) S1 | _ => False
  sound := by
    intro X r top N nm tg e Γ S W A hl hc hw
    split at hc
    · rename_i y p b pos
      obtain ⟨h1, g2⟩ := and2 hc
      obtain ⟨h2, g3⟩ := and2 g2
      obtain ⟨h3, h4⟩ := and2 g3
      have e : y = "range" := eq_of_beq h1
      subst e
      refine it_range1 ((a.sound A hl h4 hw).mono fun d S1 q => ?_) (by rw [A.g]; exact hm) (A.glb h2) (star_ok h3 [] _)
      cases d <;> first | exact ⟨_, rfl, q.1.1, q.1.2, q.2⟩ | exact q.elim
    · exact (Bool.false_ne_true hc).elim
def Itb.rng2 (hm : Ω.mg "range" = none) (a b : Ex Ω) : Itb Ω where
  lev := max a.lev b.lev
  chk top N nm _ e := match e with | .Call (.Name y _) [l, r] [] _ => (y == ("range" : Str)) && (glb nm "range" && ((okE l && okE r) && (a.chk top N nm l && b.chk top N nm r))) | _ => false
  wp Γ S W := a.wp Γ S fun d S1 => b.wp Γ S1 fun d' S2 => match d, d' with | .int i, .int j => (-(2 ^ 62) ≤ i ∧ i < 2 ^ 62 ∧ -(2 ^ 62) ≤ j ∧ j < 2 ^ 62) ∧ W (upTo i (j - i).toNat) S2 | _, _ => False
  sound := by
    intro X r top N nm tg e Γ S W A hl hc hw
    obtain ⟨l1, l2⟩ := lv2 hl
    split at hc
    · rename_i y p l r' pos
      obtain ⟨h1, g2⟩ := and2 hc
      obtain ⟨h2, g3⟩ := and2 g2
      obtain ⟨h3, h4⟩ := and2 g3
      obtain ⟨h5, h6⟩ := and2 h3
      obtain ⟨h7, h8⟩ := and2 h4
      have e : y = "range" := eq_of_beq h1
      subst e
      refine it_range2 ((a.sound A l1 h7 hw).mono fun d S1 q => (b.sound A l2 h8 q).mono fun d' S2 q => ?_) (by rw [A.g]; exact hm) (A.glb h2) (by rw [star_ok h5, star_ok h6]; rfl) (star_ok h6 [] _)
      cases d <;> first | exact q.elim | (cases d' <;> first | exact ⟨_, _, rfl, rfl, q.1, q.2⟩ | exact q.elim)
    · exact (Bool.false_ne_true hc).elim

/-! comprehensions -/
structure Cd (Ω : Wd) where
  lev : Nat
  chk : Bool → List Str → Nm → List Expr → Bool
  wp : Gam → Store → (Bool → Store → Prop) → Prop
  sound : ∀ {X : Cx} {r : Nat} {top : Bool} {N : List Str} {nm : Nm} {es : List Expr} {Γ : Gam} {S : Store} {W : Bool → Store → Prop}, At Ω X r top N nm → lev ≤ r → chk top N nm es = true → wp Γ S W → TsA X Γ S es W
def Cd.no : Cd Ω where
  lev := 0
  chk _ _ _ es := match es with | [] => true | _ => false
  wp _ S W := W true S
  sound := by
    intro X r top N nm es Γ S W A hl hc hw
    match es, hc with
    | [], _ => exact hw
    | _ :: _, hc => exact (Bool.false_ne_true hc).elim
def Cd.so (t : Te Ω) : Cd Ω where
  lev := t.lev
  chk top N nm es := match es with | [e] => t.chk top N nm e | _ => false
  wp Γ S W := t.wp Γ S W
  sound := by
    intro X r top N nm es Γ S W A hl hc hw
    match es, hc with
    | [e], hc => exact turn1 (t.sound A hl hc hw)
    | [], hc => exact (Bool.false_ne_true hc).elim
    | _ :: _ :: _, hc => exact (Bool.false_ne_true hc).elim
/-- what the turns of a comprehension keep -/
@[irreducible] def CompW (cap : List (Option Nat)) (Γ : Gam) (elt : Ex Ω) (tg : Tg) (cd : Cd Ω) (W : WD) (ds : List D) (S1 : Store) : Prop :=
  ds.length ≤ 1000000 ∧ ∃ Pv : Nat → List D → Store → Prop, Pv 0 [] S1 ∧
    (∀ i d acc S', ds[i]? = some d → Pv i acc S' → tg.wp d (capt cap Γ) fun Γ2 => cd.wp Γ2 S' fun ok S3 => (ok = true → elt.wp Γ2 S3 fun y S4 => Pv (i + 1) (acc ++ [y]) S4) ∧ (ok = false → Pv (i + 1) acc S3)) ∧
    ∀ acc S', Pv ds.length acc S' → W (.lst acc) S'
theorem comp_by {cap : List (Option Nat)} {Γ : Gam} {elt : Ex Ω} {tg : Tg} {cd : Cd Ω} {W : WD} {ds : List D} {S1 : Store} (h : ds.length ≤ 1000000 ∧ ∃ Pv : Nat → List D → Store → Prop, Pv 0 [] S1 ∧
    (∀ i d acc S', ds[i]? = some d → Pv i acc S' → tg.wp d (capt cap Γ) fun Γ2 => cd.wp Γ2 S' fun ok S3 => (ok = true → elt.wp Γ2 S3 fun y S4 => Pv (i + 1) (acc ++ [y]) S4) ∧ (ok = false → Pv (i + 1) acc S3)) ∧
    ∀ acc S', Pv ds.length acc S' → W (.lst acc) S') : CompW cap Γ elt tg cd W ds S1 := by unfold CompW; exact h
def compChk (N' : List Str) (cap : List (Option Nat)) (elt : Ex Ω) (tg : Tg) (it : Itb Ω) (cd : Cd Ω) (top : Bool) (N : List Str) (nm : Nm) (e : Expr) : Bool := match e with
  | .ListComp x [⟨t, i, cs, 0⟩] sc _ => (sc.kind == .function) && (sc.names.all (fun y => !(y.2 == .cell)) && (freeOk nm sc.names && ((sc.names.all fun y => !(y.2 == .local) || (sc.names.lookup y.1 == some .local)) && (capOk N nm N' sc.names cap N' &&
      (okE i && ((tg.slots.all fun j => cap[j]? == some none) && (decide N'.Nodup && (it.chk top N nm t i && (tg.chk false N' sc.names t && (cd.chk false N' sc.names cs && elt.chk false N' sc.names x)))))))))) 
  | _ => false
section
variable {X : Cx} {r : Nat} {top : Bool} {N : List Str} {nm : Nm}
theorem look_cell (A : At Ω X r top N nm) {x : Str} (h : nm.lookup x = some .cell ∨ nm.lookup x = some .free) : X.env.scope.names.lookup x = some .cell ∨ X.env.scope.names.lookup x = some .free := by
  rcases h with h | h
  · rcases A.look x _ h with q | ⟨q, _⟩
    · exact .inl q
    · exact nomatch q
  · rcases A.look x _ h with q | ⟨_, q⟩
    · exact .inr q
    · exact .inl q
theorem freeOk_of (A : At Ω X r top N nm) {names : Nm} (h : freeOk nm names = true) : freeOk X.env.scope.names names = true := by
  unfold freeOk
  refine List.all_eq_true.mpr fun y hy => ?_
  by_cases e : y.2 = .free
  · have := look_cell A (freeOk_at h y hy e)
    rcases this with q | q <;> simp [q]
  · simp [e]
theorem capOk_of (A : At Ω X r top N nm) {N' : List Str} {names' : Nm} : ∀ {cap : List (Option Nat)} {t : List Str}, capOk N nm N' names' cap t = true → capOk X.N X.env.scope.names N' names' cap t = true
  | [], [], _ => rfl
  | [], _ :: _, h => by simp [capOk] at h
  | none :: _, [], h => by simp [capOk] at h
  | some _ :: _, [], h => by simp [capOk] at h
  | none :: r, _ :: t, h => by simp only [capOk] at h ⊢; exact capOk_of A h
  | some j :: r, x :: t, h => by
    simp only [capOk, Bool.and_eq_true, Bool.or_eq_true, beq_iff_eq] at h ⊢
    exact ⟨⟨⟨by rw [A.n]; exact h.1.1.1, look_cell A h.1.1.2⟩, h.1.2⟩, capOk_of A h.2⟩
theorem blk_at (A : At Ω X r top N nm) {sc : Scope} {N' : List Str} {C : Addr} {s : Shared} {H : Hp} {ex : List Addr} (hk : sc.kind = .function) (nd : N'.Nodup) : At Ω (blkCx X sc N' C s H ex) r false N' sc.names where
  p := A.p
  w := A.w
  k := A.k
  g := A.g
  b := A.b
  room := A.room
  xe := A.xe
  calm := A.calm
  n := rfl
  nd := nd
  kind := hk
  look := by
    intro x k h
    show (relabel sc X.env).names.lookup x = some k ∨ _
    rw [rk_names, map_lookup, h]
    rcases rk_cases X.env x k with q | ⟨q1, q2⟩
    · exact .inl (congrArg some q)
    · refine .inr ⟨q1, ?_⟩
      show (relabel sc X.env).names.lookup x = some .cell
      rw [rk_names, map_lookup, h]
      exact congrArg some q2
  fn := fun h => nomatch h
theorem comp_turns (A : At Ω X r top N nm) {sc : Scope} {N' : List Str} {cap : List (Option Nat)} {elt : Ex Ω} {tg : Tg} {cd : Cd Ω} {x t : Expr} {cs : List Expr} {Γ : Gam} {W : WD} {ds : List D} {S1 : Store} (le : elt.lev ≤ r) (lc : cd.lev ≤ r) (hk : sc.kind = .function) (nd : N'.Nodup) (hs : (tg.slots.all fun j => cap[j]? == some none) = true)
    (ht : tg.chk false N' sc.names t = true) (hcd : cd.chk false N' sc.names cs = true) (he : elt.chk false N' sc.names x = true) (h : CompW cap Γ elt tg cd W ds S1) : Turns X sc N' cap Γ x t cs W ds S1 := by
  unfold CompW at h
  obtain ⟨hz, Pv, p0, pt, pe⟩ := h
  refine ⟨hz, Pv, p0, fun i d acc S' hd hp C s H ex => ?_, pe⟩
  have B := blk_at A (C := C) (s := s) (H := H) (ex := ex) hk nd
  have sl : ∀ j ∈ tg.slots, (capt cap Γ)[j]? = some none := fun j hj => capt_none (by
    have := List.all_eq_true.mp hs j hj
    exact eq_of_beq this)
  have base := pt i d acc S' hd hp
  have go : ∀ Γ2, (cd.wp Γ2 S' fun ok S3 => (ok = true → elt.wp Γ2 S3 fun y S4 => Pv (i + 1) (acc ++ [y]) S4) ∧ (ok = false → Pv (i + 1) acc S3)) →
      TsA (blkCx X sc N' C s H ex) Γ2 S' cs fun ok S3 => (ok = true → Ev (blkCx X sc N' C s H ex) Γ2 S3 x fun y S4 => Pv (i + 1) (acc ++ [y]) S4) ∧ (ok = false → Pv (i + 1) acc S3) := by
    intro Γ2 q
    have := cd.sound B lc hcd q
    match cs, this with
    | [], this => exact ⟨fun hk => elt.sound B le he (this.1 hk), this.2⟩
    | [c], this => exact Ts.mono this fun ok S3 z => ⟨fun hk => elt.sound B le he (z.1 hk), z.2⟩
    | _ :: _ :: _, this => exact this.elim
  refine Tg.sound B (W := fun Γ2 S2 => Sub (capt cap Γ) Γ2 ∧ TsA (blkCx X sc N' C s H ex) Γ2 S2 cs fun ok S3 => (ok = true → Ev (blkCx X sc N' C s H ex) Γ2 S3 x fun y S4 => Pv (i + 1) (acc ++ [y]) S4) ∧ (ok = false → Pv (i + 1) acc S3)) ht ?_
  cases tg with
  | nm j => exact ⟨(Sub.refl _).set j _ (sl j (by simp [Tg.slots])), go _ base⟩
  | tup is =>
    cases d with
    | tup es => exact ⟨base.1, Sub.setAll (Sub.refl _) sl, go _ base.2⟩
    | _ => exact base.elim
end
def Ex.comp (N' : List Str) (cap : List (Option Nat)) (elt : Ex Ω) (tg : Tg) (it : Itb Ω) (cd : Cd Ω) : Ex Ω where
  lev := max elt.lev (max it.lev cd.lev)
  chk top N nm e := compChk N' cap elt tg it cd top N nm e
  wp Γ S W := it.wp Γ S fun ds S1 => CompW cap Γ elt tg cd W ds S1
  sound := by
    intro X r top N nm e Γ S W A hl hc hw
    obtain ⟨l1, l2⟩ := lv2 hl
    obtain ⟨l2, l3⟩ := lv2 l2
    unfold compChk at hc
    split at hc
    · rename_i x t i cs sc pos
      obtain ⟨h1, hc⟩ := and2 hc
      obtain ⟨h2, hc⟩ := and2 hc
      obtain ⟨h3, hc⟩ := and2 hc
      obtain ⟨h4, hc⟩ := and2 hc
      obtain ⟨h5, hc⟩ := and2 hc
      obtain ⟨h6, hc⟩ := and2 hc
      obtain ⟨h7, hc⟩ := and2 hc
      obtain ⟨h8, hc⟩ := and2 hc
      obtain ⟨h9, hc⟩ := and2 hc
      obtain ⟨h10, hc⟩ := and2 hc
      obtain ⟨h11, h12⟩ := and2 hc
      have hk : sc.kind = .function := eq_of_beq h1
      refine ev_comp N' cap (ItW.mono (it.sound A l2 h9 hw) fun ds S1 q => comp_turns A l1 l3 hk (of_decide_eq_true h8) h7 h10 h11 h12 q) A.xe A.calm hk (fun y hy e => ?_) (freeOk_of A h3) (fun y hy e => ?_) (capOk_of A h5) (fold_ok h6 _)
      · have := List.all_eq_true.mp h2 y hy
        simp [e] at this
      · have := List.all_eq_true.mp h4 y hy
        simpa [e] using this
    · exact (Bool.false_ne_true hc).elim
end RF

set_option Elab.async false
set_option linter.all false
set_option maxRecDepth 100000
set_option maxHeartbeats 4000000
namespace RF
open PySem PySem.Spec L2 DL
open PyProof.Rows
variable {Ω : Wd}
theorem swapsS_ok {e : Expr} (h : noC e = true) (t : Expr) (l : Nat) (env : Env) : swapsWithSole [t] e l env = pure false := by
  unfold swapsWithSole
  exact swaps_ok h (some t) l env
/-! statements -/
structure Sm (Ω : Wd) where
  lev : Nat
  chk : Bool → List Str → Nm → Stmt → Bool
  wp : Gam → Store → DL.Fin → Prop
  sound : ∀ {X : Cx} {r : Nat} {top : Bool} {N : List Str} {nm : Nm} {st : Stmt} {Γ : Gam} {S : Store} {W : DL.Fin}, At Ω X r top N nm → lev ≤ r → chk top N nm st = true → wp Γ S W → Rn X Γ S st W
structure Bl (Ω : Wd) where
  lev : Nat
  chk : Bool → List Str → Nm → List Stmt → Bool
  wp : Gam → Store → DL.Fin → Prop
  sound : ∀ {X : Cx} {r : Nat} {top : Bool} {N : List Str} {nm : Nm} {sts : List Stmt} {Γ : Gam} {S : Store} {W : DL.Fin}, At Ω X r top N nm → lev ≤ r → chk top N nm sts = true → wp Γ S W → Rns X Γ S sts W
def Bl.nil : Bl Ω where
  lev := 0
  chk _ _ _ sts := match sts with | [] => true | _ => false
  wp Γ S W := W.nx Γ S
  sound := by
    intro X r top N nm sts Γ S W A hl hc hw
    match sts, hc with
    | [], _ => exact rs_nil hw
    | _ :: _, hc => exact (Bool.false_ne_true hc).elim
def Bl.cons (s : Sm Ω) (b : Bl Ω) : Bl Ω where
  lev := max s.lev b.lev
  chk top N nm sts := match sts with | st :: sts => s.chk top N nm st && b.chk top N nm sts | _ => false
  wp Γ S W := s.wp Γ S { W with nx := fun Γ1 S1 => b.wp Γ1 S1 W }
  sound := by
    intro X r top N nm sts Γ S W A hl hc hw
    obtain ⟨l1, l2⟩ := lv2 hl
    match sts, hc with
    | st :: sts, hc =>
      obtain ⟨h1, h2⟩ := and2 hc
      exact rs_cons (Rn.mono (s.sound A l1 h1 hw) (fun G S1 q => b.sound A l2 h2 q) (fun _ _ q => q) (fun _ _ q => q) fun _ _ q => q)
    | [], hc => exact (Bool.false_ne_true hc).elim
def Sm.ret (a : Ex Ω) : Sm Ω where
  lev := a.lev
  chk top N nm st := match st with | .Return (some e) _ => a.chk top N nm e | _ => false
  wp Γ S W := a.wp Γ S W.rt
  sound := by
    intro X r top N nm st Γ S W A hl hc hw
    cases st with
    | Return o pos =>
      cases o with
      | some e => exact r_ret (a.sound A hl hc hw)
      | none => exact (Bool.false_ne_true hc).elim
    | _ => exact (Bool.false_ne_true hc).elim
def Sm.expr (a : Ex Ω) : Sm Ω where
  lev := a.lev
  chk top N nm st := match st with | .Expr e _ => noC e && a.chk top N nm e | _ => false
  wp Γ S W := a.wp Γ S fun _ S1 => W.nx Γ S1
  sound := by
    intro X r top N nm st Γ S W A hl hc hw
    cases st with
    | Expr e pos =>
      obtain ⟨h1, h2⟩ := and2 hc
      exact r_expr (a.sound A hl h2 hw) (swaps_ok h1 _ _ _)
    | _ => exact (Bool.false_ne_true hc).elim
def Sm.pass : Sm Ω where
  lev := 0
  chk _ _ _ st := match st with | .Pass _ => true | _ => false
  wp Γ S W := W.nx Γ S
  sound := by
    intro X r top N nm st Γ S W A hl hc hw
    cases st with
    | Pass pos => exact r_pass hw
    | _ => exact (Bool.false_ne_true hc).elim
def Sm.ite (c : Te Ω) (a b : Bl Ω) : Sm Ω where
  lev := max c.lev (max a.lev b.lev)
  chk top N nm st := match st with | .If t xs ys _ => c.chk top N nm t && (a.chk top N nm xs && b.chk top N nm ys) | _ => false
  wp Γ S W := c.wp Γ S fun k S1 => (k = true → a.wp Γ S1 W) ∧ (k = false → b.wp Γ S1 W)
  sound := by
    intro X r top N nm st Γ S W A hl hc hw
    obtain ⟨l1, l2⟩ := lv2 hl
    obtain ⟨l2, l3⟩ := lv2 l2
    cases st with
    | If t xs ys pos =>
      obtain ⟨h1, h2⟩ := and2 hc
      obtain ⟨h2, h3⟩ := and2 h2
      exact r_if (Ts.mono (c.sound A l1 h1 hw) fun k S1 q => ⟨fun hk => a.sound A l2 h2 (q.1 hk), fun hk => b.sound A l3 h3 (q.2 hk)⟩)
    | _ => exact (Bool.false_ne_true hc).elim
/-- x = e -/
def Sm.set (i : Nat) (a : Ex Ω) : Sm Ω where
  lev := a.lev
  chk top N nm st := match st with | .Assign [.Name x _] e _ => (N[i]? == some x) && (lcl top nm x && (noC e && a.chk top N nm e)) | _ => false
  wp Γ S W := a.wp Γ S fun d S1 => W.nx (Γ.set i (some d)) S1
  sound := by
    intro X r top N nm st Γ S W A hl hc hw
    split at hc
    · obtain ⟨h1, h2⟩ := and2 hc
      obtain ⟨h2, h3⟩ := and2 h2
      obtain ⟨h3, h4⟩ := and2 h3
      obtain ⟨l1, l2⟩ := A.lcl h2
      exact r_set i (a.sound A hl h4 hw) (by rw [A.n]; exact A.nd) (by rw [A.n]; exact eq_of_beq h1) l1 (swaps_ok h3 _ _ _) l2
    · exact (Bool.false_ne_true hc).elim
/-- x = [.. for ..] -/
def Sm.setC (i : Nat) (N' : List Str) (cap : List (Option Nat)) (elt : Ex Ω) (tg : Tg) (it : Itb Ω) (cd : Cd Ω) : Sm Ω where
  lev := max elt.lev (max it.lev cd.lev)
  chk top N nm st := match st with | .Assign [.Name x p] e _ => (N[i]? == some x) && (lcl top nm x && (top && (compChk N' cap elt tg it cd top N nm e))) | _ => false
  wp Γ S W := it.wp Γ S fun ds S1 => CompW cap Γ elt tg cd (fun d S2 => W.nx (Γ.set i (some d)) S2) ds S1
  sound := by
    intro X r top N nm st Γ S W A hl hc hw
    split at hc
    · rename_i x p e spos
      obtain ⟨k1, q1⟩ := and2 hc
      obtain ⟨k2, q2⟩ := and2 q1
      obtain ⟨k0, hcomp⟩ := and2 q2
      obtain ⟨l1, l2⟩ := A.lcl k2
      have hN : X.N[i]? = some x := by rw [A.n]; exact eq_of_beq k1
      have nd : X.N.Nodup := by rw [A.n]; exact A.nd
      have hc2 := hcomp
      obtain ⟨le, l3⟩ := lv2 hl
      obtain ⟨li, lc⟩ := lv2 l3
      unfold compChk at hc2
      split at hc2
      · rename_i x' t i' cs sc pos
        obtain ⟨h1, hc⟩ := and2 hc2
        obtain ⟨h2, hc⟩ := and2 hc
        obtain ⟨h3, hc⟩ := and2 hc
        obtain ⟨h4, hc⟩ := and2 hc
        obtain ⟨h5, hc⟩ := and2 hc
        obtain ⟨h6, hc⟩ := and2 hc
        obtain ⟨h7, hc⟩ := and2 hc
        obtain ⟨h8, hc⟩ := and2 hc
        obtain ⟨h9, hc⟩ := and2 hc
        obtain ⟨h10, hc⟩ := and2 hc
        obtain ⟨h11, h12⟩ := and2 hc
        have hk : sc.kind = .function := eq_of_beq h1
        by_cases hb : (X.env.blockKind == .function && X.env.kindOf x == some .local && p.line == (Expr.ListComp x' [⟨t, i', cs, 0⟩] sc pos).pos.line && !(sc.names.any fun (n, k) => n == x && (k == .local || k == .cell))) = true
        · refine r_setComp i N' cap (ItW.mono (it.sound A li h9 hw) fun ds S1 q => comp_turns A le lc hk (of_decide_eq_true h8) h7 h10 h11 h12 q) nd hN l1 ?_ l2 A.xe A.calm hk (fun y hy e => ?_) (freeOk_of A h3) (fun y hy e => ?_) (capOk_of A h5) (fold_ok h6 _)
          · show (pure (X.env.blockKind == .function && X.env.kindOf x == some .local && p.line == (Expr.ListComp x' [⟨t, i', cs, 0⟩] sc pos).pos.line && !(sc.names.any fun (n, k) => n == x && (k == .local || k == .cell))) : Sem Bool) = pure true
            rw [hb]
          · have := List.all_eq_true.mp h2 y hy
            simp [e] at this
          · have := List.all_eq_true.mp h4 y hy
            simpa [e] using this
        · have hb : _ = false := Bool.eq_false_iff.mpr hb
          refine r_set i ((Ex.comp N' cap elt tg it cd).sound A hl hcomp hw) nd hN l1 ?_ l2
          show (pure (X.env.blockKind == .function && X.env.kindOf x == some .local && p.line == (Expr.ListComp x' [⟨t, i', cs, 0⟩] sc pos).pos.line && !(sc.names.any fun (n, k) => n == x && (k == .local || k == .cell))) : Sem Bool) = pure false
          rw [hb]
      · exact (Bool.false_ne_true hc2).elim
    · exact (Bool.false_ne_true hc).elim
/-- o[i] = e of an owned list -/
def Sm.setIx (o i a : Ex Ω) : Sm Ω where
  lev := max a.lev (max o.lev i.lev)
  chk top N nm st := match st with | .Assign [.Subscript x y _] e _ => noC e && (okE y && (a.chk top N nm e && (o.chk top N nm x && i.chk top N nm y))) | _ => false
  wp Γ S W := a.wp Γ S fun d S1 => o.wp Γ S1 fun x S2 => i.wp Γ S2 fun y S3 => match x, y with | .loc k, .int n => ∃ ds j, S3[k]? = some ds ∧ ixN ds.length n = some j ∧ W.nx Γ (S3.set k (ds.set j d)) | _, _ => False
  sound := by
    intro X r top N nm st Γ S W A hl hc hw
    obtain ⟨l1, l2⟩ := lv2 hl
    obtain ⟨l2, l3⟩ := lv2 l2
    split at hc
    · rename_i x y p e spos
      obtain ⟨h1, hc⟩ := and2 hc
      obtain ⟨h2, hc⟩ := and2 hc
      obtain ⟨h3, hc⟩ := and2 hc
      obtain ⟨h4, h5⟩ := and2 hc
      refine r_setIx ((a.sound A l1 h3 hw).mono fun d S1 q => (o.sound A l2 h4 q).mono fun x S2 q => (i.sound A l3 h5 q).mono fun y S3 q => ?_) ?_ (swapsS_ok h1 _ _ _) ?_ rfl
      · cases x <;> first | exact q.elim | (cases y <;> first | exact q.elim | (obtain ⟨ds, j, a, b, c⟩ := q; exact ⟨_, _, ds, j, rfl, rfl, a, b, c⟩))
      · intro v
        cases y <;> first | rfl | exact (Bool.false_ne_true h2).elim
      · rfl
    · exact (Bool.false_ne_true hc).elim
/-- t1, t2 = e -/
theorem r_unpack {X : Cx} {Γ : Gam} {S : Store} {tg e : Expr} {pos : Pos} {W : DL.Fin} (h : Ev X Γ S e fun d S1 => BdW X tg d Γ S1 W.nx) (hs : swapsWithSole [tg] e pos.line X.env = pure false) (hw : swappedStores [tg] e X.env = pure none) (h1 : (assignEach [tg] X.env).map (·.2) = [assign tg X.env]) : Rn X Γ S (.Assign [tg] e pos) W := by
  intro pins s σ H O I env ok
  refine wpAny_Assign_stores (thn (h pins s σ H O I env ok) fun u s1 ⟨v, H1, I1, r1, O1, d, S1, w1, st1, ok1, rep1⟩ => ?_) hs hw
  rw [h1]
  show wpAny _ _ (assign tg X.env u) _ _ _
  refine thn (w1 pins s1 σ H1 O1 v u I1 (env.mono st1) ok1 rep1 r1) fun _ s2 ⟨σ', H', I', q⟩ => ⟨σ', H', I', QN.pre st1 q⟩
def noTup : Expr → Bool
  | .Tuple .. => false
  | e => noC e
def Sm.unpack (t : List Nat) (a : Ex Ω) : Sm Ω where
  lev := a.lev
  chk top N nm st := match st with | .Assign [.Tuple es k p] e _ => noTup e && ((Tg.tup t).chk top N nm (.Tuple es k p) && a.chk top N nm e) | _ => false
  wp Γ S W := a.wp Γ S fun d S1 => (Tg.tup t).wp d Γ fun Γ1 => W.nx Γ1 S1
  sound := by
    intro X r top N nm st Γ S W A hl hc hw
    split at hc
    · rename_i es k p e spos
      obtain ⟨h1, hc⟩ := and2 hc
      obtain ⟨h2, h3⟩ := and2 hc
      have hnc : noC e = true := by cases e <;> first | rfl | exact (Bool.false_ne_true h1).elim
      refine r_unpack ((a.sound A hl h3 hw).mono fun d S1 q => Tg.sound A (W := W.nx) h2 q) (swapsS_ok hnc _ _ _) ?_ rfl
      cases e <;> first | rfl | exact (Bool.false_ne_true h1).elim
    · exact (Bool.false_ne_true hc).elim
/-- for -/
@[irreducible] def ForW (Γ : Gam) (tg : Tg) (body : Bl Ω) (W : DL.Fin) (ds : List D) (S1 : Store) : Prop :=
  ∃ Pv : Nat → Gam → Store → Prop, Pv 0 Γ S1 ∧ (∀ i d Γ' S', ds[i]? = some d → Pv i Γ' S' → tg.wp d Γ' fun Γ2 => body.wp Γ2 S' { W with nx := Pv (i + 1), ct := Pv (i + 1), bk := W.nx }) ∧ (∀ Γ' S', Pv ds.length Γ' S' → W.nx Γ' S')
theorem for_by {Γ : Gam} {tg : Tg} {body : Bl Ω} {W : DL.Fin} {ds : List D} {S1 : Store} (h : ∃ Pv : Nat → Gam → Store → Prop, Pv 0 Γ S1 ∧ (∀ i d Γ' S', ds[i]? = some d → Pv i Γ' S' → tg.wp d Γ' fun Γ2 => body.wp Γ2 S' { W with nx := Pv (i + 1), ct := Pv (i + 1), bk := W.nx }) ∧ (∀ Γ' S', Pv ds.length Γ' S' → W.nx Γ' S')) : ForW Γ tg body W ds S1 := by unfold ForW; exact h
def Sm.for (tg : Tg) (it : Itb Ω) (body : Bl Ω) : Sm Ω where
  lev := max it.lev body.lev
  chk top N nm st := match st with | .For t i b [] _ => okE i && (tg.chk top N nm t && (it.chk top N nm t i && body.chk top N nm b)) | _ => false
  wp Γ S W := it.wp Γ S fun ds S1 => ForW Γ tg body W ds S1
  sound := by
    intro X r top N nm st Γ S W A hl hc hw
    obtain ⟨l1, l2⟩ := lv2 hl
    split at hc
    · rename_i t i b pos
      obtain ⟨h1, hc⟩ := and2 hc
      obtain ⟨h2, hc⟩ := and2 hc
      obtain ⟨h3, h4⟩ := and2 hc
      refine r_for (ItW.mono (it.sound A l1 h3 hw) fun ds S1 q => ?_) (by rw [A.xe]; exact PassesOwn.never) A.calm (fold_ok h1 _)
      unfold ForW at q
      obtain ⟨Pv, p0, pt, pe⟩ := q
      refine ⟨Pv, p0, fun i d Γ' S' hd hp => BdW.mono (Tg.sound A (W := fun Γ2 S2 => body.wp Γ2 S2 { W with nx := Pv (i + 1), ct := Pv (i + 1), bk := W.nx }) h2 (pt i d Γ' S' hd hp)) fun Γ2 S2 q => body.sound A l2 h4 q, pe⟩
    · exact (Bool.false_ne_true hc).elim

/-! a def -/
def chkFn (N ps : List Str) (sm : Stmt) (k : Nat) (body : Bl Ω) : Bool :=
  ((defScope sm).kind == .function) && (!(defScope sm).isCoroutine && (!(defScope sm).isGenerator && (decide N.Nodup && (decide (N.take ps.length = ps) && ((ps.all fun x => (defScope sm).names.lookup x == some .local || (defScope sm).names.lookup x == some .cell) &&
    (((defScope sm).names.all fun y => !(y.2 == .free)) && (Nat.ble body.lev k && body.chk true N (defScope sm).names (defBody sm))))))))
theorem fn_rf {x qual : Str} {sm : Stmt} {f : Addr} {fd : FuncData} {N ps : List Str} {k : Nat} {F : Ct} (FF : Fun Ω.K x qual sm f fd) (body : Bl Ω) (hc : chkFn N ps sm k body = true)
    (vc : ∀ (ds : List D) (S : Store) (W : WD), F ds S W → ds.length = ps.length → body.wp (ds.map some ++ List.replicate (N.length - ds.length) none) S { nx := fun _ S1 => W .non S1, rt := W }) : FnOk Ω.P Ω.w Ω.K Ω.mg Ω.base CX0 (k + 1) f fd ps (spC Ω.K ps.length F) := by
  obtain ⟨h1, hc⟩ := and2 hc
  obtain ⟨h2, hc⟩ := and2 hc
  obtain ⟨h3, hc⟩ := and2 hc
  obtain ⟨h4, hc⟩ := and2 hc
  obtain ⟨h5, hc⟩ := and2 hc
  obtain ⟨h6, hc⟩ := and2 hc
  obtain ⟨h7, hc⟩ := and2 hc
  obtain ⟨h8, h9⟩ := and2 hc
  have nd : N.Nodup := of_decide_eq_true h4
  have sc : FnScope N ps (defScope sm) := ⟨eq_of_beq h1, nt h2, nt h3, nd, of_decide_eq_true h5, fun x hx => by
    have := List.all_eq_true.mp h6 x hx
    simpa using this, fun y hy e => by
    have := List.all_eq_true.mp h7 y hy
    simp [e] at this⟩
  refine fn_ok FF sc fun cdv A outer s H E ds S W hr hl h => ?_
  refine body.sound (r := k) (top := true) (N := N) (nm := (defScope sm).names) ⟨rfl, rfl, rfl, rfl, rfl, hr, rfl, rfl, rfl, nd, sc.kind, fun x kk h => .inl h, fun _ _ => rfl⟩ (Nat.le_of_ble_eq_true h8) h9 (vc ds S W h hl)
/-- a def known by its promise -/
theorem callee {x qual : Str} {sm : Stmt} {f : Addr} {fd : FuncData} {ps : List Str} {k n : Nat} {F : Ct} (FF : Fun Ω.K x qual sm f fd) (h : FnOk Ω.P Ω.w Ω.K Ω.mg Ω.base CX0 k f fd ps (spC Ω.K n F)) (hm : Ω.mg x = some (.ref f)) (b : Binds Ω.K fd ps []) : Callee Ω.P Ω.w Ω.K Ω.mg Ω.base x k n F := ⟨f, fd, ps, h, hm, FF.kp, b⟩
end RF

set_option Elab.async false
set_option linter.all false
set_option maxRecDepth 100000
set_option maxHeartbeats 4000000
namespace RF
open PySem PySem.Spec L2 DL
open PyProof.Rows
/-! built-ins -/
def bLen : Bf where
  x := "len"
  id := "len"
  boot := by decide +kernel
  wp ds S W := match ds with
    | [.tup ds] => W (.int ds.length) S
    | [.lst ds] => W (.int ds.length) S
    | [.loc k] => ∃ ds, S[k]? = some ds ∧ W (.int ds.length) S
    | _ => False
  sound := by
    intro X ds S W hc hr h
    split at h
    · exact k_lenT h
    · exact k_lenL h
    · obtain ⟨ds, h1, h2⟩ := h; exact k_lenO h1 h2
    · exact h.elim
def bAll : Bf where
  x := "all"
  id := "all"
  boot := by decide +kernel
  wp ds S W := match ds with
    | [.lst ds] => ∃ bs : List Bool, ds = bs.map .bl ∧ W (.bl (bs.all id)) S
    | _ => False
  sound := by
    intro X ds S W hc hr h
    split at h
    · obtain ⟨bs, rfl, h⟩ := h; exact k_all h hc
    · exact h.elim
def bSum : Bf where
  x := "sum"
  id := "sum"
  boot := by decide +kernel
  wp ds S W := match ds with
    | [.lst ds] => ∃ ns : List Int, ds = ns.map .int ∧ W (.int ns.sum) S
    | _ => False
  sound := by
    intro X ds S W hc hr h
    split at h
    · obtain ⟨bs, rfl, h⟩ := h; exact k_sum h hc
    · exact h.elim
def bAbs : Bf where
  x := "abs"
  id := "abs"
  boot := by decide +kernel
  wp ds S W := match ds with
    | [.int i] => W (.int (if i < 0 then -i else i)) S
    | _ => False
  sound := by
    intro X ds S W hc hr h
    split at h
    · refine calW_of call_abs fun O H vs st r => ?_
      obtain ⟨v, rfl, r'⟩ := reps1 r
      cases r'
      exact ⟨_, rfl, QG.here h st (.int _)⟩
    · exact h.elim
theorem reps2 {K : PySem.W.Frag} {O : Own} {H : Hp} {vs : List V} {d e : D} (r : Reps K O H vs [d, e]) : ∃ v w, vs = [v, w] ∧ Rep K O H v d ∧ Rep K O H w e := by
  cases r with
  | cons a t =>
    cases t with
    | cons b t => cases t; exact ⟨_, _, rfl, a, b⟩
def bMin : Bf where
  x := "min"
  id := "min"
  boot := by decide +kernel
  wp ds S W := match ds with
    | [.int i, .int j] => W (.int (if j < i then j else i)) S
    | _ => False
  sound := by
    intro X ds S W hc hr h
    split at h
    · refine calW_of (call_min2 hc) fun O H vs st r => ?_
      obtain ⟨v, w, rfl, r1, r2⟩ := reps2 r
      cases r1
      cases r2
      exact ⟨_, _, rfl, QG.here h st (.int _)⟩
    · exact h.elim
def bMax : Bf where
  x := "max"
  id := "max"
  boot := by decide +kernel
  wp ds S W := match ds with
    | [.int i, .int j] => W (.int (if j > i then j else i)) S
    | _ => False
  sound := by
    intro X ds S W hc hr h
    split at h
    · refine calW_of (call_max2 hc) fun O H vs st r => ?_
      obtain ⟨v, w, rfl, r1, r2⟩ := reps2 r
      cases r1
      cases r2
      exact ⟨_, _, rfl, QG.here h st (.int _)⟩
    · exact h.elim
def tTuple : Bc where
  x := "tuple"
  id := "tuple"
  boot := by decide +kernel
  wp ds S W := match ds with
    | [.lst ds] => W (.tup ds) S
    | [.loc k] => ∃ ds, S[k]? = some ds ∧ W (.tup ds) S
    | _ => False
  sound := by
    intro X ds S W hc hr h
    split at h
    · exact k_tupL h
    · obtain ⟨ds, h1, h2⟩ := h; exact k_tupO h1 h2
    · exact h.elim
def tList : Bc where
  x := "list"
  id := "list"
  boot := by decide +kernel
  wp ds S W := match ds with
    | [.tup ds] => W (.lst ds) S
    | [.lst ds] => W (.lst ds) S
    | _ => False
  sound := by
    intro X ds S W hc hr h
    split at h
    · exact k_lstT h
    · exact k_lstL h
    · exact h.elim
def tInt : Bc where
  x := "int"
  id := "int"
  boot := by decide +kernel
  wp ds S W := match ds with
    | [.int i] => W (.int i) S
    | [.bl k] => W (.int (if k then 1 else 0)) S
    | _ => False
  sound := by
    intro X ds S W hc hr h
    split at h
    · refine calW_of call_int1 fun O H vs st r => ?_
      obtain ⟨v, rfl, r'⟩ := reps1 r
      cases r'
      exact .inl ⟨_, rfl, QG.here h st (.int _)⟩
    · refine calW_of call_int1 fun O H vs st r => ?_
      obtain ⟨v, rfl, r'⟩ := reps1 r
      cases r'
      exact .inr ⟨_, rfl, QG.here h st (.int _)⟩
    · exact h.elim
/-! enumerate, zip -/
section
variable {X : Cx} {Γ : Gam} {S : Store} {e : Expr} {pos : Pos}
theorem it_enum {elts : List Expr} {k : Nat} {tp p : Pos} {W : List D → Store → Prop} (h : Ev X Γ S e fun d S1 => match d with | .lst ds => W (ds.mapIdx fun i d => .tup [.int i, d]) S1 | .tup ds => W (ds.mapIdx fun i d => .tup [.int i, d]) S1 | _ => False) (hm : X.mg "enumerate" = none) (hg : Gl X "enumerate") (hs : starEach [e] X.env = [(false, eval e X.env)]) :
    ItW X Γ S (.Tuple elts k tp) (.Call (.Name "enumerate" p) [e] [] pos) W := by
  intro pins s σ H O I env st
  refine Call_ (ld_blt I hg hm boot_enumerate (PyProof.Rows.callWith_type1 (thn (pa_cons h.pe pa_nil hs pos pins s σ H (fun vs H' => ∃ v, vs = [v] ∧ QG X.K O H (fun d S1 => match d with | .lst ds => W (ds.mapIdx fun i d => .tup [.int i, d]) S1 | .tup ds => W (ds.mapIdx fun i d => .tup [.int i, d]) S1 | _ => False) v H') I ⟨O, env, st, fun v H' q => ⟨v, rfl, q⟩⟩) fun us s1 ⟨vs, H1, I1, r1, v, ev, O1, d, S1, w, st1, ok1, rep⟩ => ?_) hs rfl))
  subst ev
  obtain ⟨u, rfl, ru⟩ := vals1 r1
  cases rep with
  | @lst a xs ds h1 q1 =>
    cases ru
    obtain ⟨its, rv, pl, hz⟩ := I1.list h1.sq
    refine call_enumerate_list pl.isList fun h' he hi _ kp => enum_it (kList X.prog X.w X.K) I1 he hi kp ⟨O1, _, S1, w, st1, ok1, yields_enum _ fun O' H' cv => ⟨xs, (h1.conv cv).sq, q1.conv cv⟩⟩
  | @tup a xs ds h1 q1 =>
    cases ru
    obtain ⟨its, rv, pl, hz⟩ := I1.tuple h1.sq
    obtain ⟨⟨c, dct, dt, sl⟩, hl, hc, n, hd⟩ := pl
    replace hc : c = .type "tuple" := hc
    replace hd : dt = .seq its.toArray n := hd
    subst hc hd
    refine callType_new F.called_enumerate (by decide) (F.typeCall_enumerate_1 _) (F.newCall_enumerate_1 _) (fun obj => F.args_object_init_2 obj _) F.entry_enumerate_new (enum_newT a its.toArray n dct sl) ⟨hl, ?_⟩
    have hz : (s1.heap.push { cls := .type "tuple_iterator", data := .fields #[.ref a, .int 0 0] }).objs.size = s1.heap.objs.size + 1 := Heap.size_push ..
    show _ ∧ _
    rw [hz]
    have he : IsEnum ((s1.heap.push { cls := .type "tuple_iterator", data := .fields #[.ref a, .int 0 0] }).push { cls := .type "enumerate", data := .fields #[.none, .bool false, .ref s1.heap.objs.size, rawInt 0, .none, .none] }) (s1.heap.objs.size + 1) s1.heap.objs.size 0 .none := by
      have := Heap.get?_push_size (s1.heap.push { cls := .type "tuple_iterator", data := .fields #[.ref a, .int 0 0] }) (o := { cls := .type "enumerate", data := .fields #[.none, .bool false, .ref s1.heap.objs.size, rawInt 0, .none, .none] }) rfl
      rw [hz] at this
      exact this
    have hi : Heap.IsTupleIter ((s1.heap.push { cls := .type "tuple_iterator", data := .fields #[.ref a, .int 0 0] }).push { cls := .type "enumerate", data := .fields #[.none, .bool false, .ref s1.heap.objs.size, rawInt 0, .none, .none] }) s1.heap.objs.size a 0 :=
      ⟨_, Heap.get?_push_of_some _ (Heap.get?_push_size _ rfl), rfl, rfl⟩
    exact ⟨⟨_, he, rfl⟩, enum_it (kTup X.prog X.w X.K) I1 he hi (fun b o e => Heap.get?_push_of_some _ (Heap.get?_push_of_some _ e)) ⟨O1, _, S1, w, st1, ok1, yields_enum _ fun O' H' cv => ⟨xs, (h1.conv cv).sq, q1.conv cv⟩⟩⟩
  | _ => exact w.elim
end
variable {Ω : Wd}
def Itb.enm (hm : Ω.mg "enumerate" = none) (a : Ex Ω) : Itb Ω where
  lev := a.lev
  chk top N nm tg e := match tg, e with | .Tuple .., .Call (.Name y _) [b] [] _ => (y == ("enumerate" : Str)) && (glb nm "enumerate" && (okE b && a.chk top N nm b)) | _, _ => false
  wp Γ S W := a.wp Γ S fun d S1 => match d with | .lst ds => W (ds.mapIdx fun i d => .tup [.int i, d]) S1 | .tup ds => W (ds.mapIdx fun i d => .tup [.int i, d]) S1 | _ => False
  sound := by
    intro X r top N nm tg e Γ S W A hl hc hw
    split at hc
    · obtain ⟨h1, h2⟩ := and2 hc
      obtain ⟨h2, h3⟩ := and2 h2
      obtain ⟨h3, h4⟩ := and2 h3
      have e := eq_of_beq h1
      subst e
      exact it_enum (a.sound A hl h4 hw) (by rw [A.g]; exact hm) (A.glb h2) (star_ok h3 [] _)
    · exact (Bool.false_ne_true hc).elim
def Itb.zip (hm : Ω.mg "zip" = none) (a b : Ex Ω) : Itb Ω where
  lev := max a.lev b.lev
  chk top N nm tg e := match tg, e with | .Tuple .., .Call (.Name y _) [l, r] [] _ => (y == ("zip" : Str)) && (glb nm "zip" && ((okE l && okE r) && (a.chk top N nm l && b.chk top N nm r))) | _, _ => false
  wp Γ S W := a.wp Γ S fun d S1 => b.wp Γ S1 fun d' S2 => match d, d' with | .tup ds, .tup es => W (List.zipWith (fun x y => .tup [x, y]) ds es) S2 | _, _ => False
  sound := by
    intro X r top N nm tg e Γ S W A hl hc hw
    obtain ⟨l1, l2⟩ := lv2 hl
    split at hc
    · obtain ⟨h1, h2⟩ := and2 hc
      obtain ⟨h2, h3⟩ := and2 h2
      obtain ⟨h3, h4⟩ := and2 h3
      obtain ⟨h5, h6⟩ := and2 h3
      obtain ⟨h7, h8⟩ := and2 h4
      have e := eq_of_beq h1
      subst e
      refine it_zipTT ((a.sound A l1 h7 hw).mono fun d S1 q => (b.sound A l2 h8 q).mono fun d' S2 q => ?_) (by rw [A.g]; exact hm) (A.glb h2) (star_ok h5 _ _) (star_ok h6 [] _)
      cases d <;> first | exact q.elim | (cases d' <;> first | exact ⟨_, _, rfl, rfl, q⟩ | exact q.elim)
    · exact (Bool.false_ne_true hc).elim
end RF
namespace RF
theorem ff {P : Prop} (h : false = true) : P := (Bool.false_ne_true h).elim
theorem tf {P : Prop} (h : true = false) : P := (Bool.false_ne_true h.symm).elim
end RF

set_option Elab.async false
set_option linter.all false
set_option maxRecDepth 100000
set_option maxHeartbeats 4000000
namespace RF
open PySem PySem.Spec L2 DL
open PyProof.Rows
abbrev Cal (Ω : Wd) (x : Str) (k n : Nat) (F : Ct) : Prop := Callee Ω.P Ω.w Ω.K Ω.mg Ω.base x k n F
abbrev Ok (Ω : Wd) (k : Nat) (f : Addr) (fd : FuncData) (ps : List Str) (F : Ct) : Prop := FnOk Ω.P Ω.w Ω.K Ω.mg Ω.base CX0 k f fd ps (spC Ω.K ps.length F)
/-- what a law promises -/
def c_law : Ct := fun ds S W => ∃ ns, ds = [.lst (List.map .int ns)] ∧ ns.length ≤ 63 ∧ (∀ S', W (.bl true) S') ∧ S = []
theorem law_sp {K : PySem.W.Frag} {H : Hp} {a : Addr} {ns : List Int} {E : XK} (hl : ns.length ≤ 63) (hS : SqL K H a (ns.map V.int)) : spC K 1 c_law [.ref a] H (fun v _ => v = .bl true) E := by
  refine ⟨⟨[], []⟩, [.lst (ns.map .int)], [], fun d _ => d = .bl true, rfl, .cons (.lst (xs := ns.map V.int) ?_ (Reps.of_ints ns)) .nil, ?_, ⟨ns, rfl, hl, fun _ => rfl, rfl⟩, fun v H' q => ?_⟩
  · rcases hS with h | h
    · exact .inl ⟨fun z => by rcases z with z | z <;> exact absurd (show a ∈ ([] : List Addr) from z) (by simp), h⟩
    · exact .inr (.inr h)
  · exact ⟨List.nodup_nil, rfl, fun k a ds e => by simp at e, fun a h => absurd (show a ∈ ([] : List Addr) from h) (by simp), fun a h => absurd (show a ∈ ([] : List Addr) from h) (by simp)⟩
  · obtain ⟨O', d, S', w, _, _, r⟩ := q
    subst w
    cases r
    rfl
theorem walk {lev : Nat} {x : Str} {l : PySem.W.OpenLaw} {q : Program} {loose : List Str} {XP : (Str → Option Value) → Heap → Prop} {YP : World → Heap → Prop} {d : DefRec} {K : Params → PySem.W.Frag} (hn : l.most = some 63) (hdf : d.params.defaults = []) (hr : Room lev callerA)
    (hY : ∀ (w : World) (h : Heap), YP w h → (K w.params).In h)
    (F : ∀ (w : World) (mg : Str → Option Value) (fa : Addr) (h : Heap), (K w.params).In h → h.Ns mainGlobals mg → mg d.name = some (.ref fa) →
      ∃ fd : FuncData, (∀ (s : Shared) (u : Value), BindsTo s fd ⟨[u], []⟩ [(x, u)]) ∧ ∀ base : Heap, (K w.params).In base → base.Ns mainGlobals mg → FnOk l.prog w (K w.params) mg base CX0 lev fa fd [x] (spC (K w.params) 1 c_law)) :
    PySem.W.WalkO q loose XP YP l.row.toRowW d [] (fun f vs => PySem.call f vs) :=
  L2.walk_of (n := 63) (k := lev) (x := x) (CX := fun _ => CX0) (sp := fun w => spC (K w.params) 1 c_law) hn (by decide) hdf hr hY F (fun _ _ a ns hl _ hS => law_sp hl hS) fun _ _ _ _ _ z => z
theorem Tg.mono {t : Tg} {d : D} {Γ : Gam} {W W' : Gam → Prop} (h : t.wp d Γ W) (k : ∀ G, W G → W' G) : t.wp d Γ W' := by
  cases t with
  | nm i => exact k _ h
  | tup is =>
    cases d with
    | tup ds => exact ⟨h.1, k _ h.2⟩
    | _ => exact h.elim
section
variable {Ω : Wd} {cap : List (Option Nat)} {Γ : Gam} {elt : Ex Ω} {tg : Tg} {cd : Cd Ω} {W : WD} {ds : List D} {S1 : Store}
/-- a comprehension that maps -/
theorem cm_map (f : D → D) (hz : ds.length ≤ 1000000) (h : ∀ (i : Nat) (d : D), ds[i]? = some d → ∀ Q : WD, Q (f d) S1 → tg.wp d (capt cap Γ) fun Γ2 => elt.wp Γ2 S1 Q) (w : W (.lst (ds.map f)) S1) : CompW cap Γ elt tg (Cd.no (Ω := Ω)) W ds S1 := by
  refine comp_by ⟨hz, fun i acc S' => acc = (ds.take i).map f ∧ S' = S1, ⟨rfl, rfl⟩, ?_, ?_⟩
  · rintro i d acc S' hd ⟨rfl, rfl⟩
    refine Tg.mono (h i d hd (fun y S4 => (ds.take i).map f ++ [y] = (ds.take (i + 1)).map f ∧ S4 = S') ⟨?_, rfl⟩) fun G q => ⟨fun _ => q, fun z => tf z⟩
    rw [take_one hd, List.map_append]; rfl
  · rintro acc S' ⟨rfl, rfl⟩
    rw [List.take_length]; exact w
/-- one that maps what passes a test -/
theorem cm_fm (p : D → Bool) (f : D → D) (hz : ds.length ≤ 1000000) (h : ∀ (i : Nat) (d : D), ds[i]? = some d → ∀ (Q : WD) (Q' : Store → Prop), (p d = true → Q (f d) S1) → (p d = false → Q' S1) → tg.wp d (capt cap Γ) fun Γ2 => cd.wp Γ2 S1 fun ok S3 => (ok = true → elt.wp Γ2 S3 Q) ∧ (ok = false → Q' S3))
    (w : W (.lst ((ds.filter p).map f)) S1) : CompW cap Γ elt tg cd W ds S1 := by
  refine comp_by ⟨hz, fun i acc S' => acc = ((ds.take i).filter p).map f ∧ S' = S1, ⟨rfl, rfl⟩, ?_, ?_⟩
  · rintro i d acc S' hd ⟨rfl, rfl⟩
    refine h i d hd (fun y S4 => ((ds.take i).filter p).map f ++ [y] = ((ds.take (i + 1)).filter p).map f ∧ S4 = S') (fun S4 => ((ds.take i).filter p).map f = ((ds.take (i + 1)).filter p).map f ∧ S4 = S') (fun hp => ⟨?_, rfl⟩) (fun hp => ⟨?_, rfl⟩)
    · rw [take_one hd, List.filter_append]; simp [hp]
    · rw [take_one hd, List.filter_append]; simp [hp]
  · rintro acc S' ⟨rfl, rfl⟩
    rw [List.take_length]; exact w
/-- one that draws: its parts keep P, the store Q -/
theorem cm_all (P : Nat → D → Prop) (Q : Store → Prop) (hz : ds.length ≤ 1000000) (q0 : Q S1) (h : ∀ (i : Nat) (d : D) (S' : Store), ds[i]? = some d → Q S' → ∀ R : WD, (∀ y S4, P i y → Q S4 → R y S4) → tg.wp d (capt cap Γ) fun Γ2 => elt.wp Γ2 S' R)
    (w : ∀ (ys : List D) (S' : Store), ys.length = ds.length → (∀ i y, ys[i]? = some y → P i y) → Q S' → W (.lst ys) S') : CompW cap Γ elt tg (Cd.no (Ω := Ω)) W ds S1 := by
  refine comp_by ⟨hz, fun i acc S' => (acc.length = i ∧ ∀ j y, acc[j]? = some y → P j y) ∧ Q S', ⟨⟨rfl, fun j y e => by simp at e⟩, q0⟩, ?_, fun acc S' h => w acc S' h.1.1 h.1.2 h.2⟩
  rintro i d acc S' hd ⟨⟨hl, ha⟩, q⟩
  refine Tg.mono (h i d S' hd q (fun y S4 => ((acc ++ [y]).length = i + 1 ∧ ∀ j y', (acc ++ [y])[j]? = some y' → P j y') ∧ Q S4) fun y S4 hy q4 => ⟨⟨by simp [hl], fun j y' e => ?_⟩, q4⟩) fun G q => ⟨fun _ => q, fun z => tf z⟩
  by_cases hj : j < acc.length
  · rw [List.getElem?_append_left hj] at e; exact ha j y' e
  · rw [List.getElem?_append_right (by omega)] at e
    have : j - acc.length = 0 := by
      have := (List.getElem?_eq_some_iff.mp e).1
      simp at this; omega
    rw [this] at e
    simp at e
    subst e
    have : j = i := by omega
    rw [this]; exact hy
end
theorem ix_pick {ds : List D} {v : Int} {W : WD} {S : Store} (h0 : 0 ≤ v) (h1 : v < ds.length) (w : ∀ x ∈ ds, W x S) : ∃ d, atI ds v = some d ∧ W d S := by
  obtain ⟨x, a, b⟩ := atI_lt h0 h1
  exact ⟨x, a, w x (List.mem_of_getElem? b)⟩
theorem bT {A B : Prop} (h : A) : (true = true → A) ∧ (true = false → B) := ⟨fun _ => h, fun z => tf z⟩
theorem bF {A B : Prop} (h : B) : (false = true → A) ∧ (false = false → B) := ⟨fun z => ff z, fun _ => h⟩
theorem dT {A B : Prop} (h : B) : (true = false → A) ∧ (true = true → B) := ⟨fun z => tf z, fun _ => h⟩
theorem dF {A B : Prop} (h : A) : (false = false → A) ∧ (false = true → B) := ⟨fun _ => h, fun z => ff z⟩
end RF

set_option Elab.async false
set_option linter.all false
set_option maxRecDepth 100000
set_option maxHeartbeats 4000000
namespace RF
open PySem PySem.Spec L2 DL
open PyProof.Rows
/-! a list that was owned in a def is handed out, owned no more -/
mutual
theorem rep_less {K : PySem.W.Frag} {O O' : Own} {H : Hp} (h : ∀ a, ¬ O.has a → ¬ O'.has a) : ∀ {v : V} {d : D}, noloc d = true → Rep K O H v d → Rep K O' H v d
  | _, _, _, .non => .non
  | _, _, _, .bl b => .bl b
  | _, _, _, .int i => .int i
  | _, _, _, .str x => .str x
  | _, _, n, .tup h1 r => .tup (h1.imp (fun q => ⟨h _ q.1, q.2⟩) id) (reps_less h (by simpa [noloc] using n) r)
  | _, _, n, .lst h1 r => .lst (h1.imp (fun q => ⟨h _ q.1, q.2⟩) id) (reps_less h (by simpa [noloc] using n) r)
  | _, _, n, .loc _ => by simp [noloc] at n
  | _, _, _, .dic h1 e => .dic (h _ h1) e
theorem reps_less {K : PySem.W.Frag} {O O' : Own} {H : Hp} (h : ∀ a, ¬ O.has a → ¬ O'.has a) : ∀ {vs : List V} {ds : List D}, nolocs ds = true → Reps K O H vs ds → Reps K O' H vs ds
  | _, _, _, .nil => .nil
  | _, _, n, .cons r t => by
    simp only [nolocs, Bool.and_eq_true] at n
    exact .cons (rep_less h n.1 r) (reps_less h n.2 t)
end
/-- the store below holds no owned list in a list -/
def flat (S : Store) : Prop := ∀ l ∈ S, nolocs l = true
def Frz (n : Nat) (W : WD) : WD := fun d S1 => W d S1 ∨ ∃ ds S', d = .loc S'.length ∧ S1 = S' ++ [ds] ∧ n ≤ S'.length ∧ nolocs ds = true ∧ flat S' ∧ W (.lst ds) S'
theorem QG.frz {K : PySem.W.Frag} {O : Own} {H H' : Hp} {W : WD} {v : V} {n : Nat} (hn : O.A.length = n) (q : QG K O H (Frz n W) v H') : QG K O H W v H' := by
  obtain ⟨O', d, S1, w, st, ok, r⟩ := q
  rcases w with w | ⟨ds, S', rfl, rfl, hl, hd, hS, w⟩
  · exact ⟨O', d, S1, w, st, ok, r⟩
  · obtain ⟨N, eA, fN⟩ := st.ext
    have len : O'.A.length = S'.length + 1 := by have := ok.len; simpa using this
    cases r with
    | @loc a _ ha =>
      obtain ⟨xs, hx, q1⟩ := ok.obj S'.length a ds ha (by simp)
      have sub : ∀ b, ¬ O'.has b → ¬ (⟨O'.A.take S'.length, O'.B⟩ : Own).has b := fun b hb z => hb (z.imp List.mem_of_mem_take id)
      have st2 : Step O ⟨O'.A.take S'.length, O'.B⟩ H H' := ⟨st.kept, st.dom, ⟨N.take (S'.length - O.A.length), by
        show O'.A.take S'.length = _
        rw [eA, List.take_append, List.take_of_length_le (by omega)], fun b hb => fN b (List.mem_of_mem_take hb)⟩, st.hid⟩
      have na : ¬ (⟨O'.A.take S'.length, O'.B⟩ : Own).has a := by
        rintro (z | z)
        · obtain ⟨i, hi⟩ := List.getElem?_of_mem z
          rw [List.getElem?_take] at hi
          split at hi
          · rename_i hlt
            obtain ⟨h1, e1⟩ := List.getElem?_eq_some_iff.mp hi
            obtain ⟨h2, e2⟩ := List.getElem?_eq_some_iff.mp ha
            have := (List.getElem_inj ok.nd).mp (e1.trans e2.symm)
            omega
          · cases hi
        · exact ok.apart a (List.mem_of_getElem? ha) z
      refine ⟨⟨O'.A.take S'.length, O'.B⟩, .lst ds, S', w, st2, ⟨ok.nd.sublist (List.take_sublist _ _), by simp [len], fun k b es e1 e2 => ?_, fun b hb => ok.apart b (List.mem_of_mem_take hb), ok.hidden⟩, .lst (.inl ⟨na, .inl hx⟩) (reps_less sub hd q1)⟩
      have hk : k < S'.length := (List.getElem?_eq_some_iff.mp e2).1
      have e1' : (O'.A.take S'.length)[k]? = some b := e1
      rw [List.getElem?_take, if_pos hk] at e1'
      obtain ⟨ys, hy, r'⟩ := ok.obj k b es e1' (by rw [List.getElem?_append_left hk]; exact e2)
      exact ⟨ys, hy, reps_less sub (hS es (List.mem_of_getElem? e2)) r'⟩
theorem rns_frz {X : Cx} {Γ : Gam} {S : Store} {sts : List Stmt} {W : DL.Fin} (h : Rns X Γ S sts { W with rt := Frz S.length W.rt }) : Rns X Γ S sts W := fun pins s σ H O I env ok =>
  thn (h pins s σ H O I env ok) fun f s' q => by
    cases f with
    | next => exact q
    | brk => exact q
    | cont => exact q
    | ret u => obtain ⟨v, σ', H', I', r, q⟩ := q; exact ⟨v, σ', H', I', r, QG.frz ok.len q⟩
variable {Ω : Wd}
/-- the body with its returned list handed out -/
def Bl.frz (b : Bl Ω) : Bl Ω where
  lev := b.lev
  chk := b.chk
  wp Γ S W := b.wp Γ S { W with rt := Frz S.length W.rt }
  sound := by
    intro X r top N nm sts Γ S W A hl hc hw
    exact rns_frz (b.sound A hl hc hw)
/-- a new list, handed over: kept or given up -/
def hand (W : WD) (ds : List D) (S : Store) : Prop := W (.lst ds) S ∨ W (.loc S.length) (S ++ [ds])
theorem hand_ret {W : WD} {ds : List D} {S : Store} (h : hand W ds S) (hd : nolocs ds = true) (hS : flat S) : Frz S.length W (.loc S.length) (S ++ [ds]) := by
  rcases h with h | h
  · exact .inr ⟨ds, S, rfl, rfl, Nat.le_refl _, hd, hS, h⟩
  · exact .inl h

/-! xs.append(e) -/
theorem ev_append {X : Cx} {Γ : Gam} {S : Store} {o e : Expr} {apos cpos : Pos} {W : WD} (h : Ev X Γ S o fun x S1 => ∃ k, x = .loc k ∧ Ev X Γ S1 e fun d S2 => ∃ ds, S2[k]? = some ds ∧ ds.length < 1000000 ∧ W .non (S2.set k (ds ++ [d])))
    (hbase : attributeBase o "append" X.env (eval o X.env) = eval o X.env) (hs : starEach [e] X.env = [(false, eval e X.env)]) (hline : (apos.endLine == cpos.line) = true) : Ev X Γ S (.Call (.Attribute o "append" apos) [e] [] cpos) W := by
  intro pins s σ H O I env st
  have hty : ∀ (O1 : Own) (x : D) (v : V) (H1 : Hp) (S1 : Store), (∃ k, x = .loc k) → StOk X.K O1 H1 S1 → Rep X.K O1 H1 v x → tyV X.K "list" v H1 := by
    rintro O1 x v H1 S1 ⟨k, rfl⟩ ok r
    cases r with
    | @loc a _ ha =>
      have hl : k < S1.length := by rw [← ok.len]; exact (List.getElem?_eq_some_iff.mp ha).1
      obtain ⟨xs, hx, _⟩ := ok.obj k a S1[k] ha (List.getElem?_eq_getElem hl)
      exact .inl ⟨rfl, xs, SqL.of hx⟩
  have hA : PA X [e] (fun σ H Q => ∃ O Γ S W', EnvOk X.K O H σ Γ ∧ StOk X.K O H S ∧ Ev X Γ S e W' ∧ ∀ v H', QG X.K O H W' v H' → Q [v] H') := by
    rintro pos pins s σ H Q I ⟨O, Γ, S, W', env, st, he, k⟩
    rw [hs]
    show wpAny _ _ (spliced ((false, eval e X.env) :: backTo pos (starEach [] X.env))) _ _ s
    refine Calls.spliced_cons (thn (he pins s σ H O I env st) fun u s1 ⟨v, H1, I1, r1, q⟩ => ?_)
    exact Calls.spliced_nil ⟨[v], H1, I1, .cons r1 .nil, k v H1 q⟩
  refine pe_bm (T := "list") PySem.F.plainAttrs_list PySem.F.slot_list_append PySem.F.type_list_append mt_append (h.pe) hA hbase (by rw [hs]; rfl) hline hs rfl pins s σ H _ I ⟨O, env, st, fun v H' q => ?_⟩
  obtain ⟨O1, x, S1, ⟨k, rfl, he⟩, st1, ok1, rep1⟩ := q
  refine ⟨hty O1 _ v H' S1 ⟨k, rfl⟩ ok1 rep1, O1, Γ, S1, _, env.mono st1, ok1, he, fun v2 H2 q2 => ?_⟩
  obtain ⟨O2, d, S2, ⟨ds, hk, hz, w⟩, st2, ok2, rep2⟩ := q2
  have r := rep1.mono st2
  cases r with
  | @loc a _ ha =>
    obtain ⟨xs, hx, q1⟩ := ok2.obj k a ds ha hk
    exact ⟨a, xs, v2, rfl, rfl, hx, by rw [q1.length]; exact Nat.lt_of_lt_of_le hz (by decide), O2, .non, _, w, (st1.trans st2).trans (Step.put (List.mem_of_getElem? ha) _), ok2.put ha (q1.append (.cons rep2 .nil)), .non⟩
def nameE : Expr → Bool
  | .Name .. => true
  | _ => false
def Ex.m_append (o a : Ex Ω) : Ex Ω where
  lev := max o.lev a.lev
  chk top N nm e := match e with | .Call (.Attribute x m p) [y] [] q => (m == ("append" : Str)) && (nameE x && ((p.endLine == q.line) && (okE y && (o.chk top N nm x && a.chk top N nm y)))) | _ => false
  wp Γ S W := o.wp Γ S fun x S1 => match x with | .loc k => a.wp Γ S1 fun d S2 => ∃ ds, S2[k]? = some ds ∧ ds.length < 1000000 ∧ W .non (S2.set k (ds ++ [d])) | _ => False
  sound := by
    intro X r top N nm e Γ S W A hl hc hw
    obtain ⟨l1, l2⟩ := lv2 hl
    split at hc
    · rename_i x m p y q
      obtain ⟨h1, g⟩ := and2 hc
      obtain ⟨h2, g⟩ := and2 g
      obtain ⟨h3, g⟩ := and2 g
      obtain ⟨h4, g⟩ := and2 g
      obtain ⟨h5, h6⟩ := and2 g
      have e := eq_of_beq h1
      subst e
      refine ev_append ((o.sound A l1 h5 hw).mono fun x S1 q => ?_) ?_ (star_ok h4 [] _) h3
      · cases x <;> first | exact q.elim | exact ⟨_, rfl, a.sound A l2 h6 q⟩
      · cases x <;> first | rfl | exact ff h2
    · exact ff hc

/-! while -/
theorem r_while {X : Cx} {Γ : Gam} {S : Store} {c : Expr} {body : List Stmt} {pos : Pos} {W : DL.Fin} (h : ∃ (Pv : Nat → Gam → Store → Prop) (m0 : Nat), Pv m0 Γ S ∧ ∀ m Γ' S', Pv m Γ' S' →
      Ts X Γ' S' c fun k S1 => (k = true → Rns X Γ' S1 body { W with nx := fun G T => ∃ m', m' < m ∧ Pv m' G T, ct := fun G T => ∃ m', m' < m ∧ Pv m' G T, bk := W.nx }) ∧ (k = false → W.nx Γ' S1))
    (hp : PassesOwn (model X.prog X.w) X.A X.env X.xe) : Rn X Γ S (.While c body [] pos) W := by
  intro pins s σ H O I env ok
  obtain ⟨Pv, m0, p0, turn⟩ := h
  refine wpAny_While (codeAny_whileLoop (fun n s' => ∃ σ' H' O' Γ' S', Inv X pins σ' H' s' ∧ Pv n Γ' S' ∧ Step O O' H H' ∧ StOk X.K O' H' S' ∧ EnvOk X.K O' H' σ' Γ') ?_ m0 ⟨σ, H, O, Γ, S, I, p0, Step.refl _ _, ok, env⟩)
  rintro n s1 ⟨σ1, H1, O1, Γ1, S1, I1, p1, st1, ok1, env1⟩
  refine wpAny_passesOwn hp (thn (turn n Γ1 S1 p1 pins s1 σ1 H1 O1 I1 env1 ok1) fun b s2 ⟨H2, I2, O2, S2, w2, st2, ok2⟩ => ?_)
  cases b with
  | true =>
    rw [if_pos rfl]
    refine wpAny_passesOwn hp (thn (w2.1 rfl pins s2 σ1 H2 O2 I2 (env1.mono st2) ok2) fun f s3 q3 => ?_)
    cases f with
    | next =>
      obtain ⟨σ3, H3, I3, O3, Γ3, S3, ⟨m', hm, p3⟩, st3, ok3, env3⟩ := q3
      exact ⟨m', hm, σ3, H3, O3, Γ3, S3, I3, p3, (st1.trans st2).trans st3, ok3, env3⟩
    | cont =>
      obtain ⟨σ3, H3, I3, O3, Γ3, S3, ⟨m', hm, p3⟩, st3, ok3, env3⟩ := q3
      exact ⟨m', hm, σ3, H3, O3, Γ3, S3, I3, p3, (st1.trans st2).trans st3, ok3, env3⟩
    | brk =>
      obtain ⟨σ3, H3, I3, q⟩ := q3
      exact ⟨σ3, H3, I3, QN.pre (st1.trans st2) q⟩
    | ret v =>
      obtain ⟨x, σ3, H3, I3, r3, q⟩ := q3
      exact ⟨x, σ3, H3, I3, r3, QG.pre (st1.trans st2) q⟩
  | false =>
    rw [if_neg Bool.false_ne_true]
    exact wpAny_execs_nil ⟨σ1, H2, I2, O2, Γ1, S2, w2.2 rfl, st1.trans st2, ok2, env1.mono st2⟩
@[irreducible] def WhileW (c : Te Ω) (body : Bl Ω) (Γ : Gam) (S : Store) (W : DL.Fin) : Prop := ∃ (Pv : Nat → Gam → Store → Prop) (m0 : Nat), Pv m0 Γ S ∧ ∀ m Γ' S', Pv m Γ' S' →
      c.wp Γ' S' fun k S1 => (k = true → body.wp Γ' S1 { W with nx := fun G T => ∃ m', m' < m ∧ Pv m' G T, ct := fun G T => ∃ m', m' < m ∧ Pv m' G T, bk := W.nx }) ∧ (k = false → W.nx Γ' S1)
theorem while_by {c : Te Ω} {body : Bl Ω} {Γ : Gam} {S : Store} {W : DL.Fin} (h : ∃ (Pv : Nat → Gam → Store → Prop) (m0 : Nat), Pv m0 Γ S ∧ ∀ m Γ' S', Pv m Γ' S' →
      c.wp Γ' S' fun k S1 => (k = true → body.wp Γ' S1 { W with nx := fun G T => ∃ m', m' < m ∧ Pv m' G T, ct := fun G T => ∃ m', m' < m ∧ Pv m' G T, bk := W.nx }) ∧ (k = false → W.nx Γ' S1)) : WhileW c body Γ S W := by unfold WhileW; exact h
def Sm.while (c : Te Ω) (body : Bl Ω) : Sm Ω where
  lev := max c.lev body.lev
  chk top N nm st := match st with | .While t b [] _ => c.chk top N nm t && body.chk top N nm b | _ => false
  wp Γ S W := WhileW c body Γ S W
  sound := by
    intro X r top N nm st Γ S W A hl hc hw
    obtain ⟨l1, l2⟩ := lv2 hl
    split at hc
    · obtain ⟨h1, h2⟩ := and2 hc
      unfold WhileW at hw
      obtain ⟨Pv, m0, p0, turn⟩ := hw
      exact r_while ⟨Pv, m0, p0, fun m Γ' S' p => Ts.mono (c.sound A l1 h1 (turn m Γ' S' p)) fun k S1 q => ⟨fun hk => body.sound A l2 h2 (q.1 hk), q.2⟩⟩ (by rw [A.xe]; exact PassesOwn.never)
    · exact ff hc
def Sm.brk : Sm Ω where
  lev := 0
  chk _ _ _ st := match st with | .Break _ => true | _ => false
  wp Γ S W := W.bk Γ S
  sound := by
    intro X r top N nm st Γ S W A hl hc hw
    cases st with
    | Break pos => exact fun pins s σ H O I env ok => wpAny_Break ⟨σ, H, I, O, Γ, S, hw, Step.refl O H, ok, env⟩
    | _ => exact ff hc
def Sm.cont : Sm Ω where
  lev := 0
  chk _ _ _ st := match st with | .Continue _ => true | _ => false
  wp Γ S W := W.ct Γ S
  sound := by
    intro X r top N nm st Γ S W A hl hc hw
    cases st with
    | Continue pos => exact fun pins s σ H O I env ok => wpAny_Continue ⟨σ, H, I, O, Γ, S, hw, Step.refl O H, ok, env⟩
    | _ => exact ff hc
def Sm.retN : Sm Ω where
  lev := 0
  chk _ _ _ st := match st with | .Return none _ => true | _ => false
  wp Γ S W := W.rt .non S
  sound := by
    intro X r top N nm st Γ S W A hl hc hw
    cases st with
    | Return o pos =>
      cases o with
      | none => exact fun pins s σ H O I env ok => wpAny_Return_none ⟨.non, σ, H, I, rfl, O, .non, S, hw, Step.refl O H, ok, .non⟩
      | some e => exact ff hc
    | _ => exact ff hc
/-- a raise that is never come to -/
def Sm.never : Sm Ω where
  lev := 0
  chk _ _ _ st := match st with | .Raise _ _ _ => true | _ => false
  wp _ _ _ := False
  sound := fun _ _ _ h => h.elim
theorem last_get (S : Store) (x : List D) : (S ++ [x])[S.length]? = some x := by simp
theorem last_set (S : Store) (x y : List D) : (S ++ [x]).set S.length y = S ++ [y] := by simp
theorem map_get {α β : Type} {xs : List α} {f : α → β} {i : Nat} {e : β} (h : (xs.map f)[i]? = some e) : ∃ x, xs[i]? = some x ∧ e = f x := by
  rw [List.getElem?_map] at h
  cases e1 : xs[i]? with
  | none => rw [e1] at h; cases h
  | some x => rw [e1] at h; cases h; exact ⟨x, rfl, rfl⟩
theorem idx_get {α β : Type} {xs : List α} {f : Nat → α → β} {i : Nat} {e : β} (h : (xs.mapIdx f)[i]? = some e) : ∃ x, xs[i]? = some x ∧ e = f i x := by
  rw [List.getElem?_mapIdx] at h
  cases e1 : xs[i]? with
  | none => rw [e1] at h; cases h
  | some x => rw [e1] at h; cases h; exact ⟨x, rfl, rfl⟩
/-- a comprehension over things by their names -/
theorem cm_enc {cap : List (Option Nat)} {Γ : Gam} {elt : Ex Ω} {tg : Tg} {W : WD} {S1 : Store} {α : Type} {xs : List α} {enc : α → D} (f : α → D) (hz : xs.length ≤ 1000000) (h : ∀ (i : Nat) (x : α), xs[i]? = some x → ∀ Q : WD, Q (f x) S1 → tg.wp (enc x) (capt cap Γ) fun Γ2 => elt.wp Γ2 S1 Q)
    (w : W (.lst (xs.map f)) S1) : CompW cap Γ elt tg (Cd.no (Ω := Ω)) W (xs.map enc) S1 := by
  refine comp_by ⟨by rw [List.length_map]; exact hz, fun i acc S' => acc = (xs.take i).map f ∧ S' = S1, ⟨rfl, rfl⟩, ?_, ?_⟩
  · rintro i d acc S' hd ⟨rfl, rfl⟩
    obtain ⟨x, hx, rfl⟩ := map_get hd
    refine Tg.mono (h i x hx (fun y S4 => (xs.take i).map f ++ [y] = (xs.take (i + 1)).map f ∧ S4 = S') ⟨?_, rfl⟩) fun G q => ⟨fun _ => q, fun z => tf z⟩
    rw [take_one hx, List.map_append]; rfl
  · rintro acc S' ⟨rfl, rfl⟩
    rw [List.length_map, List.take_length]; exact w
end RF

set_option Elab.async false
set_option linter.all false
set_option maxRecDepth 100000
set_option maxHeartbeats 4000000
namespace RF
open PySem PySem.Spec L2 DL
open PyProof.Rows
/-! sorted of a list that rises already -/
section
variable {prog : Program} {w : World} {A : Around} {E : Value → Shared → Prop} {s : Shared}
theorem minRun_le : ∀ (f m r : Nat), r ≤ 1 → minRun' f m r ≤ m + r
  | 0, m, r, _ => Nat.le_refl _
  | f + 1, m, r, hr => by
    rw [minRun'_succ]
    by_cases h : m < 64
    · rw [if_pos h]; exact Nat.le_refl _
    · rw [if_neg h]
      have := minRun_le f (m / 2) (max r (m % 2)) (by omega)
      omega
theorem wpS_asc {st : SortSt} {n : Nat} {Q : Unit → SortSt → Prop} (hn : (arrOf st).size = n) (h2 : 2 ≤ n) (hp : pendingOf st = #[])
    (hlt : ∀ x, 1 ≤ x → x < n → ∀ R : Option Bool → SortSt → Prop, R (some false) st → wpS (model prog w) A E s (ltAt' x (x - 1)) R st)
    (h : Q () (setPending st (#[(0, n, 0)]))) : wpS (model prog w) A E s sortRuns' Q st := by
  have hrun : ∀ R : Option Nat → SortSt → Prop, R (some n) st → wpS (model prog w) A E s (countRun' 0 n) R st := by
    intro R hR
    rw [countRun0_eq]
    refine wpS_bind ?_
    unfold ascLoop
    refine wpS_forRange (I := fun x c st' => st' = st ∧ c = (none, x)) ?step ?fin ⟨rfl, rfl⟩
    case fin =>
      rintro c st' ⟨rfl, rfl⟩
      rw [show max 1 n = n by omega]
      dsimp only
      rw [if_pos (beq_self_eq_true n)]
      exact wpS_pure hR
    case step =>
      rintro x c st' hax hxn ⟨rfl, rfl⟩
      dsimp only
      refine wpS_bind (hlt x hax hxn _ ?_)
      simp only [Bool.false_eq_true, if_false]
      exact wpS_pure ⟨rfl, rfl⟩
  rw [sortRuns'_eq]
  refine wpS_bind (wpS_get ?_)
  dsimp only
  have hmr : ¬ n < minRun' n n 0 := by have := minRun_le n n 0 (by decide); omega
  simp only [hn]
  refine wpS_bind (wpS_mono (wpS_forRange
    (I := fun x c st' => (x = 0 ∧ c = (none, 0) ∧ st' = st) ∨ (1 ≤ x ∧ c = (none, n) ∧ st' = setPending st (#[(0, n, 0)])))
    (Q := fun c st' => c = (none, n) ∧ st' = setPending st (#[(0, n, 0)])) ?step ?fin (.inl ⟨rfl, rfl, rfl⟩)) ?post)
  case fin =>
    rintro c st' (⟨hx, _, _⟩ | ⟨_, hc, hD⟩)
    · omega
    · exact ⟨hc, hD⟩
  case step =>
    rintro x c st' _ hx (⟨rfl, rfl, rfl⟩ | ⟨hx1, rfl, rfl⟩)
    · dsimp only
      rw [if_neg (by omega)]
      simp only [Nat.sub_zero, Nat.zero_add]
      refine wpS_bind (hrun _ ?_)
      dsimp only
      rw [if_neg hmr]
      refine wpS_bind (wpS_get ?_)
      have hb : (pendingOf st').back? = none := by rw [hp]; rfl
      rw [hb]
      dsimp only
      refine wpS_bind (wpS_modify (wpS_pure (.inr ⟨by omega, rfl, ?_⟩)))
      rw [hp]; rfl
    · dsimp only
      rw [if_pos (Nat.le_refl _)]
      exact wpS_pure ⟨rfl, rfl⟩
  case post =>
    rintro c st' ⟨rfl, rfl⟩
    dsimp only
    refine wpS_bind (wpS_mono (wpS_forRange (I := fun _ c st'' => st'' = setPending st (#[(0, n, 0)]) ∧ c = (none, ())) (Q := fun c st'' => st'' = setPending st (#[(0, n, 0)]) ∧ c = (none, ())) ?_ (fun _ _ hh => hh) ⟨rfl, rfl⟩) ?_)
    · rintro x c st'' _ _ ⟨rfl, rfl⟩
      refine wpS_bind (wpS_get ?_)
      rw [if_pos (by exact Nat.le_refl 1)]
      exact wpS_pure ⟨rfl, rfl⟩
    · rintro c st'' ⟨rfl, rfl⟩
      exact wpS_pure h
/-- one row of numbers ahead of another one, as tuples are compared -/
def ltF (fin : Bool) : List Int → List Int → Bool
  | x :: xs, y :: ys => if x = y then ltF fin xs ys else decide (x < y)
  | _, _ => fin
def ltI (xs ys : List Int) : Bool := ltF (decide (xs.length < ys.length)) xs ys
theorem one_int {flag : Bool} {a b : Int} {t u : Tok} {Q : Bool → Shared → Prop} (h : Q (decide (a < b)) s) : wpAny (model prog w) A (oneLt' flag (.int a t) (.int b u)) Q E s := by
  cases flag with
  | true => exact oneLt_int h
  | false => exact PySem.W.kat_one _ _ (wpAny_lt_int h)
theorem lex_int {b fin : Bool} {Q : Bool → Shared → Prop} : ∀ {vs us : List Value} {ms ns : List Int} {i : Nat}, IntsAre vs ms → IntsAre us ns → Q (ltF fin ms ns) s → PySem.W.KatLex prog w A b fin Q (vs.zip us) i s
  | _, _, _, _, _, .nil, _, h => PySem.W.kat_nil (by simpa [ltF] using h)
  | _, _, _, _, _, .cons _ _ _, .nil, h => PySem.W.kat_nil (by simpa [ltF] using h)
  | _, _, _, _, i, .cons m t r, .cons n u r', h => by
    rw [List.zip_cons_cons]
    refine PySem.W.kat_cons (wpAny_eqBool_int ?_)
    by_cases e : m = n
    · subst e
      rw [beq_self_eq_true]
      refine PySem.W.kat_yes (lex_int r r' ?_)
      simpa [ltF] using h
    · have e' : (m == n) = false := by simpa using e
      rw [e']
      refine PySem.W.kat_no (one_int ?_)
      simpa [ltF, e] using h
def TupI (h : Heap) (v : Value) (ns : List Int) : Prop := ∃ b o xs k, v = .ref b ∧ h.get? b = some o ∧ o.cls = .type "tuple" ∧ o.data = .seq xs k ∧ IntsAre xs.toList ns
theorem lt_tups {b : Bool} {v u : Value} {ms ns : List Int} {Q : Bool → Shared → Prop} (hv : TupI s.heap v ms) (hu : TupI s.heap u ns) (h : Q (ltI ms ns) s) : wpAny (model prog w) A (keyLt' (tuples' b) v u) Q E s := by
  obtain ⟨a, o, xs, k, rfl, e1, _, e2, i1⟩ := hv
  obtain ⟨a', o', xs', k', rfl, e1', _, e2', i1'⟩ := hu
  refine PySem.W.kat_lt e1 e2 e1' e2' (lex_int i1 i1' ?_)
  have l1 : xs.size = ms.length := by rw [← Array.length_toList]; exact i1.length
  have l2 : xs'.size = ns.length := by rw [← Array.length_toList]; exact i1'.length
  rw [l1, l2]
  exact h
/-- rows of numbers, each no less than the one ahead of it -/
def AscI (rows : List (List Int)) : Prop := ∀ (i : Nat) (x y : List Int), rows[i]? = some x → rows[i + 1]? = some y → ltI y x = false
def Rows (h : Heap) (vs : List Value) (rows : List (List Int)) : Prop := vs.length = rows.length ∧ ∀ (i : Nat) (v : Value) (x : List Int), vs[i]? = some v → rows[i]? = some x → TupI h v x ∧ x ≠ []
theorem ltAt_rows {b : Bool} {vs : List Value} {rows : List (List Int)} {R : Option Bool → SortSt → Prop} {p g f} {x : Nat} (hr : Rows s.heap vs rows) (ha : AscI rows) (h1 : 1 ≤ x) (h2 : x < vs.length) (h : R (some false) (SortSt.mk' (tuples' b) (vs.toArray.zip vs.toArray) p g f)) :
    wpS (model prog w) A E s (ltAt' x (x - 1)) R (SortSt.mk' (tuples' b) (vs.toArray.zip vs.toArray) p g f) := by
  have hl := hr.1
  have gv : ∀ i (hi : i < vs.length), (vs.toArray.zip vs.toArray)[i]? = some (vs[i], vs[i]) := fun i hi => by simp [hi]
  have t1 := (hr.2 x vs[x] rows[x] (List.getElem?_eq_getElem h2) (List.getElem?_eq_getElem (by omega))).1
  have t2 := (hr.2 (x - 1) vs[x - 1] rows[x - 1] (List.getElem?_eq_getElem (by omega)) (List.getElem?_eq_getElem (by omega))).1
  have lt : ltI rows[x] rows[x - 1] = false := ha (x - 1) _ _ (List.getElem?_eq_getElem (by omega)) (by
    rw [show x - 1 + 1 = x by omega]; exact List.getElem?_eq_getElem (by omega))
  rw [ltAt'_eq]
  refine wpS_bind (wpS_get ?_)
  show wpS _ _ _ _ (do let p' ← elem' (vs.toArray.zip vs.toArray) x; let q' ← elem' (vs.toArray.zip vs.toArray) (x - 1); lt' p' q') R _
  rw [elem'_eq, elem'_eq, gv x h2, gv (x - 1) (by omega)]
  refine wpS_bind (wpS_pure (wpS_bind (wpS_pure ?_)))
  rw [lt'_eq]
  refine wpS_bind (wpS_get ?_)
  refine wpS_bind (wpS_lift (wpAny_attempt (lt_tups t1 t2 ⟨rfl, ?_⟩)))
  rw [lt]
  exact wpS_pure h
theorem rows_kat {h : Heap} : ∀ {vs : List Value} {rows : List (List Int)}, Rows h vs rows → ∃ fs, PySem.W.KatTups h vs fs ∧ fs.length = vs.length ∧ ∀ v ∈ fs, ∃ i t, v = .int i t
  | [], _, _ => ⟨[], trivial, rfl, fun _ h => nomatch h⟩
  | v :: vs, [], hr => by have := hr.1; simp at this
  | v :: vs, x :: rows, hr => by
    obtain ⟨fs, k, l, hi⟩ := rows_kat (h := h) (vs := vs) (rows := rows) ⟨by have := hr.1; simpa using this, fun i v' x' e e' => hr.2 (i + 1) v' x' (by simpa using e) (by simpa using e')⟩
    obtain ⟨⟨b, o, xs, n, e, e1, e2, e3, e4⟩, ne⟩ := hr.2 0 v x rfl rfl
    obtain ⟨f, fl, hf⟩ : ∃ f fl, xs.toList = f :: fl := by
      cases hx : xs.toList with
      | nil => rw [hx] at e4; cases e4; exact (ne rfl).elim
      | cons f fl => exact ⟨f, fl, rfl⟩
    refine ⟨f :: fs, ⟨⟨b, o, xs, n, e, e1, e2, e3, ?_⟩, k⟩, by simp [l], ?_⟩
    · rw [← Array.getElem?_toList, hf]; rfl
    · intro v' hv
      rcases List.mem_cons.mp hv with rfl | hv
      · rw [hf] at e4; cases e4 with | cons m t r => exact ⟨_, _, rfl⟩
      · exact hi v' hv
theorem Rows.grow {h h' : Heap} {vs : List Value} {rows : List (List Int)} (k : ∀ b o, h.get? b = some o → o.cls = .type "tuple" → h'.get? b = some o) (hr : Rows h vs rows) : Rows h' vs rows :=
  ⟨hr.1, fun i v x e e' => by
    obtain ⟨⟨b, o, xs, n, e1, e2, e3, e4, e5⟩, ne⟩ := hr.2 i v x e e'
    exact ⟨⟨b, o, xs, n, e1, k b o e2 e3, e3, e4, e5⟩, ne⟩⟩
theorem list_sort_asc {a : Addr} {vs : List Value} {n : Nat} {rows : List (List Int)} {P : PySem.Fin → Shared → Prop} (ho : s.heap.get? a = some (seqObj "list" vs.toArray n))
    (hr : Rows s.heap vs rows) (ha : AscI rows) (hsm : vs.length ≤ sizeLine)
    (h : P (.done (.ret .none)) { s with heap := sortedHeap s.heap a vs vs.toArray }) :
    wpAny (model prog w) A (Builtin.«list.sort» ⟨[.ref a], []⟩) P E s := by
  rw [list_sort_plain]
  have hla : a < s.heap.objs.size := Heap.lt_size ho
  refine wpAny_bind (listItems_at ho rfl ?_)
  refine wpAny_bind (listUpdate_at ho rfl ?_ (by rw [List.size_toArray]; exact hsm) (Nat.zero_le _))
  obtain ⟨e1, ho1⟩ : ∃ e1, (s.heap.update a (Obj.mapSeq fun _ => #[])).get? a = some (seqObj "list" #[] e1) := ⟨_, get?_update_seq ho (fun _ => #[])⟩
  refine wpAny_bind (seqEpoch_at ho1 rfl ?_)
  refine wpAny_bind (wpAny_newTuple ?_ (by show vs.length ≤ _; exact hsm))
  refine wpAny_bind (wpAny_newList ?_ (Nat.zero_le _))
  refine wpAny_holding ?_
  have ho6 : (((s.heap.update a (Obj.mapSeq fun _ => #[])).push (seqObj "tuple" vs.toArray 0)).push (seqObj "list" #[] 0)).get? a = some (seqObj "list" #[] e1) := by
    rw [Heap.get?_push_ne _ _ _ (by rw [size_push', Heap.size_update]; exact Nat.ne_of_lt (Nat.lt_succ_of_lt hla)), Heap.get?_push_ne _ _ _ (by rw [Heap.size_update]; exact Nat.ne_of_lt hla)]
    exact ho1
  show wpAny (model prog w) A _ P E { s with heap := ((s.heap.update a (Obj.mapSeq fun _ => #[])).push (seqObj "tuple" vs.toArray 0)).push (seqObj "list" #[] 0) }
  dsimp only
  have hout : (vs.toArray.zip vs.toArray).map (·.2) = vs.toArray := by
    apply Array.toList_inj.mp
    simp [List.map_snd_zip]
  have hr' : Rows (((s.heap.update a (Obj.mapSeq fun _ => #[])).push (seqObj "tuple" vs.toArray 0)).push (seqObj "list" #[] 0)) vs rows := hr.grow fun b o e c => by
    have hba : b ≠ a := by
      rintro rfl
      rw [ho] at e; cases e
      exact absurd (show Value.type "list" = Value.type "tuple" from c) (by decide)
    have hlb : b < s.heap.objs.size := Heap.lt_size e
    rw [Heap.get?_push_ne _ _ _ (by rw [size_push', Heap.size_update]; exact Nat.ne_of_lt (Nat.lt_succ_of_lt hlb)), Heap.get?_push_ne _ _ _ (by rw [Heap.size_update]; exact Nat.ne_of_lt hlb), Heap.get?_update_ne _ _ _ _ hba]
    exact e
  by_cases h2 : vs.toArray.size < 2
  · rw [if_pos h2, if_pos h2]
    refine wpAny_bind (wpAny_pure ?_)
    rw [StateT.run_pure]
    refine wpAny_bind (wpAny_pure ?_)
    dsimp only
    refine wpAny_bind (seqEpoch_at ho6 rfl ?_)
    rw [show arrOf (SortSt.mk' general' (vs.toArray.zip vs.toArray) #[] 7 none) = vs.toArray.zip vs.toArray from rfl, hout]
    refine wpAny_bind (listUpdate_at ho6 rfl ?_ (Nat.zero_le _) (by rw [List.size_toArray]; omega))
    simp only [bne_self_eq_false, Bool.false_eq_true, if_false]
    exact wpAny_pure h
  · rw [if_neg h2, if_neg h2]
    have hsz : vs.toArray.size = vs.length := by simp
    obtain ⟨fs, hk, hl, hi⟩ := rows_kat hr'
    refine wpAny_bind (PySem.W.kat_kind (T := .type "int") hk (by omega) (fun v hv => ?_) (by decide) ?_)
    · obtain ⟨i, t, rfl⟩ := hi v hv
      exact .now
    refine wpAny_bind (wpAny_mono (wpS_asc (n := vs.length) (st := SortSt.mk' (tuples' (Value.type "int" != Value.type "tuple")) (vs.toArray.zip vs.toArray) #[] 7 none)
      (Q := fun _ st' => arrOf st' = vs.toArray.zip vs.toArray ∧ failedOf st' = none) (by show (vs.toArray.zip vs.toArray).size = _; simp) (by omega) rfl
      (fun x h1 h3 R hR => ltAt_rows hr' ha h1 h3 hR) ⟨rfl, rfl⟩) ?_ fun _ _ e => e)
    rintro ⟨⟨⟩, st'⟩ s' ⟨rfl, hp, hf⟩
    dsimp only
    refine wpAny_bind (seqEpoch_at ho6 rfl ?_)
    rw [hp, hout]
    refine wpAny_bind (listUpdate_at ho6 rfl ?_ (Nat.zero_le _) (by rw [List.size_toArray]; omega))
    rw [hf]
    simp only [bne_self_eq_false, Bool.false_eq_true, if_false]
    exact wpAny_pure h
theorem sorted_asc {l : Addr} {vs : List Value} {rows : List (List Int)} {Q : Value → Shared → Prop} (hl : s.heap.IsList l vs.toArray) (hr : Rows s.heap vs rows) (ha : AscI rows) (hsm : vs.length ≤ sizeLine)
    (h : Q (.ref (s.heap.objs.size + 1)) { s with heap := sortedAll s.heap vs vs.toArray }) :
    wpAny (model prog w) A (call (.builtin "sorted") [.ref l]) Q E s := by
  refine Calls.call_function_entry kind_sorted plain_sorted entry_sorted (args_sorted1 _) ?_
  unfold Builtin.«sorted»
  refine wpAny_bind (m := checkCount "sorted" 1 1 _) (wpAny_pure ?_)
  refine wpAny_bind (collect_list hl ?_ hsm)
  refine wpAny_bind (wpAny_newList ?_ hsm)
  have hsz : ((s.heap.push (seqObj "list" #[] 0)).update s.heap.objs.size (Obj.mapSeq (· ++ vs.toArray))).objs.size = s.heap.objs.size + 1 := by
    rw [Heap.size_update, size_push']
  have hoL : (((s.heap.push (seqObj "list" #[] 0)).update s.heap.objs.size (Obj.mapSeq (· ++ vs.toArray))).push (seqObj "list" vs.toArray 0)).get? (s.heap.objs.size + 1) = some (seqObj "list" vs.toArray 0) := by
    rw [← hsz]; exact Heap.get?_push_size _ rfl
  have keep : ∀ b o, s.heap.get? b = some o → (((s.heap.push (seqObj "list" #[] 0)).update s.heap.objs.size (Obj.mapSeq (· ++ vs.toArray))).push (seqObj "list" vs.toArray 0)).get? b = some o := fun b o q => by
    have hlt : b < s.heap.objs.size := Heap.lt_size q
    rw [Heap.get?_push_ne _ _ _ (by rw [hsz]; exact Nat.ne_of_lt (Nat.lt_succ_of_lt hlt)), Heap.get?_update_ne _ _ _ _ (Nat.ne_of_lt hlt), Heap.get?_push_ne _ _ _ (Nat.ne_of_lt hlt)]
    exact q
  show wpAny _ _ _ _ _ { s with heap := ((s.heap.push (seqObj "list" #[] 0)).update s.heap.objs.size (Obj.mapSeq (· ++ vs.toArray))).push (seqObj "list" vs.toArray 0) }
  rw [hsz]
  refine wpAny_bind (wpAny_holding (wpAny_call_entry slot_list_sort ⟨_, hoL, rfl⟩ entry_list_sort (list_sort_asc hoL (hr.grow fun b o e _ => keep b o e) ha hsm ⟨_, rfl, ?_⟩) (args_list_sort _)))
  exact wpAny_pure ⟨_, rfl, h⟩
end
section
variable {X : Cx}
theorem rows_of {pins : List (Addr × Obj)} {σ : DL.St} {H : Hp} {s : Shared} {O : Own} (I : Inv X pins σ H s) : ∀ {ys : List V} {its : List Value} {rows : List (List Int)}, Vals ys its → Reps X.K O H ys (rows.map fun r => D.tup (r.map .int)) → (∀ r ∈ rows, r ≠ []) → Rows s.heap its rows
  | [], _, [], .nil, .nil, _ => ⟨rfl, fun i v x e _ => by simp at e⟩
  | y :: ys, u :: us, r :: rows, .cons a t, .cons b c, h => by
    have ih := rows_of I t c fun r hr => h r (List.mem_cons_of_mem _ hr)
    refine ⟨by simp [ih.1], fun i v x e e' => ?_⟩
    cases i with
    | succ i => exact ih.2 i v x (by simpa using e) (by simpa using e')
    | zero =>
      simp at e e'
      subst e e'
      refine ⟨?_, h _ List.mem_cons_self⟩
      cases b with
      | @tup a' xs _ h1 q1 =>
        cases a
        obtain ⟨js, rv, ⟨o, p1, p2, n, p3⟩, hz⟩ := I.tuple h1.sq
        have ex := q1.ints
        subst ex
        exact ⟨_, o, _, n, rfl, p1, p2, p3, intsAre_of rv⟩
theorem k_sortL {rows : List (List Int)} {S : Store} {W : WD} {d : D} (hd : d = .lst (rows.map fun r => D.tup (r.map .int)) ∨ ∃ k, d = .loc k ∧ S[k]? = some (rows.map fun r => D.tup (r.map .int))) (hne : ∀ r ∈ rows, r ≠ []) (ha : AscI rows) (w : W (.lst (rows.map fun r => D.tup (r.map .int))) S) :
    CalW X (.builtin "sorted") [d] S W := by
  intro pins s σ H O vs us I st r ru
  obtain ⟨v, rfl, r'⟩ := reps1 r
  obtain ⟨u, rfl, ru'⟩ := vals1 ru
  have main : ∀ (a : Addr) (xs : List V), v = .ref a → SqL X.K H a xs → Reps X.K O H xs (rows.map fun r => D.tup (r.map .int)) → wpAny (model X.prog X.w) X.A (call (.builtin "sorted") [u]) (EP X pins σ (QG X.K O H W)) X.xe s := by
    rintro a xs rfl hs hq
    cases ru'
    obtain ⟨its, rv, pl, hz⟩ := I.list hs
    have hlen := rv.length
    refine sorted_asc pl.isList (rows_of I rv hq hne) ha (by omega) ?_
    have hp : H (s.heap.objs.size + 1) = none := I.hok.fresh (Nat.le_succ _)
    obtain ⟨c, hc⟩ := sortedAll_at s.heap its its.toArray
    refine ⟨.ref (s.heap.objs.size + 1), _, I.laid (t' := s.toks) (fun b o e => sortedAll_old e) (Nat.le_succ _) (show ObjOk X.prog X.w _ _ _ (.lst xs) from ⟨hz, its, c, rv, hc⟩), rfl, ?_⟩
    exact ⟨O, _, S, w, Step.fresh hp _, st.fresh hp _, .lst (ls_new st hp) (hq.mono (Step.fresh hp _))⟩
  rcases hd with rfl | ⟨k, rfl, hk⟩
  · cases r' with
    | @lst a xs _ h1 q1 => exact main a xs rfl h1.sq q1
  · cases r' with
    | @loc p _ h1 =>
      obtain ⟨xs, hx, q1⟩ := st.obj k p _ h1 hk
      exact main p xs rfl (SqL.of hx) q1
end
def bSortAsc : Bf where
  x := "sorted"
  id := "sorted"
  boot := by decide +kernel
  wp ds S W := ∃ rows : List (List Int), (∀ r ∈ rows, r ≠ []) ∧ AscI rows ∧ (∃ d, ds = [d] ∧ (d = .lst (rows.map fun r => D.tup (r.map .int)) ∨ ∃ k, d = .loc k ∧ S[k]? = some (rows.map fun r => D.tup (r.map .int)))) ∧ W (.lst (rows.map fun r => D.tup (r.map .int))) S
  sound := by
    rintro X ds S W hc hr ⟨rows, h1, h2, ⟨d, rfl, h3⟩, h4⟩
    exact k_sortL h3 h1 h2 h4
/-! an owned list that is changed no more: held by names -/
def frzO (k : Nat) (ds : List D) : Option D → Option D
  | some (.loc j) => if j = k then some (.lst ds) else some (.loc j)
  | o => o
def atTop (Γ : Gam) : Prop := ∀ (i : Nat) (d : D), Γ[i]? = some (some d) → noloc d = true ∨ ∃ j, d = .loc j
def FrzN (n : Nat) (W : Gam → Store → Prop) : Gam → Store → Prop := fun Γ S1 => W Γ S1 ∨ ∃ ds S', S1 = S' ++ [ds] ∧ n ≤ S'.length ∧ nolocs ds = true ∧ flat S' ∧ atTop Γ ∧ W (Γ.map (frzO S'.length ds)) S'
theorem QN.frz {K : PySem.W.Frag} {O : Own} {H H' : Hp} {W : Gam → Store → Prop} {σ : DL.St} {n : Nat} (hn : O.A.length = n) (q : QN K O H (FrzN n W) σ H') : QN K O H W σ H' := by
  obtain ⟨O', Γ, S1, w, st, ok, r⟩ := q
  rcases w with w | ⟨ds, S', rfl, hl, hd, hS, ht, w⟩
  · exact ⟨O', Γ, S1, w, st, ok, r⟩
  · obtain ⟨N, eA, fN⟩ := st.ext
    have len : O'.A.length = S'.length + 1 := by have := ok.len; simpa using this
    have sub : ∀ b, ¬ O'.has b → ¬ (⟨O'.A.take S'.length, O'.B⟩ : Own).has b := fun b hb z => hb (z.imp List.mem_of_mem_take id)
    have st2 : Step O ⟨O'.A.take S'.length, O'.B⟩ H H' := ⟨st.kept, st.dom, ⟨N.take (S'.length - O.A.length), by
      show O'.A.take S'.length = _
      rw [eA, List.take_append, List.take_of_length_le (by omega)], fun b hb => fN b (List.mem_of_mem_take hb)⟩, st.hid⟩
    refine ⟨⟨O'.A.take S'.length, O'.B⟩, _, S', w, st2, ⟨ok.nd.sublist (List.take_sublist _ _), by simp [len], fun k b es e1 e2 => ?_, fun b hb => ok.apart b (List.mem_of_mem_take hb), ok.hidden⟩, ⟨by rw [List.length_map]; exact r.len, fun i d e => ?_⟩⟩
    · have hk : k < S'.length := (List.getElem?_eq_some_iff.mp e2).1
      have e1' : (O'.A.take S'.length)[k]? = some b := e1
      rw [List.getElem?_take, if_pos hk] at e1'
      obtain ⟨ys, hy, r'⟩ := ok.obj k b es e1' (by rw [List.getElem?_append_left hk]; exact e2)
      exact ⟨ys, hy, reps_less sub (hS es (List.mem_of_getElem? e2)) r'⟩
    · rw [List.getElem?_map] at e
      cases e1 : Γ[i]? with
      | none => rw [e1] at e; cases e
      | some o =>
        rw [e1] at e
        cases o with
        | none => cases e
        | some d0 =>
          obtain ⟨v, hv, rv⟩ := r.at_ i d0 e1
          rcases ht i d0 e1 with nl | ⟨j, rfl⟩
          · have e2 : d0 = d := by
              cases d0 with
              | loc j => simp [noloc] at nl
              | _ => simpa [frzO] using e
            subst e2
            exact ⟨v, hv, rep_less sub nl rv⟩
          · cases rv with
            | @loc a _ ha =>
              by_cases hj : j = S'.length
              · subst hj
                have e2 : d = .lst ds := by simpa [frzO] using e.symm
                subst e2
                obtain ⟨xs, hx, q1⟩ := ok.obj S'.length a ds ha (by simp)
                have na : ¬ (⟨O'.A.take S'.length, O'.B⟩ : Own).has a := by
                  rintro (z | z)
                  · obtain ⟨i, hi⟩ := List.getElem?_of_mem z
                    rw [List.getElem?_take] at hi
                    split at hi
                    · rename_i hlt
                      obtain ⟨h1, e1⟩ := List.getElem?_eq_some_iff.mp hi
                      obtain ⟨h2, e2⟩ := List.getElem?_eq_some_iff.mp ha
                      have := (List.getElem_inj ok.nd).mp (e1.trans e2.symm)
                      omega
                    · cases hi
                  · exact ok.apart a (List.mem_of_getElem? ha) z
                exact ⟨_, hv, .lst (.inl ⟨na, .inl hx⟩) (reps_less sub hd q1)⟩
              · have e2 : d = .loc j := by simpa [frzO, hj] using e.symm
                subst e2
                refine ⟨_, hv, .loc ?_⟩
                have : j < O'.A.length := (List.getElem?_eq_some_iff.mp ha).1
                show (O'.A.take S'.length)[j]? = some a
                rw [List.getElem?_take, if_pos (by omega)]; exact ha
section
variable {Ω : Wd}
/-- a block at whose end the list made last is changed no more -/
def Bl.fzl (b : Bl Ω) : Bl Ω where
  lev := b.lev
  chk := b.chk
  wp Γ S W := b.wp Γ S { W with nx := FrzN S.length W.nx }
  sound := by
    intro X r top N nm sts Γ S W A hl hc hw pins s σ H O I env ok
    refine thn (b.sound A hl hc hw pins s σ H O I env ok) fun f s' q => ?_
    cases f with
    | next => obtain ⟨σ, H', I, q⟩ := q; exact ⟨σ, H', I, QN.frz ok.len q⟩
    | brk => exact q
    | cont => exact q
    | ret u => exact q
end
end RF

set_option Elab.async false
set_option linter.all false
set_option maxRecDepth 100000
set_option maxHeartbeats 4000000
namespace RF
open PySem PySem.Spec L2 DL
open PyProof.Rows
/-! for over a list that is owned, while it stays as it is -/
def YieldsC (K : PySem.W.Frag) (J : It) (O : Own) (H : Hp) (C : Store → Prop) (ds : List D) : Prop :=
  ∀ (O' : Own) (H' : Hp) (S' : Store), Step O O' H H' → StOk K O' H' S' → C S' → ∀ i : Nat, (∀ d, ds[i]? = some d → J.go i H' ∧ ∀ x H'', J.yld i H' x H'' → Same H' H'' ∧ Rep K O' H'' x d) ∧ (i = ds.length → J.stop i H')
def QIc (K : PySem.W.Frag) (O : Own) (H : Hp) (W : List D → (Store → Prop) → Store → Prop) : It → Hp → Prop := fun J H' => ∃ O' ds C S', W ds C S' ∧ Step O O' H H' ∧ StOk K O' H' S' ∧ YieldsC K J O' H' C ds
def ItC (X : Cx) (Γ : Gam) (S : Store) (tg iter : Expr) (W : List D → (Store → Prop) → Store → Prop) : Prop :=
  ∀ (pins : Pins) (s : Shared) (σ : DL.St) (H : Hp) (O : Own), Inv X pins σ H s → EnvOk X.K O H σ Γ → StOk X.K O H S →
    wpAny (model X.prog X.w) X.A (eval iter X.env) (fun v s1 => wpAny (model X.prog X.w) X.A (pyIter v) (PIE X pins σ tg (QIc X.K O H W)) X.xe s1) X.xe s
theorem yields_c {K : PySem.W.Frag} {J : It} {O : Own} {H : Hp} {ds : List D} (y : Yields K J O H ds) : YieldsC K J O H (fun _ => True) ds := fun O' H' S' st ok _ i => y O' H' st.conv (fun a ha => ok.tracked ha) i
theorem yields_own {K : PySem.W.Frag} {O : Own} {H : Hp} {a : Addr} {k : Nat} {ds : List D} (h : O.A[k]? = some a) : YieldsC K (Itl K a) O H (fun S => S[k]? = some ds) ds := by
  intro O' H' S' st ok hS i
  obtain ⟨N, e, _⟩ := st.ext
  have h' : O'.A[k]? = some a := by rw [e, List.getElem?_append_left (List.getElem?_eq_some_iff.mp h).1]; exact h
  obtain ⟨xs, hx, r⟩ := ok.obj k a ds h' hS
  have hq : SqL K H' a xs := SqL.of hx
  refine ⟨fun d hd => ?_, fun hi => ⟨xs, hq, by rw [r.length]; exact Nat.le_of_eq hi.symm⟩⟩
  obtain ⟨v, hv, rv⟩ := r.get hd
  refine ⟨⟨xs, v, hq, hv⟩, fun x H'' y => ?_⟩
  obtain ⟨e, y⟩ := y
  subst e
  have e := y xs hq
  rw [hv] at e
  cases e
  exact ⟨Same.refl _, rv⟩
/-- how an owned or a given list is gone through -/
abbrev itC (W : List D → (Store → Prop) → Store → Prop) : WD := fun d S1 => match d with
  | .lst ds => W ds (fun _ => True) S1
  | .tup ds => W ds (fun _ => True) S1
  | .loc k => ∃ ds, S1[k]? = some ds ∧ W ds (fun S => S[k]? = some ds) S1
  | _ => False
theorem it_own {X : Cx} {Γ : Gam} {S : Store} {tg e : Expr} {W : List D → (Store → Prop) → Store → Prop} (h : Ev X Γ S e (itC W)) : ItC X Γ S tg e W := by
  intro pins s σ H O I env st
  refine thn (h pins s σ H O I env st) fun u s1 ⟨v, H1, I1, r1, O1, d, S1, w, st1, ok1, rep⟩ => ?_
  cases rep with
  | @lst a xs ds h1 q1 =>
    cases r1
    obtain ⟨its, rv, p, hz⟩ := I1.list h1.sq
    refine wpAny_pyIter_list p.isList ?_
    refine ⟨s1.heap.objs.size, [s1.heap.objs.size], _, _, H1, rfl, I1.kept (t' := s1.toks) fun b o e => Heap.get?_push_of_some _ e, turn_list a _, ⟨_, Heap.get?_push_size _ rfl, rfl, rfl⟩, fun b hb => ?_, O1, ds, _, S1, w, st1, ok1, yields_c (yields_list h1 q1)⟩
    have e : b = s1.heap.objs.size := by simpa using hb
    subst e
    exact I1.fpOk (Nat.le_refl _) (I1.hok.fresh (Nat.le_refl _))
  | @tup a xs ds h1 q1 =>
    cases r1
    obtain ⟨its, rv, p, hz⟩ := I1.tuple h1.sq
    refine wpAny_pyIter_tuple (show s1.heap.IsTuple a its.toArray from p) ?_
    refine ⟨s1.heap.objs.size, [s1.heap.objs.size], _, _, H1, rfl, I1.kept (t' := s1.toks) fun b o e => Heap.get?_push_of_some _ e, turn_tuple a _, ⟨_, Heap.get?_push_size _ rfl, rfl, rfl⟩, fun b hb => ?_, O1, ds, _, S1, w, st1, ok1, yields_c (yields_tup h1 q1)⟩
    have e : b = s1.heap.objs.size := by simpa using hb
    subst e
    exact I1.fpOk (Nat.le_refl _) (I1.hok.fresh (Nat.le_refl _))
  | @loc a k h1 =>
    cases r1
    obtain ⟨ds, hk, w⟩ := w
    obtain ⟨xs, hx, q1⟩ := ok1.obj k a ds h1 hk
    obtain ⟨its, rv, p, hz⟩ := I1.list (SqL.of hx)
    refine wpAny_pyIter_list p.isList ?_
    refine ⟨s1.heap.objs.size, [s1.heap.objs.size], _, _, H1, rfl, I1.kept (t' := s1.toks) fun b o e => Heap.get?_push_of_some _ e, turn_list a _, ⟨_, Heap.get?_push_size _ rfl, rfl, rfl⟩, fun b hb => ?_, O1, ds, _, S1, w, st1, ok1, yields_own h1⟩
    have e : b = s1.heap.objs.size := by simpa using hb
    subst e
    exact I1.fpOk (Nat.le_refl _) (I1.hok.fresh (Nat.le_refl _))
  | _ => exact w.elim
theorem r_forC {X : Cx} {Γ : Gam} {S : Store} {W : DL.Fin} {pos : Pos} {tg iter : Expr} {body : List Stmt} (h : ItC X Γ S tg iter fun ds C S1 => ∃ Pv : Nat → Gam → Store → Prop, Pv 0 Γ S1 ∧ (∀ i Γ' S', Pv i Γ' S' → C S') ∧
      (∀ i d Γ' S', ds[i]? = some d → Pv i Γ' S' → BdW X tg d Γ' S' fun Γ2 S2 => Rns X Γ2 S2 body { W with nx := Pv (i + 1), ct := Pv (i + 1), bk := W.nx }) ∧ (∀ Γ' S', Pv ds.length Γ' S' → W.nx Γ' S'))
    (hp : PassesOwn (model X.prog X.w) X.A X.env X.xe) (hc : X.calm = true) (hs : ∀ x, foldedSetIterable iter X.env x = pure x) : Rn X Γ S (.For tg iter body [] pos) W := by
  intro pins s σ H O I env ok
  let WI : List D → (Store → Prop) → Store → Prop := fun ds C S1 => ∃ Pv : Nat → Gam → Store → Prop, Pv 0 Γ S1 ∧ (∀ i Γ' S', Pv i Γ' S' → C S') ∧
      (∀ i d Γ' S', ds[i]? = some d → Pv i Γ' S' → BdW X tg d Γ' S' fun Γ2 S2 => Rns X Γ2 S2 body { W with nx := Pv (i + 1), ct := Pv (i + 1), bk := W.nx }) ∧ (∀ Γ' S', Pv ds.length Γ' S' → W.nx Γ' S')
  have hI : PI X tg iter (fun σ H R => ∃ O, EnvOk X.K O H σ Γ ∧ StOk X.K O H S ∧ ∀ J H', QIc X.K O H WI J H' → R J H') := fun pins s σ H R I ⟨O, env, st, k⟩ =>
    thn (h pins s σ H O I env st) fun _ _ q => thn q fun _ _ ⟨it, fp, tn, J, H', e1, e2, e3, e4, e5, e6⟩ => ⟨it, fp, tn, J, H', e1, e2, e3, e4, e5, k J H' e6⟩
  have hG : PG X tg (fun v σ H Q => ∃ O d Γ S W', EnvOk X.K O H σ Γ ∧ StOk X.K O H S ∧ Rep X.K O H v d ∧ BdW X tg d Γ S W' ∧ ∀ σ' H', QN X.K O H W' σ' H' → Q σ' H') := fun pins s σ H v u Q I ru ⟨O, d, Γ, S, W', env, st, r, b, k⟩ =>
    thn (b pins s σ H O v u I env st r ru) fun _ _ ⟨σ', H', I', q⟩ => ⟨σ', H', I', k σ' H' q⟩
  have hB : PSs X body (fun D σ H => ∃ O Γ S W', EnvOk X.K O H σ Γ ∧ StOk X.K O H S ∧ Rns X Γ S body W' ∧ (∀ σ' H', QN X.K O H W'.nx σ' H' → D.nx σ' H') ∧ (∀ v H', QG X.K O H W'.rt v H' → D.rt v H') ∧ (∀ σ' H', QN X.K O H W'.bk σ' H' → D.bk σ' H') ∧ ∀ σ' H', QN X.K O H W'.ct σ' H' → D.ct σ' H') :=
    fun pins s σ H D I ⟨O, Γ, S, W', env, st, b, k1, k2, k3, k4⟩ => thn (b pins s σ H O I env st) fun f s' q => by
      cases f with
      | next => obtain ⟨σ', H', I', q⟩ := q; exact ⟨σ', H', I', k1 σ' H' q⟩
      | brk => obtain ⟨σ', H', I', q⟩ := q; exact ⟨σ', H', I', k3 σ' H' q⟩
      | cont => obtain ⟨σ', H', I', q⟩ := q; exact ⟨σ', H', I', k4 σ' H' q⟩
      | ret u => obtain ⟨v, σ', H', I', r, q⟩ := q; exact ⟨v, σ', H', I', r, k2 v H' q⟩
  refine ps_for hp hc hI hG hB hs pins s σ H _ I ⟨O, env, ok, fun J H1 q => ?_⟩
  obtain ⟨O1, ds, C, S1, ⟨Pv, p0, pC, pt, pe⟩, st1, ok1, yl⟩ := q
  refine ⟨fun i m σ' H' => m = ds.length - i ∧ i ≤ ds.length ∧ ∃ O' Γ' S', Pv i Γ' S' ∧ Step O1 O' H1 H' ∧ StOk X.K O' H' S' ∧ EnvOk X.K O' H' σ' Γ', ⟨ds.length, by simp, Nat.zero_le _, O1, Γ, S1, p0, Step.refl _ _, ok1, env.mono st1⟩, ?_⟩
  rintro i m σ2 H2 ⟨rfl, hi, O2, Γ2, S2, p2, st2, ok2, env2⟩
  obtain ⟨y1, y2⟩ := yl O2 H2 S2 st2 ok2 (pC _ _ _ p2) i
  by_cases hlt : i < ds.length
  · obtain ⟨go, yy⟩ := y1 ds[i] (List.getElem?_eq_getElem hlt)
    refine .inr ⟨go, fun σ' H' => i + 1 ≤ ds.length ∧ ∃ O' Γ' S', Pv (i + 1) Γ' S' ∧ Step O1 O' H1 H' ∧ StOk X.K O' H' S' ∧ EnvOk X.K O' H' σ' Γ', fun σ' H' q => ⟨ds.length - (i + 1), by omega, rfl, q.1, q.2⟩, fun x H3 y => ?_⟩
    obtain ⟨sm, rx⟩ := yy x H3 y
    have st3 := Step.same (O := O2) sm
    refine ⟨O2, ds[i], Γ2, S2, _, env2.mono st3, ok2.same sm, rx, pt i ds[i] Γ2 S2 (List.getElem?_eq_getElem hlt) p2, fun σ4 H4 q4 => ?_⟩
    obtain ⟨O4, Γ4, S4, w4, st4, ok4, env4⟩ := q4
    have stA := (st2.trans st3).trans st4
    refine ⟨O4, Γ4, S4, _, env4, ok4, w4, ?_, ?_, ?_, ?_⟩
    · rintro σ5 H5 ⟨O5, Γ5, S5, w5, st5, ok5, env5⟩
      exact ⟨hlt, O5, Γ5, S5, w5, stA.trans st5, ok5, env5⟩
    · exact fun v H' q => QG.pre (st1.trans stA) q
    · exact fun σ' H' q => QN.pre (st1.trans stA) q
    · rintro σ5 H5 ⟨O5, Γ5, S5, w5, st5, ok5, env5⟩
      exact ⟨hlt, O5, Γ5, S5, w5, stA.trans st5, ok5, env5⟩
  · have e : i = ds.length := by omega
    subst e
    exact .inl ⟨y2 rfl, O2, Γ2, S2, pe Γ2 S2 p2, st1.trans st2, ok2, env2⟩
section
variable {Ω : Wd}
@[irreducible] def ForO (Γ : Gam) (tg : Tg) (body : Bl Ω) (W : DL.Fin) (k : Nat) (ds : List D) (S1 : Store) : Prop :=
  ∃ Pv : Nat → Gam → Store → Prop, Pv 0 Γ S1 ∧ (∀ i Γ' S', Pv i Γ' S' → S'[k]? = some ds) ∧ (∀ i d Γ' S', ds[i]? = some d → Pv i Γ' S' → tg.wp d Γ' fun Γ2 => body.wp Γ2 S' { W with nx := Pv (i + 1), ct := Pv (i + 1), bk := W.nx }) ∧ (∀ Γ' S', Pv ds.length Γ' S' → W.nx Γ' S')
theorem forO_by {Γ : Gam} {tg : Tg} {body : Bl Ω} {W : DL.Fin} {k : Nat} {ds : List D} {S1 : Store} (h : ∃ Pv : Nat → Gam → Store → Prop, Pv 0 Γ S1 ∧ (∀ i Γ' S', Pv i Γ' S' → S'[k]? = some ds) ∧ (∀ i d Γ' S', ds[i]? = some d → Pv i Γ' S' → tg.wp d Γ' fun Γ2 => body.wp Γ2 S' { W with nx := Pv (i + 1), ct := Pv (i + 1), bk := W.nx }) ∧ (∀ Γ' S', Pv ds.length Γ' S' → W.nx Γ' S')) : ForO Γ tg body W k ds S1 := by unfold ForO; exact h
def Sm.forL (tg : Tg) (it : Ex Ω) (body : Bl Ω) : Sm Ω where
  lev := max it.lev body.lev
  chk top N nm st := match st with | .For t i b [] _ => okE i && (tg.chk top N nm t && (it.chk top N nm i && body.chk top N nm b)) | _ => false
  wp Γ S W := it.wp Γ S fun d S1 => match d with
    | .lst ds => ForW Γ tg body W ds S1
    | .tup ds => ForW Γ tg body W ds S1
    | .loc k => ∃ ds, S1[k]? = some ds ∧ ForO Γ tg body W k ds S1
    | _ => False
  sound := by
    intro X r top N nm st Γ S W A hl hc hw
    obtain ⟨l1, l2⟩ := lv2 hl
    split at hc
    · rename_i t i b pos
      obtain ⟨h1, hc⟩ := and2 hc
      obtain ⟨h2, hc⟩ := and2 hc
      obtain ⟨h3, h4⟩ := and2 hc
      have step : ∀ (Pv : Nat → Gam → Store → Prop) (ds : List D), (∀ i d Γ' S', ds[i]? = some d → Pv i Γ' S' → tg.wp d Γ' fun Γ2 => body.wp Γ2 S' { W with nx := Pv (i + 1), ct := Pv (i + 1), bk := W.nx }) → ∀ i d Γ' S', ds[i]? = some d → Pv i Γ' S' → BdW X t d Γ' S' fun Γ2 S2 => Rns X Γ2 S2 b { W with nx := Pv (i + 1), ct := Pv (i + 1), bk := W.nx } :=
        fun Pv ds pt i d Γ' S' hd hp => BdW.mono (Tg.sound A (W := fun Γ2 S2 => body.wp Γ2 S2 { W with nx := Pv (i + 1), ct := Pv (i + 1), bk := W.nx }) h2 (pt i d Γ' S' hd hp)) fun Γ2 S2 q => body.sound A l2 h4 q
      refine r_forC (it_own (Ev.mono (it.sound A l1 h3 hw) fun d S1 q => ?_)) (by rw [A.xe]; exact PassesOwn.never) A.calm (fold_ok h1 _)
      cases d with
      | lst ds =>
        have q : ForW Γ tg body W ds S1 := q
        unfold ForW at q
        obtain ⟨Pv, p0, pt, pe⟩ := q
        exact ⟨Pv, p0, fun _ _ _ _ => trivial, step Pv ds pt, pe⟩
      | tup ds =>
        have q : ForW Γ tg body W ds S1 := q
        unfold ForW at q
        obtain ⟨Pv, p0, pt, pe⟩ := q
        exact ⟨Pv, p0, fun _ _ _ _ => trivial, step Pv ds pt, pe⟩
      | loc k =>
        obtain ⟨ds, hk, q⟩ := q
        unfold ForO at q
        obtain ⟨Pv, p0, pC, pt, pe⟩ := q
        exact ⟨ds, hk, Pv, p0, pC, step Pv ds pt, pe⟩
      | _ => exact (show False from q).elim
    · exact (Bool.false_ne_true hc).elim
end
end RF
set_option Elab.async false
set_option linter.all false
set_option maxRecDepth 100000
set_option maxHeartbeats 4000000
namespace K03
open PySem L2 DL RF
/-! the text by places -/
def top (i : Nat) : Stmt := PySem.Challenge.pw_nestturn_k03_counts_gone_through.main.body.getD i (.Pass ⟨0, 0, 0, 0⟩)
/-! built-ins by their names -/
structure Bi (mg : Str → Option Value) : Prop where
  bool_ : mg "bool" = none
  enumerate_ : mg "enumerate" = none
  int_ : mg "int" = none
  isinstance_ : mg "isinstance" = none
  len_ : mg "len" = none
  list_ : mg "list" = none
  min_ : mg "min" = none
  range_ : mg "range" = none
  sorted_ : mg "sorted" = none
  sum_ : mg "sum" = none
  tuple_ : mg "tuple" = none
  zip_ : mg "zip" = none
section
variable {Ω : Wd}
abbrev s_p_comes_to : Stmt := top 1
abbrev N_p_comes_to : List Str := ["form", "counts"]
abbrev P_p_comes_to : List Str := ["form", "counts"]
def b_p_comes_to (B : Bi Ω.mg) : Bl Ω :=
  Bl.cons (Sm.ret (Ex.bin .Add (Ex.ix (Ex.var 0) (Ex.int 0)) (Ex.blt bSum B.sum_ (Ar.cons (Ex.comp ["number", "count"] [none, none] (Ex.bin .Mult (Ex.var 0) (Ex.var 1)) (Tg.tup [0, 1]) (Itb.zip B.zip_ (Ex.sl (Ex.var 0) (Po.so (Ex.int 1)) Po.no) (Ex.var 1)) Cd.no) Ar.nil)))) Bl.nil
abbrev s_p_with_next_count : Stmt := top 2
abbrev N_p_with_next_count : List Str := ["ahead", "low", "high", "longer", "counts", "count"]
abbrev P_p_with_next_count : List Str := ["ahead", "low", "high"]
def b_p_with_next_count_2 (B : Bi Ω.mg) {F_p_comes_to : Ct} (C_p_comes_to : Callee Ω.P Ω.w Ω.K Ω.mg Ω.base "comes_to" 1 2 F_p_comes_to) : Bl Ω :=
  Bl.cons (Sm.ret (Ex.var 3)) Bl.nil
def b_p_with_next_count_1 (B : Bi Ω.mg) {F_p_comes_to : Ct} (C_p_comes_to : Callee Ω.P Ω.w Ω.K Ω.mg Ω.base "comes_to" 1 2 F_p_comes_to) : Bl Ω :=
  Bl.cons (Sm.forL (Tg.nm 4) (Ex.var 0) (Bl.cons (Sm.for (Tg.nm 5) (Itb.rng2 B.range_ (Ex.call C_p_comes_to (Ar.cons (Ex.var 1) (Ar.cons (Ex.var 4) Ar.nil))) (Ex.call C_p_comes_to (Ar.cons (Ex.var 2) (Ar.cons (Ex.var 4) Ar.nil)))) (Bl.cons (Sm.expr (Ex.m_append (Ex.var 3) (Ex.bin .Add (Ex.var 4) (Ex.tup (Ar.cons (Ex.var 5) Ar.nil))))) Bl.nil)) Bl.nil)) (b_p_with_next_count_2 B C_p_comes_to)
def b_p_with_next_count (B : Bi Ω.mg) {F_p_comes_to : Ct} (C_p_comes_to : Callee Ω.P Ω.w Ω.K Ω.mg Ω.base "comes_to" 1 2 F_p_comes_to) : Bl Ω :=
  Bl.cons (Sm.set 3 (Ex.own Ar.nil)) (b_p_with_next_count_1 B C_p_comes_to)
abbrev s_p_counts_of : Stmt := top 3
abbrev N_p_counts_of : List Str := ["loops", "told", "low", "high"]
abbrev P_p_counts_of : List Str := ["loops"]
def b_p_counts_of_2 {F_p_with_next_count : Ct} (C_p_with_next_count : Callee Ω.P Ω.w Ω.K Ω.mg Ω.base "with_next_count" 2 3 F_p_with_next_count) : Bl Ω :=
  Bl.cons (Sm.ret (Ex.var 1)) Bl.nil
def b_p_counts_of_1 {F_p_with_next_count : Ct} (C_p_with_next_count : Callee Ω.P Ω.w Ω.K Ω.mg Ω.base "with_next_count" 2 3 F_p_with_next_count) : Bl Ω :=
  Bl.cons (Sm.forL (Tg.tup [2, 3]) (Ex.var 0) (Bl.cons (Sm.set 1 (Ex.call C_p_with_next_count (Ar.cons (Ex.var 1) (Ar.cons (Ex.var 2) (Ar.cons (Ex.var 3) Ar.nil))))) Bl.nil)) (b_p_counts_of_2 C_p_with_next_count)
def b_p_counts_of {F_p_with_next_count : Ct} (C_p_with_next_count : Callee Ω.P Ω.w Ω.K Ω.mg Ω.base "with_next_count" 2 3 F_p_with_next_count) : Bl Ω :=
  Bl.cons (Sm.set 1 (Ex.lst (Ar.cons (Ex.tup Ar.nil) Ar.nil))) (b_p_counts_of_1 C_p_with_next_count)
abbrev s_l_cell_at : Stmt := top 5
abbrev N_l_cell_at : List Str := ["_law_script", "_law_k"]
abbrev P_l_cell_at : List Str := ["_law_script", "_law_k"]
def b_l_cell_at_1 (B : Bi Ω.mg) : Bl Ω :=
  Bl.cons (Sm.ret (Ex.int 0)) Bl.nil
def b_l_cell_at (B : Bi Ω.mg) : Bl Ω :=
  Bl.cons (Sm.ite (Te.cmp .Lt (Ex.var 1) (Ex.blt bLen B.len_ (Ar.cons (Ex.var 0) Ar.nil))) (Bl.cons (Sm.ret (Ex.ix (Ex.var 0) (Ex.var 1))) Bl.nil) Bl.nil) (b_l_cell_at_1 B)
abbrev s_l_pen : Stmt := top 6
abbrev N_l_pen : List Str := ["_law_script", "_law_seed"]
abbrev P_l_pen : List Str := ["_law_script"]
def b_l_pen_1 (B : Bi Ω.mg) {F_l_cell_at : Ct} (C_l_cell_at : Callee Ω.P Ω.w Ω.K Ω.mg Ω.base "_law_cell_at" 1 2 F_l_cell_at) : Bl Ω :=
  Bl.cons (Sm.ret (Ex.own (Ar.cons (Ex.var 0) (Ar.cons (Ex.int 1) (Ar.cons (Ex.call C_l_cell_at (Ar.cons (Ex.var 0) (Ar.cons (Ex.int 1) Ar.nil))) (Ar.cons (Ex.int 0) (Ar.cons (Ex.bin .Mod (Ex.call C_l_cell_at (Ar.cons (Ex.var 0) (Ar.cons (Ex.int 0) Ar.nil))) (Ex.int 2)) (Ar.cons (Ex.var 1) Ar.nil)))))))) Bl.nil
def b_l_pen (B : Bi Ω.mg) {F_l_cell_at : Ct} (C_l_cell_at : Callee Ω.P Ω.w Ω.K Ω.mg Ω.base "_law_cell_at" 1 2 F_l_cell_at) : Bl Ω :=
  Bl.cons (Sm.set 1 (Ex.bin .Mod (Ex.blt bSum B.sum_ (Ar.cons (Ex.comp ["_law_k", "_law_cell"] [none, none] (Ex.bin .Mult (Ex.bin .Add (Ex.bin .Mod (Ex.var 1) (Ex.int 2147483629)) (Ex.int 1)) (Ex.bin .Add (Ex.bin .Mult (Ex.var 0) (Ex.var 0)) (Ex.int 7))) (Tg.tup [0, 1]) (Itb.enm B.enumerate_ (Ex.sl (Ex.var 0) Po.no (Po.so (Ex.int 63)))) Cd.no) Ar.nil)) (Ex.int 2147483647))) (b_l_pen_1 B C_l_cell_at)
abbrev s_l_take : Stmt := top 7
abbrev N_l_take : List Str := ["_law_pen_here", "_law_most", "_law_found"]
abbrev P_l_take : List Str := ["_law_pen_here", "_law_most"]
def b_l_take_x1_1 {F_l_cell_at : Ct} (C_l_cell_at : Callee Ω.P Ω.w Ω.K Ω.mg Ω.base "_law_cell_at" 1 2 F_l_cell_at) : Bl Ω :=
  Bl.cons (Sm.ret (Ex.bin .Mod (Ex.bin .FloorDiv (Ex.bin .Mod (Ex.bin .Mult (Ex.ix (Ex.var 0) (Ex.int 5)) (Ex.int 1181783497276652981)) (Ex.int 2305843009213693951)) (Ex.int 64)) (Ex.var 1))) Bl.nil
def b_l_take_x1 {F_l_cell_at : Ct} (C_l_cell_at : Callee Ω.P Ω.w Ω.K Ω.mg Ω.base "_law_cell_at" 1 2 F_l_cell_at) : Bl Ω :=
  Bl.cons (Sm.setIx (Ex.var 0) (Ex.int 5) (Ex.bin .Mod (Ex.bin .Add (Ex.bin .Mult (Ex.ix (Ex.var 0) (Ex.int 5)) (Ex.int 48271)) (Ex.int 12345)) (Ex.int 2147483647))) (b_l_take_x1_1 C_l_cell_at)
def b_l_take_x2_2 {F_l_cell_at : Ct} (C_l_cell_at : Callee Ω.P Ω.w Ω.K Ω.mg Ω.base "_law_cell_at" 1 2 F_l_cell_at) : Bl Ω :=
  Bl.cons (Sm.setIx (Ex.var 0) (Ex.int 3) (Ex.int 0)) Bl.nil
def b_l_take_x2_1 {F_l_cell_at : Ct} (C_l_cell_at : Callee Ω.P Ω.w Ω.K Ω.mg Ω.base "_law_cell_at" 1 2 F_l_cell_at) : Bl Ω :=
  Bl.cons (Sm.setIx (Ex.var 0) (Ex.int 2) (Ex.call C_l_cell_at (Ar.cons (Ex.ix (Ex.var 0) (Ex.int 0)) (Ar.cons (Ex.ix (Ex.var 0) (Ex.int 1)) Ar.nil)))) (b_l_take_x2_2 C_l_cell_at)
def b_l_take_x2 {F_l_cell_at : Ct} (C_l_cell_at : Callee Ω.P Ω.w Ω.K Ω.mg Ω.base "_law_cell_at" 1 2 F_l_cell_at) : Bl Ω :=
  Bl.cons (Sm.setIx (Ex.var 0) (Ex.int 1) (Ex.bin .Add (Ex.ix (Ex.var 0) (Ex.int 1)) (Ex.int 1))) (b_l_take_x2_1 C_l_cell_at)
def b_l_take_5 {F_l_cell_at : Ct} (C_l_cell_at : Callee Ω.P Ω.w Ω.K Ω.mg Ω.base "_law_cell_at" 1 2 F_l_cell_at) : Bl Ω :=
  Bl.cons (Sm.ret (Ex.var 2)) Bl.nil
def b_l_take_4 {F_l_cell_at : Ct} (C_l_cell_at : Callee Ω.P Ω.w Ω.K Ω.mg Ω.base "_law_cell_at" 1 2 F_l_cell_at) : Bl Ω :=
  Bl.cons (Sm.setIx (Ex.var 0) (Ex.int 2) (Ex.bin .FloorDiv (Ex.ix (Ex.var 0) (Ex.int 2)) (Ex.var 1))) (b_l_take_5 C_l_cell_at)
def b_l_take_3 {F_l_cell_at : Ct} (C_l_cell_at : Callee Ω.P Ω.w Ω.K Ω.mg Ω.base "_law_cell_at" 1 2 F_l_cell_at) : Bl Ω :=
  Bl.cons (Sm.set 2 (Ex.bin .Mod (Ex.ix (Ex.var 0) (Ex.int 2)) (Ex.var 1))) (b_l_take_4 C_l_cell_at)
def b_l_take_2 {F_l_cell_at : Ct} (C_l_cell_at : Callee Ω.P Ω.w Ω.K Ω.mg Ω.base "_law_cell_at" 1 2 F_l_cell_at) : Bl Ω :=
  Bl.cons (Sm.setIx (Ex.var 0) (Ex.int 3) (Ex.bin .Add (Ex.ix (Ex.var 0) (Ex.int 3)) (Ex.int 1))) (b_l_take_3 C_l_cell_at)
def b_l_take_1 {F_l_cell_at : Ct} (C_l_cell_at : Callee Ω.P Ω.w Ω.K Ω.mg Ω.base "_law_cell_at" 1 2 F_l_cell_at) : Bl Ω :=
  Bl.cons (Sm.ite (Te.cmp .Eq (Ex.ix (Ex.var 0) (Ex.int 3)) (Ex.int 50)) (b_l_take_x2 C_l_cell_at) Bl.nil) (b_l_take_2 C_l_cell_at)
def b_l_take {F_l_cell_at : Ct} (C_l_cell_at : Callee Ω.P Ω.w Ω.K Ω.mg Ω.base "_law_cell_at" 1 2 F_l_cell_at) : Bl Ω :=
  Bl.cons (Sm.ite (Te.cmp .Eq (Ex.ix (Ex.var 0) (Ex.int 4)) (Ex.int 1)) (b_l_take_x1 C_l_cell_at) Bl.nil) (b_l_take_1 C_l_cell_at)
abbrev s_l_bound : Stmt := top 8
abbrev N_l_bound : List Str := ["_law_pen_here", "_law_k"]
abbrev P_l_bound : List Str := ["_law_pen_here", "_law_k"]
def b_l_bound (B : Bi Ω.mg) {F_l_take : Ct} (C_l_take : Callee Ω.P Ω.w Ω.K Ω.mg Ω.base "_law_take" 2 2 F_l_take) : Bl Ω :=
  Bl.cons (Sm.ret (Ex.bin .Add (Ex.tup (Ar.cons (Ex.bin .Sub (Ex.call C_l_take (Ar.cons (Ex.var 0) (Ar.cons (Ex.int 19) Ar.nil))) (Ex.int 9)) Ar.nil)) (Ex.typ tTuple B.tuple_ (Ar.cons (Ex.comp ["_law_j", "_law_pen_here"] [none, some 0] (Ex.bin .Sub (Ex.call C_l_take (Ar.cons (Ex.var 1) (Ar.cons (Ex.int 5) Ar.nil))) (Ex.int 2)) (Tg.nm 0) (Itb.rng1 B.range_ (Ex.var 1)) Cd.no) Ar.nil)))) Bl.nil
abbrev s_l_loop : Stmt := top 9
abbrev N_l_loop : List Str := ["_law_pen_here", "_law_k", "_law_way", "_law_low", "_law_high", "_law_at_here"]
abbrev P_l_loop : List Str := ["_law_pen_here", "_law_k"]
def b_l_loop_x1_1 (B : Bi Ω.mg) {F_l_take : Ct} (C_l_take : Callee Ω.P Ω.w Ω.K Ω.mg Ω.base "_law_take" 2 2 F_l_take) {F_l_bound : Ct} (C_l_bound : Callee Ω.P Ω.w Ω.K Ω.mg Ω.base "_law_bound" 3 2 F_l_bound) : Bl Ω :=
  Bl.cons (Sm.set 4 (Ex.bin .Add (Ex.bin .Add (Ex.sl (Ex.var 4) Po.no (Po.so (Ex.var 5))) (Ex.tup (Ar.cons (Ex.bin .Sub (Ex.call C_l_take (Ar.cons (Ex.var 0) (Ar.cons (Ex.int 5) Ar.nil))) (Ex.int 2)) Ar.nil))) (Ex.sl (Ex.var 4) (Po.so (Ex.bin .Add (Ex.var 5) (Ex.int 1))) Po.no))) Bl.nil
def b_l_loop_x1 (B : Bi Ω.mg) {F_l_take : Ct} (C_l_take : Callee Ω.P Ω.w Ω.K Ω.mg Ω.base "_law_take" 2 2 F_l_take) {F_l_bound : Ct} (C_l_bound : Callee Ω.P Ω.w Ω.K Ω.mg Ω.base "_law_bound" 3 2 F_l_bound) : Bl Ω :=
  Bl.cons (Sm.set 5 (Ex.bin .Add (Ex.int 1) (Ex.call C_l_take (Ar.cons (Ex.var 0) (Ar.cons (Ex.var 1) Ar.nil))))) (b_l_loop_x1_1 B C_l_take C_l_bound)
def b_l_loop_6 (B : Bi Ω.mg) {F_l_take : Ct} (C_l_take : Callee Ω.P Ω.w Ω.K Ω.mg Ω.base "_law_take" 2 2 F_l_take) {F_l_bound : Ct} (C_l_bound : Callee Ω.P Ω.w Ω.K Ω.mg Ω.base "_law_bound" 3 2 F_l_bound) : Bl Ω :=
  Bl.cons (Sm.ret (Ex.tup (Ar.cons (Ex.var 3) (Ar.cons (Ex.var 4) Ar.nil)))) Bl.nil
def b_l_loop_5 (B : Bi Ω.mg) {F_l_take : Ct} (C_l_take : Callee Ω.P Ω.w Ω.K Ω.mg Ω.base "_law_take" 2 2 F_l_take) {F_l_bound : Ct} (C_l_bound : Callee Ω.P Ω.w Ω.K Ω.mg Ω.base "_law_bound" 3 2 F_l_bound) : Bl Ω :=
  Bl.cons (Sm.ite (Te.and (Bt.cons (Te.cmp .Gt (Ex.var 1) (Ex.int 0)) (Bt.one (Te.cmp .Eq (Ex.call C_l_take (Ar.cons (Ex.var 0) (Ar.cons (Ex.int 2) Ar.nil))) (Ex.int 1))))) (b_l_loop_x1 B C_l_take C_l_bound) Bl.nil) (b_l_loop_6 B C_l_take C_l_bound)
def b_l_loop_4 (B : Bi Ω.mg) {F_l_take : Ct} (C_l_take : Callee Ω.P Ω.w Ω.K Ω.mg Ω.base "_law_take" 2 2 F_l_take) {F_l_bound : Ct} (C_l_bound : Callee Ω.P Ω.w Ω.K Ω.mg Ω.base "_law_bound" 3 2 F_l_bound) : Bl Ω :=
  Bl.cons (Sm.set 4 (Ex.bin .Add (Ex.tup (Ar.cons (Ex.blt bMin B.min_ (Ar.cons (Ex.int 9) (Ar.cons (Ex.bin .Add (Ex.ix (Ex.var 3) (Ex.int 0)) (Ex.call C_l_take (Ar.cons (Ex.var 0) (Ar.cons (Ex.int 6) Ar.nil)))) Ar.nil))) Ar.nil)) (Ex.sl (Ex.var 3) (Po.so (Ex.int 1)) Po.no))) (b_l_loop_5 B C_l_take C_l_bound)
def b_l_loop_3 (B : Bi Ω.mg) {F_l_take : Ct} (C_l_take : Callee Ω.P Ω.w Ω.K Ω.mg Ω.base "_law_take" 2 2 F_l_take) {F_l_bound : Ct} (C_l_bound : Callee Ω.P Ω.w Ω.K Ω.mg Ω.base "_law_bound" 3 2 F_l_bound) : Bl Ω :=
  Bl.cons (Sm.ite (Te.cmp .Eq (Ex.var 2) (Ex.int 1)) (Bl.cons (Sm.set 3 (Ex.bin .Add (Ex.tup (Ar.cons (Ex.bin .Sub (Ex.call C_l_take (Ar.cons (Ex.var 0) (Ar.cons (Ex.int 5) Ar.nil))) (Ex.int 2)) Ar.nil)) (Ex.bin .Mult (Ex.tup (Ar.cons (Ex.int 0) Ar.nil)) (Ex.var 1)))) Bl.nil) Bl.nil) (b_l_loop_4 B C_l_take C_l_bound)
def b_l_loop_2 (B : Bi Ω.mg) {F_l_take : Ct} (C_l_take : Callee Ω.P Ω.w Ω.K Ω.mg Ω.base "_law_take" 2 2 F_l_take) {F_l_bound : Ct} (C_l_bound : Callee Ω.P Ω.w Ω.K Ω.mg Ω.base "_law_bound" 3 2 F_l_bound) : Bl Ω :=
  Bl.cons (Sm.ite (Te.cmp .Eq (Ex.var 2) (Ex.int 0)) (Bl.cons (Sm.ret (Ex.tup (Ar.cons (Ex.var 3) (Ar.cons (Ex.call C_l_bound (Ar.cons (Ex.var 0) (Ar.cons (Ex.var 1) Ar.nil))) Ar.nil)))) Bl.nil) Bl.nil) (b_l_loop_3 B C_l_take C_l_bound)
def b_l_loop_1 (B : Bi Ω.mg) {F_l_take : Ct} (C_l_take : Callee Ω.P Ω.w Ω.K Ω.mg Ω.base "_law_take" 2 2 F_l_take) {F_l_bound : Ct} (C_l_bound : Callee Ω.P Ω.w Ω.K Ω.mg Ω.base "_law_bound" 3 2 F_l_bound) : Bl Ω :=
  Bl.cons (Sm.set 3 (Ex.call C_l_bound (Ar.cons (Ex.var 0) (Ar.cons (Ex.var 1) Ar.nil)))) (b_l_loop_2 B C_l_take C_l_bound)
def b_l_loop (B : Bi Ω.mg) {F_l_take : Ct} (C_l_take : Callee Ω.P Ω.w Ω.K Ω.mg Ω.base "_law_take" 2 2 F_l_take) {F_l_bound : Ct} (C_l_bound : Callee Ω.P Ω.w Ω.K Ω.mg Ω.base "_law_bound" 3 2 F_l_bound) : Bl Ω :=
  Bl.cons (Sm.set 2 (Ex.call C_l_take (Ar.cons (Ex.var 0) (Ar.cons (Ex.int 3) Ar.nil)))) (b_l_loop_1 B C_l_take C_l_bound)
abbrev s_l_at : Stmt := top 10
abbrev N_l_at : List Str := ["_law_form", "_law_counts", "_law_total", "_law_k"]
abbrev P_l_at : List Str := ["_law_form", "_law_counts"]
def b_l_at_2 (B : Bi Ω.mg) : Bl Ω :=
  Bl.cons (Sm.ret (Ex.var 2)) Bl.nil
def b_l_at_1 (B : Bi Ω.mg) : Bl Ω :=
  Bl.cons (Sm.for (Tg.nm 3) (Itb.rng1 B.range_ (Ex.blt bLen B.len_ (Ar.cons (Ex.var 1) Ar.nil))) (Bl.cons (Sm.set 2 (Ex.bin .Add (Ex.var 2) (Ex.bin .Mult (Ex.ix (Ex.var 0) (Ex.bin .Add (Ex.int 1) (Ex.var 3))) (Ex.ix (Ex.var 1) (Ex.var 3))))) Bl.nil)) (b_l_at_2 B)
def b_l_at (B : Bi Ω.mg) : Bl Ω :=
  Bl.cons (Sm.set 2 (Ex.ix (Ex.var 0) (Ex.int 0))) (b_l_at_1 B)
abbrev s_l_gone_through : Stmt := top 11
abbrev N_l_gone_through : List Str := ["_law_loops", "_law_going", "_law_low", "_law_high", "_law_longer", "_law_counts", "_law_count"]
abbrev P_l_gone_through : List Str := ["_law_loops"]
def b_l_gone_through_x1_1 (B : Bi Ω.mg) {F_l_at : Ct} (C_l_at : Callee Ω.P Ω.w Ω.K Ω.mg Ω.base "_law_at" 1 2 F_l_at) : Bl Ω :=
  Bl.cons (Sm.set 6 (Ex.bin .Add (Ex.var 6) (Ex.int 1))) Bl.nil
def b_l_gone_through_x1 (B : Bi Ω.mg) {F_l_at : Ct} (C_l_at : Callee Ω.P Ω.w Ω.K Ω.mg Ω.base "_law_at" 1 2 F_l_at) : Bl Ω :=
  Bl.cons (Sm.expr (Ex.m_append (Ex.var 4) (Ex.bin .Add (Ex.var 5) (Ex.tup (Ar.cons (Ex.var 6) Ar.nil))))) (b_l_gone_through_x1_1 B C_l_at)
def b_l_gone_through_x2_1 (B : Bi Ω.mg) {F_l_at : Ct} (C_l_at : Callee Ω.P Ω.w Ω.K Ω.mg Ω.base "_law_at" 1 2 F_l_at) : Bl Ω :=
  Bl.cons (Sm.while (Te.and (Bt.cons (Te.cmp .Lt (Ex.var 6) (Ex.call C_l_at (Ar.cons (Ex.var 3) (Ar.cons (Ex.var 5) Ar.nil)))) (Bt.one (Te.cmp .Lt (Ex.blt bLen B.len_ (Ar.cons (Ex.var 4) Ar.nil)) (Ex.int 1000))))) (b_l_gone_through_x1 B C_l_at)) Bl.nil
def b_l_gone_through_x2 (B : Bi Ω.mg) {F_l_at : Ct} (C_l_at : Callee Ω.P Ω.w Ω.K Ω.mg Ω.base "_law_at" 1 2 F_l_at) : Bl Ω :=
  Bl.cons (Sm.set 6 (Ex.call C_l_at (Ar.cons (Ex.var 2) (Ar.cons (Ex.var 5) Ar.nil)))) (b_l_gone_through_x2_1 B C_l_at)
def b_l_gone_through_x3_2 (B : Bi Ω.mg) {F_l_at : Ct} (C_l_at : Callee Ω.P Ω.w Ω.K Ω.mg Ω.base "_law_at" 1 2 F_l_at) : Bl Ω :=
  Bl.cons (Sm.set 1 (Ex.var 4)) Bl.nil
def b_l_gone_through_x3_1 (B : Bi Ω.mg) {F_l_at : Ct} (C_l_at : Callee Ω.P Ω.w Ω.K Ω.mg Ω.base "_law_at" 1 2 F_l_at) : Bl Ω :=
  Bl.cons (Sm.forL (Tg.nm 5) (Ex.var 1) (b_l_gone_through_x2 B C_l_at)) (b_l_gone_through_x3_2 B C_l_at)
def b_l_gone_through_x3 (B : Bi Ω.mg) {F_l_at : Ct} (C_l_at : Callee Ω.P Ω.w Ω.K Ω.mg Ω.base "_law_at" 1 2 F_l_at) : Bl Ω :=
  Bl.cons (Sm.set 4 (Ex.own Ar.nil)) (b_l_gone_through_x3_1 B C_l_at)
def b_l_gone_through_3 (B : Bi Ω.mg) {F_l_at : Ct} (C_l_at : Callee Ω.P Ω.w Ω.K Ω.mg Ω.base "_law_at" 1 2 F_l_at) : Bl Ω :=
  Bl.cons (Sm.ret (Ex.var 1)) Bl.nil
def b_l_gone_through_2 (B : Bi Ω.mg) {F_l_at : Ct} (C_l_at : Callee Ω.P Ω.w Ω.K Ω.mg Ω.base "_law_at" 1 2 F_l_at) : Bl Ω :=
  Bl.cons (Sm.ite (Te.cmp .Gt (Ex.blt bLen B.len_ (Ar.cons (Ex.var 1) Ar.nil)) (Ex.int 300)) (Bl.cons (Sm.ret Ex.non) Bl.nil) Bl.nil) (b_l_gone_through_3 B C_l_at)
def b_l_gone_through_1 (B : Bi Ω.mg) {F_l_at : Ct} (C_l_at : Callee Ω.P Ω.w Ω.K Ω.mg Ω.base "_law_at" 1 2 F_l_at) : Bl Ω :=
  Bl.cons (Sm.forL (Tg.tup [2, 3]) (Ex.var 0) (Bl.fzl (b_l_gone_through_x3 B C_l_at))) (b_l_gone_through_2 B C_l_at)
def b_l_gone_through (B : Bi Ω.mg) {F_l_at : Ct} (C_l_at : Callee Ω.P Ω.w Ω.K Ω.mg Ω.base "_law_at" 1 2 F_l_at) : Bl Ω :=
  Bl.cons (Sm.set 1 (Ex.lst (Ar.cons (Ex.tup Ar.nil) Ar.nil))) (b_l_gone_through_1 B C_l_at)
abbrev s_l_right : Stmt := top 12
abbrev N_l_right : List Str := ["_law_found", "_law_due", "_law_counts"]
abbrev P_l_right : List Str := ["_law_found", "_law_due"]
def b_l_right_x1_1 (B : Bi Ω.mg) : Bl Ω :=
  Bl.cons (Sm.ite (Te.cmp .NotEq (Ex.comp ["_law_count"] [none] (Ex.var 0) (Tg.nm 0) (Itb.seq (Ex.var 2)) (Cd.so (Te.or (Bt.cons (Te.not (Te.val (Ex.isi B.isinstance_ (Ex.var 0) .int B.int_))) (Bt.one (Te.val (Ex.isi B.isinstance_ (Ex.var 0) .bool B.bool_))))))) (Ex.lst Ar.nil)) (Bl.cons (Sm.ret (Ex.bl false)) Bl.nil) Bl.nil) Bl.nil
def b_l_right_x1 (B : Bi Ω.mg) : Bl Ω :=
  Bl.cons (Sm.ite (Te.not (Te.val (Ex.isi B.isinstance_ (Ex.var 2) .tuple B.tuple_))) (Bl.cons (Sm.ret (Ex.bl false)) Bl.nil) Bl.nil) (b_l_right_x1_1 B)
def b_l_right_2 (B : Bi Ω.mg) : Bl Ω :=
  Bl.cons (Sm.ret (Ex.bl true)) Bl.nil
def b_l_right_1 (B : Bi Ω.mg) : Bl Ω :=
  Bl.cons (Sm.forL (Tg.nm 2) (Ex.var 0) (b_l_right_x1 B)) (b_l_right_2 B)
def b_l_right (B : Bi Ω.mg) : Bl Ω :=
  Bl.cons (Sm.ite (Te.or (Bt.cons (Te.not (Te.val (Ex.isi B.isinstance_ (Ex.var 0) .list B.list_))) (Bt.one (Te.cmp .NotEq (Ex.var 0) (Ex.var 1))))) (Bl.cons (Sm.ret (Ex.bl false)) Bl.nil) Bl.nil) (b_l_right_1 B)
abbrev s_law : Stmt := top 13
abbrev N_law : List Str := ["_law_script", "_law_pen_here", "_law_turn", "_law_loops", "_law_due", "_law_found"]
abbrev P_law : List Str := ["_law_script"]
def b_law_x1_1 (B : Bi Ω.mg) {F_p_counts_of : Ct} (C_p_counts_of : Callee Ω.P Ω.w Ω.K Ω.mg Ω.base "counts_of" 3 1 F_p_counts_of) {F_l_pen : Ct} (C_l_pen : Callee Ω.P Ω.w Ω.K Ω.mg Ω.base "_law_pen" 2 1 F_l_pen) {F_l_take : Ct} (C_l_take : Callee Ω.P Ω.w Ω.K Ω.mg Ω.base "_law_take" 2 2 F_l_take) {F_l_loop : Ct} (C_l_loop : Callee Ω.P Ω.w Ω.K Ω.mg Ω.base "_law_loop" 4 2 F_l_loop) {F_l_gone_through : Ct} (C_l_gone_through : Callee Ω.P Ω.w Ω.K Ω.mg Ω.base "_law_gone_through" 2 1 F_l_gone_through) {F_l_right : Ct} (C_l_right : Callee Ω.P Ω.w Ω.K Ω.mg Ω.base "_law_right" 1 2 F_l_right) : Bl Ω :=
  Bl.cons (Sm.set 4 (Ex.call C_l_gone_through (Ar.cons (Ex.var 3) Ar.nil))) Bl.nil
def b_law_x1 (B : Bi Ω.mg) {F_p_counts_of : Ct} (C_p_counts_of : Callee Ω.P Ω.w Ω.K Ω.mg Ω.base "counts_of" 3 1 F_p_counts_of) {F_l_pen : Ct} (C_l_pen : Callee Ω.P Ω.w Ω.K Ω.mg Ω.base "_law_pen" 2 1 F_l_pen) {F_l_take : Ct} (C_l_take : Callee Ω.P Ω.w Ω.K Ω.mg Ω.base "_law_take" 2 2 F_l_take) {F_l_loop : Ct} (C_l_loop : Callee Ω.P Ω.w Ω.K Ω.mg Ω.base "_law_loop" 4 2 F_l_loop) {F_l_gone_through : Ct} (C_l_gone_through : Callee Ω.P Ω.w Ω.K Ω.mg Ω.base "_law_gone_through" 2 1 F_l_gone_through) {F_l_right : Ct} (C_l_right : Callee Ω.P Ω.w Ω.K Ω.mg Ω.base "_law_right" 1 2 F_l_right) : Bl Ω :=
  Bl.cons (Sm.set 3 (Ex.sl (Ex.var 3) Po.no (Po.so (Ex.int 1)))) (b_law_x1_1 B C_p_counts_of C_l_pen C_l_take C_l_loop C_l_gone_through C_l_right)
def b_law_x2_6 (B : Bi Ω.mg) {F_p_counts_of : Ct} (C_p_counts_of : Callee Ω.P Ω.w Ω.K Ω.mg Ω.base "counts_of" 3 1 F_p_counts_of) {F_l_pen : Ct} (C_l_pen : Callee Ω.P Ω.w Ω.K Ω.mg Ω.base "_law_pen" 2 1 F_l_pen) {F_l_take : Ct} (C_l_take : Callee Ω.P Ω.w Ω.K Ω.mg Ω.base "_law_take" 2 2 F_l_take) {F_l_loop : Ct} (C_l_loop : Callee Ω.P Ω.w Ω.K Ω.mg Ω.base "_law_loop" 4 2 F_l_loop) {F_l_gone_through : Ct} (C_l_gone_through : Callee Ω.P Ω.w Ω.K Ω.mg Ω.base "_law_gone_through" 2 1 F_l_gone_through) {F_l_right : Ct} (C_l_right : Callee Ω.P Ω.w Ω.K Ω.mg Ω.base "_law_right" 1 2 F_l_right) : Bl Ω :=
  Bl.cons (Sm.ite (Te.not (Te.val (Ex.call C_l_right (Ar.cons (Ex.call C_p_counts_of (Ar.cons (Ex.var 3) Ar.nil)) (Ar.cons (Ex.var 4) Ar.nil))))) (Bl.cons (Sm.ret (Ex.bl false)) Bl.nil) Bl.nil) Bl.nil
def b_law_x2_5 (B : Bi Ω.mg) {F_p_counts_of : Ct} (C_p_counts_of : Callee Ω.P Ω.w Ω.K Ω.mg Ω.base "counts_of" 3 1 F_p_counts_of) {F_l_pen : Ct} (C_l_pen : Callee Ω.P Ω.w Ω.K Ω.mg Ω.base "_law_pen" 2 1 F_l_pen) {F_l_take : Ct} (C_l_take : Callee Ω.P Ω.w Ω.K Ω.mg Ω.base "_law_take" 2 2 F_l_take) {F_l_loop : Ct} (C_l_loop : Callee Ω.P Ω.w Ω.K Ω.mg Ω.base "_law_loop" 4 2 F_l_loop) {F_l_gone_through : Ct} (C_l_gone_through : Callee Ω.P Ω.w Ω.K Ω.mg Ω.base "_law_gone_through" 2 1 F_l_gone_through) {F_l_right : Ct} (C_l_right : Callee Ω.P Ω.w Ω.K Ω.mg Ω.base "_law_right" 1 2 F_l_right) : Bl Ω :=
  Bl.cons (Sm.expr (Ex.m_append (Ex.var 5) (Ex.tup Ar.nil))) (b_law_x2_6 B C_p_counts_of C_l_pen C_l_take C_l_loop C_l_gone_through C_l_right)
def b_law_x2_4 (B : Bi Ω.mg) {F_p_counts_of : Ct} (C_p_counts_of : Callee Ω.P Ω.w Ω.K Ω.mg Ω.base "counts_of" 3 1 F_p_counts_of) {F_l_pen : Ct} (C_l_pen : Callee Ω.P Ω.w Ω.K Ω.mg Ω.base "_law_pen" 2 1 F_l_pen) {F_l_take : Ct} (C_l_take : Callee Ω.P Ω.w Ω.K Ω.mg Ω.base "_law_take" 2 2 F_l_take) {F_l_loop : Ct} (C_l_loop : Callee Ω.P Ω.w Ω.K Ω.mg Ω.base "_law_loop" 4 2 F_l_loop) {F_l_gone_through : Ct} (C_l_gone_through : Callee Ω.P Ω.w Ω.K Ω.mg Ω.base "_law_gone_through" 2 1 F_l_gone_through) {F_l_right : Ct} (C_l_right : Callee Ω.P Ω.w Ω.K Ω.mg Ω.base "_law_right" 1 2 F_l_right) : Bl Ω :=
  Bl.cons (Sm.ite (Te.or (Bt.cons (Te.not (Te.val (Ex.call C_l_right (Ar.cons (Ex.var 5) (Ar.cons (Ex.var 4) Ar.nil))))) (Bt.one (Te.cmp .NotEq (Ex.var 5) (Ex.blt bSortAsc B.sorted_ (Ar.cons (Ex.var 5) Ar.nil)))))) (Bl.cons (Sm.ret (Ex.bl false)) Bl.nil) Bl.nil) (b_law_x2_5 B C_p_counts_of C_l_pen C_l_take C_l_loop C_l_gone_through C_l_right)
def b_law_x2_3 (B : Bi Ω.mg) {F_p_counts_of : Ct} (C_p_counts_of : Callee Ω.P Ω.w Ω.K Ω.mg Ω.base "counts_of" 3 1 F_p_counts_of) {F_l_pen : Ct} (C_l_pen : Callee Ω.P Ω.w Ω.K Ω.mg Ω.base "_law_pen" 2 1 F_l_pen) {F_l_take : Ct} (C_l_take : Callee Ω.P Ω.w Ω.K Ω.mg Ω.base "_law_take" 2 2 F_l_take) {F_l_loop : Ct} (C_l_loop : Callee Ω.P Ω.w Ω.K Ω.mg Ω.base "_law_loop" 4 2 F_l_loop) {F_l_gone_through : Ct} (C_l_gone_through : Callee Ω.P Ω.w Ω.K Ω.mg Ω.base "_law_gone_through" 2 1 F_l_gone_through) {F_l_right : Ct} (C_l_right : Callee Ω.P Ω.w Ω.K Ω.mg Ω.base "_law_right" 1 2 F_l_right) : Bl Ω :=
  Bl.cons (Sm.set 5 (Ex.call C_p_counts_of (Ar.cons (Ex.var 3) Ar.nil))) (b_law_x2_4 B C_p_counts_of C_l_pen C_l_take C_l_loop C_l_gone_through C_l_right)
def b_law_x2_2 (B : Bi Ω.mg) {F_p_counts_of : Ct} (C_p_counts_of : Callee Ω.P Ω.w Ω.K Ω.mg Ω.base "counts_of" 3 1 F_p_counts_of) {F_l_pen : Ct} (C_l_pen : Callee Ω.P Ω.w Ω.K Ω.mg Ω.base "_law_pen" 2 1 F_l_pen) {F_l_take : Ct} (C_l_take : Callee Ω.P Ω.w Ω.K Ω.mg Ω.base "_law_take" 2 2 F_l_take) {F_l_loop : Ct} (C_l_loop : Callee Ω.P Ω.w Ω.K Ω.mg Ω.base "_law_loop" 4 2 F_l_loop) {F_l_gone_through : Ct} (C_l_gone_through : Callee Ω.P Ω.w Ω.K Ω.mg Ω.base "_law_gone_through" 2 1 F_l_gone_through) {F_l_right : Ct} (C_l_right : Callee Ω.P Ω.w Ω.K Ω.mg Ω.base "_law_right" 1 2 F_l_right) : Bl Ω :=
  Bl.cons (Sm.ite (Te.cmp .Is (Ex.var 4) Ex.non) (b_law_x1 B C_p_counts_of C_l_pen C_l_take C_l_loop C_l_gone_through C_l_right) Bl.nil) (b_law_x2_3 B C_p_counts_of C_l_pen C_l_take C_l_loop C_l_gone_through C_l_right)
def b_law_x2_1 (B : Bi Ω.mg) {F_p_counts_of : Ct} (C_p_counts_of : Callee Ω.P Ω.w Ω.K Ω.mg Ω.base "counts_of" 3 1 F_p_counts_of) {F_l_pen : Ct} (C_l_pen : Callee Ω.P Ω.w Ω.K Ω.mg Ω.base "_law_pen" 2 1 F_l_pen) {F_l_take : Ct} (C_l_take : Callee Ω.P Ω.w Ω.K Ω.mg Ω.base "_law_take" 2 2 F_l_take) {F_l_loop : Ct} (C_l_loop : Callee Ω.P Ω.w Ω.K Ω.mg Ω.base "_law_loop" 4 2 F_l_loop) {F_l_gone_through : Ct} (C_l_gone_through : Callee Ω.P Ω.w Ω.K Ω.mg Ω.base "_law_gone_through" 2 1 F_l_gone_through) {F_l_right : Ct} (C_l_right : Callee Ω.P Ω.w Ω.K Ω.mg Ω.base "_law_right" 1 2 F_l_right) : Bl Ω :=
  Bl.cons (Sm.set 4 (Ex.call C_l_gone_through (Ar.cons (Ex.var 3) Ar.nil))) (b_law_x2_2 B C_p_counts_of C_l_pen C_l_take C_l_loop C_l_gone_through C_l_right)
def b_law_x2 (B : Bi Ω.mg) {F_p_counts_of : Ct} (C_p_counts_of : Callee Ω.P Ω.w Ω.K Ω.mg Ω.base "counts_of" 3 1 F_p_counts_of) {F_l_pen : Ct} (C_l_pen : Callee Ω.P Ω.w Ω.K Ω.mg Ω.base "_law_pen" 2 1 F_l_pen) {F_l_take : Ct} (C_l_take : Callee Ω.P Ω.w Ω.K Ω.mg Ω.base "_law_take" 2 2 F_l_take) {F_l_loop : Ct} (C_l_loop : Callee Ω.P Ω.w Ω.K Ω.mg Ω.base "_law_loop" 4 2 F_l_loop) {F_l_gone_through : Ct} (C_l_gone_through : Callee Ω.P Ω.w Ω.K Ω.mg Ω.base "_law_gone_through" 2 1 F_l_gone_through) {F_l_right : Ct} (C_l_right : Callee Ω.P Ω.w Ω.K Ω.mg Ω.base "_law_right" 1 2 F_l_right) : Bl Ω :=
  Bl.cons (Sm.set 3 (Ex.typ tTuple B.tuple_ (Ar.cons (Ex.comp ["_law_k", "_law_pen_here"] [none, some 1] (Ex.call C_l_loop (Ar.cons (Ex.var 1) (Ar.cons (Ex.var 0) Ar.nil))) (Tg.nm 0) (Itb.rng1 B.range_ (Ex.bin .Add (Ex.int 1) (Ex.call C_l_take (Ar.cons (Ex.var 1) (Ar.cons (Ex.int 3) Ar.nil))))) Cd.no) Ar.nil))) (b_law_x2_1 B C_p_counts_of C_l_pen C_l_take C_l_loop C_l_gone_through C_l_right)
def b_law_2 (B : Bi Ω.mg) {F_p_counts_of : Ct} (C_p_counts_of : Callee Ω.P Ω.w Ω.K Ω.mg Ω.base "counts_of" 3 1 F_p_counts_of) {F_l_pen : Ct} (C_l_pen : Callee Ω.P Ω.w Ω.K Ω.mg Ω.base "_law_pen" 2 1 F_l_pen) {F_l_take : Ct} (C_l_take : Callee Ω.P Ω.w Ω.K Ω.mg Ω.base "_law_take" 2 2 F_l_take) {F_l_loop : Ct} (C_l_loop : Callee Ω.P Ω.w Ω.K Ω.mg Ω.base "_law_loop" 4 2 F_l_loop) {F_l_gone_through : Ct} (C_l_gone_through : Callee Ω.P Ω.w Ω.K Ω.mg Ω.base "_law_gone_through" 2 1 F_l_gone_through) {F_l_right : Ct} (C_l_right : Callee Ω.P Ω.w Ω.K Ω.mg Ω.base "_law_right" 1 2 F_l_right) : Bl Ω :=
  Bl.cons (Sm.ret (Ex.bl true)) Bl.nil
def b_law_1 (B : Bi Ω.mg) {F_p_counts_of : Ct} (C_p_counts_of : Callee Ω.P Ω.w Ω.K Ω.mg Ω.base "counts_of" 3 1 F_p_counts_of) {F_l_pen : Ct} (C_l_pen : Callee Ω.P Ω.w Ω.K Ω.mg Ω.base "_law_pen" 2 1 F_l_pen) {F_l_take : Ct} (C_l_take : Callee Ω.P Ω.w Ω.K Ω.mg Ω.base "_law_take" 2 2 F_l_take) {F_l_loop : Ct} (C_l_loop : Callee Ω.P Ω.w Ω.K Ω.mg Ω.base "_law_loop" 4 2 F_l_loop) {F_l_gone_through : Ct} (C_l_gone_through : Callee Ω.P Ω.w Ω.K Ω.mg Ω.base "_law_gone_through" 2 1 F_l_gone_through) {F_l_right : Ct} (C_l_right : Callee Ω.P Ω.w Ω.K Ω.mg Ω.base "_law_right" 1 2 F_l_right) : Bl Ω :=
  Bl.cons (Sm.for (Tg.nm 2) (Itb.rng1 B.range_ (Ex.int 4)) (b_law_x2 B C_p_counts_of C_l_pen C_l_take C_l_loop C_l_gone_through C_l_right)) (b_law_2 B C_p_counts_of C_l_pen C_l_take C_l_loop C_l_gone_through C_l_right)
def b_law (B : Bi Ω.mg) {F_p_counts_of : Ct} (C_p_counts_of : Callee Ω.P Ω.w Ω.K Ω.mg Ω.base "counts_of" 3 1 F_p_counts_of) {F_l_pen : Ct} (C_l_pen : Callee Ω.P Ω.w Ω.K Ω.mg Ω.base "_law_pen" 2 1 F_l_pen) {F_l_take : Ct} (C_l_take : Callee Ω.P Ω.w Ω.K Ω.mg Ω.base "_law_take" 2 2 F_l_take) {F_l_loop : Ct} (C_l_loop : Callee Ω.P Ω.w Ω.K Ω.mg Ω.base "_law_loop" 4 2 F_l_loop) {F_l_gone_through : Ct} (C_l_gone_through : Callee Ω.P Ω.w Ω.K Ω.mg Ω.base "_law_gone_through" 2 1 F_l_gone_through) {F_l_right : Ct} (C_l_right : Callee Ω.P Ω.w Ω.K Ω.mg Ω.base "_law_right" 1 2 F_l_right) : Bl Ω :=
  Bl.cons (Sm.set 1 (Ex.call C_l_pen (Ar.cons (Ex.var 0) Ar.nil))) (b_law_1 B C_p_counts_of C_l_pen C_l_take C_l_loop C_l_gone_through C_l_right)
end
end K03
local macro_rules | `(tactic| walk_at "op") => `(tactic| first | with_reducible refine RF.cLt ?_ | with_reducible refine RF.cLe ?_ | with_reducible refine RF.cGt ?_ | with_reducible refine RF.cGe ?_ | with_reducible refine RF.cEqI ?_ | with_reducible refine RF.cNeI ?_ | with_reducible refine RF.cEqB ?_ | with_reducible refine RF.cNeB ?_ | with_reducible refine RF.cIsN ?_ | with_reducible refine RF.cIsNot ?_)
local macro_rules | `(tactic| walk_at "n") => `(tactic| ((conv => whnf); repeat (walk_at "op"; (conv => whnf))))
local macro_rules | `(tactic| walk_at "at") => `(tactic| first | (with_reducible assumption) | exact DL.set_get (by with_reducible assumption) | exact DL.set_get (DL.set_get (by with_reducible assumption)))
local macro_rules | `(tactic| walk_at "a1") => `(tactic| first
  | refine And.intro (a := L2.CMul _ _) (by first | exact .inl ⟨by omega, by omega⟩ | exact .inr ⟨by omega, by omega⟩ | exact .inr ⟨by decide, by decide⟩ | exact .inl ⟨by decide, by decide⟩) ?_
  | refine And.intro (a := L2.CPow _ _) ⟨by decide, by decide, by decide⟩ ?_
  | refine And.intro (a := 0 < _ ∧ _ < _) ⟨by omega, by omega⟩ ?_
  | refine And.intro (a := 0 < _) (by omega) ?_
  | ((fail_if_success (with_reducible show (_ ∧ ∃ _ : Nat → List DL.D → DL.Store → Prop, _))); refine And.intro (a := List.length _ ≤ 1000000) (by first | omega | decide | (simp; done) | (simp; omega)) ?_)
  | refine And.intro (a := List.length _ + List.length _ ≤ 1000000) (by first | omega | decide | (simp; done) | (simp; omega)) ?_
  | (refine' Exists.intro ?w1 (Exists.intro ?w2 (And.intro (a := GetElem?.getElem? _ _ = some _) ?h1 (And.intro (a := L2.ixN _ _ = some _) ?h2 ?h3))); (case h1 => walk_at "at"); (case h2 => exact rfl); (try rw [List.set_set]))
  | (refine' Exists.intro ?w1 (Exists.intro ?w2 (And.intro (a := GetElem?.getElem? _ _ = some _) ?h1 (And.intro (a := L2.atI _ _ = some _) ?h2 ?h3))); (case h1 => walk_at "at"); (case h2 => exact rfl))
  | (refine' Exists.intro ?w1 (And.intro (a := L2.atI _ _ = some _) ?h2 ?h3); (case h2 => exact rfl)))
local macro_rules | `(tactic| walk_at "a") => `(tactic| (walk_at "n"; repeat (walk_at "a1"; walk_at "n")))
local macro_rules | `(tactic| walk_at "b") => `(tactic| (walk_at "n"; repeat ((first | walk_at "a1" | refine RF.bT ?_ | refine RF.bF ?_ | refine RF.dT ?_ | refine RF.dF ?_); walk_at "n")))
namespace K03
open PySem L2 DL RF
/-! what each def comes to -/
def whole : D → Bool
  | .int _ => true
  | _ => false
def tupOf (x : D) (a b : Int) : Bool := match x with
  | .tup ds => decide (a ≤ (ds.length : Int)) && decide ((ds.length : Int) ≤ b)
  | _ => false
def isForm (x : D) (d : Int) : Bool := match x with
  | .tup ds => decide ((ds.length : Int) = d + 1) && ds.all whole
  | _ => false
def c_whole : Ct := fun ds S W => ∃ x, ds = [x] ∧ W (.bl (whole x)) S
def c_tup : Ct := fun ds S W => ∃ x a b, ds = [x, .int a, .int b] ∧ W (.bl (tupOf x a b)) S
def c_form : Ct := fun ds S W => ∃ x d, ds = [x, .int d] ∧ d ≤ 1000 ∧ W (.bl (isForm x d)) S
def comesTo (f : Int) (fs cs : List Int) : Int := f + (List.zipWith (fun a b => a * b) fs cs).sum
def c_comes : Ct := fun ds S W => ∃ f fs cs, ds = [.tup (.int f :: fs.map .int), .tup (cs.map .int)] ∧ fs.length ≤ 1000 ∧ (∀ c ∈ cs, -(2 ^ 64) < c ∧ c < 2 ^ 64) ∧ W (.int (comesTo f fs cs)) S
theorem all_whole (ds : List D) : (ds.map whole).all id = ds.all whole := by rw [List.all_map]; rfl
theorem pair_at {fs cs : List Int} {i : Nat} {d : D} (h : (List.zipWith (fun x y => D.tup [x, y]) (fs.map D.int) (cs.map D.int))[i]? = some d) : ∃ a b, fs[i]? = some a ∧ cs[i]? = some b ∧ d = .tup [.int a, .int b] := by
  rw [List.getElem?_zipWith, List.getElem?_map, List.getElem?_map] at h
  cases e1 : fs[i]? with
  | none => rw [e1] at h; cases h
  | some a =>
    cases e2 : cs[i]? with
    | none => rw [e1, e2] at h; cases h
    | some b => rw [e1, e2] at h; cases h; exact ⟨a, b, rfl, rfl, rfl⟩
theorem ok_p_comes_to {Ω : Wd} {f : Addr} {fd : FuncData} (F : Fun Ω.K "comes_to" "comes_to" s_p_comes_to f fd) (B : Bi Ω.mg) : Ok Ω 1 f fd P_p_comes_to c_comes := by
  refine fn_rf (N := N_p_comes_to) F (b_p_comes_to B) (by kernel_rfl!) ?_
  rintro ds S W ⟨g, fs, cs, rfl, hfs, hcs, hw⟩ hl
  walk_at "n"
  refine ⟨_, atI_zero _ _, ?_⟩
  walk_at "n"
  rw [cut_tail]
  refine comp_by ⟨by rw [List.length_zipWith, List.length_map]; omega, fun i acc S' => acc = ((List.zipWith (fun a b => a * b) fs cs).take i).map D.int ∧ S' = S, ⟨rfl, rfl⟩, ?_, ?_⟩
  · rintro i e acc S' he ⟨rfl, rfl⟩
    obtain ⟨a, b, h1, h2, rfl⟩ := pair_at he
    walk_at "n"
    refine ⟨rfl, fun _ => ⟨.inr (hcs b (List.mem_of_getElem? h2)), ?_, rfl⟩, fun z => tf z⟩
    have e3 : (List.zipWith (fun a b => a * b) fs cs)[i]? = some (a * b) := by rw [List.getElem?_zipWith, h1, h2]
    rw [take_one e3, List.map_append]; rfl
  · rintro acc S' ⟨rfl, rfl⟩
    have e : (List.zipWith (fun x y => D.tup [x, y]) (fs.map D.int) (cs.map D.int)).length = (List.zipWith (fun a b => a * b) fs cs).length := by simp
    rw [e, List.take_length]
    exact ⟨_, rfl, hw⟩

end K03
namespace K03
open PySem L2 DL RF
def c_cell : Ct := fun ds S W => ∃ ns k, ds = [.lst (List.map .int ns), .int k] ∧ 0 ≤ k ∧ ∀ v, W (.int v) S
def c_pen : Ct := fun ds S W => ∃ ns, ds = [.lst (List.map .int ns)] ∧ ns.length ≤ 63 ∧ ∀ a c n m z, 0 ≤ a → W (.loc S.length) (S ++ [penL ns a c n m z])
def c_take : Ct := fun ds S W => ∃ k m, ds = [.loc k, .int m] ∧ Pen S k ∧ 0 < m ∧ m < 1073741824 ∧ ∀ v S', 0 ≤ v → v < m → Upd S k S' → Pen S' k → W (.int v) S'
theorem take_ok {S : Store} {k : Nat} {m : Int} {W : WD} (hp : Pen S k) (h0 : 0 < m) (h1 : m < 1073741824) (w : ∀ v S', 0 ≤ v → v < m → Upd S k S' → Pen S' k → W (.int v) S') : ([D.loc k, .int m].length = 2 ∧ c_take [.loc k, .int m] S W) := ⟨rfl, k, m, rfl, hp, h0, h1, w⟩
theorem ok_l_cell_at {Ω : Wd} {f : Addr} {fd : FuncData} (F : Fun Ω.K "_law_cell_at" "_law_cell_at" s_l_cell_at f fd) (B : Bi Ω.mg) : Ok Ω 1 f fd P_l_cell_at c_cell := by
  refine fn_rf (N := N_l_cell_at) F (b_l_cell_at B) (by kernel_rfl!) ?_
  rintro ds S W ⟨ns, k, rfl, hk, hw⟩ hl
  walk_at "n"
  refine ⟨fun c => ?_, fun c => ?_⟩
  · walk_at "n"
    have c' := of_decide_eq_true c
    obtain ⟨x, h1, h2⟩ := atI_lt hk c'
    rw [List.getElem?_map] at h2
    cases e : ns[k.toNat]? with
    | none => rw [e] at h2; cases h2
    | some v =>
      rw [e] at h2
      cases h2
      exact ⟨_, h1, hw v⟩
  · exact hw 0
theorem ok_l_pen {Ω : Wd} {f : Addr} {fd : FuncData} (F : Fun Ω.K "_law_pen" "_law_pen" s_l_pen f fd) (B : Bi Ω.mg) (C_l_cell_at : Cal Ω "_law_cell_at" 1 2 c_cell) : Ok Ω 2 f fd P_l_pen c_pen := by
  refine fn_rf (N := N_l_pen) F (b_l_pen B C_l_cell_at) (by kernel_rfl!) ?_
  rintro ds S W ⟨ns, rfl, hn, hw⟩ hl
  walk_at "n"
  have hc : (cutD (ns.map D.int) none (some 63)).length ≤ 63 := Nat.le_trans (cut_len _ _ _) (by rw [List.length_map]; exact hn)
  refine comp_by ⟨by rw [List.length_mapIdx]; omega, fun i acc S' => (∃ ms : List Int, acc = ms.map D.int) ∧ S' = S, ⟨⟨[], rfl⟩, rfl⟩, ?_, ?_⟩
  · rintro i e acc S' he ⟨⟨ms, rfl⟩, rfl⟩
    rw [List.getElem?_mapIdx] at he
    cases e1 : (cutD (ns.map D.int) none (some 63))[i]? with
    | none => rw [e1] at he; cases he
    | some d0 =>
      rw [e1] at he
      cases he
      have hi : i < 63 := Nat.lt_of_lt_of_le (List.getElem?_eq_some_iff.mp e1).1 hc
      obtain ⟨v, _, rfl⟩ := List.mem_map.mp (cut_mem (List.mem_of_getElem? e1))
      have hkk : (0 : Int) ≤ (i : Int) * i ∧ (i : Int) * i ≤ 63 * 63 := ⟨Int.mul_nonneg (by omega) (by omega), Int.mul_le_mul (by omega) (by omega) (by omega) (by omega)⟩
      refine ⟨rfl, fun _ => ⟨by decide, .inl ⟨by omega, by omega⟩, .inr ⟨by omega, by omega⟩, ⟨ms ++ [_], by rw [List.map_append]; rfl⟩, rfl⟩, fun z => tf z⟩
  · rintro acc S' ⟨⟨ms, rfl⟩, rfl⟩
    refine ⟨_, rfl, by decide, ?_⟩
    walk_at "n"
    refine ⟨rfl, ns, 1, rfl, by decide, fun c => ?_⟩
    walk_at "n"
    refine ⟨rfl, ns, 0, rfl, by decide, fun m => ?_⟩
    walk_at "n"
    refine ⟨by decide, by show 6 ≤ 1000000; decide, ?_⟩
    exact hw 1 c 0 (m % 2) _ (by decide)
theorem ok_l_take {Ω : Wd} {f : Addr} {fd : FuncData} (F : Fun Ω.K "_law_take" "_law_take" s_l_take f fd) (C_l_cell_at : Cal Ω "_law_cell_at" 1 2 c_cell) : Ok Ω 2 f fd P_l_take c_take := by
  refine fn_rf (N := N_l_take) F (b_l_take C_l_cell_at) (by kernel_rfl!) ?_
  rintro ds S W ⟨k, m, rfl, ⟨ns, a, c, n, y, z, hk, ha⟩, h0, h1, hw⟩ hl
  have k2 : ∀ l : List D, (S.set k l)[k]? = some l := fun l => set_get hk
  have fin : ∀ a c n z v, 0 ≤ a → W (.int (v % m)) (S.set k (penL ns a c n y z)) := fun a c n z v ha =>
    hw _ _ (Int.emod_nonneg _ (by omega)) (Int.emod_lt_of_pos _ h0) ⟨ns, a, c, n, y, z, rfl, ha⟩ ⟨ns, a, c, n, y, z, k2 _, ha⟩
  have rest : ∀ a c n, 0 ≤ a → (b_l_take_2 C_l_cell_at).wp [some (.loc k), some (.int m), none] (S.set k (penL ns a c n y z)) { nx := fun _ S1 => W .non S1, rt := W } := by
    intro a c n ha
    walk_at "n"
    refine ⟨_, _, k2 _, rfl, ?_⟩
    walk_at "n"
    refine ⟨_, _, k2 _, rfl, ?_⟩
    rw [List.set_set]
    walk_at "n"
    refine ⟨_, _, k2 _, rfl, h0, ?_⟩
    walk_at "n"
    refine ⟨_, _, k2 _, rfl, ⟨h0, h1⟩, _, _, k2 _, rfl, ?_⟩
    rw [List.set_set]
    walk_at "n"
    exact fin a _ _ z c ha
  have hself : S.set k (penL ns a c n y z) = S := by
    obtain ⟨hl', e⟩ := List.getElem?_eq_some_iff.mp hk
    rw [← e, List.set_getElem_self]
  walk_at "n"
  refine ⟨_, _, hk, rfl, ?_⟩
  walk_at "n"
  refine ⟨fun q => ?_, fun q => ?_⟩
  · walk_at "n"
    refine ⟨_, _, hk, rfl, .inr ⟨by decide, by decide⟩, by decide, _, _, hk, rfl, _, _, k2 _, rfl, .inr ⟨by decide, by decide⟩, by decide, ⟨by decide, by decide⟩, h0, ?_⟩
    exact fin a c n _ _ ha
  · walk_at "n"
    refine ⟨_, _, hk, rfl, ?_⟩
    walk_at "n"
    refine ⟨fun q => ?_, fun q => ?_⟩
    · walk_at "n"
      refine ⟨_, _, hk, rfl, _, _, hk, rfl, ?_⟩
      walk_at "n"
      refine ⟨_, _, k2 _, rfl, _, _, k2 _, rfl, rfl, ns, a + 1, rfl, by omega, fun v => ?_⟩
      walk_at "n"
      refine ⟨_, _, k2 _, rfl, ?_⟩
      rw [List.set_set]
      walk_at "n"
      refine ⟨_, _, k2 _, rfl, ?_⟩
      rw [List.set_set]
      exact rest (a + 1) v 0 (by omega)
    · have := rest a c n ha
      rw [hself] at this
      exact this

end K03
namespace K03
open PySem L2 DL RF
/-! forms, loops and counts by numbers -/
abbrev Fm := Int × List Int
abbrev Lp := Fm × Fm
def dF (f : Fm) : D := .tup (.int f.1 :: f.2.map .int)
def dC (cs : List Int) : D := .tup (cs.map .int)
def dL (l : Lp) : D := .tup [dF l.1, dF l.2]
def atC (f : Fm) (cs : List Int) : Int := comesTo f.1 f.2 cs
def upI (a : Int) (n : Nat) : List Int := (List.range n).map fun (k : Nat) => a + (k : Int)
def nextC (lo hi : Fm) (cs : List Int) : List (List Int) := (upI (atC lo cs) (atC hi cs - atC lo cs).toNat).map fun c => cs ++ [c]
def nextAll (lo hi : Fm) (ahead : List (List Int)) : List (List Int) := ahead.flatMap (nextC lo hi)
def cnt (ls : List Lp) : List (List Int) := ls.foldl (fun acc l => nextAll l.1 l.2 acc) [[]]
/-- numbers that are small enough to reckon with -/
def Sm6 (ns : List Int) : Prop := ns.length ≤ 10 ∧ ∀ n ∈ ns, -1000000 ≤ n ∧ n ≤ 1000000
def SmF (f : Fm) : Prop := -1000000 ≤ f.1 ∧ f.1 ≤ 1000000 ∧ Sm6 f.2
theorem zip_bound : ∀ (fs cs : List Int), (∀ n ∈ fs, -1000000 ≤ n ∧ n ≤ 1000000) → (∀ n ∈ cs, -1000000 ≤ n ∧ n ≤ 1000000) → -(1000000000000 * (cs.length : Int)) ≤ (List.zipWith (fun a b => a * b) fs cs).sum ∧ (List.zipWith (fun a b => a * b) fs cs).sum ≤ 1000000000000 * (cs.length : Int)
  | [], cs, _, _ => by simp; omega
  | f :: fs, [], _, _ => by simp
  | f :: fs, c :: cs, h1, h2 => by
    have ih := zip_bound fs cs (fun n hn => h1 n (List.mem_cons_of_mem _ hn)) (fun n hn => h2 n (List.mem_cons_of_mem _ hn))
    have hf := h1 f List.mem_cons_self
    have hc := h2 c List.mem_cons_self
    have hp : (f * c).natAbs ≤ 1000000 * 1000000 := by rw [Int.natAbs_mul]; exact Nat.mul_le_mul (by omega) (by omega)
    simp only [List.zipWith_cons_cons, List.sum_cons, List.length_cons]
    omega
theorem atC_bound {f : Fm} {cs : List Int} (hf : SmF f) (hc : Sm6 cs) : -(2 ^ 62) ≤ atC f cs ∧ atC f cs < 2 ^ 62 := by
  have := zip_bound f.2 cs hf.2.2.2 hc.2
  have h1 := hf.1
  have h2 := hf.2.1
  have h3 := hc.1
  unfold atC comesTo
  omega
theorem upI_len (a : Int) (n : Nat) : (upI a n).length = n := by simp [upI]
theorem upI_get {a : Int} {n i : Nat} (h : i < n) : (upI a n)[i]? = some (a + i) := by simp [upI, h]
theorem upTo_upI (a : Int) (n : Nat) : DL.upTo a n = (upI a n).map D.int := by simp [DL.upTo, upI, Function.comp_def]
theorem nextC_len (lo hi : Fm) (cs : List Int) : (nextC lo hi cs).length = (atC hi cs - atC lo cs).toNat := by simp [nextC, upI_len]
theorem nextAll_take {lo hi : Fm} {ahead : List (List Int)} {i : Nat} {cs : List Int} (h : ahead[i]? = some cs) : nextAll lo hi (ahead.take (i + 1)) = nextAll lo hi (ahead.take i) ++ nextC lo hi cs := by
  unfold nextAll
  rw [take_one h, List.flatMap_append]; simp
theorem len_flat {lo hi : Fm} {ahead : List (List Int)} {i : Nat} {cs : List Int} (h : ahead[i]? = some cs) : (nextAll lo hi (ahead.take i)).length + (nextC lo hi cs).length ≤ (nextAll lo hi ahead).length := by
  have e : nextAll lo hi ahead = nextAll lo hi (ahead.take (i + 1)) ++ nextAll lo hi (ahead.drop (i + 1)) := by
    unfold nextAll
    rw [← List.flatMap_append, List.take_append_drop]
  rw [e, nextAll_take h, List.length_append, List.length_append]; omega
theorem nolocs_dC (xs : List (List Int)) : nolocs (xs.map dC) = true := by
  induction xs with
  | nil => rfl
  | cons x xs ih =>
    simp only [List.map_cons, nolocs, ih, Bool.and_true]
    show nolocs (x.map D.int) = true
    induction x with
    | nil => rfl
    | cons y ys ih => simp only [List.map_cons, nolocs, ih, Bool.and_true]; rfl
def c_next : Ct := fun ds S W => ∃ ahead lo hi, ds = [.lst (List.map dC ahead), dF lo, dF hi] ∧ SmF lo ∧ SmF hi ∧ (∀ cs ∈ ahead, Sm6 cs) ∧ ahead.length ≤ 1000000 ∧ (nextAll lo hi ahead).length ≤ 1000000 ∧ flat S ∧ hand W ((nextAll lo hi ahead).map dC) S
theorem ok_p_with_next_count {Ω : Wd} {f : Addr} {fd : FuncData} (F : Fun Ω.K "with_next_count" "with_next_count" s_p_with_next_count f fd) (B : Bi Ω.mg) (C_p_comes_to : Cal Ω "comes_to" 1 2 c_comes) : Ok Ω 2 f fd P_p_with_next_count c_next := by
  refine fn_rf (N := N_p_with_next_count) F (Bl.frz (b_p_with_next_count B C_p_comes_to)) (by kernel_rfl!) ?_
  rintro ds S W ⟨ahead, lo, hi, rfl, hlo, hhi, hah, hz0, hz, hS, hw⟩ hl
  walk_at "b"
  refine for_by ⟨fun i Γ' S' => (∃ o4 o5, Γ' = [some (.lst (ahead.map dC)), some (dF lo), some (dF hi), some (.loc S.length), o4, o5]) ∧ S' = S ++ [(nextAll lo hi (ahead.take i)).map dC], ⟨⟨_, _, rfl⟩, rfl⟩, ?_, ?_⟩
  · rintro i e Γ' S' he ⟨⟨o4, o5, rfl⟩, rfl⟩
    rw [List.getElem?_map] at he
    cases e1 : ahead[i]? with
    | none => rw [e1] at he; cases he
    | some cs =>
      rw [e1] at he
      cases he
      have hcs := hah cs (List.mem_of_getElem? e1)
      have b1 := atC_bound hlo hcs
      have b2 := atC_bound hhi hcs
      have h64 : ∀ c ∈ cs, -(2 ^ 64) < c ∧ c < 2 ^ 64 := fun c hc => by have := hcs.2 c hc; omega
      walk_at "b"
      refine ⟨rfl, lo.1, lo.2, cs, rfl, by have := hlo.2.2.1; omega, h64, ?_⟩
      walk_at "b"
      refine ⟨rfl, hi.1, hi.2, cs, rfl, by have := hhi.2.2.1; omega, h64, ?_⟩
      walk_at "b"
      refine ⟨⟨b1.1, b1.2, b2.1, b2.2⟩, for_by ⟨fun j Γ' S' => (∃ o5, Γ' = [some (.lst (ahead.map dC)), some (dF lo), some (dF hi), some (.loc S.length), some (dC cs), o5]) ∧ S' = S ++ [(nextAll lo hi (ahead.take i) ++ (nextC lo hi cs).take j).map dC], ⟨⟨_, rfl⟩, by simp⟩, ?_, ?_⟩⟩
      · rintro j e Γ' S' he ⟨⟨o5, rfl⟩, rfl⟩
        obtain ⟨hj, rfl⟩ := upTo_get he
        have hj' : j < (nextC lo hi cs).length := by rw [nextC_len]; exact hj
        have lf := len_flat (lo := lo) (hi := hi) e1
        walk_at "b"
        refine ⟨by simp; have := hcs.1; omega, _, last_get _ _, by simp; omega, ?_⟩
        refine ⟨⟨_, rfl⟩, ?_⟩
        rw [last_set]
        have e3 : (nextC lo hi cs)[j]? = some (cs ++ [atC lo cs + (j : Int)]) := by
          unfold nextC
          rw [List.getElem?_map, upI_get (by rw [nextC_len] at hj'; exact hj')]; rfl
        have e4 : dC (cs ++ [atC lo cs + (j : Int)]) = D.tup (cs.map D.int ++ [D.int (comesTo lo.1 lo.2 cs + (j : Int))]) := by
          unfold dC; rw [List.map_append]; rfl
        rw [take_one e3, ← List.append_assoc, List.map_append (l₂ := [_]), List.map_singleton, e4]
      · rintro Γ' S' ⟨⟨o5, rfl⟩, rfl⟩
        refine ⟨⟨_, _, rfl⟩, ?_⟩
        have e5 : (nextC lo hi cs).take (DL.upTo (comesTo lo.1 lo.2 cs) (comesTo hi.1 hi.2 cs - comesTo lo.1 lo.2 cs).toNat).length = nextC lo hi cs := by
          rw [upTo_length]; exact List.take_of_length_le (by rw [nextC_len]; exact Nat.le_refl _)
        rw [e5, nextAll_take e1]
  · rintro Γ' S' ⟨⟨o4, o5, rfl⟩, rfl⟩
    rw [List.length_map, List.take_length]
    exact hand_ret hw (nolocs_dC _) hS
/-- loops that can be gone through -/
def Fits (ls : List Lp) : Prop := (∀ l ∈ ls, SmF l.1 ∧ SmF l.2) ∧ ∀ i, i ≤ ls.length → (cnt (ls.take i)).length ≤ 1000000 ∧ ∀ cs ∈ cnt (ls.take i), Sm6 cs
def c_counts : Ct := fun ds S W => ∃ ls, ds = [.tup (List.map dL ls)] ∧ 1 ≤ ls.length ∧ Fits ls ∧ flat S ∧ hand W ((cnt ls).map dC) S
theorem cnt_take {ls : List Lp} {i : Nat} {l : Lp} (h : ls[i]? = some l) : cnt (ls.take (i + 1)) = nextAll l.1 l.2 (cnt (ls.take i)) := by
  unfold cnt
  rw [take_one h, List.foldl_append]; rfl
theorem ok_p_counts_of {Ω : Wd} {f : Addr} {fd : FuncData} (F : Fun Ω.K "counts_of" "counts_of" s_p_counts_of f fd) (C_p_with_next_count : Cal Ω "with_next_count" 2 3 c_next) : Ok Ω 3 f fd P_p_counts_of c_counts := by
  refine fn_rf (N := N_p_counts_of) F (Bl.frz (b_p_counts_of C_p_with_next_count)) (by kernel_rfl!) ?_
  rintro ds S W ⟨ls, rfl, hn, hf, hS, hw⟩ hl
  walk_at "b"
  have turn : ∀ (i : Nat) (e : D), (ls.map dL)[i]? = some e → ∃ l, ls[i]? = some l ∧ e = dL l := fun i e he => by
    rw [List.getElem?_map] at he
    cases e1 : ls[i]? with
    | none => rw [e1] at he; cases he
    | some l => rw [e1] at he; cases he; exact ⟨l, rfl, rfl⟩
  have step : ∀ (i : Nat) (l : Lp) (W : WD), ls[i]? = some l → hand W ((cnt (ls.take (i + 1))).map dC) S → c_next [.lst ((cnt (ls.take i)).map dC), dF l.1, dF l.2] S W := fun i l W h w => by
    have hi := (List.getElem?_eq_some_iff.mp h).1
    obtain ⟨a, b⟩ := hf.1 l (List.mem_of_getElem? h)
    obtain ⟨c, d⟩ := hf.2 i (by omega)
    obtain ⟨c', d'⟩ := hf.2 (i + 1) (by omega)
    rw [cnt_take h] at c' w
    exact ⟨_, _, _, rfl, a, b, d, c, c', hS, w⟩
  rcases hw with hw | hw
  · refine for_by ⟨fun i Γ' S' => (∃ o2 o3, Γ' = [some (.tup (ls.map dL)), some (.lst ((cnt (ls.take i)).map dC)), o2, o3]) ∧ S' = S, ⟨⟨_, _, rfl⟩, rfl⟩, ?_, ?_⟩
    · rintro i e Γ' S' he ⟨⟨o2, o3, rfl⟩, rfl⟩
      obtain ⟨l, hl', rfl⟩ := turn i e he
      walk_at "b"
      refine ⟨rfl, ?_⟩
      walk_at "n"
      exact ⟨rfl, step i l _ hl' (.inl ⟨⟨_, _, rfl⟩, rfl⟩)⟩
    · rintro Γ' S' ⟨⟨o2, o3, rfl⟩, rfl⟩
      rw [List.length_map, List.take_length]
      exact .inl hw
  · refine for_by ⟨fun i Γ' S' => (i < ls.length ∧ (∃ o2 o3, Γ' = [some (.tup (ls.map dL)), some (.lst ((cnt (ls.take i)).map dC)), o2, o3]) ∧ S' = S) ∨ (i = ls.length ∧ (∃ o2 o3, Γ' = [some (.tup (ls.map dL)), some (.loc S.length), o2, o3]) ∧ S' = S ++ [(cnt ls).map dC]), .inl ⟨by omega, ⟨_, _, rfl⟩, rfl⟩, ?_, ?_⟩
    · rintro i e Γ' S' he q
      obtain ⟨l, hl', rfl⟩ := turn i e he
      have hi := (List.getElem?_eq_some_iff.mp hl').1
      rcases q with ⟨_, ⟨o2, o3, rfl⟩, rfl⟩ | ⟨q, _⟩
      · walk_at "b"
        refine ⟨rfl, ?_⟩
        walk_at "n"
        by_cases hlast : i + 1 = ls.length
        · refine ⟨rfl, step i l _ hl' (.inr (.inr ⟨hlast, ⟨_, _, rfl⟩, ?_⟩))⟩
          rw [hlast, List.take_length]
        · exact ⟨rfl, step i l _ hl' (.inl (.inl ⟨by omega, ⟨_, _, rfl⟩, rfl⟩))⟩
      · omega
    · rintro Γ' S' q
      rw [List.length_map] at q
      rcases q with ⟨q, _⟩ | ⟨_, ⟨o2, o3, rfl⟩, rfl⟩
      · omega
      · exact .inl hw

end K03
namespace K03
open PySem L2 DL RF
/-- a bound as it may stand in its place -/
def BdF (f : Fm) (k : Nat) : Prop := f.2.length = k ∧ -9 ≤ f.1 ∧ f.1 ≤ 9 ∧ ∀ n ∈ f.2, -2 ≤ n ∧ n ≤ 2
def c_bnd : Ct := fun ds S W => ∃ (k j : Nat), ds = [.loc k, .int j] ∧ Pen S k ∧ j ≤ 10 ∧ ∀ f S', BdF f j → Upd S k S' → Pen S' k → W (dF f) S'
def c_loop : Ct := fun ds S W => ∃ (k j : Nat), ds = [.loc k, .int j] ∧ Pen S k ∧ j ≤ 10 ∧ ∀ l S', BdF l.1 j → BdF l.2 j → Upd S k S' → Pen S' k → W (dL l) S'
theorem ints_of {P : Int → Prop} : ∀ {ys : List D}, (∀ (i : Nat) (y : D), ys[i]? = some y → ∃ n : Int, y = D.int n ∧ P n) → ∃ fs : List Int, ys = fs.map D.int ∧ ∀ n ∈ fs, P n
  | [], _ => ⟨[], rfl, by simp⟩
  | y :: ys, h => by
    obtain ⟨n, rfl, hn⟩ := h 0 y rfl
    obtain ⟨fs, rfl, hf⟩ := ints_of (ys := ys) fun i y h' => h (i + 1) y (by simpa using h')
    exact ⟨n :: fs, rfl, by
      intro m hm
      rcases List.mem_cons.mp hm with rfl | hm
      · exact hn
      · exact hf m hm⟩
theorem ok_l_bound {Ω : Wd} {f : Addr} {fd : FuncData} (F : Fun Ω.K "_law_bound" "_law_bound" s_l_bound f fd) (B : Bi Ω.mg) (C_l_take : Cal Ω "_law_take" 2 2 c_take) : Ok Ω 3 f fd P_l_bound c_bnd := by
  refine fn_rf (N := N_l_bound) F (b_l_bound B C_l_take) (by kernel_rfl!) ?_
  rintro ds S W ⟨k, j, rfl, hp, h1, hw⟩ hl
  walk_at "b"
  refine take_ok hp (by decide) (by decide) fun v S1 v0 v1 u1 p1 => ?_
  walk_at "b"
  refine ⟨⟨by omega, by omega⟩, cm_all (fun _ y => ∃ n : Int, y = .int n ∧ (-2 ≤ n ∧ n ≤ 2)) (fun S' => Upd S k S' ∧ Pen S' k) (by rw [upTo_length]; omega) ⟨u1, p1⟩ ?_ ?_⟩
  · rintro i d S' hd ⟨u, p⟩ R hR
    walk_at "b"
    refine take_ok p (by decide) (by decide) fun w S2 w0 w1 u2 p2 => ?_
    walk_at "b"
    exact hR _ _ ⟨_, rfl, by omega, by omega⟩ ⟨u.trans u2, p2⟩
  rintro ys S' hlen hys ⟨u, p⟩
  obtain ⟨fs, rfl, hf⟩ := ints_of hys
  rw [upTo_length, List.length_map] at hlen
  walk_at "b"
  exact hw (v - 9, fs) _ ⟨by simpa using hlen, by show -9 ≤ v - 9; omega, by show v - 9 ≤ 9; omega, hf⟩ u p
end K03
namespace K03
open PySem L2 DL RF
theorem dF_cons (f : Fm) : dF f = .tup ((f.1 :: f.2).map .int) := rfl
theorem put_ints (hs : List Int) (a : Nat) (v : Int) : (hs.map D.int).take a ++ [D.int v] ++ (hs.map D.int).drop (a + 1) = (hs.take a ++ [v] ++ hs.drop (a + 1)).map D.int := by
  simp [List.map_take, List.map_drop]
theorem rep_zero (n : Nat) : (List.replicate n [D.int 0]).flatten = (List.replicate n (0 : Int)).map D.int := by
  induction n with
  | zero => rfl
  | succ n ih => simp [List.replicate_succ, ih]
theorem ok_l_loop {Ω : Wd} {f : Addr} {fd : FuncData} (F : Fun Ω.K "_law_loop" "_law_loop" s_l_loop f fd) (B : Bi Ω.mg) (C_l_take : Cal Ω "_law_take" 2 2 c_take) (C_l_bound : Cal Ω "_law_bound" 3 2 c_bnd) : Ok Ω 4 f fd P_l_loop c_loop := by
  refine fn_rf (N := N_l_loop) F (b_l_loop B C_l_take C_l_bound) (by kernel_rfl!) ?_
  rintro ds S W ⟨k, j, rfl, hp, h1, hw⟩ hl
  walk_at "b"
  refine take_ok hp (by decide) (by decide) fun way S1 w0 w1 u1 p1 => ?_
  walk_at "b"
  refine ⟨rfl, k, j, rfl, p1, h1, fun lo S2 hlo u2 p2 => ?_⟩
  have u12 := u1.trans u2
  have fin : ∀ (lo hi : Fm) (S' : Store) o5, BdF lo j → BdF hi j → Upd S k S' → Pen S' k → (b_l_loop_6 B C_l_take C_l_bound).wp [some (.loc k), some (.int j), some (.int way), some (dF lo), some (dF hi), o5] S' { nx := fun _ S1 => W .non S1, rt := W } := by
    intro lo hi S' o5 h1 h2 u p
    walk_at "b"
    exact hw (lo, hi) _ h1 h2 u p
  have five : ∀ (lo hi : Fm) (S' : Store), BdF lo j → BdF hi j → Upd S k S' → Pen S' k → (b_l_loop_5 B C_l_take C_l_bound).wp [some (.loc k), some (.int j), some (.int way), some (dF lo), some (dF hi), none] S' { nx := fun _ S1 => W .non S1, rt := W } := by
    intro lo hi S' h1' h2' u p
    walk_at "b"
    refine ⟨fun q => ?_, fun q => ⟨fun z => ff z, fun _ => fin lo hi S' none h1' h2' u p⟩⟩
    have q := of_decide_eq_true q
    walk_at "b"
    refine take_ok p (by decide) (by decide) fun v S3 v0 v1 u3 p3 => ?_
    have u3' := u.trans u3
    walk_at "b"
    refine ⟨fun _ => ?_, fun _ => fin lo hi S3 none h1' h2' u3' p3⟩
    walk_at "b"
    refine take_ok p3 q (by omega) fun a S4 a0 a1 u4 p4 => ?_
    have u4' := u3'.trans u4
    walk_at "b"
    refine take_ok p4 (by decide) (by decide) fun x S5 x0 x1 u5 p5 => ?_
    have u5' := u4'.trans u5
    walk_at "b"
    have c1 := cut_len (D.int hi.1 :: hi.2.map D.int) none (some (1 + a))
    have c2 := cut_len (D.int hi.1 :: hi.2.map D.int) (some (1 + a + 1)) none
    obtain ⟨l1, l2, l3, l4⟩ := h2'
    rw [List.length_cons, List.length_map, l1] at c1 c2
    refine ⟨by rw [List.length_singleton]; omega, ?_⟩
    walk_at "b"
    rw [cut_to (by omega), cut_from (by omega)]
    have e1 : (1 + a).toNat = a.toNat + 1 := by omega
    have e2 : (1 + a + 1).toNat = a.toNat + 2 := by omega
    rw [e1, e2]
    have e3 : (D.int hi.1 :: hi.2.map D.int).take (a.toNat + 1) ++ [D.int (x - 2)] ++ (D.int hi.1 :: hi.2.map D.int).drop (a.toNat + 2) = D.int hi.1 :: (hi.2.take a.toNat ++ [x - 2] ++ hi.2.drop (a.toNat + 1)).map D.int := by
      rw [← put_ints]; rfl
    rw [e3]
    refine hw (lo, (hi.1, hi.2.take a.toNat ++ [x - 2] ++ hi.2.drop (a.toNat + 1))) S5 h1' ⟨?_, l2, l3, fun n hn => ?_⟩ u5' p5
    · simp; omega
    · rcases List.mem_append.mp hn with hn | hn
      · rcases List.mem_append.mp hn with hn | hn
        · exact l4 n (List.mem_of_mem_take hn)
        · have : n = x - 2 := by simpa using hn
          omega
      · exact l4 n (List.mem_of_mem_drop hn)
  have rest : ∀ (lo : Fm) (S' : Store), BdF lo j → Upd S k S' → Pen S' k → (b_l_loop_4 B C_l_take C_l_bound).wp [some (.loc k), some (.int j), some (.int way), some (dF lo), none, none] S' { nx := fun _ S1 => W .non S1, rt := W } := by
    rintro ⟨a, fs⟩ S' ⟨l1, l2, l3, l4⟩ u p
    dsimp only at l1 l2 l3 l4
    walk_at "b"
    refine ⟨_, atI_nat (j := 0) rfl, ?_⟩
    walk_at "b"
    refine take_ok p (by decide) (by decide) fun v S3 v0 v1 u3 p3 => ?_
    have u3' := u.trans u3
    walk_at "b"
    have e1 : cutD (D.int a :: fs.map D.int) (some 1) none = fs.map D.int := cut_tail _ _
    dsimp only
    rw [e1]
    refine ⟨by simp; omega, ?_⟩
    generalize hm : (if a + v < 9 then a + v else 9) = m
    have hmin : -9 ≤ m ∧ m ≤ 9 := by rw [← hm]; split <;> omega
    exact five (a, fs) (m, fs) _ ⟨l1, l2, l3, l4⟩ ⟨l1, hmin.1, hmin.2, l4⟩ u3' p3
  walk_at "b"
  refine ⟨fun _ => ?_, fun _ => ?_⟩
  · walk_at "b"
    refine ⟨rfl, k, j, rfl, p2, h1, fun hi S3 hhi u3 p3 => ?_⟩
    walk_at "b"
    exact hw (lo, hi) _ hlo hhi (u12.trans u3) p3
  walk_at "b"
  refine ⟨fun _ => ?_, fun _ => rest lo _ hlo u12 p2⟩
  walk_at "b"
  refine take_ok p2 (by decide) (by decide) fun v S3 v0 v1 u3 p3 => ?_
  walk_at "b"
  refine ⟨⟨by omega, by omega⟩, by simp; omega, ?_⟩
  rw [Int.toNat_natCast, rep_zero]
  walk_at "b"
  refine rest (v - 2, List.replicate j 0) _ ⟨by simp, by show -9 ≤ v - 2; omega, by show v - 2 ≤ 9; omega, fun n hn => ?_⟩ (u12.trans u3) p3
  have := (List.mem_replicate.mp hn).2
  omega
end K03
namespace K03
open PySem L2 DL RF
theorem mul_b {g a m : Int} (hg : -2 ≤ g ∧ g ≤ 2) (ha : -m ≤ a ∧ a ≤ m) : -(2 * m) ≤ g * a ∧ g * a ≤ 2 * m := by
  have : g = -2 ∨ g = -1 ∨ g = 0 ∨ g = 1 ∨ g = 2 := by omega
  rcases this with rfl | rfl | rfl | rfl | rfl <;> omega
/-- counts as deep as that -/
def bnd : Nat → Int
  | 0 => 0
  | 1 => 9
  | 2 => 27
  | _ => 117
def Cs (i : Nat) (cs : List Int) : Prop := cs.length = i ∧ ∀ c ∈ cs, -(bnd i) ≤ c ∧ c ≤ bnd i
theorem at_bnd {f : Fm} {i : Nat} {cs : List Int} (hi : i ≤ 2) (hf : BdF f i) (hc : Cs i cs) : -(bnd (i + 1)) ≤ atC f cs ∧ atC f cs ≤ bnd (i + 1) := by
  obtain ⟨a, fs⟩ := f
  obtain ⟨h1, h2, h3, h4⟩ := hf
  obtain ⟨c1, c2⟩ := hc
  dsimp only at h1 h2 h3 h4
  unfold atC comesTo
  have : i = 0 ∨ i = 1 ∨ i = 2 := by omega
  rcases this with rfl | rfl | rfl
  · match fs, cs, h1, c1 with
    | [], [], _, _ => simp [bnd]; omega
  · match fs, cs, h1, c1 with
    | [g], [x], _, _ =>
      have := mul_b (h4 g (by simp)) (c2 x (by simp))
      simp [bnd] at this ⊢; omega
  · match fs, cs, h1, c1 with
    | [g, g'], [x, x'], _, _ =>
      have t1 := mul_b (h4 g (by simp)) (c2 x (by simp))
      have t2 := mul_b (h4 g' (by simp)) (c2 x' (by simp))
      simp [bnd] at t1 t2 ⊢; omega
theorem bnd_up {i : Nat} : bnd i ≤ bnd (i + 1) := by
  match i with
  | 0 => decide
  | 1 => decide
  | 2 => decide
  | i + 3 => exact Int.le_refl _
theorem bnd_le (i : Nat) : bnd i ≤ 117 := by
  match i with
  | 0 => decide
  | 1 => decide
  | 2 => decide
  | i + 3 => exact Int.le_refl _
theorem next_cs {lo hi : Fm} {i : Nat} {cs ds : List Int} (hi2 : i ≤ 2) (hlo : BdF lo i) (hhi : BdF hi i) (hc : Cs i cs) (h : ds ∈ nextC lo hi cs) : Cs (i + 1) ds := by
  unfold nextC at h
  obtain ⟨c, hc', rfl⟩ := List.mem_map.mp h
  unfold upI at hc'
  obtain ⟨k, hk, rfl⟩ := List.mem_map.mp hc'
  have hk := List.mem_range.mp hk
  have b1 := at_bnd hi2 hlo hc
  have b2 := at_bnd hi2 hhi hc
  refine ⟨by simp [hc.1], fun c h => ?_⟩
  rcases List.mem_append.mp h with h | h
  · have := hc.2 c h
    have := bnd_up (i := i)
    omega
  · have : c = atC lo cs + (k : Int) := by simpa using h
    omega
/-- loops as they may stand -/
def Lps (ls : List Lp) : Prop := 1 ≤ ls.length ∧ ls.length ≤ 3 ∧ ∀ (i : Nat) (l : Lp), ls[i]? = some l → BdF l.1 i ∧ BdF l.2 i
theorem cnt_cs {ls : List Lp} (h : Lps ls) : ∀ i, i ≤ ls.length → ∀ cs ∈ cnt (ls.take i), Cs i cs
  | 0, _, cs, hc => by
    have : cs = [] := by simpa [cnt] using hc
    subst this
    exact ⟨rfl, fun c hc => by simp at hc⟩
  | i + 1, hi, cs, hc => by
    have hl := List.getElem?_eq_getElem (l := ls) (i := i) (by omega)
    rw [cnt_take hl] at hc
    obtain ⟨ds, hd, hc⟩ := List.mem_flatMap.mp hc
    have := h.2.2 i _ hl
    have h3 := h.2.1
    exact next_cs (by omega) this.1 this.2 (cnt_cs h i (by omega) ds hd) hc
def lenB : Nat → Nat
  | 0 => 1
  | 1 => 18
  | 2 => 972
  | _ => 227448
theorem flat_len {lo hi : Fm} {m : Nat} : ∀ {ahead : List (List Int)}, (∀ cs ∈ ahead, (nextC lo hi cs).length ≤ m) → (nextAll lo hi ahead).length ≤ ahead.length * m
  | [], _ => by simp [nextAll]
  | a :: as, h => by
    have ih := flat_len (ahead := as) fun cs hc => h cs (List.mem_cons_of_mem _ hc)
    have := h a List.mem_cons_self
    unfold nextAll at ih ⊢
    rw [List.flatMap_cons, List.length_append, List.length_cons, Nat.succ_mul]
    omega
theorem cnt_len {ls : List Lp} (h : Lps ls) : ∀ i, i ≤ ls.length → (cnt (ls.take i)).length ≤ lenB i
  | 0, _ => by simp [cnt, lenB]
  | i + 1, hi => by
    have hl := List.getElem?_eq_getElem (l := ls) (i := i) (by omega)
    have ih := cnt_len h i (by omega)
    have h3 := h.2.1
    have hb := h.2.2 i _ hl
    rw [cnt_take hl]
    have hm : ∀ cs ∈ cnt (ls.take i), (nextC ls[i].1 ls[i].2 cs).length ≤ (2 * bnd (i + 1)).toNat := fun cs hc => by
      have c := cnt_cs h i (by omega) cs hc
      have b1 := at_bnd (by omega) hb.1 c
      have b2 := at_bnd (by omega) hb.2 c
      rw [nextC_len]; omega
    have := flat_len hm
    have : i = 0 ∨ i = 1 ∨ i = 2 := by omega
    rcases this with rfl | rfl | rfl <;> simp [bnd, lenB] at * <;> omega
theorem Lps.fits {ls : List Lp} (h : Lps ls) : Fits ls := by
  refine ⟨fun l hl => ?_, fun i hi => ⟨?_, fun cs hc => ?_⟩⟩
  · obtain ⟨i, hi⟩ := List.getElem?_of_mem hl
    have hl' := (List.getElem?_eq_some_iff.mp hi).1
    have h3 := h.2.1
    obtain ⟨⟨a1, a2, a3, a4⟩, b1, b2, b3, b4⟩ := h.2.2 i l hi
    exact ⟨⟨by omega, by omega, by omega, fun n hn => by have := a4 n hn; omega⟩, by omega, by omega, by omega, fun n hn => by have := b4 n hn; omega⟩
  · have := cnt_len h i hi
    have h3 := h.2.1
    have : i = 0 ∨ i = 1 ∨ i = 2 ∨ i = 3 := by omega
    rcases this with rfl | rfl | rfl | rfl <;> simp only [lenB] at * <;> omega
  · have c := cnt_cs h i hi cs hc
    have h3 := h.2.1
    exact ⟨by have := c.1; omega, fun n hn => by have := c.2 n hn; have := bnd_le i; omega⟩
def gone (ls : List Lp) : List (List Int) := ls.foldl (fun acc l => (nextAll l.1 l.2 acc).take 1000) [[]]
theorem gone_take {ls : List Lp} {i : Nat} {l : Lp} (h : ls[i]? = some l) : gone (ls.take (i + 1)) = (nextAll l.1 l.2 (gone (ls.take i))).take 1000 := by
  unfold gone
  rw [take_one h, List.foldl_append]; rfl
theorem gone_cnt {ls : List Lp} (h : Lps ls) : ∀ i, i ≤ ls.length → gone (ls.take i) = (cnt (ls.take i)).take 1000
  | 0, _ => rfl
  | i + 1, hi => by
    have hl := List.getElem?_eq_getElem (l := ls) (i := i) (by omega)
    have h3 := h.2.1
    have ih := gone_cnt h i (by omega)
    have n := cnt_len h i (by omega)
    have : (cnt (ls.take i)).length ≤ 1000 := by
      have : i = 0 ∨ i = 1 ∨ i = 2 := by omega
      rcases this with rfl | rfl | rfl <;> simp only [lenB] at n <;> omega
    rw [List.take_of_length_le this] at ih
    rw [gone_take hl, ih, cnt_take hl]
theorem gone_few {ls : List Lp} (h : Lps ls) (hf : (gone ls).length ≤ 300) : gone ls = cnt ls := by
  have e := gone_cnt h ls.length (Nat.le_refl _)
  rw [List.take_length] at e
  rw [e] at hf ⊢
  rw [List.length_take] at hf
  exact List.take_of_length_le (by omega)
theorem gone_cs {ls : List Lp} (h : Lps ls) {i : Nat} (hi : i ≤ ls.length) : ∀ cs ∈ gone (ls.take i), Cs i cs := fun cs hc => by
  rw [gone_cnt h i hi] at hc
  exact cnt_cs h i hi cs (List.mem_of_mem_take hc)
theorem gone_len (ls : List Lp) (i : Nat) (hi : i ≤ ls.length) : (gone (ls.take i)).length ≤ 1000 := by
  cases i with
  | zero => simp [gone]
  | succ i =>
    rw [gone_take (List.getElem?_eq_getElem (l := ls) (i := i) (by omega)), List.length_take]; omega
def c_at : Ct := fun ds S W => ∃ (f : Fm) (cs : List Int), ds = [dF f, dC cs] ∧ f.2.length = cs.length ∧ cs.length ≤ 10 ∧ (∀ c ∈ cs, -(2 ^ 64) < c ∧ c < 2 ^ 64) ∧ W (.int (atC f cs)) S
theorem ok_l_at {Ω : Wd} {f : Addr} {fd : FuncData} (F : Fun Ω.K "_law_at" "_law_at" s_l_at f fd) (B : Bi Ω.mg) : Ok Ω 1 f fd P_l_at c_at := by
  refine fn_rf (N := N_l_at) F (b_l_at B) (by kernel_rfl!) ?_
  rintro ds S W ⟨⟨a, fs⟩, cs, rfl, hf, hz, hc, hw⟩ hl
  dsimp only at hf
  walk_at "b"
  refine ⟨_, atI_nat (j := 0) rfl, ?_⟩
  walk_at "b"
  refine ⟨⟨by omega, by simp; omega⟩, for_by ⟨fun i Γ' S' => (∃ o3, Γ' = [some (dF (a, fs)), some (dC cs), some (.int (a + (List.zipWith (fun a b => a * b) (fs.take i) (cs.take i)).sum)), o3]) ∧ S' = S, ⟨⟨_, by simp; rfl⟩, rfl⟩, ?_, ?_⟩⟩
  · rintro i e Γ' S' he ⟨⟨o3, rfl⟩, rfl⟩
    obtain ⟨hi, rfl⟩ := upTo_get he
    have hi' : i < cs.length := by simpa using hi
    have hf' : i < fs.length := by omega
    have g1 : atI (D.int a :: fs.map D.int) (1 + (0 + (i : Int))) = some (.int fs[i]) := by
      have : (1 + (0 + (i : Int))) = ((i + 1 : Nat) : Int) := by omega
      rw [this]
      exact atI_nat (by simp [hf'])
    have g2 : atI (cs.map D.int) (0 + (i : Int)) = some (.int cs[i]) := by
      have : (0 + (i : Int)) = ((i : Nat) : Int) := by omega
      rw [this]
      exact atI_nat (by simp [hi'])
    have hci := hc cs[i] (List.getElem_mem _)
    walk_at "b"
    refine ⟨_, g1, ?_⟩
    walk_at "b"
    refine ⟨_, g2, ?_⟩
    walk_at "b"
    refine ⟨⟨some (.int (0 + (i : Int))), ?_⟩, rfl⟩
    have e1 : fs.take (i + 1) = fs.take i ++ [fs[i]] := by rw [List.take_succ_eq_append_getElem hf']
    have e2 : cs.take (i + 1) = cs.take i ++ [cs[i]] := by rw [List.take_succ_eq_append_getElem hi']
    rw [e1, e2, List.zipWith_append (by simp; omega)]
    simp only [List.zipWith_cons_cons, List.zipWith_nil_left, List.sum_append, List.sum_cons, List.sum_nil, Int.add_zero, Int.add_assoc]
    rfl
  · rintro Γ' S' ⟨⟨o3, rfl⟩, rfl⟩
    have e : (upTo 0 ((cs.map D.int).length : Int).toNat).length = cs.length := by rw [upTo_length]; simp
    rw [e, List.take_length, List.take_of_length_le (by omega)]
    exact hw
end K03
namespace K03
open PySem L2 DL RF
theorem take_lt {α : Type} {l : List α} (h : (l.take 1000).length < 1000) : l.take 1000 = l := List.take_of_length_le (by rw [List.length_take] at h; omega)
theorem take_full {α : Type} {l r : List α} (h : ¬ (l.take 1000).length < 1000) : (l ++ r).take 1000 = l.take 1000 := by
  rw [List.length_take] at h
  exact List.take_append_of_le_length (by omega)
theorem noloc_dF (f : Fm) : noloc (dF f) = true := by
  show nolocs ((f.1 :: f.2).map D.int) = true
  generalize f.1 :: f.2 = xs
  induction xs with
  | nil => rfl
  | cons y ys ih => simp only [List.map_cons, nolocs, ih, Bool.and_true]; rfl
theorem noloc_dC (cs : List Int) : noloc (dC cs) = true := by
  have := nolocs_dC [cs]
  simpa [nolocs] using this
theorem noloc_dLs (ls : List Lp) : noloc (.tup (ls.map dL)) = true := by
  show nolocs (ls.map dL) = true
  induction ls with
  | nil => rfl
  | cons y ys ih =>
    simp only [List.map_cons, nolocs, ih, Bool.and_true]
    show nolocs [dF y.1, dF y.2] = true
    simp only [nolocs, noloc_dF, Bool.and_true]
def nlO (o : Option D) : Prop := ∀ d, o = some d → noloc d = true
theorem nlO_none : nlO none := fun d h => by cases h
theorem nlO_int (n : Int) : nlO (some (.int n)) := fun d h => by cases h; rfl
theorem nlO_dC (cs : List Int) : nlO (some (dC cs)) := fun d h => by cases h; exact noloc_dC cs
theorem frzO_nl {k : Nat} {ds : List D} {o : Option D} (h : nlO o) : frzO k ds o = o := by
  cases o with
  | none => rfl
  | some d =>
    cases d with
    | loc j => have := h _ rfl; simp [noloc] at this
    | _ => rfl
def c_gone : Ct := fun ds S W => ∃ ls : List Lp, ds = [.tup (ls.map dL)] ∧ Lps ls ∧ flat S ∧ ((gone ls).length > 300 → W .non S) ∧ ((gone ls).length ≤ 300 → W (.lst ((gone ls).map dC)) S)
theorem ok_l_gone_through {Ω : Wd} {f : Addr} {fd : FuncData} (F : Fun Ω.K "_law_gone_through" "_law_gone_through" s_l_gone_through f fd) (B : Bi Ω.mg) (C_l_at : Cal Ω "_law_at" 1 2 c_at) : Ok Ω 2 f fd P_l_gone_through c_gone := by
  refine fn_rf (N := N_l_gone_through) F (b_l_gone_through B C_l_at) (by kernel_rfl!) ?_
  rintro ds S W ⟨ls, rfl, hL, hS, hw1, hw2⟩ hl
  walk_at "b"
  refine for_by ⟨fun i Γ' S' => (∃ o2 o3 o4 o5 o6, Γ' = [some (.tup (ls.map dL)), some (.lst ((gone (ls.take i)).map dC)), o2, o3, o4, o5, o6] ∧ nlO o5 ∧ nlO o6) ∧ S' = S, ⟨⟨_, _, _, _, _, rfl, nlO_none, nlO_none⟩, rfl⟩, ?_, ?_⟩
  · rintro i e Γ' S' he ⟨⟨o2, o3, o4, o5, o6, rfl, n5, n6⟩, rfl⟩
    rw [List.getElem?_map] at he
    cases e1 : ls[i]? with
    | none => rw [e1] at he; cases he
    | some l =>
      rw [e1] at he
      cases he
      have hi := (List.getElem?_eq_some_iff.mp e1).1
      have h3 := hL.2.1
      obtain ⟨lo, hi_⟩ := l
      obtain ⟨b1, b2⟩ := hL.2.2 i _ e1
      dsimp only at b1 b2
      have hcs := gone_cs hL (i := i) (by omega)
      have hgl := gone_len ls i (by omega)
      have hgo := gone_take e1
      generalize hG : gone (ls.take i) = G at *
      dsimp only at hgo
      walk_at "b"
      refine ⟨rfl, ?_⟩
      walk_at "b"
      refine for_by ⟨fun m Γ' T => (∃ o5 o6, Γ' = [some (.tup (ls.map dL)), some (.lst (G.map dC)), some (dF lo), some (dF hi_), some (.loc S'.length), o5, o6] ∧ nlO o5 ∧ nlO o6) ∧ T = S' ++ [((nextAll lo hi_ (G.take m)).take 1000).map dC], ⟨⟨_, _, rfl, n5, n6⟩, rfl⟩, ?_, ?_⟩
      · rintro m e Γ' T he ⟨⟨o5, o6, rfl, n5, n6⟩, rfl⟩
        rw [List.getElem?_map] at he
        cases e2 : G[m]? with
        | none => rw [e2] at he; cases he
        | some cs =>
          rw [e2] at he
          cases he
          have hc := hcs cs (List.mem_of_getElem? e2)
          have hb := bnd_le i
          have h64 : ∀ c ∈ cs, -(2 ^ 64) < c ∧ c < 2 ^ 64 := fun c h => by have := hc.2 c h; omega
          walk_at "b"
          refine ⟨rfl, lo, cs, rfl, by rw [b1.1, hc.1], by rw [hc.1]; omega, h64, ?_⟩
          walk_at "b"
          refine while_by ⟨fun k Γ' T => ∃ j : Nat, k + j = (nextC lo hi_ cs).length ∧ Γ' = [some (.tup (ls.map dL)), some (.lst (G.map dC)), some (dF lo), some (dF hi_), some (.loc S'.length), some (dC cs), some (.int (atC lo cs + (j : Int)))] ∧ T = S' ++ [((nextAll lo hi_ (G.take m) ++ (nextC lo hi_ cs).take j).take 1000).map dC], (nextC lo hi_ cs).length, ⟨0, rfl, by simp, by simp⟩, ?_⟩
          rintro k Γ' T ⟨j, hk, rfl, rfl⟩
          walk_at "b"
          refine ⟨rfl, hi_, cs, rfl, by rw [b2.1, hc.1], by rw [hc.1]; omega, h64, ?_⟩
          walk_at "b"
          refine ⟨fun q => ?_, fun q => ?_⟩
          · have q := of_decide_eq_true q
            walk_at "b"
            refine ⟨_, last_get _ _, ?_⟩
            walk_at "b"
            have hj : j < (nextC lo hi_ cs).length := by rw [nextC_len]; omega
            refine ⟨fun q2 => ?_, fun q2 => ?_⟩
            · have q2 := of_decide_eq_true q2
              rw [List.length_map] at q2
              have q2 : ((nextAll lo hi_ (G.take m) ++ (nextC lo hi_ cs).take j).take 1000).length < 1000 := by omega
              walk_at "b"
              refine ⟨by rw [List.length_map, hc.1, List.length_singleton]; omega, _, last_get _ _, by rw [List.length_map]; omega, ?_⟩
              walk_at "b"
              rw [last_set]
              refine ⟨k - 1, by omega, j + 1, by omega, ?_, ?_⟩
              · have e6 : atC lo cs + ((j + 1 : Nat) : Int) = atC lo cs + (j : Int) + 1 := by omega
                rw [e6]; rfl
              have e3 : (nextC lo hi_ cs)[j]? = some (cs ++ [atC lo cs + (j : Int)]) := by
                unfold nextC
                rw [List.getElem?_map, upI_get (by rw [nextC_len] at hj; exact hj)]; rfl
              have e4 : dC (cs ++ [atC lo cs + (j : Int)]) = D.tup (cs.map D.int ++ [D.int (atC lo cs + (j : Int))]) := by
                unfold dC; rw [List.map_append]; rfl
              have q3 := take_lt q2
              have e5 : (nextAll lo hi_ (G.take m) ++ (nextC lo hi_ cs).take (j + 1)).take 1000 = (nextAll lo hi_ (G.take m) ++ (nextC lo hi_ cs).take j) ++ [cs ++ [atC lo cs + (j : Int)]] := by
                rw [take_one e3, ← List.append_assoc]
                refine List.take_of_length_le ?_
                rw [q3] at q2
                rw [List.length_append, List.length_singleton]; omega
              rw [q3, e5, List.map_append (l₂ := [_]), List.map_singleton, e4]
            · have q2 := of_decide_eq_false q2
              rw [List.length_map] at q2
              have q2 : ¬ ((nextAll lo hi_ (G.take m) ++ (nextC lo hi_ cs).take j).take 1000).length < 1000 := by omega
              refine ⟨⟨_, _, rfl, nlO_dC _, nlO_int _⟩, ?_⟩
              have e5 : nextAll lo hi_ (G.take m) ++ nextC lo hi_ cs = (nextAll lo hi_ (G.take m) ++ (nextC lo hi_ cs).take j) ++ (nextC lo hi_ cs).drop j := by rw [List.append_assoc, List.take_append_drop]
              rw [nextAll_take e2, e5, take_full q2]
          · have q := of_decide_eq_false q
            refine ⟨fun z => ff z, fun _ => ⟨⟨_, _, rfl, nlO_dC _, nlO_int _⟩, ?_⟩⟩
            have hj : (nextC lo hi_ cs).take j = nextC lo hi_ cs := List.take_of_length_le (by rw [nextC_len]; omega)
            rw [nextAll_take e2, hj]
      · rintro Γ' T ⟨⟨o5, o6, rfl, n5, n6⟩, rfl⟩
        rw [List.length_map, List.take_length, ← hgo]
        walk_at "b"
        refine .inr ⟨_, _, rfl, Nat.le_refl _, nolocs_dC _, hS, ?_, ⟨some (dF lo), some (dF hi_), some (.lst ((gone (ls.take (i + 1))).map dC)), o5, o6, ?_, n5, n6⟩, rfl⟩
        · intro x d hx
          match x, hx with
          | 0, hx => cases hx; exact .inl (noloc_dLs _)
          | 1, hx => cases hx; exact .inr ⟨_, rfl⟩
          | 2, hx => cases hx; exact .inl (noloc_dF _)
          | 3, hx => cases hx; exact .inl (noloc_dF _)
          | 4, hx => cases hx; exact .inr ⟨_, rfl⟩
          | 5, hx => exact .inl (n5 d (by simpa using hx))
          | 6, hx => exact .inl (n6 d (by simpa using hx))
          | x + 7, hx => simp at hx
        · show [_, _, _, _, _, _, _] = [_, _, _, _, _, _, _]
          rw [frzO_nl n5, frzO_nl n6]
          simp [frzO, dF]
  · rintro Γ' S' ⟨⟨o2, o3, o4, o5, o6, rfl, n5, n6⟩, rfl⟩
    rw [List.length_map, List.take_length]
    walk_at "b"
    refine ⟨fun q => ?_, fun q => ?_⟩
    · have q := of_decide_eq_true q
      exact hw1 (by rw [List.length_map] at q; omega)
    · have q := of_decide_eq_false q
      exact hw2 (by rw [List.length_map] at q; omega)
end K03
namespace K03
open PySem L2 DL RF
theorem okDs_ints (ns : List Int) : okDs (ns.map D.int) = true := by
  induction ns with
  | nil => rfl
  | cons n ns ih => simp only [List.map_cons, okDs, ih, Bool.and_true]; rfl
theorem okD_dC (cs : List Int) : okD (dC cs) = true := okDs_ints cs
theorem okDs_dC (xs : List (List Int)) : okDs (xs.map dC) = true := by
  induction xs with
  | nil => rfl
  | cons x xs ih => simp only [List.map_cons, okDs, ih, okD_dC, Bool.and_true]
theorem deeps_ints (ns : List Int) : deeps (ns.map D.int) = 0 := by
  induction ns with
  | nil => rfl
  | cons n ns ih => simp only [List.map_cons, deeps, ih]; rfl
theorem deep_dC (cs : List Int) : deep (dC cs) = 1 := by
  show deeps (cs.map D.int) + 1 = 1
  rw [deeps_ints]
theorem deeps_dC (xs : List (List Int)) : deeps (xs.map dC) ≤ 1 := by
  induction xs with
  | nil => exact Nat.zero_le _
  | cons x xs ih => simp only [List.map_cons, deeps, deep_dC]; omega
theorem okD_lst (xs : List (List Int)) : okD (.lst (xs.map dC)) = true := okDs_dC xs
theorem deep_lst (xs : List (List Int)) : deep (.lst (xs.map dC)) ≤ 50 := by
  have := deeps_dC xs
  show deeps (xs.map dC) + 1 ≤ 50
  omega
theorem eq_lst (xs : List (List Int)) : eqD (.lst (xs.map dC)) (.lst (xs.map dC)) = true := eqD_self _ (nolocs_dC xs)
/-- a list of counts, owned or not -/
def Lst (S : Store) (x : D) (xs : List (List Int)) : Prop := x = .lst (xs.map dC) ∨ ∃ k, x = .loc k ∧ S[k]? = some (xs.map dC)
theorem Lst.ne {S : Store} {x : D} {xs : List (List Int)} {W : Bool → Store → Prop} (h : Lst S x xs) (w : W false S) : wpCmp .NotEq x (.lst (xs.map dC)) S W := by
  have e : eqOk S x (.lst (xs.map dC)) ∧ W (!eqD (vw S x) (vw S (.lst (xs.map dC)))) S := by
    have v : vw S x = .lst (xs.map dC) := by
      rcases h with rfl | ⟨k, rfl, hk⟩
      · rfl
      · simp [vw, hk]
    have v2 : vw S (.lst (xs.map dC)) = .lst (xs.map dC) := rfl
    rw [v, v2, eq_lst]
    exact ⟨⟨by rw [v]; exact okD_lst xs, okD_lst xs, by rw [v]; exact deep_lst xs⟩, w⟩
  rcases h with rfl | ⟨k, rfl, hk⟩
  · unfold wpCmp; exact .inl e
  · unfold wpCmp; exact .inl e
def c_right : Ct := fun ds S W => ∃ x xs, ds = [x, .lst (List.map dC xs)] ∧ (∀ cs ∈ xs, cs.length ≤ 1000) ∧ Lst S x xs ∧ W (.bl true) S
theorem ok_l_right {Ω : Wd} {f : Addr} {fd : FuncData} (F : Fun Ω.K "_law_right" "_law_right" s_l_right f fd) (B : Bi Ω.mg) : Ok Ω 1 f fd P_l_right c_right := by
  refine fn_rf (N := N_l_right) F (b_l_right B) (by kernel_rfl!) ?_
  rintro ds S W ⟨x, xs, rfl, hz, hx, hw⟩ hl
  have body : ∀ (i : Nat) (d : D) (Γ' : Gam) (Wf : DL.Fin), (xs.map dC)[i]? = some d → (∀ cs, Wf.nx [some x, some (.lst (xs.map dC)), some (dC cs)] S) → ((b_l_right_x1 B)).wp [some x, some (.lst (xs.map dC)), some d] S Wf := by
    intro i d Γ' Wf hd hnx
    rw [List.getElem?_map] at hd
    cases e1 : xs[i]? with
    | none => rw [e1] at hd; cases hd
    | some cs =>
      rw [e1] at hd
      cases hd
      have hzc := hz cs (List.mem_of_getElem? e1)
      walk_at "b"
      refine cm_fm (fun _ => false) id (by rw [List.length_map]; omega) ?_ ?_
      · intro j e hj Q Q' _ h2
        rw [List.getElem?_map] at hj
        cases e3 : cs[j]? with
        | none => rw [e3] at hj; cases hj
        | some c =>
          rw [e3] at hj
          cases hj
          walk_at "b"
          exact h2 rfl
      · rw [show (cs.map D.int).filter (fun _ => false) = [] by simp]
        walk_at "b"
        refine cNeSelf (x := .lst []) rfl (by decide) ?_
        exact ⟨fun z => ff z, fun _ => hnx cs⟩
  rcases hx with rfl | ⟨k, rfl, hk⟩
  · walk_at "b"
    refine Lst.ne (.inl rfl) ?_
    walk_at "b"
    refine for_by ⟨fun i Γ' S' => (∃ o, Γ' = [some (.lst (xs.map dC)), some (.lst (xs.map dC)), o]) ∧ S' = S, ⟨⟨_, rfl⟩, rfl⟩, ?_, ?_⟩
    · rintro i d Γ' S' hd ⟨⟨o, rfl⟩, rfl⟩
      exact body i d [] _ hd fun cs => ⟨⟨_, rfl⟩, rfl⟩
    · rintro Γ' S' ⟨⟨o, rfl⟩, rfl⟩
      exact hw
  · walk_at "b"
    refine Lst.ne (.inr ⟨k, rfl, hk⟩) ?_
    walk_at "b"
    refine ⟨_, hk, forO_by ⟨fun i Γ' S' => (∃ o, Γ' = [some (.loc k), some (.lst (xs.map dC)), o]) ∧ S' = S, ⟨⟨_, rfl⟩, rfl⟩, ?_, ?_, ?_⟩⟩
    · rintro i Γ' S' ⟨_, rfl⟩
      exact hk
    · rintro i d Γ' S' hd ⟨⟨o, rfl⟩, rfl⟩
      exact body i d [] _ hd fun cs => ⟨⟨_, rfl⟩, rfl⟩
    · rintro Γ' S' ⟨⟨o, rfl⟩, rfl⟩
      exact hw
end K03
namespace K03
open PySem L2 DL RF
theorem ltF_app {b : Bool} : ∀ {x y : List Int} (s t : List Int), x.length = y.length → ltF false x y = true → ltF b (x ++ s) (y ++ t) = true
  | [], [], _, _, _, h => by simp [ltF] at h
  | a :: x, c :: y, s, t, hl, h => by
    simp only [ltF, List.cons_append] at h ⊢
    split at h
    · rename_i e
      rw [if_pos e]
      exact ltF_app s t (by simpa using hl) h
    · rename_i e
      rw [if_neg e]; exact h
  | [], _ :: _, _, _, hl, _ => by simp at hl
  | _ :: _, [], _, _, hl, _ => by simp at hl
theorem ltF_last {b : Bool} {u v : Int} (h : u < v) : ∀ (x : List Int), ltF b (x ++ [u]) (x ++ [v]) = true
  | [] => by simp [ltF, h, Int.ne_of_lt h]
  | a :: x => by simp only [ltF, List.cons_append, if_true]; exact ltF_last h x
theorem ltF_asym {b : Bool} : ∀ {x y : List Int}, x.length = y.length → ltF false x y = true → ltF b y x = false
  | [], [], _, h => by simp [ltF] at h
  | a :: x, c :: y, hl, h => by
    simp only [ltF] at h ⊢
    split at h
    · rename_i e
      rw [if_pos e.symm]
      exact ltF_asym (by simpa using hl) h
    · rename_i e
      rw [if_neg (fun z => e z.symm)]
      have := of_decide_eq_true h
      exact decide_eq_false (by omega)
  | [], _ :: _, hl, _ => by simp at hl
  | _ :: _, [], hl, _ => by simp at hl
def Rise (xs : List (List Int)) : Prop := xs.Pairwise fun x y => x.length = y.length ∧ ltF false x y = true
theorem rise_next (lo hi : Fm) (cs : List Int) : Rise (nextC lo hi cs) := by
  unfold Rise nextC
  rw [List.pairwise_map]
  unfold upI
  rw [List.pairwise_map]
  refine List.Pairwise.imp (fun {a b} h => ⟨by simp, ltF_last (by omega) cs⟩) List.pairwise_lt_range
theorem rise_all {lo hi : Fm} {ahead : List (List Int)} (h : Rise ahead) : Rise (nextAll lo hi ahead) := by
  unfold Rise nextAll
  rw [List.pairwise_flatMap]
  refine ⟨fun a _ => rise_next lo hi a, List.Pairwise.imp (fun {a b} hab x hx y hy => ?_) h⟩
  unfold nextC at hx hy
  obtain ⟨c, _, rfl⟩ := List.mem_map.mp hx
  obtain ⟨d, _, rfl⟩ := List.mem_map.mp hy
  exact ⟨by simp [hab.1], ltF_app _ _ hab.1 hab.2⟩
theorem cnt_rise (ls : List Lp) : Rise (cnt ls) := by
  unfold cnt
  have : ∀ (ls : List Lp) (acc : List (List Int)), Rise acc → Rise (ls.foldl (fun acc l => nextAll l.1 l.2 acc) acc) := by
    intro ls
    induction ls with
    | nil => exact fun acc h => h
    | cons l ls ih => exact fun acc h => ih _ (rise_all h)
  exact this ls _ (List.pairwise_singleton _ _)
theorem Rise.asc {xs : List (List Int)} (h : Rise xs) : AscI xs := by
  intro i x y hx hy
  obtain ⟨h1, e1⟩ := List.getElem?_eq_some_iff.mp hx
  obtain ⟨h2, e2⟩ := List.getElem?_eq_some_iff.mp hy
  have := List.pairwise_iff_getElem.mp h i (i + 1) h1 h2 (by omega)
  rw [e1, e2] at this
  exact ltF_asym this.1 this.2
theorem nolocs_ints (ns : List Int) : nolocs (ns.map D.int) = true := by
  induction ns with
  | nil => rfl
  | cons y ys ih => simp only [List.map_cons, nolocs, ih, Bool.and_true]; rfl
theorem nolocs_pen (ns : List Int) (a c n m z : Int) : nolocs (penL ns a c n m z) = true := by
  show (nolocs (ns.map D.int) && true) = true
  rw [nolocs_ints]; rfl
theorem flat_upd {S S' : Store} {k : Nat} (h : flat S) (u : Upd S k S') : flat S' := by
  obtain ⟨ns, a, c, n, m, z, rfl, _⟩ := u
  intro l hl
  rcases List.mem_or_eq_of_mem_set hl with hl | rfl
  · exact h l hl
  · exact nolocs_pen ..
theorem flat_app {S : Store} {l : List D} (h : flat S) (hl : nolocs l = true) : flat (S ++ [l]) := by
  intro x hx
  rcases List.mem_append.mp hx with hx | hx
  · exact h x hx
  · have : x = l := by simpa using hx
    subst this; exact hl
theorem pen_app {S : Store} {k : Nat} (l : List D) (p : Pen S k) : Pen (S ++ [l]) k := by
  obtain ⟨ns, a, c, n, m, z, h, ha⟩ := p
  exact ⟨ns, a, c, n, m, z, by rw [List.getElem?_append_left (List.getElem?_eq_some_iff.mp h).1]; exact h, ha⟩
theorem lps_of {ys : List D} (h1 : 1 ≤ ys.length) (h3 : ys.length ≤ 3) (h : ∀ (i : Nat) (y : D), ys[i]? = some y → ∃ l : Lp, y = dL l ∧ BdF l.1 i ∧ BdF l.2 i) : ∃ ls : List Lp, ys = ls.map dL ∧ Lps ls := by
  have : ∀ (ys : List D) (k : Nat), (∀ (i : Nat) (y : D), ys[i]? = some y → ∃ l : Lp, y = dL l ∧ BdF l.1 (i + k) ∧ BdF l.2 (i + k)) → ∃ ls : List Lp, ys = ls.map dL ∧ ∀ (i : Nat) (l : Lp), ls[i]? = some l → BdF l.1 (i + k) ∧ BdF l.2 (i + k) := by
    intro ys
    induction ys with
    | nil => exact fun k _ => ⟨[], rfl, fun i l h => by simp at h⟩
    | cons y ys ih =>
      intro k h
      obtain ⟨l, rfl, hl⟩ := h 0 y rfl
      obtain ⟨ls, rfl, hls⟩ := ih (k + 1) fun i y hy => by
        have := h (i + 1) y (by simpa using hy)
        rw [show i + 1 + k = i + (k + 1) by omega] at this
        exact this
      refine ⟨l :: ls, rfl, fun i l' h' => ?_⟩
      cases i with
      | zero => simp at h'; subst h'; exact hl
      | succ i =>
        have := hls i l' (by simpa using h')
        rw [show i + 1 + k = i + (k + 1) by omega]; exact this
  obtain ⟨ls, rfl, hls⟩ := this ys 0 h
  rw [List.length_map] at h1 h3
  exact ⟨ls, rfl, h1, h3, hls⟩
theorem Lps.take1 {ls : List Lp} (h : Lps ls) : Lps (ls.take 1) := by
  refine ⟨by rw [List.length_take]; have := h.1; omega, by rw [List.length_take]; omega, fun i l hl => h.2.2 i l ?_⟩
  rw [List.getElem?_take] at hl
  split at hl
  · exact hl
  · cases hl
theorem gone_one {ls : List Lp} (h : Lps ls) : (gone (ls.take 1)).length ≤ 300 := by
  rw [gone_cnt h 1 h.1, List.length_take]
  have := cnt_len h 1 h.1
  simp only [lenB] at this
  omega
theorem ok_law {Ω : Wd} {f : Addr} {fd : FuncData} (F : Fun Ω.K "law" "law" s_law f fd) (B : Bi Ω.mg) (C_p_counts_of : Cal Ω "counts_of" 3 1 c_counts) (C_l_pen : Cal Ω "_law_pen" 2 1 c_pen) (C_l_take : Cal Ω "_law_take" 2 2 c_take) (C_l_loop : Cal Ω "_law_loop" 4 2 c_loop) (C_l_gone_through : Cal Ω "_law_gone_through" 2 1 c_gone) (C_l_right : Cal Ω "_law_right" 1 2 c_right) : Ok Ω 5 f fd P_law c_law := by
  refine fn_rf (N := N_law) F (b_law B C_p_counts_of C_l_pen C_l_take C_l_loop C_l_gone_through C_l_right) (by kernel_rfl!) ?_
  rintro ds S W ⟨ns, rfl, hn, hw, hS0⟩ hl
  subst hS0
  walk_at "b"
  refine ⟨rfl, ns, rfl, hn, fun a c n m z ha => ?_⟩
  have p0 : Pen ([] ++ [penL ns a c n m z]) 0 := ⟨ns, a, c, n, m, z, by simp, ha⟩
  have f0 : flat ([] ++ [penL ns a c n m z]) := flat_app (fun l hl => by cases hl) (nolocs_pen ..)
  generalize ([] ++ [penL ns a c n m z] : Store) = S0 at *
  walk_at "b"
  refine ⟨⟨by decide, by decide⟩, for_by ⟨fun i Γ' S' => (∃ o2 o3 o4 o5, Γ' = [some (.lst (ns.map .int)), some (.loc 0), o2, o3, o4, o5]) ∧ Pen S' 0 ∧ flat S', ⟨⟨_, _, _, _, rfl⟩, p0, f0⟩, ?_, fun Γ' S' _ => hw _⟩⟩
  rintro i e Γ' S' he ⟨⟨o2, o3, o4, o5, rfl⟩, p, fl⟩
  obtain ⟨hi, rfl⟩ := upTo_get he
  have tail : ∀ (ls : List Lp) (T : Store) (Wf : DL.Fin), Lps ls → Pen T 0 → flat T → (cnt ls).length ≤ 300 → (∀ o2 o3 o4 o5 T', Pen T' 0 → flat T' → Wf.nx [some (.lst (ns.map .int)), some (.loc 0), o2, o3, o4, o5] T') →
      (b_law_x2_3 B C_p_counts_of C_l_pen C_l_take C_l_loop C_l_gone_through C_l_right).wp [some (.lst (ns.map .int)), some (.loc 0), some (.int (0 + (i : Int))), some (.tup (ls.map dL)), some (.lst ((cnt ls).map dC)), o5] T Wf := by
    intro ls T Wf L pT fT few hnx
    have hcs : ∀ cs ∈ cnt ls, Cs ls.length cs := fun cs hc => cnt_cs L ls.length (Nat.le_refl _) cs (by rw [List.take_length]; exact hc)
    have hz : ∀ cs ∈ cnt ls, cs.length ≤ 1000 := fun cs hc => by have := (hcs cs hc).1; have := L.2.1; omega
    walk_at "b"
    refine ⟨rfl, ls, rfl, L.1, L.fits, fT, .inr ?_⟩
    walk_at "b"
    refine ⟨rfl, _, _, rfl, hz, .inr ⟨_, rfl, last_get _ _⟩, ?_⟩
    walk_at "b"
    refine ⟨cnt ls, fun r hr e => ?_, (cnt_rise ls).asc, ⟨_, rfl, .inr ⟨_, rfl, last_get _ _⟩⟩, ?_⟩
    · have := (hcs r hr).1
      have := L.1
      subst e
      simp at this
      omega
    refine Lst.ne (.inr ⟨_, rfl, last_get _ _⟩) ?_
    walk_at "b"
    refine ⟨_, last_get _ _, by rw [List.length_map]; omega, ?_⟩
    rw [last_set]
    have f2 : flat (T ++ [(cnt ls).map dC ++ [D.tup []]]) := flat_app fT (by
      have : ∀ xs : List D, nolocs xs = true → nolocs (xs ++ [D.tup []]) = true := by
        intro xs
        induction xs with
        | nil => intro _; rfl
        | cons x xs ih =>
          intro h
          simp only [List.cons_append, nolocs, Bool.and_eq_true] at h ⊢
          exact ⟨h.1, ih h.2⟩
      exact this _ (nolocs_dC _))
    walk_at "b"
    refine ⟨rfl, ls, rfl, L.1, L.fits, f2, .inl ?_⟩
    walk_at "b"
    refine ⟨rfl, _, _, rfl, hz, .inl rfl, ?_⟩
    walk_at "b"
    exact hnx _ _ _ _ _ (pen_app _ pT) f2
  walk_at "b"
  refine take_ok p (by decide) (by decide) fun v S1 v0 v1 u1 p1 => ?_
  have f1 := flat_upd fl u1
  walk_at "b"
  refine ⟨⟨by omega, by omega⟩, cm_all (fun i y => ∃ l : Lp, y = dL l ∧ BdF l.1 i ∧ BdF l.2 i) (fun S' => Pen S' 0 ∧ flat S') (by rw [upTo_length]; omega) ⟨p1, f1⟩ ?_ ?_⟩
  · rintro j d S2 hd ⟨p2, f2⟩ R hR
    obtain ⟨hj, rfl⟩ := upTo_get hd
    have e2 : (0 : Int) + (j : Int) = (j : Int) := by omega
    rw [e2]
    walk_at "b"
    exact ⟨rfl, 0, j, rfl, p2, by omega, fun l S3 a b u p => hR _ _ ⟨l, rfl, a, b⟩ ⟨p, flat_upd f2 u⟩⟩
  rintro ys S2 hlen hys ⟨p2, f2⟩
  rw [upTo_length] at hlen
  obtain ⟨ls, rfl, L⟩ := lps_of (by omega) (by omega) hys
  walk_at "b"
  have L1 := L.take1
  refine ⟨rfl, ls, rfl, L, f2, fun q => ?_, fun q => ?_⟩
  · walk_at "b"
    rw [cut_to (by decide), ← List.map_take]
    have few := gone_one L
    refine ⟨rfl, ls.take 1, rfl, L1, f2, fun q => absurd few (by omega), fun _ => ?_⟩
    have ge := gone_few L1 few
    rw [ge] at few ⊢
    exact tail _ _ _ L1 p2 f2 few fun _ _ _ _ _ p f => ⟨⟨_, _, _, _, rfl⟩, p, f⟩
  · walk_at "b"
    have ge := gone_few L q
    rw [ge] at q ⊢
    exact tail _ _ _ L p2 f2 q fun _ _ _ _ _ p f => ⟨⟨_, _, _, _, rfl⟩, p, f⟩

end K03
namespace K03
open PySem PySem.Spec L2 DL RF
open PyProof.Rows
theorem all_mk {l : PySem.W.OpenLaw} {w : World} {K : PySem.W.Frag} {h : Heap} {mg : Str → Option Value} {fa f0 f1 f2 f3 f4 f5 f6 f7 f8 f9 f10 f11 : Addr} (X : K.In h) (G : h.Ns mainGlobals mg) (hfa : mg "law" = some (.ref fa))
    {od0 an0 : Option Addr} {sl0 : Array (Option Value)} {oc0 kV0 dc0 pm0 cd0 ct0 : Value}
    {od1 an1 : Option Addr} {sl1 : Array (Option Value)} {oc1 kV1 dc1 pm1 cd1 ct1 : Value}
    {od2 an2 : Option Addr} {sl2 : Array (Option Value)} {oc2 kV2 dc2 pm2 cd2 ct2 : Value}
    {od3 an3 : Option Addr} {sl3 : Array (Option Value)} {oc3 kV3 dc3 pm3 cd3 ct3 : Value}
    {od4 an4 : Option Addr} {sl4 : Array (Option Value)} {oc4 kV4 dc4 pm4 cd4 ct4 : Value}
    {od5 an5 : Option Addr} {sl5 : Array (Option Value)} {oc5 kV5 dc5 pm5 cd5 ct5 : Value}
    {od6 an6 : Option Addr} {sl6 : Array (Option Value)} {oc6 kV6 dc6 pm6 cd6 ct6 : Value}
    {od7 an7 : Option Addr} {sl7 : Array (Option Value)} {oc7 kV7 dc7 pm7 cd7 ct7 : Value}
    {od8 an8 : Option Addr} {sl8 : Array (Option Value)} {oc8 kV8 dc8 pm8 cd8 ct8 : Value}
    {od9 an9 : Option Addr} {sl9 : Array (Option Value)} {oc9 kV9 dc9 pm9 cd9 ct9 : Value}
    {od10 an10 : Option Addr} {sl10 : Array (Option Value)} {oc10 kV10 dc10 pm10 cd10 ct10 : Value}
    {od11 an11 : Option Addr} {sl11 : Array (Option Value)} {oc11 kV11 dc11 pm11 cd11 ct11 : Value}
    (a0 : PySem.W.nsIn K mainGlobals "comes_to" = some (some (.ref f0))) (l0 : K.lookup f0 = some ⟨oc0, od0, .func (PySem.W.fnOf "comes_to" "comes_to" (defArgs s_p_comes_to) (defBody s_p_comes_to) (defScope s_p_comes_to) .none kV0 dc0 pm0 an0 cd0 ct0), sl0⟩) (c0 : PySem.W.codeIn K cd0 "comes_to" = true) (k0 : PySem.W.keepIn K (.ref f0) = true)
    (a1 : PySem.W.nsIn K mainGlobals "with_next_count" = some (some (.ref f1))) (l1 : K.lookup f1 = some ⟨oc1, od1, .func (PySem.W.fnOf "with_next_count" "with_next_count" (defArgs s_p_with_next_count) (defBody s_p_with_next_count) (defScope s_p_with_next_count) .none kV1 dc1 pm1 an1 cd1 ct1), sl1⟩) (c1 : PySem.W.codeIn K cd1 "with_next_count" = true) (k1 : PySem.W.keepIn K (.ref f1) = true)
    (a2 : PySem.W.nsIn K mainGlobals "counts_of" = some (some (.ref f2))) (l2 : K.lookup f2 = some ⟨oc2, od2, .func (PySem.W.fnOf "counts_of" "counts_of" (defArgs s_p_counts_of) (defBody s_p_counts_of) (defScope s_p_counts_of) .none kV2 dc2 pm2 an2 cd2 ct2), sl2⟩) (c2 : PySem.W.codeIn K cd2 "counts_of" = true) (k2 : PySem.W.keepIn K (.ref f2) = true)
    (a3 : PySem.W.nsIn K mainGlobals "_law_cell_at" = some (some (.ref f3))) (l3 : K.lookup f3 = some ⟨oc3, od3, .func (PySem.W.fnOf "_law_cell_at" "_law_cell_at" (defArgs s_l_cell_at) (defBody s_l_cell_at) (defScope s_l_cell_at) .none kV3 dc3 pm3 an3 cd3 ct3), sl3⟩) (c3 : PySem.W.codeIn K cd3 "_law_cell_at" = true) (k3 : PySem.W.keepIn K (.ref f3) = true)
    (a4 : PySem.W.nsIn K mainGlobals "_law_pen" = some (some (.ref f4))) (l4 : K.lookup f4 = some ⟨oc4, od4, .func (PySem.W.fnOf "_law_pen" "_law_pen" (defArgs s_l_pen) (defBody s_l_pen) (defScope s_l_pen) .none kV4 dc4 pm4 an4 cd4 ct4), sl4⟩) (c4 : PySem.W.codeIn K cd4 "_law_pen" = true) (k4 : PySem.W.keepIn K (.ref f4) = true)
    (a5 : PySem.W.nsIn K mainGlobals "_law_take" = some (some (.ref f5))) (l5 : K.lookup f5 = some ⟨oc5, od5, .func (PySem.W.fnOf "_law_take" "_law_take" (defArgs s_l_take) (defBody s_l_take) (defScope s_l_take) .none kV5 dc5 pm5 an5 cd5 ct5), sl5⟩) (c5 : PySem.W.codeIn K cd5 "_law_take" = true) (k5 : PySem.W.keepIn K (.ref f5) = true)
    (a6 : PySem.W.nsIn K mainGlobals "_law_bound" = some (some (.ref f6))) (l6 : K.lookup f6 = some ⟨oc6, od6, .func (PySem.W.fnOf "_law_bound" "_law_bound" (defArgs s_l_bound) (defBody s_l_bound) (defScope s_l_bound) .none kV6 dc6 pm6 an6 cd6 ct6), sl6⟩) (c6 : PySem.W.codeIn K cd6 "_law_bound" = true) (k6 : PySem.W.keepIn K (.ref f6) = true)
    (a7 : PySem.W.nsIn K mainGlobals "_law_loop" = some (some (.ref f7))) (l7 : K.lookup f7 = some ⟨oc7, od7, .func (PySem.W.fnOf "_law_loop" "_law_loop" (defArgs s_l_loop) (defBody s_l_loop) (defScope s_l_loop) .none kV7 dc7 pm7 an7 cd7 ct7), sl7⟩) (c7 : PySem.W.codeIn K cd7 "_law_loop" = true) (k7 : PySem.W.keepIn K (.ref f7) = true)
    (a8 : PySem.W.nsIn K mainGlobals "_law_at" = some (some (.ref f8))) (l8 : K.lookup f8 = some ⟨oc8, od8, .func (PySem.W.fnOf "_law_at" "_law_at" (defArgs s_l_at) (defBody s_l_at) (defScope s_l_at) .none kV8 dc8 pm8 an8 cd8 ct8), sl8⟩) (c8 : PySem.W.codeIn K cd8 "_law_at" = true) (k8 : PySem.W.keepIn K (.ref f8) = true)
    (a9 : PySem.W.nsIn K mainGlobals "_law_gone_through" = some (some (.ref f9))) (l9 : K.lookup f9 = some ⟨oc9, od9, .func (PySem.W.fnOf "_law_gone_through" "_law_gone_through" (defArgs s_l_gone_through) (defBody s_l_gone_through) (defScope s_l_gone_through) .none kV9 dc9 pm9 an9 cd9 ct9), sl9⟩) (c9 : PySem.W.codeIn K cd9 "_law_gone_through" = true) (k9 : PySem.W.keepIn K (.ref f9) = true)
    (a10 : PySem.W.nsIn K mainGlobals "_law_right" = some (some (.ref f10))) (l10 : K.lookup f10 = some ⟨oc10, od10, .func (PySem.W.fnOf "_law_right" "_law_right" (defArgs s_l_right) (defBody s_l_right) (defScope s_l_right) .none kV10 dc10 pm10 an10 cd10 ct10), sl10⟩) (c10 : PySem.W.codeIn K cd10 "_law_right" = true) (k10 : PySem.W.keepIn K (.ref f10) = true)
    (a11 : PySem.W.nsIn K mainGlobals "law" = some (some (.ref f11))) (l11 : K.lookup f11 = some ⟨oc11, od11, .func (PySem.W.fnOf "law" "law" (defArgs s_law) (defBody s_law) (defScope s_law) .none kV11 dc11 pm11 an11 cd11 ct11), sl11⟩) (c11 : PySem.W.codeIn K cd11 "law" = true) (k11 : PySem.W.keepIn K (.ref f11) = true)
    (z_bool : PySem.W.nsIn K mainGlobals "bool" = some none)
    (z_enumerate : PySem.W.nsIn K mainGlobals "enumerate" = some none)
    (z_int : PySem.W.nsIn K mainGlobals "int" = some none)
    (z_isinstance : PySem.W.nsIn K mainGlobals "isinstance" = some none)
    (z_len : PySem.W.nsIn K mainGlobals "len" = some none)
    (z_list : PySem.W.nsIn K mainGlobals "list" = some none)
    (z_min : PySem.W.nsIn K mainGlobals "min" = some none)
    (z_range : PySem.W.nsIn K mainGlobals "range" = some none)
    (z_sorted : PySem.W.nsIn K mainGlobals "sorted" = some none)
    (z_sum : PySem.W.nsIn K mainGlobals "sum" = some none)
    (z_tuple : PySem.W.nsIn K mainGlobals "tuple" = some none)
    (z_zip : PySem.W.nsIn K mainGlobals "zip" = some none)
    : ∃ fd : FuncData, (∀ (s : Shared) (v : Value), BindsTo s fd ⟨[v], []⟩ [("_law_script", v)]) ∧ ∀ base : Heap, K.In base → base.Ns mainGlobals mg → FnOk l.prog w K mg base CX0 5 fa fd ["_law_script"] (spC K 1 c_law) := by
  have e := hfa.symm.trans (PySem.W.mg_of X G a11)
  cases e
  have F0 := fun_mk (st := s_p_comes_to) l0 c0 k0
  have b0 := F0.binds (ps := P_p_comes_to) fun _ _ _ _ _ _ us hl => match us, hl with | [_, _], _ => rfl
  have F1 := fun_mk (st := s_p_with_next_count) l1 c1 k1
  have b1 := F1.binds (ps := P_p_with_next_count) fun _ _ _ _ _ _ us hl => match us, hl with | [_, _, _], _ => rfl
  have F2 := fun_mk (st := s_p_counts_of) l2 c2 k2
  have b2 := F2.binds (ps := P_p_counts_of) fun _ _ _ _ _ _ us hl => match us, hl with | [_], _ => rfl
  have F3 := fun_mk (st := s_l_cell_at) l3 c3 k3
  have b3 := F3.binds (ps := P_l_cell_at) fun _ _ _ _ _ _ us hl => match us, hl with | [_, _], _ => rfl
  have F4 := fun_mk (st := s_l_pen) l4 c4 k4
  have b4 := F4.binds (ps := P_l_pen) fun _ _ _ _ _ _ us hl => match us, hl with | [_], _ => rfl
  have F5 := fun_mk (st := s_l_take) l5 c5 k5
  have b5 := F5.binds (ps := P_l_take) fun _ _ _ _ _ _ us hl => match us, hl with | [_, _], _ => rfl
  have F6 := fun_mk (st := s_l_bound) l6 c6 k6
  have b6 := F6.binds (ps := P_l_bound) fun _ _ _ _ _ _ us hl => match us, hl with | [_, _], _ => rfl
  have F7 := fun_mk (st := s_l_loop) l7 c7 k7
  have b7 := F7.binds (ps := P_l_loop) fun _ _ _ _ _ _ us hl => match us, hl with | [_, _], _ => rfl
  have F8 := fun_mk (st := s_l_at) l8 c8 k8
  have b8 := F8.binds (ps := P_l_at) fun _ _ _ _ _ _ us hl => match us, hl with | [_, _], _ => rfl
  have F9 := fun_mk (st := s_l_gone_through) l9 c9 k9
  have b9 := F9.binds (ps := P_l_gone_through) fun _ _ _ _ _ _ us hl => match us, hl with | [_], _ => rfl
  have F10 := fun_mk (st := s_l_right) l10 c10 k10
  have b10 := F10.binds (ps := P_l_right) fun _ _ _ _ _ _ us hl => match us, hl with | [_, _], _ => rfl
  have F11 := fun_mk (st := s_law) l11 c11 k11
  refine ⟨PySem.W.fnOf "law" "law" (defArgs s_law) (defBody s_law) (defScope s_law) .none kV11 dc11 pm11 an11 cd11 ct11, fun s v => .of_eq rfl, fun base _ _ => ?_⟩
  have B : Bi mg := ⟨PySem.W.mg_none_of X G z_bool, PySem.W.mg_none_of X G z_enumerate, PySem.W.mg_none_of X G z_int, PySem.W.mg_none_of X G z_isinstance, PySem.W.mg_none_of X G z_len, PySem.W.mg_none_of X G z_list, PySem.W.mg_none_of X G z_min, PySem.W.mg_none_of X G z_range, PySem.W.mg_none_of X G z_sorted, PySem.W.mg_none_of X G z_sum, PySem.W.mg_none_of X G z_tuple, PySem.W.mg_none_of X G z_zip⟩
  have C_p_comes_to : Cal ⟨l.prog, w, K, mg, base⟩ "comes_to" 1 2 c_comes := callee (Ω := ⟨l.prog, w, K, mg, base⟩) F0 (ok_p_comes_to (Ω := ⟨l.prog, w, K, mg, base⟩) F0 B) (PySem.W.mg_of X G a0) b0
  have C_p_with_next_count : Cal ⟨l.prog, w, K, mg, base⟩ "with_next_count" 2 3 c_next := callee (Ω := ⟨l.prog, w, K, mg, base⟩) F1 (ok_p_with_next_count (Ω := ⟨l.prog, w, K, mg, base⟩) F1 B C_p_comes_to) (PySem.W.mg_of X G a1) b1
  have C_p_counts_of : Cal ⟨l.prog, w, K, mg, base⟩ "counts_of" 3 1 c_counts := callee (Ω := ⟨l.prog, w, K, mg, base⟩) F2 (ok_p_counts_of (Ω := ⟨l.prog, w, K, mg, base⟩) F2 C_p_with_next_count) (PySem.W.mg_of X G a2) b2
  have C_l_cell_at : Cal ⟨l.prog, w, K, mg, base⟩ "_law_cell_at" 1 2 c_cell := callee (Ω := ⟨l.prog, w, K, mg, base⟩) F3 (ok_l_cell_at (Ω := ⟨l.prog, w, K, mg, base⟩) F3 B) (PySem.W.mg_of X G a3) b3
  have C_l_pen : Cal ⟨l.prog, w, K, mg, base⟩ "_law_pen" 2 1 c_pen := callee (Ω := ⟨l.prog, w, K, mg, base⟩) F4 (ok_l_pen (Ω := ⟨l.prog, w, K, mg, base⟩) F4 B C_l_cell_at) (PySem.W.mg_of X G a4) b4
  have C_l_take : Cal ⟨l.prog, w, K, mg, base⟩ "_law_take" 2 2 c_take := callee (Ω := ⟨l.prog, w, K, mg, base⟩) F5 (ok_l_take (Ω := ⟨l.prog, w, K, mg, base⟩) F5 C_l_cell_at) (PySem.W.mg_of X G a5) b5
  have C_l_bound : Cal ⟨l.prog, w, K, mg, base⟩ "_law_bound" 3 2 c_bnd := callee (Ω := ⟨l.prog, w, K, mg, base⟩) F6 (ok_l_bound (Ω := ⟨l.prog, w, K, mg, base⟩) F6 B C_l_take) (PySem.W.mg_of X G a6) b6
  have C_l_loop : Cal ⟨l.prog, w, K, mg, base⟩ "_law_loop" 4 2 c_loop := callee (Ω := ⟨l.prog, w, K, mg, base⟩) F7 (ok_l_loop (Ω := ⟨l.prog, w, K, mg, base⟩) F7 B C_l_take C_l_bound) (PySem.W.mg_of X G a7) b7
  have C_l_at : Cal ⟨l.prog, w, K, mg, base⟩ "_law_at" 1 2 c_at := callee (Ω := ⟨l.prog, w, K, mg, base⟩) F8 (ok_l_at (Ω := ⟨l.prog, w, K, mg, base⟩) F8 B) (PySem.W.mg_of X G a8) b8
  have C_l_gone_through : Cal ⟨l.prog, w, K, mg, base⟩ "_law_gone_through" 2 1 c_gone := callee (Ω := ⟨l.prog, w, K, mg, base⟩) F9 (ok_l_gone_through (Ω := ⟨l.prog, w, K, mg, base⟩) F9 B C_l_at) (PySem.W.mg_of X G a9) b9
  have C_l_right : Cal ⟨l.prog, w, K, mg, base⟩ "_law_right" 1 2 c_right := callee (Ω := ⟨l.prog, w, K, mg, base⟩) F10 (ok_l_right (Ω := ⟨l.prog, w, K, mg, base⟩) F10 B) (PySem.W.mg_of X G a10) b10
  exact ok_law (Ω := ⟨l.prog, w, K, mg, base⟩) F11 B C_p_counts_of C_l_pen C_l_take C_l_loop C_l_gone_through C_l_right
end K03
open PySem PySem.W PyProof.Rows
set_option maxRecDepth 100000 in
set_option maxHeartbeats 0 in
theorem PySem.Challenge.cw_nestturn_k03_counts_gone_through_holds : PySem.Challenge.rw_nestturn_k03_counts_gone_through.Holds := by
  w_on; o_law; k_head; (case hw => w_witness2)
  k_fill
  refine RF.walk (l := PySem.Challenge.rw_nestturn_k03_counts_gone_through) (lev := 5) (x := "_law_script") rfl rfl ⟨rfl, by decide, by decide⟩ (fun w h Y => PySem.W.kIn_of Y) ?F
  case F =>
    intro w mg fa h KX G hmg
    refine' K03.all_mk KX G hmg ?a0 ?l0 ?c0 ?k0 ?a1 ?l1 ?c1 ?k1 ?a2 ?l2 ?c2 ?k2 ?a3 ?l3 ?c3 ?k3 ?a4 ?l4 ?c4 ?k4 ?a5 ?l5 ?c5 ?k5 ?a6 ?l6 ?c6 ?k6 ?a7 ?l7 ?c7 ?k7 ?a8 ?l8 ?c8 ?k8 ?a9 ?l9 ?c9 ?k9 ?a10 ?l10 ?c10 ?k10 ?a11 ?l11 ?c11 ?k11 ?z_bool ?z_enumerate ?z_int ?z_isinstance ?z_len ?z_list ?z_min ?z_range ?z_sorted ?z_sum ?z_tuple ?z_zip
    (case a0 => k_is)
    (case l0 => k_is)
    (case c0 => k_is)
    (case k0 => k_is)
    (case a1 => k_is)
    (case l1 => k_is)
    (case c1 => k_is)
    (case k1 => k_is)
    (case a2 => k_is)
    (case l2 => k_is)
    (case c2 => k_is)
    (case k2 => k_is)
    (case a3 => k_is)
    (case l3 => k_is)
    (case c3 => k_is)
    (case k3 => k_is)
    (case a4 => k_is)
    (case l4 => k_is)
    (case c4 => k_is)
    (case k4 => k_is)
    (case a5 => k_is)
    (case l5 => k_is)
    (case c5 => k_is)
    (case k5 => k_is)
    (case a6 => k_is)
    (case l6 => k_is)
    (case c6 => k_is)
    (case k6 => k_is)
    (case a7 => k_is)
    (case l7 => k_is)
    (case c7 => k_is)
    (case k7 => k_is)
    (case a8 => k_is)
    (case l8 => k_is)
    (case c8 => k_is)
    (case k8 => k_is)
    (case a9 => k_is)
    (case l9 => k_is)
    (case c9 => k_is)
    (case k9 => k_is)
    (case a10 => k_is)
    (case l10 => k_is)
    (case c10 => k_is)
    (case k10 => k_is)
    (case a11 => k_is)
    (case l11 => k_is)
    (case c11 => k_is)
    (case k11 => k_is)
    (case z_bool => k_is)
    (case z_enumerate => k_is)
    (case z_int => k_is)
    (case z_isinstance => k_is)
    (case z_len => k_is)
    (case z_list => k_is)
    (case z_min => k_is)
    (case z_range => k_is)
    (case z_sorted => k_is)
    (case z_sum => k_is)
    (case z_tuple => k_is)
    (case z_zip => k_is)
