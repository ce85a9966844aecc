import PyProof.Rows.All
import Wide.All
import OpenK.AllK
import Wide.FinOn
import Lean
import PyProof.EqAt
import PyProof.EqKinds
import PyProof.TupleCall
import KE.KEqDict
import PyProof.ZipIter
import PyProof.ListMulAny
import KE.KTryMore
import PyProof.NsDelKeeps
import KE.KUnpack
import PySem.Challenge.RW_nestturn_k29_plans_turned
theorem fE {α : Prop} (h : false = true) : α := (Bool.false_ne_true h).elim
section
set_option Elab.async false
set_option linter.all false
set_option maxRecDepth 100000
namespace L2
open PySem PySem.Spec PyProof.Rows
abbrev Key := Sum Int Str
def keyIs : Key → Value → Bool
 | .inl k, v => Value.isInt k v
 | .inr x, v => Value.isStrOf x v
def keyH (w : World) : Key → Int
 | .inl k => hashInt k
 | .inr x => hashStr w x
theorem keyIs_shape : ∀ {k : Key} {v : Value}, keyIs k v = true → (∃ i t, k = Sum.inl i ∧ v = Value.int i t) ∨ (∃ x t, k = Sum.inr x ∧ v = Value.str x t)
 | .inl i, v, h => by
   obtain ⟨t, e⟩ := Value.isInt_shape (k := i) (v := v) h
   exact .inl ⟨i, t, rfl, e⟩
 | .inr x, v, h => by
   obtain ⟨t, e⟩ := Value.isStrOf_shape (x := x) (v := v) h
   exact .inr ⟨x, t, rfl, e⟩
theorem key_ll (a b : Int) : decide ((Sum.inl a : Key) = Sum.inl b) = (a == b) := by
 by_cases e : a = b
 · subst e; simp
 · have h : ¬ (Sum.inl a : Key) = Sum.inl b := fun q => e (Sum.inl.inj q)
   rw [decide_eq_false h]
   exact (beq_eq_false_iff_ne.mpr e).symm
theorem key_rr (a b : Str) : decide ((Sum.inr a : Key) = Sum.inr b) = decide (a = b) := by
 by_cases e : a = b
 · subst e; simp
 · have h : ¬ (Sum.inr a : Key) = Sum.inr b := fun q => e (Sum.inr.inj q)
   rw [decide_eq_false h, decide_eq_false e]
theorem key_lr (a : Int) (b : Str) : decide ((Sum.inl a : Key) = Sum.inr b) = false := decide_eq_false (fun q => nomatch q)
theorem key_rl (a : Str) (b : Int) : decide ((Sum.inr a : Key) = Sum.inl b) = false := decide_eq_false (fun q => nomatch q)
def mixKind (prog : Program) (w : World) : PySem.KeyKind prog w Key where
 is := keyIs
 hash := keyH w
 inj := fun v a b ha hb => by
  rcases keyIs_shape ha with ⟨i, t, rfl, rfl⟩ | ⟨x, t, rfl, rfl⟩
  · rcases keyIs_shape hb with ⟨j, u, rfl, e⟩ | ⟨y, u, rfl, e⟩
    · injection e with e1 _; rw [e1]
    · exact nomatch e
  · rcases keyIs_shape hb with ⟨j, u, rfl, e⟩ | ⟨y, u, rfl, e⟩
    · exact nomatch e
    · injection e with e1 _; rw [e1]
 byValue := fun k v h => by
  rcases keyIs_shape h with ⟨i, t, rfl, rfl⟩ | ⟨x, t, rfl, rfl⟩ <;> rfl
 pyHash := fun hv h => by
  rcases keyIs_shape hv with ⟨i, t, rfl, rfl⟩ | ⟨x, t, rfl, rfl⟩
  · exact wpAny_pyHash_int h
  · exact wpAny_pyHash_str h
 eqBool := fun hu hv h => by
  rcases keyIs_shape hu with ⟨i, t, rfl, rfl⟩ | ⟨x, t, rfl, rfl⟩
  · rcases keyIs_shape hv with ⟨j, u, rfl, rfl⟩ | ⟨y, u, rfl, rfl⟩
    · rw [key_ll] at h; exact wpAny_eqBool_int h
    · rw [key_lr] at h; exact SeqAt.EqAt.int_str i t y u _ _ _ _ h
  · rcases keyIs_shape hv with ⟨j, u, rfl, rfl⟩ | ⟨y, u, rfl, rfl⟩
    · rw [key_rl] at h; exact SeqAt.EqAt.str_int x t j u _ _ _ _ h
    · rw [key_rr] at h; exact wpAny_eqBool_str h
 «strs» := fun k x t v h => by
  rcases keyIs_shape h with ⟨i, u, rfl, e⟩ | ⟨y, u, rfl, e⟩
  · exact nomatch e
  · injection e with e1 _
    subst e1
    cases v <;> rfl
end L2
namespace L2
open PySem PySem.Spec PyProof.Rows
inductive V where
 | non | bl (b : Bool) | int (i : Int) | str (x : Str) | byt (b : Array UInt8) | flt (b : UInt64) | ref (a : Addr) | ty (n : String)
 deriving DecidableEq
def RelV : V → Value → Prop
 | .non, u => u = Value.none
 | .bl b, u => u = Value.bool b
 | .int i, u => ∃ t, u = Value.int i t
 | .str x, u => ∃ t, u = Value.str x t
 | .byt b, u => ∃ t, u = Value.bytes b t
 | .flt b, u => ∃ t, u = Value.float b t
 | .ref a, u => u = Value.ref a
 | .ty n, u => u = Value.type n
abbrev Vals : List V → List Value → Prop := Paired RelV
theorem Vals.length {xs : List V} {us : List Value} (r : Vals xs us) : xs.length = us.length := Paired.length r
theorem Vals.get : ∀ {xs : List V} {us : List Value} {i : Nat} {x : V}, Vals xs us → xs[i]? = some x → ∃ u, us[i]? = some u ∧ RelV x u
 | _, _, _, _, .nil, e => by simp at e
 | _, _, 0, _, .cons r _, e => by simp at e; subst e; exact ⟨_, rfl, r⟩
 | _, _, i + 1, x, .cons _ t, e => by
   obtain ⟨u, h1, h2⟩ := Vals.get (i := i) (x := x) t (by simpa using e)
   exact ⟨u, by simpa using h1, h2⟩
theorem Vals.set {x : V} {u : Value} (r : RelV x u) : ∀ {xs : List V} {us : List Value} (i : Nat), Vals xs us → Vals (xs.set i x) (us.set i u)
 | _, _, _, .nil => .nil
 | _, _, 0, .cons _ t => .cons r t
 | _, _, i + 1, .cons q t => .cons q (Vals.set r i t)
theorem Vals.append : ∀ {xs ys : List V} {us ws : List Value}, Vals xs us → Vals ys ws → Vals (xs ++ ys) (us ++ ws)
 | _, _, _, _, .nil, s => s
 | _, _, _, _, .cons r t, s => .cons r (Vals.append t s)
theorem Vals.take : ∀ {xs : List V} {us : List Value} (n : Nat), Vals xs us → Vals (xs.take n) (us.take n)
 | _, _, 0, _ => .nil
 | _, _, _ + 1, .nil => .nil
 | _, _, n + 1, .cons r t => .cons r (Vals.take n t)
theorem Vals.drop : ∀ {xs : List V} {us : List Value} (n : Nat), Vals xs us → Vals (xs.drop n) (us.drop n)
 | _, _, 0, r => r
 | _, _, _ + 1, .nil => .nil
 | _, _, n + 1, .cons _ t => Vals.drop n t
def RelO : Option V → Option Value → Prop
 | some v, some u => RelV v u
 | none, none => True
 | _, _ => False
def KV {κ : Type} : List (κ × V) → List (κ × Value) → Prop := Paired fun (p : κ × V) (q : κ × Value) => p.1 = q.1 ∧ RelV p.2 q.2
def kV : Key → V
 | .inl i => .int i
 | .inr x => .str x
inductive HO where
 /-- a list -/
 | lst (xs : List V)
 /-- a tuple (never changes) -/
 | tup (xs : List V)
 /-- a dict whose keys are ints and texts; one whose keys are tuples of ints and texts (the empty one is both) -/
 | dK (kvs : List (Key × V)) | dT (kvs : List (List Key × V))
 /-- a set of ints: its members, its size -/
 | set (S : Int → Bool) (n : Nat)
 /-- an instance of the class at C, its dict at dx, its attributes -/
 | ins (C dx : Addr) (fs : List (Str × V))
 /-- the dict of the instance at x -/
 | own (x : Addr)
 /-- the dict of an exception -/
 | xd (fs : List (Str × V))
 /-- a bound method, f of x -/
 | met (f x : Addr)
 /-- a range object lo, lo + 1, .. below hi -/
 | rng (lo hi : Int)
 /-- a thing that is known to the object (the script; a dict while a loop walks it): read, never written while it is so -/
 | frz (o : Obj) (u : HO)
 /-- a code object's table -/
 | tbl (ps : Array Value)
 /-- any other thing, by what is true of its one object (a def of one's own: SetO a S n := HO.ext fun h => ..) -/
 | ext (φ : Heap → Prop)
abbrev Hp := Addr → Option HO
def upd (H : Hp) (a : Addr) (o : HO) : Hp := fun b => if b = a then some o else H b
theorem upd_same {H : Hp} {a : Addr} {o : HO} : upd H a o a = some o := by unfold upd; rw [if_pos rfl]
theorem upd_ne {H : Hp} {a b : Addr} {o : HO} (h : b ≠ a) : upd H a o b = H b := by unfold upd; rw [if_neg h]
theorem ne_of_none {H : Hp} {a b : Addr} {o : HO} (h : H a = some o) (h' : H b = none) : a ≠ b := by
 intro e; subst e; rw [h] at h'; cases h'
section
variable (P : Program) (w : World)
def ObjOk (H : Hp) (h : Heap) (a : Addr) : HO → Prop
 | .lst xs => xs.length ≤ sizeLine ∧ ∃ (its : List Value) (n : Nat), Vals xs its ∧ h.get? a = some { cls := .type "list", data := .seq its.toArray n }
 | .tup xs => xs.length ≤ sizeLine ∧ ∃ its : List Value, Vals xs its ∧ IsTup h a its.toArray
 | .dK kvs => kvs.length ≤ sizeLine ∧ (a == sysModules) = false ∧ ∃ vs, KV kvs vs ∧ h.DictOf (mixKind P w) a vs
 | .dT kvs => kvs.length ≤ sizeLine ∧ (a == sysModules) = false ∧ ∃ xs : List (List Key × Addr × Value),
  Paired (fun (p : List Key × V) (q : List Key × Addr × Value) => p.1 = q.1 ∧ H q.2.1 = some (.tup (p.1.map kV)) ∧ RelV p.2 q.2.2) kvs xs ∧
  ∃ o es ep, h.get? a = some o ∧ o.ExactDict ∧ o.data = .dict es ep ∧ es.toList = xs.map (entryOfKey (tupleKind (mixKind P w))) ∧ (xs.map (·.1)).Nodup
 | .set S n => h.SetOf (intKind P w) a S n
 | .ins C dx fs => H dx = some (.own a) ∧ fs.length ≤ 1000 ∧ dx ≠ a ∧ h.get? a = some (PySem.W.instObj C dx) ∧
  ∃ mA, h.Ns1 dx mA ∧ (∀ f, RelO (fs.lookup f) (mA f)) ∧ PySem.Within mA (fs.map (·.1))
 | .own _ => ∃ o, h.get? a = some o
 | .xd fs => ∃ mA, h.Ns1 a mA ∧ ∀ f, RelO (fs.lookup f) (mA f)
 | .rng lo hi => ∃ t u v, h.get? a = some { cls := .type "range", data := .fields #[.int lo t, .int hi u, .int 1 v] }
 | .frz o u => h.get? a = some o ∧ ObjOk H h a u
 | .tbl ps => h.get? a = some { cls := .none, data := .fields ps }
 | .met f x => h.get? a = some (PySem.W.methodObj (.ref f) (.ref x))
 | .ext φ => φ h ∧ (∃ o, h.get? a = some o) ∧ ∀ h1 h2 : Heap, φ h1 → (∀ o, h1.get? a = some o → h2.get? a = some o) → φ h2
def HOk (H : Hp) (h : Heap) : Prop := ∀ a o, H a = some o → ObjOk P w H h a o
end
section
variable {P : Program} {w : World} {H H' : Hp} {h h' : Heap} {a : Addr} {o : HO}
theorem ObjOk.lt (x : ObjOk P w H h a o) : a < h.objs.size := by
 cases o with
 | lst xs => obtain ⟨_, _, _, _, e⟩ := x; exact Heap.lt_size e
 | tup xs => obtain ⟨_, _, _, p⟩ := x; exact p.lt
 | dK kvs => obtain ⟨_, _, _, _, o, _, _, e, _⟩ := x; exact Heap.lt_size e
 | dT kvs => obtain ⟨_, _, _, _, o, _, _, e, _⟩ := x; exact Heap.lt_size e
 | set S n => obtain ⟨o, _, _, _, e, _⟩ := x; exact Heap.lt_size e
 | ins C dx fs => obtain ⟨_, _, _, e, _⟩ := x; exact Heap.lt_size e
 | own y => obtain ⟨_, e⟩ := x; exact Heap.lt_size e
 | xd fs => obtain ⟨_, ⟨_, _, _, e, _⟩, _⟩ := x; exact Heap.lt_size e
 | rng lo hi => obtain ⟨_, _, _, e⟩ := x; exact Heap.lt_size e
 | frz ob u => obtain ⟨e, _⟩ := x; exact Heap.lt_size e
 | tbl ps => exact Heap.lt_size (show h.get? a = some _ from x)
 | met f y => exact Heap.lt_size (show h.get? a = some _ from x)
 | ext φ => obtain ⟨_, ⟨_, e⟩, _⟩ := x; exact Heap.lt_size e
theorem Paired.mapP {α β : Type} {F G : α → β → Prop} : ∀ {l₁ : List α} {l₂ : List β}, Paired F l₁ l₂ → (∀ a b, F a b → G a b) → Paired G l₁ l₂
 | _, _, .nil, _ => .nil
 | _, _, .cons r t, f => .cons (f _ _ r) (Paired.mapP t f)
theorem ObjOk.stay (x : ObjOk P w H h a o) (k : ∀ b u, (b = a ∨ H b = some (.own a)) → h.get? b = some u → h'.get? b = some u)
 (ho : ∀ b, H b = some (.own a) → H' b = some (.own a)) (ht : ∀ b xs, H b = some (.tup xs) → H' b = some (.tup xs)) : ObjOk P w H' h' a o := by
 induction o with
 | lst xs => obtain ⟨z, its, n, r, e⟩ := x; exact ⟨z, its, n, r, k _ _ (.inl rfl) e⟩
 | tup xs => obtain ⟨z, its, r, ob, e, c⟩ := x; exact ⟨z, its, r, ob, k _ _ (.inl rfl) e, c⟩
 | dK kvs => obtain ⟨z, y, vs, r, ob, es, ep, e, c⟩ := x; exact ⟨z, y, vs, r, ob, es, ep, k _ _ (.inl rfl) e, c⟩
 | dT kvs =>
   obtain ⟨z, y, xs, r, ob, es, ep, e, c⟩ := x
   exact ⟨z, y, xs, Paired.mapP r fun p q z => ⟨z.1, ht _ _ z.2.1, z.2.2⟩, ob, es, ep, k _ _ (.inl rfl) e, c⟩
 | set S n => obtain ⟨ob, es, ep, t, e, c⟩ := x; exact ⟨ob, es, ep, t, k _ _ (.inl rfl) e, c⟩
 | ins C dx fs =>
   obtain ⟨d, z, ne, e, mA, ⟨od, es, ep, e2, c⟩, r⟩ := x
   exact ⟨ho _ d, z, ne, k _ _ (.inl rfl) e, mA, ⟨od, es, ep, k _ _ (.inr d) e2, c⟩, r⟩
 | own y => obtain ⟨ob, e⟩ := x; exact ⟨ob, k _ _ (.inl rfl) e⟩
 | xd fs => obtain ⟨mA, ⟨od, es, ep, e, c⟩, r⟩ := x; exact ⟨mA, ⟨od, es, ep, k _ _ (.inl rfl) e, c⟩, r⟩
 | rng lo hi => obtain ⟨t, u, v, e⟩ := x; exact ⟨t, u, v, k _ _ (.inl rfl) e⟩
 | frz ob u ih => obtain ⟨e, q⟩ := x; exact ⟨k _ _ (.inl rfl) e, ih q⟩
 | tbl ps =>
   have e : h.get? a = some { cls := .none, data := .fields ps } := x
   show h'.get? a = some { cls := .none, data := .fields ps }
   exact k a _ (.inl rfl) e
 | met f y =>
   have e : h.get? a = some (PySem.W.methodObj (.ref f) (.ref y)) := x
   show h'.get? a = some (PySem.W.methodObj (.ref f) (.ref y))
   exact k a _ (.inl rfl) e
 | ext φ => obtain ⟨p, ⟨o, e⟩, st⟩ := x; exact ⟨st _ _ p fun o q => k _ _ (.inl rfl) q, ⟨o, k _ _ (.inl rfl) e⟩, st⟩
theorem HOk.lt (x : HOk P w H h) (e : H a = some o) : a < h.objs.size := (x a o e).lt
theorem HOk.fresh (x : HOk P w H h) (e : h.objs.size ≤ a) : H a = none := by
 cases q : H a with
 | none => rfl
 | some u => exact absurd (Nat.lt_of_lt_of_le (x.lt q) e) (Nat.lt_irrefl _)
theorem HOk.kept (x : HOk P w H h) (k : ∀ b u, h.get? b = some u → h'.get? b = some u) : HOk P w H h' := fun a o e =>
 (x a o e).stay (fun b u _ q => k b u q) (fun _ q => q) fun _ _ q => q
theorem HOk.laid (x : HOk P w H h) (k : ∀ b u, h.get? b = some u → h'.get? b = some u) (hp : h.objs.size ≤ a) (new : ObjOk P w (upd H a o) h' a o) : HOk P w (upd H a o) h' := fun b u e => by
 have hn := x.fresh hp
 by_cases hb : b = a
 · subst hb; rw [upd_same] at e; cases e; exact new
 · rw [upd_ne hb] at e
   exact (x b u e).stay (fun c v _ q => k c v q) (fun c q => by rw [upd_ne (ne_of_none q hn)]; exact q) fun c xs q => by rw [upd_ne (ne_of_none q hn)]; exact q
end
def Rd (H : Hp) (a : Addr) (u : HO) : Prop := H a = some u ∨ ∃ o, H a = some (.frz o u)
theorem Rd.ok {P : Program} {w : World} {H : Hp} {h : Heap} {a : Addr} {u : HO} (r : Rd H a u) (x : HOk P w H h) : ObjOk P w H h a u := by
 rcases r with r | ⟨o, r⟩
 · exact x a u r
 · obtain ⟨_, q⟩ := x a _ r
   exact q
def Mut : Option HO → Prop
 | some (.lst _) => True
 | some (.dK _) => True
 | some (.dT _) => True
 | some (.set _ _) => True
 | some (.ins _ _ _) => True
 | some (.ext _) => True
 | _ => False
section
variable {P : Program} {w : World} {H : Hp} {h h' : Heap} {x e : Addr} {o' : HO}
theorem HOk.write (ok : HOk P w H h) (mu : Mut (H x)) (he : e = x ∨ H e = some (.own x)) (k : ∀ b u, b ≠ e → h.get? b = some u → h'.get? b = some u) (heo : ∃ u, h'.get? e = some u)
 (new : ObjOk P w (upd H x o') h' x o') : HOk P w (upd H x o') h' := fun b u q => by
 have nown : ∀ c y, H c = some (.own y) → c ≠ x := fun c y r z => by subst z; rw [r] at mu; exact mu
 have ntup : ∀ c xs, H c = some (.tup xs) → c ≠ x := fun c xs r z => by subst z; rw [r] at mu; exact mu
 by_cases hb : b = x
 · subst hb; rw [upd_same] at q; cases q; exact new
 · rw [upd_ne hb] at q
   by_cases hbe : b = e
   · have q' : H b = some (.own x) := by
      rcases he with z | z
      · exact absurd (hbe.trans z) hb
      · rw [hbe]; exact z
     rw [q] at q'; cases q'
     obtain ⟨v, hv⟩ := heo
     exact ⟨v, by rw [hbe]; exact hv⟩
   · refine (ok b u q).stay (fun c v hc r => k c v ?_ r) (fun c r => by rw [upd_ne (nown c b r)]; exact r) fun c xs r => by rw [upd_ne (ntup c xs r)]; exact r
     rcases hc with rfl | hc
     · exact hbe
     · rintro rfl
       rcases he with z | z
       · exact nown c b hc z
       · rw [hc] at z; cases z; exact hb rfl
end
structure Un (fs ex : List Addr) (H H' : Hp) (h h' : Heap) : Prop where
 keep : ∀ b o, h.get? b = some o → H b = none → b ∉ fs → b ∉ ex → h'.get? b = some o
 slot : ∀ b o, h.get? b = some o → H b = none → b ∈ fs → b ∉ ex → ∃ sl, h'.get? b = some { o with slots := sl }
 free : ∀ b o, h.get? b = some o → H b = none → b ∉ ex → H' b = none
 there : ∀ b o, h.get? b = some o → b ∉ ex → ∃ o', h'.get? b = some o'
 tups : ∀ b xs, H b = some (.tup xs) → H' b = some (.tup xs)
 frzs : ∀ b o u, H b = some (.frz o u) → H' b = some (.frz o u)
 tbls : ∀ b ps, H b = some (.tbl ps) → ∃ more, H' b = some (.tbl (ps ++ more))
section
variable {fs fs' ex ex' : List Addr} {H H1 H2 : Hp} {h h1 h2 h' : Heap} {a x e : Addr} {o : HO}
theorem Un.any (u : Un fs ex H H1 h h1) {b : Addr} {ob : Obj} (q : h.get? b = some ob) (n : H b = none) (hx : b ∉ ex) : ∃ sl, h1.get? b = some { ob with slots := sl } := by
 by_cases hb : b ∈ fs
 · exact u.slot b ob q n hb hx
 · exact ⟨ob.slots, u.keep b ob q n hb hx⟩
theorem Un.kept (k : ∀ b u, h.get? b = some u → h'.get? b = some u) : Un fs ex H H h h' :=
 ⟨fun b ob q _ _ _ => k b ob q, fun b ob q _ _ _ => ⟨ob.slots, k b ob q⟩, fun _ _ _ n _ => n, fun b ob q _ => ⟨ob, k b ob q⟩, fun _ _ q => q, fun _ _ _ q => q, fun _ ps q => ⟨#[], by rw [q]; simp⟩⟩
theorem Un.refl : Un fs ex H H h h := Un.kept fun _ _ q => q
theorem Un.laid (k : ∀ b u, h.get? b = some u → h'.get? b = some u) (hp : h.objs.size ≤ a) (hn : H a = none) : Un fs ex H (upd H a o) h h' where
 keep := fun b u q _ _ _ => k b u q
 slot := fun b u q _ _ _ => ⟨u.slots, k b u q⟩
 free := fun b u q n _ => by rw [upd_ne (Nat.ne_of_lt (Nat.lt_of_lt_of_le (Heap.lt_size q) hp))]; exact n
 there := fun b u q _ => ⟨u, k b u q⟩
 tups := fun b xs q => by rw [upd_ne (ne_of_none q hn)]; exact q
 frzs := fun b u xs q => by rw [upd_ne (ne_of_none q hn)]; exact q
 tbls := fun b ps q => ⟨#[], by rw [upd_ne (ne_of_none q hn), q]; simp⟩
theorem Un.write (mu : Mut (H x)) (he : e = x ∨ H e = some (.own x)) (k : ∀ b u, b ≠ e → h.get? b = some u → h'.get? b = some u) (heo : ∃ u, h'.get? e = some u) : Un fs ex H (upd H x o) h h' := by
 have hx : ∀ b, H b = none → b ≠ x := fun b n z => by subst z; rw [n] at mu; exact mu
 have hb : ∀ b, H b = none → b ≠ e := fun b n z => by
  subst z
  rcases he with r | r
  · exact hx b n r
  · rw [n] at r; cases r
 have hm : ∀ b u, H b = some u → ¬ Mut (some u) → b ≠ x := fun b u q nm z => by subst z; rw [q] at mu; exact nm mu
 refine ⟨fun b u q n _ _ => k b u (hb b n) q, fun b u q n _ _ => ⟨u.slots, k b u (hb b n) q⟩, fun b u q n _ => by rw [upd_ne (hx b n)]; exact n, fun b u q _ => ?_,
  fun b xs q => by rw [upd_ne (hm b _ q fun z => z)]; exact q, fun b u xs q => by rw [upd_ne (hm b _ q fun z => z)]; exact q, fun b ps q => ⟨#[], by rw [upd_ne (hm b _ q fun z => z), q]; simp⟩⟩
 by_cases hbe : b = e
 · subst hbe; exact heo
 · exact ⟨u, k b u hbe q⟩
end
def trk (h : Heap) (H : Hp) : List Addr := (List.range h.objs.size).filter fun a => (H a).isSome
def hidT (h : Heap) (H : Hp) : Heap := PySem.W.hideAll h (trk h H)
theorem hidT_size (h : Heap) (H : Hp) : (hidT h H).objs.size = h.objs.size := PySem.W.hideAll_size _ _
theorem hidT_get {h : Heap} {H : Hp} {b : Addr} {o : Obj} (e : h.get? b = some o) (n : H b = none) : (hidT h H).get? b = some o :=
 PySem.W.hideAll_get _ e fun hm => by
  have q : (H b).isSome = true := (List.mem_filter.mp hm).2
  rw [n] at q; simp at q
theorem of_hidT {h : Heap} {H : Hp} {b : Addr} {o : Obj} (e : (hidT h H).get? b = some o) : h.get? b = some o ∧ H b = none := by
 have e' : h.get? b = some o := PySem.W.of_hideAll (trk h H) e
 refine ⟨e', ?_⟩
 cases q : H b with
 | none => rfl
 | some x =>
   have hm : b ∈ trk h H := List.mem_filter.mpr ⟨List.mem_range.mpr (Heap.lt_size e'), by simp [q]⟩
   have z : (hidT h H).get? b = none := PySem.W.hideAll_none (trk h H) hm
   rw [z] at e; cases e
end L2
namespace L2
open PySem PySem.Spec PyProof.Rows
structure Mod (K : PySem.W.Frag) (mg : Str → Option Value) (base : Heap) : Prop where
 kin : K.In base
 glob : base.Ns mainGlobals mg
 blt : ∃ mb, base.Ns builtinsNs mb ∧ ∀ x : Str, x ≠ "__name__" → mb x = bootBuiltins x
 nolimit : base.NoLimit
structure Cx where
 prog : Program
 w : World
 K : PySem.W.Frag
 mg : Str → Option Value
 base : Heap
 A : Around
 N : List Str
 s₀ : Shared
 H₀ : Hp
 env : Env
 outer : List Env
 stack : List Env
 ex : List Addr
 fn : Str → Bool
 calm : Bool
 pn : List (Addr × Obj)
 xe : Value → Shared → Prop
def frs (l : List Env) : List Addr := l.filterMap (·.frame)
abbrev Cx.fs (X : Cx) : List Addr := frs X.outer
def Vis (sc : Scope) (x : Str) : Prop := sc.names.lookup x = some .local ∨ sc.names.lookup x = some .cell ∨ sc.names.lookup x = some .free
def Loc (sc : Scope) (x : Str) : Prop := sc.names.lookup x = some .local ∨ sc.names.lookup x = some .cell
def Look (env : Env) (h : Heap) (m : Str → Option Value) (x : Str) (u : Value) : Prop :=
 (env.kindOf x = some .local ∧ m x = some u) ∨ ((env.kindOf x = some .cell ∨ env.kindOf x = some .free) ∧ ∃ c, env.cells.lookup x = some c ∧ h.IsCell c (some u))
structure Cx.Ok (X : Cx) : Prop where
 mod : Mod X.K X.mg X.base
 kind : X.env.scope.kind = .function
 glob : X.env.globals = mainGlobals
 blt : X.env.builtins = builtinsNs
 above : X.s₀.heap.objs.size ≤ X.env.locals
 inj : ∀ x y c, X.env.cells.lookup x = some c → X.env.cells.lookup y = some c → x = y
 has : ∀ x, (X.env.kindOf x = some .cell ∨ X.env.kindOf x = some .free) → ∃ c, X.env.cells.lookup x = some c
 cab : ∀ x c, X.fn x = true → X.env.cells.lookup x = some c → X.s₀.heap.objs.size ≤ c
 hd : X.calm = true → X.A.handled = none
 frames : X.A.frames = some X.stack
 stk : X.stack = X.outer ∨ (X.stack = X.env :: X.outer ∧ X.env.frame = some X.env.locals)
 exf : ∀ b ∈ X.ex, b ≠ X.env.locals ∧ ∀ x c, X.env.cells.lookup x = some c → c ≠ b
 bs : ∀ b o, X.base.get? b = some o → X.s₀.heap.get? b = some o ∧ X.H₀ b = none
 bsz : X.base.objs.size ≤ X.s₀.heap.objs.size
 noex : ∀ b o, X.base.get? b = some o → b ∉ X.ex
 exfs : ∀ b ∈ X.ex, b ∉ X.fs
 funs : X.s₀.heap.FunFrames X.base X.outer
 frf : ∀ b ∈ X.fs, X.H₀ b = none
structure Inv (X : Cx) (pins : List (Addr × Obj)) (σ : List (Option V)) (H : Hp) (s : Shared) : Prop where
 ok : X.Ok
 os : s.os = X.s₀.os
 bare : AllBare s.gens
 base : Un X.fs X.ex X.H₀ H X.s₀.heap s.heap
 loc : ∃ m, s.heap.Ns X.env.locals m ∧ ∀ (i : Nat) (x : Str) (v : V), X.N[i]? = some x → σ[i]? = some (some v) → Vis X.env.scope x → ∃ u, RelV v u ∧ Look X.env s.heap m x u
 cell : ∀ x c, X.env.cells.lookup x = some c → ∃ v, s.heap.IsCell c v
 free : H X.env.locals = none
 freeC : ∀ x c, X.env.cells.lookup x = some c → H c = none
 pin : ∀ p ∈ X.pn ++ pins, s.heap.get? p.1 = some p.2 ∧ H p.1 = none ∧ p.1 ≠ X.env.locals ∧ p.1 ∉ X.fs ∧ ∀ v, p.2.data ≠ .cell v
 hok : HOk X.prog X.w H s.heap
 len : σ.length = X.N.length
section
variable {X : Cx} {pins : List (Addr × Obj)} {σ : List (Option V)} {H H' : Hp} {s : Shared} {h' : Heap}
theorem Cx.Ok.nofr (ok : X.Ok) {b : Addr} {o : Obj} (e : X.base.get? b = some o) : b ∉ X.fs := fun hb => by
 have := (ok.funs.mem hb).1
 rw [e] at this; cases this
theorem Inv.bs (I : Inv X pins σ H s) : ∀ b o, X.base.get? b = some o → s.heap.get? b = some o ∧ H b = none := fun b o e =>
 ⟨I.base.keep b o (I.ok.bs b o e).1 (I.ok.bs b o e).2 (I.ok.nofr e) (I.ok.noex b o e), I.base.free b o (I.ok.bs b o e).1 (I.ok.bs b o e).2 (I.ok.noex b o e)⟩
theorem Inv.bk (I : Inv X pins σ H s) : ∀ b o, X.base.get? b = some o → s.heap.get? b = some o := fun b o e => (I.bs b o e).1
theorem Inv.mod (I : Inv X pins σ H s) : Mod X.K X.mg X.base := I.ok.mod
theorem Inv.kIn (I : Inv X pins σ H s) : X.K.In s.heap := I.ok.mod.kin.keeps I.bk
theorem Inv.lt (I : Inv X pins σ H s) : X.env.locals < s.heap.objs.size := let ⟨_, hn, _⟩ := I.loc; hn.lt
theorem Inv.sz (I : Inv X pins σ H s) : X.s₀.heap.objs.size ≤ s.heap.objs.size := Nat.le_trans I.ok.above (Nat.le_of_lt I.lt)
theorem Inv.nofs (I : Inv X pins σ H s) {a : Addr} (h : s.heap.objs.size ≤ a) : a ∉ X.fs := fun hb => by
 obtain ⟨_, o, ho, _⟩ := I.ok.funs.mem hb
 exact absurd (Nat.lt_of_lt_of_le (Heap.lt_size ho) (Nat.le_trans I.sz h)) (Nat.lt_irrefl _)
theorem Inv.cne (I : Inv X pins σ H s) : ∀ x c, X.env.cells.lookup x = some c → c ≠ X.env.locals := fun x c e z => by
 obtain ⟨v, o, ho, hd⟩ := I.cell x c e
 obtain ⟨m, ⟨o', es, ep, ho', hd', _⟩, _⟩ := I.loc
 rw [z, ho'] at ho; cases ho; rw [hd'] at hd; cases hd
theorem Inv.funs (I : Inv X pins σ H s) : s.heap.FunFrames X.base X.outer := by
 have all : ∀ (l : List Env), (∀ b ∈ frs l, b ∈ X.fs) → X.s₀.heap.FunFrames X.base l → s.heap.FunFrames X.base l := by
  intro l
  induction l with
  | nil => intro _ _; trivial
  | cons env r ih =>
    intro hs hl
    obtain ⟨hk, ⟨L, o, hf, hn, ho, hd⟩, hr⟩ := hl
    have hL : L ∈ X.fs := hs L (by unfold frs; rw [List.filterMap_cons, hf]; exact List.mem_cons_self)
    obtain ⟨sl, e⟩ := I.base.slot L o ho (I.ok.frf L hL) hL fun z => I.ok.exfs L z hL
    exact ⟨hk, ⟨L, _, hf, hn, e, hd⟩, ih (fun b hb => hs b (by unfold frs; rw [List.filterMap_cons, hf]; exact List.mem_cons_of_mem _ hb)) hr⟩
 exact all X.outer (fun _ hb => hb) I.ok.funs
theorem Inv.stack (I : Inv X pins σ H s) : s.heap.FunFrames X.base X.stack := by
 rcases I.ok.stk with e | ⟨e, hf⟩
 · rw [e]; exact I.funs
 · rw [e]
   obtain ⟨m, hn, _⟩ := I.loc
   refine .cons (by rw [I.ok.kind]; decide) hf hn ?_ I.funs
   exact Heap.get?_none_of_le (Nat.le_trans I.ok.bsz I.ok.above)
theorem Inv.stkSub (I : Inv X pins σ H s) : ∀ b ∈ frs X.stack, b ∈ X.env.locals :: X.fs := fun b hb => by
 rcases I.ok.stk with e | ⟨e, hf⟩
 · rw [e] at hb; exact List.mem_cons_of_mem _ hb
 · rw [e] at hb
   unfold frs at hb
   rw [List.filterMap_cons, hf] at hb
   exact hb
theorem Inv.stkFree (I : Inv X pins σ H s) : ∀ b ∈ frs X.stack, H b = none := fun b hb => by
 rcases List.mem_cons.mp (I.stkSub b hb) with e | hb
 · rw [e]; exact I.free
 · obtain ⟨_, o, ho, _⟩ := I.ok.funs.mem hb
   exact I.base.free b o ho (I.ok.frf b hb) fun z => I.ok.exfs b z hb
theorem Inv.step {g' : Array GenState} {t' : Nat} {d' : Drawn} {ch : List Addr} (I : Inv X pins σ H s)
 (hch : ∀ b ∈ ch, (b ∈ X.ex ∨ X.s₀.heap.objs.size ≤ b) ∧ b ≠ X.env.locals ∧ (∀ x c, X.env.cells.lookup x = some c → c ≠ b) ∧ ∀ p ∈ X.pn ++ pins, p.1 ≠ b)
 (keep : ∀ b o, b ≠ X.env.locals → b ∉ X.fs → b ∉ ch → s.heap.get? b = some o → H b = none → h'.get? b = some o)
 (slot : ∀ b o, b ≠ X.env.locals → b ∈ X.fs → b ∉ ch → s.heap.get? b = some o → H b = none → ∃ sl, h'.get? b = some { o with slots := sl }) (free : ∀ b o, b ∉ ch → s.heap.get? b = some o → H b = none → H' b = none)
 (there : ∀ b o, b ∉ ch → s.heap.get? b = some o → ∃ o', h'.get? b = some o')
 (tups : ∀ b xs, H b = some (.tup xs) → H' b = some (.tup xs)) (frzs : ∀ b o u, H b = some (.frz o u) → H' b = some (.frz o u)) (tbls : ∀ b ps, H b = some (.tbl ps) → ∃ more, H' b = some (.tbl (ps ++ more)))
 (ns : ∀ m, s.heap.Ns X.env.locals m → h'.Ns X.env.locals m) (hok : HOk X.prog X.w H' h') (hg : AllBare g') :
 Inv X pins σ H' { s with heap := h', gens := g', drawn := d', toks := t' } := by
 have neL : ∀ b o, X.s₀.heap.get? b = some o → b ≠ X.env.locals := fun b o e => Nat.ne_of_lt (Nat.lt_of_lt_of_le (Heap.lt_size e) I.ok.above)
 have neC : ∀ b o, X.s₀.heap.get? b = some o → b ∉ X.ex → b ∉ ch := fun b o e hx hb => by
  rcases (hch b hb).1 with z | z
  · exact hx z
  · exact absurd (Nat.lt_of_lt_of_le (Heap.lt_size e) z) (Nat.lt_irrefl _)
 have cellK : ∀ x c, X.env.cells.lookup x = some c → ∀ v, s.heap.IsCell c v → h'.IsCell c v := fun x c e v ⟨o, ho, hd⟩ => by
  have nch : c ∉ ch := fun z => (hch c z).2.2.1 x c e rfl
  by_cases hc : c ∈ X.fs
  · obtain ⟨sl, q⟩ := slot c o (I.cne x c e) hc nch ho (I.freeC x c e)
    exact ⟨_, q, hd⟩
  · exact ⟨o, keep c o (I.cne x c e) hc nch ho (I.freeC x c e), hd⟩
 refine ⟨I.ok, I.os, hg, ⟨fun b o e n hb hx => ?_, fun b o e n hb hx => ?_, fun b o e n hx => ?_, fun b o e hx => ?_, fun b xs e => tups b xs (I.base.tups b xs e), fun b o xs e => frzs b o xs (I.base.frzs b o xs e), fun b ps e => ?_⟩, ?_, fun x c e => ?_, ?_, fun x c e => ?_, fun p hp => ?_, hok, I.len⟩
 · exact keep b o (neL b o e) hb (neC b o e hx) (I.base.keep b o e n hb hx) (I.base.free b o e n hx)
 · obtain ⟨sl, e1⟩ := I.base.slot b o e n hb hx
   obtain ⟨sl', e2⟩ := slot b _ (neL b o e) hb (neC b o e hx) e1 (I.base.free b o e n hx)
   exact ⟨sl', e2⟩
 · obtain ⟨o', e1⟩ := I.base.there b o e hx
   exact free b o' (neC b o e hx) e1 (I.base.free b o e n hx)
 · obtain ⟨o', e1⟩ := I.base.there b o e hx
   exact there b o' (neC b o e hx) e1
 · obtain ⟨m1, e1⟩ := I.base.tbls b ps e
   obtain ⟨m2, e2⟩ := tbls b _ e1
   exact ⟨m1 ++ m2, by rw [e2, Array.append_assoc]⟩
 · obtain ⟨m, hn, hl⟩ := I.loc
   refine ⟨m, ns m hn, fun i x v e1 e2 e3 => ?_⟩
   obtain ⟨u, r, l⟩ := hl i x v e1 e2 e3
   refine ⟨u, r, ?_⟩
   rcases l with l | ⟨k, c, e, z⟩
   · exact .inl l
   · exact .inr ⟨k, c, e, cellK x c e _ z⟩
 · obtain ⟨v, z⟩ := I.cell x c e
   exact ⟨v, cellK x c e v z⟩
 · obtain ⟨m, ⟨o, _, _, ho, _⟩, _⟩ := I.loc
   exact free _ o (fun z => (hch _ z).2.1 rfl) ho I.free
 · obtain ⟨v, o, ho, hd⟩ := I.cell x c e
   exact free c o (fun z => (hch c z).2.2.1 x c e rfl) ho (I.freeC x c e)
 · obtain ⟨e, n, ne, nf, d⟩ := I.pin p hp
   have nch : p.1 ∉ ch := fun z => (hch p.1 z).2.2.2 p hp rfl
   exact ⟨keep p.1 p.2 ne nf nch e n, free p.1 p.2 nch e n, ne, nf, d⟩
theorem Inv.un {t' : Nat} (I : Inv X pins σ H s) (u : Un X.fs [] H H' s.heap h') (hok : HOk X.prog X.w H' h') : Inv X pins σ H' { s with heap := h', toks := t' } := by
 obtain ⟨m, ⟨o, es, ep, ho, r⟩, _⟩ := id I.loc
 obtain ⟨sl, hL⟩ := u.any ho I.free (by simp)
 exact I.step (g' := s.gens) (d' := s.drawn) (ch := []) (fun _ z => nomatch z) (fun b o _ hb _ e n => u.keep b o e n hb (by simp)) (fun b o _ hb _ e n => u.slot b o e n hb (by simp)) (fun b o _ e n => u.free b o e n (by simp)) (fun b o _ e => u.there b o e (by simp)) u.tups u.frzs u.tbls (fun m' hm => by
  obtain ⟨o', es', ep', ho', r'⟩ := hm
  rw [ho] at ho'; cases ho'
  exact ⟨_, es', ep', hL, r'⟩) hok I.bare
theorem Inv.call {g' : Array GenState} {t' : Nat} {d' : Drawn} {ch : List Addr} (I : Inv X pins σ H s) (u : Un (frs X.stack) ch H H' s.heap h') (hok : HOk X.prog X.w H' h') (hg : AllBare g')
 (hch : ∀ b ∈ ch, (b ∈ X.ex ∨ X.s₀.heap.objs.size ≤ b) ∧ b ≠ X.env.locals ∧ (∀ x c, X.env.cells.lookup x = some c → c ≠ b) ∧ ∀ p ∈ X.pn ++ pins, p.1 ≠ b) :
 Inv X pins σ H' { s with heap := h', gens := g', drawn := d', toks := t' } := by
 obtain ⟨m, ⟨o, es, ep, ho, r⟩, _⟩ := id I.loc
 obtain ⟨sl, hL⟩ := u.any ho I.free fun z => (hch _ z).2.1 rfl
 exact I.step (ch := ch) hch (fun b o hL hb hc e n => u.keep b o e n (fun z => (List.mem_cons.mp (I.stkSub b z)).elim hL hb) hc) (fun b o _ _ hc e n => u.any e n hc) (fun b o hc e n => u.free b o e n hc) (fun b o hc e => u.there b o e hc) u.tups u.frzs u.tbls (fun m' hm => by
  obtain ⟨o', es', ep', ho', r'⟩ := hm
  rw [ho] at ho'; cases ho'
  exact ⟨_, es', ep', hL, r'⟩) hok hg
theorem Inv.turned {t' : Nat} {it : Addr} (I : Inv X pins σ H s) (k : ∀ b o, b ≠ it → s.heap.get? b = some o → h'.get? b = some o) (hn : H it = none) (hL : it ≠ X.env.locals)
 (h1 : it ∈ X.ex ∨ X.s₀.heap.objs.size ≤ it) (h2 : ∀ x c, X.env.cells.lookup x = some c → c ≠ it) (h3 : ∀ p ∈ X.pn ++ pins, p.1 ≠ it) : Inv X pins σ H { s with heap := h', toks := t' } := by
 have nit : ∀ b u, H b = some u → b ≠ it := fun b u e z => by rw [z, hn] at e; cases e
 refine I.step (g' := s.gens) (d' := s.drawn) (ch := [it]) (fun b hb => ?_) (fun b o _ _ hc e _ => k b o (fun z => hc (by simp [z])) e) (fun b o _ _ hc e _ => ⟨o.slots, k b o (fun z => hc (by simp [z])) e⟩) (fun _ _ _ _ n => n)
  (fun b o hc e => ⟨o, k b o (fun z => hc (by simp [z])) e⟩) (fun _ _ e => e) (fun _ _ _ e => e) (fun b ps e => ⟨#[], by rw [e]; simp⟩) (fun m hm => ?_) (fun b u e => ?_) I.bare
 · have e : b = it := by simpa using hb
   subst e
   exact ⟨h1, hL, h2, h3⟩
 · obtain ⟨o, es, ep, ho, r⟩ := hm
   exact ⟨o, es, ep, k _ o (Ne.symm hL) ho, r⟩
 · refine (I.hok b u e).stay (fun c v hc q => k c v ?_ q) (fun _ q => q) fun _ _ q => q
   rcases hc with z | z
   · rw [z]; exact nit b u e
   · exact nit c _ z
theorem Inv.tok (I : Inv X pins σ H s) (t : Nat) : Inv X pins σ H { s with toks := t } := I.un (h' := s.heap) (t' := t) Un.refl I.hok
theorem Inv.kept {t' : Nat} (I : Inv X pins σ H s) (k : ∀ b u, s.heap.get? b = some u → h'.get? b = some u) : Inv X pins σ H { s with heap := h', toks := t' } := I.un (Un.kept k) (I.hok.kept k)
theorem Inv.laid {a : Addr} {o : HO} {t' : Nat} (I : Inv X pins σ H s) (k : ∀ b u, s.heap.get? b = some u → h'.get? b = some u) (hp : s.heap.objs.size ≤ a) (new : ObjOk X.prog X.w (upd H a o) h' a o) :
 Inv X pins σ (upd H a o) { s with heap := h', toks := t' } := I.un (Un.laid k hp (I.hok.fresh hp)) (I.hok.laid k hp new)
theorem Inv.write {x e : Addr} {o : HO} {t' : Nat} (I : Inv X pins σ H s) (mu : Mut (H x)) (he : e = x ∨ H e = some (.own x)) (k : ∀ b u, b ≠ e → s.heap.get? b = some u → h'.get? b = some u) (heo : ∃ u, h'.get? e = some u)
 (new : ObjOk X.prog X.w (upd H x o) h' x o) : Inv X pins σ (upd H x o) { s with heap := h', toks := t' } := I.un (Un.write mu he k heo) (I.hok.write mu he k heo new)
theorem Inv.pins_of {pins' : List (Addr × Obj)} (I : Inv X pins σ H s) (h : ∀ p ∈ pins', s.heap.get? p.1 = some p.2 ∧ H p.1 = none ∧ p.1 ≠ X.env.locals ∧ p.1 ∉ X.fs ∧ ∀ v, p.2.data ≠ .cell v) : Inv X pins' σ H s :=
 ⟨I.ok, I.os, I.bare, I.base, I.loc, I.cell, I.free, I.freeC, fun p hp => (List.mem_append.mp hp).elim (fun z => I.pin p (List.mem_append_left _ z)) (h p), I.hok, I.len⟩
theorem nodup_ix {N : List Str} (hN : N.Nodup) {i j : Nat} {x : Str} (a : N[i]? = some x) (b : N[j]? = some x) : i = j := by
 obtain ⟨h1, e1⟩ := List.getElem?_eq_some_iff.mp a
 obtain ⟨h2, e2⟩ := List.getElem?_eq_some_iff.mp b
 exact (List.getElem_inj hN).mp (e1.trans e2.symm)
theorem store_ok2 {M : Model} {A : Around} {E : Value → Shared → Prop} {i : Nat} {x : Str} {v : V} {u : Value} {Q : Unit → Shared → Prop} (I : Inv X pins σ H s) (hN : X.N.Nodup) (hi : X.N[i]? = some x) (hx : Loc X.env.scope x) (r : RelV v u)
 (h : ∀ s', Inv X pins (σ.set i (some v)) H s' → (∃ a, Heap.SameBut a s.heap s'.heap ∧ (a = X.env.locals ∨ X.env.cells.lookup x = some a)) → Q () s') (hf : X.fn x = true ∨ X.env.scope.names.lookup x = some .local := by first | exact .inl rfl | exact .inr rfl | assumption) : wpAny M A (storeName X.env x u) Q E s := by
 obtain ⟨m, hn, hl⟩ := id I.loc
 have hcls : (X.env.scope.kind == .class || (X.env.scope.kind == .module && X.env.locals != X.env.globals)) = false := by rw [I.ok.kind]; rfl
 have hiσ : i < σ.length := by rw [I.len]; exact (List.getElem?_eq_some_iff.mp hi).1
 have cne := I.cne
 have tracked : ∀ {a : Addr} {h' : Heap}, (∃ o, s.heap.get? a = some o ∧ H a = none) → Heap.SameBut a s.heap h' → HOk X.prog X.w H h' := fun {a h'} ha hs b ob e => by
  obtain ⟨_, _, hfree⟩ := ha
  refine (I.hok b ob e).stay (fun c w' hc q => (hs.2 c ?_).trans q) (fun _ q => q) fun _ _ q => q
  rintro rfl
  rcases hc with rfl | hc
  · rw [hfree] at e; cases e
  · rw [hfree] at hc; cases hc
 rcases hx with hk | hk
 · refine wpAny_storeName_local hk hn (fun h' hn' hs => ?_) hcls
   obtain ⟨oL, _, _, hoL, _⟩ := id hn
   refine h _ ⟨I.ok, I.os, I.bare, ⟨fun b o e n hb hx => ?_, fun b o e n hb hx => ?_, I.base.free, fun b o e hx => ?_, I.base.tups, I.base.frzs, I.base.tbls⟩, ⟨_, hn', fun j y v' e1 e2 e3 => ?_⟩, fun y c e => ?_, I.free, I.freeC, fun p hp => ?_, tracked ⟨oL, hoL, I.free⟩ hs, by simpa using I.len⟩ ⟨_, hs, .inl rfl⟩
   · exact (hs.2 b (Nat.ne_of_lt (Nat.lt_of_lt_of_le (Heap.lt_size e) I.ok.above))).trans (I.base.keep b o e n hb hx)
   · obtain ⟨sl, e1⟩ := I.base.slot b o e n hb hx
     exact ⟨sl, (hs.2 b (Nat.ne_of_lt (Nat.lt_of_lt_of_le (Heap.lt_size e) I.ok.above))).trans e1⟩
   · obtain ⟨o', e1⟩ := I.base.there b o e hx
     exact ⟨o', (hs.2 b (Nat.ne_of_lt (Nat.lt_of_lt_of_le (Heap.lt_size e) I.ok.above))).trans e1⟩
   · by_cases hj : j = i
     · subst hj
       rw [hi] at e1; cases e1
       rw [List.getElem?_set_self hiσ] at e2
       cases e2
       exact ⟨u, r, .inl ⟨hk, by simp⟩⟩
     · rw [List.getElem?_set_ne (Ne.symm hj)] at e2
       obtain ⟨u', r', q⟩ := hl j y v' e1 e2 e3
       refine ⟨u', r', ?_⟩
       rcases q with ⟨k, e⟩ | ⟨k, c, e, z⟩
       · refine .inl ⟨k, ?_⟩
         have : y ≠ x := fun e => hj (nodup_ix hN e1 (e ▸ hi))
         simp [this, e]
       · exact .inr ⟨k, c, e, z.sameBut hs (cne y c e)⟩
   · obtain ⟨w', z⟩ := I.cell y c e
     exact ⟨w', z.sameBut hs (cne y c e)⟩
   · obtain ⟨e, n, ne, nf, d⟩ := I.pin p hp
     exact ⟨(hs.2 p.1 ne).trans e, n, ne, nf, d⟩
 · have hfn : X.fn x = true := by
    rcases hf with z | z
    · exact z
    · rw [z] at hk; cases hk
   obtain ⟨c, hc⟩ := I.ok.has x (.inl hk)
   obtain ⟨w', z⟩ := I.cell x c hc
   refine wpAny_storeName_cell I.ok.kind hk hc z (fun h' hc' hs => ?_)
   obtain ⟨oc, hoc, hocd⟩ := id z
   refine h { s with heap := h' } ⟨I.ok, I.os, I.bare, ⟨fun b o e n hb hx => ?_, fun b o e n hb hx => ?_, I.base.free, fun b o e hx => ?_, I.base.tups, I.base.frzs, I.base.tbls⟩, ⟨m, hn.sameBut hs (Ne.symm (cne x c hc)), fun j y v' e1 e2 e3 => ?_⟩, fun y c' e => ?_, I.free, I.freeC, fun p hp => ?_, tracked ⟨oc, hoc, I.freeC x c hc⟩ hs, by simpa using I.len⟩ ⟨c, hs, .inr hc⟩
   · exact (hs.2 b (Nat.ne_of_lt (Nat.lt_of_lt_of_le (Heap.lt_size e) (I.ok.cab x c hfn hc)))).trans (I.base.keep b o e n hb hx)
   · obtain ⟨sl, e1⟩ := I.base.slot b o e n hb hx
     exact ⟨sl, (hs.2 b (Nat.ne_of_lt (Nat.lt_of_lt_of_le (Heap.lt_size e) (I.ok.cab x c hfn hc)))).trans e1⟩
   · obtain ⟨o', e1⟩ := I.base.there b o e hx
     exact ⟨o', (hs.2 b (Nat.ne_of_lt (Nat.lt_of_lt_of_le (Heap.lt_size e) (I.ok.cab x c hfn hc)))).trans e1⟩
   · by_cases hj : j = i
     · subst hj
       rw [hi] at e1; cases e1
       rw [List.getElem?_set_self hiσ] at e2
       cases e2
       exact ⟨u, r, .inr ⟨.inl hk, c, hc, hc'⟩⟩
     · rw [List.getElem?_set_ne (Ne.symm hj)] at e2
       obtain ⟨u', r', q⟩ := hl j y v' e1 e2 e3
       refine ⟨u', r', ?_⟩
       rcases q with q | ⟨k, c', e, z'⟩
       · exact .inl q
       · refine .inr ⟨k, c', e, z'.sameBut hs ?_⟩
         rintro rfl
         exact hj (nodup_ix hN e1 (I.ok.inj _ _ _ e hc ▸ hi))
   · by_cases hcc : c' = c
     · subst hcc; exact ⟨_, hc'⟩
     · obtain ⟨w2, z2⟩ := I.cell y c' e
       exact ⟨w2, z2.sameBut hs hcc⟩
   · obtain ⟨e, n, ne, nf, d⟩ := I.pin p hp
     refine ⟨(hs.2 p.1 ?_).trans e, n, ne, nf, d⟩
     intro q
     rw [q, hoc] at e
     have q' : oc = p.2 := Option.some.inj e
     exact d w' (by rw [← q']; exact hocd)
theorem store_ok {M : Model} {A : Around} {E : Value → Shared → Prop} {i : Nat} {x : Str} {v : V} {u : Value} {Q : Unit → Shared → Prop} (I : Inv X pins σ H s) (hN : X.N.Nodup) (hi : X.N[i]? = some x) (hx : Loc X.env.scope x) (r : RelV v u)
 (h : ∀ s', Inv X pins (σ.set i (some v)) H s' → Q () s') (hf : X.fn x = true ∨ X.env.scope.names.lookup x = some .local := by first | exact .inl rfl | exact .inr rfl | assumption) : wpAny M A (storeName X.env x u) Q E s :=
 store_ok2 I hN hi hx r (fun s' I' _ => h s' I') hf
theorem Inv.call' {s' : Shared} {ch : List Addr} (I : Inv X pins σ H s) (ho : s'.os = s.os) (u : Un (frs X.stack) ch H H' s.heap s'.heap) (hok : HOk X.prog X.w H' s'.heap) (hg : AllBare s'.gens)
 (hch : ∀ b ∈ ch, (b ∈ X.ex ∨ X.s₀.heap.objs.size ≤ b) ∧ b ≠ X.env.locals ∧ (∀ x c, X.env.cells.lookup x = some c → c ≠ b) ∧ ∀ p ∈ X.pn ++ pins, p.1 ≠ b) : Inv X pins σ H' s' := by
 obtain ⟨h', g', d', t', o'⟩ := s'
 have e : o' = s.os := ho
 subst e
 exact I.call (g' := g') (t' := t') (d' := d') u hok hg hch
end
abbrev XK := Value → Option Addr → Hp → Prop
abbrev St := List (Option V)
abbrev VK := V → Hp → Prop
abbrev TE := St → Hp → VK → Prop
abbrev TT := St → Hp → (Bool → Hp → Prop) → Prop
abbrev TA := St → Hp → (List V → Hp → Prop) → Prop
structure Ends where
 nx : St → Hp → Prop
 rt : VK
 bk : St → Hp → Prop := fun _ _ => False
 ct : St → Hp → Prop := fun _ _ => False
abbrev TS := Ends → St → Hp → Prop
def EP (X : Cx) (pins : List (Addr × Obj)) (σ : St) (Q : VK) (u : Value) (s' : Shared) : Prop := ∃ v H', Inv X pins σ H' s' ∧ RelV v u ∧ Q v H'
def TP (X : Cx) (pins : List (Addr × Obj)) (σ : St) (Q : Bool → Hp → Prop) (b : Bool) (s' : Shared) : Prop := ∃ H', Inv X pins σ H' s' ∧ Q b H'
def AP (X : Cx) (pins : List (Addr × Obj)) (σ : St) (Q : List V → Hp → Prop) (us : List Value) (s' : Shared) : Prop := ∃ vs H', Inv X pins σ H' s' ∧ Vals vs us ∧ Q vs H'
def SP (X : Cx) (pins : List (Addr × Obj)) (D : Ends) (f : Flow) (s' : Shared) : Prop :=
 match f with
 | .next => ∃ σ' H', Inv X pins σ' H' s' ∧ D.nx σ' H'
 | .brk => ∃ σ' H', Inv X pins σ' H' s' ∧ D.bk σ' H'
 | .cont => ∃ σ' H', Inv X pins σ' H' s' ∧ D.ct σ' H'
 | .ret u => ∃ v σ' H', Inv X pins σ' H' s' ∧ RelV v u ∧ D.rt v H'
def PE (X : Cx) (e : Expr) (t : TE) : Prop :=
 ∀ (pins : List (Addr × Obj)) (s : Shared) (σ : St) (H : Hp) (Q : VK), Inv X pins σ H s → t σ H Q → wpAny (model X.prog X.w) X.A (eval e X.env) (EP X pins σ Q) X.xe s
def PA (X : Cx) (es : List Expr) (t : TA) : Prop :=
 ∀ (pos : Pos) (pins : List (Addr × Obj)) (s : Shared) (σ : St) (H : Hp) (Q : List V → Hp → Prop), Inv X pins σ H s → t σ H Q → wpAny (model X.prog X.w) X.A (spliced (backTo pos (starEach es X.env))) (AP X pins σ Q) X.xe s
def PS (X : Cx) (st : Stmt) (t : TS) : Prop :=
 ∀ (pins : List (Addr × Obj)) (s : Shared) (σ : St) (H : Hp) (D : Ends), Inv X pins σ H s → t D σ H → wpAny (model X.prog X.w) X.A (exec st X.env) (SP X pins D) X.xe s
def PSs (X : Cx) (st : List Stmt) (t : TS) : Prop :=
 ∀ (pins : List (Addr × Obj)) (s : Shared) (σ : St) (H : Hp) (D : Ends), Inv X pins σ H s → t D σ H → wpAny (model X.prog X.w) X.A (execs st X.env) (SP X pins D) X.xe s
theorem thn {α : Type} {t : Sem α} {Q Q' : α → Shared → Prop} {M : Model} {A : Around} {E : Value → Shared → Prop} {s : Shared} (h : wpAny M A t Q E s) (hQ : ∀ a s, Q a s → Q' a s) : wpAny M A t Q' E s := wpAny_mono h hQ fun _ _ x => x
end L2
namespace L2
open PySem PySem.Spec PyProof.Rows
section
variable {X : Cx}
def tVar (i : Nat) : TE := fun σ H Q => ∃ v, σ[i]? = some (some v) ∧ Q v H
def tC (v : V) : TE := fun _ H Q => Q v H
theorem pe_var {i : Nat} {x : Str} {pos : Pos} (hN : X.N[i]? = some x) (hv : Vis X.env.scope x) (hd : (x == ("__debug__" : Str)) = false := by decide) (hcd : (x == ("__classdict__" : Str)) = false := by decide) : PE X (.Name x pos) (tVar i) := by
 intro pins s σ H Q I h
 obtain ⟨v, e, h⟩ := h
 obtain ⟨m, hn, hl⟩ := I.loc
 obtain ⟨u, r, l⟩ := hl i x v hN e hv
 have fin : EP X pins σ Q u s := ⟨v, H, I, r, h⟩
 rcases l with ⟨hk, hm⟩ | ⟨hk, c, hc, hcell⟩
 · exact wpAny_Name (wpAny_loadName_local I.ok.kind hk hn hm fin) hd
 · rcases hk with hk | hk
   · exact wpAny_Name (wpAny_loadName_cell I.ok.kind hk hc hcell fin) hd
   · exact wpAny_Name (wpAny_loadName_free I.ok.kind hk hc hcell fin hcd) hd
theorem pe_int {i j pos} : PE X (.Constant (.int i) j pos) (tC (.int i)) := fun _ _ _ H _ I h => wpAny_Constant_int ⟨.int i, H, I.tok _, ⟨_, rfl⟩, h⟩
theorem pe_bl {b j pos} : PE X (.Constant (.bool b) j pos) (tC (.bl b)) := fun _ _ _ H _ I h => Constant_bool ⟨.bl b, H, I, rfl, h⟩
theorem pe_non {j pos} : PE X (.Constant .none j pos) (tC .non) := fun _ _ _ H _ I h => Constant_none ⟨.non, H, I, rfl, h⟩
theorem pe_str {x j pos} : PE X (.Constant (.str x) j pos) (tC (.str x)) := fun _ _ _ H _ I h => Calls.Constant_str ⟨.str x, H, I.tok _, ⟨_, rfl⟩, h⟩
def Gl (X : Cx) (x : Str) : Prop := X.env.kindOf x = some .globalImplicit
theorem ld_glob {E : Value → Shared → Prop} {pins : List (Addr × Obj)} {s : Shared} {σ : St} {H : Hp} {x : Str} {u : Value} {pos : Pos} {Q : Value → Shared → Prop} (I : Inv X pins σ H s) (hg : Gl X x) (hm : X.mg x = some u) (h : Q u s)
 (hd : (x == ("__debug__" : Str)) = false := by decide) : wpAny (model X.prog X.w) X.A (eval (.Name x pos) X.env) Q E s :=
 Calls.Name_function_global I.ok.kind hg (Calls.loadGlobal_global (by rw [I.ok.glob]; exact I.mod.glob.keeps I.bk) hm h) hd
theorem ld_blt {E : Value → Shared → Prop} {pins : List (Addr × Obj)} {s : Shared} {σ : St} {H : Hp} {x : Str} {u : Value} {pos : Pos} {Q : Value → Shared → Prop} (I : Inv X pins σ H s) (hg : Gl X x) (hm : X.mg x = none) (hv : bootBuiltins x = some u) (h : Q u s)
 (hn : x ≠ "__name__" := by decide) (hd : (x == ("__debug__" : Str)) = false := by decide) : wpAny (model X.prog X.w) X.A (eval (.Name x pos) X.env) Q E s := by
 obtain ⟨mb, h1, h2⟩ := I.mod.blt
 exact Calls.Name_function_global I.ok.kind hg (Calls.loadGlobal_builtin (by rw [I.ok.glob]; exact I.mod.glob.keeps I.bk) hm (by rw [I.ok.blt]; exact h1.keeps I.bk) ((h2 x hn).trans hv) h) hd
theorem pe_glob {x : Str} {v : V} {u : Value} {pos : Pos} (hg : Gl X x) (hm : X.mg x = some u) (r : RelV v u) (hd : (x == ("__debug__" : Str)) = false := by decide) : PE X (.Name x pos) (tC v) :=
 fun _ _ _ H _ I h => ld_glob I hg hm ⟨v, H, I, r, h⟩ hd
theorem pe_bltn {x : Str} {v : V} {u : Value} {pos : Pos} (hg : Gl X x) (hm : X.mg x = none) (hv : bootBuiltins x = some u) (r : RelV v u) (hn : x ≠ "__name__" := by decide) (hd : (x == ("__debug__" : Str)) = false := by decide) : PE X (.Name x pos) (tC v) :=
 fun _ _ _ H _ I h => ld_blt I hg hm hv ⟨v, H, I, r, h⟩ hn hd
variable {a b : Expr} {ta tb : TE} {pos : Pos}
variable {tA tB' : TT} {rest : List Expr}
end
end L2
namespace L2
open PySem PySem.Spec PyProof.Rows
def SqL (K : PySem.W.Frag) (H : Hp) (a : Addr) (xs : List V) : Prop :=
 Rd H a (.lst xs) ∨
  ∃ (o : Obj) (its : Array Value) (n : Nat), K.lookup a = some o ∧ o.cls = .type "list" ∧ o.dict = none ∧ o.data = .seq its n ∧ its.size ≤ sizeLine ∧ Vals xs its.toList
def SqT (K : PySem.W.Frag) (H : Hp) (a : Addr) (xs : List V) : Prop :=
 Rd H a (.tup xs) ∨
  ∃ (o : Obj) (its : Array Value) (n : Nat), K.lookup a = some o ∧ o.cls = .type "tuple" ∧ o.data = .seq its n ∧ its.size ≤ sizeLine ∧ Vals xs its.toList
def absV : Value → Option V
 | .none => some .non
 | .bool b => some (.bl b)
 | .int i _ => some (.int i)
 | .str x _ => some (.str x)
 | .bytes b _ => some (.byt b)
 | .float b _ => some (.flt b)
 | .ref a => some (.ref a)
 | .type n => some (.ty n)
 | _ => none
theorem RelV.abs {x : V} {u : Value} (r : RelV x u) : absV u = some x := by
 cases x with
 | non => cases r; rfl
 | bl _ => cases r; rfl
 | int _ => obtain ⟨t, rfl⟩ := r; rfl
 | str _ => obtain ⟨t, rfl⟩ := r; rfl
 | byt _ => obtain ⟨t, rfl⟩ := r; rfl
 | flt _ => obtain ⟨t, rfl⟩ := r; rfl
 | ref _ => cases r; rfl
 | ty _ => cases r; rfl
theorem RelV.inj {x y : V} {u : Value} (r : RelV x u) (q : RelV y u) : x = y := Option.some.inj (r.abs.symm.trans q.abs)
theorem Vals.inj : ∀ {xs ys : List V} {us : List Value}, Vals xs us → Vals ys us → xs = ys
 | _, _, _, .nil, .nil => rfl
 | _, _, _, .cons r t, .cons r' t' => by rw [r.inj r', Vals.inj t t']
section
variable {X : Cx} {pins : List (Addr × Obj)} {σ : St} {H : Hp} {s : Shared} {a : Addr} {xs ys : List V}
theorem SqL.of {K : PySem.W.Frag} (h : H a = some (.lst xs)) : SqL K H a xs := .inl (.inl h)
theorem SqT.of {K : PySem.W.Frag} (h : H a = some (.tup xs)) : SqT K H a xs := .inl (.inl h)
theorem Inv.list (I : Inv X pins σ H s) (h : SqL X.K H a xs) : ∃ its : List Value, Vals xs its ∧ PlainL s.heap a its.toArray ∧ xs.length ≤ sizeLine := by
 rcases h with h | ⟨o, its, n, hk, hc, hd, hs, hz, r⟩
 · obtain ⟨z, its, n, r, e⟩ := h.ok I.hok
   exact ⟨its, r, ⟨_, n, e, rfl, rfl, rfl⟩, z⟩
 · refine ⟨its.toList, r, ⟨o, n, I.kIn a o hk, hc, hd, by simpa using hs⟩, ?_⟩
   have e := r.length
   simp only [Array.length_toList] at e
   omega
theorem Inv.tuple (I : Inv X pins σ H s) (h : SqT X.K H a xs) : ∃ its : List Value, Vals xs its ∧ IsTup s.heap a its.toArray ∧ xs.length ≤ sizeLine := by
 rcases h with h | ⟨o, its, n, hk, hc, hs, hz, r⟩
 · obtain ⟨z, its, r, p⟩ := h.ok I.hok
   exact ⟨its, r, p, z⟩
 · refine ⟨its.toList, r, ⟨o, I.kIn a o hk, hc, n, by simpa using hs⟩, ?_⟩
   have e := r.length
   simp only [Array.length_toList] at e
   omega
theorem Inv.list_inj (I : Inv X pins σ H s) (h : SqL X.K H a xs) (h' : SqL X.K H a ys) : xs = ys := by
 obtain ⟨its, r, ⟨o, n, e, _, _, d⟩, _⟩ := I.list h
 obtain ⟨its', r', ⟨o', n', e', _, _, d'⟩, _⟩ := I.list h'
 rw [e] at e'; cases e'
 rw [d] at d'
 injection d' with d1 _
 have : its = its' := by simpa using congrArg Array.toList d1
 subst this
 exact r.inj r'
theorem Inv.tuple_inj (I : Inv X pins σ H s) (h : SqT X.K H a xs) (h' : SqT X.K H a ys) : xs = ys := by
 obtain ⟨its, r, ⟨o, e, _, n, d⟩, _⟩ := I.tuple h
 obtain ⟨its', r', ⟨o', e', _, n', d'⟩, _⟩ := I.tuple h'
 rw [e] at e'; cases e'
 rw [d] at d'
 injection d' with d1 _
 have : its = its' := by simpa using congrArg Array.toList d1
 subst this
 exact r.inj r'
end
abbrev Cx.wish (X : Cx) (E : Value → Shared → Prop) : Cx := { X with xe := E }
abbrev Cx.nox (X : Cx) : Cx := X.wish fun _ _ => False
theorem Cx.Ok.wish {X : Cx} (ok : X.Ok) (E : Value → Shared → Prop) : (X.wish E).Ok :=
 ⟨ok.mod, ok.kind, ok.glob, ok.blt, ok.above, ok.inj, ok.has, ok.cab, ok.hd, ok.frames, ok.stk, ok.exf, ok.bs, ok.bsz, ok.noex, ok.exfs, ok.funs, ok.frf⟩
theorem Cx.Ok.unwish {X : Cx} {E : Value → Shared → Prop} (ok : (X.wish E).Ok) : X.Ok :=
 ⟨ok.mod, ok.kind, ok.glob, ok.blt, ok.above, ok.inj, ok.has, ok.cab, ok.hd, ok.frames, ok.stk, ok.exf, ok.bs, ok.bsz, ok.noex, ok.exfs, ok.funs, ok.frf⟩
section
variable {X : Cx} {pins : List (Addr × Obj)} {σ : St} {H : Hp} {s : Shared} {E : Value → Shared → Prop}
theorem Inv.wish (I : Inv X pins σ H s) (E : Value → Shared → Prop) : Inv (X.wish E) pins σ H s := ⟨I.ok.wish E, I.os, I.bare, I.base, I.loc, I.cell, I.free, I.freeC, I.pin, I.hok, I.len⟩
theorem Inv.unwish (I : Inv (X.wish E) pins σ H s) : Inv X pins σ H s := ⟨I.ok.unwish, I.os, I.bare, I.base, I.loc, I.cell, I.free, I.freeC, I.pin, I.hok, I.len⟩
theorem SP.unwish {D : Ends} {f : Flow} {s' : Shared} (h : SP (X.wish E) pins D f s') : SP X pins D f s' := by
 cases f with
 | next => obtain ⟨σ', H', I, q⟩ := h; exact ⟨σ', H', I.unwish, q⟩
 | brk => obtain ⟨σ', H', I, q⟩ := h; exact ⟨σ', H', I.unwish, q⟩
 | cont => obtain ⟨σ', H', I, q⟩ := h; exact ⟨σ', H', I.unwish, q⟩
 | ret u => obtain ⟨v, σ', H', I, r, q⟩ := h; exact ⟨v, σ', H', I.unwish, r, q⟩
theorem PSs.nox {st : List Stmt} {t : TS} (h : PSs X.nox st t) : PSs X st t := fun pins s σ H D I hw =>
 wpAny_mono (h pins s σ H D (I.wish _) hw) (fun _ _ q => q.unwish) fun _ _ z => False.elim z
end
section
variable {X : Cx} {st : Stmt} {rest : List Stmt} {t u : TS} {e : Expr} {te : TE} {pos : Pos}
theorem Inv.quiet {pins : List (Addr × Obj)} {σ : St} {H : Hp} {s : Shared} (I : Inv X pins σ H s) : interactive X.env = false := by simp [interactive, I.ok.kind]
end
abbrev TG := V → St → Hp → (St → Hp → Prop) → Prop
def PG (X : Cx) (target : Expr) (t : TG) : Prop :=
 ∀ (pins : List (Addr × Obj)) (s : Shared) (σ : St) (H : Hp) (v : V) (u : Value) (Q : St → Hp → Prop), Inv X pins σ H s → RelV v u → t v σ H Q →
   wpAny (model X.prog X.w) X.A (assign target X.env u) (fun _ s' => ∃ σ' H', Inv X pins σ' H' s' ∧ Q σ' H') X.xe s
abbrev TSet := V → V → V → Hp → (Hp → Prop) → Prop
def PSet (X : Cx) (t : TSet) : Prop :=
 ∀ (pins : List (Addr × Obj)) (s : Shared) (σ : St) (H : Hp) (o i v : V) (ov iv u : Value) (Q : Hp → Prop), Inv X pins σ H s → RelV o ov → RelV i iv → RelV v u → t o i v H Q →
   wpAny (model X.prog X.w) X.A (setItem ov iv u) (fun _ s' => ∃ H', Inv X pins σ H' s' ∧ Q H') X.xe s
structure It where
 go : Nat → Hp → Prop
 yld : Nat → Hp → V → Hp → Prop
 stop : Nat → Hp → Prop
def FpOk (X : Cx) (pins : List (Addr × Obj)) (H : Hp) (b : Addr) : Prop :=
 H b = none ∧ b ≠ X.env.locals ∧ b ∉ X.fs ∧ (b ∈ X.ex ∨ X.s₀.heap.objs.size ≤ b) ∧ (∀ x c, X.env.cells.lookup x = some c → c ≠ b) ∧ ∀ p ∈ X.pn ++ pins, p.1 ≠ b
theorem Inv.fpOk {X : Cx} {pins : List (Addr × Obj)} {σ : St} {H H' : Hp} {s : Shared} {b : Addr} (I : Inv X pins σ H s) (hb : s.heap.objs.size ≤ b) (hn : H' b = none) : FpOk X pins H' b := by
 refine ⟨hn, Nat.ne_of_gt (Nat.lt_of_lt_of_le I.lt hb), I.nofs hb, .inr (Nat.le_trans I.sz hb), fun x c e z => ?_, fun p hp z => ?_⟩
 · obtain ⟨v, q⟩ := I.cell x c e
   exact absurd (Nat.lt_of_lt_of_le q.lt (by rw [z]; exact hb)) (Nat.lt_irrefl _)
 · exact absurd (Nat.lt_of_lt_of_le (Heap.lt_size (I.pin p hp).1) (by rw [z]; exact hb)) (Nat.lt_irrefl _)
structure Turn (P : Program) (w : World) (K : PySem.W.Frag) (tg : Expr) (J : It) (fp : List Addr) (it : Addr) (tn : Nat → Heap → Prop) : Prop where
 mem : it ∈ fp
 obj : ∀ i h, tn i h → ∀ b ∈ fp, ∃ o, h.get? b = some o ∧ ∀ v, o.data ≠ .cell v
 keep : ∀ i h h', tn i h → (∀ b ∈ fp, ∀ o, h.get? b = some o → h'.get? b = some o) → tn i h'
 item : ∀ (X : Cx), X.prog = P → X.w = w → X.K = K → X.calm = true → ∀ (i : Nat) (pins : List (Addr × Obj)) (s : Shared) (σ : St) (H : Hp) (E : Value → Shared → Prop), Inv X pins σ H s → (∀ b ∈ fp, FpOk X pins H b) → tn i s.heap → J.go i H →
  wpAny (model P w) X.A (pyNext (.ref it)) (fun r s1 => ∃ u, r = some u ∧
   wpAny (model P w) X.A (letOwnedTupleGo tg (.ref it) u) (fun _ s2 => ∃ x H', Inv X pins σ H' s2 ∧ RelV x u ∧ J.yld i H x H' ∧ tn (i + 1) s2.heap ∧ ∀ b ∈ fp, H' b = none) E s1) E s
 done : ∀ (X : Cx), X.prog = P → X.w = w → X.K = K → X.calm = true → ∀ (i : Nat) (pins : List (Addr × Obj)) (s : Shared) (σ : St) (H : Hp) (E : Value → Shared → Prop), Inv X pins σ H s → (∀ b ∈ fp, FpOk X pins H b) → tn i s.heap → J.stop i H →
  wpAny (model P w) X.A (pyNext (.ref it)) (fun r s1 => r = none ∧ Inv X pins σ H s1) E s
 self : ∀ (A : Around) (i : Nat) (s : Shared) (Q : Value → Shared → Prop) (E : Value → Shared → Prop), tn i s.heap → Q (.ref it) s → wpAny (model P w) A (pyIter (.ref it)) Q E s
abbrev TI := St → Hp → (It → Hp → Prop) → Prop
def PIE (X : Cx) (pins : List (Addr × Obj)) (σ : St) (tg : Expr) (R : It → Hp → Prop) (itv : Value) (s2 : Shared) : Prop :=
 ∃ (it : Addr) (fp : List Addr) (tn : Nat → Heap → Prop) (J : It) (H' : Hp), itv = .ref it ∧ Inv X pins σ H' s2 ∧ Turn X.prog X.w X.K tg J fp it tn ∧ tn 0 s2.heap ∧ (∀ b ∈ fp, FpOk X pins H' b) ∧ R J H'
def PI (X : Cx) (tg iter : Expr) (wi : TI) : Prop :=
 ∀ (pins : List (Addr × Obj)) (s : Shared) (σ : St) (H : Hp) (R : It → Hp → Prop), Inv X pins σ H s → wi σ H R →
   wpAny (model X.prog X.w) X.A (eval iter X.env) (fun v s1 => wpAny (model X.prog X.w) X.A (pyIter v) (PIE X pins σ tg R) X.xe s1) X.xe s
theorem go_of {M : Model} {A : Around} {E : Value → Shared → Prop} {s : Shared} {tg : Expr} {it : Addr} {u : Value} {o : Obj} {n : String} {vs : Array Value} {Q : Unit → Shared → Prop} (ho : s.heap.get? it = some o) (hc : o.cls = .type n) (hd : o.data = .fields vs)
 (hn : ["enumerate", "zip", "dict_itemiterator", "dict_reverseitemiterator", "odict_iterator", "itertools.zip_longest", "itertools.pairwise"].contains n = false) (hQ : Q () s) : wpAny M A (letOwnedTupleGo tg (.ref it) u) Q E s := by
 unfold letOwnedTupleGo
 cases tg <;> first
  | exact wpAny_pure hQ
  | (cases u <;> first
   | exact wpAny_pure hQ
   | (refine wpAny_bind (wpAny_load ho ?_)
      rw [hc, hd]
      show wpAny M A (if (["enumerate", "zip", "dict_itemiterator", "dict_reverseitemiterator", "odict_iterator", "itertools.zip_longest", "itertools.pairwise"].contains n && vs[0]? == some (rawInt _)) = true then _ else _) Q E s
      rw [if_neg (by intro h; rw [hn, Bool.false_and] at h; cases h)]
      exact wpAny_pure hQ))
def Itl (K : PySem.W.Frag) (a : Addr) : It :=
 ⟨fun i H => ∃ xs x, SqL K H a xs ∧ xs[i]? = some x, fun i H x H' => H' = H ∧ ∀ xs, SqL K H a xs → xs[i]? = some x, fun i H => ∃ xs, SqL K H a xs ∧ xs.length ≤ i⟩
def Itt (K : PySem.W.Frag) (a : Addr) : It :=
 ⟨fun i H => ∃ xs x, SqT K H a xs ∧ xs[i]? = some x, fun i H x H' => H' = H ∧ ∀ xs, SqT K H a xs → xs[i]? = some x, fun i H => ∃ xs, SqT K H a xs ∧ xs.length ≤ i⟩
def Itr (lo : Int) (n : Nat) : It := ⟨fun i _ => i < n, fun i H x H' => H' = H ∧ x = .int (lo + i), fun i _ => n ≤ i⟩
theorem turn_list {P : Program} {w : World} {K : PySem.W.Frag} {tg : Expr} (a it : Addr) : Turn P w K tg (Itl K a) [it] it (fun i h => h.IsListIter it a i) where
 mem := by simp
 obj := fun i h st b hb => by
  have e : b = it := by simpa using hb
  subst e
  obtain ⟨o, e, c, d⟩ := st
  exact ⟨o, e, fun v z => by rw [d] at z; cases z⟩
 keep := fun i h h' st k => st.at fun o e => k it (by simp) o e
 item := by
  intro X hP hw hK hc i pins s σ H E I hf st hg
  subst hP hw hK
  obtain ⟨xs, x, hq, hx⟩ := hg
  obtain ⟨its, rv, p, hz⟩ := I.list hq
  obtain ⟨u, hu, ru⟩ := rv.get hx
  obtain ⟨f0, f1, f2, f3, f4, f5⟩ := hf it (by simp)
  refine wpAny_pyNext_list_item st p.isList (x := u) (by simpa using hu) fun h' st' sb => ?_
  have I1 : Inv X pins σ H { s with heap := h' } := I.turned (t' := s.toks) (fun b o hb e => (sb.2 b hb).trans e) f0 f1 f3 f4 f5
  obtain ⟨o, e, c, d⟩ := id st'
  exact ⟨u, rfl, go_of (s := { s with heap := h' }) e c d (by decide) ⟨x, H, I1, ru, ⟨rfl, fun ys hy => by rw [I.list_inj hy hq]; exact hx⟩, st', fun b hb => (hf b hb).1⟩⟩
 done := by
  intro X hP hw hK hc i pins s σ H E I hf st hg
  subst hP hw hK
  obtain ⟨xs, hq, hx⟩ := hg
  obtain ⟨its, rv, p, hz⟩ := I.list hq
  obtain ⟨f0, f1, f2, f3, f4, f5⟩ := hf it (by simp)
  have hl := rv.length
  exact wpAny_pyNext_list_end (I.ok.hd hc) st p.isList (by simp; omega) fun h' eb => ⟨rfl, I.turned (t' := s.toks) (fun b o hb e => eb b o hb e) f0 f1 f3 f4 f5⟩
 self := fun _ _ _ _ _ st h => wpAny_pyIter_listiter st h
theorem turn_tuple {P : Program} {w : World} {K : PySem.W.Frag} {tg : Expr} (a it : Addr) : Turn P w K tg (Itt K a) [it] it (fun i h => h.IsTupleIter it a i) where
 mem := by simp
 obj := fun i h st b hb => by
  have e : b = it := by simpa using hb
  subst e
  obtain ⟨o, e, c, d⟩ := st
  exact ⟨o, e, fun v z => by rw [d] at z; cases z⟩
 keep := fun i h h' st k => st.at fun o e => k it (by simp) o e
 item := by
  intro X hP hw hK hc i pins s σ H E I hf st hg
  subst hP hw hK
  obtain ⟨xs, x, hq, hx⟩ := hg
  obtain ⟨its, rv, p, hz⟩ := I.tuple hq
  obtain ⟨u, hu, ru⟩ := rv.get hx
  obtain ⟨f0, f1, f2, f3, f4, f5⟩ := hf it (by simp)
  refine wpAny_pyNext_tuple_item st (show s.heap.IsTuple a its.toArray from p) (x := u) (by simpa using hu) fun h' st' sb => ?_
  have I1 : Inv X pins σ H { s with heap := h' } := I.turned (t' := s.toks) (fun b o hb e => (sb.2 b hb).trans e) f0 f1 f3 f4 f5
  obtain ⟨o, e, c, d⟩ := id st'
  exact ⟨u, rfl, go_of (s := { s with heap := h' }) e c d (by decide) ⟨x, H, I1, ru, ⟨rfl, fun ys hy => by rw [I.tuple_inj hy hq]; exact hx⟩, st', fun b hb => (hf b hb).1⟩⟩
 done := by
  intro X hP hw hK hc i pins s σ H E I hf st hg
  subst hP hw hK
  obtain ⟨xs, hq, hx⟩ := hg
  obtain ⟨its, rv, p, hz⟩ := I.tuple hq
  obtain ⟨f0, f1, f2, f3, f4, f5⟩ := hf it (by simp)
  have hl := rv.length
  exact wpAny_pyNext_tuple_end (I.ok.hd hc) st (show s.heap.IsTuple a its.toArray from p) (by simp; omega) fun h' eb => ⟨rfl, I.turned (t' := s.toks) (fun b o hb e => eb b o hb e) f0 f1 f3 f4 f5⟩
 self := fun _ _ _ _ _ st h => wpAny_pyIter_tupleiter st h
theorem turn_range {P : Program} {w : World} {K : PySem.W.Frag} {tg : Expr} (it : Addr) (lo : Int) (n : Nat) : Turn P w K tg (Itr lo n) [it] it (fun i h => IsRangeIter h it (lo + (i : Nat) * 1) ((n : Int) - (i : Nat)) 1) where
 mem := by simp
 obj := fun i h st b hb => by
  have e : b = it := by simpa using hb
  subst e
  exact ⟨_, st, fun v z => by
   have z' : Data.fields _ = Data.cell v := z
   cases z'⟩
 keep := fun i h h' st k => k it (by simp) _ st
 item := by
  intro X hP hw hK hc i pins s σ H E I hf st hg
  subst hP hw hK
  obtain ⟨f0, f1, f2, f3, f4, f5⟩ := hf it (by simp)
  have W := Walks.range (prog := X.prog) (w := X.w) (I.ok.hd hc) it lo 1 n
  refine W.item i s _ _ hg st fun v h' tk hv st' kk => ?_
  obtain ⟨t, rfl⟩ := hv
  have I1 : Inv X pins σ H { s with heap := h', toks := tk } := I.turned (fun b o hb e => kk b o (by simpa using hb) e) f0 f1 f3 f4 f5
  refine ⟨_, rfl, go_of (s := { s with heap := h', toks := tk }) (n := "range_iterator") st' rfl rfl (by decide) ⟨.int (lo + i), H, I1, ⟨t, ?_⟩, ⟨rfl, rfl⟩, st', fun b hb => (hf b hb).1⟩⟩
  rw [Int.mul_one]
 done := by
  intro X hP hw hK hc i pins s σ H E I hf st hg
  subst hP hw hK
  obtain ⟨f0, f1, f2, f3, f4, f5⟩ := hf it (by simp)
  exact wpAny_pyNext_range_end (I.ok.hd hc) st (by have : n ≤ i := hg; omega) fun h' eb => ⟨rfl, I.turned (t' := s.toks) (fun b o hb e => eb b o hb e) f0 f1 f3 f4 f5⟩
 self := fun _ _ _ _ _ st h => wpAny_pyIter_rangeiter st h
end L2
namespace L2
open PySem PySem.Spec PyProof.Rows
section
variable {X : Cx} {tg : Expr}
theorem range_it {pins : List (Addr × Obj)} {σ : St} {H : Hp} {s : Shared} {R : It → Hp → Prop} {E : Value → Shared → Prop} {lo hi : Int} {t u v : Tok} {tk : Nat} (I : Inv X pins σ H s) (h1 : -(2 ^ 62) ≤ lo) (h2 : lo < 2 ^ 62) (h3 : -(2 ^ 62) ≤ hi) (h4 : hi < 2 ^ 62)
 (q : R (Itr lo (hi - lo).toNat) H) : wpAny (model X.prog X.w) X.A (pyIter (.ref s.heap.objs.size)) (PIE X pins σ tg R) E { s with heap := s.heap.push { cls := .type "range", data := .fields #[.int lo t, .int hi u, .int 1 v] }, toks := tk } := by
 refine wpAny_pyIter_range (IsRange.new ..) (small_one h1 h2 h3 h4) ?_
 have I1 : Inv X pins σ H { s with heap := s.heap.push { cls := .type "range", data := .fields #[.int lo t, .int hi u, .int 1 v] }, toks := tk } := I.kept fun b o e => Heap.get?_push_of_some _ e
 refine ⟨(s.heap.push { cls := .type "range", data := .fields #[.int lo t, .int hi u, .int 1 v] }).objs.size, [(s.heap.push { cls := .type "range", data := .fields #[.int lo t, .int hi u, .int 1 v] }).objs.size], _, _, H, rfl,
  I1.kept (t' := tk) fun b o e => Heap.get?_push_of_some _ e, turn_range _ lo (hi - lo).toNat, ?_, fun b hb => ?_, q⟩
 · have e1 : lo + ((0 : Nat) : Int) * 1 = lo := by simp
   have e2 : (((hi - lo).toNat : Nat) : Int) - ((0 : Nat) : Int) = Builtin.Range.rangeSize lo hi 1 := by rw [rangeSize_one]; split <;> omega
   show IsRangeIter _ _ (lo + ((0 : Nat) : Int) * 1) ((((hi - lo).toNat : Nat) : Int) - ((0 : Nat) : Int)) 1
   rw [e1, e2]
   exact Heap.get?_push_size _ rfl
 · have e : b = (s.heap.push { cls := .type "range", data := .fields #[.int lo t, .int hi u, .int 1 v] }).objs.size := by simpa using hb
   subst e
   exact I1.fpOk (Nat.le_refl _) (I1.hok.fresh (Nat.le_refl _))
def iRng1 (ta : TA) : TI := fun σ H R => ta σ H fun vs H1 => ∃ j : Int, vs = [.int j] ∧ -(2 ^ 62) ≤ j ∧ j < 2 ^ 62 ∧ R (Itr 0 j.toNat) H1
theorem pi_range1 {a : Expr} {ta : TA} {p pos : Pos} (hg : Gl X "range") (hm : X.mg "range" = none) (ha : PA X [a] ta) (hs : starEach [a] X.env = [(false, eval a X.env)] := by rfl) : PI X tg (.Call (.Name "range" p) [a] [] pos) (iRng1 ta) := by
 intro pins s σ H R I h
 refine Call_ (ld_blt I hg hm boot_range (PyProof.Rows.callWith_type1 (thn (ha pos pins s σ H _ I h) fun us s1 ⟨vs, H1, I1, r1, q1⟩ => ?_) hs rfl))
 obtain ⟨j, e, q1, q2, q⟩ := q1
 subst e
 cases r1 with
 | cons r rr =>
   cases rr
   obtain ⟨t, rfl⟩ := r
   exact call_range_1 (range_it I1 (by omega) (by omega) q1 q2 (by simpa using q))
def tFor (wi : TI) (g : TG) (tb : TS) : TS := fun D σ H => wi σ H fun J H1 => ∃ W : Nat → Nat → St → Hp → Prop, (∃ m, W 0 m σ H1) ∧ ∀ i m σ H, W i m σ H →
 (J.stop i H ∧ D.nx σ H) ∨ (J.go i H ∧ ∃ N : St → Hp → Prop, (∀ σ' H', N σ' H' → ∃ m', m' < m ∧ W (i + 1) m' σ' H') ∧ ∀ x H', J.yld i H x H' → g x σ H' fun σ2 H2 => tb { D with nx := N, ct := N, bk := D.nx } σ2 H2)
def pinsAt (fp : List Addr) (h : Heap) : List (Addr × Obj) := fp.filterMap fun b => (h.get? b).map fun o => (b, o)
theorem mem_pinsAt {fp : List Addr} {h : Heap} {b : Addr} {o : Obj} (hb : b ∈ fp) (e : h.get? b = some o) : (b, o) ∈ pinsAt fp h := List.mem_filterMap.mpr ⟨b, hb, by rw [e]; rfl⟩
theorem of_pinsAt {fp : List Addr} {h : Heap} {p : Addr × Obj} (hp : p ∈ pinsAt fp h) : p.1 ∈ fp ∧ h.get? p.1 = some p.2 := by
 obtain ⟨b, hb, e⟩ := List.mem_filterMap.mp hp
 cases q : h.get? b with
 | none => rw [q] at e; cases e
 | some o =>
   rw [q] at e
   have e' : (b, o) = p := Option.some.inj e
   subst e'
   exact ⟨hb, q⟩
theorem Inv.pinned {pins : List (Addr × Obj)} {σ : St} {H : Hp} {s : Shared} {fp : List Addr} (I : Inv X pins σ H s) (hf : ∀ b ∈ fp, FpOk X pins H b) (ho : ∀ b ∈ fp, ∃ o, s.heap.get? b = some o ∧ ∀ v, o.data ≠ .cell v) : Inv X (pins ++ pinsAt fp s.heap) σ H s :=
 I.pins_of fun p hp => (List.mem_append.mp hp).elim (fun z => I.pin p (List.mem_append_right _ z)) fun z => by
  obtain ⟨hb, e⟩ := of_pinsAt z
  obtain ⟨f0, f1, f2, _⟩ := hf p.1 hb
  obtain ⟨o, e', d⟩ := ho p.1 hb
  rw [e] at e'; cases e'
  exact ⟨e, f0, f1, f2, d⟩
theorem Inv.unpinned {pins pl : List (Addr × Obj)} {σ : St} {H : Hp} {s : Shared} (I : Inv X (pins ++ pl) σ H s) : Inv X pins σ H s := I.pins_of fun p hp => I.pin p (List.mem_append_right _ (List.mem_append_left _ hp))
theorem ps_for {iter : Expr} {body : List Stmt} {wi : TI} {g : TG} {tb : TS} {pos : Pos} (hp : PassesOwn (model X.prog X.w) X.A X.env X.xe) (hc : X.calm = true) (hi : PI X tg iter wi) (hg : PG X tg g) (hb : PSs X body tb)
 (hs : ∀ x, foldedSetIterable iter X.env x = pure x := by intro _; rfl) : PS X (.For tg iter body [] pos) (tFor wi g tb) := by
 intro pins s σ H D I h
 refine wpAny_For (thn (hi pins s σ H _ I h) fun v s1 h1 => thn h1 fun itv s2 h2 => ?_) hs
 obtain ⟨it, fp, tn, J, H2, e, I2, T, st2, f2, W, ⟨m0, w0⟩, turn⟩ := h2
 subst e
 have stat : ∀ {H' : Hp}, (∀ b ∈ fp, H' b = none) → ∀ b ∈ fp, FpOk X pins H' b := fun hn b hb => ⟨hn b hb, (f2 b hb).2⟩
 refine codeAny_forLoop_any (fun n s' => ∃ i σ' H', Inv X pins σ' H' s' ∧ tn i s'.heap ∧ (∀ b ∈ fp, H' b = none) ∧ W i n σ' H') ?_ m0 ⟨0, σ, H2, I2, st2, fun b hb => (f2 b hb).1, w0⟩
 rintro n s3 ⟨i, σ3, H3, I3, st3, fr3, w3⟩
 rcases turn i n σ3 H3 w3 with ⟨stop, qn⟩ | ⟨go, N, hN, step⟩
 · refine wpAny_passesOwn hp (thn (T.done X rfl rfl rfl hc i pins s3 σ3 H3 X.xe I3 (stat fr3) st3 stop) fun r s4 ⟨hr, I4⟩ => ?_)
   subst hr
   exact wpAny_execs_nil ⟨σ3, H3, I4, qn⟩
 · refine wpAny_passesOwn hp (thn (T.item X rfl rfl rfl hc i pins s3 σ3 H3 X.xe I3 (stat fr3) st3 go) fun r s4 ⟨u, hr, h4⟩ => ?_)
   subst hr
   refine wpAny_passesOwn hp (thn h4 fun _ s5 ⟨x, H5, I5, r5, y5, st5, fr5⟩ => ?_)
   have I5' := I5.pinned (stat fr5) (T.obj _ _ st5)
   refine wpAny_passesOwn hp (thn (hg _ s5 σ3 H5 x u _ I5' r5 (step x H5 y5)) fun _ s6 ⟨σ6, H6, I6, q6⟩ => ?_)
   refine wpAny_passesOwn hp (thn (hb _ s6 σ6 H6 _ I6 q6) fun f s7 q7 => ?_)
   have again : ∀ {σ7 : St} {H7 : Hp}, Inv X (pins ++ pinsAt fp s5.heap) σ7 H7 s7 → N σ7 H7 → ∃ m, m < n ∧ ∃ i σ' H', Inv X pins σ' H' s7 ∧ tn i s7.heap ∧ (∀ b ∈ fp, H' b = none) ∧ W i m σ' H' := fun {σ7 H7} I7 n7 => by
    obtain ⟨m', hm, w7⟩ := hN σ7 H7 n7
    refine ⟨m', hm, i + 1, σ7, H7, I7.unpinned, T.keep _ _ _ st5 fun b hb o e => (I7.pin (b, o) (List.mem_append_right _ (List.mem_append_right _ (mem_pinsAt hb e)))).1, fun b hb => ?_, w7⟩
    obtain ⟨o, e, d⟩ := T.obj _ _ st5 b hb
    exact (I7.pin (b, o) (List.mem_append_right _ (List.mem_append_right _ (mem_pinsAt hb e)))).2.1
   cases f with
   | next => obtain ⟨σ7, H7, I7, n7⟩ := q7; exact again I7 n7
   | cont => obtain ⟨σ7, H7, I7, n7⟩ := q7; exact again I7 n7
   | brk => obtain ⟨σ7, H7, I7, q7⟩ := q7; exact ⟨σ7, H7, I7.unpinned, q7⟩
   | ret v => obtain ⟨x7, σ7, H7, I7, r7, q7⟩ := q7; exact ⟨x7, σ7, H7, I7.unpinned, r7, q7⟩
end
end L2
namespace L2
open PySem PySem.Spec PyProof.Rows
abbrev R2 := V → V → Hp → VK → Prop
def OpR (X : Cx) (f : Value → Value → Sem Value) (r : R2) : Prop :=
 ∀ (pins : List (Addr × Obj)) (s : Shared) (σ : St) (H : Hp) (x y : V) (v u : Value) (Q : VK), Inv X pins σ H s → RelV x v → RelV y u → r x y H Q →
   wpAny (model X.prog X.w) X.A (f v u) (EP X pins σ Q) X.xe s
def UnR (X : Cx) (f : Value → Sem Value) (r : V → Hp → VK → Prop) : Prop :=
 ∀ (pins : List (Addr × Obj)) (s : Shared) (σ : St) (H : Hp) (x : V) (v : Value) (Q : VK), Inv X pins σ H s → RelV x v → r x H Q →
   wpAny (model X.prog X.w) X.A (f v) (EP X pins σ Q) X.xe s
def CallR (X : Cx) (f : Value) (r : List V → Hp → VK → Prop) : Prop :=
 ∀ (pins : List (Addr × Obj)) (s : Shared) (σ : St) (H : Hp) (xs : List V) (us : List Value) (Q : VK), Inv X pins σ H s → Vals xs us → r xs H Q →
   wpAny (model X.prog X.w) X.A (call f us) (EP X pins σ Q) X.xe s
def tOp (r : R2) (ta tb : TE) : TE := fun σ H Q => ta σ H fun x H1 => tb σ H1 fun y H2 => r x y H2 Q
def rI (C : Int → Int → Prop) (g : Int → Int → V) : R2 := fun x y H Q => ∃ i j, x = .int i ∧ y = .int j ∧ C i j ∧ Q (g i j) H
def rI0 (g : Int → Int → V) : R2 := fun x y H Q => ∃ i j, x = .int i ∧ y = .int j ∧ Q (g i j) H
def rU (g : Int → V) : V → Hp → VK → Prop := fun x H Q => ∃ i, x = .int i ∧ Q (g i) H
section
variable {X : Cx} {a b c : Expr} {ta tb tc : TE} {pos : Pos}
theorem binT (ha : PE X a ta) (hb : PE X b tb) {pins : List (Addr × Obj)} {s : Shared} {σ : St} {H : Hp} {R : V → V → Hp → Prop} (I : Inv X pins σ H s)
 (h : ta σ H fun x H1 => tb σ H1 fun y H2 => R x y H2) {Q : Value → Shared → Prop} {f : Value → Value → Sem Value}
 (hf : ∀ v u s2 x y H2, Inv X pins σ H2 s2 → RelV x v → RelV y u → R x y H2 → wpAny (model X.prog X.w) X.A (f v u) Q X.xe s2) :
 wpAny (model X.prog X.w) X.A (eval a X.env) (fun v s₁ => wpAny (model X.prog X.w) X.A (eval b X.env) (fun u s₂ => wpAny (model X.prog X.w) X.A (f v u) Q X.xe s₂) X.xe s₁) X.xe s := by
 refine thn (ha pins s σ H _ I h) fun v s1 ⟨x, H1, I1, r1, q1⟩ => ?_
 refine thn (hb pins s1 σ H1 _ I1 q1) fun u s2 ⟨y, H2, I2, r2, q2⟩ => ?_
 exact hf v u s2 x y H2 I2 r1 r2 q2
theorem opI {f : Value → Value → Sem Value} {C : Int → Int → Prop} {g : Int → Int → Int}
 (rule : ∀ (i j : Int) (t u : Tok) (s : Shared) (Q : Value → Shared → Prop) (E : Value → Shared → Prop), C i j → Q (.int (g i j) s.toks) { s with toks := s.toks + 1 } → wpAny (model X.prog X.w) X.A (f (.int i t) (.int j u)) Q E s) :
 OpR X f (rI C fun i j => .int (g i j)) := by
 intro pins s σ H x y v u Q I rx ry h
 obtain ⟨i, j, rfl, rfl, hc, q⟩ := h
 obtain ⟨t, rfl⟩ := rx
 obtain ⟨t', rfl⟩ := ry
 exact rule i j t t' s _ _ hc ⟨.int (g i j), H, I.tok _, ⟨_, rfl⟩, q⟩
theorem opI0 {f : Value → Value → Sem Value} {g : Int → Int → Int}
 (rule : ∀ (i j : Int) (t u : Tok) (s : Shared) (Q : Value → Shared → Prop) (E : Value → Shared → Prop), Q (.int (g i j) s.toks) { s with toks := s.toks + 1 } → wpAny (model X.prog X.w) X.A (f (.int i t) (.int j u)) Q E s) :
 OpR X f (rI0 fun i j => .int (g i j)) := by
 intro pins s σ H x y v u Q I rx ry h
 obtain ⟨i, j, rfl, rfl, q⟩ := h
 obtain ⟨t, rfl⟩ := rx
 obtain ⟨t', rfl⟩ := ry
 exact rule i j t t' s _ _ ⟨.int (g i j), H, I.tok _, ⟨_, rfl⟩, q⟩
theorem opB0 {f : Value → Value → Sem Value} {g : Int → Int → Bool}
 (rule : ∀ (i j : Int) (t u : Tok) (s : Shared) (Q : Value → Shared → Prop) (E : Value → Shared → Prop), Q (.bool (g i j)) s → wpAny (model X.prog X.w) X.A (f (.int i t) (.int j u)) Q E s) :
 OpR X f (rI0 fun i j => .bl (g i j)) := by
 intro pins s σ H x y v u Q I rx ry h
 obtain ⟨i, j, rfl, rfl, q⟩ := h
 obtain ⟨t, rfl⟩ := rx
 obtain ⟨t', rfl⟩ := ry
 exact rule i j t t' s _ _ ⟨.bl (g i j), H, I, rfl, q⟩
def CDiv (i j : Int) : Prop := 0 < j ∧ j < 1073741824
def CPow (i j : Int) : Prop := 0 ≤ j ∧ j ≤ 1000000 ∧ i.natAbs < 2 ^ 64
def CMul (i j : Int) : Prop := (-(2 ^ 64) < i ∧ i < 2 ^ 64) ∨ (-(2 ^ 64) < j ∧ j < 2 ^ 64)
theorem CMul.ok {i j : Int} (h : CMul i j) : IntMulOk i j := by
 rcases h with ⟨h1, h2⟩ | ⟨h1, h2⟩
 · exact .of_left (intBits_le_64 h1 h2)
 · exact .of_right (intBits_le_64 h1 h2)
theorem op_add : OpR X (binaryOp .Add) (rI0 fun i j => .int (i + j)) := opI0 fun _ _ _ _ _ _ _ q => add_int q
theorem op_sub : OpR X (binaryOp .Sub) (rI0 fun i j => .int (i - j)) := opI0 fun _ _ _ _ _ _ _ q => sub_int q
theorem op_mul : OpR X (binaryOp .Mult) (rI CMul fun i j => .int (i * j)) := opI fun _ _ _ _ _ _ _ hc q => mul_int q hc.ok
theorem op_fdiv : OpR X (binaryOp .FloorDiv) (rI CDiv fun i j => .int (i / j)) := opI fun i j _ _ _ _ _ hc q => by
 have h1 : (0 : Int) < j := hc.1
 have h2 : j < 1073741824 := hc.2
 exact floordiv_int (by omega) (by rw [Int.fdiv_eq_ediv_of_nonneg i (by omega)]; exact q) (.inl (PyProof.noPylong_small (by omega)))
theorem op_mod : OpR X (binaryOp .Mod) (rI (fun _ j => 0 < j) fun i j => .int (i % j)) := opI fun i j _ _ _ _ _ hc q => by
 have h1 : (0 : Int) < j := hc
 exact mod_int' (by omega) (by rw [Int.fmod_eq_emod_of_nonneg i (by omega)]; exact q)
theorem op_pow : OpR X (binaryOp .Pow) (rI CPow fun i j => .int (i ^ j.toNat)) := opI fun _ _ _ _ _ _ _ hc q => pow_int_small hc.1 hc.2.1 hc.2.2 q
theorem unI {f : Value → Sem Value} {g : Int → Int}
 (rule : ∀ (i : Int) (t : Tok) (s : Shared) (Q : Value → Shared → Prop) (E : Value → Shared → Prop), Q (.int (g i) s.toks) { s with toks := s.toks + 1 } → wpAny (model X.prog X.w) X.A (f (.int i t)) Q E s) :
 UnR X f (rU fun i => .int (g i)) := by
 intro pins s σ H x v Q I rx h
 obtain ⟨i, rfl, q⟩ := h
 obtain ⟨t, rfl⟩ := rx
 exact rule i t s _ _ ⟨.int (g i), H, I.tok _, ⟨_, rfl⟩, q⟩
theorem un_neg : UnR X (unaryOp .USub) (rU fun i => .int (-i)) := unI fun _ _ _ _ _ q => neg_int q
end
def scal : V → V → Bool
 | .non, .non => true | .non, .int _ => true | .int _, .non => true | .non, .bl _ => true | .bl _, .non => true | .non, .str _ => true | .str _, .non => true
 | .int _, .int _ => true | .bl _, .bl _ => true | .str _, .str _ => true | .byt _, .byt _ => true
 | .int _, .str _ => true | .str _, .int _ => true | .bl _, .str _ => true | .str _, .bl _ => true
 | _, _ => false
def rEq : R2 := fun x y H Q => scal x y = true ∧ Q (.bl (decide (x = y))) H
def rNe : R2 := fun x y H Q => scal x y = true ∧ Q (.bl (!decide (x = y))) H
theorem dec_int {i j : Int} : decide (V.int i = V.int j) = (i == j) := by
 rw [Bool.eq_iff_iff]
 simp
theorem dec_bl {i j : Bool} : decide (V.bl i = V.bl j) = (i == j) := by
 rw [Bool.eq_iff_iff]
 simp
theorem dec_str {i j : Str} : decide (V.str i = V.str j) = (i == j) := by
 rw [Bool.eq_iff_iff]
 simp
theorem dec_byt {i j : Array UInt8} : decide (V.byt i = V.byt j) = (i.toList == j.toList) := by
 rw [Bool.eq_iff_iff]
 cases i
 cases j
 simp
section
variable {X : Cx} {a b c : Expr} {ta tb tc : TE} {pos : Pos}
theorem fin_bl {pins : List (Addr × Obj)} {σ : St} {H : Hp} {s : Shared} {Q : VK} {k k' : Bool} (I : Inv X pins σ H s) (q : Q (.bl k) H) (e : k = k') : EP X pins σ Q (.bool k') s := by
 subst e
 exact ⟨.bl k, H, I, rfl, q⟩
theorem op_eq : OpR X (compareOp .Eq) rEq := by
 intro pins s σ H x y v u Q I rx ry h
 obtain ⟨hs, q⟩ := h
 cases x with
 | non =>
   cases rx
   cases y with
   | non => cases ry; exact PySem.EqNone.eq_none_none (fin_bl I q (by simp))
   | bl j => cases ry; exact PySem.EqNone.eq_none_bool (fin_bl I q (by simp))
   | int j => obtain ⟨t', rfl⟩ := ry; exact PySem.EqNone.eq_none_int (fin_bl I q (by simp))
   | str j => obtain ⟨t', rfl⟩ := ry; exact PySem.EqNone.eq_none_str (fin_bl I q (by simp))
   | _ => exact absurd (show false = true from hs) Bool.false_ne_true
 | bl i =>
   cases rx
   cases y with
   | non => cases ry; exact PySem.EqNone.eq_bool_none (fin_bl I q (by simp))
   | bl j => cases ry; exact eq_bool (fin_bl I q dec_bl)
   | str j => obtain ⟨t', rfl⟩ := ry; exact PySem.EqMixed.eq_bool_str (fin_bl I q (by simp))
   | _ => exact absurd (show false = true from hs) Bool.false_ne_true
 | int i =>
   obtain ⟨t, rfl⟩ := rx
   cases y with
   | non => cases ry; exact PySem.EqNone.eq_int_none (fin_bl I q (by simp))
   | int j => obtain ⟨t', rfl⟩ := ry; exact eq_int (fin_bl I q dec_int)
   | str j => obtain ⟨t', rfl⟩ := ry; exact PySem.EqMixed.eq_int_str (fin_bl I q (by simp))
   | _ => exact absurd (show false = true from hs) Bool.false_ne_true
 | str i =>
   obtain ⟨t, rfl⟩ := rx
   cases y with
   | non => cases ry; exact PySem.EqNone.eq_str_none (fin_bl I q (by simp))
   | bl j => cases ry; exact PySem.EqMixed.eq_str_bool (fin_bl I q (by simp))
   | int j => obtain ⟨t', rfl⟩ := ry; exact PySem.EqMixed.eq_str_int (fin_bl I q (by simp))
   | str j => obtain ⟨t', rfl⟩ := ry; exact eq_str (fin_bl I q dec_str)
   | _ => exact absurd (show false = true from hs) Bool.false_ne_true
 | byt i =>
   obtain ⟨t, rfl⟩ := rx
   cases y with
   | byt j => obtain ⟨t', rfl⟩ := ry; exact PySem.W.eq_bytes (fin_bl I q dec_byt)
   | _ => exact absurd (show false = true from hs) Bool.false_ne_true
 | _ => cases y <;> exact absurd (show false = true from hs) Bool.false_ne_true
theorem op_ne : OpR X (compareOp .NotEq) rNe := by
 intro pins s σ H x y v u Q I rx ry h
 obtain ⟨hs, q⟩ := h
 cases x with
 | non =>
   cases rx
   cases y with
   | non => cases ry; exact PySem.EqNone.ne_none_none (fin_bl I q (by simp))
   | bl j => cases ry; exact PySem.EqNone.ne_none_bool (fin_bl I q (by simp))
   | int j => obtain ⟨t', rfl⟩ := ry; exact PySem.EqNone.ne_none_int (fin_bl I q (by simp))
   | str j => obtain ⟨t', rfl⟩ := ry; exact PySem.EqNone.ne_none_str (fin_bl I q (by simp))
   | _ => exact absurd (show false = true from hs) Bool.false_ne_true
 | bl i =>
   cases rx
   cases y with
   | non => cases ry; exact PySem.EqNone.ne_bool_none (fin_bl I q (by simp))
   | bl j => cases ry; exact ne_bool (fin_bl I q (congrArg not dec_bl))
   | str j => obtain ⟨t', rfl⟩ := ry; exact PySem.EqMixed.ne_bool_str (fin_bl I q (by simp))
   | _ => exact absurd (show false = true from hs) Bool.false_ne_true
 | int i =>
   obtain ⟨t, rfl⟩ := rx
   cases y with
   | non => cases ry; exact PySem.EqNone.ne_int_none (fin_bl I q (by simp))
   | int j => obtain ⟨t', rfl⟩ := ry; exact ne_int (fin_bl I q (congrArg not dec_int))
   | str j => obtain ⟨t', rfl⟩ := ry; exact PySem.EqMixed.ne_int_str (fin_bl I q (by simp))
   | _ => exact absurd (show false = true from hs) Bool.false_ne_true
 | str i =>
   obtain ⟨t, rfl⟩ := rx
   cases y with
   | non => cases ry; exact PySem.EqNone.ne_str_none (fin_bl I q (by simp))
   | bl j => cases ry; exact PySem.EqMixed.ne_str_bool (fin_bl I q (by simp))
   | int j => obtain ⟨t', rfl⟩ := ry; exact PySem.EqMixed.ne_str_int (fin_bl I q (by simp))
   | str j => obtain ⟨t', rfl⟩ := ry; exact ne_str (fin_bl I q (congrArg not dec_str))
   | _ => exact absurd (show false = true from hs) Bool.false_ne_true
 | byt i =>
   obtain ⟨t, rfl⟩ := rx
   cases y with
   | byt j => obtain ⟨t', rfl⟩ := ry; exact PySem.W.ne_bytes (fin_bl I q (congrArg not dec_byt))
   | _ => exact absurd (show false = true from hs) Bool.false_ne_true
 | _ => cases y <;> exact absurd (show false = true from hs) Bool.false_ne_true
theorem op_lt : OpR X (compareOp .Lt) (rI0 fun i j => .bl (decide (i < j))) := opB0 fun _ _ _ _ _ _ _ q => lt_int q
theorem op_le : OpR X (compareOp .LtE) (rI0 fun i j => .bl (decide (i ≤ j))) := opB0 fun _ _ _ _ _ _ _ q => le_int q
theorem op_gt : OpR X (compareOp .Gt) (rI0 fun i j => .bl (decide (j < i))) := opB0 fun _ _ _ _ _ _ _ q => gt_int q
theorem op_ge : OpR X (compareOp .GtE) (rI0 fun i j => .bl (decide (j ≤ i))) := opB0 fun _ _ _ _ _ _ _ q => ge_int q
theorem op_isN : OpR X (compareOp .Is) (fun x y H Q => y = .non ∧ Q (.bl (decide (x = .non))) H) := by
 intro pins s σ H x y v u Q I rx ry h
 obtain ⟨rfl, q⟩ := h
 cases ry
 refine is_none_gen (fin_bl I q ?_)
 cases x <;> first
  | (cases rx; rfl)
  | (obtain ⟨t, rfl⟩ := rx; rfl)
theorem op_notN : OpR X (compareOp .IsNot) (fun x y H Q => y = .non ∧ Q (.bl (!decide (x = .non))) H) := by
 intro pins s σ H x y v u Q I rx ry h
 obtain ⟨rfl, q⟩ := h
 cases ry
 refine isnot_none_gen (fin_bl I q ?_)
 cases x <;> first
  | (cases rx; rfl)
  | (obtain ⟨t, rfl⟩ := rx; rfl)
theorem line63 : (sizeLine : Nat) < 2 ^ 63 := by rw [sizeLine_eq]; decide
theorem vals1 {x : V} {us : List Value} (r : Vals [x] us) : ∃ u, us = [u] ∧ RelV x u := by
 cases r with
 | cons r1 r2 => cases r2; exact ⟨_, rfl, r1⟩
theorem vals2 {x y : V} {us : List Value} (r : Vals [x, y] us) : ∃ u w', us = [u, w'] ∧ RelV x u ∧ RelV y w' := by
 cases r with
 | cons r1 r2 =>
   cases r2 with
   | cons r3 r4 => cases r4; exact ⟨_, _, rfl, r1, r3⟩
theorem call_int1 : CallR X (.type "int") (fun xs H Q => (∃ i, xs = [.int i] ∧ Q (.int i) H) ∨ ∃ k, xs = [.bl k] ∧ Q (.int (if k then 1 else 0)) H) := by
 intro pins s σ H xs us Q I r h
 rcases h with ⟨i, rfl, q⟩ | ⟨k, rfl, q⟩
 · obtain ⟨u, rfl, t, rfl⟩ := vals1 r
   exact call_int_int ⟨.int i, H, I, ⟨_, rfl⟩, q⟩
 · obtain ⟨u, rfl, r1⟩ := vals1 r
   cases r1
   exact call_int_bool ⟨.int (if k then 1 else 0), H, I.tok _, ⟨_, rfl⟩, q⟩
end
end L2
namespace L2
open PySem PySem.Spec PyProof.Rows
end L2
namespace L2
open PySem PySem.Spec PyProof.Rows
structure Room (k : Nat) (A : Around) : Prop where
 hd : A.handled = none
 dp : A.depth + 3 * k + 5 < recursionLimit
 un : A.units + 16 * k + 200 < cLine
theorem Room.mono {j k : Nat} {A : Around} (r : Room k A) (h : j ≤ k) : Room j A := ⟨r.hd, by have := r.dp; omega, by have := r.un; omega⟩
theorem Room.deeper {k : Nat} {A : Around} (r : Room (k + 1) A) (env : Env) : Room k (A.deeper env) :=
 ⟨r.hd, by have := r.dp; show A.depth + 1 + 3 * k + 5 < _; omega, by have := r.un; show A.units + 3 + 16 * k + 200 < _; omega⟩
theorem Room.depth {k : Nat} {A : Around} (r : Room k A) : A.depth < recursionLimit := by have := r.dp; omega
def tNil : TA := fun _ H Q => Q [] H
def tCons (ta : TE) (tr : TA) : TA := fun σ H Q => ta σ H fun x H1 => tr σ H1 fun xs H2 => Q (x :: xs) H2
section
variable {X : Cx} {e : Expr} {es : List Expr} {te : TE} {t : TA} {pos : Pos}
theorem pa_nil : PA X [] tNil := fun _ _ _ _ H Q I h => Calls.spliced_nil ⟨[], H, I, .nil, h⟩
theorem pa_cons (ha : PE X e te) (hr : PA X es t) (hs : starEach (e :: es) X.env = (false, eval e X.env) :: starEach es X.env := by rfl) : PA X (e :: es) (tCons te t) := by
 intro pos pins s σ H Q I h
 rw [hs]
 show wpAny _ _ (spliced ((false, eval e X.env) :: backTo pos (starEach es X.env))) _ _ s
 refine Calls.spliced_cons (thn (ha pins s σ H _ I h) fun u s1 ⟨x, H1, I1, r1, q1⟩ => ?_)
 exact thn (hr pos pins s1 σ H1 _ I1 q1) fun us s2 ⟨xs, H2, I2, r2, q2⟩ => ⟨x :: xs, H2, I2, .cons r1 r2, q2⟩
def tTup (t : TA) : TE := fun σ H Q => t σ H fun xs H1 => xs.length ≤ sizeLine ∧ ∀ p, H1 p = none → Q (.ref p) (upd H1 p (.tup xs))
def tLst (t : TA) : TE := fun σ H Q => t σ H fun xs H1 => xs.length ≤ sizeLine ∧ ∀ p, H1 p = none → Q (.ref p) (upd H1 p (.lst xs))
theorem pe_tup {x1} (h : PA X es t) : PE X (.Tuple es x1 pos) (tTup t) := by
 intro pins s σ H Q I hq
 refine wpAny_Tuple_spliced (thn (h pos pins s σ H _ I hq) fun us s1 ⟨xs, H1, I1, r, z, q⟩ => ⟨by rw [← r.length]; exact z, ?_⟩)
 have hf : H1 s1.heap.objs.size = none := I1.hok.fresh (Nat.le_refl _)
 refine ⟨.ref s1.heap.objs.size, upd H1 s1.heap.objs.size (.tup xs), I1.laid (t' := s1.toks) (fun b u e => Heap.get?_push_of_some _ e) (Nat.le_refl _) ?_, rfl, q _ hf⟩
 exact ⟨z, us, r, ⟨_, Heap.get?_push_size _ rfl, rfl, _, rfl⟩⟩
theorem pe_lst (h : PA X es t) : PE X (.List es pos) (tLst t) := by
 intro pins s σ H Q I hq
 refine wpAny_List_spliced (thn (h pos pins s σ H _ I hq) fun us s1 ⟨xs, H1, I1, r, z, q⟩ => ⟨by rw [← r.length]; exact z, ?_⟩)
 have hf : H1 s1.heap.objs.size = none := I1.hok.fresh (Nat.le_refl _)
 refine ⟨.ref s1.heap.objs.size, upd H1 s1.heap.objs.size (.lst xs), I1.laid (t' := s1.toks) (fun b u e => Heap.get?_push_of_some _ e) (Nat.le_refl _) ?_, rfl, q _ hf⟩
 exact ⟨z, us, 0, r, Heap.get?_push_size _ rfl⟩
end
abbrev Sp := List V → Hp → VK → XK → Prop
abbrev CXT := List Env → Hp → Shared → XK → Value → Shared → Prop
structure Env0 (P : Program) (w : World) (K : PySem.W.Frag) (mg : Str → Option Value) (base : Heap) (A : Around) (outer : List Env) (s : Shared) (H : Hp) : Prop where
 frames : A.frames = some outer
 mod : Mod K mg base
 bs : ∀ b o, base.get? b = some o → s.heap.get? b = some o ∧ H b = none
 bsz : base.objs.size ≤ s.heap.objs.size
 funs : s.heap.FunFrames base outer
 frf : ∀ b ∈ frs outer, H b = none
 hok : HOk P w H s.heap
 bare : AllBare s.gens
def CE (outer : List Env) (P : Program) (w : World) (H : Hp) (s : Shared) (Q : VK) (u : Value) (s' : Shared) : Prop :=
 ∃ v H', s'.os = s.os ∧ AllBare s'.gens ∧ Un (frs outer) [] H H' s.heap s'.heap ∧ HOk P w H' s'.heap ∧ RelV v u ∧ Q v H'
def CR (CX : CXT) (outer : List Env) (P : Program) (w : World) (H : Hp) (s : Shared) (Q : VK) (E : XK) (r : Result) (s' : Shared) : Prop :=
 match r with
 | .ok (.ret u) => CE outer P w H s Q u s'
 | .ok _ => False
 | .error e => CX outer H s E e s'
structure FnOk (P : Program) (w : World) (K : PySem.W.Frag) (mg : Str → Option Value) (base : Heap) (CX : CXT) (k : Nat) (f : Addr) (fd : FuncData) (ps : List Str) (sp : Sp) : Prop where
 len : ∀ vs H Q E, sp vs H Q E → vs.length = ps.length
 run : ∀ (A : Around) (outer : List Env) (s : Shared) (H : Hp) (args : Args) (us : List Value) (vs : List V) (Q : VK) (E : XK), Room k A → Env0 P w K mg base A outer s H → BindsTo s fd args (ps.zip us) → Vals vs us → sp vs H Q E →
  codeAny (model P w) A (.call (.ref f) args) (CR CX outer P w H s Q E) s
section
variable {X : Cx} {pins : List (Addr × Obj)} {σ : St} {H : Hp} {s s' : Shared}
theorem Inv.env0 (I : Inv X pins σ H s) : Env0 X.prog X.w X.K X.mg X.base X.A X.stack s H :=
 ⟨I.ok.frames, I.ok.mod, I.bs, Nat.le_trans I.ok.bsz I.sz, I.stack, I.stkFree, I.hok, I.bare⟩
theorem Inv.after {Q : VK} {u : Value} (I : Inv X pins σ H s) (h : CE X.stack X.prog X.w H s Q u s') : EP X pins σ Q u s' := by
 obtain ⟨v, H', os, bare, un, hok, r, q⟩ := h
 obtain ⟨hh, g, d, t, os'⟩ := s'
 obtain rfl : os' = s.os := os
 exact ⟨v, H', I.call (h' := hh) (g' := g) (d' := d) (t' := t) (ch := []) un hok bare (fun b z => absurd z (by simp)), r, q⟩
end
def Binds (K : PySem.W.Frag) (fd : FuncData) (ps : List Str) (ds : List Value) : Prop :=
 ∀ (s : Shared) (us : List Value), K.In s.heap → (us ++ ds).length = ps.length → BindsTo s fd ⟨us, []⟩ (ps.zip (us ++ ds))
theorem Binds.all {K : PySem.W.Frag} {fd : FuncData} {ps : List Str} (h : ∀ us : List Value, us.length = ps.length → bindArgs fd ⟨us, []⟩ = pure (ps.zip us)) : Binds K fd ps [] := fun s us _ hl => by
 rw [List.append_nil] at hl ⊢
 exact .of_eq (h us hl)
def Passes (CX : CXT) (X : Cx) (E : XK) : Prop := ∀ (pins : List (Addr × Obj)) (σ : St) (H : Hp) (s : Shared) (e : Value) (s' : Shared), Inv X pins σ H s → CX X.stack H s E e s' → X.xe e s'
section
variable {X : Cx} {CX : CXT} {k : Nat} {f C : Addr} {fd : FuncData} {ps : List Str} {sp : Sp} {dvs : List V} {ds : List Value} {E : XK} {x m : Str} {p pos apos : Pos} {e o : Expr} {es : List Expr} {ta : TE} {t : TA}
theorem run_fn {pins : List (Addr × Obj)} {σ : St} {H : Hp} {s : Shared} {Q : VK} {us : List Value} {vs : List V} (F : FnOk X.prog X.w X.K X.mg X.base CX k f fd ps sp) (hr : Room k X.A) (hb : Binds X.K fd ps ds) (hd : Vals dvs ds) (hx : Passes CX X E)
 (I : Inv X pins σ H s) (r : Vals vs us) (h : sp (vs ++ dvs) H Q E) : wpAny (model X.prog X.w) X.A (call (.ref f) us) (EP X pins σ Q) X.xe s := by
 have r2 : Vals (vs ++ dvs) (us ++ ds) := r.append hd
 have hl : (us ++ ds).length = ps.length := by rw [← r2.length]; exact F.len _ _ _ _ h
 refine wpAny_call (codeAny_mono (F.run X.A X.stack s H ⟨us, []⟩ (us ++ ds) (vs ++ dvs) Q E hr I.env0 (hb s us I.kIn hl) r2 h) fun r s' hq => ?_)
 cases r with
 | error e => exact hx pins σ H s e s' I hq
 | ok fl =>
   cases fl with
   | ret u => exact I.after hq
   | next => exact False.elim hq
   | brk => exact False.elim hq
   | cont => exact False.elim hq
end
structure FnScope (N P : List Str) (sc : Scope) : Prop where
 kind : sc.kind = .function
 co : sc.isCoroutine = false
 gen : sc.isGenerator = false
 nd : N.Nodup
 pre : N.take P.length = P
 par : ∀ x ∈ P, sc.names.lookup x = some .local ∨ sc.names.lookup x = some .cell
 nofree : ∀ y ∈ sc.names, y.2 ≠ .free
theorem bindL_out {kindOf : Str → Option NameKind} {x : Str} : ∀ {binds : List (Str × Value)} {m : Str → Option Value}, (∀ v, (x, v) ∉ binds) → bindL kindOf binds m x = m x
 | [], _, _ => rfl
 | (n, v) :: r, m, h => by
   unfold bindL
   rw [bindL_out fun w hw => h w (List.mem_cons_of_mem _ hw)]
   split
   · have : x ≠ n := by rintro rfl; exact h v List.mem_cons_self
     simp [this]
   · rfl
theorem bindC_out {kindOf : Str → Option NameKind} {x : Str} : ∀ {binds : List (Str × Value)} {m : Str → Option Value}, (∀ v, (x, v) ∉ binds) → bindC kindOf binds m x = m x
 | [], _, _ => rfl
 | (n, v) :: r, m, h => by
   unfold bindC
   rw [bindC_out fun w hw => h w (List.mem_cons_of_mem _ hw)]
   split
   · rfl
   · have : x ≠ n := by rintro rfl; exact h v List.mem_cons_self
     simp [this]
theorem bindL_get {kindOf : Str → Option NameKind} {x : Str} {v : Value} : ∀ {P : List Str} {vs : List Value} {i : Nat} {m : Str → Option Value}, P.Nodup → P[i]? = some x → vs[i]? = some v → kindOf x = some .local →
 bindL kindOf (P.zip vs) m x = some v
 | [], _, _, _, _, h, _, _ => by simp at h
 | _ :: _, [], _, _, _, _, h, _ => by simp at h
 | p :: P, w :: vs, 0, m, nd, h1, h2, hk => by
   simp at h1 h2; subst h1; subst h2
   show bindL kindOf ((p, w) :: P.zip vs) m p = _
   unfold bindL
   rw [bindL_out fun v hv => (List.nodup_cons.mp nd).1 (List.of_mem_zip hv).1, if_pos hk]
   simp
 | p :: P, w :: vs, i + 1, m, nd, h1, h2, hk => by
   show bindL kindOf ((p, w) :: P.zip vs) m x = _
   unfold bindL
   exact bindL_get (i := i) (List.nodup_cons.mp nd).2 (by simpa using h1) (by simpa using h2) hk
theorem bindC_get {kindOf : Str → Option NameKind} {x : Str} {v : Value} : ∀ {P : List Str} {vs : List Value} {i : Nat} {m : Str → Option Value}, P.Nodup → P[i]? = some x → vs[i]? = some v → kindOf x ≠ some .local →
 bindC kindOf (P.zip vs) m x = some v
 | [], _, _, _, _, h, _, _ => by simp at h
 | _ :: _, [], _, _, _, _, h, _ => by simp at h
 | p :: P, w :: vs, 0, m, nd, h1, h2, hk => by
   simp at h1 h2; subst h1; subst h2
   show bindC kindOf ((p, w) :: P.zip vs) m p = _
   unfold bindC
   rw [bindC_out fun v hv => (List.nodup_cons.mp nd).1 (List.of_mem_zip hv).1, if_neg hk]
   simp
 | p :: P, w :: vs, i + 1, m, nd, h1, h2, hk => by
   show bindC kindOf ((p, w) :: P.zip vs) m x = _
   unfold bindC
   exact bindC_get (i := i) (List.nodup_cons.mp nd).2 (by simpa using h1) (by simpa using h2) hk
def start (N : List Str) (vs : List V) : St := vs.map some ++ List.replicate (N.length - vs.length) none
def cxOf (CX : CXT) (P : Program) (w : World) (K : PySem.W.Frag) (mg : Str → Option Value) (base : Heap) (N : List Str) (qual : Str) (scope : Scope) (f : Addr) (cd : Value) (A : Around) (outer : List Env) (s : Shared) (H : Hp) (E : XK) : Cx where
 prog := P
 w := w
 K := K
 mg := mg
 base := base
 A := A.deeper (envOfC qual scope s.heap.objs.size f cd)
 N := N
 s₀ := s
 H₀ := H
 env := envOfC qual scope s.heap.objs.size f cd
 outer := outer
 stack := envOfC qual scope s.heap.objs.size f cd :: outer
 ex := []
 calm := true
 fn := fun _ => true
 pn := []
 xe := fun e s' => wpAny (model P w) (A.deeper (envOfC qual scope s.heap.objs.size f cd)) (leaving (envOfC qual scope s.heap.objs.size f cd) e) (fun _ s'' => CX outer H s E e s'') (fun e' s'' => CX outer H s E e' s'') s'
theorem cell_has {sc : Scope} {n : Nat} {x : Str} (h : sc.names.lookup x = some .cell) : ∃ c, (cellsFrom n sc.names []).lookup x = some c := by
 have q := PySem.W.cellsFrom_some sc.names n [] (.inl h)
 exact Option.isSome_iff_exists.mp q
theorem inv_start {CX : CXT} {P : Program} {w : World} {K : PySem.W.Frag} {mg : Str → Option Value} {base : Heap} {N ps : List Str} {qual : Str} {scope : Scope} {f : Addr} {cd : Value} {A : Around} {outer : List Env} {s s1 : Shared} {H : Hp} {E : XK} {us : List Value} {vs : List V}
 (S : FnScope N ps scope) (hd : A.handled = none) (e0 : Env0 P w K mg base A outer s H) (hl : vs.length = ps.length) (r : Vals vs us)
 (x : InCallC s s.heap.objs.size (bindL (envOfC qual scope s.heap.objs.size f cd).kindOf (ps.zip us) fun _ => none) (cellsFrom (s.heap.objs.size + 1) scope.names []) (bindC (envOfC qual scope s.heap.objs.size f cd).kindOf (ps.zip us) fun _ => none) s1) :
 Inv (cxOf CX P w K mg base N qual scope f cd A outer s H E) [] (start N vs) H s1 := by
 have hpl : ps.length ≤ N.length := by have := congrArg List.length S.pre; rw [List.length_take] at this; omega
 obtain ⟨h1, tk, rfl, hk⟩ := x.done
 have noA : ∀ b : Addr, b ∉ (cxOf CX P w K mg base N qual scope f cd A outer s H E).ex := fun b z => absurd (show b ∈ ([] : List Addr) from z) (by simp)
 refine ⟨⟨e0.mod, S.kind, rfl, rfl, Nat.le_refl _, fun y z c h1 h2 => ?_, fun y hy => ?_, fun y c _ h => ?_, fun _ => hd, Around.frames_deeper e0.frames, .inr ⟨rfl, rfl⟩, fun b z => absurd z (noA b), e0.bs, e0.bsz, fun b _ _ => noA b, fun b z => absurd z (noA b), e0.funs, e0.frf⟩,
  rfl, e0.bare, Un.kept hk, ⟨_, x.toInCall.ns, fun i y v h1 h2 h3 => ?_⟩, fun y c h => ⟨_, x.cell y c h⟩, e0.hok.fresh (Nat.le_refl _), fun y c h => ?_, fun p hp => absurd (show p ∈ ([] : List (Addr × Obj)) from hp) (by simp), e0.hok.kept hk, ?_⟩
 · exact name_of_addr x.apart (PySem.mem_of_lookup h1) (PySem.mem_of_lookup h2)
 · have hy : scope.names.lookup y = some .cell ∨ scope.names.lookup y = some .free := hy
   rcases hy with hy | hy
   · exact cell_has hy
   · exact absurd rfl (S.nofree _ (PySem.mem_of_lookup hy))
 · exact Nat.le_of_lt (x.above y c (PySem.mem_of_lookup h))
 · have hi : i < vs.length := by
    unfold start at h2
    by_cases hi : i < vs.length
    · exact hi
    · rw [List.getElem?_append_right (by simpa using hi)] at h2
      rw [List.getElem?_replicate] at h2
      split at h2 <;> cases h2
   have ha : vs[i]? = some v := by
    unfold start at h2
    rw [List.getElem?_append_left (by simpa using hi), List.getElem?_map] at h2
    cases e : vs[i]? with
    | none => rw [e] at h2; cases h2
    | some a => rw [e] at h2; cases h2; rfl
   obtain ⟨u, hu, rv⟩ := r.get ha
   have hp : ps[i]? = some y := by
    rw [← S.pre, List.getElem?_take_of_lt (by omega)]; exact h1
   have ndP : ps.Nodup := by rw [← S.pre]; exact S.nd.sublist (List.take_sublist _ _)
   refine ⟨u, rv, ?_⟩
   rcases S.par y (List.mem_of_getElem? hp) with k | k
   · exact .inl ⟨k, bindL_get ndP hp hu k⟩
   · obtain ⟨c, e⟩ := cell_has (n := s.heap.objs.size + 1) k
     refine .inr ⟨.inl k, c, e, ?_⟩
     have q := x.cell y c e
     rw [bindC_get ndP hp hu (by show scope.names.lookup y ≠ _; rw [k]; decide)] at q
     exact q
 · exact e0.hok.fresh (Nat.le_of_lt (x.above y c (PySem.mem_of_lookup h)))
 · unfold start
   show _ = N.length
   rw [List.length_append, List.length_map, List.length_replicate]
   omega
theorem fn_of {CX : CXT} {P : Program} {w : World} {K : PySem.W.Frag} {mg : Str → Option Value} {base : Heap} {k : Nat} {f : Addr} {name qual : Str} {params : Arguments} {body : List Stmt} {scope : Scope} {dV kV doc pm cdv ct oc : Value} {an od : Option Addr}
 {osl : Array (Option Value)} {N ps : List Str} {sp : Sp} (lk : K.lookup f = some ⟨oc, od, .func (PySem.W.fnOf name qual params body scope dV kV doc pm an cdv ct), osl⟩) (hcd : PySem.W.codeIn K cdv qual = true) (S : FnScope N ps scope)
 (len : ∀ vs H Q E, sp vs H Q E → vs.length = ps.length)
 (hbody : ∀ (A : Around) (outer : List Env) (s : Shared) (H : Hp) (vs : List V) (Q : VK) (E : XK), Room k (A.deeper (envOfC qual scope s.heap.objs.size f cdv)) → sp vs H Q E →
  ∃ t, PSs (cxOf CX P w K mg base N qual scope f cdv A outer s H E) body t ∧ t { nx := fun _ H' => Q .non H', rt := Q } (start N vs) H) :
 FnOk P w K mg base CX (k + 1) f (PySem.W.fnOf name qual params body scope dV kV doc pm an cdv ct) ps sp := by
 refine ⟨len, fun A outer s H args us vs Q E hr e0 hb r hsp => ?_⟩
 have hl := len _ _ _ _ hsp
 have KX : K.In s.heap := e0.mod.kin.keeps fun b o e => (e0.bs b o e).1
 have lim : s.heap.NoLimit := e0.mod.nolimit.keeps fun b o e => (e0.bs b o e).1
 have hkind : ∀ y ∈ ps.zip us, scope.names.lookup y.1 = some .local ∨ (scope.names.lookup y.1 = some .cell ∧ ((cellsFrom (s.heap.objs.size + 1) scope.names []).lookup y.1).isSome = true) := fun ⟨n, v⟩ hy => by
  rcases S.par n (List.of_mem_zip hy).1 with q | q
  · exact .inl q
  · exact .inr ⟨q, PySem.W.cellsFrom_some _ _ _ (.inl q)⟩
 refine codeAny_call_function hr.depth (KX _ _ lk) rfl S.co S.gen rfl (PySem.W.codeRec_of KX hcd) (hb _ _ _ _ ?_)
 refine wpAny_newFunctionEnv_cells S.kind hkind fun env he s1 x => ?_
 subst he
 refine ⟨lim.keeps x.toInCall.keep, codeAny_func ?_⟩
 obtain ⟨t, ht, hq⟩ := hbody A outer s H vs Q E (hr.deeper _) hsp
 have I : Inv (cxOf CX P w K mg base N qual scope f cdv A outer s H E) [] (start N vs) H s1 := inv_start S hr.hd e0 hl r x
 refine wpAny_mono (ht [] s1 (start N vs) H _ I hq) (fun fl s' hs => ?_) fun e s' hs => hs
 have fin : ∀ {σ' : St} {H' : Hp} {v : V} {u : Value}, Inv (cxOf CX P w K mg base N qual scope f cdv A outer s H E) [] σ' H' s' → RelV v u → Q v H' → CE outer P w H s Q u s' :=
  fun {σ' H' v u} J rv q => ⟨v, H', J.os, J.bare, J.base, J.hok, rv, q⟩
 cases fl with
 | ret u =>
   obtain ⟨v, σ', H', J, rv, q⟩ := hs
   exact fin J rv q
 | next =>
   obtain ⟨σ', H', J, q⟩ := hs
   exact fin (v := V.non) (u := Value.none) J rfl q
 | brk =>
   obtain ⟨_, _, _, q⟩ := hs
   exact False.elim q
 | cont =>
   obtain ⟨_, _, _, q⟩ := hs
   exact False.elim q
end L2
namespace L2
open PySem PySem.Spec PyProof.Rows
section
variable {X : Cx} {x : Str} {p pos : Pos} {e : Expr} {es : List Expr} {t : TA} {id T : String} {r : List V → Hp → VK → Prop}
def tCB (r : List V → Hp → VK → Prop) (t : TA) : TE := fun σ H Q => t σ H fun vs H1 => r vs H1 Q
theorem pe_callB (hc : CallR X (.builtin id) r) (hg : Gl X x) (hm : X.mg x = none) (hv : bootBuiltins x = some (.builtin id)) (ha : PA X (e :: es) t) (hn : x ≠ "__name__" := by decide) (hdb : (x == ("__debug__" : Str)) = false := by decide)
 (he : starEach (e :: es) X.env = (false, eval e X.env) :: starEach es X.env := by rfl) (hpl : (backTo pos (starEach es X.env)).any (·.1) = false := by rfl) : PE X (.Call (.Name x p) (e :: es) [] pos) (tCB r t) := by
 intro pins s σ H Q I h
 refine wpAny_Call_Name_kw (ld_blt I hg hm hv ?_ hn hdb)
 exact PyProof.Rows.callWith_builtin1 (thn (ha pos pins s σ H _ I h) fun us s1 ⟨vs, H1, I1, r1, q1⟩ => hc pins s1 σ H1 vs us Q I1 r1 q1) he hpl
theorem pe_callTy (hc : CallR X (.type T) r) (hg : Gl X x) (hm : X.mg x = none) (hv : bootBuiltins x = some (.type T)) (ha : PA X (e :: es) t) (hn : x ≠ "__name__" := by decide) (hdb : (x == ("__debug__" : Str)) = false := by decide)
 (he : starEach (e :: es) X.env = (false, eval e X.env) :: starEach es X.env := by rfl) (hpl : (backTo pos (starEach es X.env)).any (·.1) = false := by rfl) : PE X (.Call (.Name x p) (e :: es) [] pos) (tCB r t) := by
 intro pins s σ H Q I h
 refine wpAny_Call_Name_kw (ld_blt I hg hm hv ?_ hn hdb)
 exact PyProof.Rows.callWith_type1 (thn (ha pos pins s σ H _ I h) fun us s1 ⟨vs, H1, I1, r1, q1⟩ => hc pins s1 σ H1 vs us Q I1 r1 q1) he hpl
end
end L2
namespace HT
open PySem PyProof.Rows
section
variable {prog : Program} {w : World} {A : Around} {E : Value → Shared → Prop} {s : Shared}
theorem cat_tup {t b : Addr} {vs ws : List Value} {Q : Value → Shared → Prop} (ht : IsTup s.heap t vs.toArray) (hb : IsTup s.heap b ws.toArray) (hv : vs ≠ [])
 (h1 : ws = [] → Q (.ref t) s) (h2 : ws ≠ [] → Q (.ref s.heap.objs.size) { s with heap := s.heap.push { cls := .type "tuple", data := .seq (vs ++ ws).toArray } })
 (hsz : vs.length + ws.length ≤ sizeLine) : wpAny (model prog w) A (binaryOp .Add (.ref t) (.ref b)) Q E s := by
 obtain ⟨⟨cls, dd, data, sl⟩, ho, hc, n, hd⟩ := id ht
 obtain ⟨⟨cls2, dd2, data2, sl2⟩, ho2, hc2, n2, hd2⟩ := id hb
 simp only at hc hd hc2 hd2
 subst hc hd hc2 hd2
 have e : vs.toArray ++ ws.toArray = (vs ++ ws).toArray := by simp
 by_cases hw : ws = []
 · exact concat_meets ⟨_, ho, rfl⟩ ⟨_, ho2, rfl⟩ noFill_tuple_add seq_tuple_add PySem.F.slot_tuple_add PySem.F.entry_tuple_add (PySem.F.args_tuple_add_2 _ _)
    (tuple_addW1 t b vs.toArray ws.toArray n n2 dd dd2 sl sl2 (by simpa using hv) (by simp [hw])) ⟨ho, ho2, h1 hw⟩
 · refine concat_meets ⟨_, ho, rfl⟩ ⟨_, ho2, rfl⟩ noFill_tuple_add seq_tuple_add PySem.F.slot_tuple_add PySem.F.entry_tuple_add (PySem.F.args_tuple_add_2 _ _)
    (tuple_addW2 t b vs.toArray ws.toArray n n2 dd dd2 sl sl2 (by simpa using hv) (by simpa using hw) (by rw [List.size_toArray, List.size_toArray]; exact hsz)) ⟨ho, ho2, ?_⟩
   rw [e]
   exact h2 hw
def sIx (n d : Nat) : Option Int → Nat
 | none => d
 | some v => if v < 0 then (v + (n : Int)).toNat else min v.toNat n
theorem sIx_none (n d : Nat) : sIx n d none = d := rfl
theorem sIx_nat (n d k : Nat) : sIx n d (some (k : Int)) = min k n := by
 show (if (k : Int) < 0 then ((k : Int) + (n : Int)).toNat else min (k : Int).toNat n) = min k n
 rw [if_neg (by omega), Int.toNat_natCast]
theorem sIx_le (n d : Nat) (hd : d ≤ n) (o : Option Int) : sIx n d o ≤ n := by
 cases o with
 | none => exact hd
 | some v =>
   show (if v < 0 then (v + (n : Int)).toNat else min v.toNat n) ≤ n
   by_cases hv : v < 0
   · rw [if_pos hv]; omega
   · rw [if_neg hv]; exact Nat.min_le_right _ _
theorem clip_eq (v : Int) (n d : Nat) : (if v < 0 then max (v + (n : Int)) 0 else min v (n : Int)) = ((sIx n d (some v) : Nat) : Int) := by
 show (if v < 0 then max (v + (n : Int)) 0 else min v (n : Int)) = (((if v < 0 then (v + (n : Int)).toNat else min v.toNat n) : Nat) : Int)
 by_cases hv : v < 0
 · simp only [if_pos hv]; omega
 · simp only [if_neg hv]; omega
theorem adjust_gen (lo hi : Option Int) (n : Nat) : Builtin.Slice.sliceAdjust lo hi 1 (n : Int) = (((sIx n 0 lo : Nat) : Int), ((sIx n n hi : Nat) : Int)) := by
 have h1 : ¬ ((1 : Int) < 0) := by omega
 unfold Builtin.Slice.sliceAdjust
 simp only [h1, if_false]
 refine Prod.ext ?_ ?_
 · cases lo with
   | none => rfl
   | some v => exact clip_eq v n 0
 · cases hi with
   | none => rfl
   | some v => exact clip_eq v n n
theorem places_gen (i j : Nat) : Builtin.Slice.slicePlaces (i : Int) (j : Int) 1 = j - i := by
 unfold Builtin.Slice.slicePlaces
 have h1 : (1 : Int) > 0 := by omega
 simp only [h1, if_true, Int.ediv_one]
 split <;> omega
theorem slicePart_ {v : Value} {o : Option Int} {Q : Option Int → Shared → Prop} (p : IsPart v o) (h : Q o s) : wpAny (model prog w) A (Builtin.Slice.slicePartIndex v) Q E s := by
 cases p with
 | none => exact slicePart_none h
 | int i t => exact slicePart_int h
theorem sliceApplied_gen {sl : Addr} {vl vu : Value} {lo hi : Option Int} {n : Nat} {Q : Int × Int × Nat → Shared → Prop} (hs : s.heap.IsSliceOf sl vl vu .none) (pl : IsPart vl lo) (pu : IsPart vu hi)
 (h : Q (((sIx n 0 lo : Nat) : Int), 1, sIx n n hi - sIx n 0 lo) s) : wpAny (model prog w) A (Builtin.Slice.sliceApplied (.ref sl) (pure (n : Int))) Q E s := by
 obtain ⟨os, hos, hcs, hds⟩ := id hs
 unfold Builtin.Slice.sliceApplied Builtin.Slice.sliceFields
 refine wpAny_bind (wpAny_bind (wpAny_field hos hds (x := vl) rfl (wpAny_bind (wpAny_field hos hds (x := vu) rfl (wpAny_bind (wpAny_field hos hds (x := .none) rfl (wpAny_pure ?_)))))))
 refine wpAny_bind (slicePart_none ?_)
 show wpAny _ _ (if ((1 : Int) == 0) = true then _ else _) _ _ s
 rw [if_neg (by decide)]
 refine wpAny_bind (slicePart_ pl (wpAny_bind (slicePart_ pu (wpAny_bind (wpAny_pure ?_)))))
 show wpAny _ _ (match Builtin.Slice.sliceAdjust lo hi 1 (n : Int) with | (lo, hi) => pure (lo, (1 : Int), Builtin.Slice.slicePlaces lo hi 1)) _ _ s
 rw [adjust_gen lo hi n]
 show wpAny _ _ (pure (((sIx n 0 lo : Nat) : Int), (1 : Int), Builtin.Slice.slicePlaces ((sIx n 0 lo : Nat) : Int) ((sIx n n hi : Nat) : Int) 1)) _ _ s
 rw [places_gen]
 exact wpAny_pure h
theorem pick_gen (xs : Array Value) (i k : Nat) : ((List.range k).filterMap fun (m : Nat) => xs[((i : Int) + (m : Int) * 1).toNat]?).toArray = ((xs.toList.drop i).take k).toArray := by
 have e : (fun (m : Nat) => xs[((i : Int) + (m : Int) * 1).toNat]?) = fun m => xs[i + m]? := by
  funext m
  have : ((i : Int) + (m : Int) * 1).toNat = i + m := by omega
  rw [this]
 rw [e]
 have := pick_run xs i k
 rw [List.filterMap_map] at this
 have e2 : ((fun x => xs[x]?) ∘ fun x => i + x) = fun m => xs[i + m]? := rfl
 rw [e2] at this
 rw [this]
theorem getItem_tuple_cut {t sl : Addr} {items : Array Value} {vl vu : Value} {lo hi : Option Int} {Q : Value → Shared → Prop} (ht : IsTup s.heap t items) (hs : s.heap.IsSliceOf sl vl vu .none) (pl : IsPart vl lo) (pu : IsPart vu hi)
 (hw : ¬ (sIx items.size 0 lo = 0 ∧ sIx items.size items.size hi = items.size))
 (h : Q (.ref s.heap.objs.size) { s with heap := s.heap.push { cls := .type "tuple", data := .seq ((items.toList.drop (sIx items.size 0 lo)).take (sIx items.size items.size hi - sIx items.size 0 lo)).toArray } })
 (hsz : items.size ≤ sizeLine) : wpAny (model prog w) A (getItem (.ref t) (.ref sl)) Q E s := by
 have htake : sizeOk (.seq ((items.toList.drop (sIx items.size 0 lo)).take (sIx items.size items.size hi - sIx items.size 0 lo)).toArray) := by
  show ((items.toList.drop (sIx items.size 0 lo)).take (sIx items.size items.size hi - sIx items.size 0 lo)).toArray.size ≤ sizeLine
  rw [List.size_toArray, List.length_take, List.length_drop, Array.length_toList]
  omega
 have hj : sIx items.size items.size hi ≤ items.size := sIx_le _ _ (Nat.le_refl _) hi
 obtain ⟨os, hos, hcs, hds⟩ := id hs
 have hTs : s.TypeIs (.ref sl) "slice" := ⟨os, hos, hcs⟩
 unfold getItem
 try with_reducible refine wpAny_holding ?_
 first | refine wpAny_bind (wpAny_pure ?_) | skip
 refine wpAny_bind (wpAny_sequenceKey ht.typeIs (by decide) ?_)
 refine wpAny_bind (wpAny_callSpecial?_slot (name := Str.ofString "__getitem__") ht.typeIs PyProof.Rows.slot_tuple_getitem
  (wpAny_call_entry PyProof.Rows.slot_tuple_getitem ht.typeIs entry_tuple_getitem ?_ (args_tuple_getitem _ _)))
 show wpAny _ _ (Builtin.Tuple.tupleItemsOf (.ref t) >>= _) _ _ s
 refine wpAny_bind (tupleItemsOf_ ht ?_)
 refine wpAny_bind (wpAny_typeOf hTs ?_)
 rw [if_pos (by decide)]
 refine wpAny_bind (sliceApplied_gen hs pl pu ?_)
 have hno : ¬ ((((sIx items.size 0 lo : Nat) : Int) == 0 && (1 : Int) == 1 && (sIx items.size items.size hi - sIx items.size 0 lo) == items.size) = true) := by
  intro q
  rw [Bool.and_eq_true, Bool.and_eq_true] at q
  have q1 : ((sIx items.size 0 lo : Nat) : Int) = 0 := eq_of_beq q.1.1
  have q2 : sIx items.size items.size hi - sIx items.size 0 lo = items.size := eq_of_beq q.2
  exact hw ⟨by omega, by omega⟩
 show wpAny _ _ (if (((sIx items.size 0 lo : Nat) : Int) == 0 && (1 : Int) == 1 && (sIx items.size items.size hi - sIx items.size 0 lo) == items.size) = true then _ else _) _ _ s
 rw [if_neg hno, pick_gen]
 first
  | exact wpAny_bind (m := Builtin.Tuple.tupleExact _) (wpAny_newObj_type (wpAny_pure ⟨_, rfl, wpAny_pure h⟩) htake)
  | exact wpAny_bind (m := Builtin.Tuple.tupleExact _) (wpAny_newObj_type (wpAny_bind (wpAny_pure (wpAny_pure ⟨_, rfl, wpAny_pure h⟩))) htake)
  | exact wpAny_bind (wpAny_bind (m := Builtin.Tuple.tupleExact _) (wpAny_newObj_type (wpAny_pure (wpAny_pure ⟨_, rfl, wpAny_pure h⟩)) htake))
  | exact wpAny_bind (wpAny_bind (m := Builtin.Tuple.tupleExact _) (wpAny_newObj_type (wpAny_pure ⟨_, rfl, wpAny_pure h⟩) htake))
end
end HT
namespace L2
open PySem PySem.Spec PyProof.Rows
abbrev TO := St → Hp → (Option Int → Hp → Prop) → Prop
theorem intsAre_of {ns : List Int} : ∀ {us : List Value}, Vals (ns.map V.int) us → IntsAre us ns := by
 induction ns with
 | nil => intro us r; rw [List.map_nil] at r; cases r; exact .nil
 | cons n ns ih =>
   intro us r
   rw [List.map_cons] at r
   cases r with
   | cons r1 r2 =>
     obtain ⟨t, e⟩ := r1
     subst e
     exact .cons n t (ih r2)
section
variable {X : Cx} {e : Expr} {te : TE} {lo hi : Option Expr} {tl th : TO} {pos p2 : Pos}
def SlR (X : Cx) (r : V → Option Int → Option Int → Hp → VK → Prop) : Prop :=
 ∀ (pins : List (Addr × Obj)) (s : Shared) (σ : St) (H : Hp) (x : V) (v vl vu : Value) (lo hi : Option Int) (sl : Addr) (Q : VK), Inv X pins σ H s → RelV x v → s.heap.IsSliceOf sl vl vu .none → IsPart vl lo → IsPart vu hi → r x lo hi H Q →
   ∃ T id, typeLookup (.type T) "__getitem__" = pure (some (.builtin id)) ∧ s.TypeIs v T ∧ wpAny (model X.prog X.w) X.A (getItem v (.ref sl)) (EP X pins σ Q) X.xe s
def cutV (xs : List V) (lo hi : Option Int) : List V := (xs.drop (HT.sIx xs.length 0 lo)).take (HT.sIx xs.length xs.length hi - HT.sIx xs.length 0 lo)
theorem cutV_length (xs : List V) (lo hi : Option Int) : (cutV xs lo hi).length ≤ xs.length := by
 unfold cutV
 rw [List.length_take, List.length_drop]
 omega
def rSlT (K : PySem.W.Frag) : V → Option Int → Option Int → Hp → VK → Prop := fun x lo hi H Q => ∃ a xs, x = .ref a ∧ SqT K H a xs ∧
 ¬ (HT.sIx xs.length 0 lo = 0 ∧ HT.sIx xs.length xs.length hi = xs.length) ∧ ∀ p, H p = none → Q (.ref p) (upd H p (.tup (cutV xs lo hi)))
theorem sl_tup : SlR X (rSlT X.K) := by
 intro pins s σ H x v vl vu lo hi sl Q I rx hs pl pu h
 obtain ⟨a, xs, rfl, hx, hw, q⟩ := h
 cases rx
 obtain ⟨its, r, ht, hz⟩ := I.tuple hx
 have hlen : its.toArray.size = xs.length := by rw [List.size_toArray]; exact r.length.symm
 refine ⟨"tuple", _, PyProof.Rows.slot_tuple_getitem.lookup, ht.typeIs, ?_⟩
 refine HT.getItem_tuple_cut ht hs pl pu (by rw [hlen]; exact hw) ?_ (by rw [hlen]; exact hz)
 rw [hlen]
 refine ⟨.ref s.heap.objs.size, _, I.laid (t' := s.toks) (o := .tup (cutV xs lo hi)) (fun b ob q => Heap.get?_push_of_some _ q) (Nat.le_refl _) ?_, rfl, q _ (I.hok.fresh (Nat.le_refl _))⟩
 exact ⟨Nat.le_trans (cutV_length xs lo hi) hz, _, (r.drop (HT.sIx xs.length 0 lo)).take (HT.sIx xs.length xs.length hi - HT.sIx xs.length 0 lo), IsTup.new _ _⟩
def rCatT (K : PySem.W.Frag) : R2 := fun x y H Q => ∃ a b xs ys, x = .ref a ∧ y = .ref b ∧ SqT K H a xs ∧ SqT K H b ys ∧ xs ≠ [] ∧ xs.length + ys.length ≤ sizeLine ∧
 (ys = [] → Q (.ref a) H) ∧ (ys ≠ [] → ∀ p, H p = none → Q (.ref p) (upd H p (.tup (xs ++ ys))))
theorem Vals.nil_iff {xs : List V} {us : List Value} (r : Vals xs us) : us = [] ↔ xs = [] := by
 cases r with
 | nil => simp
 | cons _ _ => simp
theorem op_catT : OpR X (binaryOp .Add) (rCatT X.K) := by
 intro pins s σ H x y v u Q I rx ry h
 obtain ⟨a, b, xs, ys, rfl, rfl, ha, hb, hx, hz, q1, q2⟩ := h
 cases rx
 cases ry
 obtain ⟨its, r1, p1, _⟩ := I.tuple ha
 obtain ⟨its2, r2, p2, _⟩ := I.tuple hb
 refine HT.cat_tup p1 p2 (fun z => hx (r1.nil_iff.mp z)) (fun z => ⟨.ref a, H, I, rfl, q1 (r2.nil_iff.mp z)⟩) (fun z => ?_) (by rw [← r1.length, ← r2.length]; exact hz)
 refine ⟨.ref s.heap.objs.size, _, I.laid (t' := s.toks) (o := .tup (xs ++ ys)) (fun b ob q => Heap.get?_push_of_some _ q) (Nat.le_refl _) ?_, rfl, q2 (fun w => z (r2.nil_iff.mpr w)) _ (I.hok.fresh (Nat.le_refl _))⟩
 exact ⟨by rw [List.length_append]; exact hz, _, r1.append r2, IsTup.new _ _⟩
end
end L2
namespace L2
open PySem PySem.Spec PyProof.Rows
def ixN (n : Nat) (i : Int) : Option Nat := if 0 ≤ i then (if i < n then some i.toNat else none) else if -(n : Int) ≤ i then some (i + n).toNat else none
def atI {α : Type} (xs : List α) (i : Int) : Option α := (ixN xs.length i).bind fun j => xs[j]?
theorem ixN_seq {n : Nat} {i : Int} {j : Nat} (h : ixN n i = some j) : seqIndex? i n = some j ∧ j < n ∧ -(n : Int) ≤ i ∧ i < n := by
 unfold ixN at h
 by_cases h0 : 0 ≤ i
 · rw [if_pos h0] at h
   by_cases h1 : i < n
   · rw [if_pos h1] at h
     have e : i.toNat = j := Option.some.inj h
     exact ⟨by rw [seqIndex_of h0 h1, e], by omega, by omega, h1⟩
   · rw [if_neg h1] at h; cases h
 · rw [if_neg h0] at h
   by_cases h1 : -(n : Int) ≤ i
   · rw [if_pos h1] at h
     have e : (i + n).toNat = j := Option.some.inj h
     exact ⟨by rw [seqIndex_neg (by omega) h1, e], by omega, h1, by omega⟩
   · rw [if_neg h1] at h; cases h
theorem atI_get {α : Type} {xs : List α} {i : Int} {v : α} (h : atI xs i = some v) : ∃ j, seqIndex? i xs.length = some j ∧ xs[j]? = some v ∧ j < xs.length ∧ -(xs.length : Int) ≤ i ∧ i < xs.length := by
 unfold atI at h
 cases e : ixN xs.length i with
 | none => rw [e] at h; cases h
 | some j =>
   rw [e] at h
   obtain ⟨h1, h2, h3, h4⟩ := ixN_seq e
   exact ⟨j, h1, h, h2, h3, h4⟩
theorem atI_nat {α : Type} {xs : List α} {j : Nat} {v : α} (h : xs[j]? = some v) : atI xs (j : Int) = some v := by
 have hj : j < xs.length := (List.getElem?_eq_some_iff.mp h).1
 have e : ixN xs.length (j : Int) = some j := by
  unfold ixN
  rw [if_pos (by omega), if_pos (by omega)]; simp
 unfold atI; rw [e]; exact h
def PlainIx (b : Expr) : Prop := ∀ o i, subscripted b false o i = operate [o, i] (getItem o i)
def IxR (X : Cx) (r : R2) : Prop :=
 ∀ (value slice : Expr) (pins : List (Addr × Obj)) (s : Shared) (σ : St) (H : Hp) (x y : V) (v u : Value) (Q : VK), Inv X pins σ H s → RelV x v → RelV y u → r x y H Q →
   subscripted slice false v u = operate [v, u] (getItem v u) → wpAny (model X.prog X.w) X.A (subscriptTail value slice v u) (EP X pins σ Q) X.xe s
def MtR (X : Cx) (id : String) (r : V → List V → Hp → VK → Prop) : Prop :=
 ∀ (pins : List (Addr × Obj)) (s : Shared) (σ : St) (H : Hp) (x : V) (xs : List V) (v : Value) (us : List Value) (Q : VK), Inv X pins σ H s → RelV x v → Vals xs us → r x xs H Q →
   wpAny (model X.prog X.w) X.A (call (.builtin id) (v :: us)) (EP X pins σ Q) X.xe s
section
variable {X : Cx} {a b : Expr} {ta tb : TE} {pos : Pos}
theorem pe_ix {r : R2} (hr : IxR X r) (ha : PE X a ta) (hb : PE X b tb) (hs : PlainIx b) : PE X (.Subscript a b pos) (tOp r ta tb) := by
 intro pins s σ H Q I h
 exact Subscript_ (binT ha hb I h fun v u s2 x y H2 I2 rx ry q => hr a b pins s2 σ H2 x y v u Q I2 rx ry q (hs _ _))
def rIxL (K : PySem.W.Frag) : R2 := fun x y H Q => ∃ p xs i v, x = .ref p ∧ y = .int i ∧ SqL K H p xs ∧ atI xs i = some v ∧ Q v H
def rIxT (K : PySem.W.Frag) : R2 := fun x y H Q => ∃ p xs i v, x = .ref p ∧ y = .int i ∧ SqT K H p xs ∧ atI xs i = some v ∧ Q v H
theorem ix_list : IxR X (rIxL X.K) := by
 intro value slice pins s σ H x y v u Q I rx ry h hs
 obtain ⟨p, xs, i, z, rfl, rfl, hq, he, q⟩ := h
 cases rx
 obtain ⟨t, rfl⟩ := ry
 obtain ⟨its, r, pl, hz⟩ := I.list hq
 obtain ⟨j, h1, h2, h3, h4, h5⟩ := atI_get he
 obtain ⟨w, ew, rw'⟩ := r.get h2
 have hl := r.length
 have hn := line63
 have fin : EP X pins σ Q w s := ⟨z, H, I, rw', q⟩
 by_cases h0 : 0 ≤ i
 · have hj : i.toNat = j := by
    rw [seqIndex_of h0 h5] at h1
    exact Option.some.inj h1
   exact item_listR pl.isList h0 (by omega) (by rw [hj]; simpa using ew) fin hs
 · have hj : (i + (its.toArray.size : Int)).toNat = j := by
    rw [seqIndex_neg (by omega) h4] at h1
    rw [List.size_toArray, ← hl]
    exact Option.some.inj h1
   exact subscriptTail_builtinR (x := w) pl.isList.typeIs slot_list_getitem.lookup
    (wpAny_getItem_list_neg (Q := fun r s' => r = w ∧ EP X pins σ Q r s') pl.isList (by omega) (by rw [List.size_toArray] <;> omega) (by omega) (by rw [hj]; simpa using ew) ⟨rfl, fin⟩) hs
theorem ix_tup : IxR X (rIxT X.K) := by
 intro value slice pins s σ H x y v u Q I rx ry h hs
 obtain ⟨p, xs, i, z, rfl, rfl, hq, he, q⟩ := h
 cases rx
 obtain ⟨t, rfl⟩ := ry
 obtain ⟨its, r, pl, hz⟩ := I.tuple hq
 obtain ⟨j, h1, h2, h3, h4, h5⟩ := atI_get he
 obtain ⟨w, ew, rw'⟩ := r.get h2
 have hl := r.length
 have hn := line63
 have fin : EP X pins σ Q w s := ⟨z, H, I, rw', q⟩
 exact subscriptTail_builtinR (x := w) pl.typeIs slot_tuple_getitem.lookup
  (getItem_tuple (j := j) (Q := fun r s' => r = w ∧ EP X pins σ Q r s') pl (by omega) (by omega) (by rw [List.size_toArray, ← hl]; exact h1) (by simpa using ew) ⟨rfl, fin⟩) hs
theorem mapSeq_set (its : List Value) (n j : Nat) (u : Value) : Obj.mapSeq (·.setIfInBounds j u) { cls := .type "list", data := .seq its.toArray n } = { cls := .type "list", data := .seq (its.set j u).toArray n } := by
 simp [Obj.mapSeq]
theorem Inv.lst {pins : List (Addr × Obj)} {σ : St} {H : Hp} {s : Shared} {p : Addr} {xs : List V} (I : Inv X pins σ H s) (h : H p = some (.lst xs)) :
 ∃ (its : List Value) (n : Nat), Vals xs its ∧ s.heap.get? p = some { cls := .type "list", data := .seq its.toArray n } ∧ xs.length ≤ sizeLine := by
 obtain ⟨z, its, n, r, e⟩ := I.hok p _ h
 exact ⟨its, n, r, e, z⟩
theorem Inv.lstUpd {pins : List (Addr × Obj)} {σ : St} {H : Hp} {s : Shared} {p : Addr} {xs ys : List V} {its its' : List Value} {n n' : Nat} {f : Obj → Obj} (I : Inv X pins σ H s) (h : H p = some (.lst xs))
 (ho : s.heap.get? p = some { cls := .type "list", data := .seq its.toArray n }) (hf : f { cls := .type "list", data := .seq its.toArray n } = { cls := .type "list", data := .seq its'.toArray n' }) (r : Vals ys its') (hz : ys.length ≤ sizeLine) (t : Nat) :
 Inv X pins σ (upd H p (.lst ys)) { s with heap := s.heap.update p f, toks := t } := by
 have e : (s.heap.update p f).get? p = some { cls := .type "list", data := .seq its'.toArray n' } := by
  rw [Heap.get?_update_self f ho (by rw [hf] <;> rfl), hf]
 refine I.write (x := p) (e := p) (by rw [h]; trivial) (.inl rfl) (fun b u hb q => (Heap.get?_update_other _ _ (Ne.symm hb)).trans q) ⟨_, e⟩ ?_
 exact ⟨hz, its', n', r, e⟩
def rSetL : V → V → V → Hp → (Hp → Prop) → Prop := fun o i v H Q => ∃ p xs k j, o = .ref p ∧ i = .int k ∧ H p = some (.lst xs) ∧ ixN xs.length k = some j ∧ Q (upd H p (.lst (xs.set j v)))
theorem set_list : PSet X rSetL := by
 intro pins s σ H o i v ov iv u Q I ro ri rv h
 obtain ⟨p, xs, k, j, rfl, rfl, hp, hj, q⟩ := h
 cases ro
 obtain ⟨t, rfl⟩ := ri
 obtain ⟨its, n, r, ho, hz⟩ := I.lst hp
 obtain ⟨h1, h2, h3, h4⟩ := ixN_seq hj
 have hl := r.length
 have hn := line63
 have I' : Inv X pins σ (upd H p (.lst (xs.set j v))) { s with heap := s.heap.update p (Obj.mapSeq (·.setIfInBounds j u)) } :=
  I.lstUpd hp ho (mapSeq_set its n j u) (r.set rv j) (by rw [List.length_set]; exact hz) s.toks
 by_cases h0 : 0 ≤ k
 · have hk : k.toNat = j := by
    rw [seqIndex_of h0 h4] at h1
    exact Option.some.inj h1
   exact PySem.W.ki_setAt ho h0 (by omega) (by rw [List.size_toArray, ← hl]; exact h4) (by rw [hk]; exact ⟨_, I', q⟩)
 · have hk : (k + (its.toArray.size : Int)).toNat = j := by
    rw [seqIndex_neg (by omega) h3] at h1
    rw [List.size_toArray, ← hl]
    exact Option.some.inj h1
   exact PySem.W.ki_setBack ho (by omega) (by rw [List.size_toArray, ← hl]; exact h3) (by omega) (by rw [hk]; exact ⟨_, I', q⟩)
theorem slice_bounds (lo hi : Option Int) (n : Nat) : (sliceBounds lo hi none n).1 = ((HT.sIx n 0 lo : Nat) : Int) ∧ (sliceBounds lo hi none n).2.1 = ((HT.sIx n n hi : Nat) : Int) ∧ (sliceBounds lo hi none n).2.2 = 1 := by
 refine ⟨?_, ?_, rfl⟩
 · cases lo with
   | none => simp [sliceBounds, HT.sIx]
   | some i =>
     simp only [sliceBounds, HT.sIx, Option.getD_none, show (1 : Int) > 0 by decide, if_true]
     by_cases h : i < 0
     · simp only [h, if_true] <;> omega
     · simp only [h, if_false] <;> omega
 · cases hi with
   | none => simp [sliceBounds, HT.sIx]
   | some i =>
     simp only [sliceBounds, HT.sIx, Option.getD_none, show (1 : Int) > 0 by decide, if_true]
     by_cases h : i < 0
     · simp only [h, if_true] <;> omega
     · simp only [h, if_false] <;> omega
theorem slicePick_cut (its : List Value) (lo hi : Option Int) : slicePick its.toArray lo hi none = ((its.drop (HT.sIx its.length 0 lo)).take (HT.sIx its.length its.length hi - HT.sIx its.length 0 lo)).toArray := by
 obtain ⟨h1, h2, h3⟩ := slice_bounds lo hi its.toArray.size
 unfold slicePick
 rw [h1, h2, h3]
 simp only [sliceRange_one, pick_run, List.size_toArray] <;> rfl
def rSlL (K : PySem.W.Frag) : V → Option Int → Option Int → Hp → VK → Prop := fun x lo hi H Q => ∃ a xs, x = .ref a ∧ SqL K H a xs ∧ ∀ p, H p = none → Q (.ref p) (upd H p (.lst (cutV xs lo hi)))
theorem sl_list : SlR X (rSlL X.K) := by
 intro pins s σ H x v vl vu lo hi sl Q I rx hs pl pu h
 obtain ⟨a, xs, rfl, hx, q⟩ := h
 cases rx
 obtain ⟨its, r, ht, hz⟩ := I.list hx
 have hlen := r.length
 refine ⟨"list", _, slot_list_getitem.lookup, ht.isList.typeIs, ?_⟩
 refine wpAny_getItem_list_slice ht.isList hs pl pu .none (by simp) ?_ (by rw [List.size_toArray] <;> omega)
 rw [slicePick_cut, ← hlen]
 refine ⟨.ref s.heap.objs.size, _, I.laid (t' := s.toks) (o := .lst (cutV xs lo hi)) (fun b ob q => Heap.get?_push_of_some _ q) (Nat.le_refl _) ?_, rfl, q _ (I.hok.fresh (Nat.le_refl _))⟩
 exact ⟨Nat.le_trans (cutV_length xs lo hi) hz, _, 0, (r.drop (HT.sIx xs.length 0 lo)).take (HT.sIx xs.length xs.length hi - HT.sIx xs.length 0 lo), Heap.get?_push_size _ rfl⟩
theorem call_len_seq : CallR X (.builtin "len") (fun xs H Q => ∃ p ys, xs = [.ref p] ∧ (SqL X.K H p ys ∨ SqT X.K H p ys) ∧ Q (.int ys.length) H) := by
 intro pins s σ H xs us Q I r h
 obtain ⟨p, ys, rfl, hq, q⟩ := h
 obtain ⟨u, rfl, rx⟩ := vals1 r
 cases rx
 have hn := line63
 rcases hq with hq | hq
 · obtain ⟨its, r', pl, hz⟩ := I.list hq
   have hlen := r'.length
   exact Calls.call_len_list pl.isList (by simp only [List.size_toArray] <;> omega) ⟨.int ys.length, H, I.tok _, ⟨s.toks + 1, by rw [List.size_toArray, hlen]⟩, q⟩
 · obtain ⟨its, r', pl, hz⟩ := I.tuple hq
   have hlen := r'.length
   exact len_tuple pl (by simp only [List.size_toArray] <;> omega) ⟨.int ys.length, H, I.tok _, ⟨s.toks + 1, by rw [List.size_toArray, hlen]⟩, q⟩
theorem call_list_of : CallR X (.type "list") (fun xs H Q => ∃ p ys, xs = [.ref p] ∧ (SqL X.K H p ys ∨ SqT X.K H p ys) ∧ ∀ l, H l = none → Q (.ref l) (upd H l (.lst ys))) := by
 intro pins s σ H xs us Q I r h
 obtain ⟨p, ys, rfl, hq, q⟩ := h
 obtain ⟨u, rfl, rx⟩ := vals1 r
 cases rx
 have fin : ∀ (its : List Value), Vals ys its → ys.length ≤ sizeLine → ∀ (h' : Heap) (c' : Nat), (∀ b o', s.heap.get? b = some o' → h'.get? b = some o') →
  h'.get? s.heap.objs.size = some { cls := .type "list", dict := none, data := .seq its.toArray c', slots := #[] } → EP X pins σ Q (.ref s.heap.objs.size) { s with heap := h' } := fun its r' hz h' c' kp e =>
  ⟨.ref s.heap.objs.size, _, I.laid (t' := s.toks) kp (Nat.le_refl _) (show ObjOk X.prog X.w _ h' _ (.lst ys) from ⟨hz, its, c', r', e⟩), rfl, q _ (I.hok.fresh (Nat.le_refl _))⟩
 rcases hq with hq | hq
 · obtain ⟨its, r', pl, hz⟩ := I.list hq
   have hlen := r'.length
   obtain ⟨o, ho, hc, n, hd⟩ := pl.isList
   exact call_list_seq p (.inl rfl) ho hc hd (fun h' c' kp e => fin its r' hz h' c' kp e) (by simp only [List.size_toArray] <;> omega)
 · obtain ⟨its, r', pl, hz⟩ := I.tuple hq
   have hlen := r'.length
   obtain ⟨o, ho, hc, n, hd⟩ := pl
   exact call_list_seq p (.inr rfl) ho hc hd (fun h' c' kp e => fin its r' hz h' c' kp e) (by simp only [List.size_toArray] <;> omega)
theorem call_tuple_of : CallR X (.type "tuple") (fun xs H Q => ∃ p ys, xs = [.ref p] ∧ ((SqL X.K H p ys ∧ ∀ l, H l = none → Q (.ref l) (upd H l (.tup ys))) ∨ (SqT X.K H p ys ∧ Q (.ref p) H))) := by
 intro pins s σ H xs us Q I r h
 obtain ⟨p, ys, rfl, h⟩ := h
 obtain ⟨u, rfl, rx⟩ := vals1 r
 cases rx
 rcases h with ⟨hq, q⟩ | ⟨hq, q⟩
 · obtain ⟨its, r', pl, hz⟩ := I.list hq
   have hlen := r'.length
   refine call_tuple_list pl.isList (fun h' kp => ?_) (by simp only [List.size_toArray] <;> omega)
   have I1 : Inv X pins σ H { s with heap := h' } := I.kept (t' := s.toks) kp
   have I2 : Inv X pins σ (upd H h'.objs.size (.tup ys)) { s with heap := h'.push { cls := .type "tuple", data := .seq its.toArray } } :=
    I1.laid (t' := s.toks) (fun b o e => Heap.get?_push_of_some _ e) (Nat.le_refl _) (show ObjOk X.prog X.w _ _ _ (.tup ys) from ⟨hz, its, r', IsTup.new _ _⟩)
   exact ⟨.ref h'.objs.size, _, I2, rfl, q _ (I1.hok.fresh (Nat.le_refl _))⟩
 · obtain ⟨its, r', pl, hz⟩ := I.tuple hq
   exact call_tuple_same pl ⟨.ref p, H, I, rfl, q⟩
def tyV (K : PySem.W.Frag) (T : String) (x : V) (H : Hp) : Prop := match x with
 | .str _ => T = "str"
 | .int _ => T = "int"
 | .ref p => (T = "list" ∧ ∃ xs, SqL K H p xs) ∨ (T = "tuple" ∧ ∃ o, K.lookup p = some o ∧ o.cls = .type "tuple" ∧ o.dict = none) ∨
  (T = "dict" ∧ ((∃ kvs, H p = some (.dK kvs)) ∨ ∃ kvs, H p = some (.dT kvs))) ∨ (T = "set" ∧ ∃ S n, H p = some (.set S n))
 | _ => False
theorem tyV_is {pins : List (Addr × Obj)} {σ : St} {H : Hp} {s : Shared} {T : String} {x : V} {v : Value} (I : Inv X pins σ H s) (r : RelV x v) (ty : tyV X.K T x H) :
 s.TypeIs v T ∧ ∀ a, v = .ref a → ∃ ob, s.heap.get? a = some ob ∧ ob.dict = none := by
 cases x with
 | str z =>
   obtain ⟨t, rfl⟩ := r
   cases (show T = "str" from ty)
   exact ⟨typeIs_str s z t, fun _ e => nomatch e⟩
 | int i =>
   obtain ⟨t, rfl⟩ := r
   cases (show T = "int" from ty)
   exact ⟨typeIs_int s i t, fun _ e => nomatch e⟩
 | ref p =>
   cases r
   rcases ty with ⟨rfl, xs, hq⟩ | ⟨rfl, o, hk, hc, hd⟩ | ⟨rfl, hk⟩ | ⟨rfl, S, n, hk⟩
   · obtain ⟨its, _, pl, _⟩ := I.list hq
     refine ⟨pl.isList.typeIs, fun a e => ?_⟩
     cases e
     obtain ⟨o, n, e, c, hd, _⟩ := pl
     exact ⟨o, e, hd⟩
   · refine ⟨⟨o, I.kIn p o hk, hc⟩, fun a e => ?_⟩
     cases e
     exact ⟨o, I.kIn _ o hk, hd⟩
   · have z : ∃ o, s.heap.get? p = some o ∧ o.ExactDict := by
      rcases hk with ⟨kvs, hk⟩ | ⟨kvs, hk⟩
      · obtain ⟨_, _, _, _, o, _, _, e, ex, _⟩ := I.hok p _ hk
        exact ⟨o, e, ex⟩
      · obtain ⟨_, _, _, _, o, _, _, e, ex, _⟩ := I.hok p _ hk
        exact ⟨o, e, ex⟩
     obtain ⟨o, e, ex⟩ := z
     refine ⟨⟨o, e, ex.1⟩, fun a e2 => ?_⟩
     cases e2
     exact ⟨o, e, ex.2.1⟩
   · obtain ⟨o, _, _, _, e, ex, _⟩ := I.hok p _ hk
     refine ⟨⟨o, e, ex.1⟩, fun a e2 => ?_⟩
     cases e2
     exact ⟨o, e, ex.2.1⟩
 | _ => exact False.elim ty
def tBM (K : PySem.W.Frag) (T : String) (r : V → List V → Hp → VK → Prop) (to : TE) (t : TA) : TE := fun σ H Q => to σ H fun x H1 => tyV K T x H1 ∧ t σ H1 fun xs H2 => r x xs H2 Q
variable {o e : Expr} {es : List Expr} {to : TE} {t : TA} {name : Str} {apos cpos : Pos} {T id : String} {r : V → List V → Hp → VK → Prop}
theorem pe_bm (pa : PlainAttrs T) (slot : Slot T name id) (hty : typeOf (.builtin id) = pure (.type "method_descriptor")) (hm : MtR X id r) (ho : PE X o to) (ha : PA X (e :: es) t)
 (hbase : attributeBase o name X.env (eval o X.env) = eval o X.env := by rfl)
 (hfew : ((backTo cpos (starEach (e :: es) X.env)).all (fun x => !x.1) && (backToKw cpos (keywordEach [] X.env)).all (fun x => x.1.isSome)
  && decide ((e :: es).length + ([] : List Keyword).length + (if ([] : List Keyword).isEmpty then 0 else 1) < 30)) = true := by rfl)
 (hline : (apos.endLine == cpos.line) = true := by rfl) (hs : starEach (e :: es) X.env = (false, eval e X.env) :: starEach es X.env := by rfl) (hplain : (backTo cpos (starEach es X.env)).any (·.1) = false := by rfl) :
 PE X (.Call (.Attribute o name apos) (e :: es) [] cpos) (tBM X.K T r to t) := by
 intro pins s σ H Q I h
 refine wpAny_Call_method_late hbase hfew hline rfl (thn (ho pins s σ H _ I h) fun v s1 ⟨x, H1, I1, r1, ty, q1⟩ => ?_)
 obtain ⟨h1, h2⟩ := tyV_is I1 r1 ty
 refine ⟨T, id, pa, slot, hty, h1, h2, ?_⟩
 have hA := ha cpos pins s1 σ H1 _ I1 q1
 rw [hs] at hA ⊢
 refine Calls.callWith_builtin (by show (false || (backTo cpos (starEach es X.env)).any (·.1)) = false; rw [hplain] <;> rfl) (Calls.evalArgs_plain ?_)
 exact thn hA fun us s2 ⟨vs, H2, I2, r2, q2⟩ => hm pins s2 σ H2 x vs v us Q I2 r1 r2 q2
end
end L2
namespace L2
open PySem PySem.Spec PyProof.Rows
def MtM (X : Cx) (id : String) (r : V → List V → Hp → VK → Prop) : Prop :=
 ∀ (pins : List (Addr × Obj)) (s : Shared) (σ : St) (H : Hp) (x : V) (xs : List V) (v : Value) (us : List Value) (Q : VK), Inv X pins σ H s → RelV x v → Vals xs us → r x xs H Q →
   wpAny (model X.prog X.w) X.A (call (.builtin id) (v :: us)) (EP X pins σ Q) X.xe s
theorem Vals.one : ∀ {x : V} {us : List Value}, Vals [x] us → ∃ u, us = [u] ∧ RelV x u
 | _, _, .cons r .nil => ⟨_, rfl, r⟩
theorem Vals.rep {xs : List V} {us : List Value} (h : Vals xs us) : ∀ k : Nat, Vals (List.replicate k xs).flatten (List.replicate k us).flatten
 | 0 => .nil
 | k + 1 => by
   rw [List.replicate_succ, List.replicate_succ, List.flatten_cons, List.flatten_cons]
   exact Vals.append h (Vals.rep h k)
theorem foldl_rep (its : List Value) : ∀ (k : Nat) (acc : List Value),
 List.foldl (fun x1 x2 => x1 ++ x2) acc.toArray (List.replicate k its.toArray) = (acc ++ (List.replicate k its).flatten).toArray
 | 0, acc => by simp
 | k + 1, acc => by
   have e : acc.toArray ++ its.toArray = (acc ++ its).toArray := by simp
   have e2 : (acc ++ its) ++ (List.replicate k its).flatten = acc ++ (List.replicate (k + 1) its).flatten := by
    rw [List.replicate_succ, List.flatten_cons, List.append_assoc]
   rw [← e2, ← foldl_rep its k (acc ++ its), ← e, List.replicate_succ, List.foldl_cons]
section
variable {X : Cx} {pins : List (Addr × Obj)} {σ : St} {H : Hp} {s : Shared} {l b : Addr} {xs ys zs : List V}
theorem Inv.lset {its its' : List Value} {n : Nat} {f : Array Value → Array Value} {t' : Nat} (I : Inv X pins σ H s) (hH : H l = some (.lst xs))
 (e : s.heap.get? l = some { cls := .type "list", data := .seq its.toArray n }) (hf : f its.toArray = its'.toArray) (hv : Vals ys its') (hz : ys.length ≤ sizeLine) :
 Inv X pins σ (upd H l (.lst ys)) { s with heap := s.heap.update l (Obj.mapSeq f), toks := t' } := by
 have q := PySem.IsL.update e f
 rw [hf] at q
 refine I.write (x := l) (e := l) (by rw [hH]; exact trivial) (.inl rfl) (fun b' u hb hu => (Heap.get?_update_other s.heap (Obj.mapSeq f) (Ne.symm hb)).trans hu) ⟨_, q⟩ ?_
 exact ⟨hz, its', _, hv, q⟩
theorem Inv.lnew {its : List Value} {t' : Nat} (I : Inv X pins σ H s) (hv : Vals ys its) (hz : ys.length ≤ sizeLine) :
 Inv X pins σ (upd H s.heap.objs.size (.lst ys)) { s with heap := s.heap.push { cls := .type "list", data := .seq its.toArray }, toks := t' } :=
 I.laid (fun _ _ q => Heap.get?_push_of_some _ q) (Nat.le_refl _) ⟨hz, its, 0, hv, Heap.get?_push_size _ rfl⟩
theorem Inv.fresh (I : Inv X pins σ H s) : H s.heap.objs.size = none := I.hok.fresh (Nat.le_refl _)
theorem Inv.lstM (I : Inv X pins σ H s) (hH : H l = some (.lst xs)) : xs.length ≤ sizeLine ∧ ∃ (its : List Value) (n : Nat), Vals xs its ∧ xs.length = its.length ∧ s.heap.get? l = some { cls := .type "list", data := .seq its.toArray n } := by
 obtain ⟨z, its, n, r, e⟩ := I.hok l _ hH
 exact ⟨z, its, n, r, r.length, e⟩
theorem notLongL {n : Nat} (h : n ≤ sizeLine) : Builtin.List.listTooLong n = false := by
 unfold Builtin.List.listTooLong
 exact decide_eq_false (by omega)
end
section
variable {X : Cx}
def rAppend : V → List V → Hp → VK → Prop := fun x vs H Q => ∃ l xs y, x = .ref l ∧ vs = [y] ∧ H l = some (.lst xs) ∧ xs.length < sizeLine ∧ Q .non (upd H l (.lst (xs ++ [y])))
theorem mt_append : MtM X "list.append" rAppend := by
 intro pins s σ H x vs v us Q I rx rv h
 obtain ⟨l, xs, y, rfl, rfl, hH, hz, q⟩ := h
 cases rx
 obtain ⟨u, rfl, ru⟩ := rv.one
 obtain ⟨z, its, n, r, hl, e⟩ := I.lstM hH
 refine call_meets F.slot_list_append ⟨_, e, rfl⟩ F.entry_list_append (F.args_list_append_2 _ _) (PySem.list_append l its.toArray n u (by rw [List.size_toArray]; omega)) ⟨e, ?_⟩
 refine ⟨.non, _, I.lset (its' := its ++ [u]) hH e (by simp) (r.append (.cons ru .nil)) ?_, rfl, q⟩
 rw [List.length_append, List.length_singleton]
 omega
theorem len_rep {α : Type} (xs : List α) (k : Nat) : (List.replicate k xs).flatten.length = k * xs.length := by
 induction k with
 | zero => simp
 | succ k ih => rw [List.replicate_succ, List.flatten_cons, List.length_append, ih, Nat.succ_mul, Nat.add_comm]
end
end L2
namespace Att
open PySem PySem.W PySem.Calls PyProof.Rows
theorem ints_of_wellAll {P : Params} {h : Heap} : ∀ (ns : List Int) (vs : List Value), WellAll P h vs (ns.map WData.int) → IntsAre vs ns := by
 intro ns
 induction ns with
 | nil =>
   intro vs w
   rw [List.map_nil] at w
   cases w
   exact .nil
 | cons n ns ih =>
   intro vs w
   rw [List.map_cons] at w
   cases w with
   | cons a b =>
     cases a
     exact .cons _ _ (ih _ b)
theorem script_of {l : OpenLaw} {n : Nat} (hn : l.most = some n) {P : Params} {h : Heap} {args : List WData} {vals : List Value}
 (hpre : l.row.toRowW.claim.pre args = true) (hwl : WellAll P h vals args) :
 ∃ a vs ns, vals = [Value.ref a] ∧ args = [WData.list (ns.map WData.int)] ∧ h.get? a = some { cls := .type "list", data := .seq vs.toArray } ∧ IntsAre vs ns ∧ ns.length ≤ n := by
 have hsh : WShape.hasAll [] args [.list .int] = true := (pre_splitW hpre).1
 have hc : l.pre.holds [] { args := args } = true := (pre_splitW hpre).2
 obtain ⟨d, r, rfl, h1, h2⟩ := hasAllW_cons hsh
 obtain rfl := hasAllW_nil h2
 obtain ⟨xs, rfl, h3⟩ := hasW_list h1
 obtain ⟨ns, rfl⟩ := items_int h3
 have hlen : ns.length ≤ n := by
  unfold OpenLaw.pre at hc
  have h4 : (WTm.not (.lt (.lit (.int (n : Int))) (.len (.arg 0)))).holds [] { args := [.list (ns.map .int)] } = true := by
   have h4 := (holds_andW hc).1
   rw [hn] at h4
   exact h4
  have h5 := condW_of h4 (w_not (w_lt w_lit (w_len_list (w_arg rfl))))
  rw [List.length_map] at h5
  refine Nat.le_of_not_lt fun q => ?_
  have q' : (n : Int) < ((ns.length : Nat) : Int) := by omega
  first
   | (rw [decide_eq_true q'] at h5; exact absurd h5 (by decide))
   | (simp at h5; omega)
 cases hwl with
 | cons w1 w2 =>
   cases w2
   cases w1 with
   | list ho hall => exact ⟨_, _, ns, rfl, rfl, ho, ints_of_wellAll ns _ hall, hlen⟩
theorem post_true (l : OpenLaw) (args : List WData) : l.row.toRowW.claim.post args (.bool true) args = true :=
 postW_of (r := l.row.toRowW) (X := (true == true))
  (show WShape.has [] (.bool true) .bool = true by first | rfl | decide | simp [WShape.has, WShape.arms, WShape.armsAll])
  (show (WTm.eq .res (.lit (.bool true))).value [] { args := args, res := some (.bool true), after := args } = some (.bool (true == true)) from w_eq_bool (w_res rfl) w_lit) rfl
theorem attach_call {l : OpenLaw} {n : Nat} {q : Program} {loose : List Str} {XP : (Str → Option Value) → Heap → Prop} {YP : World → Heap → Prop} {d : DefRec}
 (hn : l.most = some n) (hdf : d.params.defaults = [])
 (call : ∀ (w : World) (s₀ s₁ : Shared) (mg mb : Str → Option Value) (fa : Addr) (o : Obj) (pm cd doc : Value) (a : Addr) (vs : List Value) (ns : List Int),
  Ground q loose [] XP w s₀ mg mb s₁.heap → YP w s₁.heap →
  s₁.heap.get? fa = some o → o.data = .func (docDef d.name d.params d.body d.scope pm cd doc) → s₁.heap.CodeRec cd d.name → mg d.name = some (.ref fa) →
  s₁.heap.get? a = some { cls := .type "list", data := .seq vs.toArray } → IntsAre vs ns → ns.length ≤ n → s₁.gens = #[] →
  codeAny (model l.prog w) callerA (.call (.ref fa) ⟨[.ref a], []⟩) (fun r s' => r = .ok (.ret (.bool true)) ∧ OldK s₁.heap s'.heap ∧ s'.os = s₁.os ∧ AllBare s'.gens) s₁) :
 WalkO q loose XP YP l.row.toRowW d [] (fun f vs => PySem.call f vs) := by
 intro w s₀ s₁ mg mb G Y fa o pm cd doc dV kV ho hd hcd hD hmg hg args vals as hpre hlay hrd hwl hlo
 obtain rfl : dV = .none := Dflts.none hD hdf
 obtain rfl : kV = .none := Dflts.noKw hD
 obtain ⟨a, vs, ns, rfl, rfl, hobj, hints, hlen⟩ := script_of hn hpre hwl
 refine enter_call (codeAny_mono (call w s₀ s₁ mg mb fa o pm cd doc a vs ns G Y ho (fd_plain hd) hcd hmg hobj hints hlen hg) fun r s' hq => ?_)
 obtain ⟨rfl, h2, h3, h4⟩ := hq
 exact ⟨.inl ⟨.bool true, .bool true, [], rfl, fun _ => rfl, .bool true, post_true l _, fun _ => ⟨List.Pairwise.nil, fun _ hm => (nomatch hm)⟩⟩, h2, h3, h4⟩
end Att
namespace L2
open PySem PySem.Spec PyProof.Rows
theorem vals_ints : ∀ {vs : List Value} {ns : List Int}, IntsAre vs ns → Vals (ns.map V.int) vs
 | _, _, .nil => .nil
 | _, _, .cons n t h => .cons ⟨t, rfl⟩ (vals_ints h)
def Only (H : Hp) : Prop := ∀ b, H b = none ∨ ∃ o xs, H b = some (.frz o (.lst xs))
theorem law_call {P : Program} {w : World} {K : PySem.W.Frag} {mg mb : Str → Option Value} {CX : CXT} {k : Nat} {fa a : Addr} {fd : FuncData} {x : Str} {sp : Sp} {s₁ : Shared} {vs : List Value} {ns : List Int}
 (KX : K.In s₁.heap) (hns : s₁.heap.Ns mainGlobals mg) (hb : s₁.heap.Ns builtinsNs mb) (hbb : ∀ x : Str, x ≠ "__name__" → mb x = bootBuiltins x) (hlim : s₁.heap.NoLimit) (hg : s₁.gens = #[])
 (ha : s₁.heap.get? a = some { cls := .type "list", data := .seq vs.toArray }) (hi : IntsAre vs ns) (hl : ns.length ≤ sizeLine) (hr : Room k callerA)
 (F : ∀ base : Heap, K.In base → base.Ns mainGlobals mg → FnOk P w K mg base CX k fa fd [x] sp) (hbind : ∀ (s : Shared) (u : Value), BindsTo s fd ⟨[u], []⟩ [(x, u)])
 (hsp : ∀ H : Hp, Only H → SqL K H a (ns.map V.int) → sp [.ref a] H (fun v _ => v = .bl true) fun _ _ _ => False)
 (hCX : ∀ H e s', CX [] H s₁ (fun _ _ _ => False) e s' → False) :
 codeAny (model P w) callerA (.call (.ref fa) ⟨[.ref a], []⟩) (fun r s' => r = .ok (.ret (.bool true)) ∧ OldK s₁.heap s'.heap ∧ s'.os = s₁.os ∧ AllBare s'.gens) s₁ := by
 have rv := vals_ints hi
 have lenV := hi.length
 have core : ∀ H : Hp, Only H → SqL K H a (ns.map V.int) → HOk P w H s₁.heap → (∀ b, H b ≠ none → b = a) → (H a ≠ none → K.lookup a = none) →
  codeAny (model P w) callerA (.call (.ref fa) ⟨[.ref a], []⟩) (fun r s' => r = .ok (.ret (.bool true)) ∧ OldK s₁.heap s'.heap ∧ s'.os = s₁.os ∧ AllBare s'.gens) s₁ := by
  intro H hO hS hok hA hK
  have base_of : ∀ {b : Addr} {o : Obj}, s₁.heap.get? b = some o → H b = none → (hidT s₁.heap H).get? b = some o := fun e n => hidT_get e n
  have noA : ∀ {b : Addr} {o : Obj} {es : Array DictEntry} {ep : Nat}, s₁.heap.get? b = some o → o.data = .dict es ep → H b = none := fun {b o es ep} e d => by
   cases q : H b with
   | none => rfl
   | some u =>
     have e' : b = a := hA b (by rw [q]; simp)
     subst e'
     rw [ha] at e; cases e
     have d' : Data.seq vs.toArray _ = Data.dict es ep := d
     cases d'
  have nsK : ∀ {b : Addr} {m : Str → Option Value}, s₁.heap.Ns b m → (hidT s₁.heap H).Ns b m := fun {b m} ⟨o, es, ep, e, d, r⟩ => ⟨o, es, ep, base_of e (noA e d), d, r⟩
  have hKb : K.In (hidT s₁.heap H) := fun b o e => base_of (KX b o e) (by
   cases q : H b with
   | none => rfl
   | some u =>
     have e' : b = a := hA b (by rw [q]; simp)
     subst e'
     rw [hK (by rw [q]; simp)] at e; cases e)
  have hM : Mod K mg (hidT s₁.heap H) := ⟨hKb, nsK hns, ⟨mb, nsK hb, hbb⟩, let ⟨mc, h1, h2⟩ := hlim; ⟨mc, nsK h1, h2⟩⟩
  have e0 : Env0 P w K mg (hidT s₁.heap H) callerA [] s₁ H := ⟨rfl, hM, fun b o e => of_hidT e, Nat.le_of_eq (hidT_size _ _), trivial, fun b hb => absurd (show b ∈ ([] : List Addr) from hb) (by simp), hok, .of_eq hg⟩
  refine codeAny_mono ((F _ hKb (nsK hns)).run callerA [] s₁ H ⟨[.ref a], []⟩ [.ref a] [.ref a] _ _ hr e0 (hbind s₁ (.ref a)) (.cons rfl .nil) (hsp H hO hS)) fun r s' h => ?_
  cases r with
  | error e => exact (hCX H e s' h).elim
  | ok fl =>
    cases fl with
    | next => exact False.elim h
    | brk => exact False.elim h
    | cont => exact False.elim h
    | ret u =>
      obtain ⟨v, H', os, bare, un, hok', r', q⟩ := h
      have q' : v = .bl true := q
      subst q'
      obtain rfl : u = Value.bool true := r'
      refine ⟨rfl, OldK.of_keep fun b o e => ?_, os, bare⟩
      cases q : H b with
      | none => exact un.keep b o e q (by intro z; exact absurd (show b ∈ ([] : List Addr) from z) (by simp)) (by simp)
      | some u =>
        rcases hO b with z | ⟨ob, xs, z⟩
        · rw [q] at z; cases z
        · have z2 := un.frzs b ob _ z
          obtain ⟨e1, _⟩ := hok b _ z
          obtain ⟨e2, _⟩ := hok' b _ z2
          rw [e] at e1; cases e1
          exact e2
 cases hk : K.lookup a with
 | some o =>
   have e := KX a o hk
   rw [ha] at e
   cases e
   refine core (fun _ => none) (fun _ => .inl rfl) (.inr ⟨_, vs.toArray, _, hk, rfl, rfl, rfl, by rw [List.size_toArray, lenV]; exact hl, by simpa using rv⟩) (fun b u z => by have z' : (none : Option HO) = some u := z; cases z') (fun b z => absurd rfl z) fun z => absurd rfl z
 | none =>
   refine core (fun b => if b = a then some (.frz { cls := .type "list", data := .seq vs.toArray } (.lst (ns.map V.int))) else none) (fun b => ?_) (.inl (.inr ⟨{ cls := .type "list", data := .seq vs.toArray }, if_pos rfl⟩)) (fun b u z => ?_) (fun b z => ?_) fun _ => hk
   · by_cases hb : b = a
     · exact .inr ⟨_, _, if_pos hb⟩
     · exact .inl (if_neg hb)
   · by_cases hb : b = a
     · have z' := (if_pos hb).symm.trans z
       cases z'
       subst hb
       exact ⟨ha, by rw [List.length_map]; exact hl, vs, _, rv, ha⟩
     · have z' := (if_neg hb).symm.trans z
       cases z'
   · by_cases hb : b = a
     · exact hb
     · exact absurd (if_neg hb) z
end L2
namespace L2
open PySem PySem.Spec PyProof.Rows
abbrev KOf {K : PySem.W.Frag} {h : Heap} (_ : K.In h) : PySem.W.Frag := K
theorem walk_of {l : PySem.W.OpenLaw} {n k : Nat} {q : Program} {loose : List Str} {XP : (Str → Option Value) → Heap → Prop} {YP : World → Heap → Prop} {d : DefRec} {K : Params → PySem.W.Frag} {CX : World → CXT} {sp : World → Sp} {x : Str}
 (hn : l.most = some n) (hn2 : n ≤ sizeLine) (hdf : d.params.defaults = []) (hr : Room k callerA)
 (hY : ∀ (w : World) (h : Heap), YP w h → (K w.params).In h)
 (F : ∀ (w : World) (mg : Str → Option Value) (fa : Addr) (h : Heap), (K w.params).In h → h.Ns mainGlobals mg → mg d.name = some (.ref fa) →
  ∃ fd : FuncData, (∀ (s : Shared) (u : Value), BindsTo s fd ⟨[u], []⟩ [(x, u)]) ∧
    ∀ base : Heap, (K w.params).In base → base.Ns mainGlobals mg → FnOk l.prog w (K w.params) mg base (CX w) k fa fd [x] (sp w))
 (hsp : ∀ (w : World) (H : Hp) (a : Addr) (ns : List Int), ns.length ≤ n → Only H → SqL (K w.params) H a (ns.map V.int) → sp w [.ref a] H (fun v _ => v = .bl true) fun _ _ _ => False)
 (hCX : ∀ (w : World) (H : Hp) (s : Shared) (e : Value) (s' : Shared), CX w [] H s (fun _ _ _ => False) e s' → False) :
 PySem.W.WalkO q loose XP YP l.row.toRowW d [] (fun f vs => PySem.call f vs) := by
 refine Att.attach_call hn hdf fun w s₀ s₁ mg mb fa o pm cd doc a vs ns G Y ho hd hcd hmg hobj hints hlen hg => ?_
 have KX := hY w _ Y
 obtain ⟨fd, hb, hF⟩ := F w mg fa _ KX G.T.g hmg
 exact law_call KX G.T.g G.T.b G.T.builtins G.T.nolimit hg hobj hints (Nat.le_trans hlen hn2) hr hF hb (fun H hO hS => hsp w H a ns hlen hO hS) fun H e s' => hCX w H s₁ e s'
end L2
namespace L2
open PySem PySem.Spec PyProof.Rows
def defArgs (s : Stmt) : Arguments := match s with
 | .FunctionDef _ a _ _ _ _ _ _ _ _ => a
 | _ => { posonlyargs := [], args := [], vararg := none, kwonlyargs := [], kw_defaults := [], kwarg := none, defaults := [] }
def defBody (s : Stmt) : List Stmt := match s with
 | .FunctionDef _ _ b _ _ _ _ _ _ _ => b
 | _ => []
def defScope (s : Stmt) : Scope := match s with
 | .FunctionDef _ _ _ _ _ _ sc _ _ _ => sc
 | _ => { kind := .function, names := [], isGenerator := false, isCoroutine := false }
abbrev CX0 : CXT := fun _ _ _ _ _ _ => False
abbrev E0 : XK := fun _ _ _ => False
theorem pass0 {X : Cx} : Passes CX0 X E0 := fun _ _ _ _ _ _ _ h => h.elim
structure Fun (K : PySem.W.Frag) (x qual : Str) (st : Stmt) (f : Addr) (fd : FuncData) : Prop where
 ex : ∃ (oc : Value) (od : Option Addr) (kV doc pm : Value) (an : Option Addr) (cdv ct : Value) (osl : Array (Option Value)),
  fd = PySem.W.fnOf x qual (defArgs st) (defBody st) (defScope st) .none kV doc pm an cdv ct ∧ K.lookup f = some ⟨oc, od, .func fd, osl⟩ ∧ PySem.W.codeIn K cdv qual = true
 kp : PySem.W.keepIn K (.ref f) = true
section
variable {P : Program} {w : World} {K : PySem.W.Frag} {mg : Str → Option Value} {base : Heap}
theorem Fun.ok {x qual : Str} {st : Stmt} {f : Addr} {fd : FuncData} {N ps : List Str} {k : Nat} {sp : Sp} (F : Fun K x qual st f fd) (S : FnScope N ps (defScope st)) (len : ∀ vs H Q E, sp vs H Q E → vs.length = ps.length)
 (hbody : ∀ (cdv : Value) (A : Around) (outer : List Env) (s : Shared) (H : Hp) (vs : List V) (Q : VK) (E : XK), Room k (A.deeper (envOfC qual (defScope st) s.heap.objs.size f cdv)) → sp vs H Q E →
  ∃ t, PSs (cxOf CX0 P w K mg base N qual (defScope st) f cdv A outer s H E).nox (defBody st) t ∧ t { nx := fun _ H' => Q .non H', rt := Q } (start N vs) H) : FnOk P w K mg base CX0 (k + 1) f fd ps sp := by
 obtain ⟨oc, od, kV, doc, pm, an, cdv, ct, osl, rfl, lk, hcd⟩ := F.ex
 refine fn_of lk hcd S len fun A outer s H vs Q E hr hsp => ?_
 obtain ⟨t, h, q⟩ := hbody cdv A outer s H vs Q E hr hsp
 exact ⟨t, h.nox, q⟩
theorem Fun.binds {x qual : Str} {st : Stmt} {f : Addr} {fd : FuncData} {ps : List Str} (F : Fun K x qual st f fd)
 (h : ∀ (kV doc pm : Value) (an : Option Addr) (cdv ct : Value) (us : List Value), us.length = ps.length → bindArgs (PySem.W.fnOf x qual (defArgs st) (defBody st) (defScope st) .none kV doc pm an cdv ct) ⟨us, []⟩ = pure (ps.zip us)) : Binds K fd ps [] := by
 obtain ⟨oc, od, kV, doc, pm, an, cdv, ct, osl, rfl, lk, hcd⟩ := F.ex
 exact .all (h kV doc pm an cdv ct)
theorem fun_mk {x qual : Str} {st : Stmt} {f : Addr} {oc : Value} {od an : Option Addr} {osl : Array (Option Value)} {kV doc pm cdv ct : Value} (l : K.lookup f = some ⟨oc, od, .func (PySem.W.fnOf x qual (defArgs st) (defBody st) (defScope st) .none kV doc pm an cdv ct), osl⟩)
 (c : PySem.W.codeIn K cdv qual = true) (k : PySem.W.keepIn K (.ref f) = true) : Fun K x qual st f (PySem.W.fnOf x qual (defArgs st) (defBody st) (defScope st) .none kV doc pm an cdv ct) := ⟨⟨oc, od, kV, doc, pm, an, cdv, ct, osl, rfl, l, c⟩, k⟩
end
def Same (H H' : Hp) : Prop := ∀ b o, H b = some o → H' b = some o
theorem Same.refl (H : Hp) : Same H H := fun _ _ h => h
end L2
set_option maxHeartbeats 4000000
namespace DL
open PySem PySem.Spec L2
open PyProof.Rows
abbrev St := L2.St
inductive D where
 | non | bl (b : Bool) | int (i : Int) | str (x : Str) | tup (ds : List D) | lst (ds : List D) | loc (k : Nat) | dic
abbrev Store := List (List D)
abbrev Gam := List (Option D)
structure Own where
 A : List Addr
 B : List Addr
abbrev Own.has (O : Own) (a : Addr) : Prop := a ∈ O.A ∨ a ∈ O.B
def Tp (K : PySem.W.Frag) (O : Own) (H : Hp) (a : Addr) (xs : List V) : Prop := (¬ O.has a ∧ Rd H a (.tup xs)) ∨ SqT K (fun _ => none) a xs
def Ls (K : PySem.W.Frag) (O : Own) (H : Hp) (a : Addr) (xs : List V) : Prop := (¬ O.has a ∧ Rd H a (.lst xs)) ∨ SqL K (fun _ => none) a xs
theorem Tp.sq {K : PySem.W.Frag} {O : Own} {H : Hp} {a : Addr} {xs : List V} (h : Tp K O H a xs) : SqT K H a xs := by
 rcases h with ⟨_, h⟩ | (h | h)
 · exact .inl h
 · rcases h with h | ⟨_, h⟩ <;> cases h
 · exact .inr h
theorem Ls.sq {K : PySem.W.Frag} {O : Own} {H : Hp} {a : Addr} {xs : List V} (h : Ls K O H a xs) : SqL K H a xs := by
 rcases h with ⟨_, h⟩ | (h | h)
 · exact .inl h
 · rcases h with h | ⟨_, h⟩ <;> cases h
 · exact .inr h
mutual
inductive Rep (K : PySem.W.Frag) (O : Own) (H : Hp) : V → D → Prop
 | non : Rep K O H .non .non
 | bl (b : Bool) : Rep K O H (.bl b) (.bl b)
 | int (i : Int) : Rep K O H (.int i) (.int i)
 | str (x : Str) : Rep K O H (.str x) (.str x)
 | tup {a : Addr} {xs : List V} {ds : List D} (h : Tp K O H a xs) (r : Reps K O H xs ds) : Rep K O H (.ref a) (.tup ds)
 | lst {a : Addr} {xs : List V} {ds : List D} (h : Ls K O H a xs) (r : Reps K O H xs ds) : Rep K O H (.ref a) (.lst ds)
 | loc {a : Addr} {k : Nat} (h : O.A[k]? = some a) : Rep K O H (.ref a) (.loc k)
 | dic {a : Addr} (h : ¬ O.has a) (e : H a = some (.dK [])) : Rep K O H (.ref a) .dic
inductive Reps (K : PySem.W.Frag) (O : Own) (H : Hp) : List V → List D → Prop
 | nil : Reps K O H [] []
 | cons {v : V} {d : D} {vs : List V} {ds : List D} (r : Rep K O H v d) (t : Reps K O H vs ds) : Reps K O H (v :: vs) (d :: ds)
end
structure Step (O O' : Own) (H H' : Hp) : Prop where
 kept : ∀ b o, b ∉ O.A → H b = some o → H' b = some o
 dom : ∀ b, H b ≠ none → H' b ≠ none
 ext : ∃ N, O'.A = O.A ++ N ∧ ∀ b ∈ N, H b = none
 hid : O'.B = O.B
theorem Step.refl (O : Own) (H : Hp) : Step O O H H := ⟨fun _ _ _ h => h, fun _ h => h, ⟨[], by simp, fun _ h => nomatch h⟩, rfl⟩
theorem Step.trans {O O1 O2 : Own} {H H1 H2 : Hp} (a : Step O O1 H H1) (b : Step O1 O2 H1 H2) : Step O O2 H H2 := by
 obtain ⟨N1, e1, f1⟩ := a.ext
 obtain ⟨N2, e2, f2⟩ := b.ext
 refine ⟨fun c o hc h => b.kept c o (fun z => ?_) (a.kept c o hc h), fun c h => b.dom c (a.dom c h), ⟨N1 ++ N2, by rw [e2, e1, List.append_assoc], fun c hc => ?_⟩, b.hid.trans a.hid⟩
 · rw [e1] at z
   rcases List.mem_append.mp z with z | z
   · exact hc z
   · rw [f1 c z] at h; cases h
 · rcases List.mem_append.mp hc with z | z
   · exact f1 c z
   · cases q : H c with
     | none => rfl
     | some o => exact absurd (f2 c z) (a.dom c (by rw [q]; simp))
theorem Step.nothas {O O' : Own} {H H' : Hp} (s : Step O O' H H') {a : Addr} (h : ¬ O.has a) (t : H a ≠ none) : ¬ O'.has a := by
 obtain ⟨N, e, f⟩ := s.ext
 rintro (z | z)
 · rw [e] at z
   rcases List.mem_append.mp z with z | z
   · exact h (.inl z)
   · exact t (f a z)
 · rw [s.hid] at z; exact h (.inr z)
structure Conv (O O' : Own) (H H' : Hp) : Prop where
 tr : ∀ a u, ¬ O.has a → H a = some u → ¬ O'.has a ∧ H' a = some u
 lc : ∀ (k : Nat) a, O.A[k]? = some a → O'.A[k]? = some a
theorem Step.conv {O O' : Own} {H H' : Hp} (s : Step O O' H H') : Conv O O' H H' :=
 ⟨fun a u h t => ⟨s.nothas h (by rw [t]; simp), s.kept a u (fun z => h (.inl z)) t⟩, fun k a h => by
  obtain ⟨N, e, _⟩ := s.ext
  rw [e, List.getElem?_append_left (List.getElem?_eq_some_iff.mp h).1]; exact h⟩
theorem Rd.conv {O O' : Own} {H H' : Hp} (s : Conv O O' H H') {a : Addr} {u : HO} (h : ¬ O.has a) (r : Rd H a u) : ¬ O'.has a ∧ Rd H' a u := by
 rcases r with r | ⟨o, r⟩
 · obtain ⟨x, y⟩ := s.tr a _ h r
   exact ⟨x, .inl y⟩
 · obtain ⟨x, y⟩ := s.tr a _ h r
   exact ⟨x, .inr ⟨o, y⟩⟩
theorem Tp.conv {K : PySem.W.Frag} {O O' : Own} {H H' : Hp} {a : Addr} {xs : List V} (h : Tp K O H a xs) (s : Conv O O' H H') : Tp K O' H' a xs := by
 rcases h with ⟨n, r⟩ | h
 · exact .inl (Rd.conv s n r)
 · exact .inr h
theorem Ls.conv {K : PySem.W.Frag} {O O' : Own} {H H' : Hp} {a : Addr} {xs : List V} (h : Ls K O H a xs) (s : Conv O O' H H') : Ls K O' H' a xs := by
 rcases h with ⟨n, r⟩ | h
 · exact .inl (Rd.conv s n r)
 · exact .inr h
mutual
theorem Rep.conv {K : PySem.W.Frag} {O O' : Own} {H H' : Hp} (s : Conv O O' H H') : ∀ {v : V} {d : D}, Rep K O H v d → Rep K O' H' v d
 | _, _, .non => .non
 | _, _, .bl b => .bl b
 | _, _, .int i => .int i
 | _, _, .str x => .str x
 | _, _, .tup h r => .tup (h.conv s) (Reps.conv s r)
 | _, _, .lst h r => .lst (h.conv s) (Reps.conv s r)
 | _, _, .loc h => .loc (s.lc _ _ h)
 | _, _, .dic h e => .dic (s.tr _ _ h e).1 (s.tr _ _ h e).2
theorem Reps.conv {K : PySem.W.Frag} {O O' : Own} {H H' : Hp} (s : Conv O O' H H') : ∀ {vs : List V} {ds : List D}, Reps K O H vs ds → Reps K O' H' vs ds
 | _, _, .nil => .nil
 | _, _, .cons r t => .cons (Rep.conv s r) (Reps.conv s t)
end
theorem Rep.mono {K : PySem.W.Frag} {O O' : Own} {H H' : Hp} {v : V} {d : D} (h : Rep K O H v d) (s : Step O O' H H') : Rep K O' H' v d := h.conv s.conv
theorem Reps.mono {K : PySem.W.Frag} {O O' : Own} {H H' : Hp} {v : List V} {d : List D} (h : Reps K O H v d) (s : Step O O' H H') : Reps K O' H' v d := h.conv s.conv
abbrev Own.hide (O : Own) (p : Addr) : Own := ⟨O.A, p :: O.B⟩
theorem Conv.hide {O : Own} {H : Hp} {p : Addr} (h : H p = none) (o : HO) : Conv O (O.hide p) H (upd H p o) :=
 ⟨fun a u n t => by
  have ne : a ≠ p := ne_of_none t h
  refine ⟨fun z => ?_, by rw [upd_ne ne]; exact t⟩
  rcases z with z | z
  · exact n (.inl z)
  · rcases List.mem_cons.mp z with z | z
    · exact ne z
    · exact n (.inr z), fun _ _ h => h⟩
theorem Conv.unhide {A B : List Addr} {H : Hp} {p : Addr} : Conv ⟨A, p :: B⟩ ⟨A, B⟩ H H :=
 ⟨fun a u n t => ⟨fun z => n (z.elim .inl fun z => .inr (List.mem_cons_of_mem _ z)), t⟩, fun _ _ h => h⟩
theorem Conv.updHid {O : Own} {H : Hp} {p : Addr} (h : p ∈ O.B) (o : HO) : Conv O O H (upd H p o) :=
 ⟨fun a u n t => ⟨n, by rw [upd_ne (fun e => n (.inr (by rw [e]; exact h)))]; exact t⟩, fun _ _ h => h⟩
theorem Reps.length {K : PySem.W.Frag} {O : Own} {H : Hp} : ∀ {vs : List V} {ds : List D}, Reps K O H vs ds → vs.length = ds.length
 | _, _, .nil => rfl
 | _, _, .cons _ t => by simp [Reps.length t]
theorem Reps.get {K : PySem.W.Frag} {O : Own} {H : Hp} : ∀ {vs : List V} {ds : List D} {i : Nat} {d : D}, Reps K O H vs ds → ds[i]? = some d → ∃ v, vs[i]? = some v ∧ Rep K O H v d
 | _, _, _, _, .nil, e => by simp at e
 | _, _, 0, _, .cons r _, e => by simp at e; subst e; exact ⟨_, rfl, r⟩
 | _, _, i + 1, d, .cons _ t, e => by
   obtain ⟨v, h1, h2⟩ := Reps.get (i := i) (d := d) t (by simpa using e)
   exact ⟨v, by simpa using h1, h2⟩
theorem Reps.append {K : PySem.W.Frag} {O : Own} {H : Hp} : ∀ {vs ws : List V} {ds es : List D}, Reps K O H vs ds → Reps K O H ws es → Reps K O H (vs ++ ws) (ds ++ es)
 | _, _, _, _, .nil, s => s
 | _, _, _, _, .cons r t, s => .cons r (Reps.append t s)
theorem Reps.take {K : PySem.W.Frag} {O : Own} {H : Hp} : ∀ {vs : List V} {ds : List D} (n : Nat), Reps K O H vs ds → Reps K O H (vs.take n) (ds.take n)
 | _, _, 0, _ => .nil
 | _, _, _ + 1, .nil => .nil
 | _, _, n + 1, .cons r t => .cons r (Reps.take n t)
theorem Reps.drop {K : PySem.W.Frag} {O : Own} {H : Hp} : ∀ {vs : List V} {ds : List D} (n : Nat), Reps K O H vs ds → Reps K O H (vs.drop n) (ds.drop n)
 | _, _, 0, r => r
 | _, _, _ + 1, .nil => .nil
 | _, _, n + 1, .cons _ t => Reps.drop n t
theorem Reps.set {K : PySem.W.Frag} {O : Own} {H : Hp} {v : V} {d : D} (r : Rep K O H v d) : ∀ {vs : List V} {ds : List D} (i : Nat), Reps K O H vs ds → Reps K O H (vs.set i v) (ds.set i d)
 | _, _, _, .nil => .nil
 | _, _, 0, .cons _ t => .cons r t
 | _, _, i + 1, .cons q t => .cons q (Reps.set r i t)
theorem Reps.ints {K : PySem.W.Frag} {O : Own} {H : Hp} : ∀ {vs : List V} {ns : List Int}, Reps K O H vs (ns.map D.int) → vs = ns.map V.int
 | _, [], .nil => rfl
 | _, _ :: _, .cons r t => by cases r; simp [Reps.ints t]
theorem Reps.of_ints {K : PySem.W.Frag} {O : Own} {H : Hp} : ∀ ns : List Int, Reps K O H (ns.map V.int) (ns.map D.int)
 | [] => .nil
 | n :: ns => .cons (.int n) (Reps.of_ints ns)
theorem Reps.bools {K : PySem.W.Frag} {O : Own} {H : Hp} : ∀ {vs : List V} {ns : List Bool}, Reps K O H vs (ns.map D.bl) → vs = ns.map V.bl
 | _, [], .nil => rfl
 | _, _ :: _, .cons r t => by cases r; simp [Reps.bools t]
structure StOk (K : PySem.W.Frag) (O : Own) (H : Hp) (S : Store) : Prop where
 nd : O.A.Nodup
 len : O.A.length = S.length
 obj : ∀ (k : Nat) (a : Addr) (ds : List D), O.A[k]? = some a → S[k]? = some ds → ∃ xs, H a = some (.lst xs) ∧ Reps K O H xs ds
 apart : ∀ a ∈ O.A, a ∉ O.B
 hidden : ∀ b ∈ O.B, H b ≠ none
structure EnvOk (K : PySem.W.Frag) (O : Own) (H : Hp) (σ : St) (Γ : Gam) : Prop where
 len : σ.length = Γ.length
 at_ : ∀ (i : Nat) (d : D), Γ[i]? = some (some d) → ∃ v, σ[i]? = some (some v) ∧ Rep K O H v d
theorem EnvOk.mono {K : PySem.W.Frag} {O O' : Own} {H H' : Hp} {σ : St} {Γ : Gam} (e : EnvOk K O H σ Γ) (s : Step O O' H H') : EnvOk K O' H' σ Γ :=
 ⟨e.len, fun i d h => let ⟨v, a, b⟩ := e.at_ i d h; ⟨v, a, b.mono s⟩⟩
theorem EnvOk.set {K : PySem.W.Frag} {O : Own} {H : Hp} {σ : St} {Γ : Gam} (e : EnvOk K O H σ Γ) {v : V} {d : D} (r : Rep K O H v d) (i : Nat) : EnvOk K O H (σ.set i (some v)) (Γ.set i (some d)) := by
 refine ⟨by simp [e.len], fun j c h => ?_⟩
 by_cases hj : i = j
 · subst hj
   have hl : i < Γ.length := by
    have := (List.getElem?_eq_some_iff.mp h).1
    simpa using this
   rw [List.getElem?_set_self hl] at h
   cases h
   exact ⟨v, List.getElem?_set_self (by rw [e.len]; exact hl), r⟩
 · rw [List.getElem?_set_ne hj] at h
   rw [List.getElem?_set_ne hj]
   exact e.at_ j c h
theorem StOk.tracked {K : PySem.W.Frag} {O : Own} {H : Hp} {S : Store} (s : StOk K O H S) {a : Addr} (h : O.has a) : H a ≠ none := by
 rcases h with h | h
 · obtain ⟨k, hk, e⟩ := List.mem_iff_getElem.mp h
   have hl : k < S.length := by rw [← s.len]; exact hk
   obtain ⟨xs, q, _⟩ := s.obj k a S[k] (by rw [List.getElem?_eq_getElem hk, e]) (List.getElem?_eq_getElem hl)
   rw [q]; simp
 · exact s.hidden a h
theorem Step.fresh {O : Own} {H : Hp} {p : Addr} (h : H p = none) (o : HO) : Step O O H (upd H p o) :=
 ⟨fun b u _ q => by rw [upd_ne (ne_of_none q h)]; exact q, fun b q => by
  by_cases e : b = p
  · subst e; rw [upd_same]; simp
  · rw [upd_ne e]; exact q, ⟨[], by simp, fun _ z => nomatch z⟩, rfl⟩
theorem Step.same {O : Own} {H H' : Hp} (h : Same H H') : Step O O H H' :=
 ⟨fun b o _ q => h b o q, fun b q => by
  cases e : H b with
  | none => exact absurd e q
  | some o => rw [h b o e]; simp, ⟨[], by simp, fun _ z => nomatch z⟩, rfl⟩
theorem Same.fresh {H : Hp} {p : Addr} (h : H p = none) (o : HO) : Same H (upd H p o) := fun b u q => by rw [upd_ne (ne_of_none q h)]; exact q
theorem StOk.same {K : PySem.W.Frag} {O : Own} {H H' : Hp} {S : Store} (s : StOk K O H S) (h : Same H H') : StOk K O H' S :=
 ⟨s.nd, s.len, fun k a ds e1 e2 => let ⟨xs, q, r⟩ := s.obj k a ds e1 e2; ⟨xs, h _ _ q, r.mono (Step.same h)⟩, s.apart, fun b hb => (Step.same (O := O) h).dom b (s.hidden b hb)⟩
theorem StOk.fresh_not {K : PySem.W.Frag} {O : Own} {H : Hp} {S : Store} (s : StOk K O H S) {p : Addr} (h : H p = none) : ¬ O.has p := fun z => s.tracked z h
theorem StOk.fresh {K : PySem.W.Frag} {O : Own} {H : Hp} {S : Store} (s : StOk K O H S) {p : Addr} (h : H p = none) (o : HO) : StOk K O (upd H p o) S := s.same (Same.fresh h o)
abbrev Own.more (O : Own) (p : Addr) : Own := ⟨O.A ++ [p], O.B⟩
theorem Step.own {O : Own} {H : Hp} {p : Addr} (h : H p = none) (o : HO) : Step O (O.more p) H (upd H p o) :=
 ⟨(Step.fresh (O := O) h o).kept, (Step.fresh (O := O) h o).dom, ⟨[p], rfl, fun b z => by rw [List.mem_singleton.mp z]; exact h⟩, rfl⟩
theorem StOk.own {K : PySem.W.Frag} {O : Own} {H : Hp} {S : Store} (s : StOk K O H S) {p : Addr} (h : H p = none) {xs : List V} {ds : List D} (r : Reps K O H xs ds) :
 StOk K (O.more p) (upd H p (.lst xs)) (S ++ [ds]) := by
 have st := Step.own (O := O) h (.lst xs)
 have np := s.fresh_not h
 refine ⟨List.nodup_append.mpr ⟨s.nd, by simp, fun a ha b hb e => ?_⟩, by simp [s.len], fun k a es e1 e2 => ?_, fun a ha => ?_, fun b hb => st.dom b (s.hidden b hb)⟩
 · rw [List.mem_singleton.mp hb] at e; rw [e] at ha; exact np (.inl ha)
 · by_cases hk : k < O.A.length
   · rw [List.getElem?_append_left hk] at e1
     rw [List.getElem?_append_left (by rw [← s.len]; exact hk)] at e2
     obtain ⟨ys, q, r'⟩ := s.obj k a es e1 e2
     exact ⟨ys, by rw [upd_ne (ne_of_none q h)]; exact q, r'.mono st⟩
   · rw [List.getElem?_append_right (by omega)] at e1
     rw [List.getElem?_append_right (by rw [← s.len]; omega)] at e2
     have hk0 : k - O.A.length = 0 := by
      have := (List.getElem?_eq_some_iff.mp e1).1
      simp at this; omega
     rw [hk0] at e1
     rw [← s.len, hk0] at e2
     simp at e1 e2
     subst e1; subst e2
     exact ⟨xs, upd_same, r.mono st⟩
 · rcases List.mem_append.mp ha with z | z
   · exact s.apart a z
   · rw [List.mem_singleton.mp z]; exact fun q => np (.inr q)
theorem Step.put {O : Own} {H : Hp} {a : Addr} (h : a ∈ O.A) (o : HO) : Step O O H (upd H a o) :=
 ⟨fun b u hb q => by rw [upd_ne (fun e => hb (by rw [e]; exact h))]; exact q, fun b q => by
  by_cases e : b = a
  · subst e; rw [upd_same]; simp
  · rw [upd_ne e]; exact q, ⟨[], by simp, fun _ z => nomatch z⟩, rfl⟩
theorem StOk.put {K : PySem.W.Frag} {O : Own} {H : Hp} {S : Store} (s : StOk K O H S) {k : Nat} {a : Addr} (h : O.A[k]? = some a) {xs : List V} {ds : List D} (r : Reps K O H xs ds) :
 StOk K O (upd H a (.lst xs)) (S.set k ds) := by
 have st := Step.put (O := O) (H := H) (List.mem_of_getElem? h) (.lst xs)
 refine ⟨s.nd, by simp [s.len], fun j b es e1 e2 => ?_, s.apart, fun b hb => st.dom b (s.hidden b hb)⟩
 by_cases hj : k = j
 · subst hj
   rw [h] at e1; cases e1
   have hl := (List.getElem?_eq_some_iff.mp e2).1
   rw [List.getElem?_set_self (by simpa using hl)] at e2
   cases e2
   exact ⟨xs, upd_same, r.mono st⟩
 · rw [List.getElem?_set_ne hj] at e2
   obtain ⟨ys, q, r'⟩ := s.obj j b es e1 e2
   have ne : b ≠ a := fun e => hj (by
    obtain ⟨h1, e1'⟩ := List.getElem?_eq_some_iff.mp h
    obtain ⟨h2, e2'⟩ := List.getElem?_eq_some_iff.mp e1
    exact (List.getElem_inj s.nd).mp (e1'.trans (e.symm.trans e2'.symm)))
   exact ⟨ys, by rw [upd_ne ne]; exact q, r'.mono st⟩
theorem StOk.hide {K : PySem.W.Frag} {O : Own} {H : Hp} {S : Store} (s : StOk K O H S) {p : Addr} (h : H p = none) (o : HO) : StOk K (O.hide p) (upd H p o) S := by
 have st := Step.fresh (O := O) h o
 refine ⟨s.nd, s.len, fun k a ds e1 e2 => ?_, fun a ha z => ?_, fun b hb => ?_⟩
 · obtain ⟨xs, q, r⟩ := s.obj k a ds e1 e2
   exact ⟨xs, by rw [upd_ne (ne_of_none q h)]; exact q, r.conv (Conv.hide h o)⟩
 · rcases List.mem_cons.mp z with z | z
   · exact s.tracked (.inl ha) (z ▸ h)
   · exact s.apart a ha z
 · rcases List.mem_cons.mp hb with z | z
   · subst z; rw [upd_same]; simp
   · exact st.dom b (s.hidden b z)
theorem StOk.unhide {K : PySem.W.Frag} {A B : List Addr} {H : Hp} {S : Store} {p : Addr} (s : StOk K ⟨A, p :: B⟩ H S) : StOk K ⟨A, B⟩ H S :=
 ⟨s.nd, s.len, fun k a ds e1 e2 => let ⟨xs, q, r⟩ := s.obj k a ds e1 e2; ⟨xs, q, r.conv Conv.unhide⟩, fun a ha z => s.apart a ha (List.mem_cons_of_mem _ z), fun b hb => s.hidden b (List.mem_cons_of_mem _ hb)⟩
theorem StOk.updHid {K : PySem.W.Frag} {O : Own} {H : Hp} {S : Store} (s : StOk K O H S) {p : Addr} (h : p ∈ O.B) (o : HO) : StOk K O (upd H p o) S :=
 ⟨s.nd, s.len, fun k a ds e1 e2 => by
  obtain ⟨xs, q, r⟩ := s.obj k a ds e1 e2
  have ne : a ≠ p := fun e => s.apart a (List.mem_of_getElem? e1) (e ▸ h)
  exact ⟨xs, by rw [upd_ne ne]; exact q, r.conv (Conv.updHid h o)⟩, s.apart, fun b hb => by
  by_cases e : b = p
  · subst e; rw [upd_same]; simp
  · rw [upd_ne e]; exact s.hidden b hb⟩
theorem Step.adopt {O : Own} {A : List Addr} {H H' : Hp} {p : Addr} (s : Step O ⟨A, O.B⟩ H H') (h : H p = none) : Step O ⟨A ++ [p], O.B⟩ H H' := by
 obtain ⟨N, e, f⟩ := s.ext
 refine ⟨s.kept, s.dom, ⟨N ++ [p], ?_, fun b hb => ?_⟩, rfl⟩
 · show A ++ [p] = _
   rw [show A = O.A ++ N from e, List.append_assoc]
 · rcases List.mem_append.mp hb with z | z
   · exact f b z
   · rw [List.mem_singleton.mp z]; exact h
theorem Conv.adopt {A B : List Addr} {H : Hp} {p : Addr} : Conv ⟨A, p :: B⟩ ⟨A ++ [p], B⟩ H H :=
 ⟨fun a u n t => ⟨fun z => n (z.elim (fun z => (List.mem_append.mp z).elim .inl fun z => .inr (by rw [List.mem_singleton.mp z]; exact List.mem_cons_self)) fun z => .inr (List.mem_cons_of_mem _ z)), t⟩,
  fun k a h => by
   show (A ++ [p])[k]? = some a
   rw [List.getElem?_append_left (List.getElem?_eq_some_iff.mp h).1]; exact h⟩
theorem StOk.adopt {K : PySem.W.Frag} {A B : List Addr} {H : Hp} {S : Store} {p : Addr} {xs : List V} {ds : List D} (s : StOk K ⟨A, p :: B⟩ H S) (hp : p ∉ B) (h : H p = some (.lst xs)) (r : Reps K ⟨A, p :: B⟩ H xs ds) : StOk K ⟨A ++ [p], B⟩ H (S ++ [ds]) := by
 have np : p ∉ A := fun z => s.apart p z List.mem_cons_self
 have sl : A.length = S.length := s.len
 refine ⟨List.nodup_append.mpr ⟨s.nd, by simp, fun a ha b hb e => ?_⟩, by simp [sl], fun k a es e1 e2 => ?_, fun a ha => ?_, fun b hb => s.hidden b (List.mem_cons_of_mem _ hb)⟩
 · rw [List.mem_singleton.mp hb] at e; rw [e] at ha; exact np ha
 · have e1 : (A ++ [p])[k]? = some a := e1
   by_cases hk : k < A.length
   · rw [List.getElem?_append_left hk] at e1
     rw [List.getElem?_append_left (by omega)] at e2
     obtain ⟨ys, q, r'⟩ := s.obj k a es e1 e2
     exact ⟨ys, q, r'.conv Conv.adopt⟩
   · rw [List.getElem?_append_right (by omega)] at e1
     rw [List.getElem?_append_right (by omega)] at e2
     have hk0 : k - A.length = 0 := by
      have := (List.getElem?_eq_some_iff.mp e1).1
      simp at this; omega
     rw [hk0] at e1
     rw [← sl, hk0] at e2
     simp at e1 e2
     subst e1; subst e2
     exact ⟨xs, h, r.conv Conv.adopt⟩
 · rcases List.mem_append.mp ha with z | z
   · exact fun q => s.apart a z (List.mem_cons_of_mem _ q)
   · rw [List.mem_singleton.mp z]; exact hp
theorem Step.inner {O : Own} {A1 A2 B : List Addr} {H H1 H2 : Hp} {p : Addr} (a : Step O ⟨A1, B⟩ H H1) (b : Step ⟨A1, p :: B⟩ ⟨A2, p :: B⟩ H1 H2) (h : H p = none) (o : HO) : Step O ⟨A2, B⟩ H (upd H2 p o) := by
 have b' : Step ⟨A1, B⟩ ⟨A2, B⟩ H1 H2 := ⟨b.kept, b.dom, b.ext, rfl⟩
 have c := a.trans b'
 refine ⟨fun x u hx t => ?_, fun x t => ?_, c.ext, c.hid⟩
 · rw [upd_ne (ne_of_none t h)]; exact c.kept x u hx t
 · by_cases e : x = p
   · subst e; rw [upd_same]; simp
   · rw [upd_ne e]; exact c.dom x t
end DL
namespace DL
open PySem PySem.Spec L2
open PyProof.Rows
abbrev Pins := List (Addr × Obj)
abbrev WD := D → Store → Prop
def QG (K : PySem.W.Frag) (O : Own) (H : Hp) (W : WD) : VK := fun v H' => ∃ O' d S', W d S' ∧ Step O O' H H' ∧ StOk K O' H' S' ∧ Rep K O' H' v d
def QA (K : PySem.W.Frag) (O : Own) (H : Hp) (W : List D → Store → Prop) : List V → Hp → Prop := fun vs H' => ∃ O' ds S', W ds S' ∧ Step O O' H H' ∧ StOk K O' H' S' ∧ Reps K O' H' vs ds
def QT (K : PySem.W.Frag) (O : Own) (H : Hp) (W : Bool → Store → Prop) : Bool → Hp → Prop := fun b H' => ∃ O' S', W b S' ∧ Step O O' H H' ∧ StOk K O' H' S'
def Ev (X : Cx) (Γ : Gam) (S : Store) (e : Expr) (W : WD) : Prop :=
 ∀ (pins : Pins) (s : Shared) (σ : St) (H : Hp) (O : Own), Inv X pins σ H s → EnvOk X.K O H σ Γ → StOk X.K O H S →
   wpAny (model X.prog X.w) X.A (eval e X.env) (EP X pins σ (QG X.K O H W)) X.xe s
def EvA (X : Cx) (Γ : Gam) (S : Store) (es : List Expr) (W : List D → Store → Prop) : Prop :=
 ∀ (pos : Pos) (pins : Pins) (s : Shared) (σ : St) (H : Hp) (O : Own), Inv X pins σ H s → EnvOk X.K O H σ Γ → StOk X.K O H S →
   wpAny (model X.prog X.w) X.A (spliced (backTo pos (starEach es X.env))) (AP X pins σ (QA X.K O H W)) X.xe s
def TsW (X : Cx) (Γ : Gam) (S : Store) (e : Expr) (W : Bool → Store → Prop) : Prop :=
 ∀ (whole : Sem Value) (pins : Pins) (s : Shared) (σ : St) (H : Hp) (O : Own), Inv X pins σ H s → EnvOk X.K O H σ Γ → StOk X.K O H S →
   wpAny (model X.prog X.w) X.A (isTrue e X.env whole) (TP X pins σ (QT X.K O H W)) X.xe s
def Ts (X : Cx) (Γ : Gam) (S : Store) (e : Expr) (W : Bool → Store → Prop) : Prop :=
 ∀ (pins : Pins) (s : Shared) (σ : St) (H : Hp) (O : Own), Inv X pins σ H s → EnvOk X.K O H σ Γ → StOk X.K O H S →
   wpAny (model X.prog X.w) X.A (isTrue e X.env (eval e X.env)) (TP X pins σ (QT X.K O H W)) X.xe s
def OpW (X : Cx) (f : Value → Value → Sem Value) (x y : D) (S : Store) (W : WD) : Prop :=
 ∀ (pins : Pins) (s : Shared) (σ : St) (H : Hp) (O : Own) (v w : V) (u u' : Value), Inv X pins σ H s → StOk X.K O H S → Rep X.K O H v x → Rep X.K O H w y → RelV v u → RelV w u' →
   wpAny (model X.prog X.w) X.A (f u u') (EP X pins σ (QG X.K O H W)) X.xe s
def CalW (X : Cx) (f : Value) (ds : List D) (S : Store) (W : WD) : Prop :=
 ∀ (pins : Pins) (s : Shared) (σ : St) (H : Hp) (O : Own) (vs : List V) (us : List Value), Inv X pins σ H s → StOk X.K O H S → Reps X.K O H vs ds → Vals vs us →
   wpAny (model X.prog X.w) X.A (call f us) (EP X pins σ (QG X.K O H W)) X.xe s
abbrev BinW (X : Cx) (op : Operator) := OpW X (binaryOp op)
abbrev CmpW (X : Cx) (op : CmpOp) := OpW X (compareOp op)
section
variable {X : Cx} {Γ : Gam} {S S1 : Store} {W : WD} {a b e : Expr} {es rest : List Expr} {pos : Pos}
theorem QG.pre {K : PySem.W.Frag} {O O1 : Own} {H H1 : Hp} (st : Step O O1 H H1) {v : V} {H' : Hp} (q : QG K O1 H1 W v H') : QG K O H W v H' := by
 obtain ⟨O', d, S', w, s', ok, r⟩ := q
 exact ⟨O', d, S', w, st.trans s', ok, r⟩
theorem EPpre {pins : Pins} {σ : St} {O O1 : Own} {H H1 : Hp} (st : Step O O1 H H1) {u : Value} {s' : Shared} (q : EP X pins σ (QG X.K O1 H1 W) u s') : EP X pins σ (QG X.K O H W) u s' := by
 obtain ⟨v, H', I, r, q⟩ := q
 exact ⟨v, H', I, r, q.pre st⟩
theorem TPpre {pins : Pins} {σ : St} {O O1 : Own} {H H1 : Hp} (st : Step O O1 H H1) {W : Bool → Store → Prop} {u : Bool} {s' : Shared} (q : TP X pins σ (QT X.K O1 H1 W) u s') : TP X pins σ (QT X.K O H W) u s' := by
 obtain ⟨H', I, O', S', w, s2, ok⟩ := q
 exact ⟨H', I, O', S', w, st.trans s2, ok⟩
theorem Ev.mono {W' : WD} (h : Ev X Γ S e W) (k : ∀ d S', W d S' → W' d S') : Ev X Γ S e W' := fun pins s σ H O I env st =>
 thn (h pins s σ H O I env st) fun _ _ ⟨v, H', I', r, O', d, S', w, q⟩ => ⟨v, H', I', r, O', d, S', k d S' w, q⟩
theorem OpW.mono {f : Value → Value → Sem Value} {x y : D} {W' : WD} (h : OpW X f x y S W) (k : ∀ d S', W d S' → W' d S') : OpW X f x y S W' := fun pins s σ H O v w u u' I st r1 r2 r3 r4 =>
 thn (h pins s σ H O v w u u' I st r1 r2 r3 r4) fun _ _ ⟨v, H', I', r, O', d, S', w, q⟩ => ⟨v, H', I', r, O', d, S', k d S' w, q⟩
theorem opW_of {f : Value → Value → Sem Value} {r : R2} {x y : D} (ho : OpR X f r) (h : ∀ O H v w, StOk X.K O H S → Rep X.K O H v x → Rep X.K O H w y → r v w H (QG X.K O H W)) : OpW X f x y S W :=
 fun pins s σ H O v w u u' I st r1 r2 r3 r4 => ho pins s σ H v w u u' _ I r3 r4 (h O H v w st r1 r2)
theorem calW_of {f : Value} {r : List V → Hp → VK → Prop} {ds : List D} (hc : CallR X f r) (h : ∀ O H vs, StOk X.K O H S → Reps X.K O H vs ds → r vs H (QG X.K O H W)) : CalW X f ds S W :=
 fun pins s σ H O vs us I st r1 r2 => hc pins s σ H vs us _ I r2 (h O H vs st r1)
theorem QG.here {K : PySem.W.Frag} {O : Own} {H : Hp} {v : V} {d : D} (w : W d S) (st : StOk K O H S) (r : Rep K O H v d) : QG K O H W v H := ⟨O, d, S, w, Step.refl O H, st, r⟩
theorem ev_var (i : Nat) {x : Str} {d : D} (hΓ : Γ[i]? = some (some d)) (w : W d S) (hN : X.N[i]? = some x := by rfl)
 (hv : Vis X.env.scope x := by first | exact Or.inl rfl | exact Or.inr (Or.inl rfl) | exact Or.inr (Or.inr rfl)) (hd : (x == ("__debug__" : Str)) = false := by decide) (hcd : (x == ("__classdict__" : Str)) = false := by decide) :
 Ev X Γ S (.Name x pos) W := by
 intro pins s σ H O I env st
 obtain ⟨v, e, r⟩ := env.at_ i d hΓ
 exact pe_var hN hv hd hcd pins s σ H _ I ⟨v, e, QG.here w st r⟩
theorem ev_int {i : Int} {j} (w : W (.int i) S) : Ev X Γ S (.Constant (.int i) j pos) W := fun pins s σ H O I _ st => pe_int pins s σ H _ I (QG.here w st (.int i))
theorem ev_bl {i : Bool} {j} (w : W (.bl i) S) : Ev X Γ S (.Constant (.bool i) j pos) W := fun pins s σ H O I _ st => pe_bl pins s σ H _ I (QG.here w st (.bl i))
theorem ev_non {j} (w : W .non S) : Ev X Γ S (.Constant .none j pos) W := fun pins s σ H O I _ st => pe_non pins s σ H _ I (QG.here w st .non)
theorem ev_str {x : Str} {j} (w : W (.str x) S) : Ev X Γ S (.Constant (.str x) j pos) W := fun pins s σ H O I _ st => pe_str pins s σ H _ I (QG.here w st (.str x))
theorem ev_globI {x : Str} {i : Int} {t : Tok} (hm : X.mg x = some (.int i t)) (w : W (.int i) S) (hg : Gl X x := by rfl) (hd : (x == ("__debug__" : Str)) = false := by decide) : Ev X Γ S (.Name x pos) W :=
 fun pins s σ H O I _ st => pe_glob hg hm (v := .int i) ⟨t, rfl⟩ hd pins s σ H _ I (QG.here w st (.int i))
theorem ev_bin {op : Operator} (h : Ev X Γ S a fun x S1 => Ev X Γ S1 b fun y S2 => BinW X op x y S2 W) : Ev X Γ S (.BinOp a op b pos) W := by
 intro pins s σ H O I env st
 refine wpAny_BinOp (thn (h pins s σ H O I env st) fun u s1 hq_ => ?_)
 obtain ⟨v, H1, I1, r1, O1, x, S1, hb, st1, ok1, rep1⟩ := hq_
 refine thn (hb pins s1 σ H1 O1 I1 (env.mono st1) ok1) fun u' s2 hq_ => ?_
 obtain ⟨w, H2, I2, r2, O2, y, S2, hw, st2, ok2, rep2⟩ := hq_
 exact thn (hw pins s2 σ H2 O2 v w u u' I2 ok2 (rep1.mono st2) rep2 r1 r2) fun _ _ q => EPpre (st1.trans st2) q
theorem ev_cmp {op : CmpOp} (h : Ev X Γ S a fun x S1 => Ev X Γ S1 b fun y S2 => CmpW X op x y S2 W) (hm : behindInMarks op b = false := by first | exact nomark _ | (with_unfolding_all rfl)) : Ev X Γ S (.Compare a [op] [b] pos) W := by
 intro pins s σ H O I env st
 refine wpAny_Compare1 (thn (h pins s σ H O I env st) fun u s1 hq_ => ?_) hm
 obtain ⟨v, H1, I1, r1, O1, x, S1, hb, st1, ok1, rep1⟩ := hq_
 refine thn (hb pins s1 σ H1 O1 I1 (env.mono st1) ok1) fun u' s2 hq_ => ?_
 obtain ⟨w, H2, I2, r2, O2, y, S2, hw, st2, ok2, rep2⟩ := hq_
 exact thn (hw pins s2 σ H2 O2 v w u u' I2 ok2 (rep1.mono st2) rep2 r1 r2) fun _ _ q => EPpre (st1.trans st2) q
abbrev asB (W : Bool → Store → Prop) : WD := fun d S => ∃ c, d = .bl c ∧ W c S
theorem ts_cmp {op : CmpOp} {W : Bool → Store → Prop} (h : Ev X Γ S a fun x S1 => Ev X Γ S1 b fun y S2 => CmpW X op x y S2 (asB W)) (hm : behindInMarks op b = false := by first | exact nomark _ | (with_unfolding_all rfl)) : Ts X Γ S (.Compare a [op] [b] pos) W := by
 intro pins s σ H O I env st
 refine wpAny_isTrue_Compare1 (thn (h pins s σ H O I env st) fun u s1 hq_ => ?_) hm
 obtain ⟨v, H1, I1, r1, O1, x, S1, hb, st1, ok1, rep1⟩ := hq_
 refine thn (hb pins s1 σ H1 O1 I1 (env.mono st1) ok1) fun u' s2 hq_ => ?_
 obtain ⟨w, H2, I2, r2, O2, y, S2, hw, st2, ok2, rep2⟩ := hq_
 refine thn (hw pins s2 σ H2 O2 v w u u' I2 ok2 (rep1.mono st2) rep2 r1 r2) fun _ _ hq_ => ?_
 obtain ⟨z, H3, I3, r3, O3, d, S3, ⟨c, hd, wc⟩, st3, ok3, rep3⟩ := hq_
 subst hd
 cases rep3
 cases r3
 exact wpAny_truthy_bool ⟨H3, I3, O3, S3, wc, (st1.trans st2).trans st3, ok3⟩
theorem ts_val {W : Bool → Store → Prop} (h : Ev X Γ S e (asB W)) (he : ∀ whole, isTrue e X.env whole = (do let v ← whole; standAt e.pos; holding [v] (truthy v)) := by intro _; rfl) : Ts X Γ S e W := by
 intro pins s σ H O I env st
 refine isTrue_plain (thn (h pins s σ H O I env st) fun _ _ hq_ => ?_) (he _)
 obtain ⟨z, H3, I3, r3, O3, d, S3, ⟨c, hd, wc⟩, st3, ok3, rep3⟩ := hq_
 subst hd
 cases rep3
 cases r3
 exact wpAny_truthy_bool ⟨H3, I3, O3, S3, wc, st3, ok3⟩
theorem TsW.ts {W : Bool → Store → Prop} (h : TsW X Γ S e W) : Ts X Γ S e W := fun pins s σ H O I env st => h _ pins s σ H O I env st
theorem tw_and1 {W : Bool → Store → Prop} (h : Ts X Γ S a W) : TsW X Γ S (.BoolOp .And [a] pos) W := by
 intro wh pins s σ H O I env st
 refine isTrue_and (thn (h pins s σ H O I env st) fun c s1 e => ?_)
 cases c with
 | true => exact isTrue_and_nil e
 | false => exact e
theorem tw_or1 {W : Bool → Store → Prop} (h : Ts X Γ S a W) : TsW X Γ S (.BoolOp .Or [a] pos) W := by
 intro wh pins s σ H O I env st
 refine isTrue_or (thn (h pins s σ H O I env st) fun c s1 e => ?_)
 cases c with
 | false => exact isTrue_or_nil e
 | true => exact e
theorem tw_and {W : Bool → Store → Prop} (h : Ts X Γ S a fun c S1 => (c = true → TsW X Γ S1 (.BoolOp .And (b :: rest) pos) W) ∧ (c = false → W false S1)) : TsW X Γ S (.BoolOp .And (a :: b :: rest) pos) W := by
 intro wh pins s σ H O I env st
 refine isTrue_and (thn (h pins s σ H O I env st) fun c s1 hq_ => ?_)
 obtain ⟨H1, I1, O1, S1, w1, st1, ok1⟩ := hq_
 cases c with
 | true => exact thn (w1.1 rfl wh pins s1 σ H1 O1 I1 (env.mono st1) ok1) fun _ _ q => TPpre st1 q
 | false => exact ⟨H1, I1, O1, S1, w1.2 rfl, st1, ok1⟩
theorem tw_or {W : Bool → Store → Prop} (h : Ts X Γ S a fun c S1 => (c = true → W true S1) ∧ (c = false → TsW X Γ S1 (.BoolOp .Or (b :: rest) pos) W)) : TsW X Γ S (.BoolOp .Or (a :: b :: rest) pos) W := by
 intro wh pins s σ H O I env st
 refine isTrue_or (thn (h pins s σ H O I env st) fun c s1 hq_ => ?_)
 obtain ⟨H1, I1, O1, S1, w1, st1, ok1⟩ := hq_
 cases c with
 | false => exact thn (w1.2 rfl wh pins s1 σ H1 O1 I1 (env.mono st1) ok1) fun _ _ q => TPpre st1 q
 | true => exact ⟨H1, I1, O1, S1, w1.1 rfl, st1, ok1⟩
theorem ts_not {W : Bool → Store → Prop} (h : Ts X Γ S a fun c S1 => W (!c) S1) : Ts X Γ S (.UnaryOp .Not a pos) W := by
 intro pins s σ H O I env st
 exact isTrue_not (thn (h pins s σ H O I env st) fun c s1 ⟨H1, I1, O1, S1, w1, st1, ok1⟩ => ⟨H1, I1, O1, S1, w1, st1, ok1⟩)
theorem ev_one {op} (h : Ev X Γ S a W) : Ev X Γ S (.BoolOp op [a] pos) W := fun pins s σ H O I env st => BoolOp_one (h pins s σ H O I env st)
theorem ev_and (h : Ev X Γ S a fun x S1 => ∃ c, x = .bl c ∧ (c = true → Ev X Γ S1 (.BoolOp .And (b :: rest) pos) W) ∧ (c = false → W (.bl false) S1)) : Ev X Γ S (.BoolOp .And (a :: b :: rest) pos) W := by
 intro pins s σ H O I env st
 refine BoolOp_and (thn (h pins s σ H O I env st) fun u s1 hq_ => ?_)
 obtain ⟨v, H1, I1, r1, O1, x, S1, ⟨c, hx, h1, h2⟩, st1, ok1, rep1⟩ := hq_
 subst hx
 cases rep1
 cases r1
 refine wpAny_truthy_bool ?_
 cases c with
 | true => exact thn (h1 rfl pins s1 σ H1 O1 I1 (env.mono st1) ok1) fun _ _ q => EPpre st1 q
 | false => exact ⟨.bl false, H1, I1, rfl, O1, .bl false, S1, h2 rfl, st1, ok1, .bl false⟩
theorem ev_or (h : Ev X Γ S a fun x S1 => ∃ c, x = .bl c ∧ (c = true → W (.bl true) S1) ∧ (c = false → Ev X Γ S1 (.BoolOp .Or (b :: rest) pos) W)) : Ev X Γ S (.BoolOp .Or (a :: b :: rest) pos) W := by
 intro pins s σ H O I env st
 refine BoolOp_or (thn (h pins s σ H O I env st) fun u s1 hq_ => ?_)
 obtain ⟨v, H1, I1, r1, O1, x, S1, ⟨c, hx, h1, h2⟩, st1, ok1, rep1⟩ := hq_
 subst hx
 cases rep1
 cases r1
 refine wpAny_truthy_bool ?_
 cases c with
 | false => exact thn (h2 rfl pins s1 σ H1 O1 I1 (env.mono st1) ok1) fun _ _ q => EPpre st1 q
 | true => exact ⟨.bl true, H1, I1, rfl, O1, .bl true, S1, h1 rfl, st1, ok1, .bl true⟩
theorem ev_not (h : Ev X Γ S a fun x S1 => ∃ c, x = .bl c ∧ W (.bl (!c)) S1) : Ev X Γ S (.UnaryOp .Not a pos) W := by
 intro pins s σ H O I env st
 refine UnaryOp_ (thn (h pins s σ H O I env st) fun u s1 hq_ => ?_)
 obtain ⟨v, H1, I1, r1, O1, x, S1, ⟨c, hx, h1⟩, st1, ok1, rep1⟩ := hq_
 subst hx
 cases rep1
 cases r1
 exact not_of (wpAny_truthy_bool ⟨.bl (!c), H1, I1, rfl, O1, .bl (!c), S1, h1, st1, ok1, .bl (!c)⟩)
theorem ev_neg (h : Ev X Γ S a fun x S1 => ∃ i, x = .int i ∧ W (.int (-i)) S1) : Ev X Γ S (.UnaryOp .USub a pos) W := by
 intro pins s σ H O I env st
 refine UnaryOp_ (thn (h pins s σ H O I env st) fun u s1 hq_ => ?_)
 obtain ⟨v, H1, I1, r1, O1, x, S1, ⟨c, hx, h1⟩, st1, ok1, rep1⟩ := hq_
 subst hx
 cases rep1
 exact un_neg pins s1 σ H1 _ _ _ I1 r1 ⟨c, rfl, O1, .int (-c), S1, h1, st1, ok1, .int (-c)⟩
theorem ev_ifExp {c : Expr} (h : Ts X Γ S c fun k S1 => (k = true → Ev X Γ S1 a W) ∧ (k = false → Ev X Γ S1 b W)) : Ev X Γ S (.IfExp c a b pos) W := by
 intro pins s σ H O I env st
 refine wpAny_IfExp (thn (h pins s σ H O I env st) fun d s1 hq_ => ?_)
 obtain ⟨H1, I1, O1, S1, w1, st1, ok1⟩ := hq_
 cases d with
 | true => exact thn (w1.1 rfl pins s1 σ H1 O1 I1 (env.mono st1) ok1) fun _ _ q => EPpre st1 q
 | false => exact thn (w1.2 rfl pins s1 σ H1 O1 I1 (env.mono st1) ok1) fun _ _ q => EPpre st1 q
theorem ev_chain {c : Expr} {op op' : CmpOp} (h : Ev X Γ S a fun x S1 => Ev X Γ S1 b fun y S2 => CmpW X op x y S2 fun z S3 => ∃ k, z = .bl k ∧ (k = false → W (.bl false) S3) ∧ (k = true → Ev X Γ S3 c fun t S4 => CmpW X op' y t S4 W))
 (hm : lastMarks [op, op'] [b, c] = false := by with_unfolding_all rfl) : Ev X Γ S (.Compare a [op, op'] [b, c] pos) W := by
 intro pins s σ H O I env st
 refine Compare_chain (thn (h pins s σ H O I env st) fun u s1 ⟨v, H1, I1, r1, O1, x, S1, hb, st1, ok1, rep1⟩ => chain_link (thn (hb pins s1 σ H1 O1 I1 (env.mono st1) ok1) fun u' s2 hq_ => ?_)) hm
 obtain ⟨w, H2, I2, r2, O2, y, S2, hw, st2, ok2, rep2⟩ := hq_
 refine thn (hw pins s2 σ H2 O2 v w u u' I2 ok2 (rep1.mono st2) rep2 r1 r2) fun _ s3 hq_ => ?_
 obtain ⟨z, H3, I3, r3, O3, d, S3, ⟨k, hd, k1, k2⟩, st3, ok3, rep3⟩ := hq_
 subst hd
 cases rep3
 cases r3
 refine wpAny_truthy_bool ?_
 cases k with
 | false => exact ite_ff ⟨.bl false, H3, I3, rfl, O3, .bl false, S3, k1 rfl, (st1.trans st2).trans st3, ok3, .bl false⟩
 | true =>
   refine ite_tt (chain_last (thn (k2 rfl pins s3 σ H3 O3 I3 (((env.mono st1).mono st2).mono st3) ok3) fun u4 s4 hq_ => ?_))
   obtain ⟨w4, H4, I4, r4, O4, t, S4, h4, st4, ok4, rep4⟩ := hq_
   exact thn (h4 pins s4 σ H4 O4 w w4 u' u4 I4 ok4 ((rep2.mono st3).mono st4) rep4 r2 r4) fun _ _ q => EPpre (((st1.trans st2).trans st3).trans st4) q
theorem eva_nil {W : List D → Store → Prop} (w : W [] S) : EvA X Γ S [] W := fun _ pins s σ H O I _ st => Calls.spliced_nil ⟨[], H, I, .nil, O, [], S, w, Step.refl O H, st, .nil⟩
theorem eva_cons {W : List D → Store → Prop} (h : Ev X Γ S e fun d S1 => EvA X Γ S1 es fun ds S2 => W (d :: ds) S2) (hs : starEach (e :: es) X.env = (false, eval e X.env) :: starEach es X.env := by rfl) : EvA X Γ S (e :: es) W := by
 intro pos pins s σ H O I env st
 rw [hs]
 show wpAny _ _ (spliced ((false, eval e X.env) :: backTo pos (starEach es X.env))) _ _ s
 refine Calls.spliced_cons (thn (h pins s σ H O I env st) fun u s1 hq_ => ?_)
 obtain ⟨v, H1, I1, r1, O1, x, S1, hb, st1, ok1, rep1⟩ := hq_
 exact thn (hb pos pins s1 σ H1 O1 I1 (env.mono st1) ok1) fun us s2 ⟨xs, H2, I2, r2, O2, ds, S2, w, st2, ok2, rep2⟩ => ⟨v :: xs, H2, I2, .cons r1 r2, O2, x :: ds, S2, w, st1.trans st2, ok2, .cons (rep1.mono st2) rep2⟩
theorem small {n : Nat} (h : n ≤ 1000000) : n ≤ sizeLine := Nat.le_trans h (by decide)
theorem tp_new {K : PySem.W.Frag} {O : Own} {H : Hp} {p : Addr} {xs : List V} (st : StOk K O H S) (h : H p = none) : Tp K O (upd H p (.tup xs)) p xs := .inl ⟨st.fresh_not h, .inl upd_same⟩
theorem ls_new {K : PySem.W.Frag} {O : Own} {H : Hp} {p : Addr} {xs : List V} (st : StOk K O H S) (h : H p = none) : Ls K O (upd H p (.lst xs)) p xs := .inl ⟨st.fresh_not h, .inl upd_same⟩
theorem qg_tup {K : PySem.W.Frag} {O : Own} {H : Hp} {p : Addr} {xs : List V} {ds : List D} (w : W (.tup ds) S) (st : StOk K O H S) (h : H p = none) (r : Reps K O H xs ds) : QG K O H W (.ref p) (upd H p (.tup xs)) :=
 ⟨O, .tup ds, S, w, Step.fresh h _, st.fresh h _, .tup (tp_new st h) (r.mono (Step.fresh h _))⟩
theorem qg_lst {K : PySem.W.Frag} {O : Own} {H : Hp} {p : Addr} {xs : List V} {ds : List D} (w : W (.lst ds) S) (st : StOk K O H S) (h : H p = none) (r : Reps K O H xs ds) : QG K O H W (.ref p) (upd H p (.lst xs)) :=
 ⟨O, .lst ds, S, w, Step.fresh h _, st.fresh h _, .lst (ls_new st h) (r.mono (Step.fresh h _))⟩
theorem qg_loc {K : PySem.W.Frag} {O : Own} {H : Hp} {p : Addr} {xs : List V} {ds : List D} (w : W (.loc S.length) (S ++ [ds])) (st : StOk K O H S) (h : H p = none) (r : Reps K O H xs ds) : QG K O H W (.ref p) (upd H p (.lst xs)) :=
 ⟨O.more p, .loc S.length, S ++ [ds], w, Step.own h _, st.own h r, .loc (by show (O.A ++ [p])[S.length]? = some p; rw [← st.len]; simp)⟩
theorem ev_tup {x1} (h : EvA X Γ S es fun ds S1 => ds.length ≤ 1000000 ∧ W (.tup ds) S1) : Ev X Γ S (.Tuple es x1 pos) W := by
 intro pins s σ H O I env st
 refine wpAny_Tuple_spliced (thn (h pos pins s σ H O I env st) fun us s1 ⟨xs, H1, I1, r, O1, ds, S1, ⟨z, w⟩, st1, ok1, rep⟩ => ⟨by rw [← r.length, rep.length]; exact small z, ?_⟩)
 have hf : H1 s1.heap.objs.size = none := I1.hok.fresh (Nat.le_refl _)
 refine ⟨.ref s1.heap.objs.size, upd H1 s1.heap.objs.size (.tup xs), I1.laid (t' := s1.toks) (fun b u e => Heap.get?_push_of_some _ e) (Nat.le_refl _) ?_, rfl, (qg_tup w ok1 hf rep).pre st1⟩
 exact ⟨by rw [rep.length]; exact small z, us, r, ⟨_, Heap.get?_push_size _ rfl, rfl, _, rfl⟩⟩
theorem ev_lst (h : EvA X Γ S es fun ds S1 => ds.length ≤ 1000000 ∧ W (.lst ds) S1) : Ev X Γ S (.List es pos) W := by
 intro pins s σ H O I env st
 refine wpAny_List_spliced (thn (h pos pins s σ H O I env st) fun us s1 ⟨xs, H1, I1, r, O1, ds, S1, ⟨z, w⟩, st1, ok1, rep⟩ => ⟨by rw [← r.length, rep.length]; exact small z, ?_⟩)
 have hf : H1 s1.heap.objs.size = none := I1.hok.fresh (Nat.le_refl _)
 refine ⟨.ref s1.heap.objs.size, upd H1 s1.heap.objs.size (.lst xs), I1.laid (t' := s1.toks) (fun b u e => Heap.get?_push_of_some _ e) (Nat.le_refl _) ?_, rfl, (qg_lst w ok1 hf rep).pre st1⟩
 exact ⟨by rw [rep.length]; exact small z, us, 0, r, Heap.get?_push_size _ rfl⟩
theorem ev_lstO (h : EvA X Γ S es fun ds S1 => ds.length ≤ 1000000 ∧ W (.loc S1.length) (S1 ++ [ds])) : Ev X Γ S (.List es pos) W := by
 intro pins s σ H O I env st
 refine wpAny_List_spliced (thn (h pos pins s σ H O I env st) fun us s1 ⟨xs, H1, I1, r, O1, ds, S1, ⟨z, w⟩, st1, ok1, rep⟩ => ⟨by rw [← r.length, rep.length]; exact small z, ?_⟩)
 have hf : H1 s1.heap.objs.size = none := I1.hok.fresh (Nat.le_refl _)
 refine ⟨.ref s1.heap.objs.size, upd H1 s1.heap.objs.size (.lst xs), I1.laid (t' := s1.toks) (fun b u e => Heap.get?_push_of_some _ e) (Nat.le_refl _) ?_, rfl, (qg_loc w ok1 hf rep).pre st1⟩
 exact ⟨by rw [rep.length]; exact small z, us, 0, r, Heap.get?_push_size _ rfl⟩
theorem bin_int {op : Operator} {C : Int → Int → Prop} {g : Int → Int → Int} (ho : OpR X (binaryOp op) (rI C fun i j => .int (g i j))) {i j : Int} (c : C i j) (w : W (.int (g i j)) S) : BinW X op (.int i) (.int j) S W :=
 opW_of ho fun O H v w' st r1 r2 => by cases r1; cases r2; exact ⟨i, j, rfl, rfl, c, QG.here w st (.int _)⟩
theorem bin_int0 {op : Operator} {g : Int → Int → Int} (ho : OpR X (binaryOp op) (rI0 fun i j => .int (g i j))) {i j : Int} (w : W (.int (g i j)) S) : BinW X op (.int i) (.int j) S W :=
 opW_of ho fun O H v w' st r1 r2 => by cases r1; cases r2; exact ⟨i, j, rfl, rfl, QG.here w st (.int _)⟩
theorem b_add {i j : Int} (w : W (.int (i + j)) S) : BinW X .Add (.int i) (.int j) S W := bin_int0 op_add w
theorem b_sub {i j : Int} (w : W (.int (i - j)) S) : BinW X .Sub (.int i) (.int j) S W := bin_int0 op_sub w
theorem b_mul {i j : Int} (c : CMul i j) (w : W (.int (i * j)) S) : BinW X .Mult (.int i) (.int j) S W := bin_int op_mul c w
theorem b_mod {i j : Int} (c : 0 < j) (w : W (.int (i % j)) S) : BinW X .Mod (.int i) (.int j) S W := bin_int op_mod c w
theorem b_fdiv {i j : Int} (c : 0 < j ∧ j < 1073741824) (w : W (.int (i / j)) S) : BinW X .FloorDiv (.int i) (.int j) S W := bin_int op_fdiv c w
theorem b_pow {i j : Int} (c : CPow i j) (w : W (.int (i ^ j.toNat)) S) : BinW X .Pow (.int i) (.int j) S W := bin_int op_pow c w
theorem cmp_int {op : CmpOp} {g : Int → Int → Bool} (ho : OpR X (compareOp op) (rI0 fun i j => .bl (g i j))) {i j : Int} (w : W (.bl (g i j)) S) : CmpW X op (.int i) (.int j) S W :=
 opW_of ho fun O H v w' st r1 r2 => by cases r1; cases r2; exact ⟨i, j, rfl, rfl, QG.here w st (.bl _)⟩
theorem c_lt {i j : Int} (w : W (.bl (decide (i < j))) S) : CmpW X .Lt (.int i) (.int j) S W := cmp_int op_lt w
theorem c_le {i j : Int} (w : W (.bl (decide (i ≤ j))) S) : CmpW X .LtE (.int i) (.int j) S W := cmp_int op_le w
theorem c_gt {i j : Int} (w : W (.bl (decide (j < i))) S) : CmpW X .Gt (.int i) (.int j) S W := cmp_int op_gt w
theorem c_ge {i j : Int} (w : W (.bl (decide (j ≤ i))) S) : CmpW X .GtE (.int i) (.int j) S W := cmp_int op_ge w
theorem c_eqI {i j : Int} (w : W (.bl (decide (i = j))) S) : CmpW X .Eq (.int i) (.int j) S W :=
 opW_of op_eq fun O H v w' st r1 r2 => by
  cases r1; cases r2
  have e : decide (V.int i = V.int j) = decide (i = j) := by rw [dec_int]; exact (Bool.beq_eq_decide_eq i j)
  exact ⟨rfl, by rw [e]; exact QG.here w st (.bl _)⟩
theorem c_neI {i j : Int} (w : W (.bl (!decide (i = j))) S) : CmpW X .NotEq (.int i) (.int j) S W :=
 opW_of op_ne fun O H v w' st r1 r2 => by
  cases r1; cases r2
  have e : decide (V.int i = V.int j) = decide (i = j) := by rw [dec_int]; exact (Bool.beq_eq_decide_eq i j)
  exact ⟨rfl, by rw [e]; exact QG.here w st (.bl _)⟩
theorem c_eqB {i j : Bool} (w : W (.bl (i == j)) S) : CmpW X .Eq (.bl i) (.bl j) S W :=
 opW_of op_eq fun O H v w' st r1 r2 => by
  cases r1; cases r2
  exact ⟨rfl, by rw [dec_bl]; exact QG.here w st (.bl _)⟩
theorem c_neB {i j : Bool} (w : W (.bl (!(i == j))) S) : CmpW X .NotEq (.bl i) (.bl j) S W :=
 opW_of op_ne fun O H v w' st r1 r2 => by
  cases r1; cases r2
  exact ⟨rfl, by rw [dec_bl]; exact QG.here w st (.bl _)⟩
theorem c_isN {x : D} (w : W (.bl (match x with | .non => true | _ => false)) S) : CmpW X .Is x .non S W :=
 opW_of op_isN fun O H v w' st r1 r2 => by
  cases r2
  refine ⟨rfl, ?_⟩
  cases r1 <;> exact QG.here w st (.bl _)
theorem c_isNot {x : D} (w : W (.bl (match x with | .non => false | _ => true)) S) : CmpW X .IsNot x .non S W :=
 opW_of op_notN fun O H v w' st r1 r2 => by
  cases r2
  refine ⟨rfl, ?_⟩
  cases r1 <;> exact QG.here w st (.bl _)
theorem b_catT {ds es : List D} (hz : ds.length + es.length ≤ 1000000) (w : W (.tup (ds ++ es)) S) : BinW X .Add (.tup ds) (.tup es) S W := by
 intro pins s σ H O v w' u u' I st r1 r2 r3 r4
 cases r1 with
 | @tup a xs _ h1 q1 =>
   cases r2 with
   | @tup b ys _ h2 q2 =>
     by_cases hx : xs = []
     · subst hx
       have e : ds = [] := by have := q1.length; simpa using this.symm
       subst e
       cases r3
       cases r4
       obtain ⟨its, v1, p1, _⟩ := I.tuple h1.sq
       obtain ⟨its2, v2, p2, _⟩ := I.tuple h2.sq
       cases v1
       obtain ⟨⟨cls, dd, data, sl⟩, ho, hc, n, hd⟩ := id p1
       obtain ⟨⟨cls2, dd2, data2, sl2⟩, ho2, hc2, n2, hd2⟩ := id p2
       simp only at hc hd hc2 hd2
       subst hc hd hc2 hd2
       exact concat_meets ⟨_, ho, rfl⟩ ⟨_, ho2, rfl⟩ noFill_tuple_add seq_tuple_add PySem.F.slot_tuple_add PySem.F.entry_tuple_add (PySem.F.args_tuple_add_2 _ _)
        (tuple_addW0 a b ([] : List Value).toArray its2.toArray n n2 dd dd2 sl sl2 rfl) ⟨ho, ho2, ⟨.ref b, H, I, rfl, QG.here w st (.tup h2 q2)⟩⟩
     · refine op_catT pins s σ H _ _ u u' _ I r3 r4 ⟨a, b, xs, ys, rfl, rfl, h1.sq, h2.sq, hx, by rw [q1.length, q2.length]; exact small hz, fun e => ?_, fun _ p hp => qg_tup w st hp (q1.append q2)⟩
       subst e
       have e : es = [] := by have := q2.length; simpa using this.symm
       subst e
       rw [List.append_nil] at w
       exact QG.here w st (.tup h1 q1)
theorem b_catL {ds es : List D} (hz : ds.length + es.length ≤ 1000000) (w : W (.lst (ds ++ es)) S) : BinW X .Add (.lst ds) (.lst es) S W := by
 intro pins s σ H O v w' u u' I st r1 r2 r3 r4
 cases r1 with
 | @lst a xs _ h1 q1 =>
   cases r2 with
   | @lst b ys _ h2 q2 =>
     cases r3
     cases r4
     obtain ⟨its, v1, p1, _⟩ := I.list h1.sq
     obtain ⟨its2, v2, p2, _⟩ := I.list h2.sq
     obtain ⟨⟨cls, dd, data, sl⟩, n, ho, hc, hdd, hd⟩ := id p1
     obtain ⟨⟨cls2, dd2, data2, sl2⟩, n2, ho2, hc2, hdd2, hd2⟩ := id p2
     simp only at hc hd hc2 hd2
     subst hc hd hc2 hd2
     have z : its.length + its2.length ≤ sizeLine := by rw [← v1.length, ← v2.length, q1.length, q2.length]; exact small hz
     refine concat_meets ⟨_, ho, rfl⟩ ⟨_, ho2, rfl⟩ noFill_list_add seq_list_add PySem.F.slot_list_add PySem.F.entry_list_add (PySem.F.args_list_add_2 _ _)
      (list_addW a b its.toArray its2.toArray n n2 dd dd2 sl sl2 (by simpa using z)) ⟨ho, ho2, ?_⟩
     have ea : its.toArray ++ its2.toArray = (its ++ its2).toArray := by simp
     rw [ea]
     refine ⟨.ref s.heap.objs.size, _, I.lnew (t' := s.toks) (v1.append v2) (by rw [List.length_append, q1.length, q2.length]; exact small hz), rfl, qg_lst w st I.fresh (q1.append q2)⟩
end
end DL
namespace DL
open PySem PySem.Spec L2
open PyProof.Rows
section
variable {X : Cx} {Γ : Gam} {S : Store} {W : WD} {a b e : Expr} {es : List Expr} {pos : Pos}
def IxW (X : Cx) (a b : Expr) (x y : D) (S : Store) (W : WD) : Prop :=
 ∀ (pins : Pins) (s : Shared) (σ : St) (H : Hp) (O : Own) (v w : V) (u u' : Value), Inv X pins σ H s → StOk X.K O H S → Rep X.K O H v x → Rep X.K O H w y → RelV v u → RelV w u' →
   subscripted b false u u' = operate [u, u'] (getItem u u') → wpAny (model X.prog X.w) X.A (subscriptTail a b u u') (EP X pins σ (QG X.K O H W)) X.xe s
theorem ev_ix (h : Ev X Γ S a fun x S1 => Ev X Γ S1 b fun y S2 => IxW X a b x y S2 W) (hs : PlainIx b := by intro _ _; rfl) : Ev X Γ S (.Subscript a b pos) W := by
 intro pins s σ H O I env st
 refine Subscript_ (thn (h pins s σ H O I env st) fun u s1 hq_ => ?_)
 obtain ⟨v, H1, I1, r1, O1, x, S1, hb, st1, ok1, rep1⟩ := hq_
 refine thn (hb pins s1 σ H1 O1 I1 (env.mono st1) ok1) fun u' s2 hq_ => ?_
 obtain ⟨w, H2, I2, r2, O2, y, S2, hw, st2, ok2, rep2⟩ := hq_
 exact thn (hw pins s2 σ H2 O2 v w u u' I2 ok2 (rep1.mono st2) rep2 r1 r2 (hs _ _)) fun _ _ q => EPpre (st1.trans st2) q
theorem atI_rep {K : PySem.W.Frag} {O : Own} {H : Hp} {xs : List V} {ds : List D} {i : Int} {d : D} (r : Reps K O H xs ds) (h : atI ds i = some d) : ∃ v, atI xs i = some v ∧ Rep K O H v d := by
 unfold atI at h ⊢
 rw [r.length]
 cases e : ixN ds.length i with
 | none => rw [e] at h; cases h
 | some j =>
   rw [e] at h
   exact r.get (i := j) h
theorem i_tup {ds : List D} {i : Int} {d : D} (h : atI ds i = some d) (w : W d S) : IxW X a b (.tup ds) (.int i) S W := by
 intro pins s σ H O v w' u u' I st r1 r2 r3 r4 hs
 cases r2
 cases r1 with
 | @tup p xs _ h1 q1 =>
   obtain ⟨z, hz, rz⟩ := atI_rep q1 h
   exact ix_tup a b pins s σ H _ _ u u' _ I r3 r4 ⟨p, xs, i, z, rfl, rfl, h1.sq, hz, QG.here w st rz⟩ hs
theorem i_lst {ds : List D} {i : Int} {d : D} (h : atI ds i = some d) (w : W d S) : IxW X a b (.lst ds) (.int i) S W := by
 intro pins s σ H O v w' u u' I st r1 r2 r3 r4 hs
 cases r2
 cases r1 with
 | @lst p xs _ h1 q1 =>
   obtain ⟨z, hz, rz⟩ := atI_rep q1 h
   exact ix_list a b pins s σ H _ _ u u' _ I r3 r4 ⟨p, xs, i, z, rfl, rfl, h1.sq, hz, QG.here w st rz⟩ hs
theorem i_loc {k : Nat} {ds : List D} {i : Int} {d : D} (hk : S[k]? = some ds) (h : atI ds i = some d) (w : W d S) : IxW X a b (.loc k) (.int i) S W := by
 intro pins s σ H O v w' u u' I st r1 r2 r3 r4 hs
 cases r2
 cases r1 with
 | @loc p _ h1 =>
   obtain ⟨xs, hx, q1⟩ := st.obj k p ds h1 hk
   obtain ⟨z, hz, rz⟩ := atI_rep q1 h
   exact ix_list a b pins s σ H _ _ u u' _ I r3 r4 ⟨p, xs, i, z, rfl, rfl, SqL.of hx, hz, QG.here w st rz⟩ hs
def PoD (X : Cx) (Γ : Gam) (S : Store) (o : Option Expr) (W : Option Int → Store → Prop) : Prop := match o with
 | none => W none S
 | some e => Ev X Γ S e fun d S1 => ∃ i, d = .int i ∧ W (some i) S1
def SlW (X : Cx) (x : D) (lo hi : Option Int) (S : Store) (W : WD) : Prop :=
 ∀ (pins : Pins) (s : Shared) (σ : St) (H : Hp) (O : Own) (v : V) (u vl vu : Value) (sl : Addr), Inv X pins σ H s → StOk X.K O H S → Rep X.K O H v x → RelV v u → s.heap.IsSliceOf sl vl vu .none → IsPart vl lo → IsPart vu hi →
   ∃ T id, typeLookup (.type T) "__getitem__" = pure (some (.builtin id)) ∧ s.TypeIs u T ∧ wpAny (model X.prog X.w) X.A (getItem u (.ref sl)) (EP X pins σ (QG X.K O H W)) X.xe s
theorem po_use {W : Option Int → Store → Prop} {o : Option Expr} (h : PoD X Γ S o W) {pins : Pins} {s : Shared} {σ : St} {H : Hp} {O : Own} (I : Inv X pins σ H s) (env : EnvOk X.K O H σ Γ) (st : StOk X.K O H S) :
 wpAny (model X.prog X.w) X.A (evalPart o X.env) (fun u s' => ∃ p H' O' S', Inv X pins σ H' s' ∧ IsPart u p ∧ W p S' ∧ Step O O' H H' ∧ StOk X.K O' H' S') X.xe s := by
 cases o with
 | none =>
   rw [evalPart_none]
   exact wpAny_pure ⟨none, H, O, S, I, .none, h, Step.refl O H, st⟩
 | some e =>
   rw [evalPart_some]
   refine thn (h pins s σ H O I env st) fun u s1 hq_ => ?_
   obtain ⟨v, H1, I1, r1, O1, x, S1, ⟨i, hx, w⟩, st1, ok1, rep1⟩ := hq_
   subst hx
   cases rep1
   obtain ⟨t, rfl⟩ := r1
   exact ⟨some i, H1, O1, S1, I1, .int i t, w, st1, ok1⟩
theorem ev_slice {lo hi : Option Expr} {p2 : Pos} (h : Ev X Γ S e fun x S1 => PoD X Γ S1 lo fun l S2 => PoD X Γ S2 hi fun r S3 => SlW X x l r S3 W) : Ev X Γ S (.Subscript e (.Slice lo hi none p2) pos) W := by
 intro pins s σ H O I env st
 refine Subscript_ (thn (h pins s σ H O I env st) fun v s1 hq_ => ?_)
 obtain ⟨y, H1, I1, r1, O1, x, S1, hb, st1, ok1, rep1⟩ := hq_
 refine wpAny_Slice (thn (po_use hb I1 (env.mono st1) ok1) fun vl s2 ⟨l, H2, O2, S2, I2, pl, hc, st2, ok2⟩ => thn (po_use hc I2 ((env.mono st1).mono st2) ok2) fun vu s3 hq_ => ?_)
 obtain ⟨r, H3, O3, S3, I3, pu, hd, st3, ok3⟩ := hq_
 rw [evalPart_none]
 refine wpAny_pure ?_
 have I4 : Inv X pins σ H3 { s3 with heap := s3.heap.push { cls := .type "slice", data := .fields #[vl, vu, .none] } } := I3.kept (t' := s3.toks) fun b ob q => Heap.get?_push_of_some _ q
 obtain ⟨T, id, hT, ht, hg⟩ := hd pins { s3 with heap := s3.heap.push { cls := .type "slice", data := .fields #[vl, vu, .none] } } σ H3 O3 y v vl vu s3.heap.objs.size I4 ok3 ((rep1.mono st2).mono st3) r1 (Heap.IsSliceOf.new ..) pl pu
 show wpAny (model X.prog X.w) X.A (subscriptTail e (.Slice lo hi none p2) v (.ref s3.heap.objs.size)) _ X.xe { s3 with heap := s3.heap.push { cls := .type "slice", data := .fields #[vl, vu, .none] } }
 exact tail_any (ops := [.ref s3.heap.objs.size, v]) ht hT (thn hg fun _ _ q => EPpre ((st1.trans st2).trans st3) q) (by with_unfolding_all rfl)
def cutD (ds : List D) (lo hi : Option Int) : List D := (ds.drop (HT.sIx ds.length 0 lo)).take (HT.sIx ds.length ds.length hi - HT.sIx ds.length 0 lo)
theorem cut_rep {K : PySem.W.Frag} {O : Own} {H : Hp} {xs : List V} {ds : List D} (r : Reps K O H xs ds) (lo hi : Option Int) : Reps K O H (cutV xs lo hi) (cutD ds lo hi) := by
 unfold cutV cutD
 rw [r.length]
 exact (r.drop _).take _
theorem tuple_whole {prog : Program} {w : World} {A : Around} {E : Value → Shared → Prop} {s : Shared} {t sl : Addr} {items : Array Value} {vl vu : Value} {lo hi : Option Int} {Q : Value → Shared → Prop} (ht : IsTup s.heap t items) (hs : s.heap.IsSliceOf sl vl vu .none) (pl : IsPart vl lo) (pu : IsPart vu hi)
 (h0 : HT.sIx items.size 0 lo = 0) (h1 : HT.sIx items.size items.size hi = items.size) (h : Q (.ref t) s) : wpAny (model prog w) A (getItem (.ref t) (.ref sl)) Q E s := by
 obtain ⟨os, hos, hcs, hds⟩ := id hs
 have isS : s.TypeIs (.ref sl) "slice" := ⟨os, hos, hcs⟩
 unfold getItem
 try with_reducible refine wpAny_holding ?_
 first | refine wpAny_bind (wpAny_pure ?_) | skip
 refine wpAny_bind (wpAny_sequenceKey ht.typeIs (by decide) ?_)
 refine wpAny_bind (wpAny_callSpecial?_slot (name := Str.ofString "__getitem__") ht.typeIs PyProof.Rows.slot_tuple_getitem
  (wpAny_call_entry PyProof.Rows.slot_tuple_getitem ht.typeIs entry_tuple_getitem ?_ (args_tuple_getitem _ _)))
 show wpAny _ _ (Builtin.Tuple.tupleItemsOf (.ref t) >>= _) _ _ s
 refine wpAny_bind (tupleItemsOf_ ht (wpAny_bind (wpAny_typeOf isS ?_)))
 rw [if_pos (by decide)]
 refine wpAny_bind (HT.sliceApplied_gen hs pl pu ?_)
 rw [h0, h1]
 show wpAny _ _ (if (((0 : Nat) : Int) == 0 && (1 : Int) == 1 && (items.size - 0) == items.size) = true then _ else _) _ _ s
 rw [if_pos (by simp)]
 unfold Builtin.Tuple.tupleIsExact
 first
  | exact wpAny_bind (wpAny_bind (wpAny_typeOf ht.typeIs (wpAny_pure (by rw [if_pos (by decide)]; exact wpAny_bind (wpAny_rule (wpAny_pure ⟨_, rfl, wpAny_pure h⟩))))))
  | (refine wpAny_bind (wpAny_bind (wpAny_typeOf ht.typeIs (wpAny_pure ?_)))
     simp only [beq_self_eq_true, if_true]
     exact wpAny_bind (wpAny_rule (wpAny_pure ⟨_, rfl, wpAny_pure h⟩)))
theorem s_tup {ds : List D} {lo hi : Option Int} (w : W (.tup (cutD ds lo hi)) S) : SlW X (.tup ds) lo hi S W := by
 intro pins s σ H O v u vl vu sl I st r1 r3 hs pl pu
 cases r1 with
 | @tup p xs _ h1 q1 =>
   by_cases hw : HT.sIx xs.length 0 lo = 0 ∧ HT.sIx xs.length xs.length hi = xs.length
   · cases r3
     obtain ⟨its, r, ht, hz⟩ := I.tuple h1.sq
     have hlen : its.toArray.size = xs.length := by rw [List.size_toArray]; exact r.length.symm
     refine ⟨"tuple", _, PyProof.Rows.slot_tuple_getitem.lookup, ht.typeIs, tuple_whole ht hs pl pu (by rw [hlen]; exact hw.1) (by rw [hlen]; exact hw.2) ⟨.ref p, H, I, rfl, ?_⟩⟩
     have e : cutD ds lo hi = ds := by
      unfold cutD
      rw [← q1.length, hw.1, hw.2, List.drop_zero, List.take_of_length_le (by rw [← q1.length]; omega)]
     rw [e] at w
     exact QG.here w st (.tup h1 q1)
   · exact sl_tup pins s σ H _ u vl vu lo hi sl _ I r3 hs pl pu ⟨p, xs, rfl, h1.sq, hw, fun p' hp => qg_tup w st hp (cut_rep q1 lo hi)⟩
theorem s_lst {ds : List D} {lo hi : Option Int} (w : W (.lst (cutD ds lo hi)) S) : SlW X (.lst ds) lo hi S W := by
 intro pins s σ H O v u vl vu sl I st r1 r3 hs pl pu
 cases r1 with
 | @lst p xs _ h1 q1 => exact sl_list pins s σ H _ u vl vu lo hi sl _ I r3 hs pl pu ⟨p, xs, rfl, h1.sq, fun p' hp => qg_lst w st hp (cut_rep q1 lo hi)⟩
theorem ev_callB {x : Str} {p : Pos} {id : String} (h : EvA X Γ S (e :: es) fun ds S1 => CalW X (.builtin id) ds S1 W) (hm : X.mg x = none) (hv : bootBuiltins x = some (.builtin id)) (hg : Gl X x := by rfl) (hn : x ≠ "__name__" := by decide) (hdb : (x == ("__debug__" : Str)) = false := by decide)
 (he : starEach (e :: es) X.env = (false, eval e X.env) :: starEach es X.env := by rfl) (hpl : (backTo pos (starEach es X.env)).any (·.1) = false := by rfl) : Ev X Γ S (.Call (.Name x p) (e :: es) [] pos) W := by
 intro pins s σ H O I env st
 refine wpAny_Call_Name_kw (ld_blt I hg hm hv ?_ hn hdb)
 exact PyProof.Rows.callWith_builtin1 (thn (h pos pins s σ H O I env st) fun us s1 ⟨vs, H1, I1, r1, O1, ds, S1, w, st1, ok1, rep⟩ => thn (w pins s1 σ H1 O1 vs us I1 ok1 rep r1) fun _ _ q => EPpre st1 q) he hpl
theorem ev_callT {x : Str} {p : Pos} {T : String} (h : EvA X Γ S (e :: es) fun ds S1 => CalW X (.type T) ds S1 W) (hm : X.mg x = none) (hv : bootBuiltins x = some (.type T)) (hg : Gl X x := by rfl) (hn : x ≠ "__name__" := by decide) (hdb : (x == ("__debug__" : Str)) = false := by decide)
 (he : starEach (e :: es) X.env = (false, eval e X.env) :: starEach es X.env := by rfl) (hpl : (backTo pos (starEach es X.env)).any (·.1) = false := by rfl) : Ev X Γ S (.Call (.Name x p) (e :: es) [] pos) W := by
 intro pins s σ H O I env st
 refine wpAny_Call_Name_kw (ld_blt I hg hm hv ?_ hn hdb)
 exact PyProof.Rows.callWith_type1 (thn (h pos pins s σ H O I env st) fun us s1 ⟨vs, H1, I1, r1, O1, ds, S1, w, st1, ok1, rep⟩ => thn (w pins s1 σ H1 O1 vs us I1 ok1 rep r1) fun _ _ q => EPpre st1 q) he hpl
theorem reps1 {K : PySem.W.Frag} {O : Own} {H : Hp} {vs : List V} {d : D} (r : Reps K O H vs [d]) : ∃ v, vs = [v] ∧ Rep K O H v d := by
 cases r with
 | cons a t => cases t; exact ⟨_, rfl, a⟩
theorem k_lenT {ds : List D} (w : W (.int ds.length) S) : CalW X (.builtin "len") [.tup ds] S W := calW_of call_len_seq fun O H vs st r => by
 obtain ⟨v, rfl, r'⟩ := reps1 r
 cases r' with
 | @tup p xs _ h1 q1 => exact ⟨p, xs, rfl, .inr h1.sq, by rw [q1.length]; exact QG.here w st (.int _)⟩
theorem k_lenL {ds : List D} (w : W (.int ds.length) S) : CalW X (.builtin "len") [.lst ds] S W := calW_of call_len_seq fun O H vs st r => by
 obtain ⟨v, rfl, r'⟩ := reps1 r
 cases r' with
 | @lst p xs _ h1 q1 => exact ⟨p, xs, rfl, .inl h1.sq, by rw [q1.length]; exact QG.here w st (.int _)⟩
theorem k_lenO {k : Nat} {ds : List D} (hk : S[k]? = some ds) (w : W (.int ds.length) S) : CalW X (.builtin "len") [.loc k] S W := calW_of call_len_seq fun O H vs st r => by
 obtain ⟨v, rfl, r'⟩ := reps1 r
 cases r' with
 | @loc p _ h1 =>
   obtain ⟨xs, hx, q1⟩ := st.obj k p ds h1 hk
   exact ⟨p, xs, rfl, .inl (SqL.of hx), by rw [q1.length]; exact QG.here w st (.int _)⟩
theorem k_tupL {ds : List D} (w : W (.tup ds) S) : CalW X (.type "tuple") [.lst ds] S W := calW_of call_tuple_of fun O H vs st r => by
 obtain ⟨v, rfl, r'⟩ := reps1 r
 cases r' with
 | @lst p xs _ h1 q1 => exact ⟨p, xs, rfl, .inl ⟨h1.sq, fun l hl => qg_tup w st hl q1⟩⟩
theorem k_tupO {k : Nat} {ds : List D} (hk : S[k]? = some ds) (w : W (.tup ds) S) : CalW X (.type "tuple") [.loc k] S W := calW_of call_tuple_of fun O H vs st r => by
 obtain ⟨v, rfl, r'⟩ := reps1 r
 cases r' with
 | @loc p _ h1 =>
   obtain ⟨xs, hx, q1⟩ := st.obj k p ds h1 hk
   exact ⟨p, xs, rfl, .inl ⟨SqL.of hx, fun l hl => qg_tup w st hl q1⟩⟩
abbrev Ct := List D → Store → WD → Prop
def spC (K : PySem.W.Frag) (n : Nat) (F : Ct) : Sp := fun vs H Q _ => ∃ O ds S W, ds.length = n ∧ Reps K O H vs ds ∧ StOk K O H S ∧ F ds S W ∧ ∀ v H', QG K O H W v H' → Q v H'
structure Callee (P : Program) (w : World) (K : PySem.W.Frag) (mg : Str → Option Value) (base : Heap) (x : Str) (k n : Nat) (F : Ct) : Prop where
 ex : ∃ f fd ps, FnOk P w K mg base CX0 k f fd ps (spC K n F) ∧ mg x = some (.ref f) ∧ PySem.W.keepIn K (.ref f) = true ∧ Binds K fd ps []
theorem ev_call {x : Str} {p : Pos} {k n : Nat} {F : Ct} (C : Callee X.prog X.w X.K X.mg X.base x k n F) (hr : Room k X.A) (h : EvA X Γ S (e :: es) fun ds S1 => ds.length = n ∧ F ds S1 W) (hg : Gl X x := by rfl) (hdb : (x == ("__debug__" : Str)) = false := by decide)
 (he : starEach (e :: es) X.env = (false, eval e X.env) :: starEach es X.env := by rfl) (hpl : (backTo pos (starEach es X.env)).any (·.1) = false := by rfl) : Ev X Γ S (.Call (.Name x p) (e :: es) [] pos) W := by
 intro pins s σ H O I env st
 obtain ⟨f, fd, ps, hF, hm, hk, hb⟩ := C.ex
 refine wpAny_Call_Name_kw (ld_glob I hg hm ?_ hdb)
 refine PySem.W.callWith_K (h₀ := X.base) I.ok.mod.kin hk (thn (h pos pins s σ H O I env st) fun us s1 ⟨vs, H1, I1, r1, O1, ds, S1, ⟨hl, w⟩, st1, ok1, rep⟩ => ⟨I1.kIn, ?_⟩) he hpl
 refine run_fn hF hr hb .nil pass0 I1 r1 ?_
 rw [List.append_nil]
 exact ⟨O1, ds, S1, W, hl, rep, ok1, w, fun v H' q => q.pre st1⟩
structure Fin where
 nx : Gam → Store → Prop
 rt : WD
 bk : Gam → Store → Prop := fun _ _ => False
 ct : Gam → Store → Prop := fun _ _ => False
def QN (K : PySem.W.Frag) (O : Own) (H : Hp) (W : Gam → Store → Prop) : St → Hp → Prop := fun σ' H' => ∃ O' Γ' S', W Γ' S' ∧ Step O O' H H' ∧ StOk K O' H' S' ∧ EnvOk K O' H' σ' Γ'
def ends (K : PySem.W.Frag) (O : Own) (H : Hp) (W : Fin) : Ends := { nx := QN K O H W.nx, rt := QG K O H W.rt, bk := QN K O H W.bk, ct := QN K O H W.ct }
def Rn (X : Cx) (Γ : Gam) (S : Store) (st : Stmt) (W : Fin) : Prop :=
 ∀ (pins : Pins) (s : Shared) (σ : St) (H : Hp) (O : Own), Inv X pins σ H s → EnvOk X.K O H σ Γ → StOk X.K O H S →
   wpAny (model X.prog X.w) X.A (exec st X.env) (SP X pins (ends X.K O H W)) X.xe s
def Rns (X : Cx) (Γ : Gam) (S : Store) (sts : List Stmt) (W : Fin) : Prop :=
 ∀ (pins : Pins) (s : Shared) (σ : St) (H : Hp) (O : Own), Inv X pins σ H s → EnvOk X.K O H σ Γ → StOk X.K O H S →
   wpAny (model X.prog X.w) X.A (execs sts X.env) (SP X pins (ends X.K O H W)) X.xe s
theorem QN.pre {K : PySem.W.Frag} {O O1 : Own} {H H1 : Hp} (st : Step O O1 H H1) {W : Gam → Store → Prop} {v : St} {H' : Hp} (q : QN K O1 H1 W v H') : QN K O H W v H' := by
 obtain ⟨O', d, S', w, s', ok, r⟩ := q
 exact ⟨O', d, S', w, st.trans s', ok, r⟩
theorem SPpre {pins : Pins} {O O1 : Own} {H H1 : Hp} {W : Fin} (st : Step O O1 H H1) {f : Flow} {s' : Shared} (q : SP X pins (ends X.K O1 H1 W) f s') : SP X pins (ends X.K O H W) f s' := by
 cases f with
 | next => obtain ⟨σ, H', I, q⟩ := q; exact ⟨σ, H', I, QN.pre st q⟩
 | brk => obtain ⟨σ, H', I, q⟩ := q; exact ⟨σ, H', I, QN.pre st q⟩
 | cont => obtain ⟨σ, H', I, q⟩ := q; exact ⟨σ, H', I, QN.pre st q⟩
 | ret u => obtain ⟨v, σ, H', I, r, q⟩ := q; exact ⟨v, σ, H', I, r, QG.pre st q⟩
variable {W : Fin} {st : Stmt} {sts : List Stmt}
theorem rs_nil (w : W.nx Γ S) : Rns X Γ S [] W := fun pins s σ H O I env st => wpAny_execs_nil ⟨σ, H, I, O, Γ, S, w, Step.refl O H, st, env⟩
theorem rs_cons (h : Rn X Γ S st { W with nx := fun Γ1 S1 => Rns X Γ1 S1 sts W }) : Rns X Γ S (st :: sts) W := by
 intro pins s σ H O I env ok
 refine wpAny_execs_cons (thn (h pins s σ H O I env ok) fun f s1 q => ?_)
 cases f with
 | next =>
   obtain ⟨σ', H', I', O1, Γ1, S1, w, st1, ok1, env1⟩ := q
   exact thn (w pins s1 σ' H' O1 I' env1 ok1) fun _ _ q => SPpre st1 q
 | ret v => exact q
 | brk => exact q
 | cont => exact q
theorem r_ret (h : Ev X Γ S e W.rt) : Rn X Γ S (.Return (some e) pos) W := by
 intro pins s σ H O I env ok
 exact wpAny_Return_some (thn (h pins s σ H O I env ok) fun v s1 ⟨x, H1, I1, r1, q1⟩ => ⟨x, σ, H1, I1, r1, q1⟩)
theorem r_if {c : Expr} {xs ys : List Stmt} (h : Ts X Γ S c fun k S1 => (k = true → Rns X Γ S1 xs W) ∧ (k = false → Rns X Γ S1 ys W)) : Rn X Γ S (.If c xs ys pos) W := by
 intro pins s σ H O I env ok
 refine wpAny_If (thn (h pins s σ H O I env ok) fun d s1 hq_ => ?_)
 obtain ⟨H1, I1, O1, S1, w, st1, ok1⟩ := hq_
 cases d with
 | true => exact thn (w.1 rfl pins s1 σ H1 O1 I1 (env.mono st1) ok1) fun _ _ q => SPpre st1 q
 | false => exact thn (w.2 rfl pins s1 σ H1 O1 I1 (env.mono st1) ok1) fun _ _ q => SPpre st1 q
theorem r_set (i : Nat) {x : Str} {pos' : Pos} (h : Ev X Γ S e fun d S1 => W.nx (Γ.set i (some d)) S1) (hN : X.N.Nodup) (hi : X.N[i]? = some x := by rfl) (hx : Loc X.env.scope x := by first | exact Or.inl rfl | exact Or.inr rfl)
 (hs : swapsWith e (some (.Name x pos')) pos.line X.env = pure false := by rfl) (hf : X.fn x = true ∨ X.env.scope.names.lookup x = some .local := by first | exact .inl rfl | exact .inr rfl) : Rn X Γ S (.Assign [.Name x pos'] e pos) W := by
 intro pins s σ H O I env ok
 refine wpAny_Assign_Name (thn (h pins s σ H O I env ok) fun v s1 hq_ => ?_) hs
 obtain ⟨y, H1, I1, r1, O1, d, S1, w, st1, ok1, rep1⟩ := hq_
 exact store_ok I1 hN hi hx r1 (fun s2 I2 => ⟨_, H1, I2, O1, _, S1, w, st1, ok1, (env.mono st1).set rep1 i⟩) hf
theorem r_expr (h : Ev X Γ S e fun d S1 => W.nx Γ S1) (hs : swapsWith e none pos.line X.env = pure false := by rfl) : Rn X Γ S (.Expr e pos) W := by
 intro pins s σ H O I env ok
 exact wpAny_Expr_any (thn (h pins s σ H O I env ok) fun v s1 ⟨x, H1, I1, r1, O1, d, S1, w, st1, ok1, rep1⟩ => ⟨σ, H1, I1, O1, Γ, S1, w, st1, ok1, env.mono st1⟩) I.quiet hs
def tE (K : PySem.W.Frag) (Γ : Gam) (S : Store) (W : WD) : TE := fun σ H Q => ∃ O, EnvOk K O H σ Γ ∧ StOk K O H S ∧ ∀ v H', QG K O H W v H' → Q v H'
theorem EPmono {pins : Pins} {σ : St} {Q Q' : VK} {u : Value} {s' : Shared} (q : EP X pins σ Q u s') (k : ∀ v H', Q v H' → Q' v H') : EP X pins σ Q' u s' := by
 obtain ⟨v, H', I, r, q⟩ := q
 exact ⟨v, H', I, r, k v H' q⟩
theorem Ev.pe {W : WD} (h : Ev X Γ S e W) : PE X e (tE X.K Γ S W) := fun pins s σ H Q I ⟨O, env, st, k⟩ => thn (h pins s σ H O I env st) fun _ _ q => EPmono q k
theorem r_setIx {o i : Expr} {tpos : Pos} (h : Ev X Γ S e fun d S1 => Ev X Γ S1 o fun x S2 => Ev X Γ S2 i fun y S3 => ∃ k n ds j, x = .loc k ∧ y = .int n ∧ S3[k]? = some ds ∧ ixN ds.length n = some j ∧ W.nx Γ (S3.set k (ds.set j d)))
 (ha : ∀ v, assign (.Subscript o i tpos) X.env v = (do
  let ov ← holding [v] (eval o X.env)
  let iv ← holding [v, ov] (eval i X.env)
  standAt tpos
  holding [v, ov, iv] (setItem ov iv v)
  release [v, ov, iv] []) := by intro _; rfl) (hs : swapsWithSole [.Subscript o i tpos] e pos.line X.env = pure false := by rfl) (hw : swappedStores [.Subscript o i tpos] e X.env = pure none := by rfl)
 (h1 : (assignEach [.Subscript o i tpos] X.env).map (·.2) = [assign (.Subscript o i tpos) X.env] := by rfl) : Rn X Γ S (.Assign [.Subscript o i tpos] e pos) W := by
 intro pins s σ H O I env ok
 refine wpAny_Assign_stores (thn (h pins s σ H O I env ok) fun u s1 hq_ => ?_) hs hw
 obtain ⟨v, H1, I1, r1, O1, d, S1, w1, st1, ok1, rep1⟩ := hq_
 rw [h1]
 show wpAny _ _ (assign (.Subscript o i tpos) X.env u) _ _ _
 rw [ha]
 refine wpAny_bind (wpAny_holding (thn (w1 pins s1 σ H1 O1 I1 (env.mono st1) ok1) fun ov s2 hq_ => ?_))
 obtain ⟨x, H2, I2, r2, O2, dx, S2, w2, st2, ok2, rep2⟩ := hq_
 refine wpAny_bind (wpAny_holding (thn (w2 pins s2 σ H2 O2 I2 ((env.mono st1).mono st2) ok2) fun iv s3 hq_ => ?_))
 obtain ⟨y, H3, I3, r3, O3, dy, S3, ⟨k, n, ds, j, ex, ey, hk, hj, w⟩, st3, ok3, rep3⟩ := hq_
 subst ex
 subst ey
 have rx := rep2.mono st3
 cases rx with
 | @loc p _ hp =>
   cases rep3
   obtain ⟨xs, hx, q⟩ := ok3.obj k p ds hp hk
   have rd := (rep1.mono st2).mono st3
   refine wpAny_bind (wpAny_standAt (wpAny_bind (wpAny_holding (thn (set_list pins s3 σ H3 _ _ v ov iv u (fun H' => H' = upd H3 p (.lst (xs.set j v))) I3 r2 r3 r1 ⟨p, xs, n, j, rfl, rfl, hx, by rw [q.length]; exact hj, rfl⟩) fun _ s4 hq_ => ?_))))
   obtain ⟨H4, I4, e4⟩ := hq_
   subst e4
   refine wpAny_release ⟨σ, _, I4, O3, Γ, _, w, ((st1.trans st2).trans st3).trans (Step.put (List.mem_of_getElem? hp) _), ok3.put hp (q.set rd j), (((env.mono st1).mono st2).mono st3).mono (Step.put (List.mem_of_getElem? hp) _)⟩
def BdW (X : Cx) (tg : Expr) (d : D) (Γ : Gam) (S : Store) (W : Gam → Store → Prop) : Prop :=
 ∀ (pins : Pins) (s : Shared) (σ : St) (H : Hp) (O : Own) (v : V) (u : Value), Inv X pins σ H s → EnvOk X.K O H σ Γ → StOk X.K O H S → Rep X.K O H v d → RelV v u →
   wpAny (model X.prog X.w) X.A (assign tg X.env u) (fun _ s' => ∃ σ' H', Inv X pins σ' H' s' ∧ QN X.K O H W σ' H') X.xe s
def BdsW (X : Cx) (ts : List Expr) (ds : List D) (Γ : Gam) (S : Store) (W : Gam → Store → Prop) : Prop :=
 ∀ (pins : Pins) (s : Shared) (σ : St) (H : Hp) (O : Own) (vs : List V) (us : List Value), Inv X pins σ H s → EnvOk X.K O H σ Γ → StOk X.K O H S → Reps X.K O H vs ds → Vals vs us →
   wpAny (model X.prog X.w) X.A (assignInOrder ((assignEach ts X.env).map (·.2)) us) (fun _ s' => ∃ σ' H', Inv X pins σ' H' s' ∧ QN X.K O H W σ' H') X.xe s
theorem bd_name (i : Nat) {x : Str} {d : D} {W : Gam → Store → Prop} (w : W (Γ.set i (some d)) S) (hN : X.N.Nodup) (hi : X.N[i]? = some x := by rfl) (hx : Loc X.env.scope x := by first | exact Or.inl rfl | exact Or.inr rfl)
 (hf : X.fn x = true ∨ X.env.scope.names.lookup x = some .local := by first | exact .inl rfl | exact .inr rfl) : BdW X (.Name x pos) d Γ S W := fun pins s σ H O v u I env st r ru =>
 wpAny_assign_Name (store_ok I hN hi hx ru (fun s' I' => ⟨_, H, I', O, _, S, w, Step.refl O H, st, env.set r i⟩) hf)
theorem bds_nil {W : Gam → Store → Prop} (w : W Γ S) : BdsW X [] [] Γ S W := fun pins s σ H O vs us I env st r ru => by
 cases r
 cases ru
 exact assignInOrder_nil ⟨σ, H, I, O, Γ, S, w, Step.refl O H, st, env⟩
theorem bds_cons {t : Expr} {ts : List Expr} {d : D} {ds : List D} {W : Gam → Store → Prop} (h : BdW X t d Γ S fun Γ1 S1 => BdsW X ts ds Γ1 S1 W)
 (hs : (assignEach (t :: ts) X.env).map (·.2) = assign t X.env :: (assignEach ts X.env).map (·.2) := by rfl) : BdsW X (t :: ts) (d :: ds) Γ S W := fun pins s σ H O vs us I env st r ru => by
 cases r with
 | cons r rr =>
   cases ru with
   | cons ru rru =>
     rw [hs]
     refine assignInOrder_cons (thn (h pins s σ H O _ _ I env st r ru) fun _ s1 hq_ => ?_)
     obtain ⟨σ1, H1, I1, O1, Γ1, S1, w, st1, ok1, env1⟩ := hq_
     refine thn (w pins s1 σ1 H1 O1 _ _ I1 env1 ok1 (rr.mono st1) rru) fun _ s2 ⟨σ2, H2, I2, q⟩ => ⟨σ2, H2, I2, QN.pre st1 q⟩
theorem bd_tup {ts : List Expr} {k : Nat} {ds : List D} {W : Gam → Store → Prop} (h : BdsW X ts ds Γ S W) (hc : X.calm = true := by rfl) (hn : (assignEach ts X.env).length = ds.length := by rfl) (hst : (assignEach ts X.env).findIdx? (·.1) = none := by rfl) : BdW X (.Tuple ts k pos) (.tup ds) Γ S W := fun pins s σ H O v u I env st r ru => by
 cases r with
 | @tup p xs _ h1 q1 =>
   cases ru
   obtain ⟨its, rv, ht, hz⟩ := I.tuple h1.sq
   refine assign_Tuple_tuple (I.ok.hd hc) ht (by simp [hn, ← q1.length, rv.length]) hst fun h' hx => ?_
   have I1 : Inv X pins σ H { s with heap := h' } := I.kept (t' := s.toks) fun b o e => hx b o (Nat.ne_of_lt (Heap.lt_size e)) e
   exact h pins _ σ H O xs _ I1 env st q1 (by simpa using rv)
def Yields (K : PySem.W.Frag) (J : It) (O : Own) (H : Hp) (ds : List D) : Prop :=
 ∀ (O' : Own) (H' : Hp), Conv O O' H H' → (∀ a, O'.has a → H' a ≠ none) → ∀ i : Nat, (∀ d, ds[i]? = some d → J.go i H' ∧ ∀ x H'', J.yld i H' x H'' → Same H' H'' ∧ Rep K O' H'' x d) ∧ (i = ds.length → J.stop i H')
def QI (K : PySem.W.Frag) (O : Own) (H : Hp) (W : List D → Store → Prop) : It → Hp → Prop := fun J H' => ∃ O' ds S', W ds S' ∧ Step O O' H H' ∧ StOk K O' H' S' ∧ Yields K J O' H' ds
def ItW (X : Cx) (Γ : Gam) (S : Store) (tg iter : Expr) (W : List D → Store → Prop) : Prop :=
 ∀ (pins : Pins) (s : Shared) (σ : St) (H : Hp) (O : Own), Inv X pins σ H s → EnvOk X.K O H σ Γ → StOk X.K O H S →
   wpAny (model X.prog X.w) X.A (eval iter X.env) (fun v s1 => wpAny (model X.prog X.w) X.A (pyIter v) (PIE X pins σ tg (QI X.K O H W)) X.xe s1) X.xe s
theorem yields_list {K : PySem.W.Frag} {O : Own} {H : Hp} {a : Addr} {xs : List V} {ds : List D} (h : Ls K O H a xs) (r : Reps K O H xs ds) : Yields K (Itl K a) O H ds := by
 intro O' H' st _ i
 have hq := (h.conv st).sq
 refine ⟨fun d hd => ?_, fun hi => ⟨xs, hq, by rw [r.length]; exact Nat.le_of_eq hi.symm⟩⟩
 obtain ⟨v, hv, rv⟩ := r.get hd
 refine ⟨⟨xs, v, hq, hv⟩, fun x H'' y => ?_⟩
 obtain ⟨e, y⟩ := y
 subst e
 have e := y xs hq
 rw [hv] at e
 cases e
 exact ⟨Same.refl _, rv.conv st⟩
theorem yields_tup {K : PySem.W.Frag} {O : Own} {H : Hp} {a : Addr} {xs : List V} {ds : List D} (h : Tp K O H a xs) (r : Reps K O H xs ds) : Yields K (Itt K a) O H ds := by
 intro O' H' st _ i
 have hq := (h.conv st).sq
 refine ⟨fun d hd => ?_, fun hi => ⟨xs, hq, by rw [r.length]; exact Nat.le_of_eq hi.symm⟩⟩
 obtain ⟨v, hv, rv⟩ := r.get hd
 refine ⟨⟨xs, v, hq, hv⟩, fun x H'' y => ?_⟩
 obtain ⟨e, y⟩ := y
 subst e
 have e := y xs hq
 rw [hv] at e
 cases e
 exact ⟨Same.refl _, rv.conv st⟩
def upTo (lo : Int) (n : Nat) : List D := (List.range n).map fun (k : Nat) => D.int (lo + (k : Int))
theorem upTo_length (lo : Int) (n : Nat) : (upTo lo n).length = n := by simp [upTo]
theorem upTo_get {lo : Int} {n i : Nat} {d : D} (h : (upTo lo n)[i]? = some d) : i < n ∧ d = .int (lo + i) := by
 unfold upTo at h
 rw [List.getElem?_map] at h
 cases e : (List.range n)[i]? with
 | none => rw [e] at h; cases h
 | some k =>
   rw [e] at h
   obtain ⟨hl, hk⟩ := List.getElem?_eq_some_iff.mp e
   simp at hl hk
   subst hk
   cases h
   exact ⟨hl, rfl⟩
theorem yields_range {K : PySem.W.Frag} {O : Own} {H : Hp} (lo : Int) (n : Nat) : Yields K (Itr lo n) O H (upTo lo n) := by
 intro O' H' st _ i
 refine ⟨fun d hd => ?_, fun hi => by rw [upTo_length] at hi; exact Nat.le_of_eq hi.symm⟩
 obtain ⟨hi, ed⟩ := upTo_get hd
 subst ed
 refine ⟨hi, fun x H'' y => ?_⟩
 obtain ⟨e, ex⟩ := y
 subst e
 subst ex
 exact ⟨Same.refl _, .int _⟩
theorem it_range1 {tg a : Expr} {p : Pos} {W : List D → Store → Prop} (h : Ev X Γ S a fun d S1 => ∃ j : Int, d = .int j ∧ -(2 ^ 62) ≤ j ∧ j < 2 ^ 62 ∧ W (upTo 0 j.toNat) S1) (hm : X.mg "range" = none) (hg : Gl X "range" := by rfl) (hs : starEach [a] X.env = [(false, eval a X.env)] := by rfl) :
 ItW X Γ S tg (.Call (.Name "range" p) [a] [] pos) W := by
 intro pins s σ H O I env st
 refine pi_range1 hg hm (pa_cons h.pe pa_nil hs) hs pins s σ H _ I ⟨O, env, st, fun v H' q => ?_⟩
 obtain ⟨O', d, S', ⟨j, ed, h1, h2, w⟩, st1, ok1, rep⟩ := q
 subst ed
 cases rep
 exact ⟨j, rfl, h1, h2, O', _, S', w, st1, ok1, yields_range 0 _⟩
theorem r_for {tg iter : Expr} {body : List Stmt} (h : ItW X Γ S tg iter fun ds S1 => ∃ Pv : Nat → Gam → Store → Prop, Pv 0 Γ S1 ∧
 (∀ i d Γ' S', ds[i]? = some d → Pv i Γ' S' → BdW X tg d Γ' S' fun Γ2 S2 => Rns X Γ2 S2 body { W with nx := Pv (i + 1), ct := Pv (i + 1), bk := W.nx }) ∧ (∀ Γ' S', Pv ds.length Γ' S' → W.nx Γ' S'))
 (hp : PassesOwn (model X.prog X.w) X.A X.env X.xe := by exact PassesOwn.never) (hc : X.calm = true := by rfl) (hs : ∀ x, foldedSetIterable iter X.env x = pure x := by intro _; rfl) : Rn X Γ S (.For tg iter body [] pos) W := by
 intro pins s σ H O I env ok
 let WI : List D → Store → Prop := fun ds S1 => ∃ Pv : Nat → Gam → Store → Prop, Pv 0 Γ S1 ∧
     (∀ i d Γ' S', ds[i]? = some d → Pv i Γ' S' → BdW X tg d Γ' S' fun Γ2 S2 => Rns X Γ2 S2 body { W with nx := Pv (i + 1), ct := Pv (i + 1), bk := W.nx }) ∧ (∀ Γ' S', Pv ds.length Γ' S' → W.nx Γ' S')
 have hI : PI X tg iter (fun σ H R => ∃ O, EnvOk X.K O H σ Γ ∧ StOk X.K O H S ∧ ∀ J H', QI X.K O H WI J H' → R J H') := fun pins s σ H R I ⟨O, env, st, k⟩ =>
  thn (h pins s σ H O I env st) fun _ _ q => thn q fun _ _ ⟨it, fp, tn, J, H', e1, e2, e3, e4, e5, e6⟩ => ⟨it, fp, tn, J, H', e1, e2, e3, e4, e5, k J H' e6⟩
 have hG : PG X tg (fun v σ H Q => ∃ O d Γ S W', EnvOk X.K O H σ Γ ∧ StOk X.K O H S ∧ Rep X.K O H v d ∧ BdW X tg d Γ S W' ∧ ∀ σ' H', QN X.K O H W' σ' H' → Q σ' H') := fun pins s σ H v u Q I ru ⟨O, d, Γ, S, W', env, st, r, b, k⟩ =>
  thn (b pins s σ H O v u I env st r ru) fun _ _ ⟨σ', H', I', q⟩ => ⟨σ', H', I', k σ' H' q⟩
 have hB : PSs X body (fun D σ H => ∃ O Γ S W', EnvOk X.K O H σ Γ ∧ StOk X.K O H S ∧ Rns X Γ S body W' ∧ (∀ σ' H', QN X.K O H W'.nx σ' H' → D.nx σ' H') ∧ (∀ v H', QG X.K O H W'.rt v H' → D.rt v H') ∧ (∀ σ' H', QN X.K O H W'.bk σ' H' → D.bk σ' H') ∧ ∀ σ' H', QN X.K O H W'.ct σ' H' → D.ct σ' H') :=
  fun pins s σ H D I ⟨O, Γ, S, W', env, st, b, k1, k2, k3, k4⟩ => thn (b pins s σ H O I env st) fun f s' q => by
   cases f with
   | next => obtain ⟨σ', H', I', q⟩ := q; exact ⟨σ', H', I', k1 σ' H' q⟩
   | brk => obtain ⟨σ', H', I', q⟩ := q; exact ⟨σ', H', I', k3 σ' H' q⟩
   | cont => obtain ⟨σ', H', I', q⟩ := q; exact ⟨σ', H', I', k4 σ' H' q⟩
   | ret u => obtain ⟨v, σ', H', I', r, q⟩ := q; exact ⟨v, σ', H', I', r, k2 v H' q⟩
 refine ps_for hp hc hI hG hB hs pins s σ H _ I ⟨O, env, ok, fun J H1 q => ?_⟩
 obtain ⟨O1, ds, S1, ⟨Pv, p0, pt, pe⟩, st1, ok1, yl⟩ := q
 refine ⟨fun i m σ' H' => m = ds.length - i ∧ i ≤ ds.length ∧ ∃ O' Γ' S', Pv i Γ' S' ∧ Step O1 O' H1 H' ∧ StOk X.K O' H' S' ∧ EnvOk X.K O' H' σ' Γ', ⟨ds.length, by simp, Nat.zero_le _, O1, Γ, S1, p0, Step.refl _ _, ok1, env.mono st1⟩, ?_⟩
 rintro i m σ2 H2 ⟨rfl, hi, O2, Γ2, S2, p2, st2, ok2, env2⟩
 obtain ⟨y1, y2⟩ := yl O2 H2 st2.conv (fun a ha => ok2.tracked ha) i
 by_cases hlt : i < ds.length
 · obtain ⟨go, yy⟩ := y1 ds[i] (List.getElem?_eq_getElem hlt)
   refine .inr ⟨go, fun σ' H' => i + 1 ≤ ds.length ∧ ∃ O' Γ' S', Pv (i + 1) Γ' S' ∧ Step O1 O' H1 H' ∧ StOk X.K O' H' S' ∧ EnvOk X.K O' H' σ' Γ', fun σ' H' q => ⟨ds.length - (i + 1), by omega, rfl, q.1, q.2⟩, fun x H3 y => ?_⟩
   obtain ⟨sm, rx⟩ := yy x H3 y
   have st3 := Step.same (O := O2) sm
   refine ⟨O2, ds[i], Γ2, S2, _, env2.mono st3, ok2.same sm, rx, pt i ds[i] Γ2 S2 (List.getElem?_eq_getElem hlt) p2, fun σ4 H4 q4 => ?_⟩
   obtain ⟨O4, Γ4, S4, w4, st4, ok4, env4⟩ := q4
   have stA := (st2.trans st3).trans st4
   refine ⟨O4, Γ4, S4, _, env4, ok4, w4, ?_, ?_, ?_, ?_⟩
   · rintro σ5 H5 ⟨O5, Γ5, S5, w5, st5, ok5, env5⟩
     exact ⟨hlt, O5, Γ5, S5, w5, stA.trans st5, ok5, env5⟩
   · exact fun v H' q => QG.pre (st1.trans stA) q
   · exact fun σ' H' q => QN.pre (st1.trans stA) q
   · rintro σ5 H5 ⟨O5, Γ5, S5, w5, st5, ok5, env5⟩
     exact ⟨hlt, O5, Γ5, S5, w5, stA.trans st5, ok5, env5⟩
 · have e : i = ds.length := by omega
   subst e
   exact .inl ⟨y2 rfl, O2, Γ2, S2, pe Γ2 S2 p2, st1.trans st2, ok2, env2⟩
theorem fn_ok {P : Program} {w : World} {K : PySem.W.Frag} {mg : Str → Option Value} {base : Heap} {x qual : Str} {sm : Stmt} {f : Addr} {fd : FuncData} {N ps : List Str} {k : Nat} {F : Ct} (FF : Fun K x qual sm f fd) (SC : FnScope N ps (defScope sm))
 (body : ∀ (cdv : Value) (A : Around) (outer : List Env) (s : Shared) (H : Hp) (E : XK) (ds : List D) (S : Store) (W : WD), Room k (A.deeper (envOfC qual (defScope sm) s.heap.objs.size f cdv)) → ds.length = ps.length → F ds S W →
  Rns (cxOf CX0 P w K mg base N qual (defScope sm) f cdv A outer s H E).nox (ds.map some ++ List.replicate (N.length - ds.length) none) S (defBody sm) { nx := fun _ S1 => W .non S1, rt := W }) : FnOk P w K mg base CX0 (k + 1) f fd ps (spC K ps.length F) := by
 refine FF.ok SC (fun vs H Q E h => ?_) (fun cdv A outer s H vs Q E hr h => ?_)
 · obtain ⟨O, ds, S, W, hl, r, _⟩ := h
   rw [r.length, hl]
 · obtain ⟨O, ds, S, W, hl, r, st, hF, q⟩ := h
   have hB := body cdv A outer s H E ds S W hr hl hF
   refine ⟨fun D σ H' => ∃ O Γ S W', EnvOk K O H' σ Γ ∧ StOk K O H' S ∧ Rns (cxOf CX0 P w K mg base N qual (defScope sm) f cdv A outer s H E).nox Γ S (defBody sm) W' ∧ (∀ σ' H2, QN K O H' W'.nx σ' H2 → D.nx σ' H2) ∧ (∀ v H2, QG K O H' W'.rt v H2 → D.rt v H2) ∧ (∀ σ' H2, QN K O H' W'.bk σ' H2 → D.bk σ' H2) ∧ ∀ σ' H2, QN K O H' W'.ct σ' H2 → D.ct σ' H2, ?_, ?_⟩
   · intro pins s σ H' D I ⟨O, Γ, S, W', env, st, b, k1, k2, k3, k4⟩
     refine thn (b pins s σ H' O I env st) fun f s' q => ?_
     cases f with
     | next => obtain ⟨σ', H', I', q⟩ := q; exact ⟨σ', H', I', k1 σ' H' q⟩
     | brk => obtain ⟨σ', H', I', q⟩ := q; exact ⟨σ', H', I', k3 σ' H' q⟩
     | cont => obtain ⟨σ', H', I', q⟩ := q; exact ⟨σ', H', I', k4 σ' H' q⟩
     | ret u => obtain ⟨v, σ', H', I', r, q⟩ := q; exact ⟨v, σ', H', I', r, k2 v H' q⟩
   · refine ⟨O, _, S, _, ?_, st, hB, ?_, ?_, ?_, ?_⟩
     · have hv : vs.length = ds.length := r.length
       refine ⟨by simp [L2.start, hv], fun i d h => ?_⟩
       by_cases hi : i < ds.length
       · rw [List.getElem?_append_left (by simpa using hi), List.getElem?_map] at h
         cases e : ds[i]? with
         | none => rw [e] at h; cases h
         | some d' =>
           rw [e] at h
           cases h
           obtain ⟨v, hv', rv⟩ := r.get e
           refine ⟨v, ?_, rv⟩
           unfold L2.start
           rw [List.getElem?_append_left (by rw [List.length_map, hv]; exact hi), List.getElem?_map, hv']
           rfl
       · rw [List.getElem?_append_right (by simpa using hi), List.getElem?_replicate] at h
         split at h <;> cases h
     · rintro σ' H2 ⟨O', Γ', S', w, st', ok', _⟩
       exact q _ _ ⟨O', .non, S', w, st', ok', .non⟩
     · exact fun v H2 z => q v H2 z
     · rintro σ' H2 ⟨_, _, _, w, _⟩
       exact w.elim
     · rintro σ' H2 ⟨_, _, _, w, _⟩
       exact w.elim
end
end DL
namespace DL
open PySem PySem.Spec L2
open PyProof.Rows
def rk (env : Env) (n : Str) (k : NameKind) : NameKind := if (k == NameKind.free && env.scope.kind == .function && env.kindOf n == some .cell) = true then .cell else k
theorem rk_names (sc : Scope) (env : Env) : (relabel sc env).names = sc.names.map fun p => (p.1, rk env p.1 p.2) := by
 show sc.names.map _ = _
 congr 1
 funext p
 obtain ⟨n, k⟩ := p
 unfold rk
 by_cases h : (k == NameKind.free && env.scope.kind == .function && env.kindOf n == some .cell) = true
 · simp only [h, if_true]
 · simp only [h, if_false, Bool.false_eq_true]
theorem map_lookup (g : Str → NameKind → NameKind) (x : Str) : ∀ names : List (Str × NameKind), (names.map fun p => (p.1, g p.1 p.2)).lookup x = (names.lookup x).map (g x)
 | [] => rfl
 | (n, k) :: r => by
   have ih := map_lookup g x r
   rw [List.map_cons, List.lookup_cons, List.lookup_cons]
   cases hx : x == n with
   | true => rw [eq_of_beq hx]; rfl
   | false => exact ih
theorem rk_cases (env : Env) (n : Str) (k : NameKind) : rk env n k = k ∨ (k = .free ∧ rk env n k = .cell) := by
 unfold rk
 by_cases h : (k == NameKind.free && env.scope.kind == .function && env.kindOf n == some .cell) = true
 · rw [if_pos h]
   rw [Bool.and_eq_true, Bool.and_eq_true] at h
   exact .inr ⟨eq_of_beq h.1.1, rfl⟩
 · rw [if_neg h]; exact .inl rfl
theorem relabel_lookup {env : Env} {sc : Scope} {x : Str} {k : NameKind} (h : (relabel sc env).names.lookup x = some k) : ∃ k0, sc.names.lookup x = some k0 ∧ (k = k0 ∨ (k0 = .free ∧ k = .cell)) := by
 rw [rk_names, map_lookup] at h
 cases e : sc.names.lookup x with
 | none => rw [e] at h; cases h
 | some k0 =>
   rw [e] at h
   have h' : rk env x k0 = k := Option.some.inj h
   refine ⟨k0, rfl, ?_⟩
   rcases rk_cases env x k0 with q | ⟨q1, q2⟩
   · exact .inl (h'.symm.trans q)
   · exact .inr ⟨q1, h'.symm.trans q2⟩
theorem relabel_free {env : Env} {sc : Scope} {x : Str} (h : sc.names.lookup x = some .free) : (relabel sc env).names.lookup x = some .cell ∨ (relabel sc env).names.lookup x = some .free := by
 rw [rk_names, map_lookup, h]
 rcases rk_cases env x .free with q | ⟨_, q⟩
 · exact .inr (congrArg some q)
 · exact .inl (congrArg some q)
def closes (env : Env) : List (Str × NameKind) → List (Str × Addr) → List (Str × Addr)
 | [], cs => cs
 | (n, k) :: r, cs => closes env r (if k == .free then (n, (env.cells.lookup n).getD 0) :: cs else cs)
theorem closure_run {env : Env} : ∀ (names : List (Str × NameKind)) (cs : List (Str × Addr)), (∀ y ∈ names, y.2 = .free → ∃ c, env.cells.lookup y.1 = some c) →
 (forIn (m := Sem) names cs fun x r => if (x.2 == .free) = true then do let a ← cellOf env x.1; pure (ForInStep.yield ((x.1, a) :: r)) else pure (ForInStep.yield r)) = pure (closes env names cs)
 | [], cs, _ => by rw [List.forIn_nil]; rfl
 | (n, k) :: r, cs, h => by
   rw [List.forIn_cons]
   have ih := fun cs => closure_run (env := env) r cs fun y hy => h y (List.mem_cons_of_mem _ hy)
   by_cases hk : (k == NameKind.free) = true
   · obtain ⟨c, hc⟩ := h (n, k) List.mem_cons_self (eq_of_beq hk)
     have hc' : env.cells.lookup n = some c := hc
     have e : cellOf env n = pure c := by unfold cellOf; rw [hc']
     have q := ih ((n, c) :: cs)
     simp only [hk, if_true, e, pure_bind]
     rw [q]
     simp [closes, hk, hc']
   · have q := ih cs
     simp only [hk, if_false, pure_bind, Bool.false_eq_true]
     rw [q]
     simp [closes, hk]
theorem closureFor_eq {env : Env} {sc : Scope} (h : ∀ y ∈ sc.names, y.2 = .free → ∃ c, env.cells.lookup y.1 = some c) : closureFor sc env = pure (closes env sc.names []) := by
 have q := closure_run (env := env) sc.names [] h
 unfold closureFor
 first
  | (simp only [bind_pure]; exact q)
  | (rw [show (forIn sc.names ([] : List (Str × Addr)) _ : Sem _) = _ from q]; rfl)
  | (refine Eq.trans (congrArg (fun t => t >>= pure) q) ?_; simp)
theorem closes_look {env : Env} {x : Str} {c : Addr} : ∀ (names : List (Str × NameKind)) (cs : List (Str × Addr)), (∀ y ∈ names, y.2 = .free → ∃ c, env.cells.lookup y.1 = some c) → (∀ c, cs.lookup x = some c → env.cells.lookup x = some c) → (closes env names cs).lookup x = some c → env.cells.lookup x = some c
 | [], cs, _, hc, h => hc c h
 | (n, k) :: r, cs, hf, hc, h => by
   refine closes_look r _ (fun y hy => hf y (List.mem_cons_of_mem _ hy)) ?_ h
   intro c' h'
   by_cases hk : (k == NameKind.free) = true
   · rw [if_pos hk] at h'
     obtain ⟨c2, h2⟩ := hf (n, k) List.mem_cons_self (eq_of_beq hk)
     have h2 : env.cells.lookup n = some c2 := h2
     rw [List.lookup_cons] at h'
     cases hx : x == n with
     | true =>
       rw [hx, h2] at h'
       have e : x = n := eq_of_beq hx
       subst e
       simp only [Option.getD_some] at h'
       cases h'
       exact h2
     | false => rw [hx] at h'; exact hc c' h'
   · rw [if_neg hk] at h'
     exact hc c' h'
theorem closes_has {env : Env} {x : Str} : ∀ (names : List (Str × NameKind)) (cs : List (Str × Addr)), ((∃ c, cs.lookup x = some c) ∨ names.lookup x = some .free) → ∃ c, (closes env names cs).lookup x = some c
 | [], cs, h => by
   rcases h with h | h
   · exact h
   · simp at h
 | (n, k) :: r, cs, h => by
   refine closes_has r _ ?_
   rcases h with ⟨c, h⟩ | h
   · refine .inl ?_
     by_cases hk : (k == NameKind.free) = true
     · rw [if_pos hk, List.lookup_cons]
       cases hx : x == n with
       | true => exact ⟨_, rfl⟩
       | false => exact ⟨c, h⟩
     · rw [if_neg hk]; exact ⟨c, h⟩
   · rw [List.lookup_cons] at h
     cases hx : x == n with
     | true =>
       rw [hx] at h
       simp only at h
       cases h
       refine .inl ⟨(env.cells.lookup n).getD 0, ?_⟩
       simp [List.lookup_cons, hx]
     | false => rw [hx] at h; exact .inr h
def blkCx (X : Cx) (sc : Scope) (N : List Str) (C : Addr) (s : Shared) (H : Hp) (ex : List Addr) : Cx :=
 { X with N := N, s₀ := s, H₀ := H, env := compEnvC sc (closes X.env sc.names []) C X.env, outer := X.stack, stack := X.stack, ex := ex, fn := fun _ => false, pn := [] }
def capt {α : Type} (cap : List (Option Nat)) (xs : List (Option α)) : List (Option α) := cap.map fun o => o.bind fun j => (xs[j]?).join
def capOk (N : List Str) (names : List (Str × NameKind)) (N' : List Str) (names' : List (Str × NameKind)) : List (Option Nat) → List Str → Bool
 | [], [] => true
 | none :: r, _ :: t => capOk N names N' names' r t
 | some j :: r, x :: t => (N[j]? == some x) && (names.lookup x == some .cell || names.lookup x == some .free) && (names'.lookup x == some .free) && capOk N names N' names' r t
 | _, _ => false
theorem capOk_len {N : List Str} {names : List (Str × NameKind)} {N' : List Str} {names' : List (Str × NameKind)} : ∀ {cap : List (Option Nat)} {t : List Str}, capOk N names N' names' cap t = true → cap.length = t.length
 | [], [], _ => rfl
 | [], _ :: _, h => by simp [capOk] at h
 | _ :: _, [], h => by
   rename_i o r
   cases o <;> simp [capOk] at h
 | none :: r, _ :: t, h => by simp only [capOk] at h; simp [capOk_len h]
 | some j :: r, x :: t, h => by
   simp only [capOk, Bool.and_eq_true] at h
   simp [capOk_len h.2]
theorem capOk_at {N : List Str} {names : List (Str × NameKind)} {N' : List Str} {names' : List (Str × NameKind)} : ∀ {cap : List (Option Nat)} {t : List Str} {i j : Nat}, capOk N names N' names' cap t = true → cap[i]? = some (some j) →
 ∃ x, t[i]? = some x ∧ N[j]? = some x ∧ (names.lookup x = some .cell ∨ names.lookup x = some .free) ∧ names'.lookup x = some .free
 | [], _, _, _, _, h => by simp at h
 | none :: r, [], _, _, h, _ => by simp [capOk] at h
 | some _ :: r, [], _, _, h, _ => by simp [capOk] at h
 | none :: r, x :: t, 0, j, _, h => by simp at h
 | none :: r, x :: t, i + 1, j, h, e => by
   simp only [capOk] at h
   obtain ⟨y, a, b⟩ := capOk_at (i := i) h (by simpa using e)
   exact ⟨y, by simpa using a, b⟩
 | some k :: r, x :: t, 0, j, h, e => by
   simp only [capOk, Bool.and_eq_true, Bool.or_eq_true, beq_iff_eq] at h
   simp at e
   subst e
   exact ⟨x, rfl, h.1.1.1, h.1.1.2, h.1.2⟩
 | some k :: r, x :: t, i + 1, j, h, e => by
   simp only [capOk, Bool.and_eq_true] at h
   obtain ⟨y, a, b⟩ := capOk_at (i := i) h.2 (by simpa using e)
   exact ⟨y, by simpa using a, b⟩
theorem capt_at {α : Type} {cap : List (Option Nat)} {xs : List (Option α)} {i : Nat} {d : α} (h : (capt cap xs)[i]? = some (some d)) : ∃ j, cap[i]? = some (some j) ∧ xs[j]? = some (some d) := by
 unfold capt at h
 rw [List.getElem?_map] at h
 cases e : cap[i]? with
 | none => rw [e] at h; cases h
 | some o =>
   rw [e] at h
   cases o with
   | none => simp at h
   | some j =>
     simp at h
     refine ⟨j, rfl, ?_⟩
     cases q : xs[j]? with
     | none => rw [q] at h; cases h
     | some z => rw [q] at h; simp at h; rw [h]
theorem EnvOk.capt {K : PySem.W.Frag} {O : Own} {H : Hp} {σ : St} {Γ : Gam} (e : EnvOk K O H σ Γ) (cap : List (Option Nat)) : EnvOk K O H (capt cap σ) (capt cap Γ) := by
 refine ⟨by simp [DL.capt], fun i d h => ?_⟩
 obtain ⟨j, hj, hd⟩ := capt_at h
 obtain ⟨v, hv, r⟩ := e.at_ j d hd
 refine ⟨v, ?_, r⟩
 unfold DL.capt
 rw [List.getElem?_map, hj]
 simp [hv]
def Sub (Γ Γ' : Gam) : Prop := Γ.length = Γ'.length ∧ ∀ (i : Nat) (d : D), Γ[i]? = some (some d) → Γ'[i]? = some (some d)
theorem Sub.refl (Γ : Gam) : Sub Γ Γ := ⟨rfl, fun _ _ h => h⟩
theorem Sub.set {Γ Γ' : Gam} (s : Sub Γ Γ') (i : Nat) (d : Option D) (h : Γ[i]? = some none := by rfl) : Sub Γ (Γ'.set i d) := ⟨by rw [List.length_set]; exact s.1, fun j c hj => by
 have ne : i ≠ j := fun e => by subst e; rw [h] at hj; cases hj
 rw [List.getElem?_set_ne ne]; exact s.2 j c hj⟩
theorem EnvOk.sub {K : PySem.W.Frag} {O : Own} {H : Hp} {σ : St} {Γ Γ' : Gam} (e : EnvOk K O H σ Γ') (s : Sub Γ Γ') : EnvOk K O H σ Γ := ⟨e.len.trans s.1.symm, fun i d h => e.at_ i d (s.2 i d h)⟩
theorem EnvOk.conv {K : PySem.W.Frag} {O O' : Own} {H H' : Hp} {σ : St} {Γ : Gam} (e : EnvOk K O H σ Γ) (s : Conv O O' H H') : EnvOk K O' H' σ Γ :=
 ⟨e.len, fun i d h => let ⟨v, a, b⟩ := e.at_ i d h; ⟨v, a, b.conv s⟩⟩
def freeOk (names names' : List (Str × NameKind)) : Bool := names'.all fun y => !(y.2 == .free) || (names.lookup y.1 == some .cell || names.lookup y.1 == some .free)
theorem freeOk_at {names names' : List (Str × NameKind)} (h : freeOk names names' = true) : ∀ y ∈ names', y.2 = .free → names.lookup y.1 = some .cell ∨ names.lookup y.1 = some .free := fun y hy e => by
 have q := List.all_eq_true.mp h y hy
 simp only [e, beq_self_eq_true, Bool.not_true, Bool.false_or, Bool.or_eq_true, beq_iff_eq] at q
 exact q
section
variable {X : Cx}
theorem blk_inv {pins : Pins} {σ : St} {H : Hp} {s : Shared} {sc : Scope} {N' : List Str} {cap : List (Option Nat)} {fp : List Addr} {h1 : Heap} {t : Nat} (I : Inv X pins σ H s) (hfp : ∀ b ∈ fp, FpOk X pins H b) (hob : ∀ b ∈ fp, ∃ o, s.heap.get? b = some o)
 (hkind : sc.kind = .function) (hcell : ∀ y ∈ sc.names, y.2 ≠ .cell) (hfree : ∀ y ∈ sc.names, y.2 = .free → X.env.kindOf y.1 = some .cell ∨ X.env.kindOf y.1 = some .free) (hcap : capOk X.N X.env.scope.names N' sc.names cap N' = true)
 (k : ∀ b u, s.heap.get? b = some u → h1.get? b = some u) (hD : h1.get? s.heap.objs.size = some { cls := .type "list", data := .seq #[] 0 }) (hC : ∃ m, h1.Ns (s.heap.objs.size + 1) m) :
 Inv (blkCx X sc N' (s.heap.objs.size + 1) s H fp) [] (capt cap σ) (upd H s.heap.objs.size (.lst [])) { s with heap := h1, toks := t } := by
 have fr0 : H s.heap.objs.size = none := I.hok.fresh (Nat.le_refl _)
 have fr1 : H (s.heap.objs.size + 1) = none := I.hok.fresh (Nat.le_succ _)
 have hf : ∀ y ∈ sc.names, y.2 = .free → ∃ c, X.env.cells.lookup y.1 = some c := fun y hy e => I.ok.has y.1 (hfree y hy e)
 have look : ∀ {x c}, (closes X.env sc.names []).lookup x = some c → X.env.cells.lookup x = some c := fun {x c} h => closes_look sc.names [] hf (fun c h => by simp at h) h
 have lt : ∀ b ∈ fp, b < s.heap.objs.size := fun b hb => let ⟨o, e⟩ := hob b hb; Heap.lt_size e
 have clt : ∀ {x c}, (closes X.env sc.names []).lookup x = some c → c < s.heap.objs.size := fun {x c} h => by
  obtain ⟨v, q⟩ := I.cell x c (look h)
  exact q.lt
 refine ⟨⟨I.ok.mod, hkind, I.ok.glob, I.ok.blt, Nat.le_succ _, fun x y c a b => I.ok.inj x y c (look a) (look b), fun x hx => ?_, fun x c z => (nomatch z), I.ok.hd, I.ok.frames, .inl rfl, fun b hb => ⟨Nat.ne_of_lt (Nat.lt_succ_of_lt (lt b hb)), fun x c h => (hfp b hb).2.2.2.2.1 x c (look h)⟩,
  I.bs, Nat.le_trans I.ok.bsz I.sz, fun b o e hb => ?_, fun b hb z => ?_, I.stack, I.stkFree⟩, rfl, I.bare, Un.laid k (Nat.le_refl _) fr0, ?_, fun x c h => ?_, ?_, fun x c h => ?_, fun p hp => absurd (show p ∈ ([] : Pins) from hp) (by simp), I.hok.laid k (Nat.le_refl _) ⟨Nat.zero_le _, [], 0, .nil, hD⟩, ?_⟩
 · have hx' : (relabel sc X.env).names.lookup x = some .cell ∨ (relabel sc X.env).names.lookup x = some .free := hx
   have z : sc.names.lookup x = some .free := by
    rcases hx' with q | q
    · obtain ⟨k0, e, r⟩ := relabel_lookup q
      rcases r with r | r
      · exact absurd r.symm (hcell _ (PySem.mem_of_lookup e))
      · rw [e, r.1]
    · obtain ⟨k0, e, r⟩ := relabel_lookup q
      rcases r with r | r
      · rw [e, r]
      · exact absurd r.2 (by decide)
   exact closes_has sc.names [] (.inr z)
 · rcases (hfp b hb).2.2.2.1 with z | z
   · exact I.ok.noex b o e z
   · exact absurd (Nat.lt_of_lt_of_le (Heap.lt_size e) (Nat.le_trans I.ok.bsz z)) (Nat.lt_irrefl _)
 · rcases List.mem_cons.mp (I.stkSub b z) with q | q
   · exact (hfp b hb).2.1 q
   · exact (hfp b hb).2.2.1 q
 · obtain ⟨m, hm⟩ := hC
   refine ⟨m, hm, fun i x v e1 e2 e3 => ?_⟩
   obtain ⟨j, hj, hv⟩ := capt_at e2
   obtain ⟨y, a, b, c, d⟩ := capOk_at hcap hj
   have e1' : N'[i]? = some x := e1
   rw [a] at e1'
   cases e1'
   obtain ⟨m0, hn0, hl⟩ := I.loc
   have vis : Vis X.env.scope x := by
    rcases c with c | c
    · exact .inr (.inl c)
    · exact .inr (.inr c)
   obtain ⟨u, r, l⟩ := hl j x v b hv vis
   refine ⟨u, r, ?_⟩
   rcases l with ⟨q, _⟩ | ⟨q, cc, hc, hcell'⟩
   · exfalso
     have q' : X.env.scope.names.lookup x = some .local := q
     rcases c with c | c <;> · rw [c] at q'; cases q'
   · obtain ⟨c2, h2⟩ := closes_has (env := X.env) sc.names [] (.inr d)
     have e := look h2
     rw [hc] at e
     cases e
     obtain ⟨o, ho, hd⟩ := hcell'
     refine .inr ⟨?_, cc, h2, ⟨o, k _ _ ho, hd⟩⟩
     exact relabel_free d
 · obtain ⟨v, o, ho, hd⟩ := I.cell x c (look h)
   exact ⟨v, o, k _ _ ho, hd⟩
 · show upd H s.heap.objs.size (.lst []) (s.heap.objs.size + 1) = none
   rw [upd_ne (Nat.succ_ne_self _)]; exact fr1
 · rw [upd_ne (Nat.ne_of_lt (clt h))]; exact I.freeC x c (look h)
 · show (capt cap σ).length = N'.length
   rw [← capOk_len hcap]
   simp [capt]
theorem noXe {α : Type} {t : Sem α} {Q : α → Shared → Prop} {s : Shared} {M : Model} {A : Around} {E E' : Value → Shared → Prop} (hx : E = fun _ _ => False) (h : wpAny M A t Q E s) : wpAny M A t Q E' s := wpAny_mono h (fun _ _ q => q) fun _ _ z => by rw [hx] at z; exact z.elim
def TsA (X : Cx) (Γ : Gam) (S : Store) : List Expr → (Bool → Store → Prop) → Prop
 | [], W => W true S
 | [c], W => Ts X Γ S c W
 | _, _ => False
theorem tsA_run {X : Cx} {Γ : Gam} {S : Store} {ifs : List Expr} {W : Bool → Store → Prop} (h : TsA X Γ S ifs W) {pins : Pins} {s : Shared} {σ : St} {H : Hp} {O : Own} (I : Inv X pins σ H s) (env : EnvOk X.K O H σ Γ) (st : StOk X.K O H S) :
 wpAny (model X.prog X.w) X.A (forIn ifs true fun c r => if r = true then do let ok ← isTrue c X.env (eval c X.env); pure (ForInStep.yield ok) else pure (ForInStep.yield r)) (TP X pins σ (QT X.K O H W)) X.xe s := by
 match ifs, h with
 | [], h => exact wpAny_tests_nil ⟨H, I, O, S, h, Step.refl O H, st⟩
 | [c], h => exact wpAny_tests_one (h pins s σ H O I env st)
 | _ :: _ :: _, h => exact h.elim
def YieldsC (K : PySem.W.Frag) (J : It) (O : Own) (H : Hp) (C : Store → Prop) (ds : List D) : Prop :=
 ∀ (O' : Own) (H' : Hp) (S' : Store), Conv O O' H H' → StOk K O' H' S' → C S' → ∀ i : Nat, (∀ d, ds[i]? = some d → J.go i H' ∧ ∀ x H'', J.yld i H' x H'' → Same H' H'' ∧ Rep K O' H'' x d) ∧ (i = ds.length → J.stop i H')
def QIc (K : PySem.W.Frag) (O : Own) (H : Hp) (W : List D → (Store → Prop) → Store → Prop) : It → Hp → Prop := fun J H' => ∃ O' ds C S', W ds C S' ∧ Step O O' H H' ∧ StOk K O' H' S' ∧ YieldsC K J O' H' C ds
def ItC (X : Cx) (Γ : Gam) (S : Store) (tg iter : Expr) (W : List D → (Store → Prop) → Store → Prop) : Prop :=
 ∀ (pins : Pins) (s : Shared) (σ : St) (H : Hp) (O : Own), Inv X pins σ H s → EnvOk X.K O H σ Γ → StOk X.K O H S →
   wpAny (model X.prog X.w) X.A (eval iter X.env) (fun v s1 => wpAny (model X.prog X.w) X.A (pyIter v) (PIE X pins σ tg (QIc X.K O H W)) X.xe s1) X.xe s
theorem yields_c {K : PySem.W.Frag} {J : It} {O : Own} {H : Hp} {ds : List D} (y : Yields K J O H ds) : YieldsC K J O H (fun _ => True) ds := fun O' H' S' st ok _ i => y O' H' st (fun a ha => ok.tracked ha) i
theorem ItW.toC {X : Cx} {Γ : Gam} {S : Store} {tg iter : Expr} {W : List D → (Store → Prop) → Store → Prop} (h : ItW X Γ S tg iter fun ds S1 => W ds (fun _ => True) S1) : ItC X Γ S tg iter W := fun pins s σ H O I env st =>
 thn (h pins s σ H O I env st) fun _ _ q => thn q fun _ _ ⟨it, fp, tn, J, H', e1, e2, e3, e4, e5, O', ds, S', w, z1, z2, z3⟩ => ⟨it, fp, tn, J, H', e1, e2, e3, e4, e5, O', ds, _, S', w, z1, z2, yields_c z3⟩
abbrev Turns (X : Cx) (sc : Scope) (N' : List Str) (cap : List (Option Nat)) (Γ : Gam) (elt tg : Expr) (ifs : List Expr) (W : WD) : List D → (Store → Prop) → Store → Prop := fun ds C0 S1 =>
 ds.length ≤ 1000000 ∧ ∃ Pv : Nat → List D → Store → Prop, Pv 0 [] S1 ∧ (∀ i acc S', Pv i acc S' → C0 S') ∧
  (∀ i d acc S', ds[i]? = some d → Pv i acc S' → ∀ (C : Addr) (s : Shared) (H : Hp) (ex : List Addr), BdW (blkCx X sc N' C s H ex) tg d (capt cap Γ) S' fun Γ2 S2 => Sub (capt cap Γ) Γ2 ∧
   TsA (blkCx X sc N' C s H ex) Γ2 S2 ifs fun ok S3 => (ok = true → Ev (blkCx X sc N' C s H ex) Γ2 S3 elt fun y S4 => Pv (i + 1) (acc ++ [y]) S4) ∧ (ok = false → Pv (i + 1) acc S3)) ∧
  ∀ acc S', Pv ds.length acc S' → W (.lst acc) S' ∨ W (.loc S'.length) (S' ++ [acc])
theorem comp_core {Γ : Gam} {S : Store} {elt tg iter : Expr} {ifs : List Expr} {sc : Scope} {cpos : Pos} {N' : List Str} {cap : List (Option Nat)} {W : WD} {E : Value → Shared → Prop} {pins : Pins} {s : Shared} {σ : St} {H : Hp} {O : Own}
 {RR : Value → Addr → Result → Shared → Prop}
 (hx : X.xe = fun _ _ => False) (hc : X.calm = true) (hkind : sc.kind = .function) (hcell : ∀ y ∈ sc.names, y.2 ≠ .cell) (hfree : ∀ y ∈ sc.names, y.2 = .free → X.env.kindOf y.1 = some .cell ∨ X.env.kindOf y.1 = some .free)
 (hcap : capOk X.N X.env.scope.names N' sc.names cap N' = true) (h : ItC X Γ S tg iter (Turns X sc N' cap Γ elt tg ifs W)) (I : Inv X pins σ H s) (env : EnvOk X.K O H σ Γ) (st : StOk X.K O H S)
 (fin : ∀ (s' : Shared) (Hc : Hp) (D0 C : Addr) (m : Str → Option Value), Inv X pins σ Hc s' → s'.heap.Ns C m → FpOk X pins Hc C → D0 ≠ C → QG X.K O H W (.ref D0) Hc → RR (.ref D0) C (.ok .next) s') :
 wpAny (model X.prog X.w) X.A (eval iter X.env) (fun x s₁ => wpAny (model X.prog X.w) X.A (pyIter x) (fun it s₂ => wpAny (model X.prog X.w) X.A (newList []) (fun acc s₃ =>
  wpAny (model X.prog X.w) X.A (newFunctionEnv sc X.env.globals (closes X.env sc.names []) [] X.env.qual none .none (some X.env)) (fun cenv s₄ =>
   codeAny (model X.prog X.w) X.A (.compStart (.ListComp elt [⟨tg, iter, ifs, 0⟩] sc cpos) 0 it acc { cenv with scope := relabel sc X.env }) (RR acc cenv.locals) s₄) E s₃) E s₂) E s₁) E s := by
 refine thn (noXe hx (h pins s σ H O I env st)) fun xv s1 h1 => thn (noXe hx h1) fun itv s2 h2 => ?_
 obtain ⟨it, fp, tn, J, H2, e, I2, T, st2, f2, O2, ds, C0, S2, ⟨hz, Pv, p0, pC, pt, pe⟩, stp, ok2, yl⟩ := h2
 subst e
 refine wpAny_newObj_type (wpAny_newFunctionEnv hcell (by intro y hy; simp at hy) (fun h₁ hns₁ hsb₁ => ?_) hkind)
 dsimp only at hns₁ hsb₁ ⊢
 have hD0 : H2 s2.heap.objs.size = none := I2.hok.fresh (Nat.le_refl _)
 have hsz : (s2.heap.push { cls := .type "list", dict := none, data := .seq ([] : List Value).toArray }).objs.size = s2.heap.objs.size + 1 := Heap.size_push ..
 rw [hsz] at hns₁ hsb₁ ⊢
 have kp : ∀ b u, s2.heap.get? b = some u → h₁.get? b = some u := fun b u e =>
  (hsb₁.2 b (Nat.ne_of_lt (Nat.lt_succ_of_lt (Heap.lt_size e)))).trans (Heap.get?_push_of_some _ (Heap.get?_push_of_some _ e))
 have hD1 : h₁.get? s2.heap.objs.size = some { cls := .type "list", data := .seq #[] 0 } :=
  (hsb₁.2 _ (Nat.ne_of_lt (Nat.lt_succ_self _))).trans (Heap.get?_push_of_some _ (Heap.get?_push_size _ rfl))
 have hob : ∀ b ∈ fp, ∃ o, s2.heap.get? b = some o := fun b hb => let ⟨o, e, _⟩ := T.obj _ _ st2 b hb; ⟨o, e⟩
 have I4 := blk_inv (t := s2.toks + ([] : List (Str × Value)).length) (h1 := h₁) I2 f2 hob hkind hcell hfree hcap kp hD1 ⟨_, hns₁⟩
 generalize hX' : blkCx X sc N' (s2.heap.objs.size + 1) s2 H2 fp = X' at I4
 have pt' := fun i d acc S' a b => pt i d acc S' a b (s2.heap.objs.size + 1) s2 H2 fp
 rw [hX'] at pt'
 have eP : X'.prog = X.prog := by rw [← hX']; rfl
 have ew : X'.w = X.w := by rw [← hX']; rfl
 have eK : X'.K = X.K := by rw [← hX']; rfl
 have eA : X'.A = X.A := by rw [← hX']; rfl
 have ec : X'.calm = true := by rw [← hX']; exact hc
 have ex' : X'.xe = fun _ _ => False := by rw [← hX']; exact hx
 have eenv : X'.env = compEnvC sc (closes X.env sc.names []) (s2.heap.objs.size + 1) X.env := by rw [← hX']; rfl
 have eex : X'.ex = fp := by rw [← hX']; rfl
 have eout : X'.outer = X.stack := by rw [← hX']; rfl
 have es0 : X'.s₀ = s2 := by rw [← hX']; rfl
 have eH0 : X'.H₀ = H2 := by rw [← hX']; rfl
 have epn : X'.pn = [] := by rw [← hX']; rfl
 have stat : ∀ {H' : Hp}, (∀ b ∈ fp, H' b = none) → ∀ b ∈ fp, FpOk X' [] H' b := fun hn b hb => by
  refine ⟨hn b hb, (I4.ok.exf b (by rw [eex]; exact hb)).1, I4.ok.exfs b (by rw [eex]; exact hb), .inl (by rw [eex]; exact hb), (I4.ok.exf b (by rw [eex]; exact hb)).2, fun p hp => ?_⟩
  rw [epn] at hp
  exact absurd hp (by simp)
 have loop : ∀ s₃ : Shared, s₃ = { s2 with heap := h₁, toks := s2.toks + ([] : List (Str × Value)).length } →
  codeAny (model X.prog X.w) X.A (.compLoop (.ListComp elt [⟨tg, iter, ifs, 0⟩] sc cpos) 0 (.ref it) (.ref s2.heap.objs.size) (compEnvC sc (closes X.env sc.names []) (s2.heap.objs.size + 1) X.env))
   (RR (.ref s2.heap.objs.size) (s2.heap.objs.size + 1)) s₃ := by
  intro s₃ es
  rw [← eenv]
  refine codeAny_loop rfl (fun n s' => ∃ i acc xs Hc Ac Sc σc, n = ds.length - i ∧ i ≤ ds.length ∧ Inv X' [] σc Hc s' ∧ tn i s'.heap ∧ (∀ b ∈ fp, Hc b = none) ∧ Pv i acc Sc ∧ Hc s2.heap.objs.size = some (.lst xs) ∧ xs.length ≤ i ∧
   Reps X.K ⟨Ac, s2.heap.objs.size :: O2.B⟩ Hc xs acc ∧ Step O2 ⟨Ac, O2.B⟩ H2 Hc ∧ StOk X.K ⟨Ac, s2.heap.objs.size :: O2.B⟩ Hc Sc ∧ EnvOk X.K ⟨Ac, s2.heap.objs.size :: O2.B⟩ Hc σc (capt cap Γ)) ?_ ds.length ?_
  · rintro n s' ⟨i, acc, xs, Hc, Ac, Sc, σc, rfl, hi, Ic, stc, frc, pc, hxs, hxl, rc, sc', okc, envc⟩
    show wpAny _ _ ((compTurn (.ListComp elt [⟨tg, iter, ifs, 0⟩] sc cpos) 0 (.ref it) (.ref s2.heap.objs.size) X'.env).onRaise (fun x => do noteFrame x X'.env; theTreesLotGoes x)) _ _ s'
    refine wpAny_noted ?_
    rw [compTurn_list]
    refine wpAny_bind (wpAny_standAt (wpAny_bind ?_))
    have cv : Conv O2 ⟨Ac, s2.heap.objs.size :: O2.B⟩ H2 Hc := by
     refine ⟨fun a u n t => ?_, sc'.conv.lc⟩
     obtain ⟨x1, x2⟩ := sc'.conv.tr a u n t
     refine ⟨fun z => ?_, x2⟩
     rcases z with z | z
     · exact x1 (.inl z)
     · rcases List.mem_cons.mp z with z | z
       · subst z; rw [hD0] at t; cases t
       · exact x1 (.inr z)
    obtain ⟨y1, y2⟩ := yl _ _ _ cv okc (pC _ _ _ pc) i
    by_cases hlt : i < ds.length
    · obtain ⟨go, yy⟩ := y1 ds[i] (List.getElem?_eq_getElem hlt)
      have it1 := T.item X' eP ew eK ec i [] s' σc Hc (fun _ _ => False) Ic (stat frc) stc go
      rw [eA] at it1
      refine wpAny_mono it1 (fun r s3 ⟨u, hr, h3⟩ => ?_) fun _ _ z => z.elim
      subst hr
      refine wpAny_bind (wpAny_mono h3 (fun _ s5 ⟨x, H5, I5, r5, y5, st5, fr5⟩ => ?_) fun _ _ z => z.elim)
      obtain ⟨sm, rx⟩ := yy x H5 y5
      have I5' := I5.pinned (stat fr5) (T.obj _ _ st5)
      have st35 := Step.same (O := ⟨Ac, s2.heap.objs.size :: O2.B⟩) sm
      have bd := pt' i ds[i] acc Sc (List.getElem?_eq_getElem hlt) pc _ s5 σc H5 ⟨Ac, s2.heap.objs.size :: O2.B⟩ x u I5' (by rw [eK]; exact envc.mono st35) (by rw [eK]; exact okc.same sm) (by rw [eK]; exact rx) r5
      rw [eP, ew, eA] at bd
      refine wpAny_bind (wpAny_mono (noXe (E' := fun _ _ => False) ex' bd) (fun _ s6 ⟨σ6, H6, I6, O6, Γ6, S6, ⟨sub6, w6⟩, st6, ok6, env6⟩ => ?_) fun _ _ z => z.elim)
      have tst := tsA_run w6 I6 env6 ok6
      rw [eP, ew, eA] at tst
      refine wpAny_bind (wpAny_mono (noXe (E' := fun _ _ => False) ex' tst) (fun ok s7 ⟨H7, I7, O7, S7, w7, st7, ok7⟩ => ?_) fun _ _ z => z.elim)
      have st57 : Step ⟨Ac, s2.heap.objs.size :: O2.B⟩ O7 Hc H7 := st35.trans (st6.trans st7)
      have eB7 : O7.B = s2.heap.objs.size :: O2.B := st57.hid
      have next : ∀ (s9 : Shared) (H8 : Hp) (O8 : Own) (S8 : Store) (ys : List V) (acc' : List D), Step ⟨Ac, s2.heap.objs.size :: O2.B⟩ O8 Hc H8 →
       StOk X.K O8 H8 S8 → EnvOk X.K O8 H8 σ6 (capt cap Γ) → Pv (i + 1) acc' S8 → Inv X' ([] ++ pinsAt fp s5.heap) σ6 (upd H8 s2.heap.objs.size (.lst ys)) s9 → Reps X.K O8 H8 ys acc' → ys.length ≤ i + 1 →
       ∃ m, m < ds.length - i ∧ ∃ i acc xs Hc Ac Sc σc, m = ds.length - i ∧ i ≤ ds.length ∧ Inv X' [] σc Hc s9 ∧ tn i s9.heap ∧ (∀ b ∈ fp, Hc b = none) ∧ Pv i acc Sc ∧ Hc s2.heap.objs.size = some (.lst xs) ∧ xs.length ≤ i ∧
         Reps X.K ⟨Ac, s2.heap.objs.size :: O2.B⟩ Hc xs acc ∧ Step O2 ⟨Ac, O2.B⟩ H2 Hc ∧ StOk X.K ⟨Ac, s2.heap.objs.size :: O2.B⟩ Hc Sc ∧ EnvOk X.K ⟨Ac, s2.heap.objs.size :: O2.B⟩ Hc σc (capt cap Γ) := by
       intro s9 H8 O8 S8 ys acc' st8 ok8 env8 p8 I8 r8 hl8
       have eB : O8.B = s2.heap.objs.size :: O2.B := st8.hid
       obtain ⟨A8, B8⟩ := O8
       have eB' : B8 = s2.heap.objs.size :: O2.B := eB
       subst eB'
       have mem : s2.heap.objs.size ∈ (⟨A8, s2.heap.objs.size :: O2.B⟩ : Own).B := List.mem_cons_self
       refine ⟨ds.length - (i + 1), by omega, i + 1, acc', ys, _, A8, S8, σ6, rfl, hlt, I8.unpinned, T.keep _ _ _ st5 fun b hb o e => (I8.pin (b, o) (List.mem_append_right _ (List.mem_append_right _ (mem_pinsAt hb e)))).1, fun b hb => ?_, p8, upd_same, hl8,
        r8.conv (Conv.updHid mem _), sc'.inner st8 hD0 _, ok8.updHid mem _, env8.conv (Conv.updHid mem _)⟩
       obtain ⟨o, e, d⟩ := T.obj _ _ st5 b hb
       exact (I8.pin (b, o) (List.mem_append_right _ (List.mem_append_right _ (mem_pinsAt hb e)))).2.1
      rw [eK] at ok7 env6 ok6
      have hid : ∀ {O' : Own} {H' : Hp} {S' : Store}, Step ⟨Ac, s2.heap.objs.size :: O2.B⟩ O' Hc H' → H' s2.heap.objs.size = some (.lst xs) := fun st' =>
       st'.kept _ _ (fun z => okc.apart _ z List.mem_cons_self) hxs
      cases ok with
      | false =>
        refine wpAny_pure ⟨rfl, ?_⟩
        have hx7 := hid (S' := S7) st57
        have eq7 : upd H7 s2.heap.objs.size (.lst xs) = H7 := by
         funext b
         by_cases hb : b = s2.heap.objs.size
         · subst hb; rw [upd_same]; exact hx7.symm
         · exact upd_ne hb
        exact next s7 H7 O7 S7 xs acc st57 ok7 ((env6.mono st7).sub sub6) (w7.2 rfl) (by rw [eq7]; exact I7) (rc.mono st57) (Nat.le_succ_of_le hxl)
      | true =>
        have el := w7.1 rfl _ s7 σ6 H7 O7 I7 (by rw [eK]; exact env6.mono st7) (by rw [eK]; exact ok7)
        rw [eP, ew, eA] at el
        refine wpAny_bind (wpAny_bind (wpAny_mono (noXe (E' := fun _ _ => False) ex' el) (fun xe s8 ⟨v8, H8, I8, r8, O8, y, S8, w8, st8, ok8, rep8⟩ => ?_) fun _ _ z => z.elim))
        rw [eK] at ok8 rep8
        have st58 := st57.trans st8
        have hx8 := hid (S' := S8) st58
        have ap := mt_append (X := X') _ s8 σ6 H8 (.ref s2.heap.objs.size) [v8] (.ref s2.heap.objs.size) [xe] (fun v H' => H' = upd H8 s2.heap.objs.size (.lst (xs ++ [v8]))) I8 rfl (.cons r8 .nil)
         ⟨s2.heap.objs.size, xs, v8, rfl, rfl, hx8, Nat.lt_of_le_of_lt (Nat.le_trans hxl (Nat.le_trans hi hz)) (by decide), rfl⟩
        rw [eP, ew, eA] at ap
        refine wpAny_bind (wpAny_mono (noXe (E' := fun _ _ => False) ex' ap) (fun _ s9 ⟨_, H9, I9, _, e9⟩ => wpAny_pure (wpAny_pure ⟨rfl, ?_⟩)) fun _ _ z => z.elim)
        subst e9
        exact next s9 H8 O8 S8 (xs ++ [v8]) (acc ++ [y]) st58 ok8 (((env6.mono st7).mono st8).sub sub6) w8 I9 ((rc.mono st58).append (.cons rep8 .nil)) (by rw [List.length_append, List.length_singleton]; omega)
    · have e : i = ds.length := by omega
      subst e
      have dn := T.done X' eP ew eK ec ds.length [] s' σc Hc (fun _ _ => False) Ic (stat frc) stc (y2 rfl)
      rw [eA] at dn
      refine wpAny_mono dn (fun r s3 ⟨hr, I3⟩ => ?_) fun _ _ z => z.elim
      subst hr
      refine wpAny_pure ?_
      obtain ⟨m, hm, _⟩ := I3.loc
      have un : Un (frs X.stack) fp H2 Hc s2.heap s3.heap := by
       have := I3.base
       rw [eex, eH0, es0] at this
       show Un (frs X.stack) fp H2 Hc s2.heap s3.heap
       rw [← eout]
       exact this
      have os : s3.os = s2.os := by
       have := I3.os
       rw [es0] at this
       exact this
      have hok3 : HOk X.prog X.w Hc s3.heap := by
       have := I3.hok
       rw [eP, ew] at this
       exact this
      have IX : Inv X pins σ Hc s3 := I2.call' os un hok3 I3.bare (fun b hb => ⟨(f2 b hb).2.2.2.1, (f2 b hb).2.1, (f2 b hb).2.2.2.2.1, (f2 b hb).2.2.2.2.2⟩)
      have hCn : Hc (s2.heap.objs.size + 1) = none := by
       have := I3.free
       rw [eenv] at this
       exact this
      refine fin s3 Hc _ _ m IX (by rw [eenv] at hm; exact hm) (I2.fpOk (Nat.le_succ _) hCn) (Nat.ne_of_lt (Nat.lt_succ_self _)) ?_
      rcases pe acc Sc pc with w | w
      · refine ⟨⟨Ac, O2.B⟩, .lst acc, Sc, w, stp.trans sc', okc.unhide, .lst (.inl ⟨fun z => ?_, .inl hxs⟩) (rc.conv Conv.unhide)⟩
        rcases z with z | z
        · exact okc.apart _ z List.mem_cons_self
        · exact ok2.hidden _ z hD0
      · refine ⟨⟨Ac ++ [s2.heap.objs.size], O2.B⟩, .loc Sc.length, Sc ++ [acc], w, stp.trans (sc'.adopt hD0), okc.adopt (fun z => ok2.hidden _ z hD0) hxs rc, .loc ?_⟩
        have el : Ac.length = Sc.length := okc.len
        show (Ac ++ [s2.heap.objs.size])[Sc.length]? = some _
        rw [← el]; simp
  · refine ⟨0, [], [], upd H2 s2.heap.objs.size (.lst []), O2.A, S2, capt cap σ, rfl, Nat.zero_le _, by rw [es]; exact I4, by rw [es]; exact T.keep 0 s2.heap h₁ st2 fun b hb o e => kp b o e, fun b hb => ?_, p0, upd_same, Nat.le_refl 0, .nil, Step.fresh hD0 _, ok2.hide hD0 _, ((env.mono stp).capt cap).conv (Conv.hide hD0 _)⟩
    obtain ⟨o, e⟩ := hob b hb
    rw [upd_ne (Nat.ne_of_lt (Heap.lt_size e))]
    exact (f2 b hb).1
 exact codeAny_compStart_list (loop _ rfl) (T.self _ 0 _ _ _ (T.keep 0 s2.heap h₁ st2 fun b hb o e => kp b o e) (loop _ rfl))
variable {Γ : Gam} {S : Store} {elt tg iter : Expr} {ifs : List Expr} {sc : Scope} {pos : Pos} {N' : List Str} {cap : List (Option Nat)}
theorem ev_comp (N' : List Str) (cap : List (Option Nat)) {W : WD} (h : ItC X Γ S tg iter (Turns X sc N' cap Γ elt tg ifs W)) (hx : X.xe = fun _ _ => False := by rfl) (hc : X.calm = true := by rfl) (hkind : sc.kind = .function := by rfl)
 (hcell : ∀ y ∈ sc.names, y.2 ≠ .cell := by decide +kernel) (hfr : freeOk X.env.scope.names sc.names = true := by rfl)
 (hnames : ∀ y ∈ sc.names, y.2 = .local → sc.names.lookup y.1 = some .local := by decide +kernel) (hcap : capOk X.N X.env.scope.names N' sc.names cap N' = true := by rfl) (hs : ∀ x, foldedSetIterable iter X.env x = pure x := by intro _; rfl) :
 Ev X Γ S (.ListComp elt [⟨tg, iter, ifs, 0⟩] sc pos) W := by
 intro pins s σ H O I env st
 have hfree : ∀ y ∈ sc.names, y.2 = .free → X.env.kindOf y.1 = some .cell ∨ X.env.kindOf y.1 = some .free := freeOk_at hfr
 have hf : ∀ y ∈ sc.names, y.2 = .free → ∃ c, X.env.cells.lookup y.1 = some c := fun y hy e => I.ok.has y.1 (hfree y hy e)
 rw [eval_ListComp]
 refine wpAny_comprehension_free (use := none) (g := ⟨tg, iter, ifs, 0⟩) (gs := []) rfl hs (closureFor_eq hf) hkind hnames ?_
 refine comp_core (RR := fun acc C => compPost (model X.prog X.w) X.A X.xe none (EP X pins σ (QG X.K O H W)) acc C) hx hc hkind hcell hfree hcap h I env st ?_
 intro s' Hc D0 C m I' hm fp ne q
 refine ⟨m, hm, fun h' sb => ⟨.ref D0, Hc, ?_, rfl, q⟩⟩
 obtain ⟨f0, f1, f2, f3, f4, f5⟩ := fp
 exact I'.turned (t' := s'.toks) (fun b o hb e => (sb.2 b hb).trans e) f0 f1 f3 f4 f5
theorem r_setComp (i : Nat) {x : Str} {pos' spos : Pos} {W : Fin} (N' : List Str) (cap : List (Option Nat)) (h : ItC X Γ S tg iter (Turns X sc N' cap Γ elt tg ifs fun d S1 => W.nx (Γ.set i (some d)) S1)) (hN : X.N.Nodup) (hi : X.N[i]? = some x := by rfl)
 (hl : Loc X.env.scope x := by first | exact Or.inl rfl | exact Or.inr rfl) (hsw : swapsWith (.ListComp elt [⟨tg, iter, ifs, 0⟩] sc pos) (some (.Name x pos')) spos.line X.env = pure true := by rfl)
 (hfn : X.fn x = true ∨ X.env.scope.names.lookup x = some .local := by first | exact .inl rfl | exact .inr rfl) (hx : X.xe = fun _ _ => False := by rfl) (hc : X.calm = true := by rfl) (hkind : sc.kind = .function := by rfl)
 (hcell : ∀ y ∈ sc.names, y.2 ≠ .cell := by decide +kernel) (hfr : freeOk X.env.scope.names sc.names = true := by rfl)
 (hnames : ∀ y ∈ sc.names, y.2 = .local → sc.names.lookup y.1 = some .local := by decide +kernel) (hcap : capOk X.N X.env.scope.names N' sc.names cap N' = true := by rfl) (hs : ∀ x, foldedSetIterable iter X.env x = pure x := by intro _; rfl) :
 Rn X Γ S (.Assign [.Name x pos'] (.ListComp elt [⟨tg, iter, ifs, 0⟩] sc pos) spos) W := by
 intro pins s σ H O I env st
 have hfree : ∀ y ∈ sc.names, y.2 = .free → X.env.kindOf y.1 = some .cell ∨ X.env.kindOf y.1 = some .free := freeOk_at hfr
 have hf : ∀ y ∈ sc.names, y.2 = .free → ∃ c, X.env.cells.lookup y.1 = some c := fun y hy e => I.ok.has y.1 (hfree y hy e)
 rw [exec_Assign_Name_used _ _ _ _ hsw]
 refine wpAny_bind (wpAny_standAt (wpAny_bind ?_))
 show wpAny _ X.A (do let _ ← comprehension (.ListComp elt [⟨tg, iter, ifs, 0⟩] sc pos) sc X.env _ (newList []) false (eval iter X.env) (some (assign (.Name x pos') X.env))) _ _ s
 refine wpAny_bind (wpAny_mono (wpAny_comprehension_free (use := some (assign (.Name x pos') X.env)) (g := ⟨tg, iter, ifs, 0⟩) (gs := []) (Q := fun _ s' => SP X pins (ends X.K O H W) .next s') rfl hs (closureFor_eq hf) hkind hnames ?_) (fun _ s' hq => wpAny_pure (wpAny_pure hq)) fun _ _ e => e)
 refine comp_core (RR := fun acc C => compPost (model X.prog X.w) X.A X.xe (some (assign (.Name x pos') X.env)) (fun _ s' => SP X pins (ends X.K O H W) .next s') acc C) hx hc hkind hcell hfree hcap h I env st ?_
 intro s' Hc D0 C m I' hm fp ne q
 show wpAny _ X.A (assign (.Name x pos') X.env (.ref D0)) _ _ _
 refine wpAny_assign_Name (store_ok2 I' hN hi hl (show RelV (.ref D0) (.ref D0) from rfl) (fun s2 I2 ⟨a, sa, ha⟩ => ?_) hfn)
 obtain ⟨f0, f1, f2, f3, f4, f5⟩ := fp
 have neC : C ≠ a := by
  rcases ha with z | z
  · rw [z]; exact f1
  · exact (f4 x a z).symm
 refine ⟨m, hm.sameBut sa neC, fun h' sb => ?_⟩
 obtain ⟨O', d, S', w, stp, okp, rep⟩ := q
 exact ⟨_, Hc, I2.turned (t' := s2.toks) (fun b o hb e => (sb.2 b hb).trans e) f0 f1 f3 f4 f5, O', _, S', w, stp, okp, (env.mono stp).set rep i⟩
end
end DL
namespace DL
open PySem PySem.Spec L2
open PyProof.Rows
def tyD : D → String
 | .non => "NoneType" | .bl _ => "bool" | .int _ => "int" | .str _ => "str" | .tup _ => "tuple" | .lst _ => "list" | .loc _ => "list" | .dic => "dict"
def isi (t c : String) : Bool := t == c || (t == "bool" && c == "int")
def isT (c : String) : Bool := c == "int" || c == "bool" || c == "tuple" || c == "list"
theorem kit_at (K : PySem.W.Frag) (d : D) {c : String} (hc : isT c = true) : PySem.W.kitOne K (.type (tyD d)) (.type c) = some (isi (tyD d) c) := by
 have h : c = "int" ∨ c = "bool" ∨ c = "tuple" ∨ c = "list" := by
  simp only [isT, Bool.or_eq_true, beq_iff_eq] at hc
  rcases hc with ((h | h) | h) | h
  · exact .inl h
  · exact .inr (.inl h)
  · exact .inr (.inr (.inl h))
  · exact .inr (.inr (.inr h))
 rcases h with h | h | h | h <;> subst h <;> cases d <;> kernel_rfl
section
variable {X : Cx} {Γ : Gam} {S : Store} {W : WD} {a b e : Expr} {es : List Expr} {pos : Pos}
theorem isi_run {pins : Pins} {s : Shared} {σ : St} {H : Hp} {O : Own} {v : V} {u c : Value} {d : D} {A : Around} {E : Value → Shared → Prop} {Q : Value → Shared → Prop} (I : Inv X pins σ H s) (st : StOk X.K O H S) (r : Rep X.K O H v d) (ru : RelV v u)
 (go : ∀ {x t : Value} {Hh : Heap → Prop}, PySem.W.KitX X.K x t Hh → t = .type (tyD d) → Hh s.heap → x ≠ .builtin "__main__.__loader__#opaque" → wpAny (model X.prog X.w) A (call (.builtin "isinstance") [x, c]) Q E s) :
 wpAny (model X.prog X.w) A (call (.builtin "isinstance") [u, c]) Q E s := by
 cases r with
 | non => cases ru; exact go PySem.W.kitx_none rfl True.intro (fun z => nomatch z)
 | bl y => cases ru; exact go PySem.W.kitx_bool rfl True.intro (fun z => nomatch z)
 | int y => obtain ⟨t, rfl⟩ := ru; exact go PySem.W.kitx_int rfl True.intro (fun z => nomatch z)
 | str y => obtain ⟨t, rfl⟩ := ru; exact go PySem.W.kitx_str rfl True.intro (fun z => nomatch z)
 | tup h1 q1 =>
   cases ru
   obtain ⟨its, _, ⟨o, h2, h3, _⟩, _⟩ := I.tuple h1.sq
   exact go PySem.W.kitx_tuple rfl ⟨o, h2, h3⟩ (fun z => nomatch z)
 | lst h1 q1 =>
   cases ru
   obtain ⟨its, _, pl, _⟩ := I.list h1.sq
   obtain ⟨o, h2, h3, _⟩ := pl.isList
   exact go PySem.W.kitx_list rfl ⟨o, h2, h3⟩ (fun z => nomatch z)
 | @loc p k hk =>
   cases ru
   have hl : k < S.length := by rw [← st.len]; exact (List.getElem?_eq_some_iff.mp hk).1
   obtain ⟨xs, hx, _⟩ := st.obj k p S[k] hk (List.getElem?_eq_getElem hl)
   obtain ⟨its, _, pl, _⟩ := I.list (SqL.of hx)
   obtain ⟨o, h2, h3, _⟩ := pl.isList
   exact go PySem.W.kitx_list rfl ⟨o, h2, h3⟩ (fun z => nomatch z)
 | @dic p h1 h2 =>
   cases ru
   obtain ⟨_, _, vs, _, o, es, ep, h3, h4, _⟩ := (show ObjOk X.prog X.w H s.heap p (.dK []) from I.hok p _ h2)
   exact go PySem.W.kitx_dict rfl ⟨o, h3, h4.1⟩ (fun z => nomatch z)
theorem ev_isi {T : Str} {Tn : String} {p q : Pos} (h : Ev X Γ S a fun x S1 => W (.bl (isi (tyD x) Tn)) S1) (hT : isT Tn = true) (hb : bootBuiltins T = some (.type Tn)) (hm1 : X.mg "isinstance" = none) (hm : X.mg T = none) (hg1 : Gl X "isinstance" := by rfl) (hg : Gl X T := by rfl)
 (hn : T ≠ "__name__" := by decide) (hdb : (T == ("__debug__" : Str)) = false := by decide) (hs1 : starEach [a, .Name T q] X.env = (false, eval a X.env) :: starEach [.Name T q] X.env := by rfl) (hs2 : starEach [.Name T q] X.env = [(false, eval (.Name T q) X.env)] := by rfl) :
 Ev X Γ S (.Call (.Name "isinstance" p) [a, .Name T q] [] pos) W := by
 intro pins s σ H O I env st
 have hc : CallR X (.builtin "isinstance") (fun xs H' Q => ∃ v, xs = [v, .ty Tn] ∧ ∃ O' d S', StOk X.K O' H' S' ∧ Rep X.K O' H' v d ∧ Q (.bl (isi (tyD d) Tn)) H') := by
  intro pins s σ H xs us Q I r h
  obtain ⟨v, rfl, O', d, S', st', rep, q⟩ := h
  obtain ⟨u, u2, rfl, r1, r2⟩ := vals2 r
  cases r2
  refine isi_run I st' rep r1 fun Z e p ne => ?_
  subst e
  exact PySem.W.kia_one Z I.kIn p (kit_at X.K d hT) ne fun tk => ⟨.bl _, H, I.tok tk, rfl, q⟩
 refine pe_callB hc hg1 hm1 PyProof.Rows.boot_isinstance (pa_cons h.pe (pa_cons (pe_bltn hg hm hb (v := .ty Tn) rfl hn hdb) pa_nil hs2) hs1) (by decide) (by decide) hs1 (by rw [hs2]; rfl) pins s σ H _ I ⟨O, env, st, fun v H' q => ?_⟩
 obtain ⟨O', d, S', w, st1, ok1, rep⟩ := q
 exact ⟨v, rfl, O', d, S', ok1, rep, O', _, S', w, st1, ok1, .bl _⟩
theorem range_all {α : Type} (f : α → Bool) (d : α) : ∀ (bs : List α) (k : Nat), ((List.range' k bs.length).all fun i => f ((List.replicate k d ++ bs).getD i d)) = bs.all f
 | [], _ => by simp
 | b :: bs, k => by
   have ih := range_all f d bs (k + 1)
   rw [List.length_cons, List.range'_succ, List.all_cons, List.all_cons]
   congr 1
   · simp [List.getD]
   · rw [← ih]
     have e : List.replicate k d ++ b :: bs = (List.replicate k d ++ [b]) ++ bs := by simp
     rw [List.all_eq, List.all_eq]
     congr 1
     apply propext
     constructor
     · intro h i hi
       have := h i hi
       rw [List.mem_range'] at hi
       obtain ⟨j, hj, rfl⟩ := hi
       simp only [List.getD, List.getElem?_append, List.length_replicate] at this ⊢
       have g1 : ¬ (k + 1 + 1 * j < k) := by omega
       have g2 : ¬ (k + 1 + 1 * j < k + 1) := by omega
       rw [if_neg g1] at this
       rw [if_neg g2]
       have e1 : k + 1 + 1 * j - k = (k + 1 + 1 * j - (k + 1)) + 1 := by omega
       rw [e1, List.getElem?_cons_succ] at this
       exact this
     · intro h i hi
       have := h i hi
       rw [List.mem_range'] at hi
       obtain ⟨j, hj, rfl⟩ := hi
       simp only [List.getD, List.getElem?_append, List.length_replicate] at this ⊢
       have g1 : ¬ (k + 1 + 1 * j < k) := by omega
       have g2 : ¬ (k + 1 + 1 * j < k + 1) := by omega
       rw [if_neg g2] at this
       rw [if_neg g1]
       have e1 : k + 1 + 1 * j - k = (k + 1 + 1 * j - (k + 1)) + 1 := by omega
       rw [e1, List.getElem?_cons_succ]
       exact this
theorem range_allB (bs : List Bool) : ((List.range bs.length).all fun i => bs.getD i false) = bs.all id := by
 have := range_all id false bs 0
 simpa [List.range_eq_range'] using this
theorem k_all {bs : List Bool} (w : W (.bl (bs.all id)) S) (hc : X.calm = true := by rfl) : CalW X (.builtin "all") [.lst (bs.map .bl)] S W := by
 intro pins s σ H O vs us I st r ru
 obtain ⟨v, rfl, r'⟩ := reps1 r
 obtain ⟨u, rfl, ru'⟩ := vals1 ru
 cases r' with
 | @lst a xs _ h1 q1 =>
   cases ru'
   obtain ⟨its, rv, pl, hz⟩ := I.list h1.sq
   have ex := q1.bools
   subst ex
   have hlen : its.length = bs.length := by rw [← rv.length]; simp
   refine call_all_walk (wpAny_pyIter_list pl.isList ?_)
   have ne : a ≠ s.heap.objs.size := by
    obtain ⟨o, e, _⟩ := pl.isList
    exact Nat.ne_of_lt (Heap.lt_size e)
   refine ⟨_, _, _, _, _, _, fun i => bs.getD i false, rfl, Walks.list (A := X.A.in1) (I.ok.hd hc) _ a ne its.toArray, ⟨⟨_, Heap.get?_push_size _ rfl, rfl, rfl⟩, pl.isList.push _⟩, fun i v s' Q' E' hv hq => ?_, fun h' tk hk => ?_⟩
   · have hv : its[i]? = some v := by simpa using hv
     have hi : i < bs.length := by rw [← hlen]; exact (List.getElem?_eq_some_iff.mp hv).1
     obtain ⟨z, hz', rz⟩ := rv.get (i := i) (x := V.bl bs[i]) (by rw [List.getElem?_map, List.getElem?_eq_getElem hi]; rfl)
     rw [hv] at hz'
     cases hz'
     cases rz
     have e : bs.getD i false = bs[i] := by simp [List.getD, hi]
     have hq' : Q' (bs.getD i false) s' := hq
     rw [e] at hq'
     exact wpAny_truthy_bool hq'
   · have e : (List.range its.toArray.size).all (fun i => bs.getD i false) = bs.all id := by rw [List.size_toArray, hlen]; exact range_allB bs
     rw [e]
     refine ⟨.bl _, H, I.kept (fun b o q => hk b o (fun z => ?_) (Heap.get?_push_of_some _ q)), rfl, QG.here w st (.bl _)⟩
     have z' : b = s.heap.objs.size := by simpa using z
     exact absurd (Heap.lt_size q) (by rw [z']; exact Nat.lt_irrefl _)
theorem k_sum {ns : List Int} (w : W (.int ns.sum) S) (hc : X.calm = true := by rfl) : CalW X (.builtin "sum") [.lst (ns.map .int)] S W := by
 intro pins s σ H O vs us I st r ru
 obtain ⟨v, rfl, r'⟩ := reps1 r
 obtain ⟨u, rfl, ru'⟩ := vals1 ru
 cases r' with
 | @lst a xs _ h1 q1 =>
   cases ru'
   obtain ⟨its, rv, pl, hz⟩ := I.list h1.sq
   have ex := q1.ints
   subst ex
   have hi : IntsAre its ns := intsAre_of rv
   obtain ⟨zs, ez⟩ := hi.allInts.items
   have hL := pl.isList
   rw [ez] at hL
   refine sum_intListG (I.ok.hd hc) hL fun h' tk t' hk => ?_
   have e : preSum (numAt zs) zs.size = ns.sum := by
    rw [preSum_eq, List.take_of_length_le (by simp), ← nums_intItems, ← ez]
    exact congrArg List.sum hi.numsOf
   rw [e]
   exact ⟨.int _, H, I.kept hk, ⟨_, rfl⟩, QG.here w st (.int _)⟩
mutual
def deep : D → Nat
 | .tup ds => deeps ds + 1
 | .lst ds => deeps ds + 1
 | .dic => 1
 | _ => 0
def deeps : List D → Nat
 | [] => 0
 | d :: ds => max (deep d) (deeps ds)
end
mutual
def noloc : D → Bool
 | .tup ds => nolocs ds
 | .lst ds => nolocs ds
 | .loc _ => false
 | _ => true
def nolocs : List D → Bool
 | [] => true
 | d :: ds => noloc d && nolocs ds
end
theorem deeps_le {d : D} : ∀ {ds : List D} {i : Nat}, ds[i]? = some d → deep d ≤ deeps ds
 | [], _, h => by simp at h
 | c :: ds, 0, h => by simp at h; subst h; simp [deeps]; omega
 | c :: ds, i + 1, h => by
   have := deeps_le (ds := ds) (i := i) (by simpa using h)
   simp [deeps]; omega
theorem nolocs_at {d : D} : ∀ {ds : List D} {i : Nat}, nolocs ds = true → ds[i]? = some d → noloc d = true
 | [], _, _, h => by simp at h
 | c :: ds, 0, n, h => by simp at h; subst h; simp [nolocs] at n; exact n.1
 | c :: ds, i + 1, n, h => by
   simp [nolocs] at n
   exact nolocs_at (ds := ds) (i := i) n.2 (by simpa using h)
theorem dic_both {pins : Pins} {s : Shared} {σ : St} {H : Hp} {a : Addr} (I : Inv X pins σ H s) (h : H a = some (.dK [])) : (a == sysModules) = false ∧ s.heap.DictOf (mixKind X.prog X.w) a [] := by
 obtain ⟨_, h2, vs, h3, h4⟩ := (show ObjOk X.prog X.w H s.heap a (.dK []) from I.hok a _ h)
 cases h3
 exact ⟨h2, h4⟩
theorem dict0 {P P' : Program} {w w' : World} {h : Heap} {a : Addr} (d : h.DictOf (mixKind P w) a []) : h.DictOf (mixKind P' w') a [] := by
 obtain ⟨o, es, ep, h1, h2, h3, h4, h5, h6⟩ := d
 have e : es = #[] := by
  have q0 : ∀ l, Pairs (mixKind P w) l ([] : List (Key × Value)) → l = [] := by
   intro l hl
   cases hl
   rfl
  have q : es.toList = [] := q0 _ h5
  exact Array.toList_eq_nil_iff.mp q
 subst e
 exact ⟨o, #[], ep, h1, h2, h3, fun _ he => by simp at he, Pairs.nil, List.nodup_nil⟩
theorem eqSelf (n : Nat) : ∀ (x : D), deep x ≤ n → noloc x = true → ∀ {pins : Pins} {s : Shared} {σ : St} {H : Hp} {O : Own} {v w : V} {u u' : Value} {A : Around}, Inv X pins σ H s → Rep X.K O H v x → Rep X.K O H w x → RelV v u → RelV w u' → A.units + n < cLine → SeqAt.EqAt A s u u' true := by
 induction n with
 | zero =>
   intro x hx hn pins s σ H O v w u u' A I r1 r2 ru ru' hu
   cases r1 with
   | non => cases r2; cases ru; cases ru'; exact SeqAt.EqAt.same _
   | bl b => cases r2; cases ru; cases ru'; exact SeqAt.EqAt.same _
   | int i =>
     cases r2; obtain ⟨t, rfl⟩ := ru; obtain ⟨t', rfl⟩ := ru'
     have := SeqAt.EqAt.int_int (A := A) (s := s) i t i t'
     rw [beq_self_eq_true] at this
     exact this
   | str i =>
     cases r2; obtain ⟨t, rfl⟩ := ru; obtain ⟨t', rfl⟩ := ru'
     have := SeqAt.EqAt.str_str (A := A) (s := s) i t i t'
     rw [beq_self_eq_true] at this
     exact this
   | tup _ _ => simp [deep] at hx
   | lst _ _ => simp [deep] at hx
   | loc _ => simp [noloc] at hn
   | dic _ _ => simp [deep] at hx
 | succ n ih =>
   intro x hx hn pins s σ H O v w u u' A I r1 r2 ru ru' hu
   cases r1 with
   | non => cases r2; cases ru; cases ru'; exact SeqAt.EqAt.same _
   | bl b => cases r2; cases ru; cases ru'; exact SeqAt.EqAt.same _
   | int i =>
     cases r2; obtain ⟨t, rfl⟩ := ru; obtain ⟨t', rfl⟩ := ru'
     have := SeqAt.EqAt.int_int (A := A) (s := s) i t i t'
     rw [beq_self_eq_true] at this
     exact this
   | str i =>
     cases r2; obtain ⟨t, rfl⟩ := ru; obtain ⟨t', rfl⟩ := ru'
     have := SeqAt.EqAt.str_str (A := A) (s := s) i t i t'
     rw [beq_self_eq_true] at this
     exact this
   | @tup a xs ds h1 q1 =>
     cases r2 with
     | @tup b ys _ h2 q2 =>
       cases ru; cases ru'
       by_cases e : a = b
       · subst e; exact SeqAt.EqAt.same _
       · obtain ⟨its, v1, p1, _⟩ := I.tuple h1.sq
         obtain ⟨its2, v2, p2, _⟩ := I.tuple h2.sq
         have l1 : its.length = ds.length := by rw [← v1.length, q1.length]
         have l2 : its2.length = ds.length := by rw [← v2.length, q2.length]
         have rc := SeqAt.RcAt.tuples (A := A) (e := fun _ => true) (show s.heap.IsTuple a its.toArray from p1) (show s.heap.IsTuple b its2.toArray from p2) (by omega) (fun j j1 j2 => ?_)
         · have e2 : ((List.range (min its.toArray.size its2.toArray.size)).all (fun _ => true) && its.toArray.size == its2.toArray.size) = true := by simp [l1, l2]
           rw [e2] at rc
           exact SeqAt.EqAt.of_refs e rc
         · have hj : j < ds.length := by simpa [l1] using j1
           obtain ⟨z1, a1, b1⟩ := q1.get (List.getElem?_eq_getElem hj)
           obtain ⟨z2, a2, b2⟩ := q2.get (List.getElem?_eq_getElem hj)
           obtain ⟨u1, c1, d1⟩ := v1.get a1
           obtain ⟨u2, c2, d2⟩ := v2.get a2
           have e1 : its.toArray[j] = u1 := by have := (List.getElem?_eq_some_iff.mp c1).2; simpa using this
           have e2 : its2.toArray[j] = u2 := by have := (List.getElem?_eq_some_iff.mp c2).2; simpa using this
           rw [e1, e2]
           have hd := deeps_le (List.getElem?_eq_getElem hj)
           exact ih ds[j] (by simp [deep] at hx; omega) (nolocs_at (by simpa [noloc] using hn) (List.getElem?_eq_getElem hj)) I b1 b2 d1 d2 (by show A.units + 1 + n < cLine; omega)
   | @lst a xs ds h1 q1 =>
     cases r2 with
     | @lst b ys _ h2 q2 =>
       cases ru; cases ru'
       by_cases e : a = b
       · subst e; exact SeqAt.EqAt.same _
       · obtain ⟨its, v1, p1, _⟩ := I.list h1.sq
         obtain ⟨its2, v2, p2, _⟩ := I.list h2.sq
         have l1 : its.length = ds.length := by rw [← v1.length, q1.length]
         have l2 : its2.length = ds.length := by rw [← v2.length, q2.length]
         have rc := SeqAt.RcAt.lists (A := A) (e := fun _ => true) p1.isList p2.isList (by simp [l1, l2]) (by omega) (fun j j1 j2 => ?_)
         · have e2 : (List.range its.toArray.size).all (fun _ => true) = true := by simp
           rw [e2] at rc
           exact SeqAt.EqAt.of_refs e rc
         · have hj : j < ds.length := by simpa [l1] using j1
           obtain ⟨z1, a1, b1⟩ := q1.get (List.getElem?_eq_getElem hj)
           obtain ⟨z2, a2, b2⟩ := q2.get (List.getElem?_eq_getElem hj)
           obtain ⟨u1, c1, d1⟩ := v1.get a1
           obtain ⟨u2, c2, d2⟩ := v2.get a2
           have e1 : its.toArray[j] = u1 := by have := (List.getElem?_eq_some_iff.mp c1).2; simpa using this
           have e2 : its2.toArray[j] = u2 := by have := (List.getElem?_eq_some_iff.mp c2).2; simpa using this
           rw [e1, e2]
           have hd := deeps_le (List.getElem?_eq_getElem hj)
           exact ih ds[j] (by simp [deep] at hx; omega) (nolocs_at (by simpa [noloc] using hn) (List.getElem?_eq_getElem hj)) I b1 b2 d1 d2 (by show A.units + 1 + n < cLine; omega)
   | loc _ => simp [noloc] at hn
   | @dic a h1 e1 =>
     cases r2 with
     | @dic b h2 e2 =>
       cases ru; cases ru'
       by_cases e : a = b
       · subst e; exact SeqAt.EqAt.same _
       · obtain ⟨z1, d1⟩ := dic_both I e1
         obtain ⟨z2, d2⟩ := dic_both I e2
         refine SeqAt.EqAt.of_refs e fun prog w' E Q hq => ?_
         exact PySem.W.keq_eq (knd := mixKind prog w') z1 z2 (dict0 d1) (dict0 d2) (by omega) (fun _ => .nil) (by simpa using hq)
end
end DL
namespace DL
open PySem PySem.Spec L2
open PyProof.Rows
section
variable {X : Cx} {Γ : Gam} {S : Store} {W : WD} {a b e : Expr} {es : List Expr} {pos : Pos}
theorem c_neSelf {x : D} (hu : X.A.units + 60 < cLine) (hn : noloc x = true) (hd : deep x ≤ 50) (w : W (.bl false) S) : CmpW X .NotEq x x S W := by
 intro pins s σ H O v w' u u' I st r1 r2 r3 r4
 have fin : ∀ {k : Bool}, SeqAt.RcNeAt X.A s u u' k → k = false → wpAny (model X.prog X.w) X.A (compareOp .NotEq u u') (EP X pins σ (QG X.K O H W)) X.xe s := fun h e => by
  subst e
  exact h _ _ _ _ ⟨.bl false, H, I, rfl, QG.here w st (.bl false)⟩
 cases r1 with
 | non => cases r2; cases r3; cases r4; exact fin SeqAt.RcNeAt.none_none rfl
 | bl y => cases r2; cases r3; cases r4; exact fin (SeqAt.RcNeAt.bool_bool y y) (by simp)
 | int y => cases r2; obtain ⟨t, rfl⟩ := r3; obtain ⟨t', rfl⟩ := r4; exact fin (SeqAt.RcNeAt.int_int y t y t') (by simp)
 | str y => cases r2; obtain ⟨t, rfl⟩ := r3; obtain ⟨t', rfl⟩ := r4; exact fin (SeqAt.RcNeAt.str_str y t y t') (by simp)
 | @tup a xs ds h1 q1 =>
   cases r2 with
   | @tup b ys _ h2 q2 =>
     cases r3; cases r4
     obtain ⟨its, v1, p1, _⟩ := I.tuple h1.sq
     obtain ⟨its2, v2, p2, _⟩ := I.tuple h2.sq
     have l1 : its.length = ds.length := by rw [← v1.length, q1.length]
     have l2 : its2.length = ds.length := by rw [← v2.length, q2.length]
     refine fin (SeqAt.RcNeAt.tuples (e := fun _ => true) (show s.heap.IsTuple a its.toArray from p1) (show s.heap.IsTuple b its2.toArray from p2) (by omega) (fun j j1 j2 => ?_)) (by simp [l1, l2])
     have hj : j < ds.length := by simpa [l1] using j1
     obtain ⟨z1, a1, b1⟩ := q1.get (List.getElem?_eq_getElem hj)
     obtain ⟨z2, a2, b2⟩ := q2.get (List.getElem?_eq_getElem hj)
     obtain ⟨u1, c1, d1⟩ := v1.get a1
     obtain ⟨u2, c2, d2⟩ := v2.get a2
     have e1 : its.toArray[j] = u1 := by have := (List.getElem?_eq_some_iff.mp c1).2; simpa using this
     have e2 : its2.toArray[j] = u2 := by have := (List.getElem?_eq_some_iff.mp c2).2; simpa using this
     rw [e1, e2]
     have hd' := deeps_le (List.getElem?_eq_getElem hj)
     exact eqSelf 49 ds[j] (by simp [deep] at hd; omega) (nolocs_at (by simpa [noloc] using hn) (List.getElem?_eq_getElem hj)) I b1 b2 d1 d2 (by show X.A.units + 1 + 49 < cLine; omega)
 | @lst a xs ds h1 q1 =>
   cases r2 with
   | @lst b ys _ h2 q2 =>
     cases r3; cases r4
     obtain ⟨its, v1, p1, _⟩ := I.list h1.sq
     obtain ⟨its2, v2, p2, _⟩ := I.list h2.sq
     have l1 : its.length = ds.length := by rw [← v1.length, q1.length]
     have l2 : its2.length = ds.length := by rw [← v2.length, q2.length]
     refine fin (SeqAt.RcNeAt.lists (e := fun _ => true) p1.isList p2.isList (by simp [l1, l2]) (by omega) (fun j j1 j2 => ?_)) (by simp)
     have hj : j < ds.length := by simpa [l1] using j1
     obtain ⟨z1, a1, b1⟩ := q1.get (List.getElem?_eq_getElem hj)
     obtain ⟨z2, a2, b2⟩ := q2.get (List.getElem?_eq_getElem hj)
     obtain ⟨u1, c1, d1⟩ := v1.get a1
     obtain ⟨u2, c2, d2⟩ := v2.get a2
     have e1 : its.toArray[j] = u1 := by have := (List.getElem?_eq_some_iff.mp c1).2; simpa using this
     have e2 : its2.toArray[j] = u2 := by have := (List.getElem?_eq_some_iff.mp c2).2; simpa using this
     rw [e1, e2]
     have hd' := deeps_le (List.getElem?_eq_getElem hj)
     exact eqSelf 49 ds[j] (by simp [deep] at hd; omega) (nolocs_at (by simpa [noloc] using hn) (List.getElem?_eq_getElem hj)) I b1 b2 d1 d2 (by show X.A.units + 1 + 49 < cLine; omega)
 | loc _ => simp [noloc] at hn
 | @dic a h1 e1 =>
   cases r2 with
   | @dic b h2 e2 =>
     cases r3; cases r4
     obtain ⟨z1, d1⟩ := dic_both I e1
     obtain ⟨z2, d2⟩ := dic_both I e2
     exact PySem.W.keq_ne (knd := mixKind X.prog X.w) z1 z2 d1 d2 (by omega) (fun _ => .nil) ⟨.bl false, H, I, rfl, QG.here w st (.bl false)⟩
end
structure SqKind (P : Program) (w : World) (K : PySem.W.Frag) where
 Sq : Hp → Addr → List V → Prop
 It : Heap → Addr → Addr → Nat → Prop
 Ob : Heap → Addr → Array Value → Prop
 itObj : ∀ {h it a i}, It h it a i → ∃ o vs, h.get? it = some o ∧ o.data = .fields vs
 itAt : ∀ {h h' it a i}, It h it a i → (∀ o, h.get? it = some o → h'.get? it = some o) → It h' it a i
 obObj : ∀ {h a its}, Ob h a its → ∃ o n, h.get? a = some o ∧ o.data = .seq its n
 draws : ∀ (A : Around), A.handled = none → ∀ (it a : Addr), a ≠ it → ∀ items : Array Value, Draws P w A it [it, a] items.size (fun i v => items[i]? = some v) (fun i h => It h it a i ∧ Ob h a items)
 get : ∀ {X : Cx} {pins : Pins} {σ : St} {H : Hp} {s : Shared} {a : Addr} {xs : List V}, X.prog = P → X.w = w → X.K = K → Inv X pins σ H s → Sq H a xs → ∃ its : List Value, Vals xs its ∧ Ob s.heap a its.toArray
 inj : ∀ {X : Cx} {pins : Pins} {σ : St} {H : Hp} {s : Shared} {a : Addr} {xs ys : List V}, X.prog = P → X.w = w → X.K = K → Inv X pins σ H s → Sq H a xs → Sq H a ys → xs = ys
 far : ∀ {X : Cx} {pins : Pins} {σ : St} {H : Hp} {s : Shared} {a b : Addr} {xs : List V}, X.K = K → Inv X pins σ H s → Sq H a xs → FpOk X pins H b → a ≠ b
section
variable {P : Program} {w : World} {K : PySem.W.Frag}
theorem SqKind.ne (q : SqKind P w K) {h : Heap} {it a : Addr} {i : Nat} {its : Array Value} (x : q.It h it a i) (y : q.Ob h a its) : a ≠ it := fun e => by
 obtain ⟨o, vs, h1, h2⟩ := q.itObj x
 obtain ⟨o', n, h3, h4⟩ := q.obObj y
 rw [e, h1] at h3
 cases h3
 rw [h2] at h4
 cases h4
theorem farK {X : Cx} {pins : Pins} {σ : St} {H : Hp} {s : Shared} {a b : Addr} {o : Obj} (I : Inv X pins σ H s) (h : X.K.lookup a = some o) (f : FpOk X pins H b) : a ≠ b := fun z => by
 have e := I.ok.mod.kin a o h
 rw [z] at e
 rcases f.2.2.2.1 with q | q
 · exact I.ok.noex b o e q
 · exact absurd (Nat.lt_of_lt_of_le (Heap.lt_size e) (Nat.le_trans I.ok.bsz q)) (Nat.lt_irrefl _)
def kList (P : Program) (w : World) (K : PySem.W.Frag) : SqKind P w K where
 Sq := SqL K
 It := fun h it a i => h.IsListIter it a i
 Ob := fun h a its => h.IsList a its
 itObj := fun x => let ⟨o, e, _, d⟩ := x; ⟨o, _, e, d⟩
 itAt := fun x k => x.at k
 obObj := fun x => let ⟨o, e, _, n, d⟩ := x; ⟨o, n, e, d⟩
 draws := fun A hh it a ne items => Draws.list hh it a ne items
 get := fun hP hw hK I h => by
  subst hP hw hK
  obtain ⟨its, rv, p, _⟩ := I.list h
  exact ⟨its, rv, p.isList⟩
 inj := fun hP hw hK I h h' => by
  subst hP hw hK
  exact I.list_inj h h'
 far := fun hK I h f => by
  subst hK
  rcases h with (h | ⟨_, h⟩) | ⟨o, _, _, h, _⟩
  · exact ne_of_none h f.1
  · exact ne_of_none h f.1
  · exact farK I h f
theorem nx_tup {prog : Program} {w : World} {A : Around} {E : Value → Shared → Prop} {s : Shared} {it t : Addr} {i : Nat} {items : Array Value} {x : Value} {Q : Value → Shared → Prop} (hi : s.heap.IsTupleIter it t i) (ht : s.heap.IsTuple t items) (hx : items[i]? = some x)
 (hQ : ∀ h', h'.IsTupleIter it t (i + 1) → Heap.SameBut it s.heap h' → Q x { s with heap := h' }) : wpAny (model prog w) A (Builtin.SmallTypes.nextOf (.ref it)) Q E s := by
 obtain ⟨o, ho, hc, hd⟩ := id hi
 obtain ⟨o2, ho2, _, n2, hd2⟩ := ht
 unfold Builtin.SmallTypes.nextOf
 refine wpAny_bind (wpAny_callSpecial?_slot (name := Str.ofString "__next__") hi.typeIs F.slot_tuple_iterator_next (wpAny_call_entry F.slot_tuple_iterator_next hi.typeIs F.entry_tuple_iterator_next ?_ (F.args_tuple_iterator_next_1 _)))
 refine wpAny_bind (m := field (.ref it) 0) (wpAny_field ho hd (x := .ref t) rfl ?_)
 rw [if_neg (show ¬ ((Value.ref t == Value.none) = true) from Bool.false_ne_true)]
 refine wpAny_bind (m := field (.ref it) 1) (wpAny_field ho hd (x := .int i 0) rfl ?_)
 refine wpAny_bind (m := seqItems? (.ref t)) (wpAny_seqItems ho2 hd2 ?_)
 simp only [Int.toNat_natCast, hx]
 refine wpAny_bind (wpAny_setField ho hd (by simp) (wpAny_pure ⟨x, rfl, wpAny_pure (hQ _ ⟨_, Heap.get?_update_self _ ho (Obj.isFreed_of_fields (Obj.data_mapFields hd _)), (Obj.cls_mapFields ..).trans hc, by rw [Obj.data_mapFields hd]; simp [rawInt]⟩ (Heap.SameBut.update ..))⟩))
theorem nx_tupEnd {prog : Program} {w : World} {A : Around} {E : Value → Shared → Prop} {s : Shared} {it t : Addr} {i : Nat} {items : Array Value} {Q : Value → Shared → Prop} (hh : A.handled = none) (hi : s.heap.IsTupleIter it t i) (ht : s.heap.IsTuple t items) (hx : items[i]? = none)
 (hE : ∀ h' e, Heap.ExtBut it s.heap h' → (∃ o, h'.get? e = some o ∧ o.cls = .type "StopIteration") → E (.ref e) { s with heap := h' }) : wpAny (model prog w) A (Builtin.SmallTypes.nextOf (.ref it)) Q E s := by
 obtain ⟨o, ho, hc, hd⟩ := id hi
 obtain ⟨o2, ho2, _, n2, hd2⟩ := ht
 unfold Builtin.SmallTypes.nextOf
 refine wpAny_bind (wpAny_callSpecial?_slot (name := Str.ofString "__next__") hi.typeIs F.slot_tuple_iterator_next (wpAny_call_entry F.slot_tuple_iterator_next hi.typeIs F.entry_tuple_iterator_next ?_ (F.args_tuple_iterator_next_1 _)))
 refine wpAny_bind (m := field (.ref it) 0) (wpAny_field ho hd (x := .ref t) rfl ?_)
 rw [if_neg (show ¬ ((Value.ref t == Value.none) = true) from Bool.false_ne_true)]
 refine wpAny_bind (m := field (.ref it) 1) (wpAny_field ho hd (x := .int i 0) rfl ?_)
 refine wpAny_bind (m := seqItems? (.ref t)) (wpAny_seqItems ho2 hd2 ?_)
 simp only [Int.toNat_natCast, hx]
 refine wpAny_bind (wpAny_rule (wpAny_bind (wpAny_setField ho hd (by simp) (wpAny_bind (m := newExc (.type "StopIteration") []) ?_))))
 simp only [newExc, newTuple]
 refine wpAny_bind (wpAny_newObj_type (wpAny_bind (m := firstArgMember _ _) (wpAny_of_eq (a := Value.none) (by first | rfl | (simp only [firstArgMember]; rfl)) (wpAny_newObj_type ?_ (by size_fits)))) (by size_fits))
 simp only [raiseNew]
 refine wpAny_bind (wpAny_handled ?_)
 first | rw [show A.in1.handled = none from hh] | rw [hh]
 exact wpAny_bind (wpAny_pure (wpAny_throw (hE _ _ (((Heap.SameBut.update ..).extBut.push _).push _) ⟨_, Heap.get?_push_size _ rfl, rfl⟩)))
theorem drawsTup {prog : Program} {w : World} {A : Around} (hh : A.handled = none) (it t : Addr) (ne : t ≠ it) (items : Array Value) :
 Draws prog w A it [it, t] items.size (fun i v => items[i]? = some v) (fun i h => h.IsTupleIter it t i ∧ h.IsTuple t items) where
 live := fun i h x => let ⟨o, e, _⟩ := x.1; ⟨o, e⟩
 frame := fun i h h' x k => by
  obtain ⟨⟨o, e, r⟩, ⟨o2, e2, r2⟩⟩ := x
  exact ⟨⟨o, k it (by simp) o e, r⟩, ⟨o2, k t (by simp) o2 e2, r2⟩⟩
 item := fun i s Q E hi x hQ => nx_tup x.1 x.2 (x := items[i]) (by simp [hi]) fun h' y sb => hQ _ h' s.toks (by simp [hi]) ⟨y, x.2.extBut sb.extBut ne⟩ sb
 done := fun s Q E x hE => nx_tupEnd hh x.1 x.2 (by simp) hE
def kTup (P : Program) (w : World) (K : PySem.W.Frag) : SqKind P w K where
 Sq := SqT K
 It := fun h it a i => h.IsTupleIter it a i
 Ob := fun h a its => h.IsTuple a its
 itObj := fun x => let ⟨o, e, _, d⟩ := x; ⟨o, _, e, d⟩
 itAt := fun x k => let ⟨o, e, r⟩ := x; ⟨o, k o e, r⟩
 obObj := fun x => let ⟨o, e, _, n, d⟩ := x; ⟨o, n, e, d⟩
 draws := fun A hh it a ne items => drawsTup hh it a ne items
 get := fun hP hw hK I h => by
  subst hP hw hK
  obtain ⟨its, rv, p, _⟩ := I.tuple h
  exact ⟨its, rv, p⟩
 inj := fun hP hw hK I h h' => by
  subst hP hw hK
  exact I.tuple_inj h h'
 far := fun hK I h f => by
  subst hK
  rcases h with (h | ⟨_, h⟩) | ⟨o, _, _, h, _⟩
  · exact ne_of_none h f.1
  · exact ne_of_none h f.1
  · exact farK I h f
theorem invRecs {X : Cx} {pins : Pins} {σ : St} {H : Hp} {s : Shared} {h' : Heap} {t : Nat} {ch : List Addr} (I : Inv X pins σ H s) (hf : ∀ b ∈ ch, FpOk X pins H b) (k : ∀ b o, b ∉ ch → s.heap.get? b = some o → h'.get? b = some o) : Inv X pins σ H { s with heap := h', toks := t } := by
 have nch : ∀ b u, H b = some u → b ∉ ch := fun b u e z => by rw [(hf b z).1] at e; cases e
 refine I.step (g' := s.gens) (d' := s.drawn) (ch := ch) (fun b hb => ⟨(hf b hb).2.2.2.1, (hf b hb).2.1, (hf b hb).2.2.2.2.1, (hf b hb).2.2.2.2.2⟩) (fun b o _ _ hc e _ => k b o hc e) (fun b o _ _ hc e _ => ⟨o.slots, k b o hc e⟩) (fun _ _ _ _ n => n) (fun b o hc e => ⟨o, k b o hc e⟩)
  (fun _ _ e => e) (fun _ _ _ e => e) (fun b ps e => ⟨#[], by rw [e]; simp⟩) (fun m hm => ?_) (fun b u e => ?_) I.bare
 · obtain ⟨o, es, ep, ho, r⟩ := hm
   exact ⟨o, es, ep, k _ o (fun z => (hf _ z).2.1 rfl) ho, r⟩
 · refine (I.hok b u e).stay (fun c v hc q => k c v ?_ q) (fun _ q => q) fun _ _ q => q
   rcases hc with z | z
   · rw [z]; exact nch b u e
   · exact nch c _ z
theorem invTrack {X : Cx} {pins : Pins} {σ : St} {H : Hp} {s s' : Shared} {p : Addr} {o : HO} (I : Inv X pins σ H s) (I' : Inv X pins σ H s') (hp : s.heap.objs.size ≤ p) (ob : ObjOk X.prog X.w (upd H p o) s'.heap p o) : Inv X pins σ (upd H p o) s' := by
 have hn : H p = none := I.hok.fresh hp
 have nt : ∀ b u, H b = some u → b ≠ p := fun b u e => ne_of_none e hn
 refine ⟨I'.ok, I'.os, I'.bare, ⟨I'.base.keep, I'.base.slot, fun b ob e n hx => ?_, I'.base.there, fun b xs e => ?_, fun b ob u e => ?_, fun b ps e => ?_⟩, I'.loc, I'.cell, ?_, fun x c e => ?_, fun q hq => ?_, fun b u e => ?_, I'.len⟩
 · have lt : b < s.heap.objs.size := Nat.lt_of_lt_of_le (Heap.lt_size e) I.sz
   rw [upd_ne (Nat.ne_of_lt (Nat.lt_of_lt_of_le lt hp))]
   exact I'.base.free b ob e n hx
 · have := I'.base.tups b xs e
   rw [upd_ne (nt b _ this)]; exact this
 · have := I'.base.frzs b ob u e
   rw [upd_ne (nt b _ this)]; exact this
 · obtain ⟨m, e'⟩ := I'.base.tbls b ps e
   exact ⟨m, by rw [upd_ne (nt b _ e')]; exact e'⟩
 · rw [upd_ne (Nat.ne_of_lt (Nat.lt_of_lt_of_le I.lt hp))]; exact I'.free
 · obtain ⟨v, z⟩ := I.cell x c e
   rw [upd_ne (Nat.ne_of_lt (Nat.lt_of_lt_of_le z.lt hp))]; exact I'.freeC x c e
 · obtain ⟨e1, _⟩ := I.pin q hq
   obtain ⟨a1, a2, a3⟩ := I'.pin q hq
   exact ⟨a1, by rw [upd_ne (Nat.ne_of_lt (Nat.lt_of_lt_of_le (Heap.lt_size e1) hp))]; exact a2, a3⟩
 · by_cases hb : b = p
   · subst hb; rw [upd_same] at e; cases e; exact ob
   · rw [upd_ne hb] at e
     exact (I'.hok b u e).stay (fun c v _ q => q) (fun c q => by rw [upd_ne (nt c _ q)]; exact q) fun c xs q => by rw [upd_ne (nt c _ q)]; exact q
def Ite (q : SqKind P w K) (a : Addr) : It :=
 ⟨fun i H => ∃ xs x, q.Sq H a xs ∧ xs[i]? = some x, fun i H x H' => ∃ p y, H p = none ∧ H' = upd H p (.tup [.int i, y]) ∧ x = .ref p ∧ ∀ xs, q.Sq H a xs → xs[i]? = some y, fun i H => ∃ xs, q.Sq H a xs ∧ i = xs.length⟩
theorem turn_enum (q : SqKind P w K) {elts : List Expr} {k : Nat} {pos : Pos} (a e it : Addr) (hne : e ≠ it) : Turn P w K (.Tuple elts k pos) (Ite q a) [e, it] e (fun i h => (∃ old, IsEnum h e it i old) ∧ q.It h it a i) where
 mem := by simp
 obj := fun i h st b hb => by
  obtain ⟨⟨old, he⟩, hi⟩ := st
  rcases List.mem_cons.mp hb with rfl | hb
  · exact ⟨_, he, fun v z => nomatch z⟩
  · rw [List.mem_singleton.mp hb]
    obtain ⟨o, vs, h1, h2⟩ := q.itObj hi
    exact ⟨o, h1, fun v z => by rw [h2] at z; cases z⟩
 keep := fun i h h' st k => ⟨let ⟨old, he⟩ := st.1; ⟨old, k e (by simp) _ he⟩, q.itAt st.2 fun o e => k it (by simp) o e⟩
 item := by
  intro X hP hw hK hc i pins s σ H E I hf st hg
  obtain ⟨xs, x, hq, hx⟩ := hg
  obtain ⟨its, rv, ob⟩ := q.get hP hw hK I hq
  obtain ⟨u, hu, ru⟩ := rv.get hx
  obtain ⟨⟨old, he⟩, hi⟩ := st
  have ne := q.ne hi ob
  have hea : e ≠ a := fun z => by
   obtain ⟨o, n, h1, h2⟩ := q.obObj ob
   rw [← z, he] at h1
   cases h1
   cases h2
  have hlt : i < its.toArray.size := by simpa using (List.getElem?_eq_some_iff.mp hu).1
  have uq : ∀ ys, q.Sq H a ys → ys[i]? = some x := fun ys hy => by rw [q.inj hP hw hK I hy hq]; exact hx
  subst hP hw
  refine wpAny_pyNext_enum_itemD (q.draws X.A.in1 (I.ok.hd hc) it a ne its.toArray) he ⟨hi, ob⟩ hlt hne (by simp [hne, hea]) fun x' h' tk hPx ho hs' hT hsz hk => ?_
  have ex : x' = u := by
   have : its.toArray[i]? = some u := by simpa using hu
   rw [this] at hPx
   exact (Option.some.inj hPx).symm
  subst ex
  refine ⟨_, rfl, wpAny_letOwnedTupleGo_enum ho fun h2 he2 sb => ?_⟩
  have I1 : Inv X pins σ H { s with heap := h2, toks := tk + 1 } := invRecs (ch := [e, it]) I hf fun b o hb q' => (sb.2 b (fun z => hb (by simp [z]))).trans (hk b o (fun z => hb (by simp [z])) (fun z => hb (by simp [z])) q')
  have hp : H s.heap.objs.size = none := I.hok.fresh (Nat.le_refl _)
  have elt : e < s.heap.objs.size := Heap.lt_size he
  have hT2 : h2.get? s.heap.objs.size = some { cls := .type "tuple", data := .seq #[.int i tk, x'] } := (sb.2 _ (Nat.ne_of_gt elt)).trans hT
  have I2 : Inv X pins σ (upd H s.heap.objs.size (.tup [.int i, x])) { s with heap := h2, toks := tk + 1 } := invTrack I I1 (Nat.le_refl _) ⟨by show 2 ≤ sizeLine; decide, [.int i tk, x'], .cons ⟨tk, rfl⟩ (.cons ru .nil), _, hT2, rfl, _, rfl⟩
  refine ⟨.ref s.heap.objs.size, _, I2, rfl, ⟨_, x, hp, rfl, rfl, uq⟩, ⟨⟨_, by simpa using he2⟩, q.itAt hs'.1 fun o q' => (sb.2 it hne.symm).trans q'⟩, fun b hb => ?_⟩
  rw [upd_ne (Nat.ne_of_lt ?_)]
  · exact (hf b hb).1
  · rcases List.mem_cons.mp hb with rfl | hb
    · exact elt
    · rw [List.mem_singleton.mp hb]
      obtain ⟨o, vs, h1, _⟩ := q.itObj hi
      exact Heap.lt_size h1
 done := by
  intro X hP hw hK hc i pins s σ H E I hf st hg
  obtain ⟨xs, hq, hx⟩ := hg
  obtain ⟨its, rv, ob⟩ := q.get hP hw hK I hq
  obtain ⟨⟨old, he⟩, hi⟩ := st
  have ne := q.ne hi ob
  subst hP hw
  obtain ⟨f0, f1, f2, f3, f4, f5⟩ := hf it (by simp)
  have hn : i = its.toArray.size := by rw [hx, rv.length]; simp
  have st' : q.It s.heap it a its.toArray.size ∧ q.Ob s.heap a its.toArray := ⟨hn ▸ hi, ob⟩
  exact wpAny_pyNext_enum_endD (q.draws X.A.in1 (I.ok.hd hc) it a ne its.toArray) he st' fun h' ext => ⟨rfl, I.turned (t' := s.toks) (fun b o hb e => ext b o hb e) f0 f1 f3 f4 f5⟩
 self := fun _ _ _ _ _ st h => let ⟨old, he⟩ := st.1; wpAny_pyIter_enum he h
theorem yields_enum (q : SqKind P w K) {O : Own} {H : Hp} {a : Addr} {ds : List D} (h : ∀ O' H', Conv O O' H H' → ∃ xs, q.Sq H' a xs ∧ Reps K O' H' xs ds) : Yields K (Ite q a) O H (ds.mapIdx fun i d => .tup [.int i, d]) := by
 intro O' H' cv tr i
 obtain ⟨xs, hq, r⟩ := h O' H' cv
 refine ⟨fun d hd => ?_, fun hi => ⟨xs, hq, by rw [hi, r.length]; simp⟩⟩
 rw [List.getElem?_mapIdx] at hd
 cases e : ds[i]? with
 | none => rw [e] at hd; cases hd
 | some d0 =>
   rw [e] at hd
   cases hd
   obtain ⟨v, hv, rv⟩ := r.get e
   refine ⟨⟨xs, v, hq, hv⟩, fun x H'' y => ?_⟩
   obtain ⟨p, y, hp, rfl, rfl, hy⟩ := y
   have ey := hy xs hq
   rw [hv] at ey
   cases ey
   have np : ¬ O'.has p := fun z => tr p z hp
   exact ⟨Same.fresh hp _, .tup (.inl ⟨np, .inl upd_same⟩) (.cons (.int _) (.cons (rv.mono (Step.fresh hp _)) .nil))⟩
section
variable {X : Cx} {Γ : Gam} {S : Store} {e : Expr} {pos : Pos}
theorem enum_it {pins : Pins} {σ : St} {H : Hp} {s : Shared} {elts : List Expr} {k : Nat} {tp : Pos} {R : It → Hp → Prop} {E : Value → Shared → Prop} {h' : Heap} (q : SqKind X.prog X.w X.K) {a : Addr} (I : Inv X pins σ H s) (he : IsEnum h' (s.heap.objs.size + 1) s.heap.objs.size 0 .none) (hi : q.It h' s.heap.objs.size a 0)
 (kp : ∀ b o, s.heap.get? b = some o → h'.get? b = some o) (r : R (Ite q a) H) : wpAny (model X.prog X.w) X.A (pyIter (.ref (s.heap.objs.size + 1))) (PIE X pins σ (.Tuple elts k tp) R) E { s with heap := h' } := by
 refine wpAny_pyIter_enum he ?_
 refine ⟨s.heap.objs.size + 1, [s.heap.objs.size + 1, s.heap.objs.size], _, _, H, rfl, I.kept (t' := s.toks) kp, turn_enum q a (s.heap.objs.size + 1) s.heap.objs.size (Nat.succ_ne_self _), ⟨⟨_, he⟩, hi⟩, fun b hb => ?_, r⟩
 rcases List.mem_cons.mp hb with rfl | hb
 · exact I.fpOk (Nat.le_succ _) (I.hok.fresh (Nat.le_succ _))
 · rw [List.mem_singleton.mp hb]
   exact I.fpOk (Nat.le_refl _) (I.hok.fresh (Nat.le_refl _))
theorem enum_newT (l : Addr) (items : Array Value) (n : Nat) (dct : Option Addr) (sl : Array (Option Value)) :
 Meets (Builtin.«enumerate.__new__» ⟨[.type "enumerate", .ref l], []⟩) (fun _ R s => s.heap.get? l = some { cls := .type "tuple", dict := dct, data := .seq items n, slots := sl } ∧
  R (.ok (.ret (.ref (s.heap.push { cls := .type "tuple_iterator", data := .fields #[.ref l, .int 0 0] }).objs.size)))
    { s with heap := (s.heap.push { cls := .type "tuple_iterator", data := .fields #[.ref l, .int 0 0] }).push { cls := .type "enumerate", data := .fields #[.none, .bool false, .ref s.heap.objs.size, rawInt 0, .none, .none] } }) :=
 .of_wp fun prog w A R s h => by
  obtain ⟨hp, g, d, tk, os⟩ := s; obtain ⟨hl, h⟩ := h
  have hsub := sub_enumerate
  have hT : Heap.IsTuple (Shared.heap ⟨hp, g, d, tk, os⟩) l items := ⟨_, hl, rfl, n, rfl⟩
  wp_walk using AutoSeq1.wpAny_loadPart' hl
  refine wpAny_stack_any fun st => wpAny_pure ?_
  split
  · rename_i c _ _ _ _ _
    cases (c == Value.type "enumerate") <;> (wp_walk using AutoSeq1.wpAny_loadPart' hl, wpAny_pyIter_tuple hT; exact ⟨_, rfl, h⟩)
  · wp_walk using AutoSeq1.wpAny_loadPart' hl, wpAny_pyIter_tuple hT
    exact ⟨_, rfl, h⟩
end
end
end DL
namespace DL
open PySem PySem.Spec L2
open PyProof.Rows
structure Zd (z TI TO i1 i2 : Addr) (f1 f2 : List Addr) : Prop where
 a : TI ≠ z
 b : TO ≠ z
 c : TI ≠ TO
 d : TI ≠ i1
 e : TI ≠ i2
 f : TO ≠ i1
 g : TO ≠ i2
 h : i1 ≠ z
 i : i2 ≠ z
 j : z ∉ f1
 k : z ∉ f2
 l : TO ∉ f1
 m : TO ∉ f2
 n : i1 ∉ f2
 o : i2 ∉ f1
section
variable {prog : Program} {w : World} {A : Around} {E : Value → Shared → Prop} {s : Shared} {z TI TO i1 i2 : Addr} {f1 f2 : List Addr} {n1 n2 k : Nat} {P1 P2 : Nat → Value → Prop} {T1 T2 : Nat → Heap → Prop} {va vb : Value}
theorem zip_nx {Q : Value → Shared → Prop} (D1 : Draws prog w A i1 f1 n1 P1 T1) (D2 : Draws prog w A i2 f2 n2 P2 T2) (Z : Zd z TI TO i1 i2 f1 f2) (hz : IsZip s.heap z TI TO .none) (hTI : IsPair s.heap TI (.ref i1) (.ref i2)) (hTO : IsPair s.heap TO va vb) (t1 : T1 k s.heap) (t2 : T2 k s.heap) (k1 : k < n1) (k2 : k < n2)
 (hQ : ∀ x y h' tk, P1 k x → P2 k y → IsZip h' z TI TO (rawInt s.heap.objs.size) → IsPair h' TO x y → T1 (k + 1) h' → T2 (k + 1) h' → IsPair h' s.heap.objs.size x y →
  (∀ c o, c ≠ z → c ≠ TO → c ≠ i1 → c ≠ i2 → s.heap.get? c = some o → h'.get? c = some o) → Q (.ref s.heap.objs.size) { s with heap := h', toks := tk }) :
 wpAny (model prog w) A (Builtin.«zip.__next__» ⟨[.ref z], []⟩) (fun fin s' => ∃ v, fin = .done (.ret v) ∧ Q v s') E s := by
 obtain ⟨hp, g, d, tk0, os⟩ := s
 refine wpAny_bind (m := field (.ref z) 2) (wpAny_field hz rfl (x := .bool false) rfl (wpAny_bind (m := field (.ref z) 3) (wpAny_field hz rfl (x := .ref TI) rfl (wpAny_bind (wpAny_seqItems hTI rfl ?_)))))
 refine wpAny_bind (m := Builtin.SmallTypes.ownedTupleIsFree (.ref z)) ?_
 unfold Builtin.SmallTypes.ownedTupleIsFree
 refine wpAny_bind (wpAny_field hz rfl (x := .none) rfl (wpAny_pure ?_))
 simp only [if_true]
 refine wpAny_bind (wpAny_rule (wpAny_bind (wpAny_field hz rfl (x := .ref TO) rfl (wpAny_bind (wpAny_setField_rec hz (by simp) fun h1 hz1 s1 => ?_)))))
 replace hz1 : IsZip h1 z TI TO .ellipsis := hz1
 refine wpAny_bind ?_
 simp only [List.zipIdx_cons, List.zipIdx_nil, List.forIn_cons, List.forIn_nil]
 refine wpAny_bind (wpAny_bind (wpAny_onRaise (wpAny_bind (m := Builtin.SmallTypes.nextOf (.ref i1)) ?_)))
 refine D1.item k _ _ _ k1 (D1.frame _ _ _ t1 fun b hb o e => s1.extBut b o (fun q => Z.j (q ▸ hb)) e) fun x h2 tk1 p1 t1' s2 => wpAny_pure ?_
 replace s2 : Heap.SameBut i1 h1 h2 := s2
 have o2 : IsPair h2 TO va vb := s2.extBut _ _ Z.f (s1.extBut _ _ Z.b hTO)
 refine wpAny_bind (wpAny_seqItems o2 rfl (wpAny_bind (wpAny_updateSeq_pair o2 fun h3 o3 s3 => wpAny_bind (wpAny_letGo (wpAny_pure ?_)))))
 replace o3 : IsPair h3 TO x vb := o3
 refine wpAny_bind (wpAny_bind (wpAny_onRaise (wpAny_bind (m := Builtin.SmallTypes.nextOf (.ref i2)) ?_)))
 have t2' : T2 k h3 := D2.frame _ _ _ t2 fun b hb o e => s3.extBut b o (fun q => Z.m (q ▸ hb)) (s2.extBut b o (fun q => Z.n (q ▸ hb)) (s1.extBut b o (fun q => Z.k (q ▸ hb)) e))
 refine D2.item k _ _ _ k2 t2' fun y h4 tk2 p2 t2'' s4 => wpAny_pure ?_
 replace s4 : Heap.SameBut i2 h3 h4 := s4
 have o4 : IsPair h4 TO x vb := s4.extBut _ _ Z.g o3
 refine wpAny_bind (wpAny_seqItems o4 rfl (wpAny_bind (wpAny_updateSeq_pair o4 fun h5 o5 s5 => wpAny_bind (wpAny_letGo (wpAny_pure (wpAny_pure ?_))))))
 replace o5 : IsPair h5 TO x y := o5
 refine wpAny_bind (wpAny_seqItems o5 rfl (wpAny_bind (wpAny_newTuple ?_)))
 have sz : h5.objs.size = hp.objs.size := by rw [s5.1, s4.1, s3.1, s2.1, s1.1]
 have hz5 : IsZip h5 z TI TO .ellipsis := s5.extBut _ _ Z.b.symm (s4.extBut _ _ Z.i.symm (s3.extBut _ _ Z.b.symm (s2.extBut _ _ Z.h.symm hz1)))
 have k5 : ∀ c o, c ≠ z → c ≠ TO → c ≠ i1 → c ≠ i2 → hp.get? c = some o → h5.get? c = some o := fun c o c1 c2 c3 c4 q => s5.extBut _ _ c2 (s4.extBut _ _ c4 (s3.extBut _ _ c2 (s2.extBut _ _ c3 (s1.extBut _ _ c1 q))))
 have zlt : z < h5.objs.size := Heap.lt_size hz5
 refine wpAny_bind (m := Builtin.SmallTypes.ownedTupleHandOut (.ref z) (.ref h5.objs.size)) ?_
 unfold Builtin.SmallTypes.ownedTupleHandOut
 have hz6 : IsZip (h5.push { cls := .type "tuple", data := .seq #[x, y] }) z TI TO .ellipsis := Heap.get?_push_of_some _ hz5
 refine wpAny_bind (wpAny_setField_rec hz6 (by simp) fun h7 hz7 s7 => ?_)
 replace hz7 : IsZip h7 z TI TO (rawInt h5.objs.size) := hz7
 refine wpAny_setField_rec hz7 (by simp) fun h8 hz8 s8 => ?_
 replace hz8 : IsZip h8 z TI TO (rawInt h5.objs.size) := hz8
 have up : ∀ c o, c ≠ z → h5.get? c = some o → h8.get? c = some o := fun c o c1 q => s8.extBut _ _ c1 (s7.extBut _ _ c1 (Heap.get?_push_of_some _ q))
 have p8 : IsPair h8 h5.objs.size x y := s8.extBut _ _ (Nat.ne_of_gt zlt) (s7.extBut _ _ (Nat.ne_of_gt zlt) (Heap.get?_push_size _ rfl))
 rw [sz] at hz8 p8
 refine wpAny_pure ⟨_, rfl, ?_⟩
 show Q (.ref h5.objs.size) _
 rw [sz]
 have u1 : T1 (k + 1) h8 := D1.frame _ _ _ t1' fun b hb o q => up b o (fun r => Z.j (r ▸ hb)) (s5.extBut b o (fun r => Z.l (r ▸ hb)) (s4.extBut b o (fun r => Z.o (r ▸ hb)) (s3.extBut b o (fun r => Z.l (r ▸ hb)) q)))
 have u2 : T2 (k + 1) h8 := D2.frame _ _ _ t2'' fun b hb o q => up b o (fun r => Z.k (r ▸ hb)) (s5.extBut b o (fun r => Z.m (r ▸ hb)) q)
 exact hQ x y h8 tk2 p1 p2 hz8 (up _ _ Z.b o5) u1 u2 p8 fun c o c1 c2 c3 c4 q => up c o c1 (k5 c o c1 c2 c3 c4 q)
theorem zip_stop {Q : PySem.Fin → Shared → Prop} (D1 : Draws prog w A i1 f1 n1 P1 T1) (D2 : Draws prog w A i2 f2 n2 P2 T2) (Z : Zd z TI TO i1 i2 f1 f2) (hz : IsZip s.heap z TI TO .none) (hTI : IsPair s.heap TI (.ref i1) (.ref i2)) (hTO : IsPair s.heap TO va vb) (t1 : T1 k s.heap) (t2 : T2 k s.heap) (hk : k = n1 ∨ (k < n1 ∧ k = n2))
 (hE : ∀ h' tk e, (∀ c o, c ≠ z → c ≠ TO → c ≠ i1 → c ≠ i2 → s.heap.get? c = some o → h'.get? c = some o) → (∃ o, h'.get? e = some o ∧ o.cls = .type "StopIteration") → E (.ref e) { s with heap := h', toks := tk }) :
 wpAny (model prog w) A (Builtin.«zip.__next__» ⟨[.ref z], []⟩) Q E s := by
 obtain ⟨hp, g, d, tk0, os⟩ := s
 refine wpAny_bind (m := field (.ref z) 2) (wpAny_field hz rfl (x := .bool false) rfl (wpAny_bind (m := field (.ref z) 3) (wpAny_field hz rfl (x := .ref TI) rfl (wpAny_bind (wpAny_seqItems hTI rfl ?_)))))
 refine wpAny_bind (m := Builtin.SmallTypes.ownedTupleIsFree (.ref z)) ?_
 unfold Builtin.SmallTypes.ownedTupleIsFree
 refine wpAny_bind (wpAny_field hz rfl (x := .none) rfl (wpAny_pure ?_))
 simp only [if_true]
 refine wpAny_bind (wpAny_rule (wpAny_bind (wpAny_field hz rfl (x := .ref TO) rfl (wpAny_bind (wpAny_setField_rec hz (by simp) fun h1 hz1 s1 => ?_)))))
 replace hz1 : IsZip h1 z TI TO .ellipsis := hz1
 refine wpAny_bind ?_
 simp only [List.zipIdx_cons, List.zipIdx_nil, List.forIn_cons, List.forIn_nil]
 refine wpAny_bind (wpAny_bind (wpAny_onRaise (wpAny_bind (m := Builtin.SmallTypes.nextOf (.ref i1)) ?_)))
 have t1' : T1 k h1 := D1.frame _ _ _ t1 fun b hb o e => s1.extBut b o (fun q => Z.j (q ▸ hb)) e
 rcases hk with rfl | ⟨k1, rfl⟩
 · refine D1.done _ _ _ t1' fun h2 e s2 hq_ => ?_
   obtain ⟨oe, he, ce⟩ := hq_
   replace s2 : Heap.ExtBut i1 h1 h2 := s2
   have hz2 : IsZip h2 z TI TO .ellipsis := s2 _ _ Z.h.symm hz1
   have ez : e ≠ z := fun q => by subst q; rw [hz2] at he; cases he; simp at ce
   exact wpAny_setField_rec hz2 (by simp) fun h3 _ s3 => hE h3 _ e (fun c o c1 _ c3 _ q => s3.extBut _ _ c1 (s2 _ _ c3 (s1.extBut _ _ c1 q))) ⟨oe, s3.extBut _ _ ez he, ce⟩
 · refine D1.item k _ _ _ k1 t1' fun x h2 tk1 p1 _ s2 => wpAny_pure ?_
   replace s2 : Heap.SameBut i1 h1 h2 := s2
   have o2 : IsPair h2 TO va vb := s2.extBut _ _ Z.f (s1.extBut _ _ Z.b hTO)
   refine wpAny_bind (wpAny_seqItems o2 rfl (wpAny_bind (wpAny_updateSeq_pair o2 fun h3 o3 s3 => wpAny_bind (wpAny_letGo (wpAny_pure ?_)))))
   refine wpAny_bind (wpAny_bind (wpAny_onRaise (wpAny_bind (m := Builtin.SmallTypes.nextOf (.ref i2)) ?_)))
   have t2' : T2 k h3 := D2.frame _ _ _ t2 fun b hb o e => s3.extBut b o (fun q => Z.m (q ▸ hb)) (s2.extBut b o (fun q => Z.n (q ▸ hb)) (s1.extBut b o (fun q => Z.k (q ▸ hb)) e))
   refine D2.done _ _ _ t2' fun h4 e s4 hq_ => ?_
   obtain ⟨oe, he, ce⟩ := hq_
   replace s4 : Heap.ExtBut i2 h3 h4 := s4
   have hz4 : IsZip h4 z TI TO .ellipsis := s4 _ _ Z.i.symm (s3.extBut _ _ Z.b.symm (s2.extBut _ _ Z.h.symm hz1))
   have ez : e ≠ z := fun q => by subst q; rw [hz4] at he; cases he; simp at ce
   exact wpAny_setField_rec hz4 (by simp) fun h5 _ s5 => hE h5 _ e (fun c o c1 c2 c3 c4 q => s5.extBut _ _ c1 (s4 _ _ c4 (s3.extBut _ _ c2 (s2.extBut _ _ c3 (s1.extBut _ _ c1 q))))) ⟨oe, s5.extBut _ _ ez he, ce⟩
end
section
variable {P : Program} {w : World} {K : PySem.W.Frag}
def Itz (q r : SqKind P w K) (a b : Addr) : It :=
 ⟨fun i H => ∃ xs ys x y, q.Sq H a xs ∧ r.Sq H b ys ∧ xs[i]? = some x ∧ ys[i]? = some y,
  fun i H v H' => ∃ p x y, H p = none ∧ H' = upd H p (.tup [x, y]) ∧ v = .ref p ∧ (∀ xs, q.Sq H a xs → xs[i]? = some x) ∧ ∀ ys, r.Sq H b ys → ys[i]? = some y,
  fun i H => ∃ xs ys, q.Sq H a xs ∧ r.Sq H b ys ∧ i = min xs.length ys.length⟩
structure Zr (z TI TO i1 i2 : Addr) : Prop where
 a : TI ≠ z
 b : TO ≠ z
 c : TI ≠ TO
 d : TI ≠ i1
 e : TI ≠ i2
 f : TO ≠ i1
 g : TO ≠ i2
 h : i1 ≠ z
 i : i2 ≠ z
 j : i1 ≠ i2
theorem Zr.zd (q r : SqKind P w K) {X : Cx} {pins : Pins} {σ : St} {H : Hp} {s : Shared} {z TI TO i1 i2 a b : Addr} {xs ys : List V} (Z : Zr z TI TO i1 i2) (hK : X.K = K) (I : Inv X pins σ H s) (hf : ∀ c ∈ [z, TI, TO, i1, i2], FpOk X pins H c) (hq : q.Sq H a xs) (hr : r.Sq H b ys) : Zd z TI TO i1 i2 [i1, a] [i2, b] := by
 have fa : ∀ c ∈ [z, TI, TO, i1, i2], c ≠ a := fun c hc => (q.far hK I hq (hf c hc)).symm
 have fb : ∀ c ∈ [z, TI, TO, i1, i2], c ≠ b := fun c hc => (r.far hK I hr (hf c hc)).symm
 refine ⟨Z.a, Z.b, Z.c, Z.d, Z.e, Z.f, Z.g, Z.h, Z.i, ?_, ?_, ?_, ?_, ?_, ?_⟩
 · simp [Z.h.symm, fa z (by simp)]
 · simp [Z.i.symm, fb z (by simp)]
 · simp [Z.f, fa TO (by simp)]
 · simp [Z.g, fb TO (by simp)]
 · simp [Z.j, fb i1 (by simp)]
 · simp [Z.j.symm, fa i2 (by simp)]
theorem turn_zip (q r : SqKind P w K) {elts : List Expr} {k : Nat} {pos : Pos} (a b z TI TO i1 i2 : Addr) (Z : Zr z TI TO i1 i2) : Turn P w K (.Tuple elts k pos) (Itz q r a b) [z, TI, TO, i1, i2] z
 (fun i h => IsZip h z TI TO .none ∧ IsPair h TI (.ref i1) (.ref i2) ∧ (∃ va vb, IsPair h TO va vb) ∧ q.It h i1 a i ∧ r.It h i2 b i) where
 mem := by simp
 obj := fun i h st c hc => by
  obtain ⟨hz, hTI, ⟨va, vb, hTO⟩, hi, hj⟩ := st
  obtain ⟨o, vs, h1, h2⟩ := q.itObj hi
  obtain ⟨o', vs', h1', h2'⟩ := r.itObj hj
  simp only [List.mem_cons, List.not_mem_nil, or_false] at hc
  rcases hc with rfl | rfl | rfl | rfl | rfl
  · exact ⟨_, hz, fun v z => nomatch z⟩
  · exact ⟨_, hTI, fun v z => nomatch z⟩
  · exact ⟨_, hTO, fun v z => nomatch z⟩
  · exact ⟨o, h1, fun v z => by rw [h2] at z; cases z⟩
  · exact ⟨o', h1', fun v z => by rw [h2'] at z; cases z⟩
 keep := fun i h h' st k => by
  obtain ⟨hz, hTI, ⟨va, vb, hTO⟩, hi, hj⟩ := st
  exact ⟨k z (by simp) _ hz, k TI (by simp) _ hTI, ⟨va, vb, k TO (by simp) _ hTO⟩, q.itAt hi fun o e => k i1 (by simp) o e, r.itAt hj fun o e => k i2 (by simp) o e⟩
 item := by
  intro X hP hw hK hc i pins s σ H E I hf st hg
  obtain ⟨xs, ys, x, y, hq, hr, hx, hy⟩ := hg
  obtain ⟨its, rv, ob⟩ := q.get hP hw hK I hq
  obtain ⟨its2, rv2, ob2⟩ := r.get hP hw hK I hr
  obtain ⟨u, hu, ru⟩ := rv.get hx
  obtain ⟨u2, hu2, ru2⟩ := rv2.get hy
  obtain ⟨hz, hTI, ⟨va, vb, hTO⟩, hi, hj⟩ := st
  have ux : ∀ zs, q.Sq H a zs → zs[i]? = some x := fun zs h => by rw [q.inj hP hw hK I h hq]; exact hx
  have uy : ∀ zs, r.Sq H b zs → zs[i]? = some y := fun zs h => by rw [r.inj hP hw hK I h hr]; exact hy
  have Z2 := Z.zd q r hK I hf hq hr
  have l1 : i < its.toArray.size := by simpa using (List.getElem?_eq_some_iff.mp hu).1
  have l2 : i < its2.toArray.size := by simpa using (List.getElem?_eq_some_iff.mp hu2).1
  subst hP hw
  have hT : s.TypeIs (.ref z) "zip" := ⟨_, hz, rfl⟩
  unfold pyNext
  refine wpAny_bind (wpAny_attempt (wpAny_callSpecial?_slot (name := Str.ofString "__next__") hT F.slot_zip_next (wpAny_call_entry F.slot_zip_next hT F.entry_zip_next ?_ (F.args_zip_next_1 _))))
  refine zip_nx (q.draws X.A.in1 (I.ok.hd hc) i1 a (q.ne hi ob) its.toArray) (r.draws X.A.in1 (I.ok.hd hc) i2 b (r.ne hj ob2) its2.toArray) Z2 hz hTI hTO ⟨hi, ob⟩ ⟨hj, ob2⟩ l1 l2 fun x' y' h' tk px py hz' hTO' t1 t2 hp' kp => wpAny_pure ?_
  have ex : x' = u := by
   have e1 : its.toArray[i]? = some u := by simpa using hu
   rw [e1] at px
   exact (Option.some.inj px).symm
  have ey : y' = u2 := by
   have e1 : its2.toArray[i]? = some u2 := by simpa using hu2
   rw [e1] at py
   exact (Option.some.inj py).symm
  subst ex
  subst ey
  refine ⟨_, rfl, wpAny_letOwnedTupleGo_zip hz' fun h2 hz2 sb => ?_⟩
  have I1 : Inv X pins σ H { s with heap := h2, toks := tk } := invRecs (ch := [z, TI, TO, i1, i2]) I hf fun c o hb q' => (sb.2 c (fun z => hb (by simp [z]))).trans (kp c o (fun z => hb (by simp [z])) (fun z => hb (by simp [z])) (fun z => hb (by simp [z])) (fun z => hb (by simp [z])) q')
  have hp : H s.heap.objs.size = none := I.hok.fresh (Nat.le_refl _)
  have elt : z < s.heap.objs.size := Heap.lt_size hz
  have hT2 : h2.get? s.heap.objs.size = some { cls := .type "tuple", data := .seq #[x', y'] } := (sb.2 _ (Nat.ne_of_gt elt)).trans hp'
  have I2 : Inv X pins σ (upd H s.heap.objs.size (.tup [x, y])) { s with heap := h2, toks := tk } := invTrack I I1 (Nat.le_refl _) ⟨by show 2 ≤ sizeLine; decide, [x', y'], .cons ru (.cons ru2 .nil), _, hT2, rfl, _, rfl⟩
  have hTI' : IsPair h2 TI (.ref i1) (.ref i2) := (sb.2 _ Z.a).trans (kp _ _ Z.a Z.c Z.d Z.e hTI)
  refine ⟨.ref s.heap.objs.size, _, I2, rfl, ⟨_, x, y, hp, rfl, rfl, ux, uy⟩, ⟨hz2, hTI', ⟨_, _, (sb.2 _ Z.b).trans hTO'⟩, q.itAt t1.1 fun o q' => (sb.2 i1 Z.h).trans q', r.itAt t2.1 fun o q' => (sb.2 i2 Z.i).trans q'⟩, fun c hb => ?_⟩
  rw [upd_ne (Nat.ne_of_lt ?_)]
  · exact (hf c hb).1
  · obtain ⟨o, vs, h1, _⟩ := q.itObj hi
    obtain ⟨o', vs', h1', _⟩ := r.itObj hj
    simp only [List.mem_cons, List.not_mem_nil, or_false] at hb
    rcases hb with rfl | rfl | rfl | rfl | rfl
    · exact elt
    · exact Heap.lt_size hTI
    · exact Heap.lt_size hTO
    · exact Heap.lt_size h1
    · exact Heap.lt_size h1'
 done := by
  intro X hP hw hK hc i pins s σ H E I hf st hg
  obtain ⟨xs, ys, hq, hr, hn⟩ := hg
  obtain ⟨its, rv, ob⟩ := q.get hP hw hK I hq
  obtain ⟨its2, rv2, ob2⟩ := r.get hP hw hK I hr
  obtain ⟨hz, hTI, ⟨va, vb, hTO⟩, hi, hj⟩ := st
  have Z2 := Z.zd q r hK I hf hq hr
  subst hP hw
  have hT : s.TypeIs (.ref z) "zip" := ⟨_, hz, rfl⟩
  have hk : i = its.toArray.size ∨ (i < its.toArray.size ∧ i = its2.toArray.size) := by
   have e1 := rv.length
   have e2 := rv2.length
   simp only [List.size_toArray]
   omega
  unfold pyNext
  refine wpAny_bind (wpAny_attempt (wpAny_callSpecial?_slot (name := Str.ofString "__next__") hT F.slot_zip_next (wpAny_call_entry F.slot_zip_next hT F.entry_zip_next ?_ (F.args_zip_next_1 _))))
  refine zip_stop (q.draws X.A.in1 (I.ok.hd hc) i1 a (q.ne hi ob) its.toArray) (r.draws X.A.in1 (I.ok.hd hc) i2 b (r.ne hj ob2) its2.toArray) Z2 hz hTI hTO ⟨hi, ob⟩ ⟨hj, ob2⟩ hk fun h' tk e kp hq_ => ?_
  obtain ⟨o, he, ce⟩ := hq_
  refine wpAny_bind (wpAny_isInstance (T := "StopIteration") (b := true) ⟨o, he, ce⟩ isSubtype_stop (wpAny_pure ⟨rfl, ?_⟩))
  exact invRecs (ch := [z, TI, TO, i1, i2]) I hf fun c o hb q' => kp c o (fun z => hb (by simp [z])) (fun z => hb (by simp [z])) (fun z => hb (by simp [z])) (fun z => hb (by simp [z])) q'
 self := fun _ _ _ _ _ st h => wpAny_pyIter_zip st.1 h
theorem yields_zip (q r : SqKind P w K) {O : Own} {H : Hp} {a b : Addr} {ds es : List D} (h : ∀ O' H', Conv O O' H H' → ∃ xs ys, q.Sq H' a xs ∧ Reps K O' H' xs ds ∧ r.Sq H' b ys ∧ Reps K O' H' ys es) : Yields K (Itz q r a b) O H (List.zipWith (fun x y => .tup [x, y]) ds es) := by
 intro O' H' cv tr i
 obtain ⟨xs, ys, hq, r1, hr, r2⟩ := h O' H' cv
 refine ⟨fun d hd => ?_, fun hi => ⟨xs, ys, hq, hr, by rw [hi, r1.length, r2.length, List.length_zipWith]⟩⟩
 rw [List.getElem?_zipWith] at hd
 cases e1 : ds[i]? with
 | none => rw [e1] at hd; cases hd
 | some d1 =>
   cases e2 : es[i]? with
   | none => rw [e1, e2] at hd; cases hd
   | some d2 =>
     rw [e1, e2] at hd
     cases hd
     obtain ⟨v1, hv1, rv1⟩ := r1.get e1
     obtain ⟨v2, hv2, rv2⟩ := r2.get e2
     refine ⟨⟨xs, ys, v1, v2, hq, hr, hv1, hv2⟩, fun x H'' y => ?_⟩
     obtain ⟨p, x', y', hp, rfl, rfl, hx, hy⟩ := y
     have ex := hx xs hq
     have ey := hy ys hr
     rw [hv1] at ex
     rw [hv2] at ey
     cases ex
     cases ey
     have np : ¬ O'.has p := fun z => tr p z hp
     exact ⟨Same.fresh hp _, .tup (.inl ⟨np, .inl upd_same⟩) (.cons (rv1.mono (Step.fresh hp _)) (.cons (rv2.mono (Step.fresh hp _)) .nil))⟩
abbrev zh (h : Heap) (c1 c2 : String) (l1 l2 : Addr) : Heap :=
 ((((h.push { cls := .type c1, data := .fields #[.ref l1, .int 0 0] }).push { cls := .type c2, data := .fields #[.ref l2, .int 0 0] }).push { cls := .type "tuple", data := .seq #[.ref h.objs.size, .ref (h.push { cls := .type c1, data := .fields #[.ref l1, .int 0 0] }).objs.size] }).push { cls := .type "tuple", data := .seq #[.none, .none] })
abbrev zhz (h : Heap) (c1 c2 : String) (l1 l2 : Addr) : Heap :=
 (zh h c1 c2 l1 l2).push { cls := .type "zip", data := .fields #[.none, .bool false, .bool false, .ref ((h.push { cls := .type c1, data := .fields #[.ref l1, .int 0 0] }).push { cls := .type c2, data := .fields #[.ref l2, .int 0 0] }).objs.size,
  .ref (((h.push { cls := .type c1, data := .fields #[.ref l1, .int 0 0] }).push { cls := .type c2, data := .fields #[.ref l2, .int 0 0] }).push { cls := .type "tuple", data := .seq #[.ref h.objs.size, .ref (h.push { cls := .type c1, data := .fields #[.ref l1, .int 0 0] }).objs.size] }).objs.size] }
theorem zip_newTT (l1 l2 : Addr) (xs ys : Array Value) :
 Meets (Builtin.«zip.__new__» ⟨[.type "zip", .ref l1, .ref l2], []⟩) (fun _ R s => s.heap.IsTuple l1 xs ∧ s.heap.IsTuple l2 ys ∧
  R (.ok (.ret (.ref (zh s.heap "tuple_iterator" "tuple_iterator" l1 l2).objs.size))) { s with heap := zhz s.heap "tuple_iterator" "tuple_iterator" l1 l2 }) :=
 .of_wp fun prog w A R s h => by
  obtain ⟨hp, g, d, tk, os⟩ := s; obtain ⟨a1, a2, h⟩ := h
  have hsub := sub_zip
  have b1 : Heap.IsTuple (Shared.heap ⟨hp, g, d, tk, os⟩) l1 xs := a1
  have b2 : Heap.IsTuple (Shared.heap ⟨hp.push { cls := .type "tuple_iterator", data := .fields #[.ref l1, .int 0 0] }, g, d, tk, os⟩) l2 ys := Heap.IsTuple.push a2 _
  wp_walk using wpAny_pyIter_tuple b1, wpAny_pyIter_tuple b2
  exact ⟨_, rfl, h⟩
end
section
variable {X : Cx} {Γ : Gam} {S : Store} {pos : Pos}
theorem zip_parts (h : Heap) (c1 c2 : String) (l1 l2 : Addr) : (zh h c1 c2 l1 l2).objs.size = h.objs.size + 4 ∧ IsZip (zhz h c1 c2 l1 l2) (h.objs.size + 4) (h.objs.size + 2) (h.objs.size + 3) .none ∧ IsPair (zhz h c1 c2 l1 l2) (h.objs.size + 2) (.ref h.objs.size) (.ref (h.objs.size + 1)) ∧ IsPair (zhz h c1 c2 l1 l2) (h.objs.size + 3) .none .none ∧
 (zhz h c1 c2 l1 l2).get? h.objs.size = some { cls := .type c1, data := .fields #[.ref l1, .int 0 0] } ∧ (zhz h c1 c2 l1 l2).get? (h.objs.size + 1) = some { cls := .type c2, data := .fields #[.ref l2, .int 0 0] } ∧ ∀ b o, h.get? b = some o → (zhz h c1 c2 l1 l2).get? b = some o := by
 have z1 : (h.push { cls := .type c1, data := .fields #[.ref l1, .int 0 0] }).objs.size = h.objs.size + 1 := Heap.size_push ..
 have z2 : ((h.push { cls := .type c1, data := .fields #[.ref l1, .int 0 0] }).push { cls := .type c2, data := .fields #[.ref l2, .int 0 0] }).objs.size = h.objs.size + 2 := by rw [Heap.size_push, z1]
 have z3 : (((h.push { cls := .type c1, data := .fields #[.ref l1, .int 0 0] }).push { cls := .type c2, data := .fields #[.ref l2, .int 0 0] }).push { cls := .type "tuple", data := .seq #[.ref h.objs.size, .ref (h.push { cls := .type c1, data := .fields #[.ref l1, .int 0 0] }).objs.size] }).objs.size = h.objs.size + 3 := by rw [Heap.size_push, z2]
 have z4 : (zh h c1 c2 l1 l2).objs.size = h.objs.size + 4 := by rw [Heap.size_push, z3]
 have g5 := Heap.get?_push_size (zh h c1 c2 l1 l2) (o := { cls := .type "zip", data := .fields #[.none, .bool false, .bool false, .ref ((h.push { cls := .type c1, data := .fields #[.ref l1, .int 0 0] }).push { cls := .type c2, data := .fields #[.ref l2, .int 0 0] }).objs.size,
  .ref (((h.push { cls := .type c1, data := .fields #[.ref l1, .int 0 0] }).push { cls := .type c2, data := .fields #[.ref l2, .int 0 0] }).push { cls := .type "tuple", data := .seq #[.ref h.objs.size, .ref (h.push { cls := .type c1, data := .fields #[.ref l1, .int 0 0] }).objs.size] }).objs.size] }) rfl
 have g4 : (zhz h c1 c2 l1 l2).get? (((h.push { cls := .type c1, data := .fields #[.ref l1, .int 0 0] }).push { cls := .type c2, data := .fields #[.ref l2, .int 0 0] }).push { cls := .type "tuple", data := .seq #[.ref h.objs.size, .ref (h.push { cls := .type c1, data := .fields #[.ref l1, .int 0 0] }).objs.size] }).objs.size = some { cls := .type "tuple", data := .seq #[.none, .none] } := Heap.get?_push_of_some _ (Heap.get?_push_size _ rfl)
 have g3 : (zhz h c1 c2 l1 l2).get? ((h.push { cls := .type c1, data := .fields #[.ref l1, .int 0 0] }).push { cls := .type c2, data := .fields #[.ref l2, .int 0 0] }).objs.size = some { cls := .type "tuple", data := .seq #[.ref h.objs.size, .ref (h.push { cls := .type c1, data := .fields #[.ref l1, .int 0 0] }).objs.size] } := Heap.get?_push_of_some _ (Heap.get?_push_of_some _ (Heap.get?_push_size _ rfl))
 have g2 : (zhz h c1 c2 l1 l2).get? (h.push { cls := .type c1, data := .fields #[.ref l1, .int 0 0] }).objs.size = some { cls := .type c2, data := .fields #[.ref l2, .int 0 0] } := Heap.get?_push_of_some _ (Heap.get?_push_of_some _ (Heap.get?_push_of_some _ (Heap.get?_push_size _ rfl)))
 have g1 : (zhz h c1 c2 l1 l2).get? h.objs.size = some { cls := .type c1, data := .fields #[.ref l1, .int 0 0] } := Heap.get?_push_of_some _ (Heap.get?_push_of_some _ (Heap.get?_push_of_some _ (Heap.get?_push_of_some _ (Heap.get?_push_size _ rfl))))
 rw [z2, z3, z4] at g5
 rw [z3] at g4
 rw [z1, z2] at g3
 rw [z1] at g2
 refine ⟨z4, ?_, g3, g4, g1, g2, fun b o e => Heap.get?_push_of_some _ (Heap.get?_push_of_some _ (Heap.get?_push_of_some _ (Heap.get?_push_of_some _ (Heap.get?_push_of_some _ e))))⟩
 show (zhz h c1 c2 l1 l2).get? _ = _
 unfold zhz
 rw [z2, z3]
 exact g5
theorem zip_it {pins : Pins} {σ : St} {H : Hp} {s : Shared} {elts : List Expr} {k : Nat} {tp : Pos} {R : It → Hp → Prop} {E : Value → Shared → Prop} {c1 c2 : String} {l1 l2 : Addr} (q r : SqKind X.prog X.w X.K) (I : Inv X pins σ H s)
 (hi : q.It (zhz s.heap c1 c2 l1 l2) s.heap.objs.size l1 0) (hj : r.It (zhz s.heap c1 c2 l1 l2) (s.heap.objs.size + 1) l2 0) (rr : R (Itz q r l1 l2) H) :
 wpAny (model X.prog X.w) X.A (pyIter (.ref (s.heap.objs.size + 4))) (PIE X pins σ (.Tuple elts k tp) R) E { s with heap := zhz s.heap c1 c2 l1 l2 } := by
 obtain ⟨_, p1, p2, p3, _, _, kp⟩ := zip_parts s.heap c1 c2 l1 l2
 refine wpAny_pyIter_zip p1 ?_
 refine ⟨s.heap.objs.size + 4, [s.heap.objs.size + 4, s.heap.objs.size + 2, s.heap.objs.size + 3, s.heap.objs.size, s.heap.objs.size + 1], _, _, H, rfl, I.kept (t' := s.toks) kp, turn_zip q r l1 l2 (s.heap.objs.size + 4) (s.heap.objs.size + 2) (s.heap.objs.size + 3) s.heap.objs.size (s.heap.objs.size + 1) ?_, ⟨p1, p2, ⟨_, _, p3⟩, hi, hj⟩, fun b hb => ?_, rr⟩
 · constructor <;> exact fun z => by have z' : (_ : Nat) = _ := z; omega
 · have hb' : s.heap.objs.size ≤ b := by
    simp only [List.mem_cons, List.not_mem_nil, or_false] at hb
    rcases hb with rfl | rfl | rfl | rfl | rfl
    · exact Nat.le_add_right _ _
    · exact Nat.le_add_right _ _
    · exact Nat.le_add_right _ _
    · exact Nat.le_refl _
    · exact Nat.le_add_right _ _
   exact I.fpOk hb' (I.hok.fresh hb')
theorem it_zipTT {e1 e2 : Expr} {elts : List Expr} {k : Nat} {tp p : Pos} {W : List D → Store → Prop} (h : Ev X Γ S e1 fun d S1 => Ev X Γ S1 e2 fun d' S2 => ∃ ds es, d = .tup ds ∧ d' = .tup es ∧ W (List.zipWith (fun x y => .tup [x, y]) ds es) S2) (hm : X.mg "zip" = none) (hg : Gl X "zip" := by rfl)
 (hs : starEach [e1, e2] X.env = (false, eval e1 X.env) :: starEach [e2] X.env := by rfl) (hs2 : starEach [e2] X.env = [(false, eval e2 X.env)] := by rfl) :
 ItW X Γ S (.Tuple elts k tp) (.Call (.Name "zip" p) [e1, e2] [] pos) W := by
 intro pins s σ H O I env st
 have hA : EvA X Γ S [e1, e2] fun dd S2 => ∃ ds es, dd = [.tup ds, .tup es] ∧ W (List.zipWith (fun x y => .tup [x, y]) ds es) S2 :=
  eva_cons (h.mono fun d S1 h1 => eva_cons (h1.mono fun d' S2 ⟨ds, es, a, b, w⟩ => eva_nil ⟨ds, es, by rw [a, b], w⟩) hs2) hs
 refine Call_ (ld_blt I hg hm boot_zip (PyProof.Rows.callWith_type1 (thn (hA pos pins s σ H O I env st) fun us s1 hq_ => ?_) hs (by rw [hs2]; rfl)))
 obtain ⟨vs, H1, I1, r1, O1, dd, S1, ⟨ds, es, ed, w⟩, st1, ok1, rep⟩ := hq_
 subst ed
 cases rep with
 | cons ra rb =>
   cases rb with
   | cons rb rc =>
     cases rc
     obtain ⟨u, u2, rfl, ru, ru2⟩ := vals2 r1
     cases ra with
     | @tup a xs _ h1 q1 =>
       cases rb with
       | @tup b ys _ h2 q2 =>
         cases ru
         cases ru2
         obtain ⟨its, rv, pl, hz⟩ := I1.tuple h1.sq
         obtain ⟨its2, rv2, pl2, hz2⟩ := I1.tuple h2.sq
         obtain ⟨z4, p1, p2, p3, p4, p5, kp⟩ := zip_parts s1.heap "tuple_iterator" "tuple_iterator" a b
         refine callType_new F.called_zip (by decide) (F.typeCall_zip_2 _ _) (F.newCall_zip_2 _ _) (fun obj => F.args_object_init_3 obj _ _) F.entry_zip_new (zip_newTT a b its.toArray its2.toArray) ⟨pl, pl2, ?_⟩
         show _ ∧ _
         rw [z4]
         refine ⟨⟨_, p1, rfl⟩, zip_it (kTup X.prog X.w X.K) (kTup X.prog X.w X.K) I1 ⟨_, p4, rfl, rfl⟩ ⟨_, p5, rfl, rfl⟩ ⟨O1, _, S1, w, st1, ok1, yields_zip _ _ fun O' H' cv => ⟨xs, ys, (h1.conv cv).sq, q1.conv cv, (h2.conv cv).sq, q2.conv cv⟩⟩⟩
end
end DL
namespace DL
open PySem PySem.Spec L2
open PyProof.Rows
section
variable {X : Cx} {Γ : Gam} {S : Store} {e : Expr}
theorem po_s {W : Option Int → Store → Prop} (h : Ev X Γ S e fun d S1 => ∃ i, d = .int i ∧ W (some i) S1) : PoD X Γ S (some e) W := h
theorem po_n {W : Option Int → Store → Prop} (h : W none S) : PoD X Γ S none W := h
end
theorem take_one {α : Type} {xs : List α} {i : Nat} {x : α} (h : xs[i]? = some x) : xs.take (i + 1) = xs.take i ++ [x] := by rw [List.take_add_one, h]; rfl
theorem cut_tail (d : D) (ds : List D) : cutD (d :: ds) (some 1) none = ds := by
 unfold cutD
 have h1 : HT.sIx (d :: ds).length 0 (some 1) = 1 := by
  have := HT.sIx_nat (d :: ds).length 0 1
  simp only [List.length_cons] at this ⊢
  have h2 : ((1 : Nat) : Int) = 1 := rfl
  rw [h2] at this
  rw [this]; omega
 rw [h1, HT.sIx_none]
 simp
theorem cut_len (ds : List D) (lo hi : Option Int) : (cutD ds lo hi).length ≤ ds.length := by
 unfold cutD
 rw [List.length_take, List.length_drop]; omega
theorem cut_mem {ds : List D} {lo hi : Option Int} {x : D} (h : x ∈ cutD ds lo hi) : x ∈ ds := by
 unfold cutD at h
 exact List.mem_of_mem_drop (List.mem_of_mem_take h)
theorem cut_to {ds : List D} {k : Int} (h : 0 ≤ k) : cutD ds none (some k) = ds.take k.toNat := by
 unfold cutD
 rw [HT.sIx_none]
 have e : HT.sIx ds.length ds.length (some k) = min k.toNat ds.length := by
  have := HT.sIx_nat ds.length ds.length k.toNat
  rwa [Int.toNat_of_nonneg h] at this
 rw [e, List.drop_zero, Nat.sub_zero]
 rcases Nat.le_total k.toNat ds.length with q | q
 · rw [Nat.min_eq_left q]
 · rw [Nat.min_eq_right q, List.take_of_length_le (Nat.le_refl _), List.take_of_length_le q]
theorem cut_from {ds : List D} {k : Int} (h : 0 ≤ k) : cutD ds (some k) none = ds.drop k.toNat := by
 unfold cutD
 rw [HT.sIx_none]
 have e : HT.sIx ds.length 0 (some k) = min k.toNat ds.length := by
  have := HT.sIx_nat ds.length 0 k.toNat
  rwa [Int.toNat_of_nonneg h] at this
 rw [e]
 rcases Nat.le_total k.toNat ds.length with q | q
 · rw [Nat.min_eq_left q, List.take_of_length_le (by rw [List.length_drop]; omega)]
 · rw [Nat.min_eq_right q, List.drop_eq_nil_of_le (Nat.le_refl _), List.drop_eq_nil_of_le q]; simp
theorem atI_lt {α : Type} {ds : List α} {v : Int} (h0 : 0 ≤ v) (h1 : v < ds.length) : ∃ x, atI ds v = some x ∧ ds[v.toNat]? = some x := by
 have hk : v.toNat < ds.length := by omega
 refine ⟨ds[v.toNat], ?_, List.getElem?_eq_getElem hk⟩
 have q := atI_nat (xs := ds) (j := v.toNat) (List.getElem?_eq_getElem hk)
 rwa [Int.toNat_of_nonneg h0] at q
theorem set_get {S : Store} {k : Nat} {l l' : List D} (h : S[k]? = some l) : (S.set k l')[k]? = some l' := List.getElem?_set_self (List.getElem?_eq_some_iff.mp h).1
def penL (ns : List Int) (a c n m z : Int) : List D := [.lst (ns.map .int), .int a, .int c, .int n, .int m, .int z]
def Pen (S : Store) (k : Nat) : Prop := ∃ ns a c n m z, S[k]? = some (penL ns a c n m z) ∧ 0 ≤ a
def Upd (S : Store) (k : Nat) (S' : Store) : Prop := ∃ ns a c n m z, S' = S.set k (penL ns a c n m z) ∧ 0 ≤ a
theorem Upd.pen {S S' : Store} {k : Nat} (p : Pen S k) (u : Upd S k S') : Pen S' k := by
 obtain ⟨_, _, _, _, _, _, h, _⟩ := p
 obtain ⟨ns, a, c, n, m, z, rfl, ha⟩ := u
 exact ⟨ns, a, c, n, m, z, set_get h, ha⟩
theorem Upd.trans {S S1 S2 : Store} {k : Nat} (a : Upd S k S1) (b : Upd S1 k S2) : Upd S k S2 := by
 obtain ⟨_, _, _, _, _, _, rfl, _⟩ := a
 obtain ⟨ns, x, c, n, m, z, rfl, ha⟩ := b
 exact ⟨ns, x, c, n, m, z, by rw [List.set_set], ha⟩
theorem Upd.refl {S : Store} {k : Nat} (p : Pen S k) : Upd S k S := by
 obtain ⟨ns, a, c, n, m, z, h, ha⟩ := p
 exact ⟨ns, a, c, n, m, z, by
  obtain ⟨hl, e⟩ := List.getElem?_eq_some_iff.mp h
  rw [← e, List.set_getElem_self], ha⟩
theorem Upd.len {S S' : Store} {k : Nat} (u : Upd S k S') : S'.length = S.length := by
 obtain ⟨_, _, _, _, _, _, rfl, _⟩ := u
 simp
end DL
namespace RF
open PySem PySem.Spec L2 DL
open PyProof.Rows
open Builtin
theorem noFill_tuple_mul : fillsNumberSlot (.type "tuple") "mul" = pure false :=
 PySem.fillsNumberSlot_seq (id := "tuple.__mul__") (r := some (.builtin "tuple.__rmul__")) F.slot_tuple_mul.lookup (by decide +kernel) F.slot_tuple_rmul.lookup (by decide +kernel)
theorem repeat_tuple : seqRepeat? (.type "tuple") = pure (some (.builtin "tuple.__mul__")) := by
 unfold seqRepeat?
 rw [PySem.seqSlot_of (T := "tuple") (name := "__mul__") (id := "tuple.__mul__") F.slot_tuple_mul.lookup (by decide +kernel), PySem.seqSlot_of (T := "tuple") (name := "__rmul__") (id := "tuple.__rmul__") F.slot_tuple_rmul.lookup (by decide +kernel)]
 rfl
theorem int_rmul_tuple (a : Int) (t : Tok) (l : Addr) (items : Array Value) (n : Nat) (dct : Option Addr) (sl : Array (Option Value)) :
 Meets (Builtin.«int.__rmul__» ⟨[.int a t, .ref l], []⟩) (fun _ R s => s.heap.get? l = some { cls := .type "tuple", dict := dct, data := .seq items n, slots := sl } ∧ R (.ok (.ret Value.notImplemented)) s) :=
 .of_wp fun prog w A R s h => by obtain ⟨hp, g, d, tk, os⟩ := s; obtain ⟨hl, h⟩ := h; wp_walk; exact ⟨_, rfl, h⟩
theorem tuple_mul_same (l : Addr) (items : Array Value) (n : Nat) (dct : Option Addr) (sl : Array (Option Value)) (x : Int) (u : Tok) (h1 : ¬ (decide (x < -(2 ^ 63)) || decide (x ≥ 2 ^ 63)) = true) (hc : (items.isEmpty || x == 1) = true) :
 Meets (Builtin.«tuple.__mul__» ⟨[.ref l, .int x u], []⟩) (fun _ R s => s.heap.get? l = some { cls := .type "tuple", dict := dct, data := .seq items n, slots := sl } ∧ R (.ok (.ret (.ref l))) s) :=
 .of_wp fun prog w A R s h => by
  obtain ⟨hp, g, d, tk, os⟩ := s; obtain ⟨hl, h⟩ := h
  unfold Builtin.«tuple.__mul__»
  wp_walk
  rw [if_neg h1]
  wp_walk using AutoSeq1.wpAny_loadPart' hl
  try rw [if_pos hc]
  wp_walk using AutoSeq1.wpAny_loadPart' hl
  exact ⟨_, rfl, h⟩
theorem tuple_mul_none (l : Addr) (items : Array Value) (n : Nat) (dct : Option Addr) (sl : Array (Option Value)) (x : Int) (u : Tok) (h1 : ¬ (decide (x < -(2 ^ 63)) || decide (x ≥ 2 ^ 63)) = true) (hc : ¬ (items.isEmpty || x == 1) = true) (h2 : (decide (x ≤ 0) || items.isEmpty) = true) :
 Meets (Builtin.«tuple.__mul__» ⟨[.ref l, .int x u], []⟩) (fun _ R s => s.heap.get? l = some { cls := .type "tuple", dict := dct, data := .seq items n, slots := sl } ∧ R (.ok (.ret (.ref s.heap.objs.size))) { s with heap := s.heap.push { cls := .type "tuple", data := .seq #[] } }) :=
 .of_wp fun prog w A R s h => by
  obtain ⟨hp, g, d, tk, os⟩ := s; obtain ⟨hl, h⟩ := h
  unfold Builtin.«tuple.__mul__»
  wp_walk
  rw [if_neg h1]
  wp_walk using AutoSeq1.wpAny_loadPart' hl
  try rw [if_neg hc]
  wp_walk using AutoSeq1.wpAny_loadPart' hl
  try rw [if_pos h2]
  wp_walk using AutoSeq1.wpAny_loadPart' hl
  exact ⟨_, rfl, h⟩
theorem tuple_mul_many (l : Addr) (items : Array Value) (n : Nat) (dct : Option Addr) (sl : Array (Option Value)) (x : Int) (u : Tok) (h1 : ¬ (decide (x < -(2 ^ 63)) || decide (x ≥ 2 ^ 63)) = true) (hc : ¬ (items.isEmpty || x == 1) = true) (h2 : ¬ (decide (x ≤ 0) || items.isEmpty) = true)
 (h3 : ¬ ((items.size : Int) * x > (2 ^ 63 - 1) / 8)) (h4 : ¬ Builtin.Tuple.tupleTooMany ((items.size : Int) * x) = true) (h5 : ((List.replicate x.toNat items).foldl (· ++ ·) #[]).size ≤ sizeLine) :
 Meets (Builtin.«tuple.__mul__» ⟨[.ref l, .int x u], []⟩) (fun _ R s => s.heap.get? l = some { cls := .type "tuple", dict := dct, data := .seq items n, slots := sl } ∧ R (.ok (.ret (.ref s.heap.objs.size))) { s with heap := s.heap.push { cls := .type "tuple", data := .seq ((List.replicate x.toNat items).foldl (· ++ ·) #[]) } }) :=
 .of_wp fun prog w A R s h => by
  obtain ⟨hp, g, d, tk, os⟩ := s; obtain ⟨hl, h⟩ := h
  unfold Builtin.«tuple.__mul__»
  wp_walk
  rw [if_neg h1]
  wp_walk using AutoSeq1.wpAny_loadPart' hl
  try rw [if_neg hc]
  wp_walk using AutoSeq1.wpAny_loadPart' hl
  try rw [if_neg h2]
  wp_walk using AutoSeq1.wpAny_loadPart' hl
  try rw [if_neg h3]
  wp_walk using AutoSeq1.wpAny_loadPart' hl
  try rw [if_neg h4]
  wp_walk using AutoSeq1.wpAny_loadPart' hl
  exact ⟨_, rfl, h⟩
theorem Reps.rep {K : PySem.W.Frag} {O : Own} {H : Hp} {vs : List V} {ds : List D} (r : Reps K O H vs ds) : ∀ k : Nat, Reps K O H (List.replicate k vs).flatten (List.replicate k ds).flatten
 | 0 => .nil
 | k + 1 => by
   rw [List.replicate_succ, List.replicate_succ, List.flatten_cons, List.flatten_cons]
   exact r.append (Reps.rep r k)
theorem b_repT {X : Cx} {S : Store} {W : WD} {ds : List D} {k : Int} (hk : -(2 ^ 63) ≤ k ∧ k < 2 ^ 63) (hz : ds.length * k.toNat ≤ 1000000) (w : W (.tup (List.replicate k.toNat ds).flatten) S) : BinW X .Mult (.tup ds) (.int k) S W := by
 intro pins s σ H O v w' u u' I st r1 r2 r3 r4
 cases r1 with
 | @tup a xs _ h1 q1 =>
   cases r2
   cases r3
   obtain ⟨t, rfl⟩ := r4
   obtain ⟨its, v1, p1, _⟩ := I.tuple h1.sq
   obtain ⟨⟨cls, dd, data, sl⟩, ho, hc, n, hd⟩ := id p1
   simp only at hc hd
   subst hc hd
   have l1 : its.length = ds.length := by rw [← v1.length, q1.length]
   have c1 : ¬ (decide (k < -(2 ^ 63)) || decide (k ≥ 2 ^ 63)) = true := by
    rw [decide_eq_false (by omega), decide_eq_false (by omega)]; decide
   have new : ∀ m : Nat, m = k.toNat → EP X pins σ (QG X.K O H W) (.ref s.heap.objs.size) { s with heap := s.heap.push { cls := .type "tuple", data := .seq (List.replicate m its).flatten.toArray } } := by
    rintro m rfl
    refine ⟨.ref s.heap.objs.size, upd H s.heap.objs.size (.tup (List.replicate k.toNat xs).flatten), I.laid (t' := s.toks) (fun b u e => Heap.get?_push_of_some _ e) (Nat.le_refl _) ?_, rfl, qg_tup w st I.fresh (Reps.rep q1 _)⟩
    exact ⟨by rw [len_rep, q1.length, Nat.mul_comm]; exact small hz, _, v1.rep _, ⟨_, Heap.get?_push_size _ rfl, rfl, _, rfl⟩⟩
   refine PySem.wpAny_binaryOp_repeat_ref (T := "tuple") (U := "int") (by decide) ⟨_, ho, rfl⟩ (fun s' => typeIs_int s' k t) noFill_tuple_mul F.fills_int_mul F.slot_int_rmul repeat_tuple F.slot_int_index.lookup
    (call_meets F.slot_int_rmul (typeIs_int s k t) F.entry_int_rmul (F.args_int_rmul_2 _ _) (int_rmul_tuple k t a its.toArray n dd sl) ⟨ho, rfl, ⟨_, ho, rfl⟩, ?_⟩)
   by_cases b1 : (its.toArray.isEmpty || k == 1) = true
   · refine call_meets F.slot_tuple_mul ⟨_, ho, rfl⟩ F.entry_tuple_mul (F.args_tuple_mul_2 _ _) (tuple_mul_same a its.toArray n dd sl k t c1 b1) ⟨ho, .ref a, H, I, rfl, ?_⟩
     have e : (List.replicate k.toNat ds).flatten = ds := by
      rw [Bool.or_eq_true] at b1
      rcases b1 with z | z
      · have : its = [] := by simpa using z
        have : ds = [] := by rw [this] at l1; simpa using l1.symm
        subst this
        simp
      · have : k = 1 := eq_of_beq z
        subst this
        simp
     rw [e] at w
     exact QG.here w st (.tup h1 q1)
   · by_cases b2 : (decide (k ≤ 0) || its.toArray.isEmpty) = true
     · refine call_meets F.slot_tuple_mul ⟨_, ho, rfl⟩ F.entry_tuple_mul (F.args_tuple_mul_2 _ _) (tuple_mul_none a its.toArray n dd sl k t c1 b1 b2) ⟨ho, ?_⟩
       have h0 : k.toNat = 0 := by
        rw [Bool.or_eq_true] at b2
        rcases b2 with z | z
        · have := of_decide_eq_true z; omega
        · exact absurd (by rw [z]; rfl) b1
       have := new 0 h0.symm
       exact this
     · have h0 : 0 < k := by
        cases z : decide (k ≤ 0) with
        | true => exact absurd (by rw [z]; rfl) b2
        | false => have := of_decide_eq_false z; omega
       have ek : (its.toArray.size : Int) * k = ((its.length * k.toNat : Nat) : Int) := by
        rw [List.size_toArray, Int.natCast_mul, Int.toNat_of_nonneg (by omega)]
       have fz : List.foldl (fun x1 x2 => x1 ++ x2) #[] (List.replicate k.toNat its.toArray) = (List.replicate k.toNat its).flatten.toArray := by
        have := foldl_rep its k.toNat []
        rw [List.nil_append] at this
        exact this
       have big : its.length * k.toNat ≤ 1000000 := by rw [l1]; exact hz
       refine call_meets F.slot_tuple_mul ⟨_, ho, rfl⟩ F.entry_tuple_mul (F.args_tuple_mul_2 _ _) (tuple_mul_many a its.toArray n dd sl k t c1 b1 b2 (by rw [ek]; omega) ?_ ?_) ⟨ho, ?_⟩
       · rw [ek]
         have : (1000000 : Nat) ≤ sizeLine := by decide
         unfold Builtin.Tuple.tupleTooMany
         rw [decide_eq_true_eq]
         omega
       · rw [fz, List.size_toArray, len_rep, Nat.mul_comm]; exact small big
       · rw [fz]
         exact new _ rfl
end RF
namespace RF
open PySem PySem.Spec L2 DL
open PyProof.Rows
structure Wd where
 P : Program
 w : World
 K : PySem.W.Frag
 mg : Str → Option Value
 base : Heap
abbrev Nm := List (Str × NameKind)
structure At (Ω : Wd) (X : Cx) (r : Nat) (top : Bool) (N : List Str) (nm : Nm) : Prop where
 p : X.prog = Ω.P
 w : X.w = Ω.w
 k : X.K = Ω.K
 g : X.mg = Ω.mg
 b : X.base = Ω.base
 room : Room r X.A
 xe : X.xe = fun _ _ => False
 calm : X.calm = true
 n : X.N = N
 nd : N.Nodup
 kind : X.env.scope.kind = .function
 look : ∀ x k, nm.lookup x = some k → X.env.kindOf x = some k ∨ (k = .free ∧ X.env.kindOf x = some .cell)
 fn : top = true → ∀ x, X.fn x = true
def vis (nm : Nm) (x : Str) : Bool := match nm.lookup x with | some .local => true | some .cell => true | some .free => true | _ => false
def lcl (top : Bool) (nm : Nm) (x : Str) : Bool := match nm.lookup x with | some .local => true | some .cell => top | _ => false
def glb (nm : Nm) (x : Str) : Bool := nm.lookup x == some .globalImplicit
def okN (x : Str) : Bool := !(x == ("__debug__" : Str)) && (!(x == ("__classdict__" : Str)) && !(x == ("__name__" : Str)))
def okE : Expr → Bool
 | .Starred .. => false | .Set .. => false | .Slice .. => false | _ => true
def noC : Expr → Bool
 | .ListComp .. => false | .SetComp .. => false | .DictComp .. => false | _ => true
def valE : Expr → Bool
 | .UnaryOp .. => false | .BoolOp .. => false | .IfExp .. => false | .Compare .. => false | _ => true
theorem and2 {a b : Bool} (h : (a && b) = true) : a = true ∧ b = true := by cases a <;> cases b <;> first | exact ⟨rfl, rfl⟩ | exact (Bool.false_ne_true h).elim
theorem nt {a : Bool} (h : (!a) = true) : a = false := by cases a <;> first | rfl | exact (Bool.false_ne_true h).elim
theorem okN_at {x : Str} (h : okN x = true) : (x == ("__debug__" : Str)) = false ∧ (x == ("__classdict__" : Str)) = false ∧ x ≠ "__name__" := by
 obtain ⟨h1, h2⟩ := and2 h
 obtain ⟨h2, h3⟩ := and2 h2
 exact ⟨nt h1, nt h2, fun e => by rw [e] at h3; simp at h3⟩
section
variable {Ω : Wd} {X : Cx} {r : Nat} {top : Bool} {N : List Str} {nm : Nm} {x : Str}
theorem At.vis (A : At Ω X r top N nm) (h : RF.vis nm x = true) : Vis X.env.scope x := by
 unfold RF.vis at h
 cases e : nm.lookup x with
 | none => rw [e] at h; cases h
 | some k =>
   rw [e] at h
   have q := A.look x k e
   cases k with
   | «local» => rcases q with q | ⟨q, _⟩; exact .inl q; exact nomatch q
   | cell => rcases q with q | ⟨q, _⟩; exact .inr (.inl q); exact nomatch q
   | free => rcases q with q | ⟨_, q⟩; exact .inr (.inr q); exact .inr (.inl q)
   | _ => exact (Bool.false_ne_true h).elim
theorem At.lcl (A : At Ω X r top N nm) (h : RF.lcl top nm x = true) : Loc X.env.scope x ∧ (X.fn x = true ∨ X.env.scope.names.lookup x = some .local) := by
 unfold RF.lcl at h
 cases e : nm.lookup x with
 | none => rw [e] at h; cases h
 | some k =>
   rw [e] at h
   have q := A.look x k e
   cases k with
   | «local» => rcases q with q | ⟨q, _⟩; exact ⟨.inl q, .inr q⟩; exact nomatch q
   | cell => rcases q with q | ⟨q, _⟩; exact ⟨.inr q, .inl (A.fn h x)⟩; exact nomatch q
   | _ => exact (Bool.false_ne_true h).elim
theorem At.glb (A : At Ω X r top N nm) (h : RF.glb nm x = true) : Gl X x := by
 have e : nm.lookup x = some .globalImplicit := eq_of_beq h
 rcases A.look x _ e with q | ⟨q, _⟩
 · exact q
 · exact nomatch q
end
theorem star_ok {e : Expr} (h : okE e = true) (es : List Expr) (env : Env) : starEach (e :: es) env = (false, eval e env) :: starEach es env := by
 cases e <;> first | rfl | exact (Bool.false_ne_true h).elim
theorem any_ok : ∀ {es : List Expr} (_ : es.all okE = true) (pos : Pos) (env : Env), (backTo pos (starEach es env)).any (·.1) = false
 | [], _, _, _ => rfl
 | e :: es, h, pos, env => by
   rw [List.all_cons] at h
   obtain ⟨h1, h2⟩ := and2 h
   rw [star_ok h1]
   show (false || (backTo pos (starEach es env)).any (·.1)) = false
   rw [any_ok h2]; rfl
theorem marks_ok {op : CmpOp} {e : Expr} (h : okE e = true) : behindInMarks op e = false := by
 cases e <;> first | rfl | exact (Bool.false_ne_true h).elim
theorem plain_ix {e : Expr} (h : okE e = true) : PlainIx e := by
 intro _ _
 cases e <;> first | rfl | exact (Bool.false_ne_true h).elim
theorem fold_ok {e : Expr} (h : okE e = true) (env : Env) : ∀ x, foldedSetIterable e env x = pure x := by
 intro x
 cases e <;> first | rfl | exact (Bool.false_ne_true h).elim
theorem swaps_ok {e : Expr} (h : noC e = true) (t : Option Expr) (l : Nat) (env : Env) : swapsWith e t l env = pure false := by
 cases e <;> first | rfl | exact (Bool.false_ne_true h).elim
theorem val_ok {e : Expr} (h : valE e = true) (env : Env) : ∀ whole, isTrue e env whole = (do let v ← whole; standAt e.pos; holding [v] (truthy v)) := by
 intro w
 cases e <;> first | rfl | exact (Bool.false_ne_true h).elim
section
variable {X : Cx} {Γ : Gam} {S : Store} {e : Expr} {es : List Expr}
theorem EvA.mono {W W' : List D → Store → Prop} (h : EvA X Γ S es W) (k : ∀ ds S', W ds S' → W' ds S') : EvA X Γ S es W' := fun pos pins s σ H O I env st =>
 thn (h pos pins s σ H O I env st) fun _ _ ⟨v, H', I', r, O', d, S', w, q⟩ => ⟨v, H', I', r, O', d, S', k d S' w, q⟩
theorem Ts.mono {W W' : Bool → Store → Prop} (h : Ts X Γ S e W) (k : ∀ c S', W c S' → W' c S') : Ts X Γ S e W' := fun pins s σ H O I env st =>
 thn (h pins s σ H O I env st) fun _ _ ⟨H', I', O', S', w, q⟩ => ⟨H', I', O', S', k _ S' w, q⟩
theorem BdW.mono {d : D} {W W' : Gam → Store → Prop} (h : BdW X e d Γ S W) (k : ∀ G S', W G S' → W' G S') : BdW X e d Γ S W' := fun pins s σ H O v u I env st r ru =>
 thn (h pins s σ H O v u I env st r ru) fun _ _ ⟨σ', H', I', O', G, S', w, q⟩ => ⟨σ', H', I', O', G, S', k G S' w, q⟩
theorem ItW.mono {tg : Expr} {W W' : List D → Store → Prop} (h : ItW X Γ S tg e W) (k : ∀ ds S', W ds S' → W' ds S') : ItW X Γ S tg e W' := fun pins s σ H O I env st =>
 thn (h pins s σ H O I env st) fun _ _ q => thn q fun _ _ ⟨it, fp, tn, J, H', e1, e2, e3, e4, e5, O', ds, S', w, z⟩ => ⟨it, fp, tn, J, H', e1, e2, e3, e4, e5, O', ds, S', k ds S' w, z⟩
theorem SPmono {pins : Pins} {O : Own} {H : Hp} {W W' : DL.Fin} (h1 : ∀ G S, W.nx G S → W'.nx G S) (h2 : ∀ d S, W.rt d S → W'.rt d S) (h3 : ∀ G S, W.bk G S → W'.bk G S) (h4 : ∀ G S, W.ct G S → W'.ct G S) {f : Flow} {s' : Shared} (q : SP X pins (ends X.K O H W) f s') : SP X pins (ends X.K O H W') f s' := by
 cases f with
 | next => obtain ⟨σ, H', I, O', G, S', w, q⟩ := q; exact ⟨σ, H', I, O', G, S', h1 _ _ w, q⟩
 | brk => obtain ⟨σ, H', I, O', G, S', w, q⟩ := q; exact ⟨σ, H', I, O', G, S', h3 _ _ w, q⟩
 | cont => obtain ⟨σ, H', I, O', G, S', w, q⟩ := q; exact ⟨σ, H', I, O', G, S', h4 _ _ w, q⟩
 | ret u => obtain ⟨v, σ, H', I, r, O', d, S', w, q⟩ := q; exact ⟨v, σ, H', I, r, O', d, S', h2 _ _ w, q⟩
theorem Rn.mono {st : Stmt} {W W' : DL.Fin} (h : Rn X Γ S st W) (h1 : ∀ G S, W.nx G S → W'.nx G S) (h2 : ∀ d S, W.rt d S → W'.rt d S) (h3 : ∀ G S, W.bk G S → W'.bk G S) (h4 : ∀ G S, W.ct G S → W'.ct G S) : Rn X Γ S st W' := fun pins s σ H O I env ok =>
 thn (h pins s σ H O I env ok) fun _ _ q => SPmono h1 h2 h3 h4 q
theorem ts_chain2 {a b c : Expr} {op op' : CmpOp} {pos : Pos} {W : Bool → Store → Prop} (h : Ev X Γ S a fun x S1 => Ev X Γ S1 b fun y S2 => CmpW X op x y S2 (asB fun k S3 => (k = false → W false S3) ∧ (k = true → Ev X Γ S3 c fun t S4 => CmpW X op' y t S4 (asB W))))
 (hm : lastMarks [op, op'] [b, c] = false) : Ts X Γ S (.Compare a [op, op'] [b, c] pos) W := by
 intro pins s σ H O I env st
 refine isTrue_chain (rs := []) (thn (h pins s σ H O I env st) fun u s1 hq_ => ?_) hm
 obtain ⟨v, H1, I1, r1, O1, x, S1, hb, st1, ok1, rep1⟩ := hq_
 refine test_link (thn (hb pins s1 σ H1 O1 I1 (env.mono st1) ok1) fun u' s2 hq_ => ?_)
 obtain ⟨w, H2, I2, r2, O2, y, S2, hw, st2, ok2, rep2⟩ := hq_
 refine thn (hw pins s2 σ H2 O2 v w u u' I2 ok2 (rep1.mono st2) rep2 r1 r2) fun _ s3 hq_ => ?_
 obtain ⟨z, H3, I3, r3, O3, d3, S3, ⟨k, hd, k1, k2⟩, st3, ok3, rep3⟩ := hq_
 subst hd
 cases rep3
 cases r3
 refine wpAny_truthy_bool ?_
 cases k with
 | false => exact ite_ff ⟨H3, I3, O3, S3, k1 rfl, (st1.trans st2).trans st3, ok3⟩
 | true =>
   refine ite_tt (test_last (thn (k2 rfl pins s3 σ H3 O3 I3 (((env.mono st1).mono st2).mono st3) ok3) fun u4 s4 hq_ => ?_))
   obtain ⟨w4, H4, I4, r4, O4, t, S4, h4, st4, ok4, rep4⟩ := hq_
   refine thn (h4 pins s4 σ H4 O4 w w4 u' u4 I4 ok4 ((rep2.mono st3).mono st4) rep4 r2 r4) fun _ s5 hq_ => ?_
   obtain ⟨z5, H5, I5, r5, O5, d5, S5, ⟨k, hd, w5⟩, st5, ok5, rep5⟩ := hq_
   subst hd
   cases rep5
   cases r5
   exact wpAny_truthy_bool ⟨H5, I5, O5, S5, w5, (((st1.trans st2).trans st3).trans st4).trans st5, ok5⟩
end
def wpBin (op : Operator) (x y : D) (S : Store) (W : WD) : Prop := match op, x, y with
 | .Add, .int i, .int j => W (.int (i + j)) S
 | .Sub, .int i, .int j => W (.int (i - j)) S
 | .Mult, .int i, .int j => CMul i j ∧ W (.int (i * j)) S
 | .Mod, .int i, .int j => 0 < j ∧ W (.int (i % j)) S
 | .FloorDiv, .int i, .int j => (0 < j ∧ j < 1073741824) ∧ W (.int (i / j)) S
 | .Pow, .int i, .int j => CPow i j ∧ W (.int (i ^ j.toNat)) S
 | .Add, .tup a, .tup b => a.length + b.length ≤ 1000000 ∧ W (.tup (a ++ b)) S
 | .Add, .lst a, .lst b => a.length + b.length ≤ 1000000 ∧ W (.lst (a ++ b)) S
 | .Mult, .tup a, .int n => (-(2 ^ 63) ≤ n ∧ n < 2 ^ 63) ∧ a.length * n.toNat ≤ 1000000 ∧ W (.tup (List.replicate n.toNat a).flatten) S
 | _, _, _ => False
theorem wpBin_ok {X : Cx} {op : Operator} {x y : D} {S : Store} {W : WD} (h : wpBin op x y S W) : BinW X op x y S W := by
 unfold wpBin at h
 split at h
 · exact b_add h
 · exact b_sub h
 · exact b_mul h.1 h.2
 · exact b_mod h.1 h.2
 · exact b_fdiv h.1 h.2
 · exact b_pow h.1 h.2
 · exact b_catT h.1 h.2
 · exact b_catL h.1 h.2
 · exact b_repT h.1 h.2.1 h.2.2
 · exact h.elim
def wpIx (x y : D) (S : Store) (W : WD) : Prop := match x, y with
 | .tup ds, .int i => ∃ d, atI ds i = some d ∧ W d S
 | .lst ds, .int i => ∃ d, atI ds i = some d ∧ W d S
 | .loc k, .int i => ∃ ds d, S[k]? = some ds ∧ atI ds i = some d ∧ W d S
 | _, _ => False
theorem wpIx_ok {X : Cx} {a b : Expr} {x y : D} {S : Store} {W : WD} (h : wpIx x y S W) : IxW X a b x y S W := by
 unfold wpIx at h
 split at h
 · obtain ⟨d, h1, h2⟩ := h; exact i_tup h1 h2
 · obtain ⟨d, h1, h2⟩ := h; exact i_lst h1 h2
 · obtain ⟨ds, d, h1, h2, h3⟩ := h; exact i_loc h1 h2 h3
 · exact h.elim
def wpSl (x : D) (l h : Option Int) (S : Store) (W : WD) : Prop := match x with
 | .tup ds => W (.tup (cutD ds l h)) S
 | .lst ds => W (.lst (cutD ds l h)) S
 | .loc k => ∃ ds, S[k]? = some ds ∧ W (.lst (cutD ds l h)) S
 | _ => False
theorem s_loc {X : Cx} {S : Store} {W : WD} {k : Nat} {ds : List D} {lo hi : Option Int} (hk : S[k]? = some ds) (w : W (.lst (cutD ds lo hi)) S) : SlW X (.loc k) lo hi S W := by
 intro pins s σ H O v u vl vu sl I st r1 r3 hs pl pu
 cases r1 with
 | @loc p _ h1 =>
   obtain ⟨xs, hx, q1⟩ := st.obj k p ds h1 hk
   exact sl_list pins s σ H _ u vl vu lo hi sl _ I r3 hs pl pu ⟨p, xs, rfl, SqL.of hx, fun p' hp => qg_lst w st hp (cut_rep q1 lo hi)⟩
theorem wpSl_ok {X : Cx} {x : D} {l r : Option Int} {S : Store} {W : WD} (h : wpSl x l r S W) : SlW X x l r S W := by
 unfold wpSl at h
 split at h
 · exact s_tup h
 · exact s_lst h
 · obtain ⟨ds, h1, h2⟩ := h; exact s_loc h1 h2
 · exact h.elim
inductive Ty where
 | int | bool | tuple | list
 deriving DecidableEq
def Ty.id : Ty → String
 | .int => "int" | .bool => "bool" | .tuple => "tuple" | .list => "list"
def Ty.nm : Ty → Str
 | .int => "int" | .bool => "bool" | .tuple => "tuple" | .list => "list"
def isD : Ty → D → Bool
 | .int, .int _ => true | .int, .bl _ => true | .bool, .bl _ => true | .tuple, .tup _ => true | .list, .lst _ => true | .list, .loc _ => true | _, _ => false
theorem isD_eq (T : Ty) (x : D) : isi (tyD x) T.id = isD T x := by cases T <;> cases x <;> rfl
theorem Ty.isT (T : Ty) : DL.isT T.id = true := by cases T <;> rfl
theorem Ty.boot (T : Ty) : bootBuiltins T.nm = some (.type T.id) := by cases T <;> decide +kernel
theorem Ty.ok (T : Ty) : (T.nm == ("__debug__" : Str)) = false ∧ T.nm ≠ "__name__" := by cases T <;> decide +kernel
end RF
namespace RF
open PySem PySem.Spec L2 DL
open PyProof.Rows
mutual
def eqD : D → D → Bool
 | .non, .non => true
 | .bl a, .bl b => a == b
 | .int a, .int b => a == b
 | .bl a, .int b => (if a then 1 else 0) == b
 | .int a, .bl b => a == (if b then 1 else 0)
 | .str a, .str b => a == b
 | .tup a, .tup b => eqDs a b
 | .lst a, .lst b => eqDs a b
 | .dic, .dic => true
 | _, _ => false
def eqDs : List D → List D → Bool
 | [], [] => true
 | a :: as, b :: bs => eqD a b && eqDs as bs
 | _, _ => false
end
mutual
def okD : D → Bool
 | .tup ds => okDs ds
 | .lst ds => okDs ds
 | .loc _ => false
 | .dic => false
 | _ => true
def okDs : List D → Bool
 | [] => true
 | d :: ds => okD d && okDs ds
end
mutual
inductive Sn (K : PySem.W.Frag) (H : Hp) : V → D → Prop
 | non : Sn K H .non .non
 | bl (b : Bool) : Sn K H (.bl b) (.bl b)
 | int (i : Int) : Sn K H (.int i) (.int i)
 | str (x : Str) : Sn K H (.str x) (.str x)
 | tup {a : Addr} {xs : List V} {ds : List D} (h : SqT K H a xs) (r : Sns K H xs ds) : Sn K H (.ref a) (.tup ds)
 | lst {a : Addr} {xs : List V} {ds : List D} (h : SqL K H a xs) (r : Sns K H xs ds) : Sn K H (.ref a) (.lst ds)
inductive Sns (K : PySem.W.Frag) (H : Hp) : List V → List D → Prop
 | nil : Sns K H [] []
 | cons {v : V} {d : D} {vs : List V} {ds : List D} (r : Sn K H v d) (t : Sns K H vs ds) : Sns K H (v :: vs) (d :: ds)
end
section
variable {K : PySem.W.Frag} {H : Hp} {O : Own}
theorem Sns.length : ∀ {vs : List V} {ds : List D}, Sns K H vs ds → vs.length = ds.length
 | _, _, .nil => rfl
 | _, _, .cons _ t => by simp [Sns.length t]
theorem Sns.get : ∀ {vs : List V} {ds : List D} {i : Nat} {d : D}, Sns K H vs ds → ds[i]? = some d → ∃ v, vs[i]? = some v ∧ Sn K H v d
 | _, _, _, _, .nil, e => by simp at e
 | _, _, 0, _, .cons r _, e => by simp at e; subst e; exact ⟨_, rfl, r⟩
 | _, _, i + 1, d, .cons _ t, e => by
   obtain ⟨v, h1, h2⟩ := Sns.get (i := i) (d := d) t (by simpa using e)
   exact ⟨v, by simpa using h1, h2⟩
mutual
theorem rep_sn : ∀ {v : V} {d : D}, okD d = true → Rep K O H v d → Sn K H v d
 | _, _, _, .non => .non
 | _, _, _, .bl b => .bl b
 | _, _, _, .int i => .int i
 | _, _, _, .str x => .str x
 | _, _, h, .tup h1 r => .tup h1.sq (reps_sn (by simpa [okD] using h) r)
 | _, _, h, .lst h1 r => .lst h1.sq (reps_sn (by simpa [okD] using h) r)
 | _, _, h, .loc _ => by simp [okD] at h
 | _, _, h, .dic _ _ => by simp [okD] at h
theorem reps_sn : ∀ {vs : List V} {ds : List D}, okDs ds = true → Reps K O H vs ds → Sns K H vs ds
 | _, _, _, .nil => .nil
 | _, _, h, .cons r t => by
   simp only [okDs, Bool.and_eq_true] at h
   exact .cons (rep_sn h.1 r) (reps_sn h.2 t)
end
end
section
variable {X : Cx} {pins : Pins} {s : Shared} {σ : DL.St} {H : Hp}
mutual
theorem sn_inj (I : Inv X pins σ H s) : ∀ {v : V} {x y : D}, Sn X.K H v x → Sn X.K H v y → x = y
 | _, _, _, .non, b => by cases b; rfl
 | _, _, _, .bl _, b => by cases b; rfl
 | _, _, _, .int _, b => by cases b; rfl
 | _, _, _, .str _, b => by cases b; rfl
 | _, _, _, .tup h r, b => by
   cases b with
   | tup h' r' =>
     have e := I.tuple_inj h h'
     subst e
     rw [sns_inj I r r']
   | lst h' r' =>
     exfalso
     obtain ⟨its, _, ⟨o, h2, h3, _⟩, _⟩ := I.tuple h
     obtain ⟨its2, _, pl, _⟩ := I.list h'
     obtain ⟨o', h2', h3', _⟩ := pl.isList
     rw [h2] at h2'
     cases h2'
     rw [h3] at h3'
     exact absurd h3' (by decide)
 | _, _, _, .lst h r, b => by
   cases b with
   | lst h' r' =>
     have e := I.list_inj h h'
     subst e
     rw [sns_inj I r r']
   | tup h' r' =>
     exfalso
     obtain ⟨its, _, ⟨o, h2, h3, _⟩, _⟩ := I.tuple h'
     obtain ⟨its2, _, pl, _⟩ := I.list h
     obtain ⟨o', h2', h3', _⟩ := pl.isList
     rw [h2] at h2'
     cases h2'
     rw [h3] at h3'
     exact absurd h3' (by decide)
theorem sns_inj (I : Inv X pins σ H s) : ∀ {vs : List V} {xs ys : List D}, Sns X.K H vs xs → Sns X.K H vs ys → xs = ys
 | _, _, _, .nil, b => by cases b; rfl
 | _, _, _, .cons r t, b => by
   cases b with
   | cons r' t' => rw [sn_inj I r r', sns_inj I t t']
end
end
mutual
theorem eqD_self : ∀ (x : D), noloc x = true → eqD x x = true
 | .non, _ => by simp [eqD]
 | .bl _, _ => by simp [eqD]
 | .int _, _ => by simp [eqD]
 | .str _, _ => by simp [eqD]
 | .tup ds, h => by simp only [eqD]; exact eqDs_self ds (by simpa [noloc] using h)
 | .lst ds, h => by simp only [eqD]; exact eqDs_self ds (by simpa [noloc] using h)
 | .loc _, h => by simp [noloc] at h
 | .dic, _ => by simp [eqD]
theorem eqDs_self : ∀ (xs : List D), nolocs xs = true → eqDs xs xs = true
 | [], _ => by simp [eqDs]
 | d :: ds, h => by
   simp only [nolocs, Bool.and_eq_true] at h
   simp only [eqDs, Bool.and_eq_true]
   exact ⟨eqD_self d h.1, eqDs_self ds h.2⟩
end
mutual
theorem ok_noloc : ∀ (x : D), okD x = true → noloc x = true
 | .non, _ => by simp [noloc]
 | .bl _, _ => by simp [noloc]
 | .int _, _ => by simp [noloc]
 | .str _, _ => by simp [noloc]
 | .tup ds, h => by simp only [noloc]; exact oks_noloc ds (by simpa [okD] using h)
 | .lst ds, h => by simp only [noloc]; exact oks_noloc ds (by simpa [okD] using h)
 | .loc _, h => by simp [okD] at h
 | .dic, h => by simp [okD] at h
theorem oks_noloc : ∀ (xs : List D), okDs xs = true → nolocs xs = true
 | [], _ => by simp [nolocs]
 | d :: ds, h => by
   simp only [okDs, Bool.and_eq_true] at h
   simp only [nolocs, Bool.and_eq_true]
   exact ⟨ok_noloc d h.1, oks_noloc ds h.2⟩
end
abbrev eqJ (ds es : List D) (j : Nat) : Bool := eqD (ds.getD j .non) (es.getD j .non)
theorem eqJ_succ (d e : D) (ds es : List D) : (eqJ (d :: ds) (e :: es)) ∘ Nat.succ = eqJ ds es := by
 funext j; simp [eqJ, List.getD]
theorem eqDs_min : ∀ (ds es : List D), ((List.range (min ds.length es.length)).all (eqJ ds es) && ds.length == es.length) = eqDs ds es
 | [], [] => by simp [eqDs]
 | [], e :: es => by simp [eqDs]
 | d :: ds, [] => by simp [eqDs]
 | d :: ds, e :: es => by
   have ih := eqDs_min ds es
   have h1 : min (d :: ds).length (e :: es).length = min ds.length es.length + 1 := by simp only [List.length_cons]; omega
   rw [h1, List.range_succ_eq_map, List.all_cons, List.all_map, eqJ_succ]
   have h2 : ((d :: ds).length == (e :: es).length) = (ds.length == es.length) := by simp
   have h3 : eqJ (d :: ds) (e :: es) 0 = eqD d e := by simp [eqJ, List.getD]
   rw [h2, h3, Bool.and_assoc, ih]
   simp only [eqDs]
theorem eqDs_len {ds es : List D} (h : ds.length = es.length) : (List.range ds.length).all (eqJ ds es) = eqDs ds es := by
 rw [← eqDs_min ds es, ← h, Nat.min_self, beq_self_eq_true, Bool.and_true]
theorem eqDs_ne {ds es : List D} (h : ds.length ≠ es.length) : eqDs ds es = false := by
 rw [← eqDs_min ds es]
 have : (ds.length == es.length) = false := by simpa using h
 rw [this, Bool.and_false]
section
variable {X : Cx}
theorem rc_both {n : Nat} (ih : ∀ (x y : D), deep x ≤ n → ∀ {pins : Pins} {s : Shared} {σ : DL.St} {H : Hp} {v w : V} {u u' : Value} {A : Around}, Inv X pins σ H s → Sn X.K H v x → Sn X.K H w y → RelV v u → RelV w u' → A.units + n < cLine → SeqAt.EqAt A s u u' (eqD x y))
 (x y : D) (hx : deep x ≤ n + 1) {pins : Pins} {s : Shared} {σ : DL.St} {H : Hp} {v w : V} {u u' : Value} {A : Around} (I : Inv X pins σ H s) (r1 : Sn X.K H v x) (r2 : Sn X.K H w y) (ru : RelV v u) (ru' : RelV w u') (hu : A.units + (n + 1) < cLine) :
 SeqAt.RcAt A s u u' (eqD x y) ∧ SeqAt.RcNeAt A s u u' (!eqD x y) := by
 have hu0 : A.units < cLine := by omega
 have part : ∀ {ds es : List D} {xs ys : List V} {its its2 : List Value}, deeps ds ≤ n → Sns X.K H xs ds → Sns X.K H ys es → Vals xs its → Vals ys its2 → ∀ j (h1 : j < its.toArray.size) (h2 : j < its2.toArray.size), SeqAt.EqAt A.in1 s its.toArray[j] its2.toArray[j] (eqJ ds es j) := by
  intro ds es xs ys its its2 hd q1 q2 v1 v2 j j1 j2
  have l1 : its.length = ds.length := by rw [← v1.length, q1.length]
  have l2 : its2.length = es.length := by rw [← v2.length, q2.length]
  have hj : j < ds.length := by simpa [l1] using j1
  have hj2 : j < es.length := by simpa [l2] using j2
  obtain ⟨z1, a1, b1⟩ := q1.get (List.getElem?_eq_getElem hj)
  obtain ⟨z2, a2, b2⟩ := q2.get (List.getElem?_eq_getElem hj2)
  obtain ⟨u1, c1, d1⟩ := v1.get a1
  obtain ⟨u2, c2, d2⟩ := v2.get a2
  have e1 : its.toArray[j] = u1 := by have := (List.getElem?_eq_some_iff.mp c1).2; simpa using this
  have e2 : its2.toArray[j] = u2 := by have := (List.getElem?_eq_some_iff.mp c2).2; simpa using this
  rw [e1, e2]
  have e3 : eqJ ds es j = eqD ds[j] es[j] := by simp [eqJ, List.getD, hj, hj2]
  rw [e3]
  have hd' := deeps_le (List.getElem?_eq_getElem hj)
  exact ih ds[j] es[j] (by omega) I b1 b2 d1 d2 (by show A.units + 1 + n < cLine; omega)
 cases r1 with
 | non =>
   cases ru
   cases r2 with
   | non => cases ru'; exact ⟨SeqAt.RcAt.none_none, SeqAt.RcNeAt.none_none⟩
   | bl b => cases ru'; exact ⟨SeqAt.RcAt.none_bool b, SeqAt.RcNeAt.none_bool b⟩
   | int i => obtain ⟨t', rfl⟩ := ru'; exact ⟨SeqAt.RcAt.none_int i t', SeqAt.RcNeAt.none_int i t'⟩
   | str i => obtain ⟨t', rfl⟩ := ru'; exact ⟨SeqAt.RcAt.none_str i t', SeqAt.RcNeAt.none_str i t'⟩
   | tup h2 q2 =>
     cases ru'; obtain ⟨its2, v2, p2, _⟩ := I.tuple h2
     exact ⟨SeqAt.RcAt.none_tuple (show s.heap.IsTuple _ its2.toArray from p2) hu0, SeqAt.RcNeAt.none_tuple (show s.heap.IsTuple _ its2.toArray from p2) hu0⟩
   | lst h2 q2 =>
     cases ru'; obtain ⟨its2, v2, p2, _⟩ := I.list h2
     exact ⟨SeqAt.RcAt.none_list p2.isList hu0, SeqAt.RcNeAt.none_list p2.isList hu0⟩
 | bl a =>
   cases ru
   cases r2 with
   | non => cases ru'; exact ⟨SeqAt.RcAt.bool_none a, SeqAt.RcNeAt.bool_none a⟩
   | bl b => cases ru'; exact ⟨SeqAt.RcAt.bool_bool a b, SeqAt.RcNeAt.bool_bool a b⟩
   | int i => obtain ⟨t', rfl⟩ := ru'; exact ⟨SeqAt.RcAt.bool_int a i t', SeqAt.RcNeAt.bool_int a i t'⟩
   | str i => obtain ⟨t', rfl⟩ := ru'; exact ⟨SeqAt.RcAt.bool_str a i t', SeqAt.RcNeAt.bool_str a i t'⟩
   | tup h2 q2 =>
     cases ru'; obtain ⟨its2, v2, p2, _⟩ := I.tuple h2
     exact ⟨SeqAt.RcAt.bool_tuple a (show s.heap.IsTuple _ its2.toArray from p2) hu0, SeqAt.RcNeAt.bool_tuple a (show s.heap.IsTuple _ its2.toArray from p2) hu0⟩
   | lst h2 q2 =>
     cases ru'; obtain ⟨its2, v2, p2, _⟩ := I.list h2
     exact ⟨SeqAt.RcAt.bool_list a p2.isList hu0, SeqAt.RcNeAt.bool_list a p2.isList hu0⟩
 | int a =>
   obtain ⟨t, rfl⟩ := ru
   cases r2 with
   | non => cases ru'; exact ⟨SeqAt.RcAt.int_none a t, SeqAt.RcNeAt.int_none a t⟩
   | bl b => cases ru'; exact ⟨SeqAt.RcAt.int_bool a t b, SeqAt.RcNeAt.int_bool a t b⟩
   | int i => obtain ⟨t', rfl⟩ := ru'; exact ⟨SeqAt.RcAt.int_int a t i t', SeqAt.RcNeAt.int_int a t i t'⟩
   | str i => obtain ⟨t', rfl⟩ := ru'; exact ⟨SeqAt.RcAt.int_str a t i t', SeqAt.RcNeAt.int_str a t i t'⟩
   | tup h2 q2 =>
     cases ru'; obtain ⟨its2, v2, p2, _⟩ := I.tuple h2
     exact ⟨SeqAt.RcAt.int_tuple a t (show s.heap.IsTuple _ its2.toArray from p2) hu0, SeqAt.RcNeAt.int_tuple a t (show s.heap.IsTuple _ its2.toArray from p2) hu0⟩
   | lst h2 q2 =>
     cases ru'; obtain ⟨its2, v2, p2, _⟩ := I.list h2
     exact ⟨SeqAt.RcAt.int_list a t p2.isList hu0, SeqAt.RcNeAt.int_list a t p2.isList hu0⟩
 | str a =>
   obtain ⟨t, rfl⟩ := ru
   cases r2 with
   | non => cases ru'; exact ⟨SeqAt.RcAt.str_none a t, SeqAt.RcNeAt.str_none a t⟩
   | bl b => cases ru'; exact ⟨SeqAt.RcAt.str_bool a t b, SeqAt.RcNeAt.str_bool a t b⟩
   | int i => obtain ⟨t', rfl⟩ := ru'; exact ⟨SeqAt.RcAt.str_int a t i t', SeqAt.RcNeAt.str_int a t i t'⟩
   | str i => obtain ⟨t', rfl⟩ := ru'; exact ⟨SeqAt.RcAt.str_str a t i t', SeqAt.RcNeAt.str_str a t i t'⟩
   | tup h2 q2 =>
     cases ru'; obtain ⟨its2, v2, p2, _⟩ := I.tuple h2
     exact ⟨SeqAt.RcAt.str_tuple a t (show s.heap.IsTuple _ its2.toArray from p2) hu0, SeqAt.RcNeAt.str_tuple a t (show s.heap.IsTuple _ its2.toArray from p2) hu0⟩
   | lst h2 q2 =>
     cases ru'; obtain ⟨its2, v2, p2, _⟩ := I.list h2
     exact ⟨SeqAt.RcAt.str_list a t p2.isList hu0, SeqAt.RcNeAt.str_list a t p2.isList hu0⟩
 | @tup a xs ds h1 q1 =>
   cases ru
   obtain ⟨its, v1, p1, _⟩ := I.tuple h1
   have p1 : s.heap.IsTuple a its.toArray := p1
   cases r2 with
   | non => cases ru'; exact ⟨SeqAt.RcAt.tuple_none p1 hu0, SeqAt.RcNeAt.tuple_none p1 hu0⟩
   | bl b => cases ru'; exact ⟨SeqAt.RcAt.tuple_bool b p1 hu0, SeqAt.RcNeAt.tuple_bool b p1 hu0⟩
   | int i => obtain ⟨t', rfl⟩ := ru'; exact ⟨SeqAt.RcAt.tuple_int i t' p1 hu0, SeqAt.RcNeAt.tuple_int i t' p1 hu0⟩
   | str i => obtain ⟨t', rfl⟩ := ru'; exact ⟨SeqAt.RcAt.tuple_str i t' p1 hu0, SeqAt.RcNeAt.tuple_str i t' p1 hu0⟩
   | @tup b ys es h2 q2 =>
     cases ru'
     obtain ⟨its2, v2, p2, _⟩ := I.tuple h2
     have p2 : s.heap.IsTuple b its2.toArray := p2
     have l1 : its.toArray.size = ds.length := by rw [List.size_toArray, ← v1.length, q1.length]
     have l2 : its2.toArray.size = es.length := by rw [List.size_toArray, ← v2.length, q2.length]
     have hd : deeps ds ≤ n := by simp [deep] at hx; exact hx
     have a1 := SeqAt.RcAt.tuples (e := eqJ ds es) p1 p2 hu0 (part hd q1 q2 v1 v2)
     have a2 := SeqAt.RcNeAt.tuples (e := eqJ ds es) p1 p2 hu0 (part hd q1 q2 v1 v2)
     rw [l1, l2, eqDs_min] at a1 a2
     simp only [eqD]
     exact ⟨a1, a2⟩
   | lst h2 q2 =>
     cases ru'; obtain ⟨its2, v2, p2, _⟩ := I.list h2
     exact ⟨SeqAt.RcAt.tuple_list p1 p2.isList hu0, SeqAt.RcNeAt.tuple_list p1 p2.isList hu0⟩
 | @lst a xs ds h1 q1 =>
   cases ru
   obtain ⟨its, v1, p1, _⟩ := I.list h1
   have p1 := p1.isList
   cases r2 with
   | non => cases ru'; exact ⟨SeqAt.RcAt.list_none p1 hu0, SeqAt.RcNeAt.list_none p1 hu0⟩
   | bl b => cases ru'; exact ⟨SeqAt.RcAt.list_bool b p1 hu0, SeqAt.RcNeAt.list_bool b p1 hu0⟩
   | int i => obtain ⟨t', rfl⟩ := ru'; exact ⟨SeqAt.RcAt.list_int i t' p1 hu0, SeqAt.RcNeAt.list_int i t' p1 hu0⟩
   | str i => obtain ⟨t', rfl⟩ := ru'; exact ⟨SeqAt.RcAt.list_str i t' p1 hu0, SeqAt.RcNeAt.list_str i t' p1 hu0⟩
   | tup h2 q2 =>
     cases ru'; obtain ⟨its2, v2, p2, _⟩ := I.tuple h2
     exact ⟨SeqAt.RcAt.list_tuple p1 (show s.heap.IsTuple _ its2.toArray from p2) hu0, SeqAt.RcNeAt.list_tuple p1 (show s.heap.IsTuple _ its2.toArray from p2) hu0⟩
   | @lst b ys es h2 q2 =>
     cases ru'
     obtain ⟨its2, v2, p2, _⟩ := I.list h2
     have p2 := p2.isList
     have l1 : its.toArray.size = ds.length := by rw [List.size_toArray, ← v1.length, q1.length]
     have l2 : its2.toArray.size = es.length := by rw [List.size_toArray, ← v2.length, q2.length]
     have hd : deeps ds ≤ n := by simp [deep] at hx; exact hx
     simp only [eqD]
     by_cases hl : ds.length = es.length
     · have a1 := SeqAt.RcAt.lists (e := eqJ ds es) p1 p2 (by rw [l1, l2, hl]) hu0 (part hd q1 q2 v1 v2)
       have a2 := SeqAt.RcNeAt.lists (e := eqJ ds es) p1 p2 (by rw [l1, l2, hl]) hu0 (part hd q1 q2 v1 v2)
       rw [l1, eqDs_len hl] at a1 a2
       exact ⟨a1, a2⟩
     · have z : (its.toArray.size != its2.toArray.size) = true := by rw [l1, l2]; simpa using hl
       rw [eqDs_ne hl]
       exact ⟨SeqAt.RcAt.lists_lengths p1 p2 z hu0, SeqAt.RcNeAt.lists_lengths p1 p2 z hu0⟩
theorem sn_noloc : ∀ {K : PySem.W.Frag} {H : Hp} {v : V} {x : D}, Sn K H v x → noloc x = true := by
 intro K H v x h
 refine Sn.rec (motive_1 := fun v x _ => noloc x = true) (motive_2 := fun vs xs _ => nolocs xs = true) ?_ ?_ ?_ ?_ ?_ ?_ ?_ ?_ h
 · simp [noloc]
 · intro b; simp [noloc]
 · intro b; simp [noloc]
 · intro b; simp [noloc]
 · intro a xs ds h r ih; simpa [noloc] using ih
 · intro a xs ds h r ih; simpa [noloc] using ih
 · simp [nolocs]
 · intro v d vs ds r t ih1 ih2; simp [nolocs, ih1, ih2]
theorem eqAt (n : Nat) : ∀ (x y : D), deep x ≤ n → ∀ {pins : Pins} {s : Shared} {σ : DL.St} {H : Hp} {v w : V} {u u' : Value} {A : Around}, Inv X pins σ H s → Sn X.K H v x → Sn X.K H w y → RelV v u → RelV w u' → A.units + n < cLine → SeqAt.EqAt A s u u' (eqD x y) := by
 induction n with
 | zero =>
   intro x y hx pins s σ H v w u u' A I r1 r2 ru ru' hu
   cases r1 with
   | non =>
     cases ru
     cases r2 with
     | non => cases ru'; exact SeqAt.EqAt.same _
     | bl b => cases ru'; exact SeqAt.EqAt.none_bool b
     | int i => obtain ⟨t', rfl⟩ := ru'; exact SeqAt.EqAt.none_int i t'
     | str i => obtain ⟨t', rfl⟩ := ru'; exact SeqAt.EqAt.none_str i t'
     | tup h2 q2 => cases ru'; obtain ⟨its2, v2, p2, _⟩ := I.tuple h2; exact SeqAt.EqAt.none_tuple (show s.heap.IsTuple _ its2.toArray from p2) (by omega)
     | lst h2 q2 => cases ru'; obtain ⟨its2, v2, p2, _⟩ := I.list h2; exact SeqAt.EqAt.none_list p2.isList (by omega)
   | bl a =>
     cases ru
     cases r2 with
     | non => cases ru'; exact SeqAt.EqAt.bool_none a
     | bl b => cases ru'; exact SeqAt.EqAt.bool_bool a b
     | int i => obtain ⟨t', rfl⟩ := ru'; exact SeqAt.EqAt.bool_int a i t'
     | str i => obtain ⟨t', rfl⟩ := ru'; exact SeqAt.EqAt.bool_str a i t'
     | tup h2 q2 => cases ru'; obtain ⟨its2, v2, p2, _⟩ := I.tuple h2; exact SeqAt.EqAt.bool_tuple a (show s.heap.IsTuple _ its2.toArray from p2) (by omega)
     | lst h2 q2 => cases ru'; obtain ⟨its2, v2, p2, _⟩ := I.list h2; exact SeqAt.EqAt.bool_list a p2.isList (by omega)
   | int a =>
     obtain ⟨t, rfl⟩ := ru
     cases r2 with
     | non => cases ru'; exact SeqAt.EqAt.int_none a t
     | bl b => cases ru'; exact SeqAt.EqAt.int_bool a t b
     | int i => obtain ⟨t', rfl⟩ := ru'; exact SeqAt.EqAt.int_int a t i t'
     | str i => obtain ⟨t', rfl⟩ := ru'; exact SeqAt.EqAt.int_str a t i t'
     | tup h2 q2 => cases ru'; obtain ⟨its2, v2, p2, _⟩ := I.tuple h2; exact SeqAt.EqAt.int_tuple a t (show s.heap.IsTuple _ its2.toArray from p2) (by omega)
     | lst h2 q2 => cases ru'; obtain ⟨its2, v2, p2, _⟩ := I.list h2; exact SeqAt.EqAt.int_list a t p2.isList (by omega)
   | str a =>
     obtain ⟨t, rfl⟩ := ru
     cases r2 with
     | non => cases ru'; exact SeqAt.EqAt.str_none a t
     | bl b => cases ru'; exact SeqAt.EqAt.str_bool a t b
     | int i => obtain ⟨t', rfl⟩ := ru'; exact SeqAt.EqAt.str_int a t i t'
     | str i => obtain ⟨t', rfl⟩ := ru'; exact SeqAt.EqAt.str_str a t i t'
     | tup h2 q2 => cases ru'; obtain ⟨its2, v2, p2, _⟩ := I.tuple h2; exact SeqAt.EqAt.str_tuple a t (show s.heap.IsTuple _ its2.toArray from p2) (by omega)
     | lst h2 q2 => cases ru'; obtain ⟨its2, v2, p2, _⟩ := I.list h2; exact SeqAt.EqAt.str_list a t p2.isList (by omega)
   | tup _ _ => simp [deep] at hx
   | lst _ _ => simp [deep] at hx
 | succ n ih =>
   intro x y hx pins s σ H v w u u' A I r1 r2 ru ru' hu
   by_cases h0 : deep x ≤ n
   · exact ih x y h0 I r1 r2 ru ru' (by omega)
   · have both := rc_both ih x y hx I r1 r2 ru ru' hu
     cases r1 with
     | non => simp [deep] at h0
     | bl b => simp [deep] at h0
     | int b => simp [deep] at h0
     | str b => simp [deep] at h0
     | @tup a xs ds h1 q1 =>
       cases ru
       obtain ⟨its, v1, p1, _⟩ := I.tuple h1
       have p1 : s.heap.IsTuple a its.toArray := p1
       cases r2 with
       | non => cases ru'; exact SeqAt.EqAt.tuple_none p1 (by omega)
       | bl b => cases ru'; exact SeqAt.EqAt.tuple_bool b p1 (by omega)
       | int i => obtain ⟨t', rfl⟩ := ru'; exact SeqAt.EqAt.tuple_int i t' p1 (by omega)
       | str i => obtain ⟨t', rfl⟩ := ru'; exact SeqAt.EqAt.tuple_str i t' p1 (by omega)
       | @tup b ys es h2 q2 =>
         cases ru'
         by_cases e : a = b
         · subst e
           have e2 := sn_inj I (.tup h1 q1) (.tup h2 q2)
           rw [← e2, eqD_self _ (sn_noloc (.tup h1 q1))]
           exact SeqAt.EqAt.same _
         · exact SeqAt.EqAt.of_refs e both.1
       | @lst b ys es h2 q2 =>
         cases ru'; obtain ⟨its2, v2, p2, _⟩ := I.list h2; exact SeqAt.EqAt.tuple_list p1 p2.isList (by omega)
     | @lst a xs ds h1 q1 =>
       cases ru
       obtain ⟨its, v1, p1, _⟩ := I.list h1
       have p1 := p1.isList
       cases r2 with
       | non => cases ru'; exact SeqAt.EqAt.list_none p1 (by omega)
       | bl b => cases ru'; exact SeqAt.EqAt.list_bool b p1 (by omega)
       | int i => obtain ⟨t', rfl⟩ := ru'; exact SeqAt.EqAt.list_int i t' p1 (by omega)
       | str i => obtain ⟨t', rfl⟩ := ru'; exact SeqAt.EqAt.list_str i t' p1 (by omega)
       | tup h2 q2 => cases ru'; obtain ⟨its2, v2, p2, _⟩ := I.tuple h2; exact SeqAt.EqAt.list_tuple p1 (show s.heap.IsTuple _ its2.toArray from p2) (by omega)
       | @lst b ys es h2 q2 =>
         cases ru'
         by_cases e : a = b
         · subst e
           have e2 := sn_inj I (.lst h1 q1) (.lst h2 q2)
           rw [← e2, eqD_self _ (sn_noloc (.lst h1 q1))]
           exact SeqAt.EqAt.same _
         · exact SeqAt.EqAt.of_refs e both.1
def vw (S : Store) : D → D
 | .loc k => match S[k]? with | some ds => .lst ds | none => .loc k
 | d => d
def eqOk (S : Store) (x y : D) : Prop := okD (vw S x) = true ∧ okD (vw S y) = true ∧ deep (vw S x) ≤ 50
theorem vw_sn {K : PySem.W.Frag} {O : Own} {H : Hp} {S : Store} {v : V} {x : D} (st : StOk K O H S) (r : Rep K O H v x) (h : okD (vw S x) = true) : Sn K H v (vw S x) := by
 cases r with
 | @loc a k hk =>
   simp only [vw] at h ⊢
   have hl : k < S.length := by rw [← st.len]; exact (List.getElem?_eq_some_iff.mp hk).1
   obtain ⟨xs, hx, q⟩ := st.obj k a S[k] hk (List.getElem?_eq_getElem hl)
   rw [List.getElem?_eq_getElem hl] at h ⊢
   exact .lst (SqL.of hx) (reps_sn (by simpa [okD] using h) q)
 | non => exact .non
 | bl b => exact .bl b
 | int i => exact .int i
 | str i => exact .str i
 | tup h1 q1 => exact rep_sn h (.tup h1 q1)
 | lst h1 q1 => exact rep_sn h (.lst h1 q1)
 | dic h1 e1 => simp [vw, okD] at h
theorem c_eqD {x y : D} {S : Store} {W : Bool → Store → Prop} (hu : X.A.units + 60 < cLine) (h : eqOk S x y) (w : W (eqD (vw S x) (vw S y)) S) : CmpW X .Eq x y S (asB W) := by
 intro pins s σ H O v w' u u' I st r1 r2 r3 r4
 obtain ⟨h1, h2, h3⟩ := h
 have := (rc_both (n := 50) (A := X.A) (eqAt 50) (vw S x) (vw S y) (by omega) I (vw_sn st r1 h1) (vw_sn st r2 h2) r3 r4 (by omega)).1
 exact this _ _ _ _ ⟨.bl _, H, I, rfl, QG.here ⟨_, rfl, w⟩ st (.bl _)⟩
theorem c_neD {x y : D} {S : Store} {W : Bool → Store → Prop} (hu : X.A.units + 60 < cLine) (h : eqOk S x y) (w : W (!eqD (vw S x) (vw S y)) S) : CmpW X .NotEq x y S (asB W) := by
 intro pins s σ H O v w' u u' I st r1 r2 r3 r4
 obtain ⟨h1, h2, h3⟩ := h
 have := (rc_both (n := 50) (A := X.A) (eqAt 50) (vw S x) (vw S y) (by omega) I (vw_sn st r1 h1) (vw_sn st r2 h2) r3 r4 (by omega)).2
 exact this _ _ _ _ ⟨.bl _, H, I, rfl, QG.here ⟨_, rfl, w⟩ st (.bl _)⟩
theorem vals_get : ∀ {xs : List V} {its : List Value} {i : Nat} {v : V}, Vals xs its → xs[i]? = some v → ∃ y, its[i]? = some y ∧ RelV v y
 | _, _, _, _, .nil, e => by simp at e
 | _, _, 0, _, .cons a _, e => by simp at e; subst e; exact ⟨_, rfl, a⟩
 | _, _, i + 1, v, .cons _ t, e => by
   obtain ⟨y, h1, h2⟩ := vals_get (i := i) (v := v) t (by simpa using e)
   exact ⟨y, by simpa using h1, h2⟩
theorem in_both {x : D} {ds : List D} {pins : Pins} {s : Shared} {σ : DL.St} {H : Hp} {v w' : V} {u u' : Value} (hu : X.A.units + 60 < cLine) (I : Inv X pins σ H s) (sx : Sn X.K H v x) (sy : Sn X.K H w' (.lst ds)) (r3 : RelV v u) (r4 : RelV w' u') (h3 : deeps ds ≤ 50) :
 ∃ (l : Addr) (its : List Value) (e : Value → Bool), u' = .ref l ∧ s.heap.IsList l its.toArray ∧ (∀ y, y ∈ its.toArray → SeqAt.EqAt X.A.in1 s y u (e y)) ∧ its.toArray.any e = ds.any fun d => eqD d x := by
 classical
 cases sy with
 | @lst a xs _ h1 q1 =>
   cases r4
   obtain ⟨its, rv, pl, hz⟩ := I.list h1
   let e : Value → Bool := fun y => decide (∃ (v' : V) (d : D), RelV v' y ∧ Sn X.K H v' d ∧ eqD d x = true)
   have ev : ∀ (y : Value) (v' : V) (d : D), RelV v' y → Sn X.K H v' d → e y = eqD d x := by
    intro y v' d hr hs
    cases hd : eqD d x with
    | true => exact decide_eq_true ⟨v', d, hr, hs, hd⟩
    | false =>
      refine decide_eq_false ?_
      rintro ⟨v2, d2, hr2, hs2, hd2⟩
      have ev' := hr2.inj hr
      subst ev'
      have := sn_inj I hs2 hs
      subst this
      rw [hd] at hd2; cases hd2
   refine ⟨a, its, e, rfl, pl.isList, ?_, ?_⟩
   · intro y hy
     have hy' : y ∈ its := by simpa using hy
     obtain ⟨i, hi⟩ := List.getElem?_of_mem hy'
     have hlt : i < xs.length := by rw [rv.length]; exact (List.getElem?_eq_some_iff.mp hi).1
     obtain ⟨d, hd⟩ : ∃ d, ds[i]? = some d := ⟨_, List.getElem?_eq_getElem (by rw [← q1.length]; exact hlt)⟩
     obtain ⟨v', hv', hs⟩ := q1.get hd
     obtain ⟨y', hy2, hr⟩ := vals_get rv hv'
     rw [hi] at hy2; cases hy2
     rw [ev y v' d hr hs]
     exact eqAt 50 d x (Nat.le_trans (deeps_le hd) h3) I hs sx hr r3 (by show X.A.units + 1 + 50 < cLine; omega)
   · have hlen : its.length = ds.length := by rw [← rv.length, q1.length]
     have main : ∀ (xs : List V) (its : List Value) (ds : List D), Vals xs its → Sns X.K H xs ds → its.any e = ds.any fun d => eqD d x := by
      intro xs its ds rv q1
      induction rv generalizing ds with
      | nil => cases q1; rfl
      | cons hr _ ih =>
        cases q1 with
        | cons hs ht => rw [List.any_cons, List.any_cons, ev _ _ _ hr hs, ih _ ht]
     rw [List.any_toArray]
     exact main xs its ds rv q1
theorem c_inD {x y : D} {S : Store} {W : Bool → Store → Prop} {ds : List D} (hu : X.A.units + 60 < cLine) (hy : vw S y = .lst ds) (h1 : okD (vw S x) = true) (h2 : okDs ds = true) (h3 : deeps ds ≤ 50) (w : W (ds.any fun d => eqD d (vw S x)) S) : CmpW X .In x y S (asB W) := by
 intro pins s σ H O v w' u u' I st r1 r2 r3 r4
 have sy := vw_sn st r2 (by rw [hy]; simpa [okD] using h2)
 rw [hy] at sy
 obtain ⟨l, its, e, rfl, hl, he, ha⟩ := in_both hu I (vw_sn st r1 h1) sy r3 r4 h3
 refine SeqAt.in_listAt e hl he ?_
 rw [ha]
 exact ⟨.bl _, H, I, rfl, QG.here ⟨_, rfl, w⟩ st (.bl _)⟩
theorem c_ninD {x y : D} {S : Store} {W : Bool → Store → Prop} {ds : List D} (hu : X.A.units + 60 < cLine) (hy : vw S y = .lst ds) (h1 : okD (vw S x) = true) (h2 : okDs ds = true) (h3 : deeps ds ≤ 50) (w : W (!(ds.any fun d => eqD d (vw S x))) S) : CmpW X .NotIn x y S (asB W) := by
 intro pins s σ H O v w' u u' I st r1 r2 r3 r4
 have sy := vw_sn st r2 (by rw [hy]; simpa [okD] using h2)
 rw [hy] at sy
 obtain ⟨l, its, e, rfl, hl, he, ha⟩ := in_both hu I (vw_sn st r1 h1) sy r3 r4 h3
 refine SeqAt.notIn_listAt e hl he ?_
 rw [ha]
 exact ⟨.bl _, H, I, rfl, QG.here ⟨_, rfl, w⟩ st (.bl _)⟩
end
end RF
namespace RF
open PySem PySem.Spec L2 DL
open PyProof.Rows
def isN : D → Bool
 | .non => true
 | _ => false
theorem c_isBB {X : Cx} {a b : Bool} {S : Store} {W : Bool → Store → Prop} (w : W (a == b) S) : CmpW X .Is (.bl a) (.bl b) S (asB W) := by
 intro pins s σ H O v w' u u' I st r1 r2 r3 r4
 cases r1; cases r2; cases r3; cases r4
 refine wpAny_is_plain rfl ?_
 have e : (Value.bool a == Value.bool b) = (a == b) := by cases a <;> cases b <;> rfl
 rw [e]
 exact ⟨.bl _, H, I, rfl, QG.here ⟨_, rfl, w⟩ st (.bl _)⟩
theorem c_isNotBB {X : Cx} {a b : Bool} {S : Store} {W : Bool → Store → Prop} (w : W (!(a == b)) S) : CmpW X .IsNot (.bl a) (.bl b) S (asB W) := by
 intro pins s σ H O v w' u u' I st r1 r2 r3 r4
 cases r1; cases r2; cases r3; cases r4
 refine wpAny_isNot_plain rfl ?_
 have e : (Value.bool a == Value.bool b) = (a == b) := by cases a <;> cases b <;> rfl
 rw [e]
 exact ⟨.bl _, H, I, rfl, QG.here ⟨_, rfl, w⟩ st (.bl _)⟩
@[irreducible] noncomputable def wpCmp (op : CmpOp) (x y : D) (S : Store) (W : Bool → Store → Prop) : Prop := match op, x, y with
  | .Lt, .int i, .int j => W (decide (i < j)) S
  | .LtE, .int i, .int j => W (decide (i ≤ j)) S
  | .Gt, .int i, .int j => W (decide (j < i)) S
  | .GtE, .int i, .int j => W (decide (j ≤ i)) S
  | .Eq, .int i, .int j => W (decide (i = j)) S
  | .NotEq, .int i, .int j => W (!decide (i = j)) S
  | .Eq, .bl i, .bl j => W (i == j) S
  | .NotEq, .bl i, .bl j => W (!(i == j)) S
  | .Is, .bl i, .bl j => W (i == j) S
  | .IsNot, .bl i, .bl j => W (!(i == j)) S
  | .Is, x, .non => W (isN x) S
  | .IsNot, x, .non => W (!isN x) S
  | .Eq, x, y => eqOk S x y ∧ W (eqD (vw S x) (vw S y)) S
  | .NotEq, x, y => (eqOk S x y ∧ W (!eqD (vw S x) (vw S y)) S) ∨ (x = y ∧ noloc x = true ∧ deep x ≤ 50 ∧ W false S)
  | .In, x, y => ∃ ds, vw S y = .lst ds ∧ okD (vw S x) = true ∧ okDs ds = true ∧ deeps ds ≤ 50 ∧ W (ds.any fun d => eqD d (vw S x)) S
  | .NotIn, x, y => ∃ ds, vw S y = .lst ds ∧ okD (vw S x) = true ∧ okDs ds = true ∧ deeps ds ≤ 50 ∧ W (!(ds.any fun d => eqD d (vw S x))) S
  | _, _, _ => False
theorem asB_mono {X : Cx} {op : CmpOp} {x y : D} {S : Store} {W : Bool → Store → Prop} {b : Bool} (h : ∀ V : WD, V (.bl b) S → CmpW X op x y S V) (w : W b S) : CmpW X op x y S (asB W) := h (asB W) ⟨b, rfl, w⟩
theorem wpCmp_ok {X : Cx} {op : CmpOp} {x y : D} {S : Store} {W : Bool → Store → Prop} (hu : X.A.units + 60 < cLine) (h : wpCmp op x y S W) : CmpW X op x y S (asB W) := by
 unfold wpCmp at h
 split at h
 · exact asB_mono (fun _ => c_lt) h
 · exact asB_mono (fun _ => c_le) h
 · exact asB_mono (fun _ => c_gt) h
 · exact asB_mono (fun _ => c_ge) h
 · exact asB_mono (fun _ => c_eqI) h
 · exact asB_mono (fun _ => c_neI) h
 · exact asB_mono (fun _ => c_eqB) h
 · exact asB_mono (fun _ => c_neB) h
 · exact c_isBB h
 · exact c_isNotBB h
 · exact asB_mono (fun V w => c_isN w) h
 · refine asB_mono (fun V w => c_isNot ?_) h
   cases x <;> exact w
 · exact c_eqD hu h.1 h.2
 · rcases h with h | ⟨rfl, h1, h2, h3⟩
   · exact c_neD hu h.1 h.2
   · exact c_neSelf hu h1 h2 ⟨false, rfl, h3⟩
 · obtain ⟨ds, h1, h2, h3, h4, h5⟩ := h
   exact c_inD hu h1 h2 h3 h4 h5
 · obtain ⟨ds, h1, h2, h3, h4, h5⟩ := h
   exact c_ninD hu h1 h2 h3 h4 h5
 · exact h.elim
section
variable {i j : Int} {a b : Bool} {x y : D} {S : Store} {W : Bool → Store → Prop}
theorem cLt (w : W (decide (i < j)) S) : wpCmp .Lt (.int i) (.int j) S W := by unfold wpCmp; exact w
theorem cLe (w : W (decide (i ≤ j)) S) : wpCmp .LtE (.int i) (.int j) S W := by unfold wpCmp; exact w
theorem cGt (w : W (decide (j < i)) S) : wpCmp .Gt (.int i) (.int j) S W := by unfold wpCmp; exact w
theorem cEqI (w : W (decide (i = j)) S) : wpCmp .Eq (.int i) (.int j) S W := by unfold wpCmp; exact w
theorem cNeSelf (h1 : noloc x = true) (h2 : deep x ≤ 50) (w : W false S) : wpCmp .NotEq x x S W := by
 unfold wpCmp
 cases x with
 | int i => simpa using w
 | bl i => simpa using w
 | _ => exact .inr ⟨rfl, h1, h2, w⟩
end
structure Ex (Ω : Wd) where
 lev : Nat
 chk : Bool → List Str → Nm → Expr → Bool
 wp : Gam → Store → WD → Prop
 sound : ∀ {X : Cx} {r : Nat} {top : Bool} {N : List Str} {nm : Nm} {e : Expr} {Γ : Gam} {S : Store} {W : WD}, At Ω X r top N nm → lev ≤ r → chk top N nm e = true → wp Γ S W → Ev X Γ S e W
structure Te (Ω : Wd) where
 lev : Nat
 chk : Bool → List Str → Nm → Expr → Bool
 wp : Gam → Store → (Bool → Store → Prop) → Prop
 sound : ∀ {X : Cx} {r : Nat} {top : Bool} {N : List Str} {nm : Nm} {e : Expr} {Γ : Gam} {S : Store} {W : Bool → Store → Prop}, At Ω X r top N nm → lev ≤ r → chk top N nm e = true → wp Γ S W → Ts X Γ S e W
structure Ar (Ω : Wd) where
 lev : Nat
 chk : Bool → List Str → Nm → List Expr → Bool
 wp : Gam → Store → (List D → Store → Prop) → Prop
 plain : ∀ {top : Bool} {N : List Str} {nm : Nm} {es : List Expr}, chk top N nm es = true → es.all okE = true
 sound : ∀ {X : Cx} {r : Nat} {top : Bool} {N : List Str} {nm : Nm} {es : List Expr} {Γ : Gam} {S : Store} {W : List D → Store → Prop}, At Ω X r top N nm → lev ≤ r → chk top N nm es = true → wp Γ S W → EvA X Γ S es W
structure Bo (Ω : Wd) where
 lev : Nat
 chk : Bool → List Str → Nm → List Expr → Bool
 wpA : Gam → Store → WD → Prop
 wpO : Gam → Store → WD → Prop
 ne : ∀ {top : Bool} {N : List Str} {nm : Nm} {es : List Expr}, chk top N nm es = true → ∃ b rest, es = b :: rest
 soundA : ∀ {X : Cx} {r : Nat} {top : Bool} {N : List Str} {nm : Nm} {es : List Expr} {Γ : Gam} {S : Store} {W : WD} {pos : Pos}, At Ω X r top N nm → lev ≤ r → chk top N nm es = true → wpA Γ S W → Ev X Γ S (.BoolOp .And es pos) W
 soundO : ∀ {X : Cx} {r : Nat} {top : Bool} {N : List Str} {nm : Nm} {es : List Expr} {Γ : Gam} {S : Store} {W : WD} {pos : Pos}, At Ω X r top N nm → lev ≤ r → chk top N nm es = true → wpO Γ S W → Ev X Γ S (.BoolOp .Or es pos) W
structure Bt (Ω : Wd) where
 lev : Nat
 chk : Bool → List Str → Nm → List Expr → Bool
 wpA : Gam → Store → (Bool → Store → Prop) → Prop
 wpO : Gam → Store → (Bool → Store → Prop) → Prop
 ne : ∀ {top : Bool} {N : List Str} {nm : Nm} {es : List Expr}, chk top N nm es = true → ∃ b rest, es = b :: rest
 soundA : ∀ {X : Cx} {r : Nat} {top : Bool} {N : List Str} {nm : Nm} {es : List Expr} {Γ : Gam} {S : Store} {W : Bool → Store → Prop} {pos : Pos}, At Ω X r top N nm → lev ≤ r → chk top N nm es = true → wpA Γ S W → TsW X Γ S (.BoolOp .And es pos) W
 soundO : ∀ {X : Cx} {r : Nat} {top : Bool} {N : List Str} {nm : Nm} {es : List Expr} {Γ : Gam} {S : Store} {W : Bool → Store → Prop} {pos : Pos}, At Ω X r top N nm → lev ≤ r → chk top N nm es = true → wpO Γ S W → TsW X Γ S (.BoolOp .Or es pos) W
theorem At.hu {Ω : Wd} {X : Cx} {r : Nat} {top : Bool} {N : List Str} {nm : Nm} (A : At Ω X r top N nm) : X.A.units + 60 < cLine := by have := A.room.un; omega
theorem lv2 {a b r : Nat} (h : max a b ≤ r) : a ≤ r ∧ b ≤ r := by omega
variable {Ω : Wd}
def Ex.var (i : Nat) : Ex Ω where
 lev := 0
 chk _ N nm e := match e with | .Name x _ => (N[i]? == some x) && (vis nm x && okN x) | _ => false
 wp Γ S W := match Γ[i]? with | some (some d) => W d S | _ => False
 sound := by
  intro X r top N nm e Γ S W A _ hc hw
  cases e with
  | Name x pos =>
    obtain ⟨h1, h2⟩ := and2 hc
    obtain ⟨h2, h3⟩ := and2 h2
    obtain ⟨d1, d2, _⟩ := okN_at h3
    have h1 : N[i]? = some x := eq_of_beq h1
    cases hΓ : Γ[i]? with
    | none => rw [hΓ] at hw; exact hw.elim
    | some o =>
      cases o with
      | none => rw [hΓ] at hw; exact hw.elim
      | some d =>
        rw [hΓ] at hw
        exact ev_var i hΓ hw (by rw [A.n]; exact h1) (A.vis h2) d1 d2
  | _ => exact fE hc
def Ex.int (i : Int) : Ex Ω where
 lev := 0
 chk _ _ _ e := match e with | .Constant (.int j) _ _ => j == i | _ => false
 wp _ S W := W (.int i) S
 sound := by
  intro X r top N nm e Γ S W A _ hc hw
  cases e with
  | Constant c k pos =>
    cases c with
    | int j => have e : j = i := eq_of_beq hc; subst e; exact ev_int hw
    | _ => exact fE hc
  | _ => exact fE hc
def Ex.bl (i : Bool) : Ex Ω where
 lev := 0
 chk _ _ _ e := match e with | .Constant (.bool j) _ _ => j == i | _ => false
 wp _ S W := W (.bl i) S
 sound := by
  intro X r top N nm e Γ S W A _ hc hw
  cases e with
  | Constant c k pos =>
    cases c with
    | bool j => have e : j = i := eq_of_beq hc; subst e; exact ev_bl hw
    | _ => exact fE hc
  | _ => exact fE hc
def Ex.non : Ex Ω where
 lev := 0
 chk _ _ _ e := match e with | .Constant .none _ _ => true | _ => false
 wp _ S W := W .non S
 sound := by
  intro X r top N nm e Γ S W A _ hc hw
  cases e with
  | Constant c k pos =>
    cases c with
    | none => exact ev_non hw
    | _ => exact fE hc
  | _ => exact fE hc
def Ex.str (i : Str) : Ex Ω where
 lev := 0
 chk _ _ _ e := match e with | .Constant (.str j) _ _ => j == i | _ => false
 wp _ S W := W (.str i) S
 sound := by
  intro X r top N nm e Γ S W A _ hc hw
  cases e with
  | Constant c k pos =>
    cases c with
    | str j => have e : j = i := eq_of_beq hc; subst e; exact ev_str hw
    | _ => exact fE hc
  | _ => exact fE hc
def Ex.gint {x : Str} {i : Int} (h : ∃ t, Ω.mg x = some (.int i t)) : Ex Ω where
 lev := 0
 chk _ _ nm e := match e with | .Name y _ => (y == x) && (glb nm x && okN x) | _ => false
 wp _ S W := W (.int i) S
 sound := by
  intro X r top N nm e Γ S W A _ hc hw
  cases e with
  | Name y pos =>
    obtain ⟨h1, h2⟩ := and2 hc
    obtain ⟨h2, h3⟩ := and2 h2
    have e : y = x := eq_of_beq h1
    subst e
    obtain ⟨t, h⟩ := h
    exact ev_globI (by rw [A.g]; exact h) hw (A.glb h2) (okN_at h3).1
  | _ => exact fE hc
def Ex.bin (op : Operator) (a b : Ex Ω) : Ex Ω where
 lev := max a.lev b.lev
 chk top N nm e := match e with | .BinOp l o r _ => (o == op) && (a.chk top N nm l && b.chk top N nm r) | _ => false
 wp Γ S W := a.wp Γ S fun x S1 => b.wp Γ S1 fun y S2 => wpBin op x y S2 W
 sound := by
  intro X r top N nm e Γ S W A hl hc hw
  obtain ⟨l1, l2⟩ := lv2 hl
  cases e with
  | BinOp l o r' pos =>
    obtain ⟨h1, h2⟩ := and2 hc
    obtain ⟨h2, h3⟩ := and2 h2
    have e : o = op := eq_of_beq h1
    subst e
    exact ev_bin ((a.sound A l1 h2 hw).mono fun x S1 q => (b.sound A l2 h3 q).mono fun y S2 q => wpBin_ok q)
  | _ => exact fE hc
def Ex.cmp (op : CmpOp) (a b : Ex Ω) : Ex Ω where
 lev := max a.lev b.lev
 chk top N nm e := match e with | .Compare l [o] [r] _ => (o == op) && (okE r && (a.chk top N nm l && b.chk top N nm r)) | _ => false
 wp Γ S W := a.wp Γ S fun x S1 => b.wp Γ S1 fun y S2 => wpCmp op x y S2 fun c S3 => W (.bl c) S3
 sound := by
  intro X r top N nm e Γ S W A hl hc hw
  obtain ⟨l1, l2⟩ := lv2 hl
  cases e with
  | Compare l os rs pos =>
    match os, rs, hc with
    | [o], [r'], hc =>
      obtain ⟨h1, h2⟩ := and2 hc
      obtain ⟨h0, h2⟩ := and2 h2
      obtain ⟨h2, h3⟩ := and2 h2
      have e : o = op := eq_of_beq h1
      subst e
      exact ev_cmp ((a.sound A l1 h2 hw).mono fun x S1 q => (b.sound A l2 h3 q).mono fun y S2 q => (wpCmp_ok A.hu q).mono fun d S3 ⟨c, e, w⟩ => by subst e; exact w) (marks_ok h0)
    | [], _, hc => exact fE hc
    | [_], [], hc => exact fE hc
    | [_], _ :: _ :: _, hc => exact fE hc
    | _ :: _ :: _, _, hc => exact fE hc
  | _ => exact fE hc
def Te.cmp (op : CmpOp) (a b : Ex Ω) : Te Ω where
 lev := max a.lev b.lev
 chk top N nm e := match e with | .Compare l [o] [r] _ => (o == op) && (okE r && (a.chk top N nm l && b.chk top N nm r)) | _ => false
 wp Γ S W := a.wp Γ S fun x S1 => b.wp Γ S1 fun y S2 => wpCmp op x y S2 W
 sound := by
  intro X r top N nm e Γ S W A hl hc hw
  obtain ⟨l1, l2⟩ := lv2 hl
  cases e with
  | Compare l os rs pos =>
    match os, rs, hc with
    | [o], [r'], hc =>
      obtain ⟨h1, h2⟩ := and2 hc
      obtain ⟨h0, h2⟩ := and2 h2
      obtain ⟨h2, h3⟩ := and2 h2
      have e : o = op := eq_of_beq h1
      subst e
      exact ts_cmp ((a.sound A l1 h2 hw).mono fun x S1 q => (b.sound A l2 h3 q).mono fun y S2 q => wpCmp_ok A.hu q) (marks_ok h0)
    | [], _, hc => exact fE hc
    | [_], [], hc => exact fE hc
    | [_], _ :: _ :: _, hc => exact fE hc
    | _ :: _ :: _, _, hc => exact fE hc
  | _ => exact fE hc
abbrev wpCh2 (a : Ex Ω) (o1 : CmpOp) (b : Ex Ω) (o2 : CmpOp) (c : Ex Ω) (Γ : Gam) (S : Store) (W : Bool → Store → Prop) : Prop :=
 a.wp Γ S fun x S1 => b.wp Γ S1 fun y S2 => wpCmp o1 x y S2 fun k S3 => (k = false → W false S3) ∧ (k = true → c.wp Γ S3 fun t S4 => wpCmp o2 y t S4 W)
def Ex.ch2 (a : Ex Ω) (o1 : CmpOp) (b : Ex Ω) (o2 : CmpOp) (c : Ex Ω) : Ex Ω where
 lev := max (max a.lev b.lev) c.lev
 chk top N nm e := match e with | .Compare l [p1, p2] [m, r] _ => (p1 == o1) && ((p2 == o2) && (okE r && (a.chk top N nm l && (b.chk top N nm m && c.chk top N nm r)))) | _ => false
 wp Γ S W := wpCh2 a o1 b o2 c Γ S fun k S1 => W (.bl k) S1
 sound := by
  intro X r top N nm e Γ S W A hl hc hw
  obtain ⟨l1, l3⟩ := lv2 hl
  obtain ⟨l1, l2⟩ := lv2 l1
  cases e with
  | Compare l os rs pos =>
    match os, rs, hc with
    | [p1, p2], [m, r'], hc =>
      obtain ⟨h1, h2⟩ := and2 hc
      obtain ⟨h2, h3⟩ := and2 h2
      obtain ⟨h0, h3⟩ := and2 h3
      obtain ⟨h3, h4⟩ := and2 h3
      obtain ⟨h4, h5⟩ := and2 h4
      have e : p1 = o1 := eq_of_beq h1
      subst e
      have e : p2 = o2 := eq_of_beq h2
      subst e
      refine ev_chain ((a.sound A l1 h3 hw).mono fun x S1 q => (b.sound A l2 h4 q).mono fun y S2 q => (wpCmp_ok A.hu q).mono fun d S3 ⟨k, e, w⟩ => ⟨k, e, w.1, fun hk => (c.sound A l3 h5 (w.2 hk)).mono fun t S4 q => (wpCmp_ok A.hu q).mono fun d S3 ⟨c, e, w⟩ => by subst e; exact w⟩) (marks_ok h0)
    | [], _, hc => exact fE hc
    | [_], _, hc => exact fE hc
    | [_, _], [], hc => exact fE hc
    | [_, _], [_], hc => exact fE hc
    | [_, _], _ :: _ :: _ :: _, hc => exact fE hc
    | _ :: _ :: _ :: _, _, hc => exact fE hc
  | _ => exact fE hc
def Te.ch2 (a : Ex Ω) (o1 : CmpOp) (b : Ex Ω) (o2 : CmpOp) (c : Ex Ω) : Te Ω where
 lev := max (max a.lev b.lev) c.lev
 chk top N nm e := match e with | .Compare l [p1, p2] [m, r] _ => (p1 == o1) && ((p2 == o2) && (okE r && (a.chk top N nm l && (b.chk top N nm m && c.chk top N nm r)))) | _ => false
 wp Γ S W := wpCh2 a o1 b o2 c Γ S W
 sound := by
  intro X r top N nm e Γ S W A hl hc hw
  obtain ⟨l1, l3⟩ := lv2 hl
  obtain ⟨l1, l2⟩ := lv2 l1
  cases e with
  | Compare l os rs pos =>
    match os, rs, hc with
    | [p1, p2], [m, r'], hc =>
      obtain ⟨h1, h2⟩ := and2 hc
      obtain ⟨h2, h3⟩ := and2 h2
      obtain ⟨h0, h3⟩ := and2 h3
      obtain ⟨h3, h4⟩ := and2 h3
      obtain ⟨h4, h5⟩ := and2 h4
      have e : p1 = o1 := eq_of_beq h1
      subst e
      have e : p2 = o2 := eq_of_beq h2
      subst e
      refine ts_chain2 ((a.sound A l1 h3 hw).mono fun x S1 q => (b.sound A l2 h4 q).mono fun y S2 q => (wpCmp_ok A.hu q).mono fun d S3 ⟨k, e, w⟩ => ⟨k, e, w.1, fun hk => (c.sound A l3 h5 (w.2 hk)).mono fun t S4 q => wpCmp_ok A.hu q⟩) (marks_ok h0)
    | [], _, hc => exact fE hc
    | [_], _, hc => exact fE hc
    | [_, _], [], hc => exact fE hc
    | [_, _], [_], hc => exact fE hc
    | [_, _], _ :: _ :: _ :: _, hc => exact fE hc
    | _ :: _ :: _ :: _, _, hc => exact fE hc
  | _ => exact fE hc
def Te.val (a : Ex Ω) : Te Ω where
 lev := a.lev
 chk top N nm e := valE e && a.chk top N nm e
 wp Γ S W := a.wp Γ S fun d S1 => match d with | .bl c => W c S1 | _ => False
 sound := by
  intro X r top N nm e Γ S W A hl hc hw
  obtain ⟨h1, h2⟩ := and2 hc
  refine ts_val ((a.sound A hl h2 hw).mono fun d S1 q => ?_) (val_ok h1 _)
  cases d <;> first | exact ⟨_, rfl, q⟩ | exact q.elim
def Te.not (t : Te Ω) : Te Ω where
 lev := t.lev
 chk top N nm e := match e with | .UnaryOp .Not a _ => t.chk top N nm a | _ => false
 wp Γ S W := t.wp Γ S fun c S1 => W (!c) S1
 sound := by
  intro X r top N nm e Γ S W A hl hc hw
  cases e with
  | UnaryOp o a pos =>
    cases o with
    | Not => exact ts_not (t.sound A hl hc hw)
    | _ => exact fE hc
  | _ => exact fE hc
def Bt.one (t : Te Ω) : Bt Ω where
 lev := t.lev
 chk top N nm es := match es with | [e] => t.chk top N nm e | _ => false
 wpA Γ S W := t.wp Γ S W
 wpO Γ S W := t.wp Γ S W
 ne := by
  intro top N nm es hc
  match es, hc with
  | [e], _ => exact ⟨_, _, rfl⟩
  | [], hc => exact fE hc
  | _ :: _ :: _, hc => exact fE hc
 soundA := by
  intro X r top N nm es Γ S W pos A hl hc hw
  match es, hc with
  | [e], hc => exact tw_and1 (t.sound A hl hc hw)
  | [], hc => exact fE hc
  | _ :: _ :: _, hc => exact fE hc
 soundO := by
  intro X r top N nm es Γ S W pos A hl hc hw
  match es, hc with
  | [e], hc => exact tw_or1 (t.sound A hl hc hw)
  | [], hc => exact fE hc
  | _ :: _ :: _, hc => exact fE hc
def Bt.cons (t : Te Ω) (r : Bt Ω) : Bt Ω where
 lev := max t.lev r.lev
 chk top N nm es := match es with | e :: es => t.chk top N nm e && r.chk top N nm es | _ => false
 wpA Γ S W := t.wp Γ S fun c S1 => (c = true → r.wpA Γ S1 W) ∧ (c = false → W false S1)
 wpO Γ S W := t.wp Γ S fun c S1 => (c = true → W true S1) ∧ (c = false → r.wpO Γ S1 W)
 ne := by
  intro top N nm es hc
  match es, hc with
  | _ :: _, _ => exact ⟨_, _, rfl⟩
  | [], hc => exact fE hc
 soundA := by
  intro X r' top N nm es Γ S W pos A hl hc hw
  obtain ⟨l1, l2⟩ := lv2 hl
  match es, hc with
  | e :: es, hc =>
    obtain ⟨h1, h2⟩ := and2 hc
    obtain ⟨b, rest, rfl⟩ := r.ne h2
    exact tw_and (Ts.mono (t.sound A l1 h1 hw) fun c S1 q => ⟨fun hk => r.soundA A l2 h2 (q.1 hk), q.2⟩)
  | [], hc => exact fE hc
 soundO := by
  intro X r' top N nm es Γ S W pos A hl hc hw
  obtain ⟨l1, l2⟩ := lv2 hl
  match es, hc with
  | e :: es, hc =>
    obtain ⟨h1, h2⟩ := and2 hc
    obtain ⟨b, rest, rfl⟩ := r.ne h2
    exact tw_or (Ts.mono (t.sound A l1 h1 hw) fun c S1 q => ⟨q.1, fun hk => r.soundO A l2 h2 (q.2 hk)⟩)
  | [], hc => exact fE hc
def Te.and (l : Bt Ω) : Te Ω where
 lev := l.lev
 chk top N nm e := match e with | .BoolOp .And es _ => l.chk top N nm es | _ => false
 wp Γ S W := l.wpA Γ S W
 sound := by
  intro X r top N nm e Γ S W A hl hc hw
  cases e with
  | BoolOp o es pos =>
    cases o with
    | And => exact (l.soundA A hl hc hw).ts
    | _ => exact fE hc
  | _ => exact fE hc
def Te.or (l : Bt Ω) : Te Ω where
 lev := l.lev
 chk top N nm e := match e with | .BoolOp .Or es _ => l.chk top N nm es | _ => false
 wp Γ S W := l.wpO Γ S W
 sound := by
  intro X r top N nm e Γ S W A hl hc hw
  cases e with
  | BoolOp o es pos =>
    cases o with
    | Or => exact (l.soundO A hl hc hw).ts
    | _ => exact fE hc
  | _ => exact fE hc
def Bo.one (t : Ex Ω) : Bo Ω where
 lev := t.lev
 chk top N nm es := match es with | [e] => t.chk top N nm e | _ => false
 wpA Γ S W := t.wp Γ S W
 wpO Γ S W := t.wp Γ S W
 ne := by
  intro top N nm es hc
  match es, hc with
  | [e], _ => exact ⟨_, _, rfl⟩
  | [], hc => exact fE hc
  | _ :: _ :: _, hc => exact fE hc
 soundA := by
  intro X r top N nm es Γ S W pos A hl hc hw
  match es, hc with
  | [e], hc => exact ev_one (t.sound A hl hc hw)
  | [], hc => exact fE hc
  | _ :: _ :: _, hc => exact fE hc
 soundO := by
  intro X r top N nm es Γ S W pos A hl hc hw
  match es, hc with
  | [e], hc => exact ev_one (t.sound A hl hc hw)
  | [], hc => exact fE hc
  | _ :: _ :: _, hc => exact fE hc
def Bo.cons (t : Ex Ω) (r : Bo Ω) : Bo Ω where
 lev := max t.lev r.lev
 chk top N nm es := match es with | e :: es => t.chk top N nm e && r.chk top N nm es | _ => false
 wpA Γ S W := t.wp Γ S fun d S1 => match d with | .bl c => (c = true → r.wpA Γ S1 W) ∧ (c = false → W (.bl false) S1) | _ => False
 wpO Γ S W := t.wp Γ S fun d S1 => match d with | .bl c => (c = true → W (.bl true) S1) ∧ (c = false → r.wpO Γ S1 W) | _ => False
 ne := by
  intro top N nm es hc
  match es, hc with
  | _ :: _, _ => exact ⟨_, _, rfl⟩
  | [], hc => exact fE hc
 soundA := by
  intro X r' top N nm es Γ S W pos A hl hc hw
  obtain ⟨l1, l2⟩ := lv2 hl
  match es, hc with
  | e :: es, hc =>
    obtain ⟨h1, h2⟩ := and2 hc
    obtain ⟨b, rest, rfl⟩ := r.ne h2
    refine ev_and ((t.sound A l1 h1 hw).mono fun d S1 q => ?_)
    cases d <;> first | exact ⟨_, rfl, fun hk => r.soundA A l2 h2 (q.1 hk), q.2⟩ | exact q.elim
  | [], hc => exact fE hc
 soundO := by
  intro X r' top N nm es Γ S W pos A hl hc hw
  obtain ⟨l1, l2⟩ := lv2 hl
  match es, hc with
  | e :: es, hc =>
    obtain ⟨h1, h2⟩ := and2 hc
    obtain ⟨b, rest, rfl⟩ := r.ne h2
    refine ev_or ((t.sound A l1 h1 hw).mono fun d S1 q => ?_)
    cases d <;> first | exact ⟨_, rfl, q.1, fun hk => r.soundO A l2 h2 (q.2 hk)⟩ | exact q.elim
  | [], hc => exact fE hc
def Ex.and (l : Bo Ω) : Ex Ω where
 lev := l.lev
 chk top N nm e := match e with | .BoolOp .And es _ => l.chk top N nm es | _ => false
 wp Γ S W := l.wpA Γ S W
 sound := by
  intro X r top N nm e Γ S W A hl hc hw
  cases e with
  | BoolOp o es pos =>
    cases o with
    | And => exact l.soundA A hl hc hw
    | _ => exact fE hc
  | _ => exact fE hc
def Ex.not (a : Ex Ω) : Ex Ω where
 lev := a.lev
 chk top N nm e := match e with | .UnaryOp .Not b _ => a.chk top N nm b | _ => false
 wp Γ S W := a.wp Γ S fun d S1 => match d with | .bl c => W (.bl (!c)) S1 | _ => False
 sound := by
  intro X r top N nm e Γ S W A hl hc hw
  cases e with
  | UnaryOp o b pos =>
    cases o with
    | Not =>
      refine ev_not ((a.sound A hl hc hw).mono fun d S1 q => ?_)
      cases d <;> first | exact ⟨_, rfl, q⟩ | exact q.elim
    | _ => exact fE hc
  | _ => exact fE hc
def Ex.neg (a : Ex Ω) : Ex Ω where
 lev := a.lev
 chk top N nm e := match e with | .UnaryOp .USub b _ => a.chk top N nm b | _ => false
 wp Γ S W := a.wp Γ S fun d S1 => match d with | .int c => W (.int (-c)) S1 | _ => False
 sound := by
  intro X r top N nm e Γ S W A hl hc hw
  cases e with
  | UnaryOp o b pos =>
    cases o with
    | USub =>
      refine ev_neg ((a.sound A hl hc hw).mono fun d S1 q => ?_)
      cases d <;> first | exact ⟨_, rfl, q⟩ | exact q.elim
    | _ => exact fE hc
  | _ => exact fE hc
def Ex.ifE (c : Te Ω) (a b : Ex Ω) : Ex Ω where
 lev := max c.lev (max a.lev b.lev)
 chk top N nm e := match e with | .IfExp t x y _ => c.chk top N nm t && (a.chk top N nm x && b.chk top N nm y) | _ => false
 wp Γ S W := c.wp Γ S fun k S1 => (k = true → a.wp Γ S1 W) ∧ (k = false → b.wp Γ S1 W)
 sound := by
  intro X r top N nm e Γ S W A hl hc hw
  obtain ⟨l1, l2⟩ := lv2 hl
  obtain ⟨l2, l3⟩ := lv2 l2
  cases e with
  | IfExp t x y pos =>
    obtain ⟨h1, h2⟩ := and2 hc
    obtain ⟨h2, h3⟩ := and2 h2
    exact ev_ifExp (Ts.mono (c.sound A l1 h1 hw) fun k S1 q => ⟨fun hk => a.sound A l2 h2 (q.1 hk), fun hk => b.sound A l3 h3 (q.2 hk)⟩)
  | _ => exact fE hc
def Ar.nil : Ar Ω where
 lev := 0
 chk _ _ _ es := match es with | [] => true | _ => false
 wp _ S W := W [] S
 plain := by
  intro top N nm es hc
  match es, hc with
  | [], _ => rfl
  | _ :: _, hc => exact fE hc
 sound := by
  intro X r top N nm es Γ S W A _ hc hw
  match es, hc with
  | [], _ => exact eva_nil hw
  | _ :: _, hc => exact fE hc
def Ar.cons (a : Ex Ω) (r : Ar Ω) : Ar Ω where
 lev := max a.lev r.lev
 chk top N nm es := match es with | e :: es => okE e && (a.chk top N nm e && r.chk top N nm es) | _ => false
 wp Γ S W := a.wp Γ S fun d S1 => r.wp Γ S1 fun ds S2 => W (d :: ds) S2
 plain := by
  intro top N nm es hc
  match es, hc with
  | e :: es, hc =>
    obtain ⟨h1, h2⟩ := and2 hc
    obtain ⟨h2, h3⟩ := and2 h2
    rw [List.all_cons, h1, r.plain h3]; rfl
  | [], hc => exact fE hc
 sound := by
  intro X r' top N nm es Γ S W A hl hc hw
  obtain ⟨l1, l2⟩ := lv2 hl
  match es, hc with
  | e :: es, hc =>
    obtain ⟨h1, h2⟩ := and2 hc
    obtain ⟨h2, h3⟩ := and2 h2
    exact eva_cons ((a.sound A l1 h2 hw).mono fun d S1 q => r.sound A l2 h3 q) (star_ok h1 _ _)
  | [], hc => exact fE hc
def Ex.tup (as : Ar Ω) : Ex Ω where
 lev := as.lev
 chk top N nm e := match e with | .Tuple es _ _ => as.chk top N nm es | _ => false
 wp Γ S W := as.wp Γ S fun ds S1 => ds.length ≤ 1000000 ∧ W (.tup ds) S1
 sound := by
  intro X r top N nm e Γ S W A hl hc hw
  cases e with
  | Tuple es k pos => exact ev_tup (as.sound A hl hc hw)
  | _ => exact fE hc
def Ex.lst (as : Ar Ω) : Ex Ω where
 lev := as.lev
 chk top N nm e := match e with | .List es _ => as.chk top N nm es | _ => false
 wp Γ S W := as.wp Γ S fun ds S1 => ds.length ≤ 1000000 ∧ W (.lst ds) S1
 sound := by
  intro X r top N nm e Γ S W A hl hc hw
  cases e with
  | List es pos => exact ev_lst (as.sound A hl hc hw)
  | _ => exact fE hc
def Ex.own (as : Ar Ω) : Ex Ω where
 lev := as.lev
 chk top N nm e := match e with | .List es _ => as.chk top N nm es | _ => false
 wp Γ S W := as.wp Γ S fun ds S1 => ds.length ≤ 1000000 ∧ W (.loc S1.length) (S1 ++ [ds])
 sound := by
  intro X r top N nm e Γ S W A hl hc hw
  cases e with
  | List es pos => exact ev_lstO (as.sound A hl hc hw)
  | _ => exact fE hc
def Ex.ix (a b : Ex Ω) : Ex Ω where
 lev := max a.lev b.lev
 chk top N nm e := match e with | .Subscript l r _ => okE r && (a.chk top N nm l && b.chk top N nm r) | _ => false
 wp Γ S W := a.wp Γ S fun x S1 => b.wp Γ S1 fun y S2 => wpIx x y S2 W
 sound := by
  intro X r top N nm e Γ S W A hl hc hw
  obtain ⟨l1, l2⟩ := lv2 hl
  cases e with
  | Subscript l r' pos =>
    obtain ⟨h1, h2⟩ := and2 hc
    obtain ⟨h2, h3⟩ := and2 h2
    exact ev_ix ((a.sound A l1 h2 hw).mono fun x S1 q => (b.sound A l2 h3 q).mono fun y S2 q => wpIx_ok q) (plain_ix h1)
  | _ => exact fE hc
structure Po (Ω : Wd) where
 lev : Nat
 chk : Bool → List Str → Nm → Option Expr → Bool
 wp : Gam → Store → (Option Int → Store → Prop) → Prop
 sound : ∀ {X : Cx} {r : Nat} {top : Bool} {N : List Str} {nm : Nm} {e : Option Expr} {Γ : Gam} {S : Store} {W : Option Int → Store → Prop}, At Ω X r top N nm → lev ≤ r → chk top N nm e = true → wp Γ S W → PoD X Γ S e W
def Po.no : Po Ω where
 lev := 0
 chk _ _ _ e := match e with | none => true | _ => false
 wp _ S W := W none S
 sound := by
  intro X r top N nm e Γ S W A hl hc hw
  cases e with
  | none => exact po_n hw
  | some e => exact fE hc
def Po.so (a : Ex Ω) : Po Ω where
 lev := a.lev
 chk top N nm e := match e with | some e => a.chk top N nm e | _ => false
 wp Γ S W := a.wp Γ S fun d S1 => match d with | .int i => W (some i) S1 | _ => False
 sound := by
  intro X r top N nm e Γ S W A hl hc hw
  cases e with
  | some e =>
    refine po_s ((a.sound A hl hc hw).mono fun d S1 q => ?_)
    cases d <;> first | exact ⟨_, rfl, q⟩ | exact q.elim
  | none => exact fE hc
theorem PoD.mono {X : Cx} {Γ : Gam} {S : Store} {e : Option Expr} {W W' : Option Int → Store → Prop} (h : PoD X Γ S e W) (k : ∀ c S', W c S' → W' c S') : PoD X Γ S e W' := by
 cases e with
 | none => exact k _ _ h
 | some e => exact Ev.mono h fun d S1 ⟨i, e, w⟩ => ⟨i, e, k _ _ w⟩
def Ex.sl (a : Ex Ω) (lo hi : Po Ω) : Ex Ω where
 lev := max a.lev (max lo.lev hi.lev)
 chk top N nm e := match e with | .Subscript l (.Slice x y none _) _ => a.chk top N nm l && (lo.chk top N nm x && hi.chk top N nm y) | _ => false
 wp Γ S W := a.wp Γ S fun x S1 => lo.wp Γ S1 fun l S2 => hi.wp Γ S2 fun h S3 => wpSl x l h S3 W
 sound := by
  intro X r top N nm e Γ S W A hl hc hw
  obtain ⟨l1, l2⟩ := lv2 hl
  obtain ⟨l2, l3⟩ := lv2 l2
  cases e with
  | Subscript l sl pos =>
    cases sl with
    | Slice x y z p2 =>
      cases z with
      | none =>
        obtain ⟨h1, h2⟩ := and2 hc
        obtain ⟨h2, h3⟩ := and2 h2
        exact ev_slice ((a.sound A l1 h1 hw).mono fun x S1 q => PoD.mono (lo.sound A l2 h2 q) fun l S2 q => PoD.mono (hi.sound A l3 h3 q) fun h S3 q => wpSl_ok q)
      | some _ => exact fE hc
    | _ => exact fE hc
  | _ => exact fE hc
def Ex.call {x : Str} {k n : Nat} {F : Ct} (C : Callee Ω.P Ω.w Ω.K Ω.mg Ω.base x k n F) (as : Ar Ω) : Ex Ω where
 lev := max k as.lev
 chk top N nm e := match e with | .Call (.Name y _) (a :: es) [] _ => (y == x) && (glb nm x && (okN x && as.chk top N nm (a :: es))) | _ => false
 wp Γ S W := as.wp Γ S fun ds S1 => ds.length = n ∧ F ds S1 W
 sound := by
  intro X r top N nm e Γ S W A hl hc hw
  obtain ⟨l1, l2⟩ := lv2 hl
  cases e with
  | Call f es ks pos =>
    cases f with
    | Name y p =>
      match es, ks, hc with
      | a :: es, [], hc =>
        obtain ⟨h1, h2⟩ := and2 hc
        obtain ⟨h2, h3⟩ := and2 h2
        obtain ⟨h3, h4⟩ := and2 h3
        have e : y = x := eq_of_beq h1
        subst e
        have pl := as.plain h4
        rw [List.all_cons] at pl
        obtain ⟨p1, p2⟩ := and2 pl
        have C' : Callee X.prog X.w X.K X.mg X.base y k n F := by rw [A.p, A.w, A.k, A.g, A.b]; exact C
        exact ev_call C' (A.room.mono l1) (as.sound A l2 h4 hw) (A.glb h2) (okN_at h3).1 (star_ok p1 _ _) (any_ok p2 _ _)
      | [], _, hc => exact fE hc
      | _ :: _, _ :: _, hc => exact fE hc
    | _ => exact fE hc
  | _ => exact fE hc
structure Bf where
 x : Str
 id : String
 boot : bootBuiltins x = some (.builtin id)
 wp : List D → Store → WD → Prop
 sound : ∀ {X : Cx} {ds : List D} {S : Store} {W : WD}, X.calm = true → Room 0 X.A → wp ds S W → CalW X (.builtin id) ds S W
def Ex.blt (b : Bf) (hm : Ω.mg b.x = none) (as : Ar Ω) : Ex Ω where
 lev := as.lev
 chk top N nm e := match e with | .Call (.Name y _) (a :: es) [] _ => (y == b.x) && (glb nm b.x && (okN b.x && as.chk top N nm (a :: es))) | _ => false
 wp Γ S W := as.wp Γ S fun ds S1 => b.wp ds S1 W
 sound := by
  intro X r top N nm e Γ S W A hl hc hw
  cases e with
  | Call f es ks pos =>
    cases f with
    | Name y p =>
      match es, ks, hc with
      | a :: es, [], hc =>
        obtain ⟨h1, h2⟩ := and2 hc
        obtain ⟨h2, h3⟩ := and2 h2
        obtain ⟨h3, h4⟩ := and2 h3
        have e : y = b.x := eq_of_beq h1
        subst e
        have pl := as.plain h4
        rw [List.all_cons] at pl
        obtain ⟨p1, p2⟩ := and2 pl
        exact ev_callB (EvA.mono (as.sound A hl h4 hw) fun ds S1 q => b.sound A.calm (A.room.mono (Nat.zero_le _)) q) (by rw [A.g]; exact hm) b.boot (A.glb h2) (okN_at h3).2.2 (okN_at h3).1 (star_ok p1 _ _) (any_ok p2 _ _)
      | [], _, hc => exact fE hc
      | _ :: _, _ :: _, hc => exact fE hc
    | _ => exact fE hc
  | _ => exact fE hc
structure Bc where
 x : Str
 id : String
 boot : bootBuiltins x = some (.type id)
 wp : List D → Store → WD → Prop
 sound : ∀ {X : Cx} {ds : List D} {S : Store} {W : WD}, X.calm = true → Room 0 X.A → wp ds S W → CalW X (.type id) ds S W
def Ex.typ (b : Bc) (hm : Ω.mg b.x = none) (as : Ar Ω) : Ex Ω where
 lev := as.lev
 chk top N nm e := match e with | .Call (.Name y _) (a :: es) [] _ => (y == b.x) && (glb nm b.x && (okN b.x && as.chk top N nm (a :: es))) | _ => false
 wp Γ S W := as.wp Γ S fun ds S1 => b.wp ds S1 W
 sound := by
  intro X r top N nm e Γ S W A hl hc hw
  cases e with
  | Call f es ks pos =>
    cases f with
    | Name y p =>
      match es, ks, hc with
      | a :: es, [], hc =>
        obtain ⟨h1, h2⟩ := and2 hc
        obtain ⟨h2, h3⟩ := and2 h2
        obtain ⟨h3, h4⟩ := and2 h3
        have e : y = b.x := eq_of_beq h1
        subst e
        have pl := as.plain h4
        rw [List.all_cons] at pl
        obtain ⟨p1, p2⟩ := and2 pl
        exact ev_callT (EvA.mono (as.sound A hl h4 hw) fun ds S1 q => b.sound A.calm (A.room.mono (Nat.zero_le _)) q) (by rw [A.g]; exact hm) b.boot (A.glb h2) (okN_at h3).2.2 (okN_at h3).1 (star_ok p1 _ _) (any_ok p2 _ _)
      | [], _, hc => exact fE hc
      | _ :: _, _ :: _, hc => exact fE hc
    | _ => exact fE hc
  | _ => exact fE hc
def Ex.isi (hm : Ω.mg "isinstance" = none) (a : Ex Ω) (T : Ty) (hT : Ω.mg T.nm = none) : Ex Ω where
 lev := a.lev
 chk top N nm e := match e with | .Call (.Name y _) [b, .Name t _] [] _ => (y == ("isinstance" : Str)) && (glb nm "isinstance" && ((t == T.nm) && (glb nm T.nm && (okE b && a.chk top N nm b)))) | _ => false
 wp Γ S W := a.wp Γ S fun d S1 => W (.bl (isD T d)) S1
 sound := by
  intro X r top N nm e Γ S W A hl hc hw
  split at hc
  · rename_i y p b t q pos
    obtain ⟨h1, g2⟩ := and2 hc
    obtain ⟨h2, g3⟩ := and2 g2
    obtain ⟨h3, g4⟩ := and2 g3
    obtain ⟨h4, g5⟩ := and2 g4
    obtain ⟨h5, h6⟩ := and2 g5
    have e : y = "isinstance" := eq_of_beq h1
    subst e
    have e : t = T.nm := eq_of_beq h3
    subst e
    exact ev_isi (Tn := T.id) ((a.sound A hl h6 hw).mono fun d S1 q => by rw [isD_eq]; exact q) T.isT T.boot (by rw [A.g]; exact hm) (by rw [A.g]; exact hT) (A.glb h2) (A.glb h4) T.ok.2 T.ok.1 (star_ok h5 _ _) (star_ok (e := .Name T.nm q) rfl [] _)
  · exact fE hc
end RF
namespace RF
open PySem PySem.Spec L2 DL
open PyProof.Rows
inductive Tg where
 | nm (i : Nat) | tup (is : List Nat)
def setAll : Gam → List Nat → List D → Gam
 | Γ, i :: is, d :: ds => setAll (Γ.set i (some d)) is ds
 | Γ, _, _ => Γ
def Tg.wp : Tg → D → Gam → (Gam → Prop) → Prop
 | .nm i, d, Γ, W => W (Γ.set i (some d))
 | .tup is, .tup ds, Γ, W => ds.length = is.length ∧ W (setAll Γ is ds)
 | .tup _, _, _, _ => False
def Tg.slots : Tg → List Nat
 | .nm i => [i]
 | .tup is => is
def chkNm (top : Bool) (N : List Str) (nm : Nm) (i : Nat) (e : Expr) : Bool := match e with | .Name x _ => (N[i]? == some x) && lcl top nm x | _ => false
def chkNms (top : Bool) (N : List Str) (nm : Nm) : List Nat → List Expr → Bool
 | [], [] => true
 | i :: is, e :: es => chkNm top N nm i e && chkNms top N nm is es
 | _, _ => false
def Tg.chk (t : Tg) (top : Bool) (N : List Str) (nm : Nm) (e : Expr) : Bool := match t with
 | .nm i => chkNm top N nm i e
 | .tup is => match e with | .Tuple es _ _ => chkNms top N nm is es | _ => false
section
variable {Ω : Wd} {X : Cx} {r : Nat} {top : Bool} {N : List Str} {nm : Nm}
theorem bd1_ok (A : At Ω X r top N nm) {i : Nat} {e : Expr} {d : D} {Γ : Gam} {S : Store} {W : Gam → Store → Prop} (hc : chkNm top N nm i e = true) (hw : W (Γ.set i (some d)) S) : BdW X e d Γ S W := by
 cases e with
 | Name x pos =>
   obtain ⟨h1, h2⟩ := and2 hc
   have h1 : N[i]? = some x := eq_of_beq h1
   obtain ⟨l1, l2⟩ := A.lcl h2
   exact bd_name i hw (by rw [A.n]; exact A.nd) (by rw [A.n]; exact h1) l1 l2
 | _ => exact fE hc
theorem nms_cons {i : Nat} {is : List Nat} {es : List Expr} (h : chkNms top N nm (i :: is) es = true) : ∃ x p es', es = .Name x p :: es' ∧ chkNm top N nm i (.Name x p) = true ∧ chkNms top N nm is es' = true := by
 cases es with
 | nil => exact (Bool.false_ne_true h).elim
 | cons e es =>
   obtain ⟨h1, h2⟩ := and2 h
   cases e with
   | Name x p => exact ⟨x, p, es, rfl, h1, h2⟩
   | _ => exact (Bool.false_ne_true h1).elim
theorem nms_nil {es : List Expr} (h : chkNms top N nm [] es = true) : es = [] := by
 cases es with
 | nil => rfl
 | cons e es => exact (Bool.false_ne_true h).elim
theorem bds_ok (A : At Ω X r top N nm) {S : Store} {W : Gam → Store → Prop} : ∀ {is : List Nat} {es : List Expr} {ds : List D} {Γ : Gam}, chkNms top N nm is es = true → ds.length = is.length → W (setAll Γ is ds) S → BdsW X es ds Γ S W
 | [], es, ds, Γ, hc, hl, hw => by
   have e := nms_nil hc
   subst e
   have e : ds = [] := by simpa using hl
   subst e
   exact bds_nil hw
 | i :: is, es, ds, Γ, hc, hl, hw => by
   obtain ⟨x, p, es', rfl, h1, h2⟩ := nms_cons hc
   cases ds with
   | nil => simp at hl
   | cons d ds => exact bds_cons (bd1_ok A h1 (bds_ok A h2 (by simpa using hl) hw)) rfl
theorem nms_env : ∀ {is : List Nat} {es : List Expr}, chkNms top N nm is es = true → ∀ env : Env, (assignEach es env).length = is.length ∧ (assignEach es env).findIdx? (·.1) = none
 | [], es, hc, env => by
   have e := nms_nil hc
   subst e
   exact ⟨rfl, rfl⟩
 | i :: is, es, hc, env => by
   obtain ⟨x, p, es', rfl, h1, h2⟩ := nms_cons hc
   obtain ⟨a, b⟩ := nms_env h2 env
   have e : assignEach (.Name x p :: es') env = (false, assign (.Name x p) env) :: assignEach es' env := rfl
   rw [e]
   refine ⟨by simp [a], ?_⟩
   rw [List.findIdx?_cons, b]
   rfl
theorem Tg.sound (A : At Ω X r top N nm) {t : Tg} {e : Expr} {d : D} {Γ : Gam} {S : Store} {W : Gam → Store → Prop} (hc : t.chk top N nm e = true) (hw : t.wp d Γ fun Γ' => W Γ' S) : BdW X e d Γ S W := by
 cases t with
 | nm i => exact bd1_ok A hc hw
 | tup is =>
   cases e with
   | Tuple es k pos =>
     have hc : chkNms top N nm is es = true := hc
     cases d with
     | tup ds =>
       obtain ⟨hl, hw⟩ : ds.length = is.length ∧ W (setAll Γ is ds) S := hw
       obtain ⟨a, b⟩ := nms_env hc X.env
       exact bd_tup (bds_ok A hc hl hw) A.calm (a.trans hl.symm) b
     | _ => exact hw.elim
   | _ => exact fE hc
end
theorem Sub.setAll {Γ : Gam} : ∀ {is : List Nat} {ds : List D} {Γ' : Gam}, Sub Γ Γ' → (∀ i ∈ is, Γ[i]? = some none) → Sub Γ (RF.setAll Γ' is ds)
 | [], ds, Γ', h, _ => by cases ds <;> exact h
 | i :: is, [], Γ', h, _ => h
 | i :: is, d :: ds, Γ', h, hi => show Sub Γ (RF.setAll (Γ'.set i (some d)) is ds) from Sub.setAll (Γ' := Γ'.set i (some d)) (h.set i (some d) (hi i List.mem_cons_self)) fun j hj => hi j (List.mem_cons_of_mem _ hj)
theorem capt_none {cap : List (Option Nat)} {Γ : Gam} {i : Nat} (h : cap[i]? = some none) : (capt cap Γ)[i]? = some none := by
 unfold capt
 rw [List.getElem?_map, h]; rfl
structure Itb (Ω : Wd) where
 lev : Nat
 chk : Bool → List Str → Nm → Expr → Expr → Bool
 wp : Gam → Store → (List D → Store → Prop) → Prop
 sound : ∀ {X : Cx} {r : Nat} {top : Bool} {N : List Str} {nm : Nm} {tg e : Expr} {Γ : Gam} {S : Store} {W : List D → Store → Prop}, At Ω X r top N nm → lev ≤ r → chk top N nm tg e = true → wp Γ S W → ItW X Γ S tg e W
theorem it_seq {X : Cx} {Γ : Gam} {S : Store} {tg e : Expr} {W : List D → Store → Prop} (h : Ev X Γ S e fun d S1 => match d with | .lst ds => W ds S1 | .tup ds => W ds S1 | _ => False) : ItW X Γ S tg e W := by
 intro pins s σ H O I env st
 refine thn (h pins s σ H O I env st) fun u s1 ⟨v, H1, I1, r1, O1, d, S1, w, st1, ok1, rep⟩ => ?_
 cases rep with
 | @lst a xs ds h1 q1 =>
   cases r1
   obtain ⟨its, rv, p, hz⟩ := I1.list h1.sq
   refine wpAny_pyIter_list p.isList ?_
   refine ⟨s1.heap.objs.size, [s1.heap.objs.size], _, _, H1, rfl, I1.kept (t' := s1.toks) fun b o e => Heap.get?_push_of_some _ e, turn_list a _, ⟨_, Heap.get?_push_size _ rfl, rfl, rfl⟩, fun b hb => ?_, O1, ds, S1, w, st1, ok1, yields_list h1 q1⟩
   have e : b = s1.heap.objs.size := by simpa using hb
   subst e
   exact I1.fpOk (Nat.le_refl _) (I1.hok.fresh (Nat.le_refl _))
 | @tup a xs ds h1 q1 =>
   cases r1
   obtain ⟨its, rv, p, hz⟩ := I1.tuple h1.sq
   refine wpAny_pyIter_tuple (show s1.heap.IsTuple a its.toArray from p) ?_
   refine ⟨s1.heap.objs.size, [s1.heap.objs.size], _, _, H1, rfl, I1.kept (t' := s1.toks) fun b o e => Heap.get?_push_of_some _ e, turn_tuple a _, ⟨_, Heap.get?_push_size _ rfl, rfl, rfl⟩, fun b hb => ?_, O1, ds, S1, w, st1, ok1, yields_tup h1 q1⟩
   have e : b = s1.heap.objs.size := by simpa using hb
   subst e
   exact I1.fpOk (Nat.le_refl _) (I1.hok.fresh (Nat.le_refl _))
 | _ => exact w.elim
variable {Ω : Wd}
def Itb.seq (a : Ex Ω) : Itb Ω where
 lev := a.lev
 chk top N nm _ e := a.chk top N nm e
 wp Γ S W := a.wp Γ S fun d S1 => match d with | .lst ds => W ds S1 | .tup ds => W ds S1 | _ => False
 sound := by
  intro X r top N nm tg e Γ S W A hl hc hw
  exact it_seq (a.sound A hl hc hw)
def Itb.rng1 (hm : Ω.mg "range" = none) (a : Ex Ω) : Itb Ω where
 lev := a.lev
 chk top N nm _ e := match e with | .Call (.Name y _) [b] [] _ => (y == ("range" : Str)) && (glb nm "range" && (okE b && a.chk top N nm b)) | _ => false
 wp Γ S W := a.wp Γ S fun d S1 => match d with | .int j => (-(2 ^ 62) ≤ j ∧ j < 2 ^ 62) ∧ W (upTo 0 j.toNat) S1 | _ => False
 sound := by
  intro X r top N nm tg e Γ S W A hl hc hw
  split at hc
  · rename_i y p b pos
    obtain ⟨h1, g2⟩ := and2 hc
    obtain ⟨h2, g3⟩ := and2 g2
    obtain ⟨h3, h4⟩ := and2 g3
    have e : y = "range" := eq_of_beq h1
    subst e
    refine it_range1 ((a.sound A hl h4 hw).mono fun d S1 q => ?_) (by rw [A.g]; exact hm) (A.glb h2) (star_ok h3 [] _)
    cases d <;> first | exact ⟨_, rfl, q.1.1, q.1.2, q.2⟩ | exact q.elim
  · exact fE hc
structure Cd (Ω : Wd) where
 lev : Nat
 chk : Bool → List Str → Nm → List Expr → Bool
 wp : Gam → Store → (Bool → Store → Prop) → Prop
 sound : ∀ {X : Cx} {r : Nat} {top : Bool} {N : List Str} {nm : Nm} {es : List Expr} {Γ : Gam} {S : Store} {W : Bool → Store → Prop}, At Ω X r top N nm → lev ≤ r → chk top N nm es = true → wp Γ S W → TsA X Γ S es W
def Cd.no : Cd Ω where
 lev := 0
 chk _ _ _ es := match es with | [] => true | _ => false
 wp _ S W := W true S
 sound := by
  intro X r top N nm es Γ S W A hl hc hw
  match es, hc with
  | [], _ => exact hw
  | _ :: _, hc => exact fE hc
@[irreducible] noncomputable def CompC (cap : List (Option Nat)) (Γ : Gam) (elt : Ex Ω) (tg : Tg) (cd : Cd Ω) (W : WD) (ds : List D) (C0 : Store → Prop) (S1 : Store) : Prop :=
  ds.length ≤ 1000000 ∧ ∃ Pv : Nat → List D → Store → Prop, Pv 0 [] S1 ∧ (∀ i acc S', Pv i acc S' → C0 S') ∧
   (∀ i d acc S', ds[i]? = some d → Pv i acc S' → tg.wp d (capt cap Γ) fun Γ2 => cd.wp Γ2 S' fun ok S3 => (ok = true → elt.wp Γ2 S3 fun y S4 => Pv (i + 1) (acc ++ [y]) S4) ∧ (ok = false → Pv (i + 1) acc S3)) ∧
   ∀ acc S', Pv ds.length acc S' → W (.lst acc) S' ∨ W (.loc S'.length) (S' ++ [acc])
abbrev CompW (cap : List (Option Nat)) (Γ : Gam) (elt : Ex Ω) (tg : Tg) (cd : Cd Ω) (W : WD) (ds : List D) (S1 : Store) : Prop := CompC cap Γ elt tg cd W ds (fun _ => True) S1
theorem compC_by {cap : List (Option Nat)} {Γ : Gam} {elt : Ex Ω} {tg : Tg} {cd : Cd Ω} {W : WD} {ds : List D} {C0 : Store → Prop} {S1 : Store} (h : ds.length ≤ 1000000 ∧ ∃ Pv : Nat → List D → Store → Prop, Pv 0 [] S1 ∧ (∀ i acc S', Pv i acc S' → C0 S') ∧
 (∀ i d acc S', ds[i]? = some d → Pv i acc S' → tg.wp d (capt cap Γ) fun Γ2 => cd.wp Γ2 S' fun ok S3 => (ok = true → elt.wp Γ2 S3 fun y S4 => Pv (i + 1) (acc ++ [y]) S4) ∧ (ok = false → Pv (i + 1) acc S3)) ∧
 ∀ acc S', Pv ds.length acc S' → W (.lst acc) S' ∨ W (.loc S'.length) (S' ++ [acc])) : CompC cap Γ elt tg cd W ds C0 S1 := by unfold CompC; exact h
theorem comp_by {cap : List (Option Nat)} {Γ : Gam} {elt : Ex Ω} {tg : Tg} {cd : Cd Ω} {W : WD} {ds : List D} {S1 : Store} (h : ds.length ≤ 1000000 ∧ ∃ Pv : Nat → List D → Store → Prop, Pv 0 [] S1 ∧
 (∀ i d acc S', ds[i]? = some d → Pv i acc S' → tg.wp d (capt cap Γ) fun Γ2 => cd.wp Γ2 S' fun ok S3 => (ok = true → elt.wp Γ2 S3 fun y S4 => Pv (i + 1) (acc ++ [y]) S4) ∧ (ok = false → Pv (i + 1) acc S3)) ∧
 ∀ acc S', Pv ds.length acc S' → W (.lst acc) S') : CompW cap Γ elt tg cd W ds S1 := by
 obtain ⟨hz, Pv, p0, pt, pe⟩ := h
 exact compC_by ⟨hz, Pv, p0, fun _ _ _ _ => trivial, pt, fun acc S' q => .inl (pe acc S' q)⟩
def compChk (N' : List Str) (cap : List (Option Nat)) (elt : Ex Ω) (tg : Tg) (it : Itb Ω) (cd : Cd Ω) (top : Bool) (N : List Str) (nm : Nm) (e : Expr) : Bool := match e with
 | .ListComp x [⟨t, i, cs, 0⟩] sc _ => (sc.kind == .function) && (sc.names.all (fun y => !(y.2 == .cell)) && (freeOk nm sc.names && ((sc.names.all fun y => !(y.2 == .local) || (sc.names.lookup y.1 == some .local)) && (capOk N nm N' sc.names cap N' &&
  (okE i && ((tg.slots.all fun j => cap[j]? == some none) && (decide N'.Nodup && (it.chk top N nm t i && (tg.chk false N' sc.names t && (cd.chk false N' sc.names cs && elt.chk false N' sc.names x))))))))))
 | _ => false
section
variable {X : Cx} {r : Nat} {top : Bool} {N : List Str} {nm : Nm}
theorem look_cell (A : At Ω X r top N nm) {x : Str} (h : nm.lookup x = some .cell ∨ nm.lookup x = some .free) : X.env.scope.names.lookup x = some .cell ∨ X.env.scope.names.lookup x = some .free := by
 rcases h with h | h
 · rcases A.look x _ h with q | ⟨q, _⟩
   · exact .inl q
   · exact nomatch q
 · rcases A.look x _ h with q | ⟨_, q⟩
   · exact .inr q
   · exact .inl q
theorem freeOk_of (A : At Ω X r top N nm) {names : Nm} (h : freeOk nm names = true) : freeOk X.env.scope.names names = true := by
 unfold freeOk
 refine List.all_eq_true.mpr fun y hy => ?_
 by_cases e : y.2 = .free
 · have := look_cell A (freeOk_at h y hy e)
   rcases this with q | q <;> simp [q]
 · simp [e]
theorem capOk_of (A : At Ω X r top N nm) {N' : List Str} {names' : Nm} : ∀ {cap : List (Option Nat)} {t : List Str}, capOk N nm N' names' cap t = true → capOk X.N X.env.scope.names N' names' cap t = true
 | [], [], _ => rfl
 | [], _ :: _, h => by simp [capOk] at h
 | none :: _, [], h => by simp [capOk] at h
 | some _ :: _, [], h => by simp [capOk] at h
 | none :: r, _ :: t, h => by simp only [capOk] at h ⊢; exact capOk_of A h
 | some j :: r, x :: t, h => by
   simp only [capOk, Bool.and_eq_true, Bool.or_eq_true, beq_iff_eq] at h ⊢
   exact ⟨⟨⟨by rw [A.n]; exact h.1.1.1, look_cell A h.1.1.2⟩, h.1.2⟩, capOk_of A h.2⟩
theorem blk_at (A : At Ω X r top N nm) {sc : Scope} {N' : List Str} {C : Addr} {s : Shared} {H : Hp} {ex : List Addr} (hk : sc.kind = .function) (nd : N'.Nodup) : At Ω (blkCx X sc N' C s H ex) r false N' sc.names where
 p := A.p
 w := A.w
 k := A.k
 g := A.g
 b := A.b
 room := A.room
 xe := A.xe
 calm := A.calm
 n := rfl
 nd := nd
 kind := hk
 look := by
  intro x k h
  show (relabel sc X.env).names.lookup x = some k ∨ _
  rw [rk_names, map_lookup, h]
  rcases rk_cases X.env x k with q | ⟨q1, q2⟩
  · exact .inl (congrArg some q)
  · refine .inr ⟨q1, ?_⟩
    show (relabel sc X.env).names.lookup x = some .cell
    rw [rk_names, map_lookup, h]
    exact congrArg some q2
 fn := fun h => nomatch h
theorem comp_turns (A : At Ω X r top N nm) {sc : Scope} {N' : List Str} {cap : List (Option Nat)} {elt : Ex Ω} {tg : Tg} {cd : Cd Ω} {x t : Expr} {cs : List Expr} {Γ : Gam} {W : WD} {ds : List D} {C0 : Store → Prop} {S1 : Store} (le : elt.lev ≤ r) (lc : cd.lev ≤ r) (hk : sc.kind = .function) (nd : N'.Nodup) (hs : (tg.slots.all fun j => cap[j]? == some none) = true)
 (ht : tg.chk false N' sc.names t = true) (hcd : cd.chk false N' sc.names cs = true) (he : elt.chk false N' sc.names x = true) (h : CompC cap Γ elt tg cd W ds C0 S1) : Turns X sc N' cap Γ x t cs W ds C0 S1 := by
 unfold CompC at h
 obtain ⟨hz, Pv, p0, pC, pt, pe⟩ := h
 refine ⟨hz, Pv, p0, pC, fun i d acc S' hd hp C s H ex => ?_, pe⟩
 have B := blk_at A (C := C) (s := s) (H := H) (ex := ex) hk nd
 have sl : ∀ j ∈ tg.slots, (capt cap Γ)[j]? = some none := fun j hj => capt_none (by
  have := List.all_eq_true.mp hs j hj
  exact eq_of_beq this)
 have base := pt i d acc S' hd hp
 have go : ∀ Γ2, (cd.wp Γ2 S' fun ok S3 => (ok = true → elt.wp Γ2 S3 fun y S4 => Pv (i + 1) (acc ++ [y]) S4) ∧ (ok = false → Pv (i + 1) acc S3)) →
  TsA (blkCx X sc N' C s H ex) Γ2 S' cs fun ok S3 => (ok = true → Ev (blkCx X sc N' C s H ex) Γ2 S3 x fun y S4 => Pv (i + 1) (acc ++ [y]) S4) ∧ (ok = false → Pv (i + 1) acc S3) := by
  intro Γ2 q
  have := cd.sound B lc hcd q
  match cs, this with
  | [], this => exact ⟨fun hk => elt.sound B le he (this.1 hk), this.2⟩
  | [c], this => exact Ts.mono this fun ok S3 z => ⟨fun hk => elt.sound B le he (z.1 hk), z.2⟩
  | _ :: _ :: _, this => exact this.elim
 refine Tg.sound B (W := fun Γ2 S2 => Sub (capt cap Γ) Γ2 ∧ TsA (blkCx X sc N' C s H ex) Γ2 S2 cs fun ok S3 => (ok = true → Ev (blkCx X sc N' C s H ex) Γ2 S3 x fun y S4 => Pv (i + 1) (acc ++ [y]) S4) ∧ (ok = false → Pv (i + 1) acc S3)) ht ?_
 cases tg with
 | nm j => exact ⟨(Sub.refl _).set j _ (sl j (by simp [Tg.slots])), go _ base⟩
 | tup is =>
   cases d with
   | tup es => exact ⟨base.1, Sub.setAll (Sub.refl _) sl, go _ base.2⟩
   | _ => exact base.elim
end
def Ex.comp (N' : List Str) (cap : List (Option Nat)) (elt : Ex Ω) (tg : Tg) (it : Itb Ω) (cd : Cd Ω) : Ex Ω where
 lev := max elt.lev (max it.lev cd.lev)
 chk top N nm e := compChk N' cap elt tg it cd top N nm e
 wp Γ S W := it.wp Γ S fun ds S1 => CompW cap Γ elt tg cd W ds S1
 sound := by
  intro X r top N nm e Γ S W A hl hc hw
  obtain ⟨l1, l2⟩ := lv2 hl
  obtain ⟨l2, l3⟩ := lv2 l2
  unfold compChk at hc
  split at hc
  · rename_i x t i cs sc pos
    obtain ⟨h1, hc⟩ := and2 hc
    obtain ⟨h2, hc⟩ := and2 hc
    obtain ⟨h3, hc⟩ := and2 hc
    obtain ⟨h4, hc⟩ := and2 hc
    obtain ⟨h5, hc⟩ := and2 hc
    obtain ⟨h6, hc⟩ := and2 hc
    obtain ⟨h7, hc⟩ := and2 hc
    obtain ⟨h8, hc⟩ := and2 hc
    obtain ⟨h9, hc⟩ := and2 hc
    obtain ⟨h10, hc⟩ := and2 hc
    obtain ⟨h11, h12⟩ := and2 hc
    have hk : sc.kind = .function := eq_of_beq h1
    refine ev_comp N' cap (ItW.toC (ItW.mono (it.sound A l2 h9 hw) fun ds S1 q => comp_turns A l1 l3 hk (of_decide_eq_true h8) h7 h10 h11 h12 q)) A.xe A.calm hk (fun y hy e => ?_) (freeOk_of A h3) (fun y hy e => ?_) (capOk_of A h5) (fold_ok h6 _)
    · have := List.all_eq_true.mp h2 y hy
      simp [e] at this
    · have := List.all_eq_true.mp h4 y hy
      simpa [e] using this
  · exact fE hc
end RF
namespace RF
open PySem PySem.Spec L2 DL
open PyProof.Rows
variable {Ω : Wd}
theorem swapsS_ok {e : Expr} (h : noC e = true) (t : Expr) (l : Nat) (env : Env) : swapsWithSole [t] e l env = pure false := by
 unfold swapsWithSole
 exact swaps_ok h (some t) l env
structure Sm (Ω : Wd) where
 lev : Nat
 chk : Bool → List Str → Nm → Stmt → Bool
 wp : Gam → Store → DL.Fin → Prop
 sound : ∀ {X : Cx} {r : Nat} {top : Bool} {N : List Str} {nm : Nm} {st : Stmt} {Γ : Gam} {S : Store} {W : DL.Fin}, At Ω X r top N nm → lev ≤ r → chk top N nm st = true → wp Γ S W → Rn X Γ S st W
structure Bl (Ω : Wd) where
 lev : Nat
 chk : Bool → List Str → Nm → List Stmt → Bool
 wp : Gam → Store → DL.Fin → Prop
 sound : ∀ {X : Cx} {r : Nat} {top : Bool} {N : List Str} {nm : Nm} {sts : List Stmt} {Γ : Gam} {S : Store} {W : DL.Fin}, At Ω X r top N nm → lev ≤ r → chk top N nm sts = true → wp Γ S W → Rns X Γ S sts W
def Bl.nil : Bl Ω where
 lev := 0
 chk _ _ _ sts := match sts with | [] => true | _ => false
 wp Γ S W := W.nx Γ S
 sound := by
  intro X r top N nm sts Γ S W A hl hc hw
  match sts, hc with
  | [], _ => exact rs_nil hw
  | _ :: _, hc => exact fE hc
def Bl.cons (s : Sm Ω) (b : Bl Ω) : Bl Ω where
 lev := max s.lev b.lev
 chk top N nm sts := match sts with | st :: sts => s.chk top N nm st && b.chk top N nm sts | _ => false
 wp Γ S W := s.wp Γ S { W with nx := fun Γ1 S1 => b.wp Γ1 S1 W }
 sound := by
  intro X r top N nm sts Γ S W A hl hc hw
  obtain ⟨l1, l2⟩ := lv2 hl
  match sts, hc with
  | st :: sts, hc =>
    obtain ⟨h1, h2⟩ := and2 hc
    exact rs_cons (Rn.mono (s.sound A l1 h1 hw) (fun G S1 q => b.sound A l2 h2 q) (fun _ _ q => q) (fun _ _ q => q) fun _ _ q => q)
  | [], hc => exact fE hc
def Sm.ret (a : Ex Ω) : Sm Ω where
 lev := a.lev
 chk top N nm st := match st with | .Return (some e) _ => a.chk top N nm e | _ => false
 wp Γ S W := a.wp Γ S W.rt
 sound := by
  intro X r top N nm st Γ S W A hl hc hw
  cases st with
  | Return o pos =>
    cases o with
    | some e => exact r_ret (a.sound A hl hc hw)
    | none => exact fE hc
  | _ => exact fE hc
def Sm.expr (a : Ex Ω) : Sm Ω where
 lev := a.lev
 chk top N nm st := match st with | .Expr e _ => noC e && a.chk top N nm e | _ => false
 wp Γ S W := a.wp Γ S fun _ S1 => W.nx Γ S1
 sound := by
  intro X r top N nm st Γ S W A hl hc hw
  cases st with
  | Expr e pos =>
    obtain ⟨h1, h2⟩ := and2 hc
    exact r_expr (a.sound A hl h2 hw) (swaps_ok h1 _ _ _)
  | _ => exact fE hc
def Sm.ite (c : Te Ω) (a b : Bl Ω) : Sm Ω where
 lev := max c.lev (max a.lev b.lev)
 chk top N nm st := match st with | .If t xs ys _ => c.chk top N nm t && (a.chk top N nm xs && b.chk top N nm ys) | _ => false
 wp Γ S W := c.wp Γ S fun k S1 => (k = true → a.wp Γ S1 W) ∧ (k = false → b.wp Γ S1 W)
 sound := by
  intro X r top N nm st Γ S W A hl hc hw
  obtain ⟨l1, l2⟩ := lv2 hl
  obtain ⟨l2, l3⟩ := lv2 l2
  cases st with
  | If t xs ys pos =>
    obtain ⟨h1, h2⟩ := and2 hc
    obtain ⟨h2, h3⟩ := and2 h2
    exact r_if (Ts.mono (c.sound A l1 h1 hw) fun k S1 q => ⟨fun hk => a.sound A l2 h2 (q.1 hk), fun hk => b.sound A l3 h3 (q.2 hk)⟩)
  | _ => exact fE hc
def Sm.set (i : Nat) (a : Ex Ω) : Sm Ω where
 lev := a.lev
 chk top N nm st := match st with | .Assign [.Name x _] e _ => (N[i]? == some x) && (lcl top nm x && (noC e && a.chk top N nm e)) | _ => false
 wp Γ S W := a.wp Γ S fun d S1 => W.nx (Γ.set i (some d)) S1
 sound := by
  intro X r top N nm st Γ S W A hl hc hw
  split at hc
  · obtain ⟨h1, h2⟩ := and2 hc
    obtain ⟨h2, h3⟩ := and2 h2
    obtain ⟨h3, h4⟩ := and2 h3
    obtain ⟨l1, l2⟩ := A.lcl h2
    exact r_set i (a.sound A hl h4 hw) (by rw [A.n]; exact A.nd) (by rw [A.n]; exact eq_of_beq h1) l1 (swaps_ok h3 _ _ _) l2
  · exact fE hc
def Sm.setC (i : Nat) (N' : List Str) (cap : List (Option Nat)) (elt : Ex Ω) (tg : Tg) (it : Itb Ω) (cd : Cd Ω) : Sm Ω where
 lev := max elt.lev (max it.lev cd.lev)
 chk top N nm st := match st with | .Assign [.Name x p] e _ => (N[i]? == some x) && (lcl top nm x && (top && (compChk N' cap elt tg it cd top N nm e))) | _ => false
 wp Γ S W := it.wp Γ S fun ds S1 => CompW cap Γ elt tg cd (fun d S2 => W.nx (Γ.set i (some d)) S2) ds S1
 sound := by
  intro X r top N nm st Γ S W A hl hc hw
  split at hc
  · rename_i x p e spos
    obtain ⟨k1, q1⟩ := and2 hc
    obtain ⟨k2, q2⟩ := and2 q1
    obtain ⟨k0, hcomp⟩ := and2 q2
    obtain ⟨l1, l2⟩ := A.lcl k2
    have hN : X.N[i]? = some x := by rw [A.n]; exact eq_of_beq k1
    have nd : X.N.Nodup := by rw [A.n]; exact A.nd
    have hc2 := hcomp
    obtain ⟨le, l3⟩ := lv2 hl
    obtain ⟨li, lc⟩ := lv2 l3
    unfold compChk at hc2
    split at hc2
    · rename_i x' t i' cs sc pos
      obtain ⟨h1, hc⟩ := and2 hc2
      obtain ⟨h2, hc⟩ := and2 hc
      obtain ⟨h3, hc⟩ := and2 hc
      obtain ⟨h4, hc⟩ := and2 hc
      obtain ⟨h5, hc⟩ := and2 hc
      obtain ⟨h6, hc⟩ := and2 hc
      obtain ⟨h7, hc⟩ := and2 hc
      obtain ⟨h8, hc⟩ := and2 hc
      obtain ⟨h9, hc⟩ := and2 hc
      obtain ⟨h10, hc⟩ := and2 hc
      obtain ⟨h11, h12⟩ := and2 hc
      have hk : sc.kind = .function := eq_of_beq h1
      by_cases hb : (X.env.blockKind == .function && X.env.kindOf x == some .local && p.line == (Expr.ListComp x' [⟨t, i', cs, 0⟩] sc pos).pos.line && !(sc.names.any fun (n, k) => n == x && (k == .local || k == .cell))) = true
      · refine r_setComp i N' cap (ItW.toC (ItW.mono (it.sound A li h9 hw) fun ds S1 q => comp_turns A le lc hk (of_decide_eq_true h8) h7 h10 h11 h12 q)) nd hN l1 ?_ l2 A.xe A.calm hk (fun y hy e => ?_) (freeOk_of A h3) (fun y hy e => ?_) (capOk_of A h5) (fold_ok h6 _)
        · show (pure (X.env.blockKind == .function && X.env.kindOf x == some .local && p.line == (Expr.ListComp x' [⟨t, i', cs, 0⟩] sc pos).pos.line && !(sc.names.any fun (n, k) => n == x && (k == .local || k == .cell))) : Sem Bool) = pure true
          rw [hb]
        · have := List.all_eq_true.mp h2 y hy
          simp [e] at this
        · have := List.all_eq_true.mp h4 y hy
          simpa [e] using this
      · have hb : _ = false := Bool.eq_false_iff.mpr hb
        refine r_set i ((Ex.comp N' cap elt tg it cd).sound A hl hcomp hw) nd hN l1 ?_ l2
        show (pure (X.env.blockKind == .function && X.env.kindOf x == some .local && p.line == (Expr.ListComp x' [⟨t, i', cs, 0⟩] sc pos).pos.line && !(sc.names.any fun (n, k) => n == x && (k == .local || k == .cell))) : Sem Bool) = pure false
        rw [hb]
    · exact (Bool.false_ne_true hc2).elim
  · exact fE hc
def Sm.setIx (o i a : Ex Ω) : Sm Ω where
 lev := max a.lev (max o.lev i.lev)
 chk top N nm st := match st with | .Assign [.Subscript x y _] e _ => noC e && (okE y && (a.chk top N nm e && (o.chk top N nm x && i.chk top N nm y))) | _ => false
 wp Γ S W := a.wp Γ S fun d S1 => o.wp Γ S1 fun x S2 => i.wp Γ S2 fun y S3 => match x, y with | .loc k, .int n => ∃ ds j, S3[k]? = some ds ∧ ixN ds.length n = some j ∧ W.nx Γ (S3.set k (ds.set j d)) | _, _ => False
 sound := by
  intro X r top N nm st Γ S W A hl hc hw
  obtain ⟨l1, l2⟩ := lv2 hl
  obtain ⟨l2, l3⟩ := lv2 l2
  split at hc
  · rename_i x y p e spos
    obtain ⟨h1, hc⟩ := and2 hc
    obtain ⟨h2, hc⟩ := and2 hc
    obtain ⟨h3, hc⟩ := and2 hc
    obtain ⟨h4, h5⟩ := and2 hc
    refine r_setIx ((a.sound A l1 h3 hw).mono fun d S1 q => (o.sound A l2 h4 q).mono fun x S2 q => (i.sound A l3 h5 q).mono fun y S3 q => ?_) ?_ (swapsS_ok h1 _ _ _) ?_ rfl
    · cases x <;> first | exact q.elim | (cases y <;> first | exact q.elim | (obtain ⟨ds, j, a, b, c⟩ := q; exact ⟨_, _, ds, j, rfl, rfl, a, b, c⟩))
    · intro v
      cases y <;> first | rfl | exact (Bool.false_ne_true h2).elim
    · rfl
  · exact fE hc
theorem r_unpack {X : Cx} {Γ : Gam} {S : Store} {tg e : Expr} {pos : Pos} {W : DL.Fin} (h : Ev X Γ S e fun d S1 => BdW X tg d Γ S1 W.nx) (hs : swapsWithSole [tg] e pos.line X.env = pure false) (hw : swappedStores [tg] e X.env = pure none) (h1 : (assignEach [tg] X.env).map (·.2) = [assign tg X.env]) : Rn X Γ S (.Assign [tg] e pos) W := by
 intro pins s σ H O I env ok
 refine wpAny_Assign_stores (thn (h pins s σ H O I env ok) fun u s1 ⟨v, H1, I1, r1, O1, d, S1, w1, st1, ok1, rep1⟩ => ?_) hs hw
 rw [h1]
 show wpAny _ _ (assign tg X.env u) _ _ _
 refine thn (w1 pins s1 σ H1 O1 v u I1 (env.mono st1) ok1 rep1 r1) fun _ s2 ⟨σ', H', I', q⟩ => ⟨σ', H', I', QN.pre st1 q⟩
def noTup : Expr → Bool
 | .Tuple .. => false
 | e => noC e
def Sm.unpack (t : List Nat) (a : Ex Ω) : Sm Ω where
 lev := a.lev
 chk top N nm st := match st with | .Assign [.Tuple es k p] e _ => noTup e && ((Tg.tup t).chk top N nm (.Tuple es k p) && a.chk top N nm e) | _ => false
 wp Γ S W := a.wp Γ S fun d S1 => (Tg.tup t).wp d Γ fun Γ1 => W.nx Γ1 S1
 sound := by
  intro X r top N nm st Γ S W A hl hc hw
  split at hc
  · rename_i es k p e spos
    obtain ⟨h1, hc⟩ := and2 hc
    obtain ⟨h2, h3⟩ := and2 hc
    have hnc : noC e = true := by cases e <;> first | rfl | exact (Bool.false_ne_true h1).elim
    refine r_unpack ((a.sound A hl h3 hw).mono fun d S1 q => Tg.sound A (W := W.nx) h2 q) (swapsS_ok hnc _ _ _) ?_ rfl
    cases e <;> first | rfl | exact (Bool.false_ne_true h1).elim
  · exact fE hc
@[irreducible] noncomputable def ForW (Γ : Gam) (tg : Tg) (body : Bl Ω) (W : DL.Fin) (ds : List D) (S1 : Store) : Prop :=
  ∃ Pv : Nat → Gam → Store → Prop, Pv 0 Γ S1 ∧ (∀ i d Γ' S', ds[i]? = some d → Pv i Γ' S' → tg.wp d Γ' fun Γ2 => body.wp Γ2 S' { W with nx := Pv (i + 1), ct := Pv (i + 1), bk := W.nx }) ∧ (∀ Γ' S', Pv ds.length Γ' S' → W.nx Γ' S')
theorem for_by {Γ : Gam} {tg : Tg} {body : Bl Ω} {W : DL.Fin} {ds : List D} {S1 : Store} (h : ∃ Pv : Nat → Gam → Store → Prop, Pv 0 Γ S1 ∧ (∀ i d Γ' S', ds[i]? = some d → Pv i Γ' S' → tg.wp d Γ' fun Γ2 => body.wp Γ2 S' { W with nx := Pv (i + 1), ct := Pv (i + 1), bk := W.nx }) ∧ (∀ Γ' S', Pv ds.length Γ' S' → W.nx Γ' S')) : ForW Γ tg body W ds S1 := by unfold ForW; exact h
def Sm.for (tg : Tg) (it : Itb Ω) (body : Bl Ω) : Sm Ω where
 lev := max it.lev body.lev
 chk top N nm st := match st with | .For t i b [] _ => okE i && (tg.chk top N nm t && (it.chk top N nm t i && body.chk top N nm b)) | _ => false
 wp Γ S W := it.wp Γ S fun ds S1 => ForW Γ tg body W ds S1
 sound := by
  intro X r top N nm st Γ S W A hl hc hw
  obtain ⟨l1, l2⟩ := lv2 hl
  split at hc
  · rename_i t i b pos
    obtain ⟨h1, hc⟩ := and2 hc
    obtain ⟨h2, hc⟩ := and2 hc
    obtain ⟨h3, h4⟩ := and2 hc
    refine r_for (ItW.mono (it.sound A l1 h3 hw) fun ds S1 q => ?_) (by rw [A.xe]; exact PassesOwn.never) A.calm (fold_ok h1 _)
    unfold ForW at q
    obtain ⟨Pv, p0, pt, pe⟩ := q
    refine ⟨Pv, p0, fun i d Γ' S' hd hp => BdW.mono (Tg.sound A (W := fun Γ2 S2 => body.wp Γ2 S2 { W with nx := Pv (i + 1), ct := Pv (i + 1), bk := W.nx }) h2 (pt i d Γ' S' hd hp)) fun Γ2 S2 q => body.sound A l2 h4 q, pe⟩
  · exact fE hc
def chkFn (N ps : List Str) (sm : Stmt) (k : Nat) (body : Bl Ω) : Bool :=
 ((defScope sm).kind == .function) && (!(defScope sm).isCoroutine && (!(defScope sm).isGenerator && (decide N.Nodup && (decide (N.take ps.length = ps) && ((ps.all fun x => (defScope sm).names.lookup x == some .local || (defScope sm).names.lookup x == some .cell) &&
   (((defScope sm).names.all fun y => !(y.2 == .free)) && (Nat.ble body.lev k && body.chk true N (defScope sm).names (defBody sm))))))))
theorem fn_rf {x qual : Str} {sm : Stmt} {f : Addr} {fd : FuncData} {N ps : List Str} {k : Nat} {F : Ct} (FF : Fun Ω.K x qual sm f fd) (body : Bl Ω) (hc : chkFn N ps sm k body = true)
 (vc : ∀ (ds : List D) (S : Store) (W : WD), F ds S W → ds.length = ps.length → body.wp (ds.map some ++ List.replicate (N.length - ds.length) none) S { nx := fun _ S1 => W .non S1, rt := W }) : FnOk Ω.P Ω.w Ω.K Ω.mg Ω.base CX0 (k + 1) f fd ps (spC Ω.K ps.length F) := by
 obtain ⟨h1, hc⟩ := and2 hc
 obtain ⟨h2, hc⟩ := and2 hc
 obtain ⟨h3, hc⟩ := and2 hc
 obtain ⟨h4, hc⟩ := and2 hc
 obtain ⟨h5, hc⟩ := and2 hc
 obtain ⟨h6, hc⟩ := and2 hc
 obtain ⟨h7, hc⟩ := and2 hc
 obtain ⟨h8, h9⟩ := and2 hc
 have nd : N.Nodup := of_decide_eq_true h4
 have sc : FnScope N ps (defScope sm) := ⟨eq_of_beq h1, nt h2, nt h3, nd, of_decide_eq_true h5, fun x hx => by
  have := List.all_eq_true.mp h6 x hx
  simpa using this, fun y hy e => by
  have := List.all_eq_true.mp h7 y hy
  simp [e] at this⟩
 refine fn_ok FF sc fun cdv A outer s H E ds S W hr hl h => ?_
 refine body.sound (r := k) (top := true) (N := N) (nm := (defScope sm).names) ⟨rfl, rfl, rfl, rfl, rfl, hr, rfl, rfl, rfl, nd, sc.kind, fun x kk h => .inl h, fun _ _ => rfl⟩ (Nat.le_of_ble_eq_true h8) h9 (vc ds S W h hl)
theorem callee {x qual : Str} {sm : Stmt} {f : Addr} {fd : FuncData} {ps : List Str} {k n : Nat} {F : Ct} (FF : Fun Ω.K x qual sm f fd) (h : FnOk Ω.P Ω.w Ω.K Ω.mg Ω.base CX0 k f fd ps (spC Ω.K n F)) (hm : Ω.mg x = some (.ref f)) (b : Binds Ω.K fd ps []) : Callee Ω.P Ω.w Ω.K Ω.mg Ω.base x k n F := ⟨f, fd, ps, h, hm, FF.kp, b⟩
end RF
namespace RF
open PySem PySem.Spec L2 DL
open PyProof.Rows
def bLen : Bf where
 x := "len"
 id := "len"
 boot := by decide +kernel
 wp ds S W := match ds with
  | [.tup ds] => W (.int ds.length) S
  | [.lst ds] => W (.int ds.length) S
  | [.loc k] => ∃ ds, S[k]? = some ds ∧ W (.int ds.length) S
  | _ => False
 sound := by
  intro X ds S W hc hr h
  split at h
  · exact k_lenT h
  · exact k_lenL h
  · obtain ⟨ds, h1, h2⟩ := h; exact k_lenO h1 h2
  · exact h.elim
def bAll : Bf where
 x := "all"
 id := "all"
 boot := by decide +kernel
 wp ds S W := match ds with
  | [.lst ds] => ∃ bs : List Bool, ds = bs.map .bl ∧ W (.bl (bs.all id)) S
  | _ => False
 sound := by
  intro X ds S W hc hr h
  split at h
  · obtain ⟨bs, rfl, h⟩ := h; exact k_all h hc
  · exact h.elim
def tTuple : Bc where
 x := "tuple"
 id := "tuple"
 boot := by decide +kernel
 wp ds S W := match ds with
  | [.lst ds] => W (.tup ds) S
  | [.loc k] => ∃ ds, S[k]? = some ds ∧ W (.tup ds) S
  | _ => False
 sound := by
  intro X ds S W hc hr h
  split at h
  · exact k_tupL h
  · obtain ⟨ds, h1, h2⟩ := h; exact k_tupO h1 h2
  · exact h.elim
def tInt : Bc where
 x := "int"
 id := "int"
 boot := by decide +kernel
 wp ds S W := match ds with
  | [.int i] => W (.int i) S
  | [.bl k] => W (.int (if k then 1 else 0)) S
  | _ => False
 sound := by
  intro X ds S W hc hr h
  split at h
  · refine calW_of call_int1 fun O H vs st r => ?_
    obtain ⟨v, rfl, r'⟩ := reps1 r
    cases r'
    exact .inl ⟨_, rfl, QG.here h st (.int _)⟩
  · refine calW_of call_int1 fun O H vs st r => ?_
    obtain ⟨v, rfl, r'⟩ := reps1 r
    cases r'
    exact .inr ⟨_, rfl, QG.here h st (.int _)⟩
  · exact h.elim
section
variable {X : Cx} {Γ : Gam} {S : Store} {e : Expr} {pos : Pos}
theorem it_enum {elts : List Expr} {k : Nat} {tp p : Pos} {W : List D → Store → Prop} (h : Ev X Γ S e fun d S1 => match d with | .lst ds => W (ds.mapIdx fun i d => .tup [.int i, d]) S1 | .tup ds => W (ds.mapIdx fun i d => .tup [.int i, d]) S1 | _ => False) (hm : X.mg "enumerate" = none) (hg : Gl X "enumerate") (hs : starEach [e] X.env = [(false, eval e X.env)]) :
 ItW X Γ S (.Tuple elts k tp) (.Call (.Name "enumerate" p) [e] [] pos) W := by
 intro pins s σ H O I env st
 refine Call_ (ld_blt I hg hm boot_enumerate (PyProof.Rows.callWith_type1 (thn (pa_cons h.pe pa_nil hs pos pins s σ H (fun vs H' => ∃ v, vs = [v] ∧ QG X.K O H (fun d S1 => match d with | .lst ds => W (ds.mapIdx fun i d => .tup [.int i, d]) S1 | .tup ds => W (ds.mapIdx fun i d => .tup [.int i, d]) S1 | _ => False) v H') I ⟨O, env, st, fun v H' q => ⟨v, rfl, q⟩⟩) fun us s1 ⟨vs, H1, I1, r1, v, ev, O1, d, S1, w, st1, ok1, rep⟩ => ?_) hs rfl))
 subst ev
 obtain ⟨u, rfl, ru⟩ := vals1 r1
 cases rep with
 | @lst a xs ds h1 q1 =>
   cases ru
   obtain ⟨its, rv, pl, hz⟩ := I1.list h1.sq
   refine call_enumerate_list pl.isList fun h' he hi _ kp => enum_it (kList X.prog X.w X.K) I1 he hi kp ⟨O1, _, S1, w, st1, ok1, yields_enum _ fun O' H' cv => ⟨xs, (h1.conv cv).sq, q1.conv cv⟩⟩
 | @tup a xs ds h1 q1 =>
   cases ru
   obtain ⟨its, rv, pl, hz⟩ := I1.tuple h1.sq
   obtain ⟨⟨c, dct, dt, sl⟩, hl, hc, n, hd⟩ := pl
   replace hc : c = .type "tuple" := hc
   replace hd : dt = .seq its.toArray n := hd
   subst hc hd
   refine callType_new F.called_enumerate (by decide) (F.typeCall_enumerate_1 _) (F.newCall_enumerate_1 _) (fun obj => F.args_object_init_2 obj _) F.entry_enumerate_new (enum_newT a its.toArray n dct sl) ⟨hl, ?_⟩
   have hz : (s1.heap.push { cls := .type "tuple_iterator", data := .fields #[.ref a, .int 0 0] }).objs.size = s1.heap.objs.size + 1 := Heap.size_push ..
   show _ ∧ _
   rw [hz]
   have he : IsEnum ((s1.heap.push { cls := .type "tuple_iterator", data := .fields #[.ref a, .int 0 0] }).push { cls := .type "enumerate", data := .fields #[.none, .bool false, .ref s1.heap.objs.size, rawInt 0, .none, .none] }) (s1.heap.objs.size + 1) s1.heap.objs.size 0 .none := by
    have := Heap.get?_push_size (s1.heap.push { cls := .type "tuple_iterator", data := .fields #[.ref a, .int 0 0] }) (o := { cls := .type "enumerate", data := .fields #[.none, .bool false, .ref s1.heap.objs.size, rawInt 0, .none, .none] }) rfl
    rw [hz] at this
    exact this
   have hi : Heap.IsTupleIter ((s1.heap.push { cls := .type "tuple_iterator", data := .fields #[.ref a, .int 0 0] }).push { cls := .type "enumerate", data := .fields #[.none, .bool false, .ref s1.heap.objs.size, rawInt 0, .none, .none] }) s1.heap.objs.size a 0 :=
    ⟨_, Heap.get?_push_of_some _ (Heap.get?_push_size _ rfl), rfl, rfl⟩
   exact ⟨⟨_, he, rfl⟩, enum_it (kTup X.prog X.w X.K) I1 he hi (fun b o e => Heap.get?_push_of_some _ (Heap.get?_push_of_some _ e)) ⟨O1, _, S1, w, st1, ok1, yields_enum _ fun O' H' cv => ⟨xs, (h1.conv cv).sq, q1.conv cv⟩⟩⟩
 | _ => exact w.elim
end
variable {Ω : Wd}
def Itb.enm (hm : Ω.mg "enumerate" = none) (a : Ex Ω) : Itb Ω where
 lev := a.lev
 chk top N nm tg e := match tg, e with | .Tuple .., .Call (.Name y _) [b] [] _ => (y == ("enumerate" : Str)) && (glb nm "enumerate" && (okE b && a.chk top N nm b)) | _, _ => false
 wp Γ S W := a.wp Γ S fun d S1 => match d with | .lst ds => W (ds.mapIdx fun i d => .tup [.int i, d]) S1 | .tup ds => W (ds.mapIdx fun i d => .tup [.int i, d]) S1 | _ => False
 sound := by
  intro X r top N nm tg e Γ S W A hl hc hw
  split at hc
  · obtain ⟨h1, h2⟩ := and2 hc
    obtain ⟨h2, h3⟩ := and2 h2
    obtain ⟨h3, h4⟩ := and2 h3
    have e := eq_of_beq h1
    subst e
    exact it_enum (a.sound A hl h4 hw) (by rw [A.g]; exact hm) (A.glb h2) (star_ok h3 [] _)
  · exact fE hc
def Itb.zip (hm : Ω.mg "zip" = none) (a b : Ex Ω) : Itb Ω where
 lev := max a.lev b.lev
 chk top N nm tg e := match tg, e with | .Tuple .., .Call (.Name y _) [l, r] [] _ => (y == ("zip" : Str)) && (glb nm "zip" && ((okE l && okE r) && (a.chk top N nm l && b.chk top N nm r))) | _, _ => false
 wp Γ S W := a.wp Γ S fun d S1 => b.wp Γ S1 fun d' S2 => match d, d' with | .tup ds, .tup es => W (List.zipWith (fun x y => .tup [x, y]) ds es) S2 | _, _ => False
 sound := by
  intro X r top N nm tg e Γ S W A hl hc hw
  obtain ⟨l1, l2⟩ := lv2 hl
  split at hc
  · obtain ⟨h1, h2⟩ := and2 hc
    obtain ⟨h2, h3⟩ := and2 h2
    obtain ⟨h3, h4⟩ := and2 h3
    obtain ⟨h5, h6⟩ := and2 h3
    obtain ⟨h7, h8⟩ := and2 h4
    have e := eq_of_beq h1
    subst e
    refine it_zipTT ((a.sound A l1 h7 hw).mono fun d S1 q => (b.sound A l2 h8 q).mono fun d' S2 q => ?_) (by rw [A.g]; exact hm) (A.glb h2) (star_ok h5 _ _) (star_ok h6 [] _)
    cases d <;> first | exact q.elim | (cases d' <;> first | exact ⟨_, _, rfl, rfl, q⟩ | exact q.elim)
  · exact fE hc
end RF
namespace RF
theorem ff {P : Prop} (h : false = true) : P := (Bool.false_ne_true h).elim
theorem tf {P : Prop} (h : true = false) : P := (Bool.false_ne_true h.symm).elim
end RF
namespace RF
open PySem PySem.Spec L2 DL
open PyProof.Rows
abbrev Cal (Ω : Wd) (x : Str) (k n : Nat) (F : Ct) : Prop := Callee Ω.P Ω.w Ω.K Ω.mg Ω.base x k n F
abbrev Ok (Ω : Wd) (k : Nat) (f : Addr) (fd : FuncData) (ps : List Str) (F : Ct) : Prop := FnOk Ω.P Ω.w Ω.K Ω.mg Ω.base CX0 k f fd ps (spC Ω.K ps.length F)
def c_law : Ct := fun ds S W => ∃ ns, ds = [.lst (List.map .int ns)] ∧ ns.length ≤ 63 ∧ (∀ S', W (.bl true) S') ∧ S = []
theorem law_sp {K : PySem.W.Frag} {H : Hp} {a : Addr} {ns : List Int} {E : XK} (hl : ns.length ≤ 63) (hS : SqL K H a (ns.map V.int)) : spC K 1 c_law [.ref a] H (fun v _ => v = .bl true) E := by
 refine ⟨⟨[], []⟩, [.lst (ns.map .int)], [], fun d _ => d = .bl true, rfl, .cons (.lst (xs := ns.map V.int) ?_ (Reps.of_ints ns)) .nil, ?_, ⟨ns, rfl, hl, fun _ => rfl, rfl⟩, fun v H' q => ?_⟩
 · rcases hS with h | h
   · exact .inl ⟨fun z => by rcases z with z | z <;> exact absurd (show a ∈ ([] : List Addr) from z) (by simp), h⟩
   · exact .inr (.inr h)
 · exact ⟨List.nodup_nil, rfl, fun k a ds e => by simp at e, fun a h => absurd (show a ∈ ([] : List Addr) from h) (by simp), fun a h => absurd (show a ∈ ([] : List Addr) from h) (by simp)⟩
 · obtain ⟨O', d, S', w, _, _, r⟩ := q
   subst w
   cases r
   rfl
theorem walk {lev : Nat} {x : Str} {l : PySem.W.OpenLaw} {q : Program} {loose : List Str} {XP : (Str → Option Value) → Heap → Prop} {YP : World → Heap → Prop} {d : DefRec} {K : Params → PySem.W.Frag} (hn : l.most = some 63) (hdf : d.params.defaults = []) (hr : Room lev callerA)
 (hY : ∀ (w : World) (h : Heap), YP w h → (K w.params).In h)
 (F : ∀ (w : World) (mg : Str → Option Value) (fa : Addr) (h : Heap), (K w.params).In h → h.Ns mainGlobals mg → mg d.name = some (.ref fa) →
  ∃ fd : FuncData, (∀ (s : Shared) (u : Value), BindsTo s fd ⟨[u], []⟩ [(x, u)]) ∧ ∀ base : Heap, (K w.params).In base → base.Ns mainGlobals mg → FnOk l.prog w (K w.params) mg base CX0 lev fa fd [x] (spC (K w.params) 1 c_law)) :
 PySem.W.WalkO q loose XP YP l.row.toRowW d [] (fun f vs => PySem.call f vs) :=
 L2.walk_of (n := 63) (k := lev) (x := x) (CX := fun _ => CX0) (sp := fun w => spC (K w.params) 1 c_law) hn (by decide) hdf hr hY F (fun _ _ a ns hl _ hS => law_sp hl hS) fun _ _ _ _ _ z => z
theorem Tg.mono {t : Tg} {d : D} {Γ : Gam} {W W' : Gam → Prop} (h : t.wp d Γ W) (k : ∀ G, W G → W' G) : t.wp d Γ W' := by
 cases t with
 | nm i => exact k _ h
 | tup is =>
   cases d with
   | tup ds => exact ⟨h.1, k _ h.2⟩
   | _ => exact h.elim
section
variable {Ω : Wd} {cap : List (Option Nat)} {Γ : Gam} {elt : Ex Ω} {tg : Tg} {cd : Cd Ω} {W : WD} {ds : List D} {S1 : Store}
theorem cm_map (f : D → D) (hz : ds.length ≤ 1000000) (h : ∀ (i : Nat) (d : D), ds[i]? = some d → ∀ Q : WD, Q (f d) S1 → tg.wp d (capt cap Γ) fun Γ2 => elt.wp Γ2 S1 Q) (w : W (.lst (ds.map f)) S1) : CompW cap Γ elt tg (Cd.no (Ω := Ω)) W ds S1 := by
 refine comp_by ⟨hz, fun i acc S' => acc = (ds.take i).map f ∧ S' = S1, ⟨rfl, rfl⟩, ?_, ?_⟩
 · rintro i d acc S' hd ⟨rfl, rfl⟩
   refine Tg.mono (h i d hd (fun y S4 => (ds.take i).map f ++ [y] = (ds.take (i + 1)).map f ∧ S4 = S') ⟨?_, rfl⟩) fun G q => ⟨fun _ => q, fun z => tf z⟩
   rw [take_one hd, List.map_append]; rfl
 · rintro acc S' ⟨rfl, rfl⟩
   rw [List.take_length]; exact w
theorem cm_all (P : Nat → D → Prop) (Q : Store → Prop) (hz : ds.length ≤ 1000000) (q0 : Q S1) (h : ∀ (i : Nat) (d : D) (S' : Store), ds[i]? = some d → Q S' → ∀ R : WD, (∀ y S4, P i y → Q S4 → R y S4) → tg.wp d (capt cap Γ) fun Γ2 => elt.wp Γ2 S' R)
 (w : ∀ (ys : List D) (S' : Store), ys.length = ds.length → (∀ i y, ys[i]? = some y → P i y) → Q S' → W (.lst ys) S') : CompW cap Γ elt tg (Cd.no (Ω := Ω)) W ds S1 := by
 refine comp_by ⟨hz, fun i acc S' => (acc.length = i ∧ ∀ j y, acc[j]? = some y → P j y) ∧ Q S', ⟨⟨rfl, fun j y e => by simp at e⟩, q0⟩, ?_, fun acc S' h => w acc S' h.1.1 h.1.2 h.2⟩
 rintro i d acc S' hd ⟨⟨hl, ha⟩, q⟩
 refine Tg.mono (h i d S' hd q (fun y S4 => ((acc ++ [y]).length = i + 1 ∧ ∀ j y', (acc ++ [y])[j]? = some y' → P j y') ∧ Q S4) fun y S4 hy q4 => ⟨⟨by simp [hl], fun j y' e => ?_⟩, q4⟩) fun G q => ⟨fun _ => q, fun z => tf z⟩
 by_cases hj : j < acc.length
 · rw [List.getElem?_append_left hj] at e; exact ha j y' e
 · rw [List.getElem?_append_right (by omega)] at e
   have : j - acc.length = 0 := by
    have := (List.getElem?_eq_some_iff.mp e).1
    simp at this; omega
   rw [this] at e
   simp at e
   subst e
   have : j = i := by omega
   rw [this]; exact hy
end
theorem bT {A B : Prop} (h : A) : (true = true → A) ∧ (true = false → B) := ⟨fun _ => h, fun z => tf z⟩
theorem bF {A B : Prop} (h : B) : (false = true → A) ∧ (false = false → B) := ⟨fun z => ff z, fun _ => h⟩
end RF
namespace RF
open PySem PySem.Spec L2 DL
open PyProof.Rows
mutual
theorem rep_less {K : PySem.W.Frag} {O O' : Own} {H : Hp} (h : ∀ a, ¬ O.has a → ¬ O'.has a) : ∀ {v : V} {d : D}, noloc d = true → Rep K O H v d → Rep K O' H v d
 | _, _, _, .non => .non
 | _, _, _, .bl b => .bl b
 | _, _, _, .int i => .int i
 | _, _, _, .str x => .str x
 | _, _, n, .tup h1 r => .tup (h1.imp (fun q => ⟨h _ q.1, q.2⟩) id) (reps_less h (by simpa [noloc] using n) r)
 | _, _, n, .lst h1 r => .lst (h1.imp (fun q => ⟨h _ q.1, q.2⟩) id) (reps_less h (by simpa [noloc] using n) r)
 | _, _, n, .loc _ => by simp [noloc] at n
 | _, _, _, .dic h1 e => .dic (h _ h1) e
theorem reps_less {K : PySem.W.Frag} {O O' : Own} {H : Hp} (h : ∀ a, ¬ O.has a → ¬ O'.has a) : ∀ {vs : List V} {ds : List D}, nolocs ds = true → Reps K O H vs ds → Reps K O' H vs ds
 | _, _, _, .nil => .nil
 | _, _, n, .cons r t => by
   simp only [nolocs, Bool.and_eq_true] at n
   exact .cons (rep_less h n.1 r) (reps_less h n.2 t)
end
def flat (S : Store) : Prop := ∀ l ∈ S, nolocs l = true
def Frz (n : Nat) (W : WD) : WD := fun d S1 => W d S1 ∨ ∃ ds S', d = .loc S'.length ∧ S1 = S' ++ [ds] ∧ n ≤ S'.length ∧ nolocs ds = true ∧ flat S' ∧ W (.lst ds) S'
theorem QG.frz {K : PySem.W.Frag} {O : Own} {H H' : Hp} {W : WD} {v : V} {n : Nat} (hn : O.A.length = n) (q : QG K O H (Frz n W) v H') : QG K O H W v H' := by
 obtain ⟨O', d, S1, w, st, ok, r⟩ := q
 rcases w with w | ⟨ds, S', rfl, rfl, hl, hd, hS, w⟩
 · exact ⟨O', d, S1, w, st, ok, r⟩
 · obtain ⟨N, eA, fN⟩ := st.ext
   have len : O'.A.length = S'.length + 1 := by have := ok.len; simpa using this
   cases r with
   | @loc a _ ha =>
     obtain ⟨xs, hx, q1⟩ := ok.obj S'.length a ds ha (by simp)
     have sub : ∀ b, ¬ O'.has b → ¬ (⟨O'.A.take S'.length, O'.B⟩ : Own).has b := fun b hb z => hb (z.imp List.mem_of_mem_take id)
     have st2 : Step O ⟨O'.A.take S'.length, O'.B⟩ H H' := ⟨st.kept, st.dom, ⟨N.take (S'.length - O.A.length), by
      show O'.A.take S'.length = _
      rw [eA, List.take_append, List.take_of_length_le (by omega)], fun b hb => fN b (List.mem_of_mem_take hb)⟩, st.hid⟩
     have na : ¬ (⟨O'.A.take S'.length, O'.B⟩ : Own).has a := by
      rintro (z | z)
      · obtain ⟨i, hi⟩ := List.getElem?_of_mem z
        rw [List.getElem?_take] at hi
        split at hi
        · rename_i hlt
          obtain ⟨h1, e1⟩ := List.getElem?_eq_some_iff.mp hi
          obtain ⟨h2, e2⟩ := List.getElem?_eq_some_iff.mp ha
          have := (List.getElem_inj ok.nd).mp (e1.trans e2.symm)
          omega
        · cases hi
      · exact ok.apart a (List.mem_of_getElem? ha) z
     refine ⟨⟨O'.A.take S'.length, O'.B⟩, .lst ds, S', w, st2, ⟨ok.nd.sublist (List.take_sublist _ _), by simp [len], fun k b es e1 e2 => ?_, fun b hb => ok.apart b (List.mem_of_mem_take hb), ok.hidden⟩, .lst (.inl ⟨na, .inl hx⟩) (reps_less sub hd q1)⟩
     have hk : k < S'.length := (List.getElem?_eq_some_iff.mp e2).1
     have e1' : (O'.A.take S'.length)[k]? = some b := e1
     rw [List.getElem?_take, if_pos hk] at e1'
     obtain ⟨ys, hy, r'⟩ := ok.obj k b es e1' (by rw [List.getElem?_append_left hk]; exact e2)
     exact ⟨ys, hy, reps_less sub (hS es (List.mem_of_getElem? e2)) r'⟩
theorem rns_frz {X : Cx} {Γ : Gam} {S : Store} {sts : List Stmt} {W : DL.Fin} (h : Rns X Γ S sts { W with rt := Frz S.length W.rt }) : Rns X Γ S sts W := fun pins s σ H O I env ok =>
 thn (h pins s σ H O I env ok) fun f s' q => by
  cases f with
  | next => exact q
  | brk => exact q
  | cont => exact q
  | ret u => obtain ⟨v, σ', H', I', r, q⟩ := q; exact ⟨v, σ', H', I', r, QG.frz ok.len q⟩
variable {Ω : Wd}
def Bl.frz (b : Bl Ω) : Bl Ω where
 lev := b.lev
 chk := b.chk
 wp Γ S W := b.wp Γ S { W with rt := Frz S.length W.rt }
 sound := by
  intro X r top N nm sts Γ S W A hl hc hw
  exact rns_frz (b.sound A hl hc hw)
def hand (W : WD) (ds : List D) (S : Store) : Prop := W (.lst ds) S ∨ W (.loc S.length) (S ++ [ds])
theorem hand_ret {W : WD} {ds : List D} {S : Store} (h : hand W ds S) (hd : nolocs ds = true) (hS : flat S) : Frz S.length W (.loc S.length) (S ++ [ds]) := by
 rcases h with h | h
 · exact .inr ⟨ds, S, rfl, rfl, Nat.le_refl _, hd, hS, h⟩
 · exact .inl h
theorem ev_append {X : Cx} {Γ : Gam} {S : Store} {o e : Expr} {apos cpos : Pos} {W : WD} (h : Ev X Γ S o fun x S1 => ∃ k, x = .loc k ∧ Ev X Γ S1 e fun d S2 => ∃ ds, S2[k]? = some ds ∧ ds.length < 1000000 ∧ W .non (S2.set k (ds ++ [d])))
 (hbase : attributeBase o "append" X.env (eval o X.env) = eval o X.env) (hs : starEach [e] X.env = [(false, eval e X.env)]) (hline : (apos.endLine == cpos.line) = true) : Ev X Γ S (.Call (.Attribute o "append" apos) [e] [] cpos) W := by
 intro pins s σ H O I env st
 have hty : ∀ (O1 : Own) (x : D) (v : V) (H1 : Hp) (S1 : Store), (∃ k, x = .loc k) → StOk X.K O1 H1 S1 → Rep X.K O1 H1 v x → tyV X.K "list" v H1 := by
  rintro O1 x v H1 S1 ⟨k, rfl⟩ ok r
  cases r with
  | @loc a _ ha =>
    have hl : k < S1.length := by rw [← ok.len]; exact (List.getElem?_eq_some_iff.mp ha).1
    obtain ⟨xs, hx, _⟩ := ok.obj k a S1[k] ha (List.getElem?_eq_getElem hl)
    exact .inl ⟨rfl, xs, SqL.of hx⟩
 have hA : PA X [e] (fun σ H Q => ∃ O Γ S W', EnvOk X.K O H σ Γ ∧ StOk X.K O H S ∧ Ev X Γ S e W' ∧ ∀ v H', QG X.K O H W' v H' → Q [v] H') := by
  rintro pos pins s σ H Q I ⟨O, Γ, S, W', env, st, he, k⟩
  rw [hs]
  show wpAny _ _ (spliced ((false, eval e X.env) :: backTo pos (starEach [] X.env))) _ _ s
  refine Calls.spliced_cons (thn (he pins s σ H O I env st) fun u s1 ⟨v, H1, I1, r1, q⟩ => ?_)
  exact Calls.spliced_nil ⟨[v], H1, I1, .cons r1 .nil, k v H1 q⟩
 refine pe_bm (T := "list") PySem.F.plainAttrs_list PySem.F.slot_list_append PySem.F.type_list_append mt_append (h.pe) hA hbase (by rw [hs]; rfl) hline hs rfl pins s σ H _ I ⟨O, env, st, fun v H' q => ?_⟩
 obtain ⟨O1, x, S1, ⟨k, rfl, he⟩, st1, ok1, rep1⟩ := q
 refine ⟨hty O1 _ v H' S1 ⟨k, rfl⟩ ok1 rep1, O1, Γ, S1, _, env.mono st1, ok1, he, fun v2 H2 q2 => ?_⟩
 obtain ⟨O2, d, S2, ⟨ds, hk, hz, w⟩, st2, ok2, rep2⟩ := q2
 have r := rep1.mono st2
 cases r with
 | @loc a _ ha =>
   obtain ⟨xs, hx, q1⟩ := ok2.obj k a ds ha hk
   exact ⟨a, xs, v2, rfl, rfl, hx, by rw [q1.length]; exact Nat.lt_of_lt_of_le hz (by decide), O2, .non, _, w, (st1.trans st2).trans (Step.put (List.mem_of_getElem? ha) _), ok2.put ha (q1.append (.cons rep2 .nil)), .non⟩
def nameE : Expr → Bool
 | .Name .. => true
 | _ => false
def Ex.m_append (o a : Ex Ω) : Ex Ω where
 lev := max o.lev a.lev
 chk top N nm e := match e with | .Call (.Attribute x m p) [y] [] q => (m == ("append" : Str)) && (nameE x && ((p.endLine == q.line) && (okE y && (o.chk top N nm x && a.chk top N nm y)))) | _ => false
 wp Γ S W := o.wp Γ S fun x S1 => match x with | .loc k => a.wp Γ S1 fun d S2 => ∃ ds, S2[k]? = some ds ∧ ds.length < 1000000 ∧ W .non (S2.set k (ds ++ [d])) | _ => False
 sound := by
  intro X r top N nm e Γ S W A hl hc hw
  obtain ⟨l1, l2⟩ := lv2 hl
  split at hc
  · rename_i x m p y q
    obtain ⟨h1, g⟩ := and2 hc
    obtain ⟨h2, g⟩ := and2 g
    obtain ⟨h3, g⟩ := and2 g
    obtain ⟨h4, g⟩ := and2 g
    obtain ⟨h5, h6⟩ := and2 g
    have e := eq_of_beq h1
    subst e
    refine ev_append ((o.sound A l1 h5 hw).mono fun x S1 q => ?_) ?_ (star_ok h4 [] _) h3
    · cases x <;> first | exact q.elim | exact ⟨_, rfl, a.sound A l2 h6 q⟩
    · cases x <;> first | rfl | exact ff h2
  · exact ff hc
theorem last_get (S : Store) (x : List D) : (S ++ [x])[S.length]? = some x := by simp
theorem last_set (S : Store) (x y : List D) : (S ++ [x]).set S.length y = S ++ [y] := by simp
theorem map_get {α β : Type} {xs : List α} {f : α → β} {i : Nat} {e : β} (h : (xs.map f)[i]? = some e) : ∃ x, xs[i]? = some x ∧ e = f x := by
 rw [List.getElem?_map] at h
 cases e1 : xs[i]? with
 | none => rw [e1] at h; cases h
 | some x => rw [e1] at h; cases h; exact ⟨x, rfl, rfl⟩
theorem idx_get {α β : Type} {xs : List α} {f : Nat → α → β} {i : Nat} {e : β} (h : (xs.mapIdx f)[i]? = some e) : ∃ x, xs[i]? = some x ∧ e = f i x := by
 rw [List.getElem?_mapIdx] at h
 cases e1 : xs[i]? with
 | none => rw [e1] at h; cases h
 | some x => rw [e1] at h; cases h; exact ⟨x, rfl, rfl⟩
theorem cm_enc {cap : List (Option Nat)} {Γ : Gam} {elt : Ex Ω} {tg : Tg} {W : WD} {S1 : Store} {α : Type} {xs : List α} {enc : α → D} (f : α → D) (hz : xs.length ≤ 1000000) (h : ∀ (i : Nat) (x : α), xs[i]? = some x → ∀ Q : WD, Q (f x) S1 → tg.wp (enc x) (capt cap Γ) fun Γ2 => elt.wp Γ2 S1 Q)
 (w : W (.lst (xs.map f)) S1) : CompW cap Γ elt tg (Cd.no (Ω := Ω)) W (xs.map enc) S1 := by
 refine comp_by ⟨by rw [List.length_map]; exact hz, fun i acc S' => acc = (xs.take i).map f ∧ S' = S1, ⟨rfl, rfl⟩, ?_, ?_⟩
 · rintro i d acc S' hd ⟨rfl, rfl⟩
   obtain ⟨x, hx, rfl⟩ := map_get hd
   refine Tg.mono (h i x hx (fun y S4 => (xs.take i).map f ++ [y] = (xs.take (i + 1)).map f ∧ S4 = S') ⟨?_, rfl⟩) fun G q => ⟨fun _ => q, fun z => tf z⟩
   rw [take_one hx, List.map_append]; rfl
 · rintro acc S' ⟨rfl, rfl⟩
   rw [List.length_map, List.take_length]; exact w
end RF
namespace RF
open PySem PySem.Spec L2 DL
open PyProof.Rows
end RF
namespace RF
open PySem PySem.Spec L2 DL
open PyProof.Rows
theorem yields_own {K : PySem.W.Frag} {O : Own} {H : Hp} {a : Addr} {k : Nat} {ds : List D} (h : O.A[k]? = some a) : YieldsC K (Itl K a) O H (fun S => S[k]? = some ds) ds := by
 intro O' H' S' st ok hS i
 have h' : O'.A[k]? = some a := st.lc k a h
 obtain ⟨xs, hx, r⟩ := ok.obj k a ds h' hS
 have hq : SqL K H' a xs := SqL.of hx
 refine ⟨fun d hd => ?_, fun hi => ⟨xs, hq, by rw [r.length]; exact Nat.le_of_eq hi.symm⟩⟩
 obtain ⟨v, hv, rv⟩ := r.get hd
 refine ⟨⟨xs, v, hq, hv⟩, fun x H'' y => ?_⟩
 obtain ⟨e, y⟩ := y
 subst e
 have e := y xs hq
 rw [hv] at e
 cases e
 exact ⟨Same.refl _, rv⟩
abbrev itC (W : List D → (Store → Prop) → Store → Prop) : WD := fun d S1 => match d with
 | .lst ds => W ds (fun _ => True) S1
 | .tup ds => W ds (fun _ => True) S1
 | .loc k => ∃ ds, S1[k]? = some ds ∧ W ds (fun S => S[k]? = some ds) S1
 | _ => False
theorem it_own {X : Cx} {Γ : Gam} {S : Store} {tg e : Expr} {W : List D → (Store → Prop) → Store → Prop} (h : Ev X Γ S e (itC W)) : ItC X Γ S tg e W := by
 intro pins s σ H O I env st
 refine thn (h pins s σ H O I env st) fun u s1 ⟨v, H1, I1, r1, O1, d, S1, w, st1, ok1, rep⟩ => ?_
 cases rep with
 | @lst a xs ds h1 q1 =>
   cases r1
   obtain ⟨its, rv, p, hz⟩ := I1.list h1.sq
   refine wpAny_pyIter_list p.isList ?_
   refine ⟨s1.heap.objs.size, [s1.heap.objs.size], _, _, H1, rfl, I1.kept (t' := s1.toks) fun b o e => Heap.get?_push_of_some _ e, turn_list a _, ⟨_, Heap.get?_push_size _ rfl, rfl, rfl⟩, fun b hb => ?_, O1, ds, _, S1, w, st1, ok1, yields_c (yields_list h1 q1)⟩
   have e : b = s1.heap.objs.size := by simpa using hb
   subst e
   exact I1.fpOk (Nat.le_refl _) (I1.hok.fresh (Nat.le_refl _))
 | @tup a xs ds h1 q1 =>
   cases r1
   obtain ⟨its, rv, p, hz⟩ := I1.tuple h1.sq
   refine wpAny_pyIter_tuple (show s1.heap.IsTuple a its.toArray from p) ?_
   refine ⟨s1.heap.objs.size, [s1.heap.objs.size], _, _, H1, rfl, I1.kept (t' := s1.toks) fun b o e => Heap.get?_push_of_some _ e, turn_tuple a _, ⟨_, Heap.get?_push_size _ rfl, rfl, rfl⟩, fun b hb => ?_, O1, ds, _, S1, w, st1, ok1, yields_c (yields_tup h1 q1)⟩
   have e : b = s1.heap.objs.size := by simpa using hb
   subst e
   exact I1.fpOk (Nat.le_refl _) (I1.hok.fresh (Nat.le_refl _))
 | @loc a k h1 =>
   cases r1
   obtain ⟨ds, hk, w⟩ := w
   obtain ⟨xs, hx, q1⟩ := ok1.obj k a ds h1 hk
   obtain ⟨its, rv, p, hz⟩ := I1.list (SqL.of hx)
   refine wpAny_pyIter_list p.isList ?_
   refine ⟨s1.heap.objs.size, [s1.heap.objs.size], _, _, H1, rfl, I1.kept (t' := s1.toks) fun b o e => Heap.get?_push_of_some _ e, turn_list a _, ⟨_, Heap.get?_push_size _ rfl, rfl, rfl⟩, fun b hb => ?_, O1, ds, _, S1, w, st1, ok1, yields_own h1⟩
   have e : b = s1.heap.objs.size := by simpa using hb
   subst e
   exact I1.fpOk (Nat.le_refl _) (I1.hok.fresh (Nat.le_refl _))
 | _ => exact w.elim
theorem r_forC {X : Cx} {Γ : Gam} {S : Store} {W : DL.Fin} {pos : Pos} {tg iter : Expr} {body : List Stmt} (h : ItC X Γ S tg iter fun ds C S1 => ∃ Pv : Nat → Gam → Store → Prop, Pv 0 Γ S1 ∧ (∀ i Γ' S', Pv i Γ' S' → C S') ∧
 (∀ i d Γ' S', ds[i]? = some d → Pv i Γ' S' → BdW X tg d Γ' S' fun Γ2 S2 => Rns X Γ2 S2 body { W with nx := Pv (i + 1), ct := Pv (i + 1), bk := W.nx }) ∧ (∀ Γ' S', Pv ds.length Γ' S' → W.nx Γ' S'))
 (hp : PassesOwn (model X.prog X.w) X.A X.env X.xe) (hc : X.calm = true) (hs : ∀ x, foldedSetIterable iter X.env x = pure x) : Rn X Γ S (.For tg iter body [] pos) W := by
 intro pins s σ H O I env ok
 let WI : List D → (Store → Prop) → Store → Prop := fun ds C S1 => ∃ Pv : Nat → Gam → Store → Prop, Pv 0 Γ S1 ∧ (∀ i Γ' S', Pv i Γ' S' → C S') ∧
     (∀ i d Γ' S', ds[i]? = some d → Pv i Γ' S' → BdW X tg d Γ' S' fun Γ2 S2 => Rns X Γ2 S2 body { W with nx := Pv (i + 1), ct := Pv (i + 1), bk := W.nx }) ∧ (∀ Γ' S', Pv ds.length Γ' S' → W.nx Γ' S')
 have hI : PI X tg iter (fun σ H R => ∃ O, EnvOk X.K O H σ Γ ∧ StOk X.K O H S ∧ ∀ J H', QIc X.K O H WI J H' → R J H') := fun pins s σ H R I ⟨O, env, st, k⟩ =>
  thn (h pins s σ H O I env st) fun _ _ q => thn q fun _ _ ⟨it, fp, tn, J, H', e1, e2, e3, e4, e5, e6⟩ => ⟨it, fp, tn, J, H', e1, e2, e3, e4, e5, k J H' e6⟩
 have hG : PG X tg (fun v σ H Q => ∃ O d Γ S W', EnvOk X.K O H σ Γ ∧ StOk X.K O H S ∧ Rep X.K O H v d ∧ BdW X tg d Γ S W' ∧ ∀ σ' H', QN X.K O H W' σ' H' → Q σ' H') := fun pins s σ H v u Q I ru ⟨O, d, Γ, S, W', env, st, r, b, k⟩ =>
  thn (b pins s σ H O v u I env st r ru) fun _ _ ⟨σ', H', I', q⟩ => ⟨σ', H', I', k σ' H' q⟩
 have hB : PSs X body (fun D σ H => ∃ O Γ S W', EnvOk X.K O H σ Γ ∧ StOk X.K O H S ∧ Rns X Γ S body W' ∧ (∀ σ' H', QN X.K O H W'.nx σ' H' → D.nx σ' H') ∧ (∀ v H', QG X.K O H W'.rt v H' → D.rt v H') ∧ (∀ σ' H', QN X.K O H W'.bk σ' H' → D.bk σ' H') ∧ ∀ σ' H', QN X.K O H W'.ct σ' H' → D.ct σ' H') :=
  fun pins s σ H D I ⟨O, Γ, S, W', env, st, b, k1, k2, k3, k4⟩ => thn (b pins s σ H O I env st) fun f s' q => by
   cases f with
   | next => obtain ⟨σ', H', I', q⟩ := q; exact ⟨σ', H', I', k1 σ' H' q⟩
   | brk => obtain ⟨σ', H', I', q⟩ := q; exact ⟨σ', H', I', k3 σ' H' q⟩
   | cont => obtain ⟨σ', H', I', q⟩ := q; exact ⟨σ', H', I', k4 σ' H' q⟩
   | ret u => obtain ⟨v, σ', H', I', r, q⟩ := q; exact ⟨v, σ', H', I', r, k2 v H' q⟩
 refine ps_for hp hc hI hG hB hs pins s σ H _ I ⟨O, env, ok, fun J H1 q => ?_⟩
 obtain ⟨O1, ds, C, S1, ⟨Pv, p0, pC, pt, pe⟩, st1, ok1, yl⟩ := q
 refine ⟨fun i m σ' H' => m = ds.length - i ∧ i ≤ ds.length ∧ ∃ O' Γ' S', Pv i Γ' S' ∧ Step O1 O' H1 H' ∧ StOk X.K O' H' S' ∧ EnvOk X.K O' H' σ' Γ', ⟨ds.length, by simp, Nat.zero_le _, O1, Γ, S1, p0, Step.refl _ _, ok1, env.mono st1⟩, ?_⟩
 rintro i m σ2 H2 ⟨rfl, hi, O2, Γ2, S2, p2, st2, ok2, env2⟩
 obtain ⟨y1, y2⟩ := yl O2 H2 S2 st2.conv ok2 (pC _ _ _ p2) i
 by_cases hlt : i < ds.length
 · obtain ⟨go, yy⟩ := y1 ds[i] (List.getElem?_eq_getElem hlt)
   refine .inr ⟨go, fun σ' H' => i + 1 ≤ ds.length ∧ ∃ O' Γ' S', Pv (i + 1) Γ' S' ∧ Step O1 O' H1 H' ∧ StOk X.K O' H' S' ∧ EnvOk X.K O' H' σ' Γ', fun σ' H' q => ⟨ds.length - (i + 1), by omega, rfl, q.1, q.2⟩, fun x H3 y => ?_⟩
   obtain ⟨sm, rx⟩ := yy x H3 y
   have st3 := Step.same (O := O2) sm
   refine ⟨O2, ds[i], Γ2, S2, _, env2.mono st3, ok2.same sm, rx, pt i ds[i] Γ2 S2 (List.getElem?_eq_getElem hlt) p2, fun σ4 H4 q4 => ?_⟩
   obtain ⟨O4, Γ4, S4, w4, st4, ok4, env4⟩ := q4
   have stA := (st2.trans st3).trans st4
   refine ⟨O4, Γ4, S4, _, env4, ok4, w4, ?_, ?_, ?_, ?_⟩
   · rintro σ5 H5 ⟨O5, Γ5, S5, w5, st5, ok5, env5⟩
     exact ⟨hlt, O5, Γ5, S5, w5, stA.trans st5, ok5, env5⟩
   · exact fun v H' q => QG.pre (st1.trans stA) q
   · exact fun σ' H' q => QN.pre (st1.trans stA) q
   · rintro σ5 H5 ⟨O5, Γ5, S5, w5, st5, ok5, env5⟩
     exact ⟨hlt, O5, Γ5, S5, w5, stA.trans st5, ok5, env5⟩
 · have e : i = ds.length := by omega
   subst e
   exact .inl ⟨y2 rfl, O2, Γ2, S2, pe Γ2 S2 p2, st1.trans st2, ok2, env2⟩
section
variable {Ω : Wd}
@[irreducible] noncomputable def ForO (Γ : Gam) (tg : Tg) (body : Bl Ω) (W : DL.Fin) (k : Nat) (ds : List D) (S1 : Store) : Prop :=
  ∃ Pv : Nat → Gam → Store → Prop, Pv 0 Γ S1 ∧ (∀ i Γ' S', Pv i Γ' S' → S'[k]? = some ds) ∧ (∀ i d Γ' S', ds[i]? = some d → Pv i Γ' S' → tg.wp d Γ' fun Γ2 => body.wp Γ2 S' { W with nx := Pv (i + 1), ct := Pv (i + 1), bk := W.nx }) ∧ (∀ Γ' S', Pv ds.length Γ' S' → W.nx Γ' S')
def Sm.forL (tg : Tg) (it : Ex Ω) (body : Bl Ω) : Sm Ω where
 lev := max it.lev body.lev
 chk top N nm st := match st with | .For t i b [] _ => okE i && (tg.chk top N nm t && (it.chk top N nm i && body.chk top N nm b)) | _ => false
 wp Γ S W := it.wp Γ S fun d S1 => match d with
  | .lst ds => ForW Γ tg body W ds S1
  | .tup ds => ForW Γ tg body W ds S1
  | .loc k => ∃ ds, S1[k]? = some ds ∧ ForO Γ tg body W k ds S1
  | _ => False
 sound := by
  intro X r top N nm st Γ S W A hl hc hw
  obtain ⟨l1, l2⟩ := lv2 hl
  split at hc
  · rename_i t i b pos
    obtain ⟨h1, hc⟩ := and2 hc
    obtain ⟨h2, hc⟩ := and2 hc
    obtain ⟨h3, h4⟩ := and2 hc
    have step : ∀ (Pv : Nat → Gam → Store → Prop) (ds : List D), (∀ i d Γ' S', ds[i]? = some d → Pv i Γ' S' → tg.wp d Γ' fun Γ2 => body.wp Γ2 S' { W with nx := Pv (i + 1), ct := Pv (i + 1), bk := W.nx }) → ∀ i d Γ' S', ds[i]? = some d → Pv i Γ' S' → BdW X t d Γ' S' fun Γ2 S2 => Rns X Γ2 S2 b { W with nx := Pv (i + 1), ct := Pv (i + 1), bk := W.nx } :=
     fun Pv ds pt i d Γ' S' hd hp => BdW.mono (Tg.sound A (W := fun Γ2 S2 => body.wp Γ2 S2 { W with nx := Pv (i + 1), ct := Pv (i + 1), bk := W.nx }) h2 (pt i d Γ' S' hd hp)) fun Γ2 S2 q => body.sound A l2 h4 q
    refine r_forC (it_own (Ev.mono (it.sound A l1 h3 hw) fun d S1 q => ?_)) (by rw [A.xe]; exact PassesOwn.never) A.calm (fold_ok h1 _)
    cases d with
    | lst ds =>
      have q : ForW Γ tg body W ds S1 := q
      unfold ForW at q
      obtain ⟨Pv, p0, pt, pe⟩ := q
      exact ⟨Pv, p0, fun _ _ _ _ => trivial, step Pv ds pt, pe⟩
    | tup ds =>
      have q : ForW Γ tg body W ds S1 := q
      unfold ForW at q
      obtain ⟨Pv, p0, pt, pe⟩ := q
      exact ⟨Pv, p0, fun _ _ _ _ => trivial, step Pv ds pt, pe⟩
    | loc k =>
      obtain ⟨ds, hk, q⟩ := q
      unfold ForO at q
      obtain ⟨Pv, p0, pC, pt, pe⟩ := q
      exact ⟨ds, hk, Pv, p0, pC, step Pv ds pt, pe⟩
    | _ => exact (show False from q).elim
  · exact fE hc
end
end RF
namespace RF
open PySem PySem.Spec L2 DL
open PyProof.Rows
def lsOf (S : Store) : D → Option (List D)
 | .lst ds => some ds
 | .loc k => S[k]?
 | _ => none
section
variable {X : Cx} {S : Store} {W : WD}
theorem ls_sq {pins : Pins} {s : Shared} {σ : DL.St} {H : Hp} {O : Own} {v : V} {d : D} {ds : List D} (st : StOk X.K O H S) (r : Rep X.K O H v d) (h : lsOf S d = some ds) : ∃ a xs, v = .ref a ∧ SqL X.K H a xs ∧ Reps X.K O H xs ds := by
 cases r with
 | @lst a xs _ h1 q1 => cases h; exact ⟨a, xs, rfl, h1.sq, q1⟩
 | @loc a k h1 =>
   obtain ⟨xs, hx, q1⟩ := st.obj k a ds h1 h
   exact ⟨a, xs, rfl, SqL.of hx, q1⟩
 | _ => cases h
theorem k_sumT {ns : List Int} (w : W (.int ns.sum) S) (hc : X.calm = true) : CalW X (.builtin "sum") [.tup (ns.map .int)] S W := by
 intro pins s σ H O vs us I st r ru
 obtain ⟨v, rfl, r'⟩ := reps1 r
 obtain ⟨u, rfl, ru'⟩ := vals1 ru
 cases r' with
 | @tup a xs _ h1 q1 =>
   cases ru'
   obtain ⟨its, rv, pl, hz⟩ := I.tuple h1.sq
   have ex := q1.ints
   subst ex
   have hi : IntsAre its ns := intsAre_of rv
   obtain ⟨zs, ez⟩ := hi.allInts.items
   have hT : s.heap.IsTuple a its.toArray := pl
   rw [ez] at hT
   have hlt : a < s.heap.objs.size := by obtain ⟨_, e, _⟩ := hT; exact Heap.lt_size e
   refine call_sum_walkG (wpAny_pyIter_tuple hT ?_)
   refine ⟨_, _, _, _, _, _, numAt zs, rfl, Walks.tuple (A := X.A.in1) (I.ok.hd hc) _ a (Nat.ne_of_lt hlt) (intItems zs), ⟨⟨_, Heap.get?_push_size _ rfl, rfl, rfl⟩, hT.push _⟩, (fun b hb => ?_), (fun _ _ => intItems_at), fun h' tk t' hk => ?_⟩
   · show b < (s.heap.push _).objs.size
     rw [Heap.size_push]
     rcases List.mem_cons.mp hb with rfl | hb
     · exact Nat.lt_succ_self _
     · rcases List.mem_cons.mp hb with rfl | hb
       · exact Nat.lt_succ_of_lt hlt
       · cases hb
   · have e : preSum (numAt zs) (intItems zs).size = ns.sum := by
      rw [show (intItems zs).size = zs.size by simp [intItems], preSum_eq, List.take_of_length_le (by simp), ← nums_intItems, ← ez]
      exact congrArg List.sum hi.numsOf
     rw [e]
     refine ⟨.int _, H, I.kept (fun b o q => hk b o (fun z => ?_) (Heap.get?_push_of_some _ q)), ⟨_, rfl⟩, QG.here w st (.int _)⟩
     have z' : b = s.heap.objs.size := by simpa using z
     exact absurd (Heap.lt_size q) (by rw [z']; exact Nat.lt_irrefl _)
end
def bSumT : Bf where
 x := "sum"
 id := "sum"
 boot := by decide +kernel
 wp ds S W := match ds with
  | [.lst ds] => ∃ ns : List Int, ds = ns.map .int ∧ W (.int ns.sum) S
  | [.tup ds] => ∃ ns : List Int, ds = ns.map .int ∧ W (.int ns.sum) S
  | _ => False
 sound := by
  intro X ds S W hc hr h
  split at h
  · obtain ⟨bs, rfl, h⟩ := h; exact k_sum h hc
  · obtain ⟨bs, rfl, h⟩ := h; exact k_sumT h hc
  · exact h.elim
section
variable {Ω : Wd}
def Ex.fdiv (a b : Ex Ω) : Ex Ω where
 lev := max a.lev b.lev
 chk top N nm e := match e with | .BinOp l o r _ => (o == .FloorDiv) && (a.chk top N nm l && b.chk top N nm r) | _ => false
 wp Γ S W := a.wp Γ S fun x S1 => b.wp Γ S1 fun y S2 => match x, y with
  | .int i, .int j => (0 < j ∧ j < 1000000000000000000000000000000000000000000000000000000000000) ∧ W (.int (i / j)) S2
  | _, _ => False
 sound := by
  intro X r top N nm e Γ S W A hl hc hw
  obtain ⟨l1, l2⟩ := lv2 hl
  cases e with
  | BinOp l o r' pos =>
    obtain ⟨h1, h2⟩ := and2 hc
    obtain ⟨h2, h3⟩ := and2 h2
    have e : o = .FloorDiv := eq_of_beq h1
    subst e
    refine ev_bin ((a.sound A l1 h2 hw).mono fun x S1 q => (b.sound A l2 h3 q).mono fun y S2 q => ?_)
    split at q
    · rename_i i j
      refine bin_int (C := fun _ j => 0 < j ∧ j < 1000000000000000000000000000000000000000000000000000000000000) (g := fun i j => i / j) (opI fun i j _ _ _ _ _ hc q => ?_) q.1 q.2
      have h1 : (0 : Int) < j := hc.1
      have h2 : j < 1000000000000000000000000000000000000000000000000000000000000 := hc.2
      refine floordiv_int (by omega) (by rw [Int.fdiv_eq_ediv_of_nonneg i (by omega)]; exact q) (.inl (PyProof.noPylong_of_log2 ?_))
      have h3 : j.natAbs < 2 ^ 200 := by omega
      have : j.natAbs.log2 < 200 := (Nat.log2_lt (by omega)).mpr h3
      omega
    · exact q.elim
  | _ => exact fE hc
end
end RF
namespace RF
open PySem PySem.Spec L2 DL
open PyProof.Rows
theorem own_less {K : PySem.W.Frag} {O O' : Own} {H H' : Hp} {S' : Store} {J : List (List D)} (st : Step O O' H H') (ok : StOk K O' H' (S' ++ J)) (hl : O.A.length ≤ S'.length) (hS : flat S') :
 Step O ⟨O'.A.take S'.length, O'.B⟩ H H' ∧ StOk K ⟨O'.A.take S'.length, O'.B⟩ H' S' ∧ (∀ b, ¬ O'.has b → ¬ (⟨O'.A.take S'.length, O'.B⟩ : Own).has b) ∧ ∀ j a, S'.length ≤ j → O'.A[j]? = some a → ¬ (⟨O'.A.take S'.length, O'.B⟩ : Own).has a := by
 obtain ⟨N, eA, fN⟩ := st.ext
 have len : O'.A.length = S'.length + J.length := by have := ok.len; simpa using this
 have sub : ∀ b, ¬ O'.has b → ¬ (⟨O'.A.take S'.length, O'.B⟩ : Own).has b := fun b hb z => hb (z.imp List.mem_of_mem_take id)
 refine ⟨⟨st.kept, st.dom, ⟨N.take (S'.length - O.A.length), by
  show O'.A.take S'.length = _
  rw [eA, List.take_append, List.take_of_length_le (by omega)], fun b hb => fN b (List.mem_of_mem_take hb)⟩, st.hid⟩, ⟨ok.nd.sublist (List.take_sublist _ _), by simp [len], fun k b es e1 e2 => ?_, fun b hb => ok.apart b (List.mem_of_mem_take hb), ok.hidden⟩, sub, fun j a hj ha z => ?_⟩
 · have hk : k < S'.length := (List.getElem?_eq_some_iff.mp e2).1
   have e1' : (O'.A.take S'.length)[k]? = some b := e1
   rw [List.getElem?_take, if_pos hk] at e1'
   obtain ⟨ys, hy, r'⟩ := ok.obj k b es e1' (by rw [List.getElem?_append_left hk]; exact e2)
   exact ⟨ys, hy, reps_less sub (hS es (List.mem_of_getElem? e2)) r'⟩
 · rcases z with z | z
   · obtain ⟨i, hi⟩ := List.getElem?_of_mem z
     rw [List.getElem?_take] at hi
     split at hi
     · rename_i hlt
       obtain ⟨h1, e1⟩ := List.getElem?_eq_some_iff.mp hi
       obtain ⟨h2, e2⟩ := List.getElem?_eq_some_iff.mp ha
       have := (List.getElem_inj ok.nd).mp (e1.trans e2.symm)
       omega
     · cases hi
   · exact ok.apart a (List.mem_of_getElem? ha) z
def Drp (n : Nat) (W : WD) : WD := fun d S1 => W d S1 ∨ ∃ J S', S1 = S' ++ J ∧ n ≤ S'.length ∧ noloc d = true ∧ flat S' ∧ W d S'
theorem QG.drp {K : PySem.W.Frag} {O : Own} {H H' : Hp} {W : WD} {v : V} {n : Nat} (hn : O.A.length = n) (q : QG K O H (Drp n W) v H') : QG K O H W v H' := by
 obtain ⟨O', d, S1, w, st, ok, r⟩ := q
 rcases w with w | ⟨J, S', rfl, hl, hd, hS, w⟩
 · exact ⟨O', d, S1, w, st, ok, r⟩
 · obtain ⟨st2, ok2, sub, na⟩ := own_less st ok (by omega) hS
   exact ⟨_, d, S', w, st2, ok2, rep_less sub hd r⟩
section
variable {Ω : Wd}
def Bl.drp (b : Bl Ω) : Bl Ω where
 lev := b.lev
 chk := b.chk
 wp Γ S W := b.wp Γ S { W with rt := Drp S.length W.rt }
 sound := by
  intro X r top N nm sts Γ S W A hl hc hw pins s σ H O I env ok
  refine thn (b.sound A hl hc hw pins s σ H O I env ok) fun f s' q => ?_
  cases f with
  | next => exact q
  | brk => exact q
  | cont => exact q
  | ret u => obtain ⟨v, σ', H', I', r, q⟩ := q; exact ⟨v, σ', H', I', r, QG.drp ok.len q⟩
end
end RF
namespace RF
open PySem PySem.Spec L2 DL
open PyProof.Rows
end RF
namespace RF
open PySem PySem.Spec L2 DL
open PyProof.Rows
end RF
namespace RF
open PySem PySem.Spec L2 DL
open PyProof.Rows
abbrev tbl (led : Bool) (ps : List Nat) : SetTable := { mask := 7, place := ps.toArray, dummies := #[], finger := 0, led := led, moves := 0, plain := true }
end RF
namespace RF
open PySem PySem.Spec L2 DL
open PyProof.Rows
end RF
namespace RF
open PySem PySem.Spec L2 DL
open PyProof.Rows
end RF
namespace RF
open PySem PySem.Spec L2 DL
open PyProof.Rows
end RF
namespace RF
open PySem PySem.Spec L2 DL
open PyProof.Rows
end RF
namespace RF
open PySem PySem.Spec L2 DL
open PyProof.Rows
end RF
namespace RF
open PySem PySem.Spec L2 DL
open PyProof.Rows
end RF
namespace RF
open PySem PySem.Spec L2 DL
open PyProof.Rows
mutual
def vwD (S : Store) : D → D
 | .loc k => match S[k]? with | some ds => .lst ds | none => .loc k
 | .tup ds => .tup (vwDs S ds)
 | .lst ds => .lst (vwDs S ds)
 | d => d
def vwDs (S : Store) : List D → List D
 | [] => []
 | d :: ds => vwD S d :: vwDs S ds
end
mutual
theorem vwD_sn {K : PySem.W.Frag} {O : Own} {H : Hp} {S : Store} (st : StOk K O H S) : ∀ {v : V} {x : D}, Rep K O H v x → okD (vwD S x) = true → Sn K H v (vwD S x)
 | _, _, .non, _ => by simp only [vwD]; exact .non
 | _, _, .bl b, _ => by simp only [vwD]; exact .bl b
 | _, _, .int i, _ => by simp only [vwD]; exact .int i
 | _, _, .str i, _ => by simp only [vwD]; exact .str i
 | _, _, .tup h1 q1, h => by simp only [vwD, okD] at h ⊢; exact .tup h1.sq (vwDs_sn st q1 h)
 | _, _, .lst h1 q1, h => by simp only [vwD, okD] at h ⊢; exact .lst h1.sq (vwDs_sn st q1 h)
 | _, _, .loc (a := a) (k := k) hk, h => by
   have hl : k < S.length := by rw [← st.len]; exact (List.getElem?_eq_some_iff.mp hk).1
   obtain ⟨xs, hx, q⟩ := st.obj k a S[k] hk (List.getElem?_eq_getElem hl)
   have e : vwD S (.loc k) = .lst S[k] := by simp only [vwD]; rw [List.getElem?_eq_getElem hl]
   rw [e] at h ⊢
   exact .lst (SqL.of hx) (reps_sn (by simpa [okD] using h) q)
 | _, _, .dic h1 e1, h => by simp [vwD, okD] at h
theorem vwDs_sn {K : PySem.W.Frag} {O : Own} {H : Hp} {S : Store} (st : StOk K O H S) : ∀ {vs : List V} {xs : List D}, Reps K O H vs xs → okDs (vwDs S xs) = true → Sns K H vs (vwDs S xs)
 | _, _, .nil, _ => by simp only [vwDs]; exact .nil
 | _, _, .cons r t, h => by
   simp only [vwDs, okDs, Bool.and_eq_true] at h ⊢
   exact .cons (vwD_sn st r h.1) (vwDs_sn st t h.2)
end
end RF
namespace RF
open PySem PySem.Spec L2 DL
open PyProof.Rows
section
variable {X : Cx}
theorem ev_bmO {Γ : Gam} {S : Store} {o e : Expr} {es : List Expr} {name : Str} {id : String} {r : V → List V → Hp → VK → Prop} {apos cpos : Pos} {W : WD} (slot : Slot "list" name id) (hty : typeOf (.builtin id) = pure (.type "method_descriptor")) (hm : MtM X id r) (hmo : ∀ {x : V} {vs : List V} {H : Hp} {Q Q' : VK}, r x vs H Q → (∀ v H', Q v H' → Q' v H') → r x vs H Q')
 (h : Ev X Γ S o fun x S1 => ∃ k, x = .loc k ∧ EvA X Γ S1 (e :: es) fun ds S2 => ∃ ds0, S2[k]? = some ds0 ∧ ∀ (O : Own) (H : Hp) (a : Addr) (xs vs : List V), O.A[k]? = some a → H a = some (.lst xs) → Reps X.K O H xs ds0 → Reps X.K O H vs ds → StOk X.K O H S2 → r (.ref a) vs H (QG X.K O H W))
 (hbase : attributeBase o name X.env (eval o X.env) = eval o X.env)
 (hfew : ((backTo cpos (starEach (e :: es) X.env)).all (fun x => !x.1) && (backToKw cpos (keywordEach [] X.env)).all (fun x => x.1.isSome)
  && decide ((e :: es).length + ([] : List Keyword).length + (if ([] : List Keyword).isEmpty then 0 else 1) < 30)) = true)
 (hline : (apos.endLine == cpos.line) = true) (hs : starEach (e :: es) X.env = (false, eval e X.env) :: starEach es X.env) (hplain : (backTo cpos (starEach es X.env)).any (·.1) = false) : Ev X Γ S (.Call (.Attribute o name apos) (e :: es) [] cpos) W := by
 intro pins s σ H O I env st
 have hty' : ∀ (O1 : Own) (x : D) (v : V) (H1 : Hp) (S1 : Store), (∃ k, x = .loc k) → StOk X.K O1 H1 S1 → Rep X.K O1 H1 v x → tyV X.K "list" v H1 := by
  rintro O1 x v H1 S1 ⟨k, rfl⟩ ok r
  cases r with
  | @loc a _ ha =>
    have hl : k < S1.length := by rw [← ok.len]; exact (List.getElem?_eq_some_iff.mp ha).1
    obtain ⟨xs, hx, _⟩ := ok.obj k a S1[k] ha (List.getElem?_eq_getElem hl)
    exact .inl ⟨rfl, xs, SqL.of hx⟩
 have hA : PA X (e :: es) (fun σ H Q => ∃ O Γ S W', EnvOk X.K O H σ Γ ∧ StOk X.K O H S ∧ EvA X Γ S (e :: es) W' ∧ ∀ vs H', QA X.K O H W' vs H' → Q vs H') := by
  rintro pos pins s σ H Q I ⟨O, Γ, S, W', env, st, he, k⟩
  exact thn (he pos pins s σ H O I env st) fun us s1 ⟨vs, H1, I1, r1, q⟩ => ⟨vs, H1, I1, r1, k vs H1 q⟩
 refine pe_bm (T := "list") PySem.F.plainAttrs_list slot hty hm (h.pe) hA hbase hfew hline hs hplain pins s σ H _ I ⟨O, env, st, fun v H' q => ?_⟩
 obtain ⟨O1, x, S1, ⟨k, rfl, he⟩, st1, ok1, rep1⟩ := q
 refine ⟨hty' O1 _ v H' S1 ⟨k, rfl⟩ ok1 rep1, O1, Γ, S1, _, env.mono st1, ok1, he, fun vs H2 q2 => ?_⟩
 obtain ⟨O2, ds, S2, ⟨ds0, hk, w⟩, st2, ok2, rep2⟩ := q2
 have r' := rep1.mono st2
 cases r' with
 | @loc a _ ha =>
   obtain ⟨xs, hx, q1⟩ := ok2.obj k a ds0 ha hk
   exact hmo (w O2 H2 a xs vs ha hx q1 rep2 ok2) fun v' H3 q3 => q3.pre (st1.trans st2)
end
section
variable {Ω : Wd}
theorem few1 {e : Expr} {env : Env} {cpos : Pos} (h : okE e = true) : ((backTo cpos (starEach [e] env)).all (fun x => !x.1) && (backToKw cpos (keywordEach [] env)).all (fun x => x.1.isSome)
 && decide ([e].length + ([] : List Keyword).length + (if ([] : List Keyword).isEmpty then 0 else 1) < 30)) = true := by
 rw [star_ok h [] env]; rfl
end
end RF
namespace RF
open PySem PySem.Spec L2 DL
open PyProof.Rows
theorem list_extendW (l : Addr) (items : Array Value) (n : Nat) (b : Addr) (items2 : Array Value) (n2 : Nat) (dd2 : Option Addr) (sl2 : Array (Option Value)) (hc0 : ¬(!items.isEmpty && Builtin.List.listTooLong (items.size + items2.size)) = true) (hc1 : items.size ≤ sizeLine) (hs2 : items.size + items2.size ≤ sizeLine + 1) :
 Meets (Builtin.«list.extend» ⟨[.ref l, .ref b], []⟩) (fun _ R s => s.heap.get? l = some { cls := .type "list", dict := none, data := .seq items n, slots := #[] } ∧ s.heap.get? b = some { cls := .type "list", dict := dd2, data := .seq items2 n2, slots := sl2 } ∧ R (.ok (.ret Value.none)) { s with heap := s.heap.update l (Obj.mapSeq fun x => x ++ items2), toks := s.toks }) :=
 .of_wp fun prog w A R s h => by
  obtain ⟨hp, g, d, tk, os⟩ := s; obtain ⟨hl, hb, h⟩ := h; have f1 := AutoSeq1.idx_int; have f2 := AutoSeq1.sub_tuple_tuple; have f3 := AutoSeq1.sub_list_list; have f4 := AutoSeq1.sub_tuple_list; have f5 := AutoSeq1.sub_list_tuple;
  have hz' : (items ++ items2).size ≤ sizeLine + 1 := by rw [Array.size_append]; exact hs2
  wp_walk using (wpAny_updateSeq hl rfl (hz := hc1) (_hz' := hz')), AutoSeq1.wpAny_loadPart' hl, AutoSeq1.wpAny_loadPart' hb; exact ⟨_, rfl, h⟩
def rExtW (K : PySem.W.Frag) : V → List V → Hp → VK → Prop := fun x vs H Q => ∃ l b xs zs, x = .ref l ∧ vs = [.ref b] ∧ H l = some (.lst xs) ∧ SqL K H b zs ∧ xs.length + zs.length ≤ sizeLine ∧ Q .non (upd H l (.lst (xs ++ zs)))
theorem rExtW_mono {K : PySem.W.Frag} {x : V} {vs : List V} {H : Hp} {Q Q' : VK} (h : rExtW K x vs H Q) (k : ∀ v H', Q v H' → Q' v H') : rExtW K x vs H Q' := by
 obtain ⟨l, b, xs, zs, e1, e2, e3, e4, e5, q⟩ := h
 exact ⟨l, b, xs, zs, e1, e2, e3, e4, e5, k _ _ q⟩
section
variable {X : Cx}
theorem mt_extendW : MtM X "list.extend" (rExtW X.K) := by
 intro pins s σ H x vs v us Q I rx rv h
 obtain ⟨l, b, xs, zs, rfl, rfl, hH, hB, hz, q⟩ := h
 cases rx
 obtain ⟨u, rfl, ru⟩ := rv.one
 cases ru
 obtain ⟨z, its, n, r, hl, e⟩ := I.lstM hH
 obtain ⟨its2, r2, p2, z2⟩ := I.list hB
 obtain ⟨⟨cls2, dd2, data2, sl2⟩, n2, ho2, hc2, hdd2, hd2⟩ := id p2
 simp only at hc2 hd2
 subst hc2 hd2
 have l1 := r.length
 have l2 := r2.length
 have hsz : its.toArray.size + its2.toArray.size ≤ sizeLine := by rw [List.size_toArray, List.size_toArray]; omega
 have hlong : ¬ (!its.toArray.isEmpty && Builtin.List.listTooLong (its.toArray.size + its2.toArray.size)) = true := by
  rw [notLongL hsz, Bool.and_false]
  exact Bool.false_ne_true
 refine call_meets F.slot_list_extend ⟨_, e, rfl⟩ F.entry_list_extend (F.args_list_extend_2 _ _)
  (list_extendW l its.toArray n b its2.toArray n2 dd2 sl2 hlong (by rw [List.size_toArray]; omega) (by omega)) ⟨e, ho2, ?_⟩
 refine ⟨.non, _, I.lset (its' := its ++ its2) hH e (by simp) (r.append r2) ?_, rfl, q⟩
 rw [List.length_append]
 omega
end
section
variable {Ω : Wd}
def Ex.m_extend (o a : Ex Ω) : Ex Ω where
 lev := max o.lev a.lev
 chk top N nm e := match e with | .Call (.Attribute x m p) [y] [] q => (m == ("extend" : Str)) && (nameE x && ((p.endLine == q.line) && (okE y && (o.chk top N nm x && a.chk top N nm y)))) | _ => false
 wp Γ S W := o.wp Γ S fun x S1 => match x with | .loc k => a.wp Γ S1 fun d S2 => ∃ ds es, S2[k]? = some ds ∧ lsOf S2 d = some es ∧ ds.length + es.length ≤ 1000000 ∧ W .non (S2.set k (ds ++ es)) | _ => False
 sound := by
  intro X r top N nm e Γ S W A hl hc hw
  obtain ⟨l1, l2⟩ := lv2 hl
  split at hc
  · rename_i x m p y q
    obtain ⟨h1, g⟩ := and2 hc
    obtain ⟨h2, g⟩ := and2 g
    obtain ⟨h3, g⟩ := and2 g
    obtain ⟨h4, g⟩ := and2 g
    obtain ⟨h5, h6⟩ := and2 g
    have e := eq_of_beq h1
    subst e
    refine ev_bmO F.slot_list_extend F.type_list_extend mt_extendW rExtW_mono ((o.sound A l1 h5 hw).mono fun x S1 q => ?_) ?_ (few1 h4) h3 (star_ok h4 _ _) rfl
    · cases x <;> first | exact q.elim | skip
      refine ⟨_, rfl, eva_cons ((a.sound A l2 h6 q).mono fun d S2 q => eva_nil ?_) (star_ok h4 _ _)⟩
      obtain ⟨ds, es, hk, he, hz, w⟩ := q
      refine ⟨ds, hk, fun O H a xs vs ha hx rx rv st => ?_⟩
      cases rv with
      | cons r1 t =>
        cases t
        have key : ∀ v, Rep X.K O H v d → ∃ b zs, v = .ref b ∧ SqL X.K H b zs ∧ Reps X.K O H zs es := by
         intro v r1
         cases r1 with
         | @lst b zs _ g1 q1 => cases he; exact ⟨b, zs, rfl, g1.sq, q1⟩
         | @loc b j g1 =>
           obtain ⟨zs, hz', q1⟩ := st.obj j b es g1 he
           exact ⟨b, zs, rfl, SqL.of hz', q1⟩
         | _ => cases he
        obtain ⟨b, zs, rfl, hb, rz⟩ := key _ r1
        refine ⟨a, b, xs, zs, rfl, rfl, hx, hb, by rw [rx.length, rz.length]; exact small hz, O, .non, _, w, Step.put (List.mem_of_getElem? ha) _, ?_, .non⟩
        exact st.put ha (rx.append rz)
    · cases x <;> first | rfl | exact ff h2
  · exact ff hc
end
end RF
namespace RF
open PySem PySem.Spec L2 DL
open PyProof.Rows
end RF
namespace RF
open PySem PySem.Spec L2 DL
open PyProof.Rows
end RF
namespace RF
open PySem PySem.Spec L2 DL
open PyProof.Rows
end RF
namespace XE
open PySem PySem.Spec PySem.W PySem.Calls PyProof.Rows Builtin Builtin.ObjectAttr Builtin.Getset_descriptor
def ExAt (x C : Addr) (h : Heap) : Prop := ∃ o vs, h.get? x = some o ∧ o.cls = .ref C ∧ o.data = .fields vs
structure Atr (K : Frag) (C : Addr) : Prop where
 ga : findIn K (.ref C) "__getattribute__" = some (some (.builtin "BaseException.__getattribute__"))
 gh : findIn K (.ref C) "__getattr__" = some none
 ca : findIn K (.ref C) "__class__" = some (some (.builtin "object.__class__"))
 sp : specialIn K (.builtin "object.__class__") "__get__" = some (some (.builtin "getset_descriptor.__get__"))
 tk : takesIn K (.builtin "object.__class__") = some true
 mo : mroIn K C (.type "object") = some true
 mb : mroIn K C (.type "BaseException") = some true
section
variable {K : Frag} {x C : Addr}
theorem Atr.cd (a : Atr K C) : ∃ cd, clsIn K C = some cd := by
 have := a.mo
 unfold mroIn at this
 cases e : clsIn K C with
 | none => rw [e] at this; cases this
 | some cd => exact ⟨cd, rfl⟩
theorem ExAt.ty {M : Model} {h : Heap} (p : ExAt x C h) : Looks M h (typeOf (.ref x)) (.ref C) := by
 obtain ⟨o, _, h1, h2, _⟩ := p
 exact h2 ▸ (Looks.ld h1).andThen .now
theorem find_cls {M : Model} {h : Heap} (X : K.In h) (a : Atr K C) : Looks M h (find (.ref x) (.ref C) "__class__") (.bind (.builtin "getset_descriptor.__get__") (.builtin "object.__class__")) := by
 unfold ObjectAttr.find
 refine (looks_findIn X a.ca).andThen ?_
 refine Looks.andThen (a := some (.builtin "getset_descriptor.__get__")) (looks_specialIn X a.sp) ?_
 refine Looks.andThen (a := some (.builtin "getset_descriptor.__get__", .builtin "object.__class__")) ?_ (Looks.tag .now)
 exact (looks_takesIn X a.tk).andThen .now
variable {prog : Program} {w : World} {A : Around} {E : Value → Shared → Prop} {s : Shared}
theorem cls_got {tp : Value} {R : Result → Shared → Prop} (X : K.In s.heap) (p : ExAt x C s.heap) (a : Atr K C) (hq : R (.ok (.ret (.ref C))) s) :
 codeAny (model prog w) A (.call (.builtin "getset_descriptor.__get__") ⟨[.builtin "object.__class__", .ref x, tp], []⟩) R s := by
 obtain ⟨hh, g, dr, t, os⟩ := s
 have Lt := p.ty (M := model prog w); have Lm := looks_mroIn (M := model prog w) X a.mo
 refine codeAny_call_builtin KF.slot_gs.plain KF.entry_gs ?_; refine KF.slot_gs.check _ _ _ _ _ _ _ _ KF.type_class (KF.args_gs _ _ _) ?_
 unfold Builtin.«getset_descriptor.__get__» descrGet; rw [dga_obj]; refine wpAny_bind (wpAny_pure ?_)
 unfold descrGetter descrCheckInstance descrNameAndClass isInstance; simp only [KF.owner_class]
 repeat lk
 refine ⟨Code.quiet_builtin _ (by decide +kernel), ?_⟩; refine codeAny_builtin KF.entry_class ?_
 unfold Builtin.«object.__class__» shownTypeOf; (repeat lk)
 exact hq
theorem exc_cls {Q : Option Value → Shared → Prop} (X : K.In s.heap) (p : ExAt x C s.heap) (a : Atr K C) (hq : Q (some (.ref C)) { s with toks := s.toks + 1 }) : wpAny (model prog w) A (getAttr? (.ref x) "__class__") Q E s := by
 obtain ⟨hh, g, dr, t, os⟩ := s
 have L0 := p.ty (M := model prog w)
 have L1 := looks_findIn (M := model prog w) X a.ga
 have L2 := looks_findIn (M := model prog w) X a.gh
 have L3 := find_cls (M := model prog w) (x := x) X a
 have LB := looks_mroIn (M := model prog w) X a.mb
 have hne : (Value.builtin "BaseException.__getattribute__" == Value.builtin "object.__getattribute__") = false := by decide +kernel
 unfold getAttr? getAttrBy? getAttrBy
 refine wpAny_bind (wpAny_mkText ?_)
 refine wpAny_bind (wpAny_attempt (wpAny_holding ?_))
 refine wpAny_bind (L0.at (wpAny_bind (L1.at ?_)))
 dsimp only
 rw [if_neg (by rw [hne, Bool.and_false]; decide)]
 unfold getAttrByItsOwn hookBefore
 rw [if_pos (show onTheHeap (Value.ref C) = true from rfl)]
 refine wpAny_bind (L2.at ?_)
 refine wpAny_bind (wpAny_attempt (wpAny_holding ?_))
 unfold callGetattribute boundAndCalled
 rw [if_neg (by decide), F.attr_ValueError.ga.bind]
 refine wpAny_bind (wpAny_pure ?_)
 refine wpAny_call (codeAny_call_builtin F.attr_ValueError.ga.plain F.entry_bexc_ga ?_)
 have hk : builtinKind "BaseException.__getattribute__" = some .slot := by decide +kernel
 have hs : splitId "BaseException.__getattribute__" = some ("BaseException", "__getattribute__") := by decide +kernel
 have ha := F.args_bexc_ga (.ref x) (.str "__class__" t)
 simp only [checkBuiltinCall, hk, hs]
 refine wpAny_bind (wpAny_bind (L0.at (LB.at ?_)))
 rw [if_neg (by decide)]
 unfold argsOk at ha
 rw [show ([Value.ref x] ++ [Value.str (Str.ofString "__class__") t]) = [Value.ref x, Value.str "__class__" t] from rfl]
 refine wpAny_of_eq (a := ()) (by with_unfolding_all exact ha) ?_
 unfold Builtin.«object.__getattribute__»
 refine wpAny_bind (wpAny_of_eq (a := (Value.ref x, [Value.str "__class__" t])) rfl ?_)
 refine wpAny_bind (wpAny_of_eq (a := ("__class__" : Str)) rfl ?_)
 refine wpAny_bind (L0.at (wpAny_bind (L3.at ?_)))
 dsimp only
 unfold bindTo
 dsimp only
 refine wpAny_bind (wpAny_holding (wpAny_call ?_))
 refine cls_got (K := K) (C := C) X p a ?_
 refine wpAny_pure ?_
 refine wpAny_of_eq (a := Value.ref C) rfl ?_
 exact wpAny_pure hq
theorem kitx_exc (a : Atr K C) : KitX K (.ref x) (.ref C) (ExAt x C) where
 ty _ _ _ p := p.ty
 it M h X _ := by
  obtain ⟨cd, hc⟩ := a.cd
  unfold clsIn at hc
  split at hc
  · next ho => intro A' Q' E' s' k q; unfold isType loadHead; exact wpAny_bind (wpAny_loadPart (k _ _ (X _ _ ho)) (wpAny_pure q))
  · cases hc
 ne h tp dd its n sl X htp := by
  obtain ⟨cd, hc⟩ := a.cd
  unfold clsIn at hc
  split at hc
  · next ho =>
    cases hb : (Value.ref C == .ref tp) with
    | false => rfl
    | true =>
      have e : C = tp := Value.ref.inj (eq_of_beq hb)
      have z := X _ _ ho
      rw [e, htp] at z
      cases z
  · cases hc
 ca X p k := exc_cls X p a k
end
abbrev bmVE : List Value := [.type "ValueError", .type "Exception", .type "BaseException", .type "object"]
abbrev newVE : String := "ValueError.__new__"
theorem own_cls {K : Frag} {h : Heap} {x : Str} {C : Addr} {bmB : List Value} {nid : String} {mg : Str → Option Value} (X : K.In h) (hm : mg x = some (.ref C)) (q : excIn K C bmB nid = true) : OwnCls x C bmB nid mg h := by
 constructor
 · exact hm
 · unfold excIn at q
   split at q
   · next dd cd sl ho =>
     split at q
     · next C' bm k0 k1 k2 k3 n k5 hmr hsl =>
       rw [Bool.and_eq_true, Bool.and_eq_true, Bool.and_eq_true, Bool.and_eq_true, Bool.and_eq_true] at q
       obtain ⟨⟨⟨⟨⟨e1, e2⟩, e3⟩, e4⟩, e5⟩, e6⟩ := q
       have e1 := eq_of_beq e1
       have e2 := eq_of_beq e2
       subst e1
       subst e2
       obtain ⟨nm, bs, mro, ns, qn, hd, sn, sub, ab, col, del⟩ := cd
       simp only [Bool.not_eq_true'] at hmr e3 e5 e6
       subst hmr
       subst e3
       obtain ⟨l⟩ := sl
       obtain rfl : l = _ := hsl
       exact ⟨bm, ns, nm, qn, bs, hd, sn, sub, ab, col, dd, k0, k1, k2, k3, k5, _, X _ _ ho, .of_isNs (isNs_of_in X e5), nsMap_none_of_in X e5 (eq_of_beq e6), tail_of_in X e4⟩
     · cases q
   · cases q
end XE
namespace XE
open PySem PySem.Spec L2 DL RF
open PyProof.Rows
theorem ObjOk.some {P : Program} {w : World} {H : Hp} {h : Heap} {a : Addr} {o : HO} (x : ObjOk P w H h a o) : ∃ u, h.get? a = some u := by
 cases o with
 | lst xs => obtain ⟨_, _, _, _, e⟩ := x; exact ⟨_, e⟩
 | tup xs => obtain ⟨_, _, _, o, e, _⟩ := x; exact ⟨_, e⟩
 | dK kvs => obtain ⟨_, _, _, _, o, _, _, e, _⟩ := x; exact ⟨_, e⟩
 | dT kvs => obtain ⟨_, _, _, _, o, _, _, e, _⟩ := x; exact ⟨_, e⟩
 | set S n => obtain ⟨o, _, _, _, e, _⟩ := x; exact ⟨_, e⟩
 | ins C dx fs => obtain ⟨_, _, _, e, _⟩ := x; exact ⟨_, e⟩
 | own y => exact x
 | xd fs => obtain ⟨_, ⟨_, _, _, e, _⟩, _⟩ := x; exact ⟨_, e⟩
 | rng lo hi => obtain ⟨_, _, _, e⟩ := x; exact ⟨_, e⟩
 | frz ob u => exact ⟨_, x.1⟩
 | tbl ps => exact ⟨_, show h.get? a = _ from x⟩
 | met f y => exact ⟨_, show h.get? a = _ from x⟩
 | ext φ => exact x.2.1
theorem HOk.none {P : Program} {w : World} {H : Hp} {h : Heap} {a : Addr} (k : HOk P w H h) (e : h.get? a = none) : H a = none := by
 cases q : H a with
 | none => rfl
 | some o => obtain ⟨u, z⟩ := ObjOk.some (k a o q); rw [e] at z; cases z
structure Fl (P : Program) (w : World) (outer : List Env) (H : Hp) (h0 : Heap) (H' : Hp) (B h : Heap) : Prop where
 hok : HOk P w H' B
 keep : ∀ b o, h0.get? b = some o → H b = none → b ∉ frs outer → B.get? b = some o
 there : ∀ b o, h0.get? b = some o → b ∉ frs outer → ∃ o', B.get? b = some o'
 slot : ∀ b o, h0.get? b = some o → b ∈ frs outer → ∃ sl, h.get? b = some { o with slots := sl }
 free : ∀ b o, h0.get? b = some o → H b = none → H' b = none
 tups : ∀ b xs, H b = some (.tup xs) → H' b = some (.tup xs)
 frzs : ∀ b o u, H b = some (.frz o u) → H' b = some (.frz o u)
 tbls : ∀ b ps, H b = some (.tbl ps) → ∃ more, H' b = some (.tbl (ps ++ more))
section
variable {P : Program} {w : World} {outer : List Env} {H H' : Hp} {h0 B h h' : Heap}
theorem Fl.un (f : Fl P w outer H h0 H' B h) (st : B.StaysIn h) : Un (frs outer) [] H H' h0 h where
 keep b o q n hb _ := st b o (f.keep b o q n hb)
 slot b o q n hb _ := f.slot b o q hb
 free b o q n _ := f.free b o q n
 there b o q _ := by
  by_cases hb : b ∈ frs outer
  · obtain ⟨sl, e⟩ := f.slot b o q hb; exact ⟨_, e⟩
  · obtain ⟨o', e⟩ := f.there b o q hb; exact ⟨o', st b o' e⟩
 tups := f.tups
 frzs := f.frzs
 tbls := f.tbls
theorem Fl.on (f : Fl P w outer H h0 H' B h) (u : h.UpToSlots h') (ff : h.FunFrames B outer) : Fl P w outer H h0 H' B h' := by
 refine ⟨f.hok, f.keep, f.there, fun b o q hb => ?_, f.free, f.tups, f.frzs, f.tbls⟩
 obtain ⟨sl, e⟩ := f.slot b o q hb
 obtain ⟨_, o', e', d⟩ := ff.mem hb
 rw [e] at e'
 cases e'
 obtain ⟨sl2, e2⟩ := u b _ e d
 exact ⟨sl2, e2⟩
end
def CXE (P : Program) (w : World) : CXT := fun outer H s E e s' => ∃ a C t H' B, e = .ref a ∧ s'.os = s.os ∧ AllBare s'.gens ∧ Fl P w outer H s.heap H' B s'.heap ∧ Heap.FlyingW B outer a (.ref C) (.ref t) s'.heap ∧ E (.ref C) none H'
section
variable {X : Cx} {pins : Pins} {σ : L2.St} {H1 : Hp} {s1 : Shared}
theorem frs_cons (l : List Env) (env : Env) {L : Addr} (h : env.frame = some L) : frs (env :: l) = L :: frs l := by
 unfold frs; rw [List.filterMap_cons, h]
theorem fl_at (I : Inv X pins σ H1 s1) (hst : X.stack = X.env :: X.outer) (hfr : X.env.frame = some X.env.locals) (hex : X.ex = []) {h' : Heap}
 (hs : ∀ b o, s1.heap.get? b = some o → b ∈ frs X.outer → ∃ sl, h'.get? b = some { o with slots := sl }) :
 Fl X.prog X.w X.outer X.H₀ X.s₀.heap H1 (PySem.W.hideAll s1.heap (frs X.stack)) h' := by
 have ne : ∀ b o, X.s₀.heap.get? b = some o → b ≠ X.env.locals := fun b o q z => absurd (Nat.lt_of_lt_of_le (Heap.lt_size q) (z ▸ I.ok.above)) (Nat.lt_irrefl _)
 have nin : ∀ b o, X.s₀.heap.get? b = some o → b ∉ frs X.outer → b ∉ frs X.stack := fun b o q hb z => by
  rw [hst, frs_cons _ _ hfr] at z
  rcases List.mem_cons.mp z with z | z
  · exact ne b o q z
  · exact hb z
 have nx : ∀ b, b ∉ X.ex := fun b z => by rw [hex] at z; cases z
 refine ⟨fun a o e => ?_, fun b o q n hb => ?_, fun b o q hb => ?_, fun b o q hb => ?_, fun b o q n => I.base.free b o q n (nx b), I.base.tups, I.base.frzs, I.base.tbls⟩
 · refine (I.hok a o e).stay (fun b u hb r => ?_) (fun _ r => r) (fun _ _ r => r)
   refine PySem.W.hideAll_get _ r fun z => ?_
   have n := I.stkFree b z
   rcases hb with rfl | hb
   · rw [e] at n; cases n
   · rw [hb] at n; cases n
 · exact PySem.W.hideAll_get _ (I.base.keep b o q n hb (nx b)) (nin b o q hb)
 · obtain ⟨o', e⟩ := I.base.there b o q (nx b)
   exact ⟨o', PySem.W.hideAll_get _ e (nin b o q hb)⟩
 · obtain ⟨sl, e⟩ := I.base.slot b o q (I.ok.frf b hb) hb (nx b)
   obtain ⟨sl2, e2⟩ := hs b _ e hb
   exact ⟨sl2, e2⟩
theorem leave_made {P : Program} {w : World} {K : PySem.W.Frag} {mg : Str → Option Value} {base : Heap} {N : List Str} {qual : Str} {sc : Scope} {f : Addr} {cd : Value} {A : Around} {outer : List Env} {s : Shared} {H : Hp} {E : XK} {a C : Addr} {vs : List Value} {s2 : Shared}
 (I : Inv (cxOf (CXE P w) P w K mg base N qual sc f cd A outer s H E) pins σ H1 s1) (ho : s2.os = s1.os) (hg : s2.gens = s1.gens) (hx : Heap.MadeExcOf s1.heap s2.heap a (.ref C) vs) (hE : E (.ref C) none H1) :
 (cxOf (CXE P w) P w K mg base N qual sc f cd A outer s H E).xe (.ref a) s2 := by
 let X := cxOf (CXE P w) P w K mg base N qual sc f cd A outer s H E
 have hin : ∀ env ∈ X.stack, ∀ b, env.frame = some b → b ∈ frs X.stack := fun env he b hb => List.mem_filterMap.mpr ⟨env, he, hb⟩
 refine wpAny_leaves_madeW (base := PySem.W.hideAll s1.heap (frs X.stack)) (h := s1.heap) (outer := outer) I.ok.frames rfl (fun b o q => PySem.W.of_hideAll _ q) (PySem.W.funFrames_hide I.stack hin) hx fun h' t x1 x2 x3 x4 => ?_
 refine ⟨a, C, t, H1, _, rfl, ho.trans I.os, by show AllBare s2.gens; rw [hg]; exact I.bare, ?_, x1, hE⟩
 refine fl_at I rfl rfl rfl fun b o q hb => ?_
 obtain ⟨_, o', e', d⟩ := I.funs.mem hb
 rw [q] at e'
 cases e'
 exact x4 b o (hx.keeps b o q) d
theorem leave_on {P : Program} {w : World} {K : PySem.W.Frag} {mg : Str → Option Value} {base : Heap} {N : List Str} {qual : Str} {sc : Scope} {f : Addr} {cd : Value} {A : Around} {outer : List Env} {s : Shared} {H : Hp} {E E' : XK} {e : Value} {s2 : Shared}
 (I : Inv (cxOf (CXE P w) P w K mg base N qual sc f cd A outer s H E) pins σ H1 s1) (h : CXE P w (cxOf (CXE P w) P w K mg base N qual sc f cd A outer s H E).stack H1 s1 E' e s2) (hE : ∀ c H', E' (.ref c) none H' → E (.ref c) none H') :
 (cxOf (CXE P w) P w K mg base N qual sc f cd A outer s H E).xe e s2 := by
 let X := cxOf (CXE P w) P w K mg base N qual sc f cd A outer s H E
 obtain ⟨a, C, t, H', B, rfl, ho, hg, fl, fw, hq⟩ := h
 refine wpAny_leaves_onW (base := B) (outer := outer) I.ok.frames rfl fw fun h' x1 x2 => ?_
 refine ⟨a, C, t, H', B, rfl, ho.trans I.os, hg, ?_, x1, hE _ _ hq⟩
 have ne : ∀ b o, s.heap.get? b = some o → b ≠ X.env.locals := fun b o q z => absurd (Nat.lt_of_lt_of_le (Heap.lt_size q) (z ▸ I.ok.above)) (Nat.lt_irrefl _)
 have nin : ∀ b o, s.heap.get? b = some o → b ∉ frs outer → b ∉ frs X.stack := fun b o q hb z => by
  rw [show frs X.stack = X.env.locals :: frs outer from frs_cons outer X.env rfl] at z
  rcases List.mem_cons.mp z with z | z
  · exact ne b o q z
  · exact hb z
 have nx : ∀ b : Addr, b ∉ ([] : List Addr) := fun b z => nomatch z
 refine ⟨fl.hok, fun b o q n hb => ?_, fun b o q hb => ?_, fun b o q hb => ?_, fun b o q n => ?_, fun b xs q => fl.tups b xs (I.base.tups b xs q), fun b o u q => fl.frzs b o u (I.base.frzs b o u q), fun b ps q => ?_⟩
 · exact fl.keep b o (I.base.keep b o q n hb (nx b)) (I.base.free b o q n (nx b)) (nin b o q hb)
 · obtain ⟨o', e⟩ := I.base.there b o q (nx b)
   exact fl.there b o' e (nin b o q hb)
 · obtain ⟨sl, e⟩ := I.base.slot b o q (I.ok.frf b hb) hb (nx b)
   have hb' : b ∈ frs X.stack := by rw [show frs X.stack = X.env.locals :: frs outer from frs_cons outer X.env rfl]; exact List.mem_cons_of_mem _ hb
   obtain ⟨sl2, e2⟩ := fl.slot b _ e hb'
   obtain ⟨_, o', e', d⟩ := fw.2.2.1.mem hb'
   rw [e2] at e'
   cases e'
   obtain ⟨sl3, e3⟩ := x2 b _ e2 d
   exact ⟨sl3, e3⟩
 · obtain ⟨o', e⟩ := I.base.there b o q (nx b)
   exact fl.free b o' e (I.base.free b o q n (nx b))
 · obtain ⟨m1, e1⟩ := I.base.tbls b ps q
   obtain ⟨m2, e2⟩ := fl.tbls b _ e1
   exact ⟨m1 ++ m2, by rw [e2, Array.append_assoc]⟩
end
end XE
namespace XE
open PySem PySem.Spec L2 DL RF
open PyProof.Rows
abbrev WX := Str → Store → Prop
abbrev XCt := List D → Store → WD → WX → Prop
def QX (mg : Str → Option Value) (K : PySem.W.Frag) (O : Own) (H : Hp) (WE : WX) (c : Value) (H' : Hp) : Prop := ∃ nm O' S', mg nm = some c ∧ WE nm S' ∧ Step O O' H H' ∧ StOk K O' H' S'
theorem QX.pre {mg : Str → Option Value} {K : PySem.W.Frag} {O O1 : Own} {H H1 H' : Hp} {WE : WX} {c : Value} (st : Step O O1 H H1) (q : QX mg K O1 H1 WE c H') : QX mg K O H WE c H' := by
 obtain ⟨nm, O', S', h1, h2, h3, h4⟩ := q
 exact ⟨nm, O', S', h1, h2, st.trans h3, h4⟩
def spX (mg : Str → Option Value) (K : PySem.W.Frag) (n : Nat) (F : XCt) : Sp := fun vs H Q E => ∃ O ds S W WE, ds.length = n ∧ Reps K O H vs ds ∧ StOk K O H S ∧ F ds S W WE ∧ (∀ v H', QG K O H W v H' → Q v H') ∧ ∀ c H', QX mg K O H WE (.ref c) H' → E (.ref c) none H'
def XR (X : Cx) (O : Own) (H : Hp) (WE : WX) (e : Value) (s2 : Shared) : Prop :=
 (∃ pins σ H1 s1 a C vs, e = .ref a ∧ Inv X pins σ H1 s1 ∧ s2.os = s1.os ∧ s2.gens = s1.gens ∧ Heap.MadeExcOf s1.heap s2.heap a (.ref C) vs ∧ QX X.mg X.K O H WE (.ref C) H1) ∨
 (∃ pins σ H1 s1 E', Inv X pins σ H1 s1 ∧ CXE X.prog X.w X.stack H1 s1 E' e s2 ∧ ∀ c H', E' (.ref c) none H' → QX X.mg X.K O H WE (.ref c) H')
theorem XR.pre {X : Cx} {O O1 : Own} {H H1 : Hp} {WE : WX} {e : Value} {s2 : Shared} (st : Step O O1 H H1) (h : XR X O1 H1 WE e s2) : XR X O H WE e s2 := by
 rcases h with ⟨pins, σ, H2, s1, a, C, vs, h1, h2, h3, h4, h5, h6⟩ | ⟨pins, σ, H2, s1, E', h1, h2, h3⟩
 · exact .inl ⟨pins, σ, H2, s1, a, C, vs, h1, h2, h3, h4, h5, h6.pre st⟩
 · exact .inr ⟨pins, σ, H2, s1, E', h1, h2, fun c H' z => (h3 c H' z).pre st⟩
def RnsX (X : Cx) (Γ : Gam) (S : Store) (sts : List Stmt) (W : DL.Fin) (WE : WX) : Prop :=
 ∀ (pins : Pins) (s : Shared) (σ : L2.St) (H : Hp) (O : Own), Inv X pins σ H s → EnvOk X.K O H σ Γ → StOk X.K O H S →
   wpAny (model X.prog X.w) X.A (execs sts X.env) (SP X pins (ends X.K O H W)) (XR X O H WE) s
section
variable {X : Cx} {Γ : Gam} {S : Store} {sts : List Stmt} {st : Stmt} {W : DL.Fin} {WE : WX} {e : Expr} {es : List Expr}
theorem rx_of (h : Rns X.nox Γ S sts W) : RnsX X Γ S sts W WE := fun pins s σ H O I env ok =>
 wpAny_mono (h pins s σ H O (I.wish _) env ok) (fun _ _ q => q.unwish) fun _ _ z => z.elim
theorem rx_cons (h : Rn X.nox Γ S st { W with nx := fun Γ1 S1 => RnsX X Γ1 S1 sts W WE }) : RnsX X Γ S (st :: sts) W WE := by
 intro pins s σ H O I env ok
 refine wpAny_execs_cons (wpAny_mono (h pins s σ H O (I.wish _) env ok) (fun f s1 q => ?_) fun _ _ z => z.elim)
 cases f with
 | next =>
   obtain ⟨σ', H', I', O1, Γ1, S1, w, st1, ok1, env1⟩ := q
   exact wpAny_mono (w pins s1 σ' H' O1 I'.unwish env1 ok1) (fun _ _ q => SPpre st1 q) fun _ _ z => z.pre st1
 | ret v => exact q.unwish
 | brk => exact q.unwish
 | cont => exact q.unwish
def Exc (Ω : Wd) (x : Str) : Prop := ∃ C, Ω.mg x = some (.ref C) ∧ PySem.W.excIn Ω.K C bmVE newVE = true ∧ Atr Ω.K C
theorem raise_x {x : Str} {C : Addr} {np cp rp : Pos} {pins : Pins} {s : Shared} {σ : L2.St} {H : Hp} {O : Own} {Q : Flow → Shared → Prop} (hm : X.mg x = some (.ref C)) (hx : PySem.W.excIn X.K C bmVE newVE = true) (hcalm : X.calm = true)
 (h : EvA X.nox Γ S [e] fun ds S1 => ds.length = 1 ∧ WE x S1) (hg : Gl X x) (hdb : (x == ("__debug__" : Str)) = false) (hs : starEach [e] X.env = [(false, eval e X.env)])
 (I : Inv X pins σ H s) (env : EnvOk X.K O H σ Γ) (ok : StOk X.K O H S) :
 wpAny (model X.prog X.w) X.A (exec (.Raise (some (.Call (.Name x np) [e] [] cp)) none rp) X.env) Q (XR X O H WE) s := by
 have OC := own_cls (mg := X.mg) I.ok.mod.kin hm hx
 obtain ⟨tl, N, nm, q, bs, hd, sn, sub, ab, col, dd, k0, k1, k2, k3, k5, mN, hC, hN, hni, T⟩ := OC.obj
 have hpl : (backTo cp (starEach [e] X.env)).any (·.1) = false := by rw [hs]; rfl
 refine wpAny_Raise_call_subT (C := C) (bm := tl) (mN := mN) (hdct := hd) (N := N) (nm := nm) (q := q) (bs := bs) (sn := sn) (sub := sub) (ab := ab) (col := col) (dd := dd) (k0 := k0) (k1 := k1) (k2 := k2) (k3 := k3) (k5 := k5) PySem.F.excBase_ValueError (T.hasType PySem.F.excBase_ValueError.hasBase) (I.ok.hd hcalm) hpl hni (ld_glob I hg hm ⟨rfl, ?_⟩ hdb)
 have h' := h cp pins s σ H O (I.wish _) env ok
 have h' : wpAny (model X.prog X.w) X.A (spliced (backTo cp (starEach [e] X.env))) (AP X.nox pins σ (QA X.K O H fun ds S1 => ds.length = 1 ∧ WE x S1)) (fun _ _ => False) s := h'
 rw [hs] at h' ⊢
 refine Calls.evalArgs_plain (wpAny_mono h' (fun vs s2 hq => ?_) fun _ _ z => z.elim)
 obtain ⟨ws, H1, I1, r1, O1, ds, S1, ⟨l1, w1⟩, st1, ok1, rp1⟩ := hq
 have I1 := I1.unwish
 refine ⟨rfl, ?_, I1.bk _ _ hC, hN.keeps I1.bk, T.keeps I1.bk, fun h2 a hm2 => .inl ⟨pins, σ, H1, s2, a, C, vs, rfl, I1, rfl, rfl, hm2, x, O1, S1, hm, w1, st1, ok1⟩⟩
 rw [← r1.length, rp1.length, l1]; decide
theorem rx_ifr {c : Expr} {x : Str} {C : Addr} {np cp rp pos : Pos} (hm : X.mg x = some (.ref C)) (hx : PySem.W.excIn X.K C bmVE newVE = true) (hcalm : X.calm = true)
 (h : Ts X.nox Γ S c fun k S1 => (k = true → EvA X.nox Γ S1 [e] fun ds S2 => ds.length = 1 ∧ WE x S2) ∧ (k = false → RnsX X Γ S1 sts W WE)) (hg : Gl X x) (hdb : (x == ("__debug__" : Str)) = false) (hs : starEach [e] X.env = [(false, eval e X.env)]) :
 RnsX X Γ S (.If c [.Raise (some (.Call (.Name x np) [e] [] cp)) none rp] [] pos :: sts) W WE := by
 intro pins s σ H O I env ok
 refine wpAny_execs_cons (wpAny_If (wpAny_mono (h pins s σ H O (I.wish _) env ok) (fun d s1 hq => ?_) fun _ _ z => z.elim))
 obtain ⟨H1, I1, O1, S1, w, st1, ok1⟩ := hq
 have I1 := I1.unwish
 cases d with
 | true =>
   refine wpAny_execs_cons (wpAny_mono (raise_x (Q := fun _ _ => False) hm hx hcalm (w.1 rfl) hg hdb hs I1 (env.mono st1) ok1) (fun _ _ z => z.elim) fun _ _ z => z.pre st1)
 | false =>
   refine wpAny_execs_nil ?_
   exact wpAny_mono (w.2 rfl pins s1 σ H1 O1 I1 (env.mono st1) ok1) (fun _ _ q => SPpre st1 q) fun _ _ z => z.pre st1
end
end XE
namespace XE
open PySem PySem.Spec L2 DL RF
open PyProof.Rows
variable {Ω : Wd}
structure BX (Ω : Wd) where
 lev : Nat
 chk : Bool → List Str → Nm → List Stmt → Bool
 wp : Gam → Store → DL.Fin → WX → Prop
 sound : ∀ {X : Cx} {r : Nat} {top : Bool} {N : List Str} {nm : Nm} {sts : List Stmt} {Γ : Gam} {S : Store} {W : DL.Fin} {WE : WX}, At Ω X.nox r top N nm → lev ≤ r → chk top N nm sts = true → wp Γ S W WE → RnsX X Γ S sts W WE
def BX.of (b : Bl Ω) : BX Ω where
 lev := b.lev
 chk := b.chk
 wp Γ S W _ := b.wp Γ S W
 sound := by
  intro X r top N nm sts Γ S W WE A hl hc hw
  exact rx_of (b.sound A hl hc hw)
def BX.ifr {x : Str} (ex : Exc Ω x) (c : Te Ω) (rest : BX Ω) : BX Ω where
 lev := max c.lev rest.lev
 chk top N nm sts := match sts with
  | .If ce [.Raise (some (.Call (.Name y _) [.Constant (.str _) _ _] [] _)) none _] [] _ :: sts => (y == x) && (glb nm x && (okN x && (c.chk top N nm ce && rest.chk top N nm sts)))
  | _ => false
 wp Γ S W WE := c.wp Γ S fun k S1 => (k = true → WE x S1) ∧ (k = false → rest.wp Γ S1 W WE)
 sound := by
  intro X r top N nm sts Γ S W WE A hl hc hw
  obtain ⟨l1, l2⟩ := lv2 hl
  split at hc
  · rename_i ce y np m j cp0 cp rp pos sts
    obtain ⟨h1, hc⟩ := and2 hc
    obtain ⟨h2, hc⟩ := and2 hc
    obtain ⟨h3, hc⟩ := and2 hc
    obtain ⟨h4, h5⟩ := and2 hc
    have e : y = x := eq_of_beq h1
    subst e
    obtain ⟨C, hm, hx, _⟩ := ex
    refine rx_ifr (C := C) (by rw [show X.mg = Ω.mg from A.g]; exact hm) (by rw [show X.K = Ω.K from A.k]; exact hx) A.calm (Ts.mono (c.sound A l1 h4 hw) fun k S1 q => ⟨fun hk => ?_, fun hk => rest.sound A l2 h5 (q.2 hk)⟩) (A.glb h2) (okN_at h3).1 rfl
    exact eva_cons (ev_str (eva_nil ⟨rfl, q.1 hk⟩)) rfl
  · exact fE hc
def BX.cons (s : Sm Ω) (rest : BX Ω) : BX Ω where
 lev := max s.lev rest.lev
 chk top N nm sts := match sts with | st :: sts => s.chk top N nm st && rest.chk top N nm sts | _ => false
 wp Γ S W WE := s.wp Γ S { W with nx := fun Γ1 S1 => rest.wp Γ1 S1 W WE }
 sound := by
  intro X r top N nm sts Γ S W WE A hl hc hw
  obtain ⟨l1, l2⟩ := lv2 hl
  cases sts with
  | nil => exact fE hc
  | cons st sts =>
    obtain ⟨h1, h2⟩ := and2 hc
    exact rx_cons (Rn.mono (s.sound A l1 h1 hw) (fun G S1 q => rest.sound A l2 h2 q) (fun _ _ q => q) (fun _ _ q => q) fun _ _ q => q)
structure CalleeX (P : Program) (w : World) (K : PySem.W.Frag) (mg : Str → Option Value) (base : Heap) (x : Str) (k n : Nat) (F : XCt) : Prop where
 ex : ∃ f fd ps, FnOk P w K mg base (CXE P w) k f fd ps (spX mg K n F) ∧ mg x = some (.ref f) ∧ PySem.W.keepIn K (.ref f) = true ∧ Binds K fd ps []
abbrev CalX (Ω : Wd) (x : Str) (k n : Nat) (F : XCt) : Prop := CalleeX Ω.P Ω.w Ω.K Ω.mg Ω.base x k n F
abbrev OkX (Ω : Wd) (k : Nat) (f : Addr) (fd : FuncData) (ps : List Str) (F : XCt) : Prop := FnOk Ω.P Ω.w Ω.K Ω.mg Ω.base (CXE Ω.P Ω.w) k f fd ps (spX Ω.mg Ω.K ps.length F)
theorem calleeX {x qual : Str} {sm : Stmt} {f : Addr} {fd : FuncData} {ps : List Str} {k n : Nat} {F : XCt} (FF : Fun Ω.K x qual sm f fd) (h : FnOk Ω.P Ω.w Ω.K Ω.mg Ω.base (CXE Ω.P Ω.w) k f fd ps (spX Ω.mg Ω.K n F)) (hm : Ω.mg x = some (.ref f)) (b : Binds Ω.K fd ps []) : CalleeX Ω.P Ω.w Ω.K Ω.mg Ω.base x k n F := ⟨f, fd, ps, h, hm, FF.kp, b⟩
theorem env_start {K : PySem.W.Frag} {O : Own} {H : Hp} {N : List Str} {vs : List V} {ds : List D} (r : Reps K O H vs ds) : EnvOk K O H (L2.start N vs) (ds.map some ++ List.replicate (N.length - ds.length) none) := by
 have hv : vs.length = ds.length := r.length
 constructor
 · simp [L2.start, hv]
 · intro i d h
   by_cases hi : i < ds.length
   · rw [List.getElem?_append_left (by simpa using hi), List.getElem?_map] at h
     cases e : ds[i]? with
     | none => rw [e] at h; cases h
     | some d' =>
       rw [e] at h
       cases h
       obtain ⟨v, hv', rv⟩ := r.get e
       refine ⟨v, ?_, rv⟩
       unfold L2.start
       rw [List.getElem?_append_left (by rw [List.length_map, hv]; exact hi), List.getElem?_map, hv']
       rfl
   · rw [List.getElem?_append_right (by simpa using hi), List.getElem?_replicate] at h
     split at h <;> cases h
theorem fn_okX {P : Program} {w : World} {K : PySem.W.Frag} {mg : Str → Option Value} {base : Heap} {x qual : Str} {sm : Stmt} {f : Addr} {fd : FuncData} {N ps : List Str} {k : Nat} {F : XCt} (FF : Fun K x qual sm f fd) (SC : FnScope N ps (defScope sm))
 (body : ∀ (cdv : Value) (A : Around) (outer : List Env) (s : Shared) (H : Hp) (E : XK) (ds : List D) (S : Store) (W : WD) (WE : WX), Room k (A.deeper (envOfC qual (defScope sm) s.heap.objs.size f cdv)) → ds.length = ps.length → F ds S W WE →
  RnsX (cxOf (CXE P w) P w K mg base N qual (defScope sm) f cdv A outer s H E) (ds.map some ++ List.replicate (N.length - ds.length) none) S (defBody sm) { nx := fun _ S1 => W .non S1, rt := W } WE) : FnOk P w K mg base (CXE P w) (k + 1) f fd ps (spX mg K ps.length F) := by
 obtain ⟨oc, od, kV, doc, pm, an, cdv, ct, osl, rfl, lk, hcd⟩ := FF.ex
 refine fn_of lk hcd SC (fun vs H Q E h => ?_) fun A outer s H vs Q E hr h => ?_
 · obtain ⟨O, ds, S, W, WE, hl, r, _⟩ := h
   rw [r.length, hl]
 · obtain ⟨O, ds, S, W, WE, hl, r, st, hF, q, qe⟩ := h
   have hB := body cdv A outer s H E ds S W WE hr hl hF
   refine ⟨fun D σ H' => σ = L2.start N vs ∧ H' = H ∧ (∀ σ' H2, QN K O H (fun _ S1 => W .non S1) σ' H2 → D.nx σ' H2) ∧ (∀ v H2, QG K O H W v H2 → D.rt v H2), ?_, rfl, rfl, ?_, fun v H2 z => q v H2 z⟩
   · rintro pins s1 σ H' D I ⟨rfl, rfl, k1, k2⟩
     refine wpAny_mono (hB pins s1 _ H' O I (env_start r) st) (fun f s' q => ?_) fun e s2 z => ?_
     · cases f with
       | next => obtain ⟨σ', H', I', q⟩ := q; exact ⟨σ', H', I', k1 σ' H' q⟩
       | brk => obtain ⟨σ', H', I', _, _, _, q, _⟩ := q; exact q.elim
       | cont => obtain ⟨σ', H', I', _, _, _, q, _⟩ := q; exact q.elim
       | ret u => obtain ⟨v, σ', H', I', r, q⟩ := q; exact ⟨v, σ', H', I', r, k2 v H' q⟩
     · rcases z with ⟨pins, σ, H1, s1, a, C, vs, rfl, I1, h3, h4, h5, h6⟩ | ⟨pins, σ, H2, s1, E', I1, h2, h3⟩
       · exact leave_made I1 h3 h4 h5 (qe C H1 h6)
       · exact leave_on I1 h2 fun c H' z => qe c H' (h3 c H' z)
   · rintro σ' H2 ⟨O', Γ', S', w, st', ok', _⟩
     exact q _ _ ⟨O', .non, S', w, st', ok', .non⟩
def chkFnX (N ps : List Str) (sm : Stmt) (k : Nat) (body : BX Ω) : Bool :=
 ((defScope sm).kind == .function) && (!(defScope sm).isCoroutine && (!(defScope sm).isGenerator && (decide N.Nodup && (decide (N.take ps.length = ps) && ((ps.all fun x => (defScope sm).names.lookup x == some .local || (defScope sm).names.lookup x == some .cell) &&
   (((defScope sm).names.all fun y => !(y.2 == .free)) && (Nat.ble body.lev k && body.chk true N (defScope sm).names (defBody sm))))))))
theorem fn_rx {x qual : Str} {sm : Stmt} {f : Addr} {fd : FuncData} {N ps : List Str} {k : Nat} {F : XCt} (FF : Fun Ω.K x qual sm f fd) (body : BX Ω) (hc : chkFnX N ps sm k body = true)
 (vc : ∀ (ds : List D) (S : Store) (W : WD) (WE : WX), F ds S W WE → ds.length = ps.length → body.wp (ds.map some ++ List.replicate (N.length - ds.length) none) S { nx := fun _ S1 => W .non S1, rt := W } WE) : OkX Ω (k + 1) f fd ps F := by
 obtain ⟨h1, hc⟩ := and2 hc
 obtain ⟨h2, hc⟩ := and2 hc
 obtain ⟨h3, hc⟩ := and2 hc
 obtain ⟨h4, hc⟩ := and2 hc
 obtain ⟨h5, hc⟩ := and2 hc
 obtain ⟨h6, hc⟩ := and2 hc
 obtain ⟨h7, hc⟩ := and2 hc
 obtain ⟨h8, h9⟩ := and2 hc
 have nd : N.Nodup := of_decide_eq_true h4
 have sc : FnScope N ps (defScope sm) := ⟨eq_of_beq h1, nt h2, nt h3, nd, of_decide_eq_true h5, fun x hx => by
  have := List.all_eq_true.mp h6 x hx
  simpa using this, fun y hy e => by
  have := List.all_eq_true.mp h7 y hy
  simp [e] at this⟩
 refine fn_okX FF sc fun cdv A outer s H E ds S W WE hr hl h => ?_
 refine body.sound (r := k) (top := true) (N := N) (nm := (defScope sm).names) ⟨rfl, rfl, rfl, rfl, rfl, hr, rfl, rfl, rfl, nd, sc.kind, fun x kk h => .inl h, fun _ _ => rfl⟩ (Nat.le_of_ble_eq_true h8) h9 (vc ds S W WE h hl)
def XQ (X : Cx) (pins : Pins) (σ : L2.St) (O : Own) (H : Hp) (WE : WX) (e : Value) (s2 : Shared) : Prop :=
 ∃ H1 s1 E', Inv X pins σ H1 s1 ∧ CXE X.prog X.w X.stack H1 s1 E' e s2 ∧ ∀ c H', E' (.ref c) none H' → QX X.mg X.K O H WE (.ref c) H'
def EvX (X : Cx) (Γ : Gam) (S : Store) (e : Expr) (W : WD) (WE : WX) : Prop :=
 ∀ (pins : Pins) (s : Shared) (σ : L2.St) (H : Hp) (O : Own), Inv X pins σ H s → EnvOk X.K O H σ Γ → StOk X.K O H S →
   wpAny (model X.prog X.w) X.A (eval e X.env) (EP X pins σ (QG X.K O H W)) (XQ X pins σ O H WE) s
section
variable {X : Cx} {Γ : Gam} {S : Store} {W : WD} {WE : WX} {e : Expr} {es : List Expr} {pos : Pos}
theorem evx_call {x : Str} {p : Pos} {k n : Nat} {F : XCt} (C : CalleeX X.prog X.w X.K X.mg X.base x k n F) (hr : Room k X.A) (h : EvA X.nox Γ S (e :: es) fun ds S1 => ds.length = n ∧ F ds S1 W WE) (hg : Gl X x) (hdb : (x == ("__debug__" : Str)) = false)
 (he : starEach (e :: es) X.env = (false, eval e X.env) :: starEach es X.env) (hpl : (backTo pos (starEach es X.env)).any (·.1) = false) : EvX X Γ S (.Call (.Name x p) (e :: es) [] pos) W WE := by
 intro pins s σ H O I env st
 obtain ⟨f, fd, ps, hF, hm, hk, hb⟩ := C.ex
 refine wpAny_Call_Name_kw (ld_glob I hg hm ?_ hdb)
 refine PySem.W.callWith_K (h₀ := X.base) I.ok.mod.kin hk (wpAny_mono (h pos pins s σ H O (I.wish _) env st) (fun us s1 hq => ?_) fun _ _ z => z.elim) he hpl
 obtain ⟨vs, H1, I1, r1, O1, ds, S1, ⟨hl, w⟩, st1, ok1, rep⟩ := hq
 have I1 := I1.unwish
 refine ⟨I1.kIn, ?_⟩
 have h : spX X.mg X.K n F vs H1 (QG X.K O H W) (fun c _ H' => ∃ d, c = .ref d ∧ QX X.mg X.K O H WE (.ref d) H') := ⟨O1, ds, S1, W, WE, hl, rep, ok1, w, fun v H' q => q.pre st1, fun c H' q => ⟨c, rfl, q.pre st1⟩⟩
 have hl2 : us.length = ps.length := by rw [← r1.length]; exact hF.len _ _ _ _ h
 refine wpAny_call (codeAny_mono (hF.run X.A X.stack s1 H1 ⟨us, []⟩ us vs _ _ hr I1.env0 ?_ r1 h) fun r s' hq => ?_)
 · have := hb s1 us I1.kIn (by rw [List.append_nil]; exact hl2)
   rw [List.append_nil] at this
   exact this
 · cases r with
   | error e =>
     refine ⟨H1, s1, fun c _ H' => ∃ d, c = .ref d ∧ QX X.mg X.K O H WE (.ref d) H', I1, hq, fun c H' z => ?_⟩
     obtain ⟨d, e, z⟩ := z
     cases e
     exact z
   | ok fl =>
     cases fl with
     | ret u => exact I1.after hq
     | next => exact False.elim hq
     | brk => exact False.elim hq
     | cont => exact False.elim hq
end
structure XEx (Ω : Wd) where
 lev : Nat
 chk : Bool → List Str → Nm → Expr → Bool
 wp : Gam → Store → WD → WX → Prop
 sound : ∀ {X : Cx} {r : Nat} {top : Bool} {N : List Str} {nm : Nm} {e : Expr} {Γ : Gam} {S : Store} {W : WD} {WE : WX}, At Ω X.nox r top N nm → lev ≤ r → chk top N nm e = true → wp Γ S W WE → EvX X Γ S e W WE
def XEx.call {x : Str} {k n : Nat} {F : XCt} (C : CalX Ω x k n F) (as : Ar Ω) : XEx Ω where
 lev := max k as.lev
 chk top N nm e := match e with | .Call (.Name y _) (a :: es) [] _ => (y == x) && (glb nm x && (okN x && as.chk top N nm (a :: es))) | _ => false
 wp Γ S W WE := as.wp Γ S fun ds S1 => ds.length = n ∧ F ds S1 W WE
 sound := by
  intro X r top N nm e Γ S W WE A hl hc hw
  obtain ⟨l1, l2⟩ := lv2 hl
  split at hc
  · rename_i y _ a es _
    obtain ⟨h1, h2⟩ := and2 hc
    obtain ⟨h2, h3⟩ := and2 h2
    obtain ⟨h3, h4⟩ := and2 h3
    have e : y = x := eq_of_beq h1
    subst e
    have pl := as.plain h4
    rw [List.all_cons] at pl
    obtain ⟨p1, p2⟩ := and2 pl
    have C' : CalleeX X.prog X.w X.K X.mg X.base y k n F := by
     have := C
     rw [show X.prog = Ω.P from A.p, show X.w = Ω.w from A.w, show X.K = Ω.K from A.k, show X.mg = Ω.mg from A.g, show X.base = Ω.base from A.b]; exact C
    exact evx_call C' (A.room.mono l1) (as.sound A l2 h4 hw) (A.glb h2) (okN_at h3).1 (star_ok p1 _ _) (any_ok p2 _ _)
  · exact fE hc
end XE
namespace XE
open PySem PySem.Spec L2 DL RF
open PyProof.Rows
abbrev sup (X : Cx) (e : Value) : Cx := { X with A := X.A.mark (some e), calm := false, xe := fun _ _ => False }
section
variable {X : Cx} {pins : Pins} {σ : L2.St} {H : Hp} {s : Shared} {e : Value}
theorem Inv.sup (I : Inv X pins σ H s) : Inv (sup X e) pins σ H s :=
 ⟨⟨I.ok.mod, I.ok.kind, I.ok.glob, I.ok.blt, I.ok.above, I.ok.inj, I.ok.has, I.ok.cab, (fun h => nomatch h), I.ok.frames, I.ok.stk, I.ok.exf, I.ok.bs, I.ok.bsz, I.ok.noex, I.ok.exfs, I.ok.funs, I.ok.frf⟩, I.os, I.bare, I.base, I.loc, I.cell, I.free, I.freeC, I.pin, I.hok, I.len⟩
theorem Inv.unsup (ok : X.Ok) (I : Inv (XE.sup X e) pins σ H s) : Inv X pins σ H s := ⟨ok, I.os, I.bare, I.base, I.loc, I.cell, I.free, I.freeC, I.pin, I.hok, I.len⟩
theorem name_gone {M : Model} {A : Around} {E : Value → Shared → Prop} {i : Nat} {x : Str} {pos : Pos} {Q : Unit → Shared → Prop} (I : Inv X pins σ H s) (hN : X.N.Nodup) (hi : X.N[i]? = some x) (hk : X.env.scope.names.lookup x = some .local)
 (h : ∀ s', Inv X pins (σ.set i none) H s' → Q () s') : wpAny M A (do bindName X.env x .none; unbindBehindTheSuite X.env x pos) Q E s := by
 obtain ⟨m, hn, hl⟩ := id I.loc
 have hcls : (X.env.scope.kind == .class || (X.env.scope.kind == .module && X.env.locals != X.env.globals)) = false := by rw [I.ok.kind]; rfl
 have cne := I.cne
 have ne : ∀ b o, X.s₀.heap.get? b = some o → b ≠ X.env.locals := fun b o e => Nat.ne_of_lt (Nat.lt_of_lt_of_le (Heap.lt_size e) I.ok.above)
 have hiσ : i < σ.length := by rw [I.len]; exact (List.getElem?_eq_some_iff.mp hi).1
 refine wpAny_nameGoes_keeps hk hn hcls fun h' v hn' hs => h _ ⟨I.ok, I.os, I.bare, ⟨fun b o e n hb hx => ?_, fun b o e n hb hx => ?_, I.base.free, fun b o e hx => ?_, I.base.tups, I.base.frzs, I.base.tbls⟩, ⟨_, hn', fun j y w e1 e2 e3 => ?_⟩, fun y c e => ?_, I.free, I.freeC, fun p hp => ?_, fun b ob e => ?_, by simpa using I.len⟩
 · exact (hs.2 b (ne b o e)).trans (I.base.keep b o e n hb hx)
 · obtain ⟨sl, e1⟩ := I.base.slot b o e n hb hx; exact ⟨sl, (hs.2 b (ne b o e)).trans e1⟩
 · obtain ⟨o', e1⟩ := I.base.there b o e hx; exact ⟨o', (hs.2 b (ne b o e)).trans e1⟩
 · by_cases hj : j = i
   · subst hj
     rw [List.getElem?_set_self hiσ] at e2
     cases e2
   · rw [List.getElem?_set_ne (Ne.symm hj)] at e2
     obtain ⟨u', r', q⟩ := hl j y w e1 e2 e3
     refine ⟨u', r', ?_⟩
     rcases q with ⟨k, e⟩ | ⟨k, c, e, z⟩
     · refine .inl ⟨k, ?_⟩
       have nx : y ≠ x := fun e => hj (nodup_ix hN e1 (e ▸ hi))
       simp [nx, e]
     · exact .inr ⟨k, c, e, z.sameBut hs (cne y c e)⟩
 · obtain ⟨w', z⟩ := I.cell y c e; exact ⟨w', z.sameBut hs (cne y c e)⟩
 · obtain ⟨e, n, ne, nf, d⟩ := I.pin p hp; exact ⟨(hs.2 p.1 ne).trans e, n, ne, nf, d⟩
 · refine (I.hok b ob e).stay (fun c w' hc q => (hs.2 c ?_).trans q) (fun _ q => q) fun _ _ q => q
   intro z
   have hf := I.free
   rw [← z] at hf
   rcases hc with z2 | hc
   · rw [z2, e] at hf; cases hf
   · rw [hf] at hc; cases hc
theorem ex_obj {P : Program} {w : World} {H : Hp} {h : Heap} {a C : Addr} (e : ExAt a C h) : ObjOk P w H h a (.ext (ExAt a C)) := by
 obtain ⟨o, vs, h1, h2, h3⟩ := e
 exact ⟨⟨o, vs, h1, h2, h3⟩, ⟨o, h1⟩, fun g1 g2 ⟨o', vs', z1, z2, z3⟩ k => ⟨o', vs', k o' z1, z2, z3⟩⟩
theorem Inv.exc {a C : Addr} {H1 : Hp} {s1 : Shared} (I : Inv X pins σ H s) (I1 : Inv X pins σ H1 s1) (hex : X.ex = []) (new : ∀ b o, s1.heap.get? b = some o → b ≠ a) (hH : H a = none) (e : ExAt a C s.heap) : Inv X pins σ (upd H a (.ext (ExAt a C))) s := by
 have nx : ∀ b, b ∉ X.ex := fun b z => by rw [hex] at z; cases z
 have n0 : ∀ b o, X.s₀.heap.get? b = some o → b ≠ a := fun b o q => by
  obtain ⟨o', q'⟩ := I1.base.there b o q (nx b)
  exact new b o' q'
 have nL : X.env.locals ≠ a := by
  obtain ⟨m, ⟨o, _, _, ho, _⟩, _⟩ := I1.loc
  exact new _ o ho
 have nt : ∀ b u, H b = some u → b ≠ a := fun b u q z => by rw [z, hH] at q; cases q
 refine ⟨I.ok, I.os, I.bare, ⟨I.base.keep, I.base.slot, fun b o q n hx => ?_, I.base.there, fun b xs q => ?_, fun b o u q => ?_, fun b ps q => ?_⟩, I.loc, I.cell, ?_, fun x c q => ?_, fun p hp => ?_, fun b u q => ?_, I.len⟩
 · rw [upd_ne (n0 b o q)]; exact I.base.free b o q n hx
 · have := I.base.tups b xs q; rw [upd_ne (nt b _ this)]; exact this
 · have := I.base.frzs b o u q; rw [upd_ne (nt b _ this)]; exact this
 · obtain ⟨m, this⟩ := I.base.tbls b ps q; exact ⟨m, by rw [upd_ne (nt b _ this)]; exact this⟩
 · rw [upd_ne nL]; exact I.free
 · obtain ⟨v, o, ho, _⟩ := I1.cell x c q
   rw [upd_ne (new c o ho)]; exact I.freeC x c q
 · obtain ⟨z1, z2, z3⟩ := I.pin p hp
   obtain ⟨w1, _⟩ := I1.pin p hp
   exact ⟨z1, by rw [upd_ne (new _ _ w1)]; exact z2, z3⟩
 · by_cases hb : b = a
   · subst hb
     rw [upd_same] at q
     cases q
     exact ex_obj e
   · rw [upd_ne hb] at q
     exact (I.hok b u q).stay (fun _ _ _ r => r) (fun c r => by rw [upd_ne (nt c _ r)]; exact r) fun c xs r => by rw [upd_ne (nt c _ r)]; exact r
theorem caught {a C T t : Addr} {B : Heap} {i : Nat} {n y : Str} {np hp : Pos} {b₀ : Stmt} {suite : List Stmt} {rest : List ExceptHandler} {Q : Flow → Shared → Prop} {E : Value → Shared → Prop}
 {H1 : Hp} {s1 : Shared} (ok : X.Ok) (I1 : Inv X pins σ H1 s1) (hex : X.ex = []) (new : ∀ b o, s1.heap.get? b = some o → b ≠ a) (hst : X.stack = X.env :: X.outer) (hfr : X.env.frame = some X.env.locals) (fw : Heap.FlyingW B X.stack a (.ref C) (.ref t) s.heap)
 (inv : ∀ h', Heap.FlyingW B X.stack a (.ref C) (.ref t) h' → s.heap.UpToSlots h' → Inv X pins σ H { s with heap := h' }) (hok : HOk X.prog X.w H B)
 (hg : Gl X y) (hy : X.mg y = some (.ref T)) (hyd : (y == ("__debug__" : Str)) = false) (hx : PySem.W.exmOne X.K (.ref C) (.ref T) = some true)
 (hN : X.N.Nodup) (hi : X.N[i]? = some n) (hn : X.env.scope.names.lookup n = some .local)
 (body : ∀ s6, Inv (XE.sup X (.ref a)) pins (σ.set i (some (.ref a))) (upd H a (.ext (ExAt a C))) s6 → wpAny (model X.prog X.w) (X.A.mark (some (.ref a))) (execs (b₀ :: suite) X.env)
  (fun f s7 => wpAny (model X.prog X.w) X.A (do bindName X.env n .none; unbindBehindTheSuite X.env n hp) (fun _ s8 => Q f s8) E s7) (fun _ _ => False) s6) :
 wpAny (model X.prog X.w) X.A (noteFrame (.ref a) X.env) (fun _ s2 => wpAny (model X.prog X.w) X.A (setFlight (.ref a) none) (fun _ s3 =>
  wpAny (model X.prog X.w) X.A (handleBy (.ref a) X.env (.ExceptHandler (some (.Name y np)) (some n) (b₀ :: suite) hp :: rest)) Q E s3) E s2) E s := by
 have hH : H a = none := HOk.none hok fw.2.1
 refine wpAny_looks_onW (base := B) (outer := X.outer) (by rw [ok.frames, hst]) hfr (by rw [← hst]; exact fw) fun h4 f4 u4 => ?_
 refine wpAny_landsW f4 fun h5 f5 u5 => ?_
 rw [← hst] at f5
 have u45 := u4.trans u5
 have I5 := inv h5 f5 u45
 obtain ⟨ob, vs, ho, hc, hd, _⟩ := f5.first
 refine wpAny_handleBy_cons (codeAny_handlers_test (ld_glob (X := XE.sup X (.ref a)) (Inv.sup I5) hg hy ?_ hyd)) (by intro q; cases q)
 refine (PySem.W.exm_one (M := model X.prog X.w) (K := X.K) (h := h5) (e := a) I5.kIn (show ExAt a C h5 from ⟨ob, vs, ho, hc, hd⟩).ty hx).here (codeAny_handlers_suite_as ?_)
 refine lands_againW (show Heap.FlyingW B X.stack a (.ref C) (.ref t) _ from f5) fun h6 f6 u6 => ?_
 have I6 := inv h6 f6 (u45.trans u6)
 obtain ⟨ob, vs, ho, hc, hd, _⟩ := f6.first
 have J : Inv X pins σ (upd H a (.ext (ExAt a C))) { s with heap := h6 } := Inv.exc I6 I1 hex new hH ⟨ob, vs, ho, hc, hd⟩
 refine store_ok (X := XE.sup X (.ref a)) (Inv.sup J) hN hi (.inl hn) (v := .ref a) rfl (fun s7 I7 => ?_) (.inr hn)
 exact wpAny_mono (body s7 I7) (fun f s8 q => q) fun _ _ z => z.elim
end
end XE
set_option maxHeartbeats 400000
namespace XE
open PySem PySem.Spec L2 DL RF
open PyProof.Rows
inductive HT where
 | one (y : Str) | any (ys : List Str) | no (t : HT) | or (s t : HT) | and (s t : HT) | eq (y z : Str)
def nmsOf : List Expr → Option (List Str)
 | [] => some []
 | .Name y _ :: r => (nmsOf r).map (y :: ·)
 | _ => none
def callV : Expr → Option (Str × List Expr)
 | .Call (.Name f _) es [] _ => some (f, es)
 | _ => none
def nameV : Expr → Option Str
 | .Name x _ => some x
 | _ => none
def tupV : Expr → Option (List Expr)
 | .Tuple es _ _ => some es
 | _ => none
def notV : Expr → Option Expr
 | .UnaryOp .Not e _ => some e
 | _ => none
def orV : Expr → Option (List Expr)
 | .BoolOp .Or es _ => some es
 | _ => none
def andV : Expr → Option (List Expr)
 | .BoolOp .And es _ => some es
 | _ => none
def eqV : Expr → Option (Expr × List Expr)
 | .Compare a [.Eq] es _ => some (a, es)
 | _ => none
theorem callV_of {e : Expr} {f : Str} {es : List Expr} (h : callV e = some (f, es)) : ∃ p pos, e = .Call (.Name f p) es [] pos := by
 unfold callV at h
 split at h
 · cases h; exact ⟨_, _, rfl⟩
 · cases h
theorem nameV_of {e : Expr} {x : Str} (h : nameV e = some x) : ∃ p, e = .Name x p := by
 unfold nameV at h
 split at h
 · cases h; exact ⟨_, rfl⟩
 · cases h
theorem tupV_of {e : Expr} {es : List Expr} (h : tupV e = some es) : ∃ k p, e = .Tuple es k p := by
 unfold tupV at h
 split at h
 · cases h; exact ⟨_, _, rfl⟩
 · cases h
theorem notV_of {e x : Expr} (h : notV e = some x) : ∃ p, e = .UnaryOp .Not x p := by
 unfold notV at h
 split at h
 · cases h; exact ⟨_, rfl⟩
 · cases h
theorem orV_of {e : Expr} {es : List Expr} (h : orV e = some es) : ∃ p, e = .BoolOp .Or es p := by
 unfold orV at h
 split at h
 · cases h; exact ⟨_, rfl⟩
 · cases h
theorem andV_of {e : Expr} {es : List Expr} (h : andV e = some es) : ∃ p, e = .BoolOp .And es p := by
 unfold andV at h
 split at h
 · cases h; exact ⟨_, rfl⟩
 · cases h
theorem eqV_of {e a : Expr} {es : List Expr} (h : eqV e = some (a, es)) : ∃ p, e = .Compare a [.Eq] es p := by
 unfold eqV at h
 split at h
 · cases h; exact ⟨_, rfl⟩
 · cases h
def isV (n y : Str) (e : Expr) : Bool := match callV e with
 | some (f, [a, b]) => (f == ("isinstance" : Str)) && ((nameV a == some n) && (nameV b == some y))
 | _ => false
theorem isV_of {n y : Str} {e : Expr} (h : isV n y e = true) : ∃ p1 p2 p3 pos, e = .Call (.Name "isinstance" p1) [.Name n p2, .Name y p3] [] pos := by
 unfold isV at h
 split at h
 · rename_i f a b hc
   obtain ⟨h1, h⟩ := and2 h
   obtain ⟨h2, h3⟩ := and2 h
   obtain ⟨p, pos, rfl⟩ := callV_of hc
   obtain ⟨p2, rfl⟩ := nameV_of (eq_of_beq h2)
   obtain ⟨p3, rfl⟩ := nameV_of (eq_of_beq h3)
   obtain rfl := eq_of_beq h1
   exact ⟨_, _, _, _, rfl⟩
 · cases h
def isVs (n : Str) (ys : List Str) (e : Expr) : Bool := match callV e with
 | some (f, [a, b]) => (f == ("isinstance" : Str)) && ((nameV a == some n) && (match tupV b with | some es => nmsOf es == some ys | none => false))
 | _ => false
theorem isVs_of {n : Str} {ys : List Str} {e : Expr} (h : isVs n ys e = true) : ∃ p1 p2 p3 k es pos, nmsOf es = some ys ∧ e = .Call (.Name "isinstance" p1) [.Name n p2, .Tuple es k p3] [] pos := by
 unfold isVs at h
 split at h
 · rename_i f a b hc
   obtain ⟨h1, h⟩ := and2 h
   obtain ⟨h2, h3⟩ := and2 h
   obtain ⟨p, pos, rfl⟩ := callV_of hc
   obtain ⟨p2, rfl⟩ := nameV_of (eq_of_beq h2)
   obtain rfl := eq_of_beq h1
   split at h3
   · rename_i es ht
     obtain ⟨k, p3, rfl⟩ := tupV_of ht
     exact ⟨_, _, _, _, _, _, eq_of_beq h3, rfl⟩
   · cases h3
 · cases h
def HT.chk (n : Str) : HT → Expr → Bool
 | .one y, e => isV n y e
 | .any ys, e => isVs n ys e
 | .no t, e => match notV e with | some x => t.chk n x | none => false
 | .or s t, e => match orV e with | some [a, b] => s.chk n a && t.chk n b | _ => false
 | .and s t, e => match andV e with | some [a, b] => s.chk n a && t.chk n b | _ => false
 | .eq y z, e => match eqV e with | some (a, [b]) => isV n y a && isV n z b | _ => false
def HT.val (q : Str → Bool) : HT → Bool
 | .one y => q y
 | .any ys => ys.any q
 | .no t => !t.val q
 | .or s t => s.val q || t.val q
 | .and s t => s.val q && t.val q
 | .eq y z => q y == q z
def HT.nms : HT → List Str
 | .one y => [y] | .any ys => ys | .no t => t.nms | .or s t => s.nms ++ t.nms | .and s t => s.nms ++ t.nms | .eq y z => [y, z]
def Ans (Y : Cx) (C : Addr) (y : Str) (b : Bool) : Prop := Gl Y y ∧ (y == ("__debug__" : Str)) = false ∧ ∃ (v : V) (u : Value), ((∃ T, v = .ref T ∧ u = .ref T) ∨ ∃ t, v = .ty t ∧ u = .type t) ∧ (Y.mg y = some u ∨ (Y.mg y = none ∧ bootBuiltins y = some u ∧ y ≠ "__name__")) ∧ PySem.W.kitOne Y.K (.ref C) u = some b
structure Sx (Y : Cx) (n : Str) (i : Nat) (C : Addr) (q : Str → Bool) : Prop where
 ni : Y.N[i]? = some n
 vis : Vis Y.env.scope n
 d1 : (n == ("__debug__" : Str)) = false
 d2 : (n == ("__classdict__" : Str)) = false
 atr : Atr Y.K C
 mi : Y.mg "isinstance" = none
 gi : Gl Y "isinstance"
section
variable {Y : Cx} {n : Str} {i : Nat} {a C : Addr} {q : Str → Bool} {pins : Pins} {s : Shared} {σ : L2.St} {H : Hp}
theorem same_trans {H H1 H2 : Hp} (a : Same H H1) (b : Same H1 H2) : Same H H2 := fun x o h => b x o (a x o h)
theorem same_refl {H : Hp} : Same H H := fun _ _ h => h
theorem pe_cls {y : Str} {b : Bool} {pos : Pos} (h : Ans Y C y b) : ∃ v u, PE Y (.Name y pos) (tC v) ∧ (RelV v u ∧ ∀ u', RelV v u' → u' = u) ∧ PySem.W.kitOne Y.K (.ref C) u = some b := by
 obtain ⟨g, d, v, u, rr, hm, k⟩ := h
 have r' : RelV v u ∧ ∀ u', RelV v u' → u' = u := by
  rcases rr with ⟨T, rfl, rfl⟩ | ⟨t, rfl, rfl⟩
  · exact ⟨rfl, fun u' z => z⟩
  · exact ⟨rfl, fun u' z => z⟩
 have r := r'.1
 rcases hm with hm | ⟨hm, hb, hn⟩
 · exact ⟨v, u, pe_glob g hm r d, r', k⟩
 · exact ⟨v, u, pe_bltn g hm hb r hn d, r', k⟩
theorem pa_cls : ∀ {es : List Expr} {ys : List Str}, nmsOf es = some ys → (∀ y ∈ ys, Ans Y C y (q y)) → ∃ vs us, PA Y es (fun _ H Q => Q vs H) ∧ (Vals vs us ∧ ∀ us', Vals vs us' → us' = us) ∧ PySem.W.kitAny Y.K (.ref C) us = some (ys.any q) ∧ vs.length = ys.length
 | [], ys, h, _ => by cases h; exact ⟨[], [], pa_nil, ⟨.nil, fun us' z => by cases z; rfl⟩, rfl, rfl⟩
 | .Name y p :: es, ys, h, hq => by
   unfold nmsOf at h
   cases e : nmsOf es with
   | none => rw [e] at h; cases h
   | some zs =>
     rw [e] at h
     cases h
     obtain ⟨v, u, h1, h2, h3⟩ := pe_cls (pos := p) (hq y (.head _))
     obtain ⟨vs, us, g1, g2, g3, g4⟩ := pa_cls e fun z hz => hq z (.tail _ hz)
     refine ⟨v :: vs, u :: us, ?_, ⟨.cons h2.1 g2.1, fun us' z => ?_⟩, ?_, by simp [g4]⟩
     · exact pa_cons h1 g1
     · cases z with
       | cons z1 z2 => rw [h2.2 _ z1, g2.2 _ z2]
     · unfold PySem.W.kitAny
       rw [h3, List.any_cons]
       cases q y with
       | true => rfl
       | false => exact g3
theorem is_one {y : Str} {p1 p2 p3 pos : Pos} (sx : Sx Y n i C q) (hq : Ans Y C y (q y)) (hs : σ[i]? = some (some (.ref a))) (ha : H a = some (.ext (ExAt a C))) (I : Inv Y pins σ H s) :
 wpAny (model Y.prog Y.w) Y.A (eval (.Call (.Name "isinstance" p1) [.Name n p2, .Name y p3] [] pos) Y.env) (EP Y pins σ (fun v H' => v = .bl (q y) ∧ Same H H')) Y.xe s := by
 obtain ⟨v, u, pe, ru, k1⟩ := pe_cls (pos := p3) hq
 have hcr : CallR Y (.builtin "isinstance") (fun xs H' Q => xs = [.ref a, v] ∧ H' a = some (.ext (ExAt a C)) ∧ Q (.bl (q y)) H') := by
  rintro pins s σ H xs us Q I r ⟨rfl, ha, hq⟩
  obtain ⟨u1, u2, rfl, r1, r2⟩ := vals2 r
  cases r1
  rw [ru.2 _ r2]
  exact PySem.W.kia_one (kitx_exc sx.atr) I.kIn (I.hok a _ ha).1 k1 (fun z => nomatch z) fun tk => ⟨.bl _, H, I.tok tk, rfl, hq⟩
 exact pe_callB (e := .Name n p2) (es := [.Name y p3]) hcr sx.gi sx.mi PyProof.Rows.boot_isinstance (pa_cons (pe_var sx.ni sx.vis sx.d1 sx.d2) (pa_cons pe pa_nil)) (by decide) (by decide) rfl rfl pins s σ H _ I ⟨.ref a, hs, rfl, ha, rfl, same_refl⟩
theorem is_any {es : List Expr} {ys : List Str} {k : Nat} {p1 p2 p3 pos : Pos} (sx : Sx Y n i C q) (hn : nmsOf es = some ys) (hl : ys.length ≤ 1000) (hq : ∀ y ∈ ys, Ans Y C y (q y)) (hs : σ[i]? = some (some (.ref a))) (ha : H a = some (.ext (ExAt a C))) (I : Inv Y pins σ H s) :
 wpAny (model Y.prog Y.w) Y.A (eval (.Call (.Name "isinstance" p1) [.Name n p2, .Tuple es k p3] [] pos) Y.env) (EP Y pins σ (fun v H' => v = .bl (ys.any q) ∧ Same H H')) Y.xe s := by
 obtain ⟨vs, us, pa, ru, k1, l1⟩ := pa_cls hn hq
 have hcr : CallR Y (.builtin "isinstance") (fun xs H' Q => ∃ p, xs = [.ref a, .ref p] ∧ H' p = some (.tup vs) ∧ H' a = some (.ext (ExAt a C)) ∧ Q (.bl (ys.any q)) H') := by
  rintro pins s σ H xs us' Q I r ⟨p, rfl, hp, ha, hq⟩
  obtain ⟨u1, u2, rfl, r1, r2⟩ := vals2 r
  cases r1
  cases r2
  obtain ⟨its, rv, ⟨⟨cls, dd, data, sl⟩, e1, e2, m, e3⟩, _⟩ := I.tuple (SqT.of (K := Y.K) hp)
  simp only at e2 e3
  subst e2 e3
  rw [ru.2 _ rv] at e1
  exact PySem.W.kia_tup (kitx_exc sx.atr) I.kIn (I.hok a _ ha).1 e1 k1 (fun z => nomatch z) fun tk => ⟨.bl _, H, I.tok tk, rfl, hq⟩
 refine pe_callB (e := .Name n p2) (es := [.Tuple es k p3]) hcr sx.gi sx.mi PyProof.Rows.boot_isinstance (pa_cons (pe_var sx.ni sx.vis sx.d1 sx.d2) (pa_cons (pe_tup pa) pa_nil)) (by decide) (by decide) rfl rfl pins s σ H _ I ⟨.ref a, hs, by rw [l1]; exact small (by omega), fun p hp => ?_⟩
 exact ⟨p, rfl, upd_same, by rw [upd_ne (ne_of_none ha hp)]; exact ha, rfl, Same.fresh hp _⟩
def HT.small : HT → Bool
 | .any ys => Nat.ble ys.length 1000
 | .no t => t.small | .or s t => s.small && t.small | .and s t => s.small && t.small
 | _ => true
theorem HT.test (sx : Sx Y n i C q) (hs : σ[i]? = some (some (.ref a))) : ∀ (t : HT) (e : Expr), t.chk n e = true → t.small = true → (∀ y ∈ t.nms, Ans Y C y (q y)) → ∀ (s : Shared) (H : Hp), H a = some (.ext (ExAt a C)) → Inv Y pins σ H s →
 wpAny (model Y.prog Y.w) Y.A (isTrue e Y.env (eval e Y.env)) (TP Y pins σ (fun b H' => b = t.val q ∧ Same H H')) Y.xe s
 | .one y, e, hc, _, hq, s, H, ha, I => by
   obtain ⟨p1, p2, p3, pos, rfl⟩ := isV_of (show isV n y e = true from hc)
   refine isTrue_plain (thn (is_one sx (hq y (.head _)) hs ha I) fun u s1 ⟨v, H1, I1, r, e, sm⟩ => ?_) rfl
   subst e
   cases r
   exact wpAny_truthy_bool ⟨H1, I1, rfl, sm⟩
 | .any ys, e, hc, hl, hq, s, H, ha, I => by
   obtain ⟨p1, p2, p3, k, es, pos, hn, rfl⟩ := isVs_of (show isVs n ys e = true from hc)
   refine isTrue_plain (thn (is_any sx hn (Nat.le_of_ble_eq_true hl) hq hs ha I) fun u s1 ⟨v, H1, I1, r, e, sm⟩ => ?_) rfl
   subst e
   cases r
   exact wpAny_truthy_bool ⟨H1, I1, rfl, sm⟩
 | .no t, e, hc, hl, hq, s, H, ha, I => by
   have hc : (match notV e with | some x => t.chk n x | none => false) = true := hc
   split at hc
   · rename_i x hv
     obtain ⟨p, rfl⟩ := notV_of hv
     exact isTrue_not (thn (HT.test sx hs t x hc hl hq s H ha I) fun c s1 ⟨H1, I1, e, sm⟩ => ⟨H1, I1, by rw [e]; rfl, sm⟩)
   · cases hc
 | .or u t, e, hc, hl, hq, s, H, ha, I => by
   have hc : (match orV e with | some [a, b] => u.chk n a && t.chk n b | _ => false) = true := hc
   split at hc
   · rename_i x y hv
     obtain ⟨p, rfl⟩ := orV_of hv
     obtain ⟨h1, h2⟩ := and2 hc
     obtain ⟨l1, l2⟩ := and2 hl
     refine isTrue_or (thn (HT.test sx hs u x h1 l1 (fun z hz => hq z (List.mem_append_left _ hz)) s H ha I) fun c s1 ⟨H1, I1, e, sm⟩ => ?_)
     cases c with
     | true => exact ⟨H1, I1, by show true = (u.val q || t.val q); rw [← e]; rfl, sm⟩
     | false =>
       refine isTrue_or (thn (HT.test sx hs t y h2 l2 (fun z hz => hq z (List.mem_append_right _ hz)) s1 H1 (sm a _ ha) I1) fun c s2 ⟨H2, I2, e2, sm2⟩ => ?_)
       have ev : (HT.or u t).val q = c := by show (u.val q || t.val q) = c; rw [← e, e2]; rfl
       cases c with
       | true => exact ⟨H2, I2, ev.symm, same_trans sm sm2⟩
       | false => exact isTrue_or_nil ⟨H2, I2, ev.symm, same_trans sm sm2⟩
   · cases hc
 | .and u t, e, hc, hl, hq, s, H, ha, I => by
   have hc : (match andV e with | some [a, b] => u.chk n a && t.chk n b | _ => false) = true := hc
   split at hc
   · rename_i x y hv
     obtain ⟨p, rfl⟩ := andV_of hv
     obtain ⟨h1, h2⟩ := and2 hc
     obtain ⟨l1, l2⟩ := and2 hl
     refine isTrue_and (thn (HT.test sx hs u x h1 l1 (fun z hz => hq z (List.mem_append_left _ hz)) s H ha I) fun c s1 ⟨H1, I1, e, sm⟩ => ?_)
     cases c with
     | false => exact ⟨H1, I1, by show false = (u.val q && t.val q); rw [← e]; rfl, sm⟩
     | true =>
       refine isTrue_and (thn (HT.test sx hs t y h2 l2 (fun z hz => hq z (List.mem_append_right _ hz)) s1 H1 (sm a _ ha) I1) fun c s2 ⟨H2, I2, e2, sm2⟩ => ?_)
       have ev : (HT.and u t).val q = c := by show (u.val q && t.val q) = c; rw [← e, e2]; rfl
       cases c with
       | false => exact ⟨H2, I2, ev.symm, same_trans sm sm2⟩
       | true => exact isTrue_and_nil ⟨H2, I2, ev.symm, same_trans sm sm2⟩
   · cases hc
 | .eq y z, e, hc, hl, hq, s, H, ha, I => by
   have hc : (match eqV e with | some (a, [b]) => isV n y a && isV n z b | _ => false) = true := hc
   split at hc
   · rename_i a' b' hv
     obtain ⟨p, rfl⟩ := eqV_of hv
     obtain ⟨h1, h2⟩ := and2 hc
     obtain ⟨p1, p2, p3, p4, rfl⟩ := isV_of h1
     obtain ⟨p5, p6, p7, p8, rfl⟩ := isV_of h2
     refine wpAny_isTrue_Compare1 (thn (is_one sx (hq y (.head _)) hs ha I) fun u s1 ⟨v, H1, I1, r, e, sm⟩ => ?_) (marks_ok rfl)
     subst e
     cases r
     refine thn (is_one sx (hq z (.tail _ (.head _))) hs (sm a _ ha) I1) fun u s2 ⟨v, H2, I2, r, e, sm2⟩ => ?_
     subst e
     cases r
     refine thn (op_eq pins s2 σ H2 (.bl (q y)) (.bl (q z)) _ _ (fun v H' => v = .bl (q y == q z) ∧ H' = H2) I2 rfl rfl ⟨rfl, by rw [dec_bl]; exact ⟨rfl, rfl⟩⟩) fun w s3 ⟨v, H3, I3, r, e, e2⟩ => ?_
     subst e e2
     cases r
     exact wpAny_truthy_bool ⟨H3, I3, rfl, same_trans sm sm2⟩
   · cases hc
def HT.vals : HT → Bool
 | .eq _ _ => false
 | .any _ => false
 | .no t => t.vals | .or s t => s.vals && t.vals | .and s t => s.vals && t.vals
 | _ => true
theorem HT.ev (sx : Sx Y n i C q) (hs : σ[i]? = some (some (.ref a))) : ∀ (t : HT) (e : Expr), t.chk n e = true → t.vals = true → (∀ y ∈ t.nms, Ans Y C y (q y)) → ∀ (s : Shared) (H : Hp), H a = some (.ext (ExAt a C)) → Inv Y pins σ H s →
 wpAny (model Y.prog Y.w) Y.A (eval e Y.env) (EP Y pins σ (fun v H' => v = .bl (t.val q) ∧ Same H H')) Y.xe s
 | .one y, e, hc, _, hq, s, H, ha, I => by
   obtain ⟨p1, p2, p3, pos, rfl⟩ := isV_of (show isV n y e = true from hc)
   exact is_one sx (hq y (.head _)) hs ha I
 | .any ys, e, hc, hl, hq, s, H, ha, I => by cases hl
 | .eq y z, e, hc, hl, hq, s, H, ha, I => by cases hl
 | .no t, e, hc, hl, hq, s, H, ha, I => by
   have hc : (match notV e with | some x => t.chk n x | none => false) = true := hc
   split at hc
   · rename_i x hv
     obtain ⟨p, rfl⟩ := notV_of hv
     refine UnaryOp_ (thn (HT.ev sx hs t x hc hl hq s H ha I) fun u s1 ⟨v, H1, I1, r, e, sm⟩ => ?_)
     subst e
     cases r
     exact not_of (wpAny_truthy_bool ⟨.bl (!t.val q), H1, I1, rfl, rfl, sm⟩)
   · cases hc
 | .or u t, e, hc, hl, hq, s, H, ha, I => by
   have hc : (match orV e with | some [a, b] => u.chk n a && t.chk n b | _ => false) = true := hc
   split at hc
   · rename_i x y hv
     obtain ⟨p, rfl⟩ := orV_of hv
     obtain ⟨h1, h2⟩ := and2 hc
     obtain ⟨l1, l2⟩ := and2 hl
     refine BoolOp_or (thn (HT.ev sx hs u x h1 l1 (fun z hz => hq z (List.mem_append_left _ hz)) s H ha I) fun w s1 ⟨v, H1, I1, r, e, sm⟩ => ?_)
     subst e
     cases r
     refine wpAny_truthy_bool ?_
     cases ev : u.val q with
     | true => exact ⟨.bl true, H1, I1, rfl, by show V.bl true = .bl (u.val q || t.val q); rw [ev]; rfl, sm⟩
     | false =>
       refine BoolOp_one (thn (HT.ev sx hs t y h2 l2 (fun z hz => hq z (List.mem_append_right _ hz)) s1 H1 (sm a _ ha) I1) fun w s2 ⟨v, H2, I2, r, e2, sm2⟩ => ?_)
       subst e2
       exact ⟨_, H2, I2, r, by show V.bl (t.val q) = .bl (u.val q || t.val q); rw [ev]; rfl, same_trans sm sm2⟩
   · cases hc
 | .and u t, e, hc, hl, hq, s, H, ha, I => by
   have hc : (match andV e with | some [a, b] => u.chk n a && t.chk n b | _ => false) = true := hc
   split at hc
   · rename_i x y hv
     obtain ⟨p, rfl⟩ := andV_of hv
     obtain ⟨h1, h2⟩ := and2 hc
     obtain ⟨l1, l2⟩ := and2 hl
     refine BoolOp_and (thn (HT.ev sx hs u x h1 l1 (fun z hz => hq z (List.mem_append_left _ hz)) s H ha I) fun w s1 ⟨v, H1, I1, r, e, sm⟩ => ?_)
     subst e
     cases r
     refine wpAny_truthy_bool ?_
     cases ev : u.val q with
     | false => exact ⟨.bl false, H1, I1, rfl, by show V.bl false = .bl (u.val q && t.val q); rw [ev]; rfl, sm⟩
     | true =>
       refine BoolOp_one (thn (HT.ev sx hs t y h2 l2 (fun z hz => hq z (List.mem_append_right _ hz)) s1 H1 (sm a _ ha) I1) fun w s2 ⟨v, H2, I2, r, e2, sm2⟩ => ?_)
       subst e2
       exact ⟨_, H2, I2, r, by show V.bl (t.val q) = .bl (u.val q && t.val q); rw [ev]; rfl, same_trans sm sm2⟩
   · cases hc
theorem pe_ht {t : HT} {e : Expr} (sx : Sx Y n i C q) (hc : t.chk n e = true) (hl : t.vals = true) (hq : ∀ y ∈ t.nms, Ans Y C y (q y)) : PE Y e (fun σ H Q => σ[i]? = some (some (.ref a)) ∧ H a = some (.ext (ExAt a C)) ∧ ∀ H', Same H H' → Q (.bl (t.val q)) H') :=
 fun pins s σ H Q I ⟨hs, ha, k⟩ => thn (HT.ev sx hs t e hc hl hq s H ha I) fun u s1 ⟨v, H1, I1, r, e, sm⟩ => ⟨v, H1, I1, r, by rw [e]; exact k H1 sm⟩
inductive Oc where
 | str (x : Str) | bl (b : Bool) | non
 deriving DecidableEq
def Oc.v : Oc → V
 | .str x => .str x | .bl b => .bl b | .non => .non
def Oc.d : Oc → D
 | .str x => .str x | .bl b => .bl b | .non => .non
def conV : Expr → Option Oc
 | .Constant (.str y) _ _ => some (.str y)
 | .Constant (.bool c) _ _ => some (.bl c)
 | .Constant .none _ _ => some .non
 | _ => none
def Oc.chk (o : Oc) (e : Expr) : Bool := match conV e with
 | some o' => decide (o' = o)
 | none => false
theorem Oc.pe (o : Oc) (e : Expr) (h : o.chk e = true) : PE Y e (tC o.v) := by
 unfold Oc.chk conV at h
 split at h
 · rename_i o' hv
   obtain rfl := of_decide_eq_true h
   split at hv
   · cases hv; exact pe_str
   · cases hv; exact pe_bl
   · cases hv; exact pe_non
   · cases hv
 · cases h
inductive HB where
 | ifr (t : HT) (o : Oc) | pick (t : HT) (o0 o1 : Oc) | both (y z : Str)
def retV : Stmt → Option Expr
 | .Return (some e) _ => some e
 | _ => none
theorem retV_of {st : Stmt} {e : Expr} (h : retV st = some e) : ∃ p, st = .Return (some e) p := by
 unfold retV at h
 split at h
 · cases h; exact ⟨_, rfl⟩
 · cases h
def ifV : Stmt → Option (Expr × List Stmt)
 | .If e b [] _ => some (e, b)
 | _ => none
theorem ifV_of {st : Stmt} {e : Expr} {b : List Stmt} (h : ifV st = some (e, b)) : ∃ p, st = .If e b [] p := by
 unfold ifV at h
 split at h
 · cases h; exact ⟨_, rfl⟩
 · cases h
def subV : Expr → Option (Expr × Expr)
 | .Subscript (.List es p) b q => some (.List es p, b)
 | _ => none
def lstV : Expr → Option (List Expr)
 | .List es _ => some es
 | _ => none
theorem subV_of {e a b : Expr} (h : subV e = some (a, b)) : ∃ p, e = .Subscript a b p := by
 unfold subV at h
 split at h
 · cases h; exact ⟨_, rfl⟩
 · cases h
theorem lstV_of {e : Expr} {es : List Expr} (h : lstV e = some es) : ∃ p, e = .List es p := by
 unfold lstV at h
 split at h
 · cases h; exact ⟨_, rfl⟩
 · cases h
def intV (n : Str) (t : HT) (e : Expr) : Bool := match callV e with
 | some (g, [x]) => (g == ("int" : Str)) && (t.chk n x && (t.vals && okE x))
 | _ => false
theorem intV_of {n : Str} {t : HT} {e : Expr} (h : intV n t e = true) : ∃ x gp p5, t.chk n x = true ∧ t.vals = true ∧ okE x = true ∧ e = .Call (.Name "int" gp) [x] [] p5 := by
 unfold intV at h
 split at h
 · rename_i g x hc
   obtain ⟨h1, h⟩ := and2 h
   obtain ⟨h2, h⟩ := and2 h
   obtain ⟨h3, h4⟩ := and2 h
   obtain ⟨p, pos, rfl⟩ := callV_of hc
   obtain rfl := eq_of_beq h1
   exact ⟨_, _, _, h2, h3, h4, rfl⟩
 · cases h
def chkPick (n : Str) (t : HT) (o0 o1 : Oc) (st : Stmt) : Bool := match (retV st).bind subV with
 | some (a, b) => (match lstV a with | some [c0, c1] => o0.chk c0 && (o1.chk c1 && (okE c0 && okE c1)) | _ => false) && intV n t b
 | none => false
def chkBoth (n y z : Str) (st : Stmt) : Bool := match (retV st).bind andV with
 | some [a, b] => isV n y a && isV n z b
 | _ => false
def chkIfr (n : Str) (t : HT) (o : Oc) (st : Stmt) : Bool := match ifV st with
 | some (e, [r]) => (match retV r with | some c => t.chk n e && (t.small && o.chk c) | none => false)
 | _ => false
def HB.chk (n : Str) : HB → Stmt → Bool
 | .ifr t o, st => chkIfr n t o st
 | .pick t o0 o1, st => chkPick n t o0 o1 st
 | .both y z, st => chkBoth n y z st
def HB.nms : HB → List Str
 | .ifr t _ => t.nms | .pick t _ _ => t.nms | .both y z => [y, z]
def HB.out (q : Str → Bool) : List HB → Option Oc
 | [] => none
 | .ifr t o :: r => if t.val q then some o else HB.out q r
 | .pick t o0 o1 :: _ => some (if t.val q then o1 else o0)
 | .both y z :: _ => some (.bl (q y && q z))
def HB.chks (n : Str) : List HB → List Stmt → Bool
 | [], [] => true
 | b :: bs, st :: sts => b.chk n st && HB.chks n bs sts
 | _, _ => false
def HE (Y : Cx) (pins : Pins) (σ : L2.St) (H : Hp) (o : Option Oc) (f : Flow) (s' : Shared) : Prop := ∃ H', Inv Y pins σ H' s' ∧ Same H H' ∧ match o with | some c => ∃ u, f = .ret u ∧ RelV c.v u | none => f = .next
theorem HE.pre {H1 : Hp} {o : Option Oc} {f : Flow} {s' : Shared} (sm : Same H H1) (h : HE Y pins σ H1 o f s') : HE Y pins σ H o f s' := by
 obtain ⟨H2, I, sm2, e⟩ := h
 exact ⟨H2, I, same_trans sm sm2, e⟩
theorem run_pick {t : HT} {o0 o1 : Oc} {st : Stmt} (sx : Sx Y n i C q) (hs : σ[i]? = some (some (.ref a))) (mt : Y.mg "int" = none) (gt : Gl Y "int") (hc : chkPick n t o0 o1 st = true) (hz : ∀ y ∈ t.nms, Ans Y C y (q y)) (ha : H a = some (.ext (ExAt a C))) (I : Inv Y pins σ H s) :
 wpAny (model Y.prog Y.w) Y.A (exec st Y.env) (HE Y pins σ H (some (if t.val q then o1 else o0))) Y.xe s := by
 unfold chkPick at hc
 split at hc
 · rename_i a' b' hv
   obtain ⟨e0, hr, hv⟩ := Option.bind_eq_some_iff.mp hv
   obtain ⟨p7, rfl⟩ := retV_of hr
   obtain ⟨p6, rfl⟩ := subV_of hv
   obtain ⟨hc, hi⟩ := and2 hc
   obtain ⟨x, gp, p5, x1, x2, x3, rfl⟩ := intV_of hi
   split at hc
   case h_2 => cases hc
   rename_i c0 c1 hl
   obtain ⟨lp, rfl⟩ := lstV_of hl
   obtain ⟨g3, hc⟩ := and2 hc
   obtain ⟨g4, hc⟩ := and2 hc
   obtain ⟨g5, g6⟩ := and2 hc
   have P1 : PE Y (.List [c0, c1] lp) _ := pe_lst (pa_cons (Oc.pe o0 c0 g3) (pa_cons (Oc.pe o1 c1 g4) pa_nil (star_ok g6 [] _)) (star_ok g5 [c1] _))
   have P2 : PE Y (.Call (.Name "int" gp) [x] [] p5) _ := pe_callTy (he := star_ok x3 [] _) call_int1 gt mt PyProof.Rows.boot_int (pa_cons (pe_ht (a := a) sx x1 x2 hz) pa_nil (star_ok x3 [] _))
   have P3 := pe_ix (pos := p6) (ix_list (X := Y)) P1 P2 (plain_ix rfl)
   refine wpAny_Return_some (thn (P3 pins s σ H (fun v H' => v = (if t.val q then o1 else o0).v ∧ Same H H') I ?_) fun u s2 ⟨v, H2, I2, r, e1, e2⟩ => ⟨H2, I2, e2, u, rfl, by rw [← e1]; exact r⟩)
   refine ⟨by show 2 ≤ sizeLine; decide, fun p hp => ⟨hs, by rw [upd_ne (ne_of_none ha hp)]; exact ha, fun H' sm => .inr ⟨t.val q, rfl, ?_⟩⟩⟩
   refine ⟨p, [o0.v, o1.v], (if t.val q then 1 else 0), (if t.val q then o1 else o0).v, rfl, rfl, SqL.of (sm p _ upd_same), ?_, rfl, same_trans (Same.fresh hp _) sm⟩
   cases t.val q <;> rfl
 · exact fE hc
theorem run_both {y z : Str} {st : Stmt} (sx : Sx Y n i C q) (hs : σ[i]? = some (some (.ref a))) (hc : chkBoth n y z st = true) (hy : Ans Y C y (q y)) (hz : Ans Y C z (q z)) (ha : H a = some (.ext (ExAt a C))) (I : Inv Y pins σ H s) :
 wpAny (model Y.prog Y.w) Y.A (exec st Y.env) (HE Y pins σ H (some (.bl (q y && q z)))) Y.xe s := by
 unfold chkBoth at hc
 split at hc
 · rename_i a' b' hv
   obtain ⟨e0, hr, hv⟩ := Option.bind_eq_some_iff.mp hv
   obtain ⟨p7, rfl⟩ := retV_of hr
   obtain ⟨p6, rfl⟩ := andV_of hv
   obtain ⟨g1, g2⟩ := and2 hc
   obtain ⟨p1, p2, p3, p4, rfl⟩ := isV_of g1
   obtain ⟨p1', p2', p3', p4', rfl⟩ := isV_of g2
   refine wpAny_Return_some (BoolOp_and (thn (is_one sx hy hs ha I) fun u s1 ⟨v, H1, I1, r, e, sm⟩ => ?_))
   subst e
   cases r
   refine wpAny_truthy_bool ?_
   cases ey : q y with
   | false => exact ⟨H1, I1, sm, _, rfl, rfl⟩
   | true =>
     refine BoolOp_one (thn (is_one sx hz hs (sm a _ ha) I1) fun u s2 ⟨v, H2, I2, r, e, sm2⟩ => ?_)
     subst e
     cases r
     exact ⟨H2, I2, same_trans sm sm2, _, rfl, rfl⟩
 · exact fE hc
theorem run_ifr {t : HT} {o : Oc} {st : Stmt} (sx : Sx Y n i C q) (hs : σ[i]? = some (some (.ref a))) (hc : chkIfr n t o st = true) (hq : ∀ y ∈ t.nms, Ans Y C y (q y)) (ha : H a = some (.ext (ExAt a C))) (I : Inv Y pins σ H s) :
 wpAny (model Y.prog Y.w) Y.A (exec st Y.env) (HE Y pins σ H (if t.val q then some o else none)) Y.xe s := by
 unfold chkIfr at hc
 split at hc
 · rename_i e r' hv
   obtain ⟨pos, rfl⟩ := ifV_of hv
   split at hc
   case h_2 => cases hc
   rename_i c hr
   obtain ⟨rp, rfl⟩ := retV_of hr
   obtain ⟨h1, hc⟩ := and2 hc
   obtain ⟨h2, h3⟩ := and2 hc
   refine wpAny_If (thn (HT.test sx hs t e h1 h2 hq s H ha I) fun k s1 ⟨H1, I1, ev, sm⟩ => ?_)
   cases k with
   | true =>
     refine wpAny_execs_cons (wpAny_Return_some (thn (Oc.pe o c h3 pins s1 σ H1 (fun v H' => v = o.v ∧ H' = H1) I1 ⟨rfl, rfl⟩) fun u s2 ⟨v, H2, I2, r, e1, e2⟩ => ?_))
     subst e1 e2
     rw [← ev]
     exact ⟨H2, I2, sm, u, rfl, r⟩
   | false =>
     rw [← ev]
     exact wpAny_execs_nil ⟨H1, I1, sm, rfl⟩
 · exact fE hc
theorem HE.flow {o : Option Oc} {f : Flow} {s' : Shared} (h : HE Y pins σ H o f s') : (∃ c, o = some c ∧ ∃ u, f = .ret u) ∨ (o = none ∧ f = .next) := by
 obtain ⟨H', _, _, e⟩ := h
 cases o with
 | none => exact .inr ⟨rfl, e⟩
 | some c => obtain ⟨u, e, _⟩ := e; exact .inl ⟨c, rfl, u, e⟩
theorem HB.run (sx : Sx Y n i C q) (hs : σ[i]? = some (some (.ref a))) (mt : Y.mg "int" = none) (gt : Gl Y "int") : ∀ (bs : List HB) (sts : List Stmt), HB.chks n bs sts = true → (∀ b ∈ bs, ∀ y ∈ b.nms, Ans Y C y (q y)) → ∀ (s : Shared) (H : Hp), H a = some (.ext (ExAt a C)) → Inv Y pins σ H s →
 wpAny (model Y.prog Y.w) Y.A (execs sts Y.env) (HE Y pins σ H (HB.out q bs)) Y.xe s
 | [], [], _, hq, s, H, ha, I => wpAny_execs_nil ⟨H, I, same_refl, rfl⟩
 | [], _ :: _, hc, _, _, _, _, _ => (Bool.false_ne_true hc).elim
 | _ :: _, [], hc, _, _, _, _, _ => (Bool.false_ne_true hc).elim
 | b :: bs, st :: sts, hc, hq, s, H, ha, I => by
   obtain ⟨h1, h2⟩ := and2 (show (b.chk n st && HB.chks n bs sts) = true from hc)
   have ih := HB.run sx hs mt gt bs sts h2 fun c hc => hq c (.tail _ hc)
   have hq := hq b (.head _)
   refine wpAny_execs_cons ?_
   cases b with
   | pick t o0 o1 =>
     refine thn (run_pick sx hs mt gt h1 hq ha I) fun f s1 z => ?_
     rcases HE.flow z with ⟨c, _, u, rfl⟩ | ⟨e, _⟩
     · exact z
     · cases e
   | both y y' =>
     refine thn (run_both sx hs h1 (hq y (.head _)) (hq y' (.tail _ (.head _))) ha I) fun f s1 z => ?_
     rcases HE.flow z with ⟨c, _, u, rfl⟩ | ⟨e, _⟩
     · exact z
     · cases e
   | ifr t o =>
     refine thn (run_ifr sx hs h1 hq ha I) fun f s1 z => ?_
     have eo : HB.out q (.ifr t o :: bs) = if t.val q then some o else HB.out q bs := rfl
     rcases HE.flow z with ⟨c, e, u, rfl⟩ | ⟨e, rfl⟩
     · rw [eo]
       cases ev : t.val q with
       | true => rw [ev] at z; exact z
       | false => rw [ev] at e; cases e
     · obtain ⟨H1, I1, sm, _⟩ := z
       rw [eo]
       cases ev : t.val q with
       | true => rw [ev] at e; cases e
       | false => exact thn (ih s1 H1 (sm a _ ha) I1) fun f s2 z => z.pre sm
end
end XE
set_option maxHeartbeats 1000000
namespace XE
open PySem PySem.Spec L2 DL RF
open PyProof.Rows
def qOf (x y : Str) : Bool := y == ("TurnError" : Str) || (y == ("ValueError" : Str) || y == x)
structure ExF (mg : Str → Option Value) (K : PySem.W.Frag) (L T : List Str) : Prop where
 cls : ∀ x ∈ L, ∃ C, mg x = some (.ref C) ∧ PySem.W.excIn K C bmVE newVE = true ∧ Atr K C ∧ (∃ t, mg "TurnError" = some (.ref t) ∧ PySem.W.exmOne K (.ref C) (.ref t) = some true) ∧
  ∀ y ∈ T, ∃ (v : V) (u : Value), ((∃ t, v = .ref t ∧ u = .ref t) ∨ ∃ t, v = .ty t ∧ u = .type t) ∧ (mg y = some u ∨ (mg y = none ∧ bootBuiltins y = some u ∧ y ≠ "__name__")) ∧ PySem.W.kitOne K (.ref C) u = some (qOf x y)
theorem ExF.exc {Ω : Wd} {L T : List Str} (E : ExF Ω.mg Ω.K L T) {x : Str} (h : x ∈ L) : Exc Ω x := by
 obtain ⟨C, h1, h2, h3, _⟩ := E.cls x h
 exact ⟨C, h1, h2, h3⟩
def atrB (K : PySem.W.Frag) (C : Addr) : Bool :=
 (PySem.W.findIn K (.ref C) "__getattribute__" == some (some (.builtin "BaseException.__getattribute__"))) && ((PySem.W.findIn K (.ref C) "__getattr__" == some none) && ((PySem.W.findIn K (.ref C) "__class__" == some (some (.builtin "object.__class__"))) &&
 ((PySem.W.specialIn K (.builtin "object.__class__") "__get__" == some (some (.builtin "getset_descriptor.__get__"))) && ((PySem.W.takesIn K (.builtin "object.__class__") == some true) && ((PySem.W.mroIn K C (.type "object") == some true) && (PySem.W.mroIn K C (.type "BaseException") == some true))))))
def ansB (K : PySem.W.Frag) (C : Addr) (x y : Str) : Bool := match PySem.W.nsIn K mainGlobals y with
 | some (some (.ref t)) => PySem.W.kitOne K (.ref C) (.ref t) == some (qOf x y)
 | some none => (y == ("ValueError" : Str)) && (PySem.W.kitOne K (.ref C) (.type "ValueError") == some (qOf x y))
 | _ => false
def excB (K : PySem.W.Frag) (T : List Str) (x : Str) : Bool := match PySem.W.nsIn K mainGlobals x with
 | some (some (.ref C)) => PySem.W.excIn K C bmVE newVE && (atrB K C && ((match PySem.W.nsIn K mainGlobals "TurnError" with | some (some (.ref t)) => PySem.W.exmOne K (.ref C) (.ref t) == some true | _ => false) && T.all (ansB K C x)))
 | _ => false
theorem exF_of {K : PySem.W.Frag} {h : Heap} {mg : Str → Option Value} {L T : List Str} (X : K.In h) (G : h.Ns mainGlobals mg) (e : L.all (excB K T) = true) : ExF mg K L T := by
 constructor
 intro x hx
 have e := List.all_eq_true.mp e x hx
 unfold excB at e
 split at e
 · rename_i C hn
   obtain ⟨e1, e⟩ := and2 e
   obtain ⟨e2, e⟩ := and2 e
   obtain ⟨e3, e4⟩ := and2 e
   refine ⟨C, PySem.W.mg_of X G hn, e1, ?_, ?_, fun y hy => ?_⟩
   · unfold atrB at e2
     obtain ⟨a1, e⟩ := and2 e2
     obtain ⟨a2, e⟩ := and2 e
     obtain ⟨a3, e⟩ := and2 e
     obtain ⟨a4, e⟩ := and2 e
     obtain ⟨a5, e⟩ := and2 e
     obtain ⟨a6, a7⟩ := and2 e
     exact ⟨eq_of_beq a1, eq_of_beq a2, eq_of_beq a3, eq_of_beq a4, eq_of_beq a5, eq_of_beq a6, eq_of_beq a7⟩
   · split at e3
     · rename_i t ht
       exact ⟨t, PySem.W.mg_of X G ht, eq_of_beq e3⟩
     · cases e3
   · have e := List.all_eq_true.mp e4 y hy
     unfold ansB at e
     split at e
     · rename_i t ht
       exact ⟨.ref t, .ref t, .inl ⟨t, rfl, rfl⟩, .inl (PySem.W.mg_of X G ht), eq_of_beq e⟩
     · rename_i ht
       obtain ⟨a1, a2⟩ := and2 e
       obtain rfl := eq_of_beq a1
       exact ⟨.ty "ValueError", .type "ValueError", .inr ⟨_, rfl, rfl⟩, .inr ⟨PySem.W.mg_none_of X G ht, by decide +kernel, by decide⟩, eq_of_beq a2⟩
     · cases e
 · cases e
variable {Ω : Wd}
structure BT (Ω : Wd) where
 lev : Nat
 chk : List Str → Nm → List Stmt → Bool
 wp : Gam → Store → DL.Fin → Prop
 sound : ∀ {X : Cx} {r : Nat} {N : List Str} {nm : Nm} {sts : List Stmt} {Γ : Gam} {S : Store} {W : DL.Fin}, At Ω X r true N nm → X.stack = X.env :: X.outer → X.env.frame = some X.env.locals → X.ex = [] → lev ≤ r → chk N nm sts = true → wp Γ S W → Rns X Γ S sts W
def BT.of (b : Bl Ω) : BT Ω where
 lev := b.lev
 chk N nm sts := b.chk true N nm sts
 wp := b.wp
 sound := by
  intro X r N nm sts Γ S W A _ _ _ hl hc hw
  exact b.sound A hl hc hw
section
variable {X : Cx} {Γ : Gam} {S : Store} {W : DL.Fin} {WE : WX} {e : Expr}
theorem frame_new {P : Program} {w : World} {outer : List Env} {H1 H' : Hp} {h1 B h2 : Heap} {a C t : Addr} (fl : Fl P w outer H1 h1 H' B h2) (fw : Heap.FlyingW B outer a (.ref C) (.ref t) h2) : ∀ b o, h1.get? b = some o → b ≠ a := by
 intro b o q z
 by_cases hb : b ∈ frs outer
 · obtain ⟨_, o', e', d⟩ := fw.2.2.1.mem hb
   obtain ⟨oe, vs, e2, _, e3, _⟩ := fw.first
   rw [z, e2] at e'
   cases e'
   exact d vs e3
 · obtain ⟨o', e'⟩ := fl.there b o q hb
   rw [z, fw.2.1] at e'
   cases e'
end
def chkFnT (N ps : List Str) (sm : Stmt) (k : Nat) (body : BT Ω) : Bool :=
 ((defScope sm).kind == .function) && (!(defScope sm).isCoroutine && (!(defScope sm).isGenerator && (decide N.Nodup && (decide (N.take ps.length = ps) && ((ps.all fun x => (defScope sm).names.lookup x == some .local || (defScope sm).names.lookup x == some .cell) &&
   (((defScope sm).names.all fun y => !(y.2 == .free)) && (Nat.ble body.lev k && body.chk N (defScope sm).names (defBody sm))))))))
theorem fn_rt {x qual : Str} {sm : Stmt} {f : Addr} {fd : FuncData} {N ps : List Str} {k : Nat} {F : Ct} (FF : Fun Ω.K x qual sm f fd) (body : BT Ω) (hc : chkFnT N ps sm k body = true)
 (vc : ∀ (ds : List D) (S : Store) (W : WD), F ds S W → ds.length = ps.length → body.wp (ds.map some ++ List.replicate (N.length - ds.length) none) S { nx := fun _ S1 => W .non S1, rt := W }) : Ok Ω (k + 1) f fd ps F := by
 obtain ⟨h1, hc⟩ := and2 hc
 obtain ⟨h2, hc⟩ := and2 hc
 obtain ⟨h3, hc⟩ := and2 hc
 obtain ⟨h4, hc⟩ := and2 hc
 obtain ⟨h5, hc⟩ := and2 hc
 obtain ⟨h6, hc⟩ := and2 hc
 obtain ⟨h7, hc⟩ := and2 hc
 obtain ⟨h8, h9⟩ := and2 hc
 have nd : N.Nodup := of_decide_eq_true h4
 have sc : FnScope N ps (defScope sm) := ⟨eq_of_beq h1, nt h2, nt h3, nd, of_decide_eq_true h5, fun x hx => by
  have := List.all_eq_true.mp h6 x hx
  simpa using this, fun y hy e => by
  have := List.all_eq_true.mp h7 y hy
  simp [e] at this⟩
 refine fn_ok FF sc fun cdv A outer s H E ds S W hr hl h => ?_
 refine body.sound (r := k) (N := N) (nm := (defScope sm).names) ⟨rfl, rfl, rfl, rfl, rfl, hr, rfl, rfl, rfl, nd, sc.kind, fun x kk h => .inl h, fun _ _ => rfl⟩ rfl rfl rfl (Nat.le_of_ble_eq_true h8) h9 (vc ds S W h hl)
end XE
namespace RF
open PySem PySem.Spec L2 DL
open PyProof.Rows
def isStr : D → Bool
 | .str _ => true
 | _ => false
theorem kit_str (K : PySem.W.Frag) (d : D) : PySem.W.kitOne K (.type (tyD d)) (.type "str") = some (isStr d) := by cases d <;> kernel_rfl
theorem ev_isiS {X : Cx} {Γ : Gam} {S : Store} {W : WD} {a : Expr} {p q pos : Pos} (h : Ev X Γ S a fun x S1 => W (.bl (isStr x)) S1) (hm1 : X.mg "isinstance" = none) (hm : X.mg "str" = none) (hg1 : Gl X "isinstance") (hg : Gl X "str")
 (hs1 : starEach [a, .Name "str" q] X.env = (false, eval a X.env) :: starEach [.Name "str" q] X.env) : Ev X Γ S (.Call (.Name "isinstance" p) [a, .Name "str" q] [] pos) W := by
 intro pins s σ H O I env st
 have hc : CallR X (.builtin "isinstance") (fun xs H' Q => ∃ v, xs = [v, .ty "str"] ∧ ∃ O' d S', StOk X.K O' H' S' ∧ Rep X.K O' H' v d ∧ Q (.bl (isStr d)) H') := by
  intro pins s σ H xs us Q I r h
  obtain ⟨v, rfl, O', d, S', st', rep, q⟩ := h
  obtain ⟨u, u2, rfl, r1, r2⟩ := vals2 r
  cases r2
  refine isi_run I st' rep r1 fun Z e p ne => ?_
  subst e
  exact PySem.W.kia_one Z I.kIn p (kit_str X.K d) ne fun tk => ⟨.bl _, H, I.tok tk, rfl, q⟩
 refine pe_callB hc hg1 hm1 PyProof.Rows.boot_isinstance (pa_cons h.pe (pa_cons (pe_bltn hg hm (show bootBuiltins "str" = some (.type "str") from by decide +kernel) (v := .ty "str") rfl (by decide) (by decide)) pa_nil rfl) hs1) (by decide) (by decide) hs1 rfl pins s σ H _ I ⟨O, env, st, fun v H' q => ?_⟩
 obtain ⟨O', d, S', w, st1, ok1, rep⟩ := q
 exact ⟨v, rfl, O', d, S', ok1, rep, O', _, S', w, st1, ok1, .bl _⟩
section
variable {Ω : Wd}
def Ex.isiS (hm1 : Ω.mg "isinstance" = none) (a : Ex Ω) (hm : Ω.mg "str" = none) : Ex Ω where
 lev := a.lev
 chk top N nm e := match e with | .Call (.Name f _) [b, .Name t _] [] _ => (f == ("isinstance" : Str)) && ((t == ("str" : Str)) && (glb nm "isinstance" && (glb nm "str" && (okE b && a.chk top N nm b)))) | _ => false
 wp Γ S W := a.wp Γ S fun x S1 => W (.bl (isStr x)) S1
 sound := by
  intro X r top N nm e Γ S W A hl hc hw
  split at hc
  · obtain ⟨h1, hc⟩ := and2 hc
    obtain ⟨h2, hc⟩ := and2 hc
    obtain ⟨h3, hc⟩ := and2 hc
    obtain ⟨h4, hc⟩ := and2 hc
    obtain ⟨h5, h6⟩ := and2 hc
    obtain rfl := eq_of_beq h1
    obtain rfl := eq_of_beq h2
    exact ev_isiS (a.sound A hl h6 hw) (by rw [A.g]; exact hm1) (by rw [A.g]; exact hm) (A.glb h3) (A.glb h4) (star_ok h5 _ _)
  · exact fE hc
def unl (ns : List Int) : Nat := (firstMet (fun i => ns.getD i 0) ns.length).length
theorem len_set_ints {X : Cx} {ns : List Int} {S : Store} {W : WD} {d : D} (hc : X.calm = true) (hb : ns.length + 1 < scanBound) (hd : lsOf S d = some (ns.map .int)) (w : W (.int (unl ns)) S)
 {pins : Pins} {s : Shared} {σ : DL.St} {H : Hp} {O : Own} {v : V} {u : Value} (I : Inv X pins σ H s) (st : StOk X.K O H S) (r' : Rep X.K O H v d) (ru' : RelV v u) :
 wpAny (model X.prog X.w) X.A (call (.type "set") [u]) (fun u1 s1 => wpAny (model X.prog X.w) X.A (call (.builtin "len") [u1]) (EP X pins σ (QG X.K O H W)) X.xe s1) X.xe s := by
 obtain ⟨a, xs, rfl, hs, hq⟩ := ls_sq (pins := pins) (s := s) (σ := σ) (X := X) st r' hd
 cases ru'
 obtain ⟨its, rv, pl, hz⟩ := I.list hs
 have ex : xs = ns.map V.int := hq.ints
 have hi : IntsAre its ns := by
  rw [ex] at rv
  clear pl hz hs hq ex w hb hd
  induction ns generalizing its with
  | nil => cases rv; exact .nil
  | cons n ns ih =>
    cases rv with
    | cons r1 r2 => obtain ⟨t, rfl⟩ := r1; constructor; exact ih _ r2
 have hl : its.length = ns.length := IntsAre.length hi
 refine call_set_list (items := its.toArray) (ns := ns) (I.ok.hd hc) pl.isList (by simpa using hi) (by rw [List.size_toArray, hl]; exact hb) fun h' tk hS hk => ?_
 have ez : its.toArray.size = ns.length := by rw [List.size_toArray, hl]
 rw [ez] at hS
 obtain ⟨o, es, ep, t, ho, hex, hd', _, _, hsz, hf, hn⟩ := hS
 have I1 : Inv X pins σ H { s with heap := h', toks := tk } := I.kept (t' := tk) fun b o e => hk b o (Heap.lt_size e) e
 refine call_len_set (s := { s with heap := h', toks := tk }) ho hex hd' hf (by unfold scanBound at hsz; omega) ?_
 rw [hn]
 exact ⟨.int _, H, I1.tok _, ⟨_, rfl⟩, QG.here w st (.int _)⟩
def Ex.lset (hm : Ω.mg "len" = none) (hm2 : Ω.mg "set" = none) (a : Ex Ω) : Ex Ω where
 lev := a.lev
 chk top N nm e := match e with
  | .Call (.Name y _) [.Call (.Name z _) [b] [] _] [] _ => (y == "len") && ((z == "set") && (glb nm "len" && (glb nm "set" && (okE b && a.chk top N nm b))))
  | _ => false
 wp Γ S W := a.wp Γ S fun d S1 => ∃ ns : List Int, lsOf S1 d = some (ns.map .int) ∧ ns.length + 1 < scanBound ∧ W (.int (unl ns)) S1
 sound := by
  intro X r top N nm e Γ S W A hl hc hw
  split at hc
  · rename_i y p z p' b pos' pos
    obtain ⟨h1, hc⟩ := and2 hc
    obtain ⟨h2, hc⟩ := and2 hc
    obtain ⟨h3, hc⟩ := and2 hc
    obtain ⟨h4, hc⟩ := and2 hc
    obtain ⟨h5, h6⟩ := and2 hc
    have e1 := eq_of_beq h1
    have e2 := eq_of_beq h2
    subst e1 e2
    intro pins s σ H O I env st
    refine wpAny_Call_Name_kw (ld_blt I (A.glb h3) (by rw [A.g]; exact hm) (show bootBuiltins "len" = some (.builtin "len") from by decide +kernel) ?_ (by decide) (by decide))
    refine PyProof.Rows.callWith_builtin1 ?_ rfl rfl
    show wpAny _ _ (spliced ((false, eval _ X.env) :: backTo pos (starEach [] X.env))) _ _ s
    refine Calls.spliced_cons ?_
    refine wpAny_Call_Name_kw (ld_blt I (A.glb h4) (by rw [A.g]; exact hm2) (show bootBuiltins "set" = some (.type "set") from by decide +kernel) ?_ (by decide) (by decide))
    refine PyProof.Rows.callWith_type1 ?_ (star_ok h5 _ _) rfl
    rw [star_ok h5 [] X.env]
    show wpAny _ _ (spliced ((false, eval b X.env) :: backTo pos' (starEach [] X.env))) _ _ s
    refine Calls.spliced_cons (thn (a.sound A hl h6 hw pins s σ H O I env st) fun u s1 ⟨v, H1, I1, r1, O1, x, S1, hb, st1, ok1, rep1⟩ => ?_)
    obtain ⟨ns, c1, c2, c3⟩ := hb
    refine Calls.spliced_nil ?_
    refine thn (len_set_ints A.calm c2 c1 c3 I1 ok1 rep1 r1) fun u2 s2 q => ?_
    refine Calls.spliced_nil ?_
    exact thn q fun _ _ q => EPpre st1 q
  · exact fE hc
theorem unl_same {c : Int} : ∀ (m : Nat), unl (List.replicate (m + 1) c) = 1 := by
 intro m
 unfold unl
 rw [List.length_replicate]
 have : ∀ k, k ≤ m → firstMet (fun i => (List.replicate (m + 1) c).getD i 0) (k + 1) = [c] := by
  intro k
  induction k with
  | zero => intro _; rw [firstMet_succ, firstMet_zero]; simp [step_dedup, List.replicate_succ]
  | succ k ih =>
    intro hk
    rw [firstMet_succ, ih (by omega)]
    have : (List.replicate (m + 1) c).getD (k + 1) 0 = c := by simp [List.getD, List.getElem?_replicate, show k + 1 < m + 1 from by omega]
    rw [this]
    simp [step_dedup]
 rw [this m (Nat.le_refl _)]; rfl
end
end RF
namespace XE
open PySem PySem.Spec L2 DL RF
open PyProof.Rows
variable {Ω : Wd}
section
variable {X : Cx} {Γ : Gam} {S : Store} {sts : List Stmt} {W : DL.Fin} {WE : WX} {e : Expr} {pos : Pos}
theorem XQ.xr {pins : Pins} {σ : L2.St} {O : Own} {H : Hp} {ev : Value} {s2 : Shared} (z : XQ X pins σ O H WE ev s2) : XR X O H WE ev s2 := by
 obtain ⟨H1, s1, E', h1, h2, h3⟩ := z
 exact .inr ⟨pins, σ, H1, s1, E', h1, h2, h3⟩
theorem rx_nil (w : W.nx Γ S) : RnsX X Γ S [] W WE := fun pins s σ H O I env st => wpAny_execs_nil ⟨σ, H, I, O, Γ, S, w, Step.refl O H, st, env⟩
theorem rx_exs (h : EvX X Γ S e (fun _ S1 => RnsX X Γ S1 sts W WE) WE) (hs : swapsWith e none pos.line X.env = pure false) : RnsX X Γ S (.Expr e pos :: sts) W WE := by
 intro pins s σ H O I env ok
 refine wpAny_execs_cons (wpAny_Expr_any (wpAny_mono (h pins s σ H O I env ok) (fun v s1 hq => ?_) fun _ _ z => z.xr) I.quiet hs)
 obtain ⟨x, H1, I1, r1, O1, d, S1, w, st1, ok1, rep1⟩ := hq
 exact wpAny_mono (w pins s1 σ H1 O1 I1 (env.mono st1) ok1) (fun _ _ q => SPpre st1 q) fun _ _ z => z.pre st1
theorem rx_ret (h : EvX X Γ S e W.rt WE) : RnsX X Γ S (.Return (some e) pos :: sts) W WE := by
 intro pins s σ H O I env ok
 refine wpAny_execs_cons (wpAny_Return_some (wpAny_mono (h pins s σ H O I env ok) (fun v s1 hq => ?_) fun _ _ z => z.xr))
 obtain ⟨x, H1, I1, r1, q1⟩ := hq
 exact ⟨x, σ, H1, I1, r1, q1⟩
theorem rx_ite {c : Expr} {xs ys : List Stmt} (h : Ts X.nox Γ S c fun k S1 => (k = true → RnsX X Γ S1 xs { W with nx := fun Γ1 S2 => RnsX X Γ1 S2 sts W WE } WE) ∧ (k = false → RnsX X Γ S1 ys { W with nx := fun Γ1 S2 => RnsX X Γ1 S2 sts W WE } WE)) :
 RnsX X Γ S (.If c xs ys pos :: sts) W WE := by
 intro pins s σ H O I env ok
 refine wpAny_execs_cons (wpAny_If (wpAny_mono (h pins s σ H O (I.wish _) env ok) (fun d s1 hq => ?_) fun _ _ z => z.elim))
 obtain ⟨H1, I1, O1, S1, w, st1, ok1⟩ := hq
 have I1 := I1.unwish
 have go : ∀ zs : List Stmt, RnsX X Γ S1 zs { W with nx := fun Γ1 S2 => RnsX X Γ1 S2 sts W WE } WE → wpAny (model X.prog X.w) X.A (execs zs X.env) (fun f s2 => match f with | .next => wpAny (model X.prog X.w) X.A (execs sts X.env) (SP X pins (ends X.K O H W)) (XR X O H WE) s2 | f => SP X pins (ends X.K O H W) f s2) (XR X O H WE) s1 := by
  intro zs hz
  refine wpAny_mono (hz pins s1 σ H1 O1 I1 (env.mono st1) ok1) (fun f s2 q => ?_) fun _ _ z => z.pre st1
  cases f with
  | next =>
    obtain ⟨σ', H', I', O2, Γ2, S2, w2, st2, ok2, env2⟩ := q
    exact wpAny_mono (w2 pins s2 σ' H' O2 I' env2 ok2) (fun _ _ q => SPpre (st1.trans st2) q) fun _ _ z => z.pre (st1.trans st2)
  | ret v => exact SPpre (W := W) st1 q
  | brk => exact SPpre (W := W) st1 q
  | cont => exact SPpre (W := W) st1 q
 cases d with
 | true => exact go xs (w.1 rfl)
 | false => exact go ys (w.2 rfl)
end
def BX.nil : BX Ω where
 lev := 0
 chk _ _ _ sts := sts.isEmpty
 wp Γ S W _ := W.nx Γ S
 sound := by
  intro X r top N nm sts Γ S W WE A hl hc hw
  cases sts with
  | nil => exact rx_nil hw
  | cons => exact fE hc
def callE : Expr → Bool
 | .Call (.Name _ _) _ [] _ => true
 | _ => false
theorem swaps_call {e : Expr} {t : Option Expr} {l : Nat} {env : Env} (h : callE e = true) : swapsWith e t l env = pure false := by
 unfold callE at h
 split at h
 · rfl
 · cases h
def BX.exs (x : XEx Ω) (rest : BX Ω) : BX Ω where
 lev := max x.lev rest.lev
 chk top N nm sts := match sts with | .Expr e _ :: sts => callE e && (x.chk top N nm e && rest.chk top N nm sts) | _ => false
 wp Γ S W WE := x.wp Γ S (fun _ S1 => rest.wp Γ S1 W WE) WE
 sound := by
  intro X r top N nm sts Γ S W WE A hl hc hw
  obtain ⟨l1, l2⟩ := lv2 hl
  split at hc
  · obtain ⟨h0, hc⟩ := and2 hc
    obtain ⟨h1, h2⟩ := and2 hc
    refine rx_exs (fun pins s σ H O I env ok => wpAny_mono (x.sound A l1 h1 hw pins s σ H O I env ok) (fun v s1 hq => ?_) fun _ _ z => z) (swaps_call h0)
    obtain ⟨y, H1, I1, r1, O1, d, S1, w, q⟩ := hq
    exact ⟨y, H1, I1, r1, O1, d, S1, rest.sound A l2 h2 w, q⟩
  · exact fE hc
def BX.retx (x : XEx Ω) (rest : BX Ω) : BX Ω where
 lev := x.lev
 chk top N nm sts := match sts with | .Return (some e) _ :: _ => x.chk top N nm e | _ => false
 wp Γ S W WE := x.wp Γ S W.rt WE
 sound := by
  intro X r top N nm sts Γ S W WE A hl hc hw
  split at hc
  · exact rx_ret (x.sound A hl hc hw)
  · exact fE hc
def BX.ite (c : Te Ω) (t e : BX Ω) (rest : BX Ω) : BX Ω where
 lev := max (max c.lev rest.lev) (max t.lev e.lev)
 chk top N nm sts := match sts with | .If ce xs ys _ :: sts => c.chk top N nm ce && (t.chk top N nm xs && (e.chk top N nm ys && rest.chk top N nm sts)) | _ => false
 wp Γ S W WE := c.wp Γ S fun k S1 => (k = true → t.wp Γ S1 { W with nx := fun Γ1 S2 => rest.wp Γ1 S2 W WE } WE) ∧ (k = false → e.wp Γ S1 { W with nx := fun Γ1 S2 => rest.wp Γ1 S2 W WE } WE)
 sound := by
  intro X r top N nm sts Γ S W WE A hl hc hw
  obtain ⟨l1, l2⟩ := lv2 hl
  obtain ⟨l3, l4⟩ := lv2 l1
  obtain ⟨l5, l6⟩ := lv2 l2
  split at hc
  · rename_i ce xs ys p0 sts
    obtain ⟨h1, hc⟩ := and2 hc
    obtain ⟨h2, hc⟩ := and2 hc
    obtain ⟨h3, h4⟩ := and2 hc
    have up : ∀ (b : BX Ω) (zs : List Stmt) (S1 : Store), b.lev ≤ r → b.chk top N nm zs = true → b.wp Γ S1 { W with nx := fun Γ1 S2 => rest.wp Γ1 S2 W WE } WE → RnsX X Γ S1 zs { W with nx := fun Γ1 S2 => RnsX X Γ1 S2 sts W WE } WE := by
     intro b zs S1 lb hb hw pins s σ H O I env ok
     refine wpAny_mono (b.sound A lb hb hw pins s σ H O I env ok) (fun f s1 q => ?_) fun _ _ z => z
     cases f with
     | next =>
       obtain ⟨σ', H', I', O1, Γ1, S1, w, st1, ok1, env1⟩ := q
       exact ⟨σ', H', I', O1, Γ1, S1, rest.sound A l4 h4 w, st1, ok1, env1⟩
     | ret v => exact q
     | brk => exact q
     | cont => exact q
    exact rx_ite (Ts.mono (c.sound A l3 h1 hw) fun k S1 q => ⟨fun hk => up t _ S1 l5 h2 (q.1 hk), fun hk => up e _ S1 l6 h3 (q.2 hk)⟩)
  · exact fE hc
def TrS (X : Cx) (Γ : Gam) (S : Store) (sts : List Stmt) (W : DL.Fin) (WE : WX) : Prop :=
 ∀ (pins : Pins) (s : Shared) (σ : L2.St) (H : Hp) (O : Own), Inv X pins σ H s → EnvOk X.K O H σ Γ → StOk X.K O H S →
   wpAny (model X.prog X.w) X.A (execs sts X.env) (SP X pins (ends X.K O H W)) (XQ X pins σ O H WE) s
structure TB (Ω : Wd) where
 lev : Nat
 chk : Bool → List Str → Nm → List Stmt → Bool
 wp : Gam → Store → DL.Fin → WX → Prop
 sound : ∀ {X : Cx} {r : Nat} {top : Bool} {N : List Str} {nm : Nm} {sts : List Stmt} {Γ : Gam} {S : Store} {W : DL.Fin} {WE : WX}, At Ω X.nox r top N nm → lev ≤ r → chk top N nm sts = true → wp Γ S W WE → TrS X Γ S sts W WE
def TB.ret (x : XEx Ω) : TB Ω where
 lev := x.lev
 chk top N nm sts := match sts with | [.Return (some e) _] => x.chk top N nm e | _ => false
 wp Γ S W WE := x.wp Γ S W.rt WE
 sound := by
  intro X r top N nm sts Γ S W WE A hl hc hw
  split at hc
  · intro pins s σ H O I env ok
    refine wpAny_execs_cons (wpAny_Return_some (wpAny_mono (x.sound A hl hc hw pins s σ H O I env ok) (fun v s1 hq => ?_) fun _ _ z => z))
    obtain ⟨x, H1, I1, r1, q1⟩ := hq
    exact ⟨x, σ, H1, I1, r1, q1⟩
  · exact fE hc
section
variable {X : Cx} {Γ : Gam} {S : Store} {W : DL.Fin} {WE : WX} {e : Expr}
theorem r_tryb {L T : List Str} {hb : List HB} {i : Nat} {n : Str} {np hp pos : Pos} {body : List Stmt} {b₀ : Stmt} {suite : List Stmt} (E : ExF X.mg X.K L T)
 (h : TrS X Γ S body W fun x S1 => x ∈ L ∧ match HB.out (qOf x) hb with | some o => W.rt o.d S1 | none => W.nx (Γ.set i none) S1)
 (hst : X.stack = X.env :: X.outer) (hfr : X.env.frame = some X.env.locals) (hex : X.ex = []) (hN : X.N.Nodup) (hi : X.N[i]? = some n) (hn : X.env.scope.names.lookup n = some .local) (hok : okN n = true) (mi : X.mg "isinstance" = none) (mt : X.mg "int" = none)
 (gi : Gl X "isinstance") (gt : Gl X "int") (gT : Gl X "TurnError") (hc : HB.chks n hb (b₀ :: suite) = true) (hT : ∀ b ∈ hb, ∀ y ∈ b.nms, y ∈ T ∧ Gl X y ∧ (y == ("__debug__" : Str)) = false) :
 Rn X Γ S (.Try body [.ExceptHandler (some (.Name "TurnError" np)) (some n) (b₀ :: suite) hp] [] [] pos) W := by
 intro pins s σ H O I env st
 refine wpAny_Try_except (wpAny_mono (h pins s σ H O I env st) (fun f s1 hq => ?_) fun ev s2 z => ?_)
 · cases f with
   | next => exact wpAny_execs_nil hq
   | ret v => exact hq
   | brk => exact hq
   | cont => exact hq
 · obtain ⟨H1, s1, E', I1, cx, hE⟩ := z
   obtain ⟨a, C, t, H', B, rfl, ho, hg, fl, fw, hq⟩ := cx
   obtain ⟨x, O', S', hm, ⟨hL, hw⟩, st', ok'⟩ := hE C H' hq
   obtain ⟨C', k1, k2, atr, ⟨tt, k3, k4⟩, k5⟩ := E.cls x hL
   rw [k1] at hm
   cases hm
   have inv : ∀ h', Heap.FlyingW B X.stack a (.ref C) (.ref t) h' → s2.heap.UpToSlots h' → Inv X pins σ H' { s2 with heap := h' } := fun h' f u => by
    have fl' := fl.on u fw.2.2.1
    exact Inv.call' (s' := { s2 with heap := h' }) (ch := []) I1 ho (fl'.un f.1) (fl'.hok.kept f.1) hg (fun b z => nomatch z)
   have hH : H' a = none := HOk.none fl.hok fw.2.1
   have hiσ : i < σ.length := by rw [I.len]; exact (List.getElem?_eq_some_iff.mp hi).1
   refine caught I1.ok I1 hex (frame_new fl fw) hst hfr fw inv fl.hok gT k3 (by decide) k4 hN hi hn fun s6 J => ?_
   have sx : Sx (XE.sup X (.ref a)) n i C (qOf x) := ⟨hi, .inl hn, (okN_at hok).1, (okN_at hok).2.1, atr, mi, gi⟩
   have run := HB.run (Y := XE.sup X (.ref a)) (a := a) sx (List.getElem?_set_self hiσ) mt gt hb (b₀ :: suite) hc (fun b hb' y hy => ?_) s6 _ upd_same J
   · refine wpAny_mono run (fun f s7 z => ?_) fun _ _ z => z
     obtain ⟨H7, I7, sm, ef⟩ := z
     have I7 := Inv.unsup I1.ok I7
     refine name_gone I7 hN hi hn fun s8 I8 => ?_
     have stp : Step O O' H H7 := (st'.trans (Step.fresh hH _)).trans (Step.same sm)
     have sok : StOk X.K O' H7 S' := (ok'.fresh hH _).same sm
     cases eo : HB.out (qOf x) hb with
     | some c =>
       rw [eo] at ef hw
       obtain ⟨u, rfl, r⟩ := ef
       exact ⟨c.v, _, H7, I8, r, O', c.d, S', hw, stp, sok, by cases c <;> constructor⟩
     | none =>
       rw [eo] at ef hw
       subst ef
       refine ⟨_, H7, I8, O', _, S', hw, stp, sok, ?_⟩
       have e1 := env.mono stp
       refine ⟨by simp [e1.len], fun j d hj => ?_⟩
       by_cases ji : i = j
       · subst ji
         rw [List.getElem?_set_self (by rw [← env.len]; exact hiσ)] at hj
         cases hj
       · rw [List.getElem?_set_ne ji] at hj ⊢
         rw [List.getElem?_set_ne ji]
         exact e1.at_ j d hj
   · obtain ⟨g1, g2, g3⟩ := hT b hb' y hy
     obtain ⟨v, u, g4, g5, g6⟩ := k5 y g1
     exact ⟨g2, g3, v, u, g4, g5, g6⟩
end
def tryV : Stmt → Option (List Stmt × ExceptHandler)
 | .Try b [h] [] [] _ => some (b, h)
 | _ => none
def hanV : ExceptHandler → Option (Expr × Str × List Stmt)
 | .ExceptHandler (some y) (some m) (b :: bs) _ => some (y, m, b :: bs)
 | _ => none
theorem tryV_of {st : Stmt} {b : List Stmt} {h : ExceptHandler} (e : tryV st = some (b, h)) : ∃ p, st = .Try b [h] [] [] p := by
 unfold tryV at e
 split at e
 · cases e; exact ⟨_, rfl⟩
 · cases e
theorem hanV_of {h : ExceptHandler} {y : Expr} {m : Str} {bs : List Stmt} (e : hanV h = some (y, m, bs)) : ∃ c cs p, bs = c :: cs ∧ h = .ExceptHandler (some y) (some m) (c :: cs) p := by
 unfold hanV at e
 split at e
 · cases e; exact ⟨_, _, _, rfl, rfl⟩
 · cases e
def tryChk (T : List Str) (t : TB Ω) (i : Nat) (n : Str) (hb : List HB) (N : List Str) (nm : Nm) (st : Stmt) : Bool := match tryV st with
 | some (b, h) => match hanV h with
   | some (y, m, suite) => (nameV y == some ("TurnError" : Str)) && ((m == n) && (t.chk true N nm b && (HB.chks n hb suite && ((nm.lookup n == some .local) && ((N[i]? == some n) && (okN n && (glb nm "isinstance" && (glb nm "int" && (glb nm "TurnError" && (hb.all fun b => b.nms.all fun y => T.contains y && (glb nm y && okN y)))))))))))
   | none => false
 | none => false
def BT.tryb {L T : List Str} (E : ExF Ω.mg Ω.K L T) (mi : Ω.mg "isinstance" = none) (mt : Ω.mg "int" = none) (x : TB Ω) (i : Nat) (n : Str) (hb : List HB) (rest : BT Ω) : BT Ω where
 lev := max x.lev rest.lev
 chk N nm sts := match sts with
  | st :: sts => tryChk T x i n hb N nm st && rest.chk N nm sts
  | _ => false
 wp Γ S W := x.wp Γ S { W with nx := fun Γ1 S1 => rest.wp Γ1 S1 W } fun y S1 => y ∈ L ∧ match HB.out (qOf y) hb with | some o => W.rt o.d S1 | none => rest.wp (Γ.set i none) S1 W
 sound := by
  intro X r N nm sts Γ S W A h1 h2 h3 hl hc hw
  obtain ⟨l1, l2⟩ := lv2 hl
  cases sts with
  | nil => exact fE hc
  | cons st sts =>
    obtain ⟨hc, c12⟩ := and2 hc
    unfold tryChk at hc
    split at hc
    case h_2 => exact fE hc
    rename_i body han e1
    split at hc
    case h_2 => exact fE hc
    rename_i y m suite e2
    obtain ⟨c1, hc⟩ := and2 hc
    obtain ⟨c2, hc⟩ := and2 hc
    obtain ⟨c3, hc⟩ := and2 hc
    obtain ⟨c4, hc⟩ := and2 hc
    obtain ⟨c5, hc⟩ := and2 hc
    obtain ⟨c6, hc⟩ := and2 hc
    obtain ⟨c7, hc⟩ := and2 hc
    obtain ⟨c8, hc⟩ := and2 hc
    obtain ⟨c9, hc⟩ := and2 hc
    obtain ⟨c10, c11⟩ := and2 hc
    obtain ⟨p, rfl⟩ := tryV_of e1
    obtain ⟨b, bs, hp, rfl, rfl⟩ := hanV_of e2
    obtain ⟨np, rfl⟩ := nameV_of (eq_of_beq c1)
    obtain rfl := eq_of_beq c2
    have A' : At Ω X.nox r true N nm := ⟨A.p, A.w, A.k, A.g, A.b, A.room, rfl, A.calm, A.n, A.nd, A.kind, A.look, A.fn⟩
    have loc : X.env.scope.names.lookup m = some .local := by
     rcases A.look m _ (eq_of_beq c5) with q | ⟨q, _⟩
     · exact q
     · exact nomatch q
    refine rs_cons (r_tryb (L := L) (T := T) (hb := hb) (i := i) (by rw [A.g, A.k]; exact E) ?_ h1 h2 h3 (by rw [A.n]; exact A.nd) (by rw [A.n]; exact eq_of_beq c6) loc c7 (by rw [A.g]; exact mi) (by rw [A.g]; exact mt) (A.glb c8) (A.glb c9) (A.glb c10) c4 fun b' hb' y hy => ?_)
    · have := x.sound (X := X) A' l1 c3 hw
      refine fun pins s σ H O I env st => wpAny_mono (this pins s σ H O I env st) (fun f s1 q => ?_) fun ev s2 z => ?_
      · cases f with
        | next =>
          obtain ⟨σ', H', I', O1, Γ1, S1, w, st1, ok1, env1⟩ := q
          exact ⟨σ', H', I', O1, Γ1, S1, rest.sound A h1 h2 h3 l2 c12 w, st1, ok1, env1⟩
        | ret v => exact q
        | brk => exact q
        | cont => exact q
      · obtain ⟨H1, s1, E', I1, cx, hE⟩ := z
        refine ⟨H1, s1, E', I1, cx, fun c H' z => ?_⟩
        obtain ⟨x', O', S', g1, ⟨g2, g3⟩, g4, g5⟩ := hE c H' z
        refine ⟨x', O', S', g1, ⟨g2, ?_⟩, g4, g5⟩
        cases eo : HB.out (qOf x') hb with
        | some o => rw [eo] at g3; exact g3
        | none => rw [eo] at g3; exact rest.sound A h1 h2 h3 l2 c12 g3
    · have := List.all_eq_true.mp (List.all_eq_true.mp c11 b' hb') y hy
      obtain ⟨d1, this⟩ := and2 this
      obtain ⟨d2, d3⟩ := and2 this
      exact ⟨by simpa using d1, A.glb d2, (okN_at d3).1⟩
end XE
namespace RF
open PySem PySem.Spec L2 DL
open PyProof.Rows
variable {Ω : Wd}
end RF
namespace RF
open PySem PySem.Spec L2 DL
open PyProof.Rows
variable {Ω : Wd}
def Big (i : Int) : Prop := -1000000000000000000000000000000000000000000000000000000000000 < i ∧ i < 1000000000000000000000000000000000000000000000000000000000000
theorem big_bits {i : Int} (h : Big i) : Builtin.Int.intBits i ≤ 200 := by
 obtain ⟨h1, h2⟩ := h
 unfold Builtin.Int.intBits
 split
 · exact Nat.zero_le _
 · have hn : i.natAbs < 2 ^ 200 := by omega
   have : i.natAbs.log2 < 200 := by
    rcases Nat.eq_zero_or_pos i.natAbs with h0 | hp
    · rw [h0]; decide
    · exact (Nat.log2_lt (Nat.ne_of_gt hp)).mpr hn
   omega
def Ex.mulB (a b : Ex Ω) : Ex Ω where
 lev := max a.lev b.lev
 chk top N nm e := match e with | .BinOp l o r _ => (o == .Mult) && (a.chk top N nm l && b.chk top N nm r) | _ => false
 wp Γ S W := a.wp Γ S fun x S1 => b.wp Γ S1 fun y S2 => match x, y with
  | .int i, .int j => (Big i ∧ Big j) ∧ W (.int (i * j)) S2
  | _, _ => False
 sound := by
  intro X r top N nm e Γ S W A hl hc hw
  obtain ⟨l1, l2⟩ := lv2 hl
  cases e with
  | BinOp l o r' pos =>
    obtain ⟨h1, h2⟩ := and2 hc
    obtain ⟨h2, h3⟩ := and2 h2
    have e : o = .Mult := eq_of_beq h1
    subst e
    refine ev_bin ((a.sound A l1 h2 hw).mono fun x S1 q => (b.sound A l2 h3 q).mono fun y S2 q => ?_)
    split at q
    · exact bin_int (C := fun i j => Big i ∧ Big j) (g := fun i j => i * j) (opI fun i j _ _ _ _ _ hc q => mul_int q (mulOk_of_bits (big_bits hc.1) (big_bits hc.2) (by decide))) q.1 q.2
    · exact (show False from q).elim
  | _ => exact fE hc
theorem k_lstTO {X : Cx} {S : Store} {W : WD} {ds : List D} (w : W (.loc S.length) (S ++ [ds])) : CalW X (.type "list") [.tup ds] S W := calW_of call_list_of fun O H vs st r => by
 obtain ⟨v, rfl, r'⟩ := reps1 r
 cases r' with
 | @tup p xs _ h1 q1 => exact ⟨p, xs, rfl, .inr h1.sq, fun l hl => qg_loc w st hl q1⟩
theorem k_lstLO {X : Cx} {S : Store} {W : WD} {ds : List D} (w : W (.loc S.length) (S ++ [ds])) : CalW X (.type "list") [.lst ds] S W := calW_of call_list_of fun O H vs st r => by
 obtain ⟨v, rfl, r'⟩ := reps1 r
 cases r' with
 | @lst p xs _ h1 q1 => exact ⟨p, xs, rfl, .inl h1.sq, fun l hl => qg_loc w st hl q1⟩
def tListO : Bc where
 x := "list"
 id := "list"
 boot := by decide +kernel
 wp ds S W := match ds with
  | [.tup ds] => W (.loc S.length) (S ++ [ds])
  | [.lst ds] => W (.loc S.length) (S ++ [ds])
  | _ => False
 sound := by
  intro X ds S W hc hr h
  split at h
  · exact k_lstTO h
  · exact k_lstLO h
  · exact h.elim
theorem bd_ix {X : Cx} {Γ : Gam} {S : Store} {o i : Expr} {tpos : Pos} {d : D} {W : Gam → Store → Prop} (h : Ev X Γ S o fun x S2 => Ev X Γ S2 i fun y S3 => ∃ k n ds j, x = .loc k ∧ y = .int n ∧ S3[k]? = some ds ∧ ixN ds.length n = some j ∧ W Γ (S3.set k (ds.set j d)))
 (ha : ∀ v, assign (.Subscript o i tpos) X.env v = (do
  let ov ← holding [v] (eval o X.env)
  let iv ← holding [v, ov] (eval i X.env)
  standAt tpos
  holding [v, ov, iv] (setItem ov iv v)
  release [v, ov, iv] [])) : BdW X (.Subscript o i tpos) d Γ S W := fun pins s1 σ H1 O1 v u I1 env ok1 rep1 r1 => by
 rw [ha]
 refine wpAny_bind (wpAny_holding (thn (h pins s1 σ H1 O1 I1 env ok1) fun ov s2 hq_ => ?_))
 obtain ⟨x, H2, I2, r2, O2, dx, S2, w2, st2, ok2, rep2⟩ := hq_
 refine wpAny_bind (wpAny_holding (thn (w2 pins s2 σ H2 O2 I2 (env.mono st2) ok2) fun iv s3 hq_ => ?_))
 obtain ⟨y, H3, I3, r3, O3, dy, S3, ⟨k, n, ds, j, ex, ey, hk, hj, w⟩, st3, ok3, rep3⟩ := hq_
 subst ex
 subst ey
 have rx := rep2.mono st3
 cases rx with
 | @loc p _ hp =>
   cases rep3
   obtain ⟨xs, hx, q⟩ := ok3.obj k p ds hp hk
   have rd := (rep1.mono st2).mono st3
   refine wpAny_bind (wpAny_standAt (wpAny_bind (wpAny_holding (thn (set_list pins s3 σ H3 _ _ v ov iv u (fun H' => H' = upd H3 p (.lst (xs.set j v))) I3 r2 r3 r1 ⟨p, xs, n, j, rfl, rfl, hx, by rw [q.length]; exact hj, rfl⟩) fun _ s4 hq_ => ?_))))
   obtain ⟨H4, I4, e4⟩ := hq_
   subst e4
   exact wpAny_release ⟨σ, _, I4, O3, Γ, _, w, (st2.trans st3).trans (Step.put (List.mem_of_getElem? hp) _), ok3.put hp (q.set rd j), ((env.mono st2).mono st3).mono (Step.put (List.mem_of_getElem? hp) _)⟩
def wpPut (k n : D) (S : Store) (d : D) (W : Store → Prop) : Prop := match k, n with
 | .loc k, .int n => ∃ ds j, S[k]? = some ds ∧ ixN ds.length n = some j ∧ W (S.set k (ds.set j d))
 | _, _ => False
theorem swp_none (a b c d : Expr) (p q r : Pos) (k : Nat) (e : Expr) (env : Env) : swappedStores [.Tuple [.Subscript a b p, .Subscript c d q] k r] e env = pure none := by
 unfold swappedStores
 cases e with
 | Tuple vs k2 p2 =>
   show (if _ then _ else _) = _
   split
   · rfl
   · show (if _ then _ else _) = _
     split
     · rfl
     · rfl
 | _ => rfl
def Sm.swap (o i o' i' a : Ex Ω) : Sm Ω where
 lev := max a.lev (max (max o.lev i.lev) (max o'.lev i'.lev))
 chk top N nm st := match st with
  | .Assign [.Tuple [.Subscript x y _, .Subscript x' y' _] _ _] e _ => noC e && (okE y && (okE y' && (a.chk top N nm e && ((o.chk top N nm x && i.chk top N nm y) && (o'.chk top N nm x' && i'.chk top N nm y')))))
  | _ => false
 wp Γ S W := a.wp Γ S fun d S1 => match d with
  | .tup [d1, d2] => o.wp Γ S1 fun x S2 => i.wp Γ S2 fun y S3 => wpPut x y S3 d1 fun S4 => o'.wp Γ S4 fun x' S5 => i'.wp Γ S5 fun y' S6 => wpPut x' y' S6 d2 fun S7 => W.nx Γ S7
  | _ => False
 sound := by
  intro X r top N nm st Γ S W A hl hc hw
  obtain ⟨l1, l2⟩ := lv2 hl
  obtain ⟨l2, l3⟩ := lv2 l2
  obtain ⟨l4, l5⟩ := lv2 l2
  obtain ⟨l6, l7⟩ := lv2 l3
  split at hc
  · rename_i x y p x' y' p' kk pp e spos
    obtain ⟨h1, hc⟩ := and2 hc
    obtain ⟨h2, hc⟩ := and2 hc
    obtain ⟨h2', hc⟩ := and2 hc
    obtain ⟨h3, hc⟩ := and2 hc
    obtain ⟨hc1, hc2⟩ := and2 hc
    obtain ⟨h4, h5⟩ := and2 hc1
    obtain ⟨h6, h7⟩ := and2 hc2
    refine r_unpack ((a.sound A l1 h3 hw).mono fun d S1 q => ?_) (swapsS_ok h1 _ _ _) (swp_none _ _ _ _ _ _ _ _ _ _) rfl
    split at q
    · rename_i d1 d2
      have f1 : ∀ v, assign (.Subscript x y p) X.env v = (do
       let ov ← holding [v] (eval x X.env)
       let iv ← holding [v, ov] (eval y X.env)
       standAt p
       holding [v, ov, iv] (setItem ov iv v)
       release [v, ov, iv] []) := by
       intro v
       cases y <;> first | rfl | exact (Bool.false_ne_true h2).elim
      have f2 : ∀ v, assign (.Subscript x' y' p') X.env v = (do
       let ov ← holding [v] (eval x' X.env)
       let iv ← holding [v, ov] (eval y' X.env)
       standAt p'
       holding [v, ov, iv] (setItem ov iv v)
       release [v, ov, iv] []) := by
       intro v
       cases y' <;> first | rfl | exact (Bool.false_ne_true h2').elim
      refine bd_tup (bds_cons (bd_ix ((o.sound A l4 h4 q).mono fun dx S2 q => (i.sound A l5 h5 q).mono fun dy S3 q => ?_) f1) rfl) A.calm rfl rfl
      unfold wpPut at q
      split at q
      · obtain ⟨ds, j, g1, g2, q⟩ := q
        refine ⟨_, _, ds, j, rfl, rfl, g1, g2, bds_cons (bd_ix ((o'.sound A l6 h6 q).mono fun dx S2 q => (i'.sound A l7 h7 q).mono fun dy S3 q => ?_) f2) rfl⟩
        unfold wpPut at q
        split at q
        · obtain ⟨ds, j, g1, g2, q⟩ := q
          exact ⟨_, _, ds, j, rfl, rfl, g1, g2, bds_nil q⟩
        · exact q.elim
      · exact q.elim
    · exact q.elim
  · exact fE hc
theorem k_tupT {X : Cx} {S : Store} {W : WD} {ds : List D} (w : W (.tup ds) S) : CalW X (.type "tuple") [.tup ds] S W := calW_of call_tuple_of fun O H vs st r => by
 obtain ⟨v, rfl, r'⟩ := reps1 r
 cases r' with
 | @tup p xs _ h1 q1 => exact ⟨p, xs, rfl, .inr ⟨h1.sq, QG.here w st (.tup h1 q1)⟩⟩
def tTupleA : Bc where
 x := "tuple"
 id := "tuple"
 boot := by decide +kernel
 wp ds S W := match ds with
  | [.lst ds] => W (.tup ds) S
  | [.tup ds] => W (.tup ds) S
  | [.loc k] => ∃ ds, S[k]? = some ds ∧ W (.tup ds) S
  | _ => False
 sound := by
  intro X ds S W hc hr h
  split at h
  · exact k_tupL h
  · exact k_tupT h
  · obtain ⟨ds, h1, h2⟩ := h; exact k_tupO h1 h2
  · exact h.elim
theorem zip_newTL (l1 l2 : Addr) (xs ys : Array Value) :
 Meets (Builtin.«zip.__new__» ⟨[.type "zip", .ref l1, .ref l2], []⟩) (fun _ R s => s.heap.IsTuple l1 xs ∧ s.heap.IsList l2 ys ∧
  R (.ok (.ret (.ref (zh s.heap "tuple_iterator" "list_iterator" l1 l2).objs.size))) { s with heap := zhz s.heap "tuple_iterator" "list_iterator" l1 l2 }) :=
 .of_wp fun prog w A R s h => by
  obtain ⟨hp, g, d, tk, os⟩ := s; obtain ⟨a1, a2, h⟩ := h
  have hsub := sub_zip
  have b1 : Heap.IsTuple (Shared.heap ⟨hp, g, d, tk, os⟩) l1 xs := a1
  have b2 : Heap.IsList (Shared.heap ⟨hp.push { cls := .type "tuple_iterator", data := .fields #[.ref l1, .int 0 0] }, g, d, tk, os⟩) l2 ys := Heap.IsList.push a2 _
  wp_walk using wpAny_pyIter_tuple b1, wpAny_pyIter_list b2
  exact ⟨_, rfl, h⟩
theorem it_zipTL {X : Cx} {Γ : Gam} {S : Store} {pos : Pos} {e1 e2 : Expr} {elts : List Expr} {k : Nat} {tp p : Pos} {W : List D → Store → Prop} (h : Ev X Γ S e1 fun d S1 => Ev X Γ S1 e2 fun d' S2 => ∃ ds es, d = .tup ds ∧ d' = .lst es ∧ W (List.zipWith (fun x y => .tup [x, y]) ds es) S2) (hm : X.mg "zip" = none) (hg : Gl X "zip")
 (hs : starEach [e1, e2] X.env = (false, eval e1 X.env) :: starEach [e2] X.env) (hs2 : starEach [e2] X.env = [(false, eval e2 X.env)]) :
 ItW X Γ S (.Tuple elts k tp) (.Call (.Name "zip" p) [e1, e2] [] pos) W := by
 intro pins s σ H O I env st
 have hA : EvA X Γ S [e1, e2] fun dd S2 => ∃ ds es, dd = [.tup ds, .lst es] ∧ W (List.zipWith (fun x y => .tup [x, y]) ds es) S2 :=
  eva_cons (h.mono fun d S1 h1 => eva_cons (h1.mono fun d' S2 ⟨ds, es, a, b, w⟩ => eva_nil ⟨ds, es, by rw [a, b], w⟩) hs2) hs
 refine Call_ (ld_blt I hg hm boot_zip (PyProof.Rows.callWith_type1 (thn (hA pos pins s σ H O I env st) fun us s1 hq_ => ?_) hs (by rw [hs2]; rfl)))
 obtain ⟨vs, H1, I1, r1, O1, dd, S1, ⟨ds, es, ed, w⟩, st1, ok1, rep⟩ := hq_
 subst ed
 cases rep with
 | cons ra rb =>
   cases rb with
   | cons rb rc =>
     cases rc
     obtain ⟨u, u2, rfl, ru, ru2⟩ := vals2 r1
     cases ra with
     | @tup a xs _ h1 q1 =>
       cases rb with
       | @lst b ys _ h2 q2 =>
         cases ru
         cases ru2
         obtain ⟨its, rv, pl, hz⟩ := I1.tuple h1.sq
         obtain ⟨its2, rv2, pl2, hz2⟩ := I1.list h2.sq
         obtain ⟨z4, p1, p2, p3, p4, p5, kp⟩ := zip_parts s1.heap "tuple_iterator" "list_iterator" a b
         refine callType_new F.called_zip (by decide) (F.typeCall_zip_2 _ _) (F.newCall_zip_2 _ _) (fun obj => F.args_object_init_3 obj _ _) F.entry_zip_new (zip_newTL a b its.toArray its2.toArray) ⟨pl, pl2.isList, ?_⟩
         show _ ∧ _
         rw [z4]
         refine ⟨⟨_, p1, rfl⟩, zip_it (kTup X.prog X.w X.K) (kList X.prog X.w X.K) I1 ⟨_, p4, rfl, rfl⟩ ⟨_, p5, rfl, rfl⟩ ⟨O1, _, S1, w, st1, ok1, yields_zip _ _ fun O' H' cv => ⟨xs, ys, (h1.conv cv).sq, q1.conv cv, (h2.conv cv).sq, q2.conv cv⟩⟩⟩
def Itb.zipTL (hm : Ω.mg "zip" = none) (a b : Ex Ω) : Itb Ω where
 lev := max a.lev b.lev
 chk top N nm tg e := match tg, e with | .Tuple .., .Call (.Name y _) [l, r] [] _ => (y == ("zip" : Str)) && (glb nm "zip" && ((okE l && okE r) && (a.chk top N nm l && b.chk top N nm r))) | _, _ => false
 wp Γ S W := a.wp Γ S fun d S1 => b.wp Γ S1 fun d' S2 => match d, d' with | .tup ds, .lst es => W (List.zipWith (fun x y => .tup [x, y]) ds es) S2 | _, _ => False
 sound := by
  intro X r top N nm tg e Γ S W A hl hc hw
  obtain ⟨l1, l2⟩ := lv2 hl
  split at hc
  · obtain ⟨h1, h2⟩ := and2 hc
    obtain ⟨h2, h3⟩ := and2 h2
    obtain ⟨h3, h4⟩ := and2 h3
    obtain ⟨h5, h6⟩ := and2 h3
    obtain ⟨h7, h8⟩ := and2 h4
    have e := eq_of_beq h1
    subst e
    refine it_zipTL ((a.sound A l1 h7 hw).mono fun d S1 q => (b.sound A l2 h8 q).mono fun d' S2 q => ?_) (by rw [A.g]; exact hm) (A.glb h2) (star_ok h5 _ _) (star_ok h6 [] _)
    cases d <;> first | exact q.elim | (cases d' <;> first | exact ⟨_, _, rfl, rfl, q⟩ | exact q.elim)
  · exact fE hc
end RF
namespace K29
open PySem L2 DL RF XE
def top (i : Nat) : Stmt := PySem.Challenge.pw_nestturn_k29_plans_turned.main.body.getD i (.Pass ⟨0, 0, 0, 0⟩)
structure Bi (mg : Str → Option Value) : Prop where
 GREATEST_SIZE_ : ∃ t, mg "GREATEST_SIZE" = some (.int 99 t)
 MOST_LINES_ : ∃ t, mg "MOST_LINES" = some (.int 9 t)
 all_ : mg "all" = none
 bool_ : mg "bool" = none
 enumerate_ : mg "enumerate" = none
 int_ : mg "int" = none
 isinstance_ : mg "isinstance" = none
 len_ : mg "len" = none
 list_ : mg "list" = none
 range_ : mg "range" = none
 set_ : mg "set" = none
 str_ : mg "str" = none
 sum_ : mg "sum" = none
 tuple_ : mg "tuple" = none
 zip_ : mg "zip" = none
abbrev XL : List Str := ["NoPlan", "NoTurn"]
abbrev XT : List Str := ["NoOrder", "NoPlan", "NoProgram", "NoRow", "NoText", "NoTurn", "Tied", "TooMany", "ValueError"]
section
variable {Ω : Wd}
abbrev s_p_is_whole : Stmt := top 11
abbrev N_p_is_whole : List Str := ["thing"]
abbrev P_p_is_whole : List Str := ["thing"]
def b_p_is_whole (B : Bi Ω.mg) : Bl Ω :=
 Bl.cons (Sm.ret (Ex.and (Bo.cons (Ex.isi B.isinstance_ (Ex.var 0) .int B.int_) (Bo.one (Ex.not (Ex.isi B.isinstance_ (Ex.var 0) .bool B.bool_)))))) Bl.nil
abbrev s_p_is_tuple_of : Stmt := top 12
abbrev N_p_is_tuple_of : List Str := ["thing", "least", "most"]
abbrev P_p_is_tuple_of : List Str := ["thing", "least", "most"]
def b_p_is_tuple_of (B : Bi Ω.mg) : Bl Ω :=
 Bl.cons (Sm.ret (Ex.and (Bo.cons (Ex.isi B.isinstance_ (Ex.var 0) .tuple B.tuple_) (Bo.one (Ex.ch2 (Ex.var 1) .LtE (Ex.blt bLen B.len_ (Ar.cons (Ex.var 0) Ar.nil)) .LtE (Ex.var 2)))))) Bl.nil
abbrev s_p_is_form : Stmt := top 13
abbrev N_p_is_form : List Str := ["thing", "d"]
abbrev P_p_is_form : List Str := ["thing", "d"]
def b_p_is_form (B : Bi Ω.mg) {Fq26 : Ct} (Cq26 : Cal Ω "is_whole" 1 1 Fq26) {Fq25 : Ct} (Cq25 : Cal Ω "is_tuple_of" 1 3 Fq25) : Bl Ω :=
 Bl.cons (Sm.ret (Ex.and (Bo.cons (Ex.call Cq25 (Ar.cons (Ex.var 0) (Ar.cons (Ex.bin .Add (Ex.var 1) (Ex.int 1)) (Ar.cons (Ex.bin .Add (Ex.var 1) (Ex.int 1)) Ar.nil)))) (Bo.one (Ex.blt bAll B.all_ (Ar.cons (Ex.comp ["number"] [none] (Ex.call Cq26 (Ar.cons (Ex.var 0) Ar.nil)) (Tg.nm 0) (Itb.seq (Ex.var 0)) Cd.no) Ar.nil)))))) Bl.nil
abbrev s_p_is_word : Stmt := top 17
abbrev N_p_is_word : List Str := ["thing", "word"]
abbrev P_p_is_word : List Str := ["thing", "word"]
def b_p_is_word (B : Bi Ω.mg) : Bl Ω :=
 Bl.cons (Sm.ret (Ex.and (Bo.cons (Ex.isiS B.isinstance_ (Ex.var 0) B.str_) (Bo.one (Ex.cmp .Eq (Ex.var 0) (Ex.var 1)))))) Bl.nil
abbrev s_p_is_size : Stmt := top 18
abbrev N_p_is_size : List Str := ["thing"]
abbrev P_p_is_size : List Str := ["thing"]
def b_p_is_size (B : Bi Ω.mg) {Fq26 : Ct} (Cq26 : Cal Ω "is_whole" 1 1 Fq26) : Bl Ω :=
 Bl.cons (Sm.ret (Ex.and (Bo.cons (Ex.call Cq26 (Ar.cons (Ex.var 0) Ar.nil)) (Bo.one (Ex.ch2 (Ex.int 1) .LtE (Ex.var 0) .LtE (Ex.gint B.GREATEST_SIZE_)))))) Bl.nil
abbrev s_p_is_line : Stmt := top 19
abbrev N_p_is_line : List Str := ["thing", "d"]
abbrev P_p_is_line : List Str := ["thing", "d"]
def b_p_is_line_2 {Fq25 : Ct} (Cq25 : Cal Ω "is_tuple_of" 1 3 Fq25) {Fq19 : Ct} (Cq19 : Cal Ω "is_form" 2 2 Fq19) {Fq27 : Ct} (Cq27 : Cal Ω "is_word" 1 2 Fq27) {Fq24 : Ct} (Cq24 : Cal Ω "is_size" 2 1 Fq24) : Bl Ω :=
 Bl.cons (Sm.ret (Ex.bl false)) Bl.nil
def b_p_is_line_1 {Fq25 : Ct} (Cq25 : Cal Ω "is_tuple_of" 1 3 Fq25) {Fq19 : Ct} (Cq19 : Cal Ω "is_form" 2 2 Fq19) {Fq27 : Ct} (Cq27 : Cal Ω "is_word" 1 2 Fq27) {Fq24 : Ct} (Cq24 : Cal Ω "is_size" 2 1 Fq24) : Bl Ω :=
 Bl.cons (Sm.ite (Te.val (Ex.call Cq25 (Ar.cons (Ex.var 0) (Ar.cons (Ex.int 3) (Ar.cons (Ex.int 3) Ar.nil))))) (Bl.cons (Sm.ret (Ex.and (Bo.cons (Ex.call Cq27 (Ar.cons (Ex.ix (Ex.var 0) (Ex.int 0)) (Ar.cons (Ex.str "block") Ar.nil))) (Bo.cons (Ex.call Cq19 (Ar.cons (Ex.ix (Ex.var 0) (Ex.int 1)) (Ar.cons (Ex.var 1) Ar.nil))) (Bo.one (Ex.call Cq24 (Ar.cons (Ex.ix (Ex.var 0) (Ex.int 2)) Ar.nil))))))) Bl.nil) Bl.nil) (b_p_is_line_2 Cq25 Cq19 Cq27 Cq24)
def b_p_is_line {Fq25 : Ct} (Cq25 : Cal Ω "is_tuple_of" 1 3 Fq25) {Fq19 : Ct} (Cq19 : Cal Ω "is_form" 2 2 Fq19) {Fq27 : Ct} (Cq27 : Cal Ω "is_word" 1 2 Fq27) {Fq24 : Ct} (Cq24 : Cal Ω "is_size" 2 1 Fq24) : Bl Ω :=
 Bl.cons (Sm.ite (Te.val (Ex.call Cq25 (Ar.cons (Ex.var 0) (Ar.cons (Ex.int 2) (Ar.cons (Ex.int 2) Ar.nil))))) (Bl.cons (Sm.ret (Ex.and (Bo.cons (Ex.call Cq27 (Ar.cons (Ex.ix (Ex.var 0) (Ex.int 0)) (Ar.cons (Ex.str "form") Ar.nil))) (Bo.one (Ex.call Cq19 (Ar.cons (Ex.ix (Ex.var 0) (Ex.int 1)) (Ar.cons (Ex.var 1) Ar.nil))))))) Bl.nil) Bl.nil) (b_p_is_line_1 Cq25 Cq19 Cq27 Cq24)
abbrev s_p_is_lines : Stmt := top 20
abbrev N_p_is_lines : List Str := ["thing", "d"]
abbrev P_p_is_lines : List Str := ["thing", "d"]
def b_p_is_lines (B : Bi Ω.mg) {Fq25 : Ct} (Cq25 : Cal Ω "is_tuple_of" 1 3 Fq25) {Fq20 : Ct} (Cq20 : Cal Ω "is_line" 3 2 Fq20) : Bl Ω :=
 Bl.cons (Sm.ret (Ex.and (Bo.cons (Ex.call Cq25 (Ar.cons (Ex.var 0) (Ar.cons (Ex.int 1) (Ar.cons (Ex.gint B.MOST_LINES_) Ar.nil)))) (Bo.one (Ex.blt bAll B.all_ (Ar.cons (Ex.comp ["line", "d"] [none, some 1] (Ex.call Cq20 (Ar.cons (Ex.var 0) (Ar.cons (Ex.var 1) Ar.nil))) (Tg.nm 0) (Itb.seq (Ex.var 0)) Cd.no) Ar.nil)))))) Bl.nil
abbrev s_p_is_nest_plan : Stmt := top 21
abbrev N_p_is_nest_plan : List Str := ["thing", "nest", "d", "number"]
abbrev P_p_is_nest_plan : List Str := ["thing", "nest"]
def b_p_is_nest_plan_2 (B : Bi Ω.mg) {Fq25 : Ct} (Cq25 : Cal Ω "is_tuple_of" 1 3 Fq25) {Fq21 : Ct} (Cq21 : Cal Ω "is_lines" 4 2 Fq21) : Bl Ω :=
 Bl.cons (Sm.ret (Ex.and (Bo.cons (Ex.call Cq25 (Ar.cons (Ex.var 0) (Ar.cons (Ex.var 3) (Ar.cons (Ex.var 3) Ar.nil)))) (Bo.one (Ex.blt bAll B.all_ (Ar.cons (Ex.comp ["lines", "d"] [none, some 2] (Ex.call Cq21 (Ar.cons (Ex.var 0) (Ar.cons (Ex.var 1) Ar.nil))) (Tg.nm 0) (Itb.seq (Ex.var 0)) Cd.no) Ar.nil)))))) Bl.nil
def b_p_is_nest_plan_1 (B : Bi Ω.mg) {Fq25 : Ct} (Cq25 : Cal Ω "is_tuple_of" 1 3 Fq25) {Fq21 : Ct} (Cq21 : Cal Ω "is_lines" 4 2 Fq21) : Bl Ω :=
 Bl.cons (Sm.set 3 (Ex.blt bLen B.len_ (Ar.cons (Ex.ix (Ex.var 1) (Ex.int 1)) Ar.nil))) (b_p_is_nest_plan_2 B Cq25 Cq21)
def b_p_is_nest_plan (B : Bi Ω.mg) {Fq25 : Ct} (Cq25 : Cal Ω "is_tuple_of" 1 3 Fq25) {Fq21 : Ct} (Cq21 : Cal Ω "is_lines" 4 2 Fq21) : Bl Ω :=
 Bl.cons (Sm.set 2 (Ex.blt bLen B.len_ (Ar.cons (Ex.ix (Ex.var 1) (Ex.int 0)) Ar.nil))) (b_p_is_nest_plan_1 B Cq25 Cq21)
abbrev s_p_numbers_of_lines : Stmt := top 22
abbrev N_p_numbers_of_lines : List Str := ["nest_plans", "told", "deeds"]
abbrev P_p_numbers_of_lines : List Str := ["nest_plans"]
def b_p_numbers_of_lines_2 (B : Bi Ω.mg) : Bl Ω :=
 Bl.cons (Sm.ret (Ex.var 1)) Bl.nil
def b_p_numbers_of_lines_1 (B : Bi Ω.mg) : Bl Ω :=
 Bl.cons (Sm.forL (Tg.nm 2) (Ex.var 0) (Bl.cons (Sm.expr (Ex.m_extend (Ex.var 1) (Ex.comp ["lines"] [none] (Ex.blt bLen B.len_ (Ar.cons (Ex.var 0) Ar.nil)) (Tg.nm 0) (Itb.seq (Ex.var 2)) Cd.no))) Bl.nil)) (b_p_numbers_of_lines_2 B)
def b_p_numbers_of_lines (B : Bi Ω.mg) : Bl Ω :=
 Bl.cons (Sm.set 1 (Ex.own Ar.nil)) (b_p_numbers_of_lines_1 B)
abbrev s_p_is_plan : Stmt := top 23
abbrev N_p_is_plan : List Str := ["program", "thing", "nests"]
abbrev P_p_is_plan : List Str := ["program", "thing"]
def b_p_is_plan_3 (B : Bi Ω.mg) {Fq25 : Ct} (Cq25 : Cal Ω "is_tuple_of" 1 3 Fq25) {Fq22 : Ct} (Cq22 : Cal Ω "is_nest_plan" 5 2 Fq22) {Fq33 : Ct} (Cq33 : Cal Ω "numbers_of_lines" 1 1 Fq33) : Bl Ω :=
 Bl.cons (Sm.ret (Ex.cmp .Eq (Ex.lset B.len_ B.set_ (Ex.call Cq33 (Ar.cons (Ex.var 1) Ar.nil))) (Ex.int 1))) Bl.nil
def b_p_is_plan_2 (B : Bi Ω.mg) {Fq25 : Ct} (Cq25 : Cal Ω "is_tuple_of" 1 3 Fq25) {Fq22 : Ct} (Cq22 : Cal Ω "is_nest_plan" 5 2 Fq22) {Fq33 : Ct} (Cq33 : Cal Ω "numbers_of_lines" 1 1 Fq33) : Bl Ω :=
 Bl.cons (Sm.ite (Te.not (Te.val (Ex.blt bAll B.all_ (Ar.cons (Ex.comp ["part", "nest"] [none, none] (Ex.call Cq22 (Ar.cons (Ex.var 0) (Ar.cons (Ex.var 1) Ar.nil))) (Tg.tup [0, 1]) (Itb.zip B.zip_ (Ex.var 1) (Ex.var 2)) Cd.no) Ar.nil)))) (Bl.cons (Sm.ret (Ex.bl false)) Bl.nil) Bl.nil) (b_p_is_plan_3 B Cq25 Cq22 Cq33)
def b_p_is_plan_1 (B : Bi Ω.mg) {Fq25 : Ct} (Cq25 : Cal Ω "is_tuple_of" 1 3 Fq25) {Fq22 : Ct} (Cq22 : Cal Ω "is_nest_plan" 5 2 Fq22) {Fq33 : Ct} (Cq33 : Cal Ω "numbers_of_lines" 1 1 Fq33) : Bl Ω :=
 Bl.cons (Sm.ite (Te.not (Te.val (Ex.call Cq25 (Ar.cons (Ex.var 1) (Ar.cons (Ex.blt bLen B.len_ (Ar.cons (Ex.var 2) Ar.nil)) (Ar.cons (Ex.blt bLen B.len_ (Ar.cons (Ex.var 2) Ar.nil)) Ar.nil)))))) (Bl.cons (Sm.ret (Ex.bl false)) Bl.nil) Bl.nil) (b_p_is_plan_2 B Cq25 Cq22 Cq33)
def b_p_is_plan (B : Bi Ω.mg) {Fq25 : Ct} (Cq25 : Cal Ω "is_tuple_of" 1 3 Fq25) {Fq22 : Ct} (Cq22 : Cal Ω "is_nest_plan" 5 2 Fq22) {Fq33 : Ct} (Cq33 : Cal Ω "numbers_of_lines" 1 1 Fq33) : Bl Ω :=
 Bl.cons (Sm.set 2 (Ex.ix (Ex.var 0) (Ex.int 1))) (b_p_is_plan_1 B Cq25 Cq22 Cq33)
abbrev s_p_refuse_no_plan : Stmt := top 24
abbrev N_p_refuse_no_plan : List Str := ["program", "plan"]
abbrev P_p_refuse_no_plan : List Str := ["program", "plan"]
def b_p_refuse_no_plan (E : ExF Ω.mg Ω.K XL XT) {Fq23 : Ct} (Cq23 : Cal Ω "is_plan" 6 2 Fq23) : BX Ω :=
 (BX.ifr (E.exc (x := "NoPlan") (by decide)) (Te.not (Te.val (Ex.call Cq23 (Ar.cons (Ex.var 0) (Ar.cons (Ex.var 1) Ar.nil))))) (BX.of Bl.nil))
abbrev s_p_number_form : Stmt := top 25
abbrev N_p_number_form : List Str := ["number", "d"]
abbrev P_p_number_form : List Str := ["number", "d"]
def b_p_number_form : Bl Ω :=
 Bl.cons (Sm.ret (Ex.bin .Add (Ex.tup (Ar.cons (Ex.var 0) Ar.nil)) (Ex.bin .Mult (Ex.tup (Ar.cons (Ex.int 0) Ar.nil)) (Ex.var 1)))) Bl.nil
abbrev s_p_number_of_lines : Stmt := top 27
abbrev N_p_number_of_lines : List Str := ["plan"]
abbrev P_p_number_of_lines : List Str := ["plan"]
def b_p_number_of_lines (B : Bi Ω.mg) : Bl Ω :=
 Bl.cons (Sm.ret (Ex.blt bLen B.len_ (Ar.cons (Ex.ix (Ex.ix (Ex.var 0) (Ex.int 0)) (Ex.int 0)) Ar.nil))) Bl.nil
abbrev s_p_refuse_no_nest : Stmt := top 28
abbrev N_p_refuse_no_nest : List Str := ["plan", "nest"]
abbrev P_p_refuse_no_nest : List Str := ["plan", "nest"]
def b_p_refuse_no_nest (B : Bi Ω.mg) (E : ExF Ω.mg Ω.K XL XT) : BX Ω :=
 (BX.ifr (E.exc (x := "NoTurn") (by decide)) (Te.not (Te.ch2 (Ex.int 0) .LtE (Ex.var 1) .Lt (Ex.blt bLen B.len_ (Ar.cons (Ex.var 0) Ar.nil)))) (BX.of Bl.nil))
abbrev s_p_refuse_no_deed : Stmt := top 29
abbrev N_p_refuse_no_deed : List Str := ["deeds", "deed"]
abbrev P_p_refuse_no_deed : List Str := ["deeds", "deed"]
def b_p_refuse_no_deed (B : Bi Ω.mg) (E : ExF Ω.mg Ω.K XL XT) : BX Ω :=
 (BX.ifr (E.exc (x := "NoTurn") (by decide)) (Te.not (Te.ch2 (Ex.int 0) .LtE (Ex.var 1) .Lt (Ex.blt bLen B.len_ (Ar.cons (Ex.var 0) Ar.nil)))) (BX.of Bl.nil))
abbrev s_p_refuse_no_line : Stmt := top 30
abbrev N_p_refuse_no_line : List Str := ["plan", "at"]
abbrev P_p_refuse_no_line : List Str := ["plan", "at"]
def b_p_refuse_no_line (E : ExF Ω.mg Ω.K XL XT) {Fq32 : Ct} (Cq32 : Cal Ω "number_of_lines" 1 1 Fq32) : BX Ω :=
 (BX.ifr (E.exc (x := "NoTurn") (by decide)) (Te.not (Te.ch2 (Ex.int 0) .LtE (Ex.var 1) .Lt (Ex.call Cq32 (Ar.cons (Ex.var 0) Ar.nil)))) (BX.of Bl.nil))
abbrev s_p_refuse_no_forms : Stmt := top 31
abbrev N_p_refuse_no_forms : List Str := ["deeds", "at"]
abbrev P_p_refuse_no_forms : List Str := ["deeds", "at"]
def b_p_refuse_no_forms (B : Bi Ω.mg) (E : ExF Ω.mg Ω.K XL XT) : BX Ω :=
 (BX.ifr (E.exc (x := "NoTurn") (by decide)) (Te.not (Te.val (Ex.blt bAll B.all_ (Ar.cons (Ex.comp ["lines", "at"] [none, some 1] (Ex.cmp .Eq (Ex.ix (Ex.ix (Ex.var 0) (Ex.var 1)) (Ex.int 0)) (Ex.str "form")) (Tg.nm 0) (Itb.seq (Ex.var 0)) Cd.no) Ar.nil)))) (BX.of Bl.nil))
abbrev s_p_replaced : Stmt := top 32
abbrev N_p_replaced : List Str := ["things", "at", "thing"]
abbrev P_p_replaced : List Str := ["things", "at", "thing"]
def b_p_replaced : Bl Ω :=
 Bl.cons (Sm.ret (Ex.bin .Add (Ex.bin .Add (Ex.sl (Ex.var 0) Po.no (Po.so (Ex.var 1))) (Ex.tup (Ar.cons (Ex.var 2) Ar.nil))) (Ex.sl (Ex.var 0) (Po.so (Ex.bin .Add (Ex.var 1) (Ex.int 1))) Po.no))) Bl.nil
abbrev s_p_put_ahead : Stmt := top 33
abbrev N_p_put_ahead : List Str := ["things", "at", "thing"]
abbrev P_p_put_ahead : List Str := ["things", "at", "thing"]
def b_p_put_ahead : Bl Ω :=
 Bl.cons (Sm.ret (Ex.bin .Add (Ex.bin .Add (Ex.sl (Ex.var 0) Po.no (Po.so (Ex.var 1))) (Ex.tup (Ar.cons (Ex.var 2) Ar.nil))) (Ex.sl (Ex.var 0) (Po.so (Ex.var 1)) Po.no))) Bl.nil
abbrev s_p_left_out : Stmt := top 34
abbrev N_p_left_out : List Str := ["things", "at"]
abbrev P_p_left_out : List Str := ["things", "at"]
def b_p_left_out : Bl Ω :=
 Bl.cons (Sm.ret (Ex.bin .Add (Ex.sl (Ex.var 0) Po.no (Po.so (Ex.var 1))) (Ex.sl (Ex.var 0) (Po.so (Ex.bin .Add (Ex.var 1) (Ex.int 1))) Po.no))) Bl.nil
abbrev s_p_exchanged_lines : Stmt := top 35
abbrev N_p_exchanged_lines : List Str := ["lines", "a", "b"]
abbrev P_p_exchanged_lines : List Str := ["lines", "a", "b"]
def b_p_exchanged_lines {Fq40 : Ct} (Cq40 : Cal Ω "replaced" 1 3 Fq40) : Bl Ω :=
 Bl.cons (Sm.ret (Ex.call Cq40 (Ar.cons (Ex.call Cq40 (Ar.cons (Ex.var 0) (Ar.cons (Ex.var 1) (Ar.cons (Ex.ix (Ex.var 0) (Ex.var 2)) Ar.nil)))) (Ar.cons (Ex.var 2) (Ar.cons (Ex.ix (Ex.var 0) (Ex.var 1)) Ar.nil))))) Bl.nil
abbrev s_p_exchanged : Stmt := top 36
abbrev N_p_exchanged : List Str := ["program", "plan", "nest", "a", "b"]
abbrev P_p_exchanged : List Str := ["program", "plan", "nest", "a", "b"]
def b_p_exchanged_4 (B : Bi Ω.mg) (E : ExF Ω.mg Ω.K XL XT) {Fq39 : XCt} (Cq39 : CalX Ω "refuse_no_plan" 7 2 Fq39) {Fq38 : XCt} (Cq38 : CalX Ω "refuse_no_nest" 1 2 Fq38) {Fq37 : XCt} (Cq37 : CalX Ω "refuse_no_line" 2 2 Fq37) {Fq40 : Ct} (Cq40 : Cal Ω "replaced" 1 3 Fq40) {Fq18 : Ct} (Cq18 : Cal Ω "exchanged_lines" 2 3 Fq18) : BX Ω :=
 (BX.cons (Sm.ret (Ex.call Cq40 (Ar.cons (Ex.var 1) (Ar.cons (Ex.var 2) (Ar.cons (Ex.typ tTuple B.tuple_ (Ar.cons (Ex.comp ["lines", "a", "b"] [none, some 3, some 4] (Ex.call Cq18 (Ar.cons (Ex.var 0) (Ar.cons (Ex.var 1) (Ar.cons (Ex.var 2) Ar.nil)))) (Tg.nm 0) (Itb.seq (Ex.ix (Ex.var 1) (Ex.var 2))) Cd.no) Ar.nil)) Ar.nil))))) (BX.of Bl.nil))
def b_p_exchanged_3 (B : Bi Ω.mg) (E : ExF Ω.mg Ω.K XL XT) {Fq39 : XCt} (Cq39 : CalX Ω "refuse_no_plan" 7 2 Fq39) {Fq38 : XCt} (Cq38 : CalX Ω "refuse_no_nest" 1 2 Fq38) {Fq37 : XCt} (Cq37 : CalX Ω "refuse_no_line" 2 2 Fq37) {Fq40 : Ct} (Cq40 : Cal Ω "replaced" 1 3 Fq40) {Fq18 : Ct} (Cq18 : Cal Ω "exchanged_lines" 2 3 Fq18) : BX Ω :=
 (BX.exs (XEx.call Cq37 (Ar.cons (Ex.var 1) (Ar.cons (Ex.var 4) Ar.nil))) (b_p_exchanged_4 B E Cq39 Cq38 Cq37 Cq40 Cq18))
def b_p_exchanged_2 (B : Bi Ω.mg) (E : ExF Ω.mg Ω.K XL XT) {Fq39 : XCt} (Cq39 : CalX Ω "refuse_no_plan" 7 2 Fq39) {Fq38 : XCt} (Cq38 : CalX Ω "refuse_no_nest" 1 2 Fq38) {Fq37 : XCt} (Cq37 : CalX Ω "refuse_no_line" 2 2 Fq37) {Fq40 : Ct} (Cq40 : Cal Ω "replaced" 1 3 Fq40) {Fq18 : Ct} (Cq18 : Cal Ω "exchanged_lines" 2 3 Fq18) : BX Ω :=
 (BX.exs (XEx.call Cq37 (Ar.cons (Ex.var 1) (Ar.cons (Ex.var 3) Ar.nil))) (b_p_exchanged_3 B E Cq39 Cq38 Cq37 Cq40 Cq18))
def b_p_exchanged_1 (B : Bi Ω.mg) (E : ExF Ω.mg Ω.K XL XT) {Fq39 : XCt} (Cq39 : CalX Ω "refuse_no_plan" 7 2 Fq39) {Fq38 : XCt} (Cq38 : CalX Ω "refuse_no_nest" 1 2 Fq38) {Fq37 : XCt} (Cq37 : CalX Ω "refuse_no_line" 2 2 Fq37) {Fq40 : Ct} (Cq40 : Cal Ω "replaced" 1 3 Fq40) {Fq18 : Ct} (Cq18 : Cal Ω "exchanged_lines" 2 3 Fq18) : BX Ω :=
 (BX.exs (XEx.call Cq38 (Ar.cons (Ex.var 1) (Ar.cons (Ex.var 2) Ar.nil))) (b_p_exchanged_2 B E Cq39 Cq38 Cq37 Cq40 Cq18))
def b_p_exchanged (B : Bi Ω.mg) (E : ExF Ω.mg Ω.K XL XT) {Fq39 : XCt} (Cq39 : CalX Ω "refuse_no_plan" 7 2 Fq39) {Fq38 : XCt} (Cq38 : CalX Ω "refuse_no_nest" 1 2 Fq38) {Fq37 : XCt} (Cq37 : CalX Ω "refuse_no_line" 2 2 Fq37) {Fq40 : Ct} (Cq40 : Cal Ω "replaced" 1 3 Fq40) {Fq18 : Ct} (Cq18 : Cal Ω "exchanged_lines" 2 3 Fq18) : BX Ω :=
 (BX.exs (XEx.call Cq39 (Ar.cons (Ex.var 0) (Ar.cons (Ex.var 1) Ar.nil))) (b_p_exchanged_1 B E Cq39 Cq38 Cq37 Cq40 Cq18))
abbrev s_p_backward_lines : Stmt := top 37
abbrev N_p_backward_lines : List Str := ["lines", "a", "form"]
abbrev P_p_backward_lines : List Str := ["lines", "a"]
def b_p_backward_lines_1 (B : Bi Ω.mg) {Fq40 : Ct} (Cq40 : Cal Ω "replaced" 1 3 Fq40) : Bl Ω :=
 Bl.cons (Sm.ret (Ex.call Cq40 (Ar.cons (Ex.var 0) (Ar.cons (Ex.var 1) (Ar.cons (Ex.tup (Ar.cons (Ex.str "form") (Ar.cons (Ex.var 2) Ar.nil))) Ar.nil))))) Bl.nil
def b_p_backward_lines (B : Bi Ω.mg) {Fq40 : Ct} (Cq40 : Cal Ω "replaced" 1 3 Fq40) : Bl Ω :=
 Bl.cons (Sm.set 2 (Ex.typ tTuple B.tuple_ (Ar.cons (Ex.comp ["number"] [none] (Ex.neg (Ex.var 0)) (Tg.nm 0) (Itb.seq (Ex.ix (Ex.ix (Ex.var 0) (Ex.var 1)) (Ex.int 1))) Cd.no) Ar.nil))) (b_p_backward_lines_1 B Cq40)
abbrev s_p_backward : Stmt := top 38
abbrev N_p_backward : List Str := ["program", "plan", "nest", "a"]
abbrev P_p_backward : List Str := ["program", "plan", "nest", "a"]
def b_p_backward_4 (B : Bi Ω.mg) (E : ExF Ω.mg Ω.K XL XT) {Fq39 : XCt} (Cq39 : CalX Ω "refuse_no_plan" 7 2 Fq39) {Fq38 : XCt} (Cq38 : CalX Ω "refuse_no_nest" 1 2 Fq38) {Fq37 : XCt} (Cq37 : CalX Ω "refuse_no_line" 2 2 Fq37) {Fq36 : XCt} (Cq36 : CalX Ω "refuse_no_forms" 1 2 Fq36) {Fq40 : Ct} (Cq40 : Cal Ω "replaced" 1 3 Fq40) {Fq13 : Ct} (Cq13 : Cal Ω "backward_lines" 2 2 Fq13) : BX Ω :=
 (BX.cons (Sm.ret (Ex.call Cq40 (Ar.cons (Ex.var 1) (Ar.cons (Ex.var 2) (Ar.cons (Ex.typ tTuple B.tuple_ (Ar.cons (Ex.comp ["lines", "a"] [none, some 3] (Ex.call Cq13 (Ar.cons (Ex.var 0) (Ar.cons (Ex.var 1) Ar.nil))) (Tg.nm 0) (Itb.seq (Ex.ix (Ex.var 1) (Ex.var 2))) Cd.no) Ar.nil)) Ar.nil))))) (BX.of Bl.nil))
def b_p_backward_3 (B : Bi Ω.mg) (E : ExF Ω.mg Ω.K XL XT) {Fq39 : XCt} (Cq39 : CalX Ω "refuse_no_plan" 7 2 Fq39) {Fq38 : XCt} (Cq38 : CalX Ω "refuse_no_nest" 1 2 Fq38) {Fq37 : XCt} (Cq37 : CalX Ω "refuse_no_line" 2 2 Fq37) {Fq36 : XCt} (Cq36 : CalX Ω "refuse_no_forms" 1 2 Fq36) {Fq40 : Ct} (Cq40 : Cal Ω "replaced" 1 3 Fq40) {Fq13 : Ct} (Cq13 : Cal Ω "backward_lines" 2 2 Fq13) : BX Ω :=
 (BX.exs (XEx.call Cq36 (Ar.cons (Ex.ix (Ex.var 1) (Ex.var 2)) (Ar.cons (Ex.var 3) Ar.nil))) (b_p_backward_4 B E Cq39 Cq38 Cq37 Cq36 Cq40 Cq13))
def b_p_backward_2 (B : Bi Ω.mg) (E : ExF Ω.mg Ω.K XL XT) {Fq39 : XCt} (Cq39 : CalX Ω "refuse_no_plan" 7 2 Fq39) {Fq38 : XCt} (Cq38 : CalX Ω "refuse_no_nest" 1 2 Fq38) {Fq37 : XCt} (Cq37 : CalX Ω "refuse_no_line" 2 2 Fq37) {Fq36 : XCt} (Cq36 : CalX Ω "refuse_no_forms" 1 2 Fq36) {Fq40 : Ct} (Cq40 : Cal Ω "replaced" 1 3 Fq40) {Fq13 : Ct} (Cq13 : Cal Ω "backward_lines" 2 2 Fq13) : BX Ω :=
 (BX.exs (XEx.call Cq37 (Ar.cons (Ex.var 1) (Ar.cons (Ex.var 3) Ar.nil))) (b_p_backward_3 B E Cq39 Cq38 Cq37 Cq36 Cq40 Cq13))
def b_p_backward_1 (B : Bi Ω.mg) (E : ExF Ω.mg Ω.K XL XT) {Fq39 : XCt} (Cq39 : CalX Ω "refuse_no_plan" 7 2 Fq39) {Fq38 : XCt} (Cq38 : CalX Ω "refuse_no_nest" 1 2 Fq38) {Fq37 : XCt} (Cq37 : CalX Ω "refuse_no_line" 2 2 Fq37) {Fq36 : XCt} (Cq36 : CalX Ω "refuse_no_forms" 1 2 Fq36) {Fq40 : Ct} (Cq40 : Cal Ω "replaced" 1 3 Fq40) {Fq13 : Ct} (Cq13 : Cal Ω "backward_lines" 2 2 Fq13) : BX Ω :=
 (BX.exs (XEx.call Cq38 (Ar.cons (Ex.var 1) (Ar.cons (Ex.var 2) Ar.nil))) (b_p_backward_2 B E Cq39 Cq38 Cq37 Cq36 Cq40 Cq13))
def b_p_backward (B : Bi Ω.mg) (E : ExF Ω.mg Ω.K XL XT) {Fq39 : XCt} (Cq39 : CalX Ω "refuse_no_plan" 7 2 Fq39) {Fq38 : XCt} (Cq38 : CalX Ω "refuse_no_nest" 1 2 Fq38) {Fq37 : XCt} (Cq37 : CalX Ω "refuse_no_line" 2 2 Fq37) {Fq36 : XCt} (Cq36 : CalX Ω "refuse_no_forms" 1 2 Fq36) {Fq40 : Ct} (Cq40 : Cal Ω "replaced" 1 3 Fq40) {Fq13 : Ct} (Cq13 : Cal Ω "backward_lines" 2 2 Fq13) : BX Ω :=
 (BX.exs (XEx.call Cq39 (Ar.cons (Ex.var 0) (Ar.cons (Ex.var 1) Ar.nil))) (b_p_backward_1 B E Cq39 Cq38 Cq37 Cq36 Cq40 Cq13))
abbrev s_p_slanted_lines : Stmt := top 39
abbrev N_p_slanted_lines : List Str := ["lines", "a", "b", "factor", "form"]
abbrev P_p_slanted_lines : List Str := ["lines", "a", "b", "factor"]
def b_p_slanted_lines_1 (B : Bi Ω.mg) {Fq40 : Ct} (Cq40 : Cal Ω "replaced" 1 3 Fq40) : Bl Ω :=
 Bl.cons (Sm.ret (Ex.call Cq40 (Ar.cons (Ex.var 0) (Ar.cons (Ex.var 1) (Ar.cons (Ex.tup (Ar.cons (Ex.str "form") (Ar.cons (Ex.var 4) Ar.nil))) Ar.nil))))) Bl.nil
def b_p_slanted_lines (B : Bi Ω.mg) {Fq40 : Ct} (Cq40 : Cal Ω "replaced" 1 3 Fq40) : Bl Ω :=
 Bl.cons (Sm.set 4 (Ex.typ tTuple B.tuple_ (Ar.cons (Ex.comp ["number", "more", "factor"] [none, none, some 3] (Ex.bin .Add (Ex.var 0) (Ex.mulB (Ex.var 2) (Ex.var 1))) (Tg.tup [0, 1]) (Itb.zip B.zip_ (Ex.ix (Ex.ix (Ex.var 0) (Ex.var 1)) (Ex.int 1)) (Ex.ix (Ex.ix (Ex.var 0) (Ex.var 2)) (Ex.int 1))) Cd.no) Ar.nil))) (b_p_slanted_lines_1 B Cq40)
abbrev s_p_slanted : Stmt := top 40
abbrev N_p_slanted : List Str := ["program", "plan", "nest", "a", "b", "factor"]
abbrev P_p_slanted : List Str := ["program", "plan", "nest", "a", "b", "factor"]
def b_p_slanted_7 (B : Bi Ω.mg) (E : ExF Ω.mg Ω.K XL XT) {Fq39 : XCt} (Cq39 : CalX Ω "refuse_no_plan" 7 2 Fq39) {Fq38 : XCt} (Cq38 : CalX Ω "refuse_no_nest" 1 2 Fq38) {Fq37 : XCt} (Cq37 : CalX Ω "refuse_no_line" 2 2 Fq37) {Fq36 : XCt} (Cq36 : CalX Ω "refuse_no_forms" 1 2 Fq36) {Fq40 : Ct} (Cq40 : Cal Ω "replaced" 1 3 Fq40) {Fq42 : Ct} (Cq42 : Cal Ω "slanted_lines" 2 4 Fq42) : BX Ω :=
 (BX.cons (Sm.ret (Ex.call Cq40 (Ar.cons (Ex.var 1) (Ar.cons (Ex.var 2) (Ar.cons (Ex.typ tTuple B.tuple_ (Ar.cons (Ex.comp ["lines", "a", "b", "factor"] [none, some 3, some 4, some 5] (Ex.call Cq42 (Ar.cons (Ex.var 0) (Ar.cons (Ex.var 1) (Ar.cons (Ex.var 2) (Ar.cons (Ex.var 3) Ar.nil))))) (Tg.nm 0) (Itb.seq (Ex.ix (Ex.var 1) (Ex.var 2))) Cd.no) Ar.nil)) Ar.nil))))) (BX.of Bl.nil))
def b_p_slanted_6 (B : Bi Ω.mg) (E : ExF Ω.mg Ω.K XL XT) {Fq39 : XCt} (Cq39 : CalX Ω "refuse_no_plan" 7 2 Fq39) {Fq38 : XCt} (Cq38 : CalX Ω "refuse_no_nest" 1 2 Fq38) {Fq37 : XCt} (Cq37 : CalX Ω "refuse_no_line" 2 2 Fq37) {Fq36 : XCt} (Cq36 : CalX Ω "refuse_no_forms" 1 2 Fq36) {Fq40 : Ct} (Cq40 : Cal Ω "replaced" 1 3 Fq40) {Fq42 : Ct} (Cq42 : Cal Ω "slanted_lines" 2 4 Fq42) : BX Ω :=
 (BX.exs (XEx.call Cq36 (Ar.cons (Ex.ix (Ex.var 1) (Ex.var 2)) (Ar.cons (Ex.var 4) Ar.nil))) (b_p_slanted_7 B E Cq39 Cq38 Cq37 Cq36 Cq40 Cq42))
def b_p_slanted_5 (B : Bi Ω.mg) (E : ExF Ω.mg Ω.K XL XT) {Fq39 : XCt} (Cq39 : CalX Ω "refuse_no_plan" 7 2 Fq39) {Fq38 : XCt} (Cq38 : CalX Ω "refuse_no_nest" 1 2 Fq38) {Fq37 : XCt} (Cq37 : CalX Ω "refuse_no_line" 2 2 Fq37) {Fq36 : XCt} (Cq36 : CalX Ω "refuse_no_forms" 1 2 Fq36) {Fq40 : Ct} (Cq40 : Cal Ω "replaced" 1 3 Fq40) {Fq42 : Ct} (Cq42 : Cal Ω "slanted_lines" 2 4 Fq42) : BX Ω :=
 (BX.exs (XEx.call Cq36 (Ar.cons (Ex.ix (Ex.var 1) (Ex.var 2)) (Ar.cons (Ex.var 3) Ar.nil))) (b_p_slanted_6 B E Cq39 Cq38 Cq37 Cq36 Cq40 Cq42))
def b_p_slanted_4 (B : Bi Ω.mg) (E : ExF Ω.mg Ω.K XL XT) {Fq39 : XCt} (Cq39 : CalX Ω "refuse_no_plan" 7 2 Fq39) {Fq38 : XCt} (Cq38 : CalX Ω "refuse_no_nest" 1 2 Fq38) {Fq37 : XCt} (Cq37 : CalX Ω "refuse_no_line" 2 2 Fq37) {Fq36 : XCt} (Cq36 : CalX Ω "refuse_no_forms" 1 2 Fq36) {Fq40 : Ct} (Cq40 : Cal Ω "replaced" 1 3 Fq40) {Fq42 : Ct} (Cq42 : Cal Ω "slanted_lines" 2 4 Fq42) : BX Ω :=
 (BX.ifr (E.exc (x := "NoTurn") (by decide)) (Te.cmp .Eq (Ex.var 3) (Ex.var 4)) (b_p_slanted_5 B E Cq39 Cq38 Cq37 Cq36 Cq40 Cq42))
def b_p_slanted_3 (B : Bi Ω.mg) (E : ExF Ω.mg Ω.K XL XT) {Fq39 : XCt} (Cq39 : CalX Ω "refuse_no_plan" 7 2 Fq39) {Fq38 : XCt} (Cq38 : CalX Ω "refuse_no_nest" 1 2 Fq38) {Fq37 : XCt} (Cq37 : CalX Ω "refuse_no_line" 2 2 Fq37) {Fq36 : XCt} (Cq36 : CalX Ω "refuse_no_forms" 1 2 Fq36) {Fq40 : Ct} (Cq40 : Cal Ω "replaced" 1 3 Fq40) {Fq42 : Ct} (Cq42 : Cal Ω "slanted_lines" 2 4 Fq42) : BX Ω :=
 (BX.exs (XEx.call Cq37 (Ar.cons (Ex.var 1) (Ar.cons (Ex.var 4) Ar.nil))) (b_p_slanted_4 B E Cq39 Cq38 Cq37 Cq36 Cq40 Cq42))
def b_p_slanted_2 (B : Bi Ω.mg) (E : ExF Ω.mg Ω.K XL XT) {Fq39 : XCt} (Cq39 : CalX Ω "refuse_no_plan" 7 2 Fq39) {Fq38 : XCt} (Cq38 : CalX Ω "refuse_no_nest" 1 2 Fq38) {Fq37 : XCt} (Cq37 : CalX Ω "refuse_no_line" 2 2 Fq37) {Fq36 : XCt} (Cq36 : CalX Ω "refuse_no_forms" 1 2 Fq36) {Fq40 : Ct} (Cq40 : Cal Ω "replaced" 1 3 Fq40) {Fq42 : Ct} (Cq42 : Cal Ω "slanted_lines" 2 4 Fq42) : BX Ω :=
 (BX.exs (XEx.call Cq37 (Ar.cons (Ex.var 1) (Ar.cons (Ex.var 3) Ar.nil))) (b_p_slanted_3 B E Cq39 Cq38 Cq37 Cq36 Cq40 Cq42))
def b_p_slanted_1 (B : Bi Ω.mg) (E : ExF Ω.mg Ω.K XL XT) {Fq39 : XCt} (Cq39 : CalX Ω "refuse_no_plan" 7 2 Fq39) {Fq38 : XCt} (Cq38 : CalX Ω "refuse_no_nest" 1 2 Fq38) {Fq37 : XCt} (Cq37 : CalX Ω "refuse_no_line" 2 2 Fq37) {Fq36 : XCt} (Cq36 : CalX Ω "refuse_no_forms" 1 2 Fq36) {Fq40 : Ct} (Cq40 : Cal Ω "replaced" 1 3 Fq40) {Fq42 : Ct} (Cq42 : Cal Ω "slanted_lines" 2 4 Fq42) : BX Ω :=
 (BX.exs (XEx.call Cq38 (Ar.cons (Ex.var 1) (Ar.cons (Ex.var 2) Ar.nil))) (b_p_slanted_2 B E Cq39 Cq38 Cq37 Cq36 Cq40 Cq42))
def b_p_slanted (B : Bi Ω.mg) (E : ExF Ω.mg Ω.K XL XT) {Fq39 : XCt} (Cq39 : CalX Ω "refuse_no_plan" 7 2 Fq39) {Fq38 : XCt} (Cq38 : CalX Ω "refuse_no_nest" 1 2 Fq38) {Fq37 : XCt} (Cq37 : CalX Ω "refuse_no_line" 2 2 Fq37) {Fq36 : XCt} (Cq36 : CalX Ω "refuse_no_forms" 1 2 Fq36) {Fq40 : Ct} (Cq40 : Cal Ω "replaced" 1 3 Fq40) {Fq42 : Ct} (Cq42 : Cal Ω "slanted_lines" 2 4 Fq42) : BX Ω :=
 (BX.exs (XEx.call Cq39 (Ar.cons (Ex.var 0) (Ar.cons (Ex.var 1) Ar.nil))) (b_p_slanted_1 B E Cq39 Cq38 Cq37 Cq36 Cq40 Cq42))
abbrev s_p_moved_lines : Stmt := top 41
abbrev N_p_moved_lines : List Str := ["lines", "a", "number", "form"]
abbrev P_p_moved_lines : List Str := ["lines", "a", "number"]
def b_p_moved_lines_1 {Fq40 : Ct} (Cq40 : Cal Ω "replaced" 1 3 Fq40) : Bl Ω :=
 Bl.cons (Sm.ret (Ex.call Cq40 (Ar.cons (Ex.var 0) (Ar.cons (Ex.var 1) (Ar.cons (Ex.tup (Ar.cons (Ex.str "form") (Ar.cons (Ex.bin .Add (Ex.tup (Ar.cons (Ex.bin .Add (Ex.ix (Ex.var 3) (Ex.int 0)) (Ex.var 2)) Ar.nil)) (Ex.sl (Ex.var 3) (Po.so (Ex.int 1)) Po.no)) Ar.nil))) Ar.nil))))) Bl.nil
def b_p_moved_lines {Fq40 : Ct} (Cq40 : Cal Ω "replaced" 1 3 Fq40) : Bl Ω :=
 Bl.cons (Sm.set 3 (Ex.ix (Ex.ix (Ex.var 0) (Ex.var 1)) (Ex.int 1))) (b_p_moved_lines_1 Cq40)
abbrev s_p_moved : Stmt := top 42
abbrev N_p_moved : List Str := ["program", "plan", "nest", "deed", "a", "number", "deeds"]
abbrev P_p_moved : List Str := ["program", "plan", "nest", "deed", "a", "number"]
def b_p_moved_6 (E : ExF Ω.mg Ω.K XL XT) {Fq39 : XCt} (Cq39 : CalX Ω "refuse_no_plan" 7 2 Fq39) {Fq38 : XCt} (Cq38 : CalX Ω "refuse_no_nest" 1 2 Fq38) {Fq35 : XCt} (Cq35 : CalX Ω "refuse_no_deed" 1 2 Fq35) {Fq37 : XCt} (Cq37 : CalX Ω "refuse_no_line" 2 2 Fq37) {Fq36 : XCt} (Cq36 : CalX Ω "refuse_no_forms" 1 2 Fq36) {Fq40 : Ct} (Cq40 : Cal Ω "replaced" 1 3 Fq40) {Fq30 : Ct} (Cq30 : Cal Ω "moved_lines" 2 3 Fq30) : BX Ω :=
 (BX.cons (Sm.ret (Ex.call Cq40 (Ar.cons (Ex.var 1) (Ar.cons (Ex.var 2) (Ar.cons (Ex.call Cq40 (Ar.cons (Ex.var 6) (Ar.cons (Ex.var 3) (Ar.cons (Ex.call Cq30 (Ar.cons (Ex.ix (Ex.var 6) (Ex.var 3)) (Ar.cons (Ex.var 4) (Ar.cons (Ex.var 5) Ar.nil)))) Ar.nil)))) Ar.nil))))) (BX.of Bl.nil))
def b_p_moved_5 (E : ExF Ω.mg Ω.K XL XT) {Fq39 : XCt} (Cq39 : CalX Ω "refuse_no_plan" 7 2 Fq39) {Fq38 : XCt} (Cq38 : CalX Ω "refuse_no_nest" 1 2 Fq38) {Fq35 : XCt} (Cq35 : CalX Ω "refuse_no_deed" 1 2 Fq35) {Fq37 : XCt} (Cq37 : CalX Ω "refuse_no_line" 2 2 Fq37) {Fq36 : XCt} (Cq36 : CalX Ω "refuse_no_forms" 1 2 Fq36) {Fq40 : Ct} (Cq40 : Cal Ω "replaced" 1 3 Fq40) {Fq30 : Ct} (Cq30 : Cal Ω "moved_lines" 2 3 Fq30) : BX Ω :=
 (BX.exs (XEx.call Cq36 (Ar.cons (Ex.sl (Ex.var 6) (Po.so (Ex.var 3)) (Po.so (Ex.bin .Add (Ex.var 3) (Ex.int 1)))) (Ar.cons (Ex.var 4) Ar.nil))) (b_p_moved_6 E Cq39 Cq38 Cq35 Cq37 Cq36 Cq40 Cq30))
def b_p_moved_4 (E : ExF Ω.mg Ω.K XL XT) {Fq39 : XCt} (Cq39 : CalX Ω "refuse_no_plan" 7 2 Fq39) {Fq38 : XCt} (Cq38 : CalX Ω "refuse_no_nest" 1 2 Fq38) {Fq35 : XCt} (Cq35 : CalX Ω "refuse_no_deed" 1 2 Fq35) {Fq37 : XCt} (Cq37 : CalX Ω "refuse_no_line" 2 2 Fq37) {Fq36 : XCt} (Cq36 : CalX Ω "refuse_no_forms" 1 2 Fq36) {Fq40 : Ct} (Cq40 : Cal Ω "replaced" 1 3 Fq40) {Fq30 : Ct} (Cq30 : Cal Ω "moved_lines" 2 3 Fq30) : BX Ω :=
 (BX.exs (XEx.call Cq37 (Ar.cons (Ex.var 1) (Ar.cons (Ex.var 4) Ar.nil))) (b_p_moved_5 E Cq39 Cq38 Cq35 Cq37 Cq36 Cq40 Cq30))
def b_p_moved_3 (E : ExF Ω.mg Ω.K XL XT) {Fq39 : XCt} (Cq39 : CalX Ω "refuse_no_plan" 7 2 Fq39) {Fq38 : XCt} (Cq38 : CalX Ω "refuse_no_nest" 1 2 Fq38) {Fq35 : XCt} (Cq35 : CalX Ω "refuse_no_deed" 1 2 Fq35) {Fq37 : XCt} (Cq37 : CalX Ω "refuse_no_line" 2 2 Fq37) {Fq36 : XCt} (Cq36 : CalX Ω "refuse_no_forms" 1 2 Fq36) {Fq40 : Ct} (Cq40 : Cal Ω "replaced" 1 3 Fq40) {Fq30 : Ct} (Cq30 : Cal Ω "moved_lines" 2 3 Fq30) : BX Ω :=
 (BX.exs (XEx.call Cq35 (Ar.cons (Ex.var 6) (Ar.cons (Ex.var 3) Ar.nil))) (b_p_moved_4 E Cq39 Cq38 Cq35 Cq37 Cq36 Cq40 Cq30))
def b_p_moved_2 (E : ExF Ω.mg Ω.K XL XT) {Fq39 : XCt} (Cq39 : CalX Ω "refuse_no_plan" 7 2 Fq39) {Fq38 : XCt} (Cq38 : CalX Ω "refuse_no_nest" 1 2 Fq38) {Fq35 : XCt} (Cq35 : CalX Ω "refuse_no_deed" 1 2 Fq35) {Fq37 : XCt} (Cq37 : CalX Ω "refuse_no_line" 2 2 Fq37) {Fq36 : XCt} (Cq36 : CalX Ω "refuse_no_forms" 1 2 Fq36) {Fq40 : Ct} (Cq40 : Cal Ω "replaced" 1 3 Fq40) {Fq30 : Ct} (Cq30 : Cal Ω "moved_lines" 2 3 Fq30) : BX Ω :=
 (BX.cons (Sm.set 6 (Ex.ix (Ex.var 1) (Ex.var 2))) (b_p_moved_3 E Cq39 Cq38 Cq35 Cq37 Cq36 Cq40 Cq30))
def b_p_moved_1 (E : ExF Ω.mg Ω.K XL XT) {Fq39 : XCt} (Cq39 : CalX Ω "refuse_no_plan" 7 2 Fq39) {Fq38 : XCt} (Cq38 : CalX Ω "refuse_no_nest" 1 2 Fq38) {Fq35 : XCt} (Cq35 : CalX Ω "refuse_no_deed" 1 2 Fq35) {Fq37 : XCt} (Cq37 : CalX Ω "refuse_no_line" 2 2 Fq37) {Fq36 : XCt} (Cq36 : CalX Ω "refuse_no_forms" 1 2 Fq36) {Fq40 : Ct} (Cq40 : Cal Ω "replaced" 1 3 Fq40) {Fq30 : Ct} (Cq30 : Cal Ω "moved_lines" 2 3 Fq30) : BX Ω :=
 (BX.exs (XEx.call Cq38 (Ar.cons (Ex.var 1) (Ar.cons (Ex.var 2) Ar.nil))) (b_p_moved_2 E Cq39 Cq38 Cq35 Cq37 Cq36 Cq40 Cq30))
def b_p_moved (E : ExF Ω.mg Ω.K XL XT) {Fq39 : XCt} (Cq39 : CalX Ω "refuse_no_plan" 7 2 Fq39) {Fq38 : XCt} (Cq38 : CalX Ω "refuse_no_nest" 1 2 Fq38) {Fq35 : XCt} (Cq35 : CalX Ω "refuse_no_deed" 1 2 Fq35) {Fq37 : XCt} (Cq37 : CalX Ω "refuse_no_line" 2 2 Fq37) {Fq36 : XCt} (Cq36 : CalX Ω "refuse_no_forms" 1 2 Fq36) {Fq40 : Ct} (Cq40 : Cal Ω "replaced" 1 3 Fq40) {Fq30 : Ct} (Cq30 : Cal Ω "moved_lines" 2 3 Fq30) : BX Ω :=
 (BX.exs (XEx.call Cq39 (Ar.cons (Ex.var 0) (Ar.cons (Ex.var 1) Ar.nil))) (b_p_moved_1 E Cq39 Cq38 Cq35 Cq37 Cq36 Cq40 Cq30))
abbrev s_p_with_block_ahead : Stmt := top 43
abbrev N_p_with_block_ahead : List Str := ["deeds", "a", "size"]
abbrev P_p_with_block_ahead : List Str := ["deeds", "a", "size"]
def b_p_with_block_ahead (B : Bi Ω.mg) {Fq34 : Ct} (Cq34 : Cal Ω "put_ahead" 1 3 Fq34) : Bl Ω :=
 Bl.cons (Sm.ret (Ex.typ tTuple B.tuple_ (Ar.cons (Ex.comp ["lines", "a", "size"] [none, some 1, some 2] (Ex.call Cq34 (Ar.cons (Ex.var 0) (Ar.cons (Ex.var 1) (Ar.cons (Ex.tup (Ar.cons (Ex.str "block") (Ar.cons (Ex.ix (Ex.ix (Ex.var 0) (Ex.var 1)) (Ex.int 1)) (Ar.cons (Ex.var 2) Ar.nil)))) Ar.nil)))) (Tg.nm 0) (Itb.seq (Ex.var 0)) Cd.no) Ar.nil))) Bl.nil
abbrev s_p_with_nothing_ahead : Stmt := top 44
abbrev N_p_with_nothing_ahead : List Str := ["deeds", "a", "d"]
abbrev P_p_with_nothing_ahead : List Str := ["deeds", "a", "d"]
def b_p_with_nothing_ahead (B : Bi Ω.mg) {Fq31 : Ct} (Cq31 : Cal Ω "number_form" 1 2 Fq31) {Fq34 : Ct} (Cq34 : Cal Ω "put_ahead" 1 3 Fq34) : Bl Ω :=
 Bl.cons (Sm.ret (Ex.typ tTuple B.tuple_ (Ar.cons (Ex.comp ["lines", "a", "d"] [none, some 1, some 2] (Ex.call Cq34 (Ar.cons (Ex.var 0) (Ar.cons (Ex.var 1) (Ar.cons (Ex.tup (Ar.cons (Ex.str "form") (Ar.cons (Ex.call Cq31 (Ar.cons (Ex.int 0) (Ar.cons (Ex.var 2) Ar.nil))) Ar.nil))) Ar.nil)))) (Tg.nm 0) (Itb.seq (Ex.var 0)) Cd.no) Ar.nil))) Bl.nil
abbrev s_p_blocked : Stmt := top 45
abbrev N_p_blocked : List Str := ["program", "plan", "nest", "a", "size", "turned", "number", "deeds", "d"]
abbrev P_p_blocked : List Str := ["program", "plan", "nest", "a", "size"]
def b_p_blocked_x1_1 (B : Bi Ω.mg) (E : ExF Ω.mg Ω.K XL XT) {Fq39 : XCt} (Cq39 : CalX Ω "refuse_no_plan" 7 2 Fq39) {Fq32 : Ct} (Cq32 : Cal Ω "number_of_lines" 1 1 Fq32) {Fq38 : XCt} (Cq38 : CalX Ω "refuse_no_nest" 1 2 Fq38) {Fq37 : XCt} (Cq37 : CalX Ω "refuse_no_line" 2 2 Fq37) {Fq36 : XCt} (Cq36 : CalX Ω "refuse_no_forms" 1 2 Fq36) {Fq43 : Ct} (Cq43 : Cal Ω "with_block_ahead" 2 3 Fq43) {Fq44 : Ct} (Cq44 : Cal Ω "with_nothing_ahead" 2 3 Fq44) : Bl Ω :=
 Bl.cons (Sm.expr (Ex.m_append (Ex.var 5) (Ex.ifE (Te.cmp .Eq (Ex.var 6) (Ex.var 2)) (Ex.call Cq43 (Ar.cons (Ex.var 7) (Ar.cons (Ex.var 3) (Ar.cons (Ex.var 4) Ar.nil)))) (Ex.call Cq44 (Ar.cons (Ex.var 7) (Ar.cons (Ex.var 3) (Ar.cons (Ex.var 8) Ar.nil))))))) Bl.nil
def b_p_blocked_x1 (B : Bi Ω.mg) (E : ExF Ω.mg Ω.K XL XT) {Fq39 : XCt} (Cq39 : CalX Ω "refuse_no_plan" 7 2 Fq39) {Fq32 : Ct} (Cq32 : Cal Ω "number_of_lines" 1 1 Fq32) {Fq38 : XCt} (Cq38 : CalX Ω "refuse_no_nest" 1 2 Fq38) {Fq37 : XCt} (Cq37 : CalX Ω "refuse_no_line" 2 2 Fq37) {Fq36 : XCt} (Cq36 : CalX Ω "refuse_no_forms" 1 2 Fq36) {Fq43 : Ct} (Cq43 : Cal Ω "with_block_ahead" 2 3 Fq43) {Fq44 : Ct} (Cq44 : Cal Ω "with_nothing_ahead" 2 3 Fq44) : Bl Ω :=
 Bl.cons (Sm.set 8 (Ex.blt bLen B.len_ (Ar.cons (Ex.ix (Ex.ix (Ex.ix (Ex.var 0) (Ex.int 1)) (Ex.var 6)) (Ex.int 0)) Ar.nil))) (b_p_blocked_x1_1 B E Cq39 Cq32 Cq38 Cq37 Cq36 Cq43 Cq44)
def b_p_blocked_t_2 (B : Bi Ω.mg) (E : ExF Ω.mg Ω.K XL XT) {Fq39 : XCt} (Cq39 : CalX Ω "refuse_no_plan" 7 2 Fq39) {Fq32 : Ct} (Cq32 : Cal Ω "number_of_lines" 1 1 Fq32) {Fq38 : XCt} (Cq38 : CalX Ω "refuse_no_nest" 1 2 Fq38) {Fq37 : XCt} (Cq37 : CalX Ω "refuse_no_line" 2 2 Fq37) {Fq36 : XCt} (Cq36 : CalX Ω "refuse_no_forms" 1 2 Fq36) {Fq43 : Ct} (Cq43 : Cal Ω "with_block_ahead" 2 3 Fq43) {Fq44 : Ct} (Cq44 : Cal Ω "with_nothing_ahead" 2 3 Fq44) : Bl Ω :=
 Bl.cons (Sm.ret (Ex.typ tTuple B.tuple_ (Ar.cons (Ex.var 5) Ar.nil))) Bl.nil
def b_p_blocked_t_1 (B : Bi Ω.mg) (E : ExF Ω.mg Ω.K XL XT) {Fq39 : XCt} (Cq39 : CalX Ω "refuse_no_plan" 7 2 Fq39) {Fq32 : Ct} (Cq32 : Cal Ω "number_of_lines" 1 1 Fq32) {Fq38 : XCt} (Cq38 : CalX Ω "refuse_no_nest" 1 2 Fq38) {Fq37 : XCt} (Cq37 : CalX Ω "refuse_no_line" 2 2 Fq37) {Fq36 : XCt} (Cq36 : CalX Ω "refuse_no_forms" 1 2 Fq36) {Fq43 : Ct} (Cq43 : Cal Ω "with_block_ahead" 2 3 Fq43) {Fq44 : Ct} (Cq44 : Cal Ω "with_nothing_ahead" 2 3 Fq44) : Bl Ω :=
 Bl.cons (Sm.for (Tg.tup [6, 7]) (Itb.enm B.enumerate_ (Ex.var 1)) (b_p_blocked_x1 B E Cq39 Cq32 Cq38 Cq37 Cq36 Cq43 Cq44)) (b_p_blocked_t_2 B E Cq39 Cq32 Cq38 Cq37 Cq36 Cq43 Cq44)
def b_p_blocked_t (B : Bi Ω.mg) (E : ExF Ω.mg Ω.K XL XT) {Fq39 : XCt} (Cq39 : CalX Ω "refuse_no_plan" 7 2 Fq39) {Fq32 : Ct} (Cq32 : Cal Ω "number_of_lines" 1 1 Fq32) {Fq38 : XCt} (Cq38 : CalX Ω "refuse_no_nest" 1 2 Fq38) {Fq37 : XCt} (Cq37 : CalX Ω "refuse_no_line" 2 2 Fq37) {Fq36 : XCt} (Cq36 : CalX Ω "refuse_no_forms" 1 2 Fq36) {Fq43 : Ct} (Cq43 : Cal Ω "with_block_ahead" 2 3 Fq43) {Fq44 : Ct} (Cq44 : Cal Ω "with_nothing_ahead" 2 3 Fq44) : Bl Ω :=
 Bl.cons (Sm.set 5 (Ex.own Ar.nil)) (b_p_blocked_t_1 B E Cq39 Cq32 Cq38 Cq37 Cq36 Cq43 Cq44)
def b_p_blocked_5 (B : Bi Ω.mg) (E : ExF Ω.mg Ω.K XL XT) {Fq39 : XCt} (Cq39 : CalX Ω "refuse_no_plan" 7 2 Fq39) {Fq32 : Ct} (Cq32 : Cal Ω "number_of_lines" 1 1 Fq32) {Fq38 : XCt} (Cq38 : CalX Ω "refuse_no_nest" 1 2 Fq38) {Fq37 : XCt} (Cq37 : CalX Ω "refuse_no_line" 2 2 Fq37) {Fq36 : XCt} (Cq36 : CalX Ω "refuse_no_forms" 1 2 Fq36) {Fq43 : Ct} (Cq43 : Cal Ω "with_block_ahead" 2 3 Fq43) {Fq44 : Ct} (Cq44 : Cal Ω "with_nothing_ahead" 2 3 Fq44) : BX Ω :=
 (BX.of (Bl.drp (b_p_blocked_t B E Cq39 Cq32 Cq38 Cq37 Cq36 Cq43 Cq44)))
def b_p_blocked_4 (B : Bi Ω.mg) (E : ExF Ω.mg Ω.K XL XT) {Fq39 : XCt} (Cq39 : CalX Ω "refuse_no_plan" 7 2 Fq39) {Fq32 : Ct} (Cq32 : Cal Ω "number_of_lines" 1 1 Fq32) {Fq38 : XCt} (Cq38 : CalX Ω "refuse_no_nest" 1 2 Fq38) {Fq37 : XCt} (Cq37 : CalX Ω "refuse_no_line" 2 2 Fq37) {Fq36 : XCt} (Cq36 : CalX Ω "refuse_no_forms" 1 2 Fq36) {Fq43 : Ct} (Cq43 : Cal Ω "with_block_ahead" 2 3 Fq43) {Fq44 : Ct} (Cq44 : Cal Ω "with_nothing_ahead" 2 3 Fq44) : BX Ω :=
 (BX.ifr (E.exc (x := "NoTurn") (by decide)) (Te.cmp .Eq (Ex.call Cq32 (Ar.cons (Ex.var 1) Ar.nil)) (Ex.gint B.MOST_LINES_)) (b_p_blocked_5 B E Cq39 Cq32 Cq38 Cq37 Cq36 Cq43 Cq44))
def b_p_blocked_3 (B : Bi Ω.mg) (E : ExF Ω.mg Ω.K XL XT) {Fq39 : XCt} (Cq39 : CalX Ω "refuse_no_plan" 7 2 Fq39) {Fq32 : Ct} (Cq32 : Cal Ω "number_of_lines" 1 1 Fq32) {Fq38 : XCt} (Cq38 : CalX Ω "refuse_no_nest" 1 2 Fq38) {Fq37 : XCt} (Cq37 : CalX Ω "refuse_no_line" 2 2 Fq37) {Fq36 : XCt} (Cq36 : CalX Ω "refuse_no_forms" 1 2 Fq36) {Fq43 : Ct} (Cq43 : Cal Ω "with_block_ahead" 2 3 Fq43) {Fq44 : Ct} (Cq44 : Cal Ω "with_nothing_ahead" 2 3 Fq44) : BX Ω :=
 (BX.exs (XEx.call Cq36 (Ar.cons (Ex.ix (Ex.var 1) (Ex.var 2)) (Ar.cons (Ex.var 3) Ar.nil))) (b_p_blocked_4 B E Cq39 Cq32 Cq38 Cq37 Cq36 Cq43 Cq44))
def b_p_blocked_2 (B : Bi Ω.mg) (E : ExF Ω.mg Ω.K XL XT) {Fq39 : XCt} (Cq39 : CalX Ω "refuse_no_plan" 7 2 Fq39) {Fq32 : Ct} (Cq32 : Cal Ω "number_of_lines" 1 1 Fq32) {Fq38 : XCt} (Cq38 : CalX Ω "refuse_no_nest" 1 2 Fq38) {Fq37 : XCt} (Cq37 : CalX Ω "refuse_no_line" 2 2 Fq37) {Fq36 : XCt} (Cq36 : CalX Ω "refuse_no_forms" 1 2 Fq36) {Fq43 : Ct} (Cq43 : Cal Ω "with_block_ahead" 2 3 Fq43) {Fq44 : Ct} (Cq44 : Cal Ω "with_nothing_ahead" 2 3 Fq44) : BX Ω :=
 (BX.exs (XEx.call Cq37 (Ar.cons (Ex.var 1) (Ar.cons (Ex.var 3) Ar.nil))) (b_p_blocked_3 B E Cq39 Cq32 Cq38 Cq37 Cq36 Cq43 Cq44))
def b_p_blocked_1 (B : Bi Ω.mg) (E : ExF Ω.mg Ω.K XL XT) {Fq39 : XCt} (Cq39 : CalX Ω "refuse_no_plan" 7 2 Fq39) {Fq32 : Ct} (Cq32 : Cal Ω "number_of_lines" 1 1 Fq32) {Fq38 : XCt} (Cq38 : CalX Ω "refuse_no_nest" 1 2 Fq38) {Fq37 : XCt} (Cq37 : CalX Ω "refuse_no_line" 2 2 Fq37) {Fq36 : XCt} (Cq36 : CalX Ω "refuse_no_forms" 1 2 Fq36) {Fq43 : Ct} (Cq43 : Cal Ω "with_block_ahead" 2 3 Fq43) {Fq44 : Ct} (Cq44 : Cal Ω "with_nothing_ahead" 2 3 Fq44) : BX Ω :=
 (BX.exs (XEx.call Cq38 (Ar.cons (Ex.var 1) (Ar.cons (Ex.var 2) Ar.nil))) (b_p_blocked_2 B E Cq39 Cq32 Cq38 Cq37 Cq36 Cq43 Cq44))
def b_p_blocked (B : Bi Ω.mg) (E : ExF Ω.mg Ω.K XL XT) {Fq39 : XCt} (Cq39 : CalX Ω "refuse_no_plan" 7 2 Fq39) {Fq32 : Ct} (Cq32 : Cal Ω "number_of_lines" 1 1 Fq32) {Fq38 : XCt} (Cq38 : CalX Ω "refuse_no_nest" 1 2 Fq38) {Fq37 : XCt} (Cq37 : CalX Ω "refuse_no_line" 2 2 Fq37) {Fq36 : XCt} (Cq36 : CalX Ω "refuse_no_forms" 1 2 Fq36) {Fq43 : Ct} (Cq43 : Cal Ω "with_block_ahead" 2 3 Fq43) {Fq44 : Ct} (Cq44 : Cal Ω "with_nothing_ahead" 2 3 Fq44) : BX Ω :=
 (BX.exs (XEx.call Cq39 (Ar.cons (Ex.var 0) (Ar.cons (Ex.var 1) Ar.nil))) (b_p_blocked_1 B E Cq39 Cq32 Cq38 Cq37 Cq36 Cq43 Cq44))
abbrev s_p_cut_deeds : Stmt := top 46
abbrev N_p_cut_deeds : List Str := ["deeds", "a"]
abbrev P_p_cut_deeds : List Str := ["deeds", "a"]
def b_p_cut_deeds (B : Bi Ω.mg) {Fq28 : Ct} (Cq28 : Cal Ω "left_out" 1 2 Fq28) : Bl Ω :=
 Bl.cons (Sm.ret (Ex.typ tTuple B.tuple_ (Ar.cons (Ex.comp ["lines", "a"] [none, some 1] (Ex.call Cq28 (Ar.cons (Ex.var 0) (Ar.cons (Ex.var 1) Ar.nil))) (Tg.nm 0) (Itb.seq (Ex.var 0)) Cd.no) Ar.nil))) Bl.nil
abbrev s_p_cut : Stmt := top 47
abbrev N_p_cut : List Str := ["program", "plan", "a"]
abbrev P_p_cut : List Str := ["program", "plan", "a"]
def b_p_cut_3 (B : Bi Ω.mg) (E : ExF Ω.mg Ω.K XL XT) {Fq39 : XCt} (Cq39 : CalX Ω "refuse_no_plan" 7 2 Fq39) {Fq32 : Ct} (Cq32 : Cal Ω "number_of_lines" 1 1 Fq32) {Fq37 : XCt} (Cq37 : CalX Ω "refuse_no_line" 2 2 Fq37) {Fq16 : Ct} (Cq16 : Cal Ω "cut_deeds" 2 2 Fq16) : BX Ω :=
 (BX.cons (Sm.ret (Ex.typ tTuple B.tuple_ (Ar.cons (Ex.comp ["deeds", "a"] [none, some 2] (Ex.call Cq16 (Ar.cons (Ex.var 0) (Ar.cons (Ex.var 1) Ar.nil))) (Tg.nm 0) (Itb.seq (Ex.var 1)) Cd.no) Ar.nil))) (BX.of Bl.nil))
def b_p_cut_2 (B : Bi Ω.mg) (E : ExF Ω.mg Ω.K XL XT) {Fq39 : XCt} (Cq39 : CalX Ω "refuse_no_plan" 7 2 Fq39) {Fq32 : Ct} (Cq32 : Cal Ω "number_of_lines" 1 1 Fq32) {Fq37 : XCt} (Cq37 : CalX Ω "refuse_no_line" 2 2 Fq37) {Fq16 : Ct} (Cq16 : Cal Ω "cut_deeds" 2 2 Fq16) : BX Ω :=
 (BX.ifr (E.exc (x := "NoTurn") (by decide)) (Te.cmp .Eq (Ex.call Cq32 (Ar.cons (Ex.var 1) Ar.nil)) (Ex.int 1)) (b_p_cut_3 B E Cq39 Cq32 Cq37 Cq16))
def b_p_cut_1 (B : Bi Ω.mg) (E : ExF Ω.mg Ω.K XL XT) {Fq39 : XCt} (Cq39 : CalX Ω "refuse_no_plan" 7 2 Fq39) {Fq32 : Ct} (Cq32 : Cal Ω "number_of_lines" 1 1 Fq32) {Fq37 : XCt} (Cq37 : CalX Ω "refuse_no_line" 2 2 Fq37) {Fq16 : Ct} (Cq16 : Cal Ω "cut_deeds" 2 2 Fq16) : BX Ω :=
 (BX.exs (XEx.call Cq37 (Ar.cons (Ex.var 1) (Ar.cons (Ex.var 2) Ar.nil))) (b_p_cut_2 B E Cq39 Cq32 Cq37 Cq16))
def b_p_cut (B : Bi Ω.mg) (E : ExF Ω.mg Ω.K XL XT) {Fq39 : XCt} (Cq39 : CalX Ω "refuse_no_plan" 7 2 Fq39) {Fq32 : Ct} (Cq32 : Cal Ω "number_of_lines" 1 1 Fq32) {Fq37 : XCt} (Cq37 : CalX Ω "refuse_no_line" 2 2 Fq37) {Fq16 : Ct} (Cq16 : Cal Ω "cut_deeds" 2 2 Fq16) : BX Ω :=
 (BX.exs (XEx.call Cq39 (Ar.cons (Ex.var 0) (Ar.cons (Ex.var 1) Ar.nil))) (b_p_cut_1 B E Cq39 Cq32 Cq37 Cq16))
abbrev s_l_cell_at : Stmt := top 49
abbrev N_l_cell_at : List Str := ["_law_script", "_law_k"]
abbrev P_l_cell_at : List Str := ["_law_script", "_law_k"]
def b_l_cell_at_1 (B : Bi Ω.mg) : Bl Ω :=
 Bl.cons (Sm.ret (Ex.int 0)) Bl.nil
def b_l_cell_at (B : Bi Ω.mg) : Bl Ω :=
 Bl.cons (Sm.ite (Te.cmp .Lt (Ex.var 1) (Ex.blt bLen B.len_ (Ar.cons (Ex.var 0) Ar.nil))) (Bl.cons (Sm.ret (Ex.ix (Ex.var 0) (Ex.var 1))) Bl.nil) Bl.nil) (b_l_cell_at_1 B)
abbrev s_l_pen : Stmt := top 50
abbrev N_l_pen : List Str := ["_law_script", "_law_seed"]
abbrev P_l_pen : List Str := ["_law_script"]
def b_l_pen_1 (B : Bi Ω.mg) {Fq1 : Ct} (Cq1 : Cal Ω "_law_cell_at" 1 2 Fq1) : Bl Ω :=
 Bl.cons (Sm.ret (Ex.own (Ar.cons (Ex.var 0) (Ar.cons (Ex.int 1) (Ar.cons (Ex.call Cq1 (Ar.cons (Ex.var 0) (Ar.cons (Ex.int 1) Ar.nil))) (Ar.cons (Ex.int 0) (Ar.cons (Ex.bin .Mod (Ex.call Cq1 (Ar.cons (Ex.var 0) (Ar.cons (Ex.int 0) Ar.nil))) (Ex.int 2)) (Ar.cons (Ex.var 1) Ar.nil)))))))) Bl.nil
def b_l_pen (B : Bi Ω.mg) {Fq1 : Ct} (Cq1 : Cal Ω "_law_cell_at" 1 2 Fq1) : Bl Ω :=
 Bl.cons (Sm.set 1 (Ex.bin .Mod (Ex.blt bSumT B.sum_ (Ar.cons (Ex.comp ["_law_k", "_law_cell"] [none, none] (Ex.bin .Mult (Ex.bin .Add (Ex.bin .Mod (Ex.var 1) (Ex.int 2147483629)) (Ex.int 1)) (Ex.bin .Add (Ex.bin .Mult (Ex.var 0) (Ex.var 0)) (Ex.int 7))) (Tg.tup [0, 1]) (Itb.enm B.enumerate_ (Ex.sl (Ex.var 0) Po.no (Po.so (Ex.int 63)))) Cd.no) Ar.nil)) (Ex.int 2147483647))) (b_l_pen_1 B Cq1)
abbrev s_l_take : Stmt := top 51
abbrev N_l_take : List Str := ["_law_pen_here", "_law_most", "_law_found"]
abbrev P_l_take : List Str := ["_law_pen_here", "_law_most"]
def b_l_take_x1_1 {Fq1 : Ct} (Cq1 : Cal Ω "_law_cell_at" 1 2 Fq1) : Bl Ω :=
 Bl.cons (Sm.ret (Ex.bin .Mod (Ex.fdiv (Ex.bin .Mod (Ex.bin .Mult (Ex.ix (Ex.var 0) (Ex.int 5)) (Ex.int 1181783497276652981)) (Ex.int 2305843009213693951)) (Ex.int 64)) (Ex.var 1))) Bl.nil
def b_l_take_x1 {Fq1 : Ct} (Cq1 : Cal Ω "_law_cell_at" 1 2 Fq1) : Bl Ω :=
 Bl.cons (Sm.setIx (Ex.var 0) (Ex.int 5) (Ex.bin .Mod (Ex.bin .Add (Ex.bin .Mult (Ex.ix (Ex.var 0) (Ex.int 5)) (Ex.int 48271)) (Ex.int 12345)) (Ex.int 2147483647))) (b_l_take_x1_1 Cq1)
def b_l_take_x2_2 {Fq1 : Ct} (Cq1 : Cal Ω "_law_cell_at" 1 2 Fq1) : Bl Ω :=
 Bl.cons (Sm.setIx (Ex.var 0) (Ex.int 3) (Ex.int 0)) Bl.nil
def b_l_take_x2_1 {Fq1 : Ct} (Cq1 : Cal Ω "_law_cell_at" 1 2 Fq1) : Bl Ω :=
 Bl.cons (Sm.setIx (Ex.var 0) (Ex.int 2) (Ex.call Cq1 (Ar.cons (Ex.ix (Ex.var 0) (Ex.int 0)) (Ar.cons (Ex.ix (Ex.var 0) (Ex.int 1)) Ar.nil)))) (b_l_take_x2_2 Cq1)
def b_l_take_x2 {Fq1 : Ct} (Cq1 : Cal Ω "_law_cell_at" 1 2 Fq1) : Bl Ω :=
 Bl.cons (Sm.setIx (Ex.var 0) (Ex.int 1) (Ex.bin .Add (Ex.ix (Ex.var 0) (Ex.int 1)) (Ex.int 1))) (b_l_take_x2_1 Cq1)
def b_l_take_5 {Fq1 : Ct} (Cq1 : Cal Ω "_law_cell_at" 1 2 Fq1) : Bl Ω :=
 Bl.cons (Sm.ret (Ex.var 2)) Bl.nil
def b_l_take_4 {Fq1 : Ct} (Cq1 : Cal Ω "_law_cell_at" 1 2 Fq1) : Bl Ω :=
 Bl.cons (Sm.setIx (Ex.var 0) (Ex.int 2) (Ex.fdiv (Ex.ix (Ex.var 0) (Ex.int 2)) (Ex.var 1))) (b_l_take_5 Cq1)
def b_l_take_3 {Fq1 : Ct} (Cq1 : Cal Ω "_law_cell_at" 1 2 Fq1) : Bl Ω :=
 Bl.cons (Sm.set 2 (Ex.bin .Mod (Ex.ix (Ex.var 0) (Ex.int 2)) (Ex.var 1))) (b_l_take_4 Cq1)
def b_l_take_2 {Fq1 : Ct} (Cq1 : Cal Ω "_law_cell_at" 1 2 Fq1) : Bl Ω :=
 Bl.cons (Sm.setIx (Ex.var 0) (Ex.int 3) (Ex.bin .Add (Ex.ix (Ex.var 0) (Ex.int 3)) (Ex.int 1))) (b_l_take_3 Cq1)
def b_l_take_1 {Fq1 : Ct} (Cq1 : Cal Ω "_law_cell_at" 1 2 Fq1) : Bl Ω :=
 Bl.cons (Sm.ite (Te.cmp .Eq (Ex.ix (Ex.var 0) (Ex.int 3)) (Ex.int 50)) (b_l_take_x2 Cq1) Bl.nil) (b_l_take_2 Cq1)
def b_l_take {Fq1 : Ct} (Cq1 : Cal Ω "_law_cell_at" 1 2 Fq1) : Bl Ω :=
 Bl.cons (Sm.ite (Te.cmp .Eq (Ex.ix (Ex.var 0) (Ex.int 4)) (Ex.int 1)) (b_l_take_x1 Cq1) Bl.nil) (b_l_take_1 Cq1)
abbrev s_l_program : Stmt := top 52
abbrev N_l_program : List Str := ["_law_pen_here", "_law_nests", "_law_n", "_law_loops", "_law_k", "_law_low", "_law_noughts"]
abbrev P_l_program : List Str := ["_law_pen_here"]
def b_l_program_x1_1 (B : Bi Ω.mg) {Fq10 : Ct} (Cq10 : Cal Ω "_law_take" 2 2 Fq10) : Bl Ω :=
 Bl.cons (Sm.expr (Ex.m_append (Ex.var 3) (Ex.tup (Ar.cons (Ex.bin .Add (Ex.tup (Ar.cons (Ex.var 5) Ar.nil)) (Ex.bin .Mult (Ex.tup (Ar.cons (Ex.int 0) Ar.nil)) (Ex.var 4))) (Ar.cons (Ex.bin .Add (Ex.tup (Ar.cons (Ex.bin .Add (Ex.bin .Add (Ex.var 5) (Ex.call Cq10 (Ar.cons (Ex.var 0) (Ar.cons (Ex.int 2) Ar.nil)))) (Ex.typ tInt B.int_ (Ar.cons (Ex.cmp .Eq (Ex.var 4) (Ex.int 0)) Ar.nil))) Ar.nil)) (Ex.bin .Mult (Ex.tup (Ar.cons (Ex.int 0) Ar.nil)) (Ex.var 4))) Ar.nil))))) Bl.nil
def b_l_program_x1 (B : Bi Ω.mg) {Fq10 : Ct} (Cq10 : Cal Ω "_law_take" 2 2 Fq10) : Bl Ω :=
 Bl.cons (Sm.set 5 (Ex.bin .Sub (Ex.call Cq10 (Ar.cons (Ex.var 0) (Ar.cons (Ex.int 5) Ar.nil))) (Ex.int 2))) (b_l_program_x1_1 B Cq10)
def b_l_program_x2_3 (B : Bi Ω.mg) {Fq10 : Ct} (Cq10 : Cal Ω "_law_take" 2 2 Fq10) : Bl Ω :=
 Bl.cons (Sm.expr (Ex.m_append (Ex.var 1) (Ex.tup (Ar.cons (Ex.typ tTuple B.tuple_ (Ar.cons (Ex.var 3) Ar.nil)) (Ar.cons (Ex.bin .Mult (Ex.tup (Ar.cons (Ex.tup (Ar.cons (Ex.int 0) (Ar.cons (Ex.tup (Ar.cons (Ex.var 6) Ar.nil)) (Ar.cons (Ex.var 6) (Ar.cons (Ex.tup Ar.nil) Ar.nil))))) Ar.nil)) (Ex.bin .Add (Ex.int 1) (Ex.call Cq10 (Ar.cons (Ex.var 0) (Ar.cons (Ex.int 3) Ar.nil))))) Ar.nil))))) Bl.nil
def b_l_program_x2_2 (B : Bi Ω.mg) {Fq10 : Ct} (Cq10 : Cal Ω "_law_take" 2 2 Fq10) : Bl Ω :=
 Bl.cons (Sm.set 6 (Ex.bin .Mult (Ex.tup (Ar.cons (Ex.int 0) Ar.nil)) (Ex.bin .Add (Ex.blt bLen B.len_ (Ar.cons (Ex.var 3) Ar.nil)) (Ex.int 1)))) (b_l_program_x2_3 B Cq10)
def b_l_program_x2_1 (B : Bi Ω.mg) {Fq10 : Ct} (Cq10 : Cal Ω "_law_take" 2 2 Fq10) : Bl Ω :=
 Bl.cons (Sm.for (Tg.nm 4) (Itb.rng1 B.range_ (Ex.bin .Add (Ex.int 1) (Ex.call Cq10 (Ar.cons (Ex.var 0) (Ar.cons (Ex.int 3) Ar.nil))))) (b_l_program_x1 B Cq10)) (b_l_program_x2_2 B Cq10)
def b_l_program_x2 (B : Bi Ω.mg) {Fq10 : Ct} (Cq10 : Cal Ω "_law_take" 2 2 Fq10) : Bl Ω :=
 Bl.cons (Sm.set 3 (Ex.own Ar.nil)) (b_l_program_x2_1 B Cq10)
def b_l_program_2 (B : Bi Ω.mg) {Fq10 : Ct} (Cq10 : Cal Ω "_law_take" 2 2 Fq10) : Bl Ω :=
 Bl.cons (Sm.ret (Ex.tup (Ar.cons (Ex.tup (Ar.cons (Ex.int 1) Ar.nil)) (Ar.cons (Ex.typ tTuple B.tuple_ (Ar.cons (Ex.var 1) Ar.nil)) Ar.nil)))) Bl.nil
def b_l_program_1 (B : Bi Ω.mg) {Fq10 : Ct} (Cq10 : Cal Ω "_law_take" 2 2 Fq10) : Bl Ω :=
 Bl.cons (Sm.for (Tg.nm 2) (Itb.rng1 B.range_ (Ex.bin .Add (Ex.int 1) (Ex.call Cq10 (Ar.cons (Ex.var 0) (Ar.cons (Ex.int 3) Ar.nil))))) (b_l_program_x2 B Cq10)) (b_l_program_2 B Cq10)
def b_l_program (B : Bi Ω.mg) {Fq10 : Ct} (Cq10 : Cal Ω "_law_take" 2 2 Fq10) : Bl Ω :=
 Bl.cons (Sm.set 1 (Ex.own Ar.nil)) (b_l_program_1 B Cq10)
abbrev s_l_number : Stmt := top 53
abbrev N_l_number : List Str := ["_law_pen_here", "_law_size"]
abbrev P_l_number : List Str := ["_law_pen_here"]
def b_l_number_1 {Fq10 : Ct} (Cq10 : Cal Ω "_law_take" 2 2 Fq10) : Bl Ω :=
 Bl.cons (Sm.ret (Ex.bin .Sub (Ex.call Cq10 (Ar.cons (Ex.var 0) (Ar.cons (Ex.bin .Add (Ex.bin .Mult (Ex.int 2) (Ex.var 1)) (Ex.int 1)) Ar.nil))) (Ex.var 1))) Bl.nil
def b_l_number {Fq10 : Ct} (Cq10 : Cal Ω "_law_take" 2 2 Fq10) : Bl Ω :=
 Bl.cons (Sm.set 1 (Ex.ix (Ex.lst (Ar.cons (Ex.int 2) (Ar.cons (Ex.int 9) (Ar.cons (Ex.bin .Pow (Ex.int 10) (Ex.int 29)) Ar.nil)))) (Ex.call Cq10 (Ar.cons (Ex.var 0) (Ar.cons (Ex.int 3) Ar.nil))))) (b_l_number_1 Cq10)
abbrev s_l_plan : Stmt := top 54
abbrev N_l_plan : List Str := ["_law_pen_here", "_law_program_here", "_law_many", "_law_found", "_law_loops", "_law_deeds", "_law_sizes", "_law_some", "_law_deed", "_law_lines", "_law_size", "_law_form"]
abbrev P_l_plan : List Str := ["_law_pen_here", "_law_program_here"]
def b_l_plan_x1_1 (B : Bi Ω.mg) {Fq10 : Ct} (Cq10 : Cal Ω "_law_take" 2 2 Fq10) {Fq4 : Ct} (Cq4 : Cal Ω "_law_number" 3 1 Fq4) : Bl Ω :=
 Bl.cons (Sm.expr (Ex.m_append (Ex.var 9) (Ex.ix (Ex.lst (Ar.cons (Ex.tup (Ar.cons (Ex.str "form") (Ar.cons (Ex.var 11) Ar.nil))) (Ar.cons (Ex.tup (Ar.cons (Ex.str "block") (Ar.cons (Ex.var 11) (Ar.cons (Ex.var 10) Ar.nil)))) Ar.nil))) (Ex.typ tInt B.int_ (Ar.cons (Ex.cmp .Gt (Ex.var 10) (Ex.int 0)) Ar.nil))))) Bl.nil
def b_l_plan_x1 (B : Bi Ω.mg) {Fq10 : Ct} (Cq10 : Cal Ω "_law_take" 2 2 Fq10) {Fq4 : Ct} (Cq4 : Cal Ω "_law_number" 3 1 Fq4) : Bl Ω :=
 Bl.cons (Sm.set 11 (Ex.typ tTuple B.tuple_ (Ar.cons (Ex.comp ["_law_k", "_law_pen_here"] [none, some 0] (Ex.call Cq4 (Ar.cons (Ex.var 1) Ar.nil)) (Tg.nm 0) (Itb.rng1 B.range_ (Ex.bin .Add (Ex.blt bLen B.len_ (Ar.cons (Ex.var 4) Ar.nil)) (Ex.int 1))) Cd.no) Ar.nil))) (b_l_plan_x1_1 B Cq10 Cq4)
def b_l_plan_x2_2 (B : Bi Ω.mg) {Fq10 : Ct} (Cq10 : Cal Ω "_law_take" 2 2 Fq10) {Fq4 : Ct} (Cq4 : Cal Ω "_law_number" 3 1 Fq4) : Bl Ω :=
 Bl.cons (Sm.expr (Ex.m_append (Ex.var 7) (Ex.typ tTuple B.tuple_ (Ar.cons (Ex.var 9) Ar.nil)))) Bl.nil
def b_l_plan_x2_1 (B : Bi Ω.mg) {Fq10 : Ct} (Cq10 : Cal Ω "_law_take" 2 2 Fq10) {Fq4 : Ct} (Cq4 : Cal Ω "_law_number" 3 1 Fq4) : Bl Ω :=
 Bl.cons (Sm.forL (Tg.nm 10) (Ex.var 6) (b_l_plan_x1 B Cq10 Cq4)) (b_l_plan_x2_2 B Cq10 Cq4)
def b_l_plan_x2 (B : Bi Ω.mg) {Fq10 : Ct} (Cq10 : Cal Ω "_law_take" 2 2 Fq10) {Fq4 : Ct} (Cq4 : Cal Ω "_law_number" 3 1 Fq4) : Bl Ω :=
 Bl.cons (Sm.set 9 (Ex.own Ar.nil)) (b_l_plan_x2_1 B Cq10 Cq4)
def b_l_plan_x3_3 (B : Bi Ω.mg) {Fq10 : Ct} (Cq10 : Cal Ω "_law_take" 2 2 Fq10) {Fq4 : Ct} (Cq4 : Cal Ω "_law_number" 3 1 Fq4) : Bl Ω :=
 Bl.cons (Sm.expr (Ex.m_append (Ex.var 3) (Ex.typ tTuple B.tuple_ (Ar.cons (Ex.var 7) Ar.nil)))) Bl.nil
def b_l_plan_x3_2 (B : Bi Ω.mg) {Fq10 : Ct} (Cq10 : Cal Ω "_law_take" 2 2 Fq10) {Fq4 : Ct} (Cq4 : Cal Ω "_law_number" 3 1 Fq4) : Bl Ω :=
 Bl.cons (Sm.forL (Tg.nm 8) (Ex.var 5) (b_l_plan_x2 B Cq10 Cq4)) (b_l_plan_x3_3 B Cq10 Cq4)
def b_l_plan_x3_1 (B : Bi Ω.mg) {Fq10 : Ct} (Cq10 : Cal Ω "_law_take" 2 2 Fq10) {Fq4 : Ct} (Cq4 : Cal Ω "_law_number" 3 1 Fq4) : Bl Ω :=
 Bl.cons (Sm.set 7 (Ex.own Ar.nil)) (b_l_plan_x3_2 B Cq10 Cq4)
def b_l_plan_x3 (B : Bi Ω.mg) {Fq10 : Ct} (Cq10 : Cal Ω "_law_take" 2 2 Fq10) {Fq4 : Ct} (Cq4 : Cal Ω "_law_number" 3 1 Fq4) : Bl Ω :=
 Bl.cons (Sm.setC 6 ["_law_k", "_law_pen_here"] [none, some 0] (Ex.bin .Mult (Ex.fdiv (Ex.call Cq10 (Ar.cons (Ex.var 1) (Ar.cons (Ex.int 3) Ar.nil))) (Ex.int 2)) (Ex.bin .Add (Ex.int 1) (Ex.call Cq10 (Ar.cons (Ex.var 1) (Ar.cons (Ex.int 99) Ar.nil))))) (Tg.nm 0) (Itb.rng1 B.range_ (Ex.var 2)) Cd.no) (b_l_plan_x3_1 B Cq10 Cq4)
def b_l_plan_3 (B : Bi Ω.mg) {Fq10 : Ct} (Cq10 : Cal Ω "_law_take" 2 2 Fq10) {Fq4 : Ct} (Cq4 : Cal Ω "_law_number" 3 1 Fq4) : Bl Ω :=
 Bl.cons (Sm.ret (Ex.typ tTuple B.tuple_ (Ar.cons (Ex.var 3) Ar.nil))) Bl.nil
def b_l_plan_2 (B : Bi Ω.mg) {Fq10 : Ct} (Cq10 : Cal Ω "_law_take" 2 2 Fq10) {Fq4 : Ct} (Cq4 : Cal Ω "_law_number" 3 1 Fq4) : Bl Ω :=
 Bl.cons (Sm.forL (Tg.tup [4, 5]) (Ex.ix (Ex.var 1) (Ex.int 1)) (b_l_plan_x3 B Cq10 Cq4)) (b_l_plan_3 B Cq10 Cq4)
def b_l_plan_1 (B : Bi Ω.mg) {Fq10 : Ct} (Cq10 : Cal Ω "_law_take" 2 2 Fq10) {Fq4 : Ct} (Cq4 : Cal Ω "_law_number" 3 1 Fq4) : Bl Ω :=
 Bl.cons (Sm.set 3 (Ex.own Ar.nil)) (b_l_plan_2 B Cq10 Cq4)
def b_l_plan (B : Bi Ω.mg) {Fq10 : Ct} (Cq10 : Cal Ω "_law_take" 2 2 Fq10) {Fq4 : Ct} (Cq4 : Cal Ω "_law_number" 3 1 Fq4) : Bl Ω :=
 Bl.cons (Sm.set 2 (Ex.bin .Add (Ex.int 1) (Ex.call Cq10 (Ar.cons (Ex.var 0) (Ar.cons (Ex.int 8) Ar.nil))))) (b_l_plan_1 B Cq10 Cq4)
abbrev s_l_deeds_turned : Stmt := top 55
abbrev N_l_deeds_turned : List Str := ["_law_plan_here", "_law_nest", "_law_some"]
abbrev P_l_deeds_turned : List Str := ["_law_plan_here", "_law_nest", "_law_some"]
def b_l_deeds_turned (B : Bi Ω.mg) : Bl Ω :=
 Bl.cons (Sm.ret (Ex.bin .Add (Ex.bin .Add (Ex.sl (Ex.var 0) Po.no (Po.so (Ex.var 1))) (Ex.tup (Ar.cons (Ex.typ tTupleA B.tuple_ (Ar.cons (Ex.var 2) Ar.nil)) Ar.nil))) (Ex.sl (Ex.var 0) (Po.so (Ex.bin .Add (Ex.var 1) (Ex.int 1))) Po.no))) Bl.nil
abbrev s_l_swapped : Stmt := top 56
abbrev N_l_swapped : List Str := ["_law_lines", "_law_a", "_law_b", "_law_found"]
abbrev P_l_swapped : List Str := ["_law_lines", "_law_a", "_law_b"]
def b_l_swapped_2 (B : Bi Ω.mg) : Bl Ω :=
 Bl.cons (Sm.ret (Ex.typ tTuple B.tuple_ (Ar.cons (Ex.var 3) Ar.nil))) Bl.nil
def b_l_swapped_1 (B : Bi Ω.mg) : Bl Ω :=
 Bl.cons (Sm.swap (Ex.var 3) (Ex.var 1) (Ex.var 3) (Ex.var 2) (Ex.tup (Ar.cons (Ex.ix (Ex.var 0) (Ex.var 2)) (Ar.cons (Ex.ix (Ex.var 0) (Ex.var 1)) Ar.nil)))) (b_l_swapped_2 B)
def b_l_swapped (B : Bi Ω.mg) : Bl Ω :=
 Bl.cons (Sm.set 3 (Ex.typ tListO B.list_ (Ar.cons (Ex.var 0) Ar.nil))) (b_l_swapped_1 B)
abbrev s_l_put : Stmt := top 57
abbrev N_l_put : List Str := ["_law_lines", "_law_at", "_law_form"]
abbrev P_l_put : List Str := ["_law_lines", "_law_at", "_law_form"]
def b_l_put : Bl Ω :=
 Bl.cons (Sm.ret (Ex.bin .Add (Ex.bin .Add (Ex.sl (Ex.var 0) Po.no (Po.so (Ex.var 1))) (Ex.tup (Ar.cons (Ex.tup (Ar.cons (Ex.str "form") (Ar.cons (Ex.var 2) Ar.nil))) Ar.nil))) (Ex.sl (Ex.var 0) (Po.so (Ex.bin .Add (Ex.var 1) (Ex.int 1))) Po.no))) Bl.nil
abbrev s_l_due : Stmt := top 58
abbrev N_l_due : List Str := ["_law_program_here", "_law_plan_here", "_law_way", "_law_nest", "_law_deed", "_law_a", "_law_b", "_law_number_here", "_law_some", "_law_about", "_law_sums", "_law_form", "_law_line", "_law_found", "_law_n", "_law_ahead"]
abbrev P_l_due : List Str := ["_law_program_here", "_law_plan_here", "_law_way", "_law_nest", "_law_deed", "_law_a", "_law_b", "_law_number_here"]
def b_l_due_x1_1 (B : Bi Ω.mg) {Fq2 : Ct} (Cq2 : Cal Ω "_law_deeds_turned" 1 3 Fq2) {Fq9 : Ct} (Cq9 : Cal Ω "_law_swapped" 1 3 Fq9) {Fq8 : Ct} (Cq8 : Cal Ω "_law_put" 1 3 Fq8) : Bl Ω :=
 Bl.cons (Sm.ret (Ex.typ tTuple B.tuple_ (Ar.cons (Ex.comp ["_law_deeds", "_law_a"] [none, some 5] (Ex.typ tTuple B.tuple_ (Ar.cons (Ex.comp ["_law_lines", "_law_a"] [none, some 1] (Ex.bin .Add (Ex.sl (Ex.var 0) Po.no (Po.so (Ex.var 1))) (Ex.sl (Ex.var 0) (Po.so (Ex.bin .Add (Ex.var 1) (Ex.int 1))) Po.no)) (Tg.nm 0) (Itb.seq (Ex.var 0)) Cd.no) Ar.nil)) (Tg.nm 0) (Itb.seq (Ex.var 1)) Cd.no) Ar.nil))) Bl.nil
def b_l_due_x1 (B : Bi Ω.mg) {Fq2 : Ct} (Cq2 : Cal Ω "_law_deeds_turned" 1 3 Fq2) {Fq9 : Ct} (Cq9 : Cal Ω "_law_swapped" 1 3 Fq9) {Fq8 : Ct} (Cq8 : Cal Ω "_law_put" 1 3 Fq8) : Bl Ω :=
 Bl.cons (Sm.ite (Te.cmp .Eq (Ex.blt bLen B.len_ (Ar.cons (Ex.ix (Ex.var 8) (Ex.int 0)) Ar.nil)) (Ex.int 1)) (Bl.cons (Sm.ret Ex.non) Bl.nil) Bl.nil) (b_l_due_x1_1 B Cq2 Cq9 Cq8)
def b_l_due_x2_1 (B : Bi Ω.mg) {Fq2 : Ct} (Cq2 : Cal Ω "_law_deeds_turned" 1 3 Fq2) {Fq9 : Ct} (Cq9 : Cal Ω "_law_swapped" 1 3 Fq9) {Fq8 : Ct} (Cq8 : Cal Ω "_law_put" 1 3 Fq8) : Bl Ω :=
 Bl.cons (Sm.ret (Ex.call Cq2 (Ar.cons (Ex.var 1) (Ar.cons (Ex.var 3) (Ar.cons (Ex.comp ["_law_lines", "_law_form", "_law_a"] [none, none, some 5] (Ex.call Cq8 (Ar.cons (Ex.var 0) (Ar.cons (Ex.var 2) (Ar.cons (Ex.var 1) Ar.nil)))) (Tg.tup [0, 1]) (Itb.zipTL B.zip_ (Ex.var 8) (Ex.var 9)) Cd.no) Ar.nil))))) Bl.nil
def b_l_due_x2 (B : Bi Ω.mg) {Fq2 : Ct} (Cq2 : Cal Ω "_law_deeds_turned" 1 3 Fq2) {Fq9 : Ct} (Cq9 : Cal Ω "_law_swapped" 1 3 Fq9) {Fq8 : Ct} (Cq8 : Cal Ω "_law_put" 1 3 Fq8) : Bl Ω :=
 Bl.cons (Sm.setC 9 ["_law_lines", "_law_a"] [none, some 5] (Ex.typ tTuple B.tuple_ (Ar.cons (Ex.comp ["_law_one"] [none] (Ex.bin .Sub (Ex.int 0) (Ex.var 0)) (Tg.nm 0) (Itb.seq (Ex.ix (Ex.ix (Ex.var 0) (Ex.var 1)) (Ex.int 1))) Cd.no) Ar.nil)) (Tg.nm 0) (Itb.seq (Ex.var 8)) Cd.no) (b_l_due_x2_1 B Cq2 Cq9 Cq8)
def b_l_due_x3_1 (B : Bi Ω.mg) {Fq2 : Ct} (Cq2 : Cal Ω "_law_deeds_turned" 1 3 Fq2) {Fq9 : Ct} (Cq9 : Cal Ω "_law_swapped" 1 3 Fq9) {Fq8 : Ct} (Cq8 : Cal Ω "_law_put" 1 3 Fq8) : Bl Ω :=
 Bl.cons (Sm.ret (Ex.call Cq2 (Ar.cons (Ex.var 1) (Ar.cons (Ex.var 3) (Ar.cons (Ex.comp ["_law_lines", "_law_form", "_law_a"] [none, none, some 5] (Ex.call Cq8 (Ar.cons (Ex.var 0) (Ar.cons (Ex.var 2) (Ar.cons (Ex.var 1) Ar.nil)))) (Tg.tup [0, 1]) (Itb.zipTL B.zip_ (Ex.var 8) (Ex.var 10)) Cd.no) Ar.nil))))) Bl.nil
def b_l_due_x3 (B : Bi Ω.mg) {Fq2 : Ct} (Cq2 : Cal Ω "_law_deeds_turned" 1 3 Fq2) {Fq9 : Ct} (Cq9 : Cal Ω "_law_swapped" 1 3 Fq9) {Fq8 : Ct} (Cq8 : Cal Ω "_law_put" 1 3 Fq8) : Bl Ω :=
 Bl.cons (Sm.setC 10 ["_law_lines", "_law_a", "_law_b", "_law_number_here"] [none, some 5, some 6, some 7] (Ex.typ tTuple B.tuple_ (Ar.cons (Ex.comp ["_law_x", "_law_y", "_law_number_here"] [none, none, some 3] (Ex.bin .Add (Ex.var 0) (Ex.mulB (Ex.var 2) (Ex.var 1))) (Tg.tup [0, 1]) (Itb.zip B.zip_ (Ex.ix (Ex.ix (Ex.var 0) (Ex.var 1)) (Ex.int 1)) (Ex.ix (Ex.ix (Ex.var 0) (Ex.var 2)) (Ex.int 1))) Cd.no) Ar.nil)) (Tg.nm 0) (Itb.seq (Ex.var 8)) Cd.no) (b_l_due_x3_1 B Cq2 Cq9 Cq8)
def b_l_due_x4_2 (B : Bi Ω.mg) {Fq2 : Ct} (Cq2 : Cal Ω "_law_deeds_turned" 1 3 Fq2) {Fq9 : Ct} (Cq9 : Cal Ω "_law_swapped" 1 3 Fq9) {Fq8 : Ct} (Cq8 : Cal Ω "_law_put" 1 3 Fq8) : Bl Ω :=
 Bl.cons (Sm.ret (Ex.call Cq2 (Ar.cons (Ex.var 1) (Ar.cons (Ex.var 3) (Ar.cons (Ex.bin .Add (Ex.bin .Add (Ex.sl (Ex.var 8) Po.no (Po.so (Ex.var 4))) (Ex.tup (Ar.cons (Ex.var 12) Ar.nil))) (Ex.sl (Ex.var 8) (Po.so (Ex.bin .Add (Ex.var 4) (Ex.int 1))) Po.no)) Ar.nil))))) Bl.nil
def b_l_due_x4_1 (B : Bi Ω.mg) {Fq2 : Ct} (Cq2 : Cal Ω "_law_deeds_turned" 1 3 Fq2) {Fq9 : Ct} (Cq9 : Cal Ω "_law_swapped" 1 3 Fq9) {Fq8 : Ct} (Cq8 : Cal Ω "_law_put" 1 3 Fq8) : Bl Ω :=
 Bl.cons (Sm.set 12 (Ex.call Cq8 (Ar.cons (Ex.ix (Ex.var 8) (Ex.var 4)) (Ar.cons (Ex.var 5) (Ar.cons (Ex.bin .Add (Ex.tup (Ar.cons (Ex.bin .Add (Ex.ix (Ex.var 11) (Ex.int 0)) (Ex.var 7)) Ar.nil)) (Ex.sl (Ex.var 11) (Po.so (Ex.int 1)) Po.no)) Ar.nil))))) (b_l_due_x4_2 B Cq2 Cq9 Cq8)
def b_l_due_x4 (B : Bi Ω.mg) {Fq2 : Ct} (Cq2 : Cal Ω "_law_deeds_turned" 1 3 Fq2) {Fq9 : Ct} (Cq9 : Cal Ω "_law_swapped" 1 3 Fq9) {Fq8 : Ct} (Cq8 : Cal Ω "_law_put" 1 3 Fq8) : Bl Ω :=
 Bl.cons (Sm.set 11 (Ex.ix (Ex.ix (Ex.ix (Ex.var 8) (Ex.var 4)) (Ex.var 5)) (Ex.int 1))) (b_l_due_x4_1 B Cq2 Cq9 Cq8)
def b_l_due_x5_2 (B : Bi Ω.mg) {Fq2 : Ct} (Cq2 : Cal Ω "_law_deeds_turned" 1 3 Fq2) {Fq9 : Ct} (Cq9 : Cal Ω "_law_swapped" 1 3 Fq9) {Fq8 : Ct} (Cq8 : Cal Ω "_law_put" 1 3 Fq8) : Bl Ω :=
 Bl.cons (Sm.expr (Ex.m_append (Ex.var 13) (Ex.typ tTuple B.tuple_ (Ar.cons (Ex.comp ["_law_lines", "_law_line", "_law_a"] [none, none, some 5] (Ex.bin .Add (Ex.bin .Add (Ex.sl (Ex.var 0) Po.no (Po.so (Ex.var 2))) (Ex.tup (Ar.cons (Ex.var 1) Ar.nil))) (Ex.sl (Ex.var 0) (Po.so (Ex.var 2)) Po.no)) (Tg.tup [0, 1]) (Itb.zipTL B.zip_ (Ex.ix (Ex.var 1) (Ex.var 14)) (Ex.var 15)) Cd.no) Ar.nil)))) Bl.nil
def b_l_due_x5_1 (B : Bi Ω.mg) {Fq2 : Ct} (Cq2 : Cal Ω "_law_deeds_turned" 1 3 Fq2) {Fq9 : Ct} (Cq9 : Cal Ω "_law_swapped" 1 3 Fq9) {Fq8 : Ct} (Cq8 : Cal Ω "_law_put" 1 3 Fq8) : Bl Ω :=
 Bl.cons (Sm.ite (Te.cmp .Eq (Ex.var 14) (Ex.var 3)) (Bl.cons (Sm.setC 15 ["_law_lines", "_law_a", "_law_number_here"] [none, some 5, some 7] (Ex.tup (Ar.cons (Ex.str "block") (Ar.cons (Ex.ix (Ex.ix (Ex.var 0) (Ex.var 1)) (Ex.int 1)) (Ar.cons (Ex.bin .Add (Ex.int 1) (Ex.bin .Mod (Ex.var 2) (Ex.int 99))) Ar.nil)))) (Tg.nm 0) (Itb.seq (Ex.ix (Ex.var 1) (Ex.var 14))) Cd.no) Bl.nil) Bl.nil) (b_l_due_x5_2 B Cq2 Cq9 Cq8)
def b_l_due_x5 (B : Bi Ω.mg) {Fq2 : Ct} (Cq2 : Cal Ω "_law_deeds_turned" 1 3 Fq2) {Fq9 : Ct} (Cq9 : Cal Ω "_law_swapped" 1 3 Fq9) {Fq8 : Ct} (Cq8 : Cal Ω "_law_put" 1 3 Fq8) : Bl Ω :=
 Bl.cons (Sm.setC 15 ["_law_lines", "_law_program_here", "_law_n"] [none, some 0, some 14] (Ex.tup (Ar.cons (Ex.str "form") (Ar.cons (Ex.bin .Mult (Ex.tup (Ar.cons (Ex.int 0) Ar.nil)) (Ex.bin .Add (Ex.blt bLen B.len_ (Ar.cons (Ex.ix (Ex.ix (Ex.ix (Ex.var 1) (Ex.int 1)) (Ex.var 2)) (Ex.int 0)) Ar.nil)) (Ex.int 1))) Ar.nil))) (Tg.nm 0) (Itb.seq (Ex.ix (Ex.var 1) (Ex.var 14))) Cd.no) (b_l_due_x5_1 B Cq2 Cq9 Cq8)
def b_l_due_9 (B : Bi Ω.mg) {Fq2 : Ct} (Cq2 : Cal Ω "_law_deeds_turned" 1 3 Fq2) {Fq9 : Ct} (Cq9 : Cal Ω "_law_swapped" 1 3 Fq9) {Fq8 : Ct} (Cq8 : Cal Ω "_law_put" 1 3 Fq8) : Bl Ω :=
 Bl.cons (Sm.ret (Ex.typ tTuple B.tuple_ (Ar.cons (Ex.var 13) Ar.nil))) Bl.nil
def b_l_due_8 (B : Bi Ω.mg) {Fq2 : Ct} (Cq2 : Cal Ω "_law_deeds_turned" 1 3 Fq2) {Fq9 : Ct} (Cq9 : Cal Ω "_law_swapped" 1 3 Fq9) {Fq8 : Ct} (Cq8 : Cal Ω "_law_put" 1 3 Fq8) : Bl Ω :=
 Bl.cons (Sm.for (Tg.nm 14) (Itb.rng1 B.range_ (Ex.blt bLen B.len_ (Ar.cons (Ex.var 1) Ar.nil))) (b_l_due_x5 B Cq2 Cq9 Cq8)) (b_l_due_9 B Cq2 Cq9 Cq8)
def b_l_due_7 (B : Bi Ω.mg) {Fq2 : Ct} (Cq2 : Cal Ω "_law_deeds_turned" 1 3 Fq2) {Fq9 : Ct} (Cq9 : Cal Ω "_law_swapped" 1 3 Fq9) {Fq8 : Ct} (Cq8 : Cal Ω "_law_put" 1 3 Fq8) : Bl Ω :=
 Bl.cons (Sm.set 13 (Ex.own Ar.nil)) (b_l_due_8 B Cq2 Cq9 Cq8)
def b_l_due_6 (B : Bi Ω.mg) {Fq2 : Ct} (Cq2 : Cal Ω "_law_deeds_turned" 1 3 Fq2) {Fq9 : Ct} (Cq9 : Cal Ω "_law_swapped" 1 3 Fq9) {Fq8 : Ct} (Cq8 : Cal Ω "_law_put" 1 3 Fq8) : Bl Ω :=
 Bl.cons (Sm.ite (Te.cmp .Eq (Ex.var 2) (Ex.int 3)) (b_l_due_x4 B Cq2 Cq9 Cq8) Bl.nil) (b_l_due_7 B Cq2 Cq9 Cq8)
def b_l_due_5 (B : Bi Ω.mg) {Fq2 : Ct} (Cq2 : Cal Ω "_law_deeds_turned" 1 3 Fq2) {Fq9 : Ct} (Cq9 : Cal Ω "_law_swapped" 1 3 Fq9) {Fq8 : Ct} (Cq8 : Cal Ω "_law_put" 1 3 Fq8) : Bl Ω :=
 Bl.cons (Sm.ite (Te.cmp .Eq (Ex.var 2) (Ex.int 2)) (b_l_due_x3 B Cq2 Cq9 Cq8) Bl.nil) (b_l_due_6 B Cq2 Cq9 Cq8)
def b_l_due_4 (B : Bi Ω.mg) {Fq2 : Ct} (Cq2 : Cal Ω "_law_deeds_turned" 1 3 Fq2) {Fq9 : Ct} (Cq9 : Cal Ω "_law_swapped" 1 3 Fq9) {Fq8 : Ct} (Cq8 : Cal Ω "_law_put" 1 3 Fq8) : Bl Ω :=
 Bl.cons (Sm.ite (Te.cmp .Eq (Ex.var 2) (Ex.int 1)) (b_l_due_x2 B Cq2 Cq9 Cq8) Bl.nil) (b_l_due_5 B Cq2 Cq9 Cq8)
def b_l_due_3 (B : Bi Ω.mg) {Fq2 : Ct} (Cq2 : Cal Ω "_law_deeds_turned" 1 3 Fq2) {Fq9 : Ct} (Cq9 : Cal Ω "_law_swapped" 1 3 Fq9) {Fq8 : Ct} (Cq8 : Cal Ω "_law_put" 1 3 Fq8) : Bl Ω :=
 Bl.cons (Sm.ite (Te.or (Bt.cons (Te.cmp .Eq (Ex.ix (Ex.ix (Ex.ix (Ex.var 8) (Ex.int 0)) (Ex.var 5)) (Ex.int 0)) (Ex.str "block")) (Bt.one (Te.and (Bt.cons (Te.cmp .Eq (Ex.var 2) (Ex.int 2)) (Bt.one (Te.or (Bt.cons (Te.cmp .Eq (Ex.var 5) (Ex.var 6)) (Bt.one (Te.cmp .Eq (Ex.ix (Ex.ix (Ex.ix (Ex.var 8) (Ex.int 0)) (Ex.var 6)) (Ex.int 0)) (Ex.str "block"))))))))))) (Bl.cons (Sm.ret Ex.non) Bl.nil) Bl.nil) (b_l_due_4 B Cq2 Cq9 Cq8)
def b_l_due_2 (B : Bi Ω.mg) {Fq2 : Ct} (Cq2 : Cal Ω "_law_deeds_turned" 1 3 Fq2) {Fq9 : Ct} (Cq9 : Cal Ω "_law_swapped" 1 3 Fq9) {Fq8 : Ct} (Cq8 : Cal Ω "_law_put" 1 3 Fq8) : Bl Ω :=
 Bl.cons (Sm.ite (Te.cmp .Eq (Ex.var 2) (Ex.int 5)) (b_l_due_x1 B Cq2 Cq9 Cq8) Bl.nil) (b_l_due_3 B Cq2 Cq9 Cq8)
def b_l_due_1 (B : Bi Ω.mg) {Fq2 : Ct} (Cq2 : Cal Ω "_law_deeds_turned" 1 3 Fq2) {Fq9 : Ct} (Cq9 : Cal Ω "_law_swapped" 1 3 Fq9) {Fq8 : Ct} (Cq8 : Cal Ω "_law_put" 1 3 Fq8) : Bl Ω :=
 Bl.cons (Sm.ite (Te.cmp .Eq (Ex.var 2) (Ex.int 0)) (Bl.cons (Sm.ret (Ex.call Cq2 (Ar.cons (Ex.var 1) (Ar.cons (Ex.var 3) (Ar.cons (Ex.comp ["_law_lines", "_law_a", "_law_b"] [none, some 5, some 6] (Ex.call Cq9 (Ar.cons (Ex.var 0) (Ar.cons (Ex.var 1) (Ar.cons (Ex.var 2) Ar.nil)))) (Tg.nm 0) (Itb.seq (Ex.var 8)) Cd.no) Ar.nil))))) Bl.nil) Bl.nil) (b_l_due_2 B Cq2 Cq9 Cq8)
def b_l_due (B : Bi Ω.mg) {Fq2 : Ct} (Cq2 : Cal Ω "_law_deeds_turned" 1 3 Fq2) {Fq9 : Ct} (Cq9 : Cal Ω "_law_swapped" 1 3 Fq9) {Fq8 : Ct} (Cq8 : Cal Ω "_law_put" 1 3 Fq8) : Bl Ω :=
 Bl.cons (Sm.set 8 (Ex.ix (Ex.var 1) (Ex.var 3))) (b_l_due_1 B Cq2 Cq9 Cq8)
abbrev s_l_asked : Stmt := top 59
abbrev N_l_asked : List Str := ["_law_program_here", "_law_plan_here", "_law_way", "_law_nest", "_law_deed", "_law_a", "_law_b", "_law_number_here"]
abbrev P_l_asked : List Str := ["_law_program_here", "_law_plan_here", "_law_way", "_law_nest", "_law_deed", "_law_a", "_law_b", "_law_number_here"]
def b_l_asked_5 (E : ExF Ω.mg Ω.K XL XT) {Fq17 : XCt} (Cq17 : CalX Ω "exchanged" 8 5 Fq17) {Fq12 : XCt} (Cq12 : CalX Ω "backward" 8 4 Fq12) {Fq41 : XCt} (Cq41 : CalX Ω "slanted" 8 6 Fq41) {Fq29 : XCt} (Cq29 : CalX Ω "moved" 8 6 Fq29) {Fq14 : XCt} (Cq14 : CalX Ω "blocked" 8 5 Fq14) {Fq15 : XCt} (Cq15 : CalX Ω "cut" 8 3 Fq15) : BX Ω :=
 (BX.retx (XEx.call Cq15 (Ar.cons (Ex.var 0) (Ar.cons (Ex.var 1) (Ar.cons (Ex.var 5) Ar.nil)))) (BX.of Bl.nil))
def b_l_asked_4 (E : ExF Ω.mg Ω.K XL XT) {Fq17 : XCt} (Cq17 : CalX Ω "exchanged" 8 5 Fq17) {Fq12 : XCt} (Cq12 : CalX Ω "backward" 8 4 Fq12) {Fq41 : XCt} (Cq41 : CalX Ω "slanted" 8 6 Fq41) {Fq29 : XCt} (Cq29 : CalX Ω "moved" 8 6 Fq29) {Fq14 : XCt} (Cq14 : CalX Ω "blocked" 8 5 Fq14) {Fq15 : XCt} (Cq15 : CalX Ω "cut" 8 3 Fq15) : BX Ω :=
 (BX.ite (Te.cmp .Eq (Ex.var 2) (Ex.int 4)) (BX.retx (XEx.call Cq14 (Ar.cons (Ex.var 0) (Ar.cons (Ex.var 1) (Ar.cons (Ex.var 3) (Ar.cons (Ex.var 5) (Ar.cons (Ex.bin .Add (Ex.int 1) (Ex.bin .Mod (Ex.var 7) (Ex.int 99))) Ar.nil)))))) BX.nil) BX.nil (b_l_asked_5 E Cq17 Cq12 Cq41 Cq29 Cq14 Cq15))
def b_l_asked_3 (E : ExF Ω.mg Ω.K XL XT) {Fq17 : XCt} (Cq17 : CalX Ω "exchanged" 8 5 Fq17) {Fq12 : XCt} (Cq12 : CalX Ω "backward" 8 4 Fq12) {Fq41 : XCt} (Cq41 : CalX Ω "slanted" 8 6 Fq41) {Fq29 : XCt} (Cq29 : CalX Ω "moved" 8 6 Fq29) {Fq14 : XCt} (Cq14 : CalX Ω "blocked" 8 5 Fq14) {Fq15 : XCt} (Cq15 : CalX Ω "cut" 8 3 Fq15) : BX Ω :=
 (BX.ite (Te.cmp .Eq (Ex.var 2) (Ex.int 3)) (BX.retx (XEx.call Cq29 (Ar.cons (Ex.var 0) (Ar.cons (Ex.var 1) (Ar.cons (Ex.var 3) (Ar.cons (Ex.var 4) (Ar.cons (Ex.var 5) (Ar.cons (Ex.var 7) Ar.nil))))))) BX.nil) BX.nil (b_l_asked_4 E Cq17 Cq12 Cq41 Cq29 Cq14 Cq15))
def b_l_asked_2 (E : ExF Ω.mg Ω.K XL XT) {Fq17 : XCt} (Cq17 : CalX Ω "exchanged" 8 5 Fq17) {Fq12 : XCt} (Cq12 : CalX Ω "backward" 8 4 Fq12) {Fq41 : XCt} (Cq41 : CalX Ω "slanted" 8 6 Fq41) {Fq29 : XCt} (Cq29 : CalX Ω "moved" 8 6 Fq29) {Fq14 : XCt} (Cq14 : CalX Ω "blocked" 8 5 Fq14) {Fq15 : XCt} (Cq15 : CalX Ω "cut" 8 3 Fq15) : BX Ω :=
 (BX.ite (Te.cmp .Eq (Ex.var 2) (Ex.int 2)) (BX.retx (XEx.call Cq41 (Ar.cons (Ex.var 0) (Ar.cons (Ex.var 1) (Ar.cons (Ex.var 3) (Ar.cons (Ex.var 5) (Ar.cons (Ex.var 6) (Ar.cons (Ex.var 7) Ar.nil))))))) BX.nil) BX.nil (b_l_asked_3 E Cq17 Cq12 Cq41 Cq29 Cq14 Cq15))
def b_l_asked_1 (E : ExF Ω.mg Ω.K XL XT) {Fq17 : XCt} (Cq17 : CalX Ω "exchanged" 8 5 Fq17) {Fq12 : XCt} (Cq12 : CalX Ω "backward" 8 4 Fq12) {Fq41 : XCt} (Cq41 : CalX Ω "slanted" 8 6 Fq41) {Fq29 : XCt} (Cq29 : CalX Ω "moved" 8 6 Fq29) {Fq14 : XCt} (Cq14 : CalX Ω "blocked" 8 5 Fq14) {Fq15 : XCt} (Cq15 : CalX Ω "cut" 8 3 Fq15) : BX Ω :=
 (BX.ite (Te.cmp .Eq (Ex.var 2) (Ex.int 1)) (BX.retx (XEx.call Cq12 (Ar.cons (Ex.var 0) (Ar.cons (Ex.var 1) (Ar.cons (Ex.var 3) (Ar.cons (Ex.var 5) Ar.nil))))) BX.nil) BX.nil (b_l_asked_2 E Cq17 Cq12 Cq41 Cq29 Cq14 Cq15))
def b_l_asked (E : ExF Ω.mg Ω.K XL XT) {Fq17 : XCt} (Cq17 : CalX Ω "exchanged" 8 5 Fq17) {Fq12 : XCt} (Cq12 : CalX Ω "backward" 8 4 Fq12) {Fq41 : XCt} (Cq41 : CalX Ω "slanted" 8 6 Fq41) {Fq29 : XCt} (Cq29 : CalX Ω "moved" 8 6 Fq29) {Fq14 : XCt} (Cq14 : CalX Ω "blocked" 8 5 Fq14) {Fq15 : XCt} (Cq15 : CalX Ω "cut" 8 3 Fq15) : BX Ω :=
 (BX.ite (Te.cmp .Eq (Ex.var 2) (Ex.int 0)) (BX.retx (XEx.call Cq17 (Ar.cons (Ex.var 0) (Ar.cons (Ex.var 1) (Ar.cons (Ex.var 3) (Ar.cons (Ex.var 5) (Ar.cons (Ex.var 6) Ar.nil)))))) BX.nil) BX.nil (b_l_asked_1 E Cq17 Cq12 Cq41 Cq29 Cq14 Cq15))
abbrev s_l_told : Stmt := top 60
abbrev N_l_told : List Str := ["_law_program_here", "_law_plan_here", "_law_way", "_law_nest", "_law_deed", "_law_a", "_law_b", "_law_number_here", "e"]
abbrev P_l_told : List Str := ["_law_program_here", "_law_plan_here", "_law_way", "_law_nest", "_law_deed", "_law_a", "_law_b", "_law_number_here"]
def b_l_told (B : Bi Ω.mg) (E : ExF Ω.mg Ω.K XL XT) {Fq0 : XCt} (Cq0 : CalX Ω "_law_asked" 9 8 Fq0) : BT Ω :=
 (BT.tryb E B.isinstance_ B.int_ (TB.ret (XEx.call Cq0 (Ar.cons (Ex.var 0) (Ar.cons (Ex.var 1) (Ar.cons (Ex.var 2) (Ar.cons (Ex.var 3) (Ar.cons (Ex.var 4) (Ar.cons (Ex.var 5) (Ar.cons (Ex.var 6) (Ar.cons (Ex.var 7) Ar.nil)))))))))) 8 "e" [HB.ifr (HT.any ["NoOrder", "NoPlan", "NoProgram", "NoRow", "NoText", "Tied", "TooMany"]) (Oc.str "other"), HB.pick (HT.or (HT.no (HT.one "NoTurn")) (HT.no (HT.one "ValueError"))) Oc.non (Oc.str "other")] (BT.of Bl.nil))
abbrev s_law : Stmt := top 61
abbrev N_law : List Str := ["_law_script", "_law_pen_here", "_law_program_here", "_law_plan_here", "_law_many", "_law_firsts", "_law_turn", "_law_way", "_law_nest", "_law_deed", "_law_a", "_law_b", "_law_number_here", "_law_due_here"]
abbrev P_law : List Str := ["_law_script"]
def b_law_x1_8 (B : Bi Ω.mg) {Fq5 : Ct} (Cq5 : Cal Ω "_law_pen" 2 1 Fq5) {Fq10 : Ct} (Cq10 : Cal Ω "_law_take" 2 2 Fq10) {Fq7 : Ct} (Cq7 : Cal Ω "_law_program" 3 1 Fq7) {Fq4 : Ct} (Cq4 : Cal Ω "_law_number" 3 1 Fq4) {Fq6 : Ct} (Cq6 : Cal Ω "_law_plan" 4 2 Fq6) {Fq3 : Ct} (Cq3 : Cal Ω "_law_due" 2 8 Fq3) {Fq11 : Ct} (Cq11 : Cal Ω "_law_told" 10 8 Fq11) : Bl Ω :=
 Bl.cons (Sm.expr (Ex.m_append (Ex.var 5) (Ex.tup (Ar.cons (Ex.var 7) (Ar.cons (Ex.var 8) (Ar.cons (Ex.var 9) (Ar.cons (Ex.var 10) (Ar.cons (Ex.var 11) (Ar.cons (Ex.var 12) (Ar.cons (Ex.var 13) Ar.nil)))))))))) Bl.nil
def b_law_x1_7 (B : Bi Ω.mg) {Fq5 : Ct} (Cq5 : Cal Ω "_law_pen" 2 1 Fq5) {Fq10 : Ct} (Cq10 : Cal Ω "_law_take" 2 2 Fq10) {Fq7 : Ct} (Cq7 : Cal Ω "_law_program" 3 1 Fq7) {Fq4 : Ct} (Cq4 : Cal Ω "_law_number" 3 1 Fq4) {Fq6 : Ct} (Cq6 : Cal Ω "_law_plan" 4 2 Fq6) {Fq3 : Ct} (Cq3 : Cal Ω "_law_due" 2 8 Fq3) {Fq11 : Ct} (Cq11 : Cal Ω "_law_told" 10 8 Fq11) : Bl Ω :=
 Bl.cons (Sm.ite (Te.cmp .NotEq (Ex.call Cq11 (Ar.cons (Ex.var 2) (Ar.cons (Ex.var 3) (Ar.cons (Ex.var 7) (Ar.cons (Ex.var 8) (Ar.cons (Ex.var 9) (Ar.cons (Ex.var 10) (Ar.cons (Ex.var 11) (Ar.cons (Ex.var 12) Ar.nil))))))))) (Ex.var 13)) (Bl.cons (Sm.ret (Ex.bl false)) Bl.nil) Bl.nil) (b_law_x1_8 B Cq5 Cq10 Cq7 Cq4 Cq6 Cq3 Cq11)
def b_law_x1_6 (B : Bi Ω.mg) {Fq5 : Ct} (Cq5 : Cal Ω "_law_pen" 2 1 Fq5) {Fq10 : Ct} (Cq10 : Cal Ω "_law_take" 2 2 Fq10) {Fq7 : Ct} (Cq7 : Cal Ω "_law_program" 3 1 Fq7) {Fq4 : Ct} (Cq4 : Cal Ω "_law_number" 3 1 Fq4) {Fq6 : Ct} (Cq6 : Cal Ω "_law_plan" 4 2 Fq6) {Fq3 : Ct} (Cq3 : Cal Ω "_law_due" 2 8 Fq3) {Fq11 : Ct} (Cq11 : Cal Ω "_law_told" 10 8 Fq11) : Bl Ω :=
 Bl.cons (Sm.set 13 (Ex.call Cq3 (Ar.cons (Ex.var 2) (Ar.cons (Ex.var 3) (Ar.cons (Ex.var 7) (Ar.cons (Ex.var 8) (Ar.cons (Ex.var 9) (Ar.cons (Ex.var 10) (Ar.cons (Ex.var 11) (Ar.cons (Ex.var 12) Ar.nil)))))))))) (b_law_x1_7 B Cq5 Cq10 Cq7 Cq4 Cq6 Cq3 Cq11)
def b_law_x1_5 (B : Bi Ω.mg) {Fq5 : Ct} (Cq5 : Cal Ω "_law_pen" 2 1 Fq5) {Fq10 : Ct} (Cq10 : Cal Ω "_law_take" 2 2 Fq10) {Fq7 : Ct} (Cq7 : Cal Ω "_law_program" 3 1 Fq7) {Fq4 : Ct} (Cq4 : Cal Ω "_law_number" 3 1 Fq4) {Fq6 : Ct} (Cq6 : Cal Ω "_law_plan" 4 2 Fq6) {Fq3 : Ct} (Cq3 : Cal Ω "_law_due" 2 8 Fq3) {Fq11 : Ct} (Cq11 : Cal Ω "_law_told" 10 8 Fq11) : Bl Ω :=
 Bl.cons (Sm.set 12 (Ex.call Cq4 (Ar.cons (Ex.var 1) Ar.nil))) (b_law_x1_6 B Cq5 Cq10 Cq7 Cq4 Cq6 Cq3 Cq11)
def b_law_x1_4 (B : Bi Ω.mg) {Fq5 : Ct} (Cq5 : Cal Ω "_law_pen" 2 1 Fq5) {Fq10 : Ct} (Cq10 : Cal Ω "_law_take" 2 2 Fq10) {Fq7 : Ct} (Cq7 : Cal Ω "_law_program" 3 1 Fq7) {Fq4 : Ct} (Cq4 : Cal Ω "_law_number" 3 1 Fq4) {Fq6 : Ct} (Cq6 : Cal Ω "_law_plan" 4 2 Fq6) {Fq3 : Ct} (Cq3 : Cal Ω "_law_due" 2 8 Fq3) {Fq11 : Ct} (Cq11 : Cal Ω "_law_told" 10 8 Fq11) : Bl Ω :=
 Bl.cons (Sm.set 11 (Ex.call Cq10 (Ar.cons (Ex.var 1) (Ar.cons (Ex.var 4) Ar.nil)))) (b_law_x1_5 B Cq5 Cq10 Cq7 Cq4 Cq6 Cq3 Cq11)
def b_law_x1_3 (B : Bi Ω.mg) {Fq5 : Ct} (Cq5 : Cal Ω "_law_pen" 2 1 Fq5) {Fq10 : Ct} (Cq10 : Cal Ω "_law_take" 2 2 Fq10) {Fq7 : Ct} (Cq7 : Cal Ω "_law_program" 3 1 Fq7) {Fq4 : Ct} (Cq4 : Cal Ω "_law_number" 3 1 Fq4) {Fq6 : Ct} (Cq6 : Cal Ω "_law_plan" 4 2 Fq6) {Fq3 : Ct} (Cq3 : Cal Ω "_law_due" 2 8 Fq3) {Fq11 : Ct} (Cq11 : Cal Ω "_law_told" 10 8 Fq11) : Bl Ω :=
 Bl.cons (Sm.set 10 (Ex.call Cq10 (Ar.cons (Ex.var 1) (Ar.cons (Ex.var 4) Ar.nil)))) (b_law_x1_4 B Cq5 Cq10 Cq7 Cq4 Cq6 Cq3 Cq11)
def b_law_x1_2 (B : Bi Ω.mg) {Fq5 : Ct} (Cq5 : Cal Ω "_law_pen" 2 1 Fq5) {Fq10 : Ct} (Cq10 : Cal Ω "_law_take" 2 2 Fq10) {Fq7 : Ct} (Cq7 : Cal Ω "_law_program" 3 1 Fq7) {Fq4 : Ct} (Cq4 : Cal Ω "_law_number" 3 1 Fq4) {Fq6 : Ct} (Cq6 : Cal Ω "_law_plan" 4 2 Fq6) {Fq3 : Ct} (Cq3 : Cal Ω "_law_due" 2 8 Fq3) {Fq11 : Ct} (Cq11 : Cal Ω "_law_told" 10 8 Fq11) : Bl Ω :=
 Bl.cons (Sm.set 9 (Ex.call Cq10 (Ar.cons (Ex.var 1) (Ar.cons (Ex.blt bLen B.len_ (Ar.cons (Ex.ix (Ex.var 3) (Ex.var 8)) Ar.nil)) Ar.nil)))) (b_law_x1_3 B Cq5 Cq10 Cq7 Cq4 Cq6 Cq3 Cq11)
def b_law_x1_1 (B : Bi Ω.mg) {Fq5 : Ct} (Cq5 : Cal Ω "_law_pen" 2 1 Fq5) {Fq10 : Ct} (Cq10 : Cal Ω "_law_take" 2 2 Fq10) {Fq7 : Ct} (Cq7 : Cal Ω "_law_program" 3 1 Fq7) {Fq4 : Ct} (Cq4 : Cal Ω "_law_number" 3 1 Fq4) {Fq6 : Ct} (Cq6 : Cal Ω "_law_plan" 4 2 Fq6) {Fq3 : Ct} (Cq3 : Cal Ω "_law_due" 2 8 Fq3) {Fq11 : Ct} (Cq11 : Cal Ω "_law_told" 10 8 Fq11) : Bl Ω :=
 Bl.cons (Sm.set 8 (Ex.call Cq10 (Ar.cons (Ex.var 1) (Ar.cons (Ex.blt bLen B.len_ (Ar.cons (Ex.var 3) Ar.nil)) Ar.nil)))) (b_law_x1_2 B Cq5 Cq10 Cq7 Cq4 Cq6 Cq3 Cq11)
def b_law_x1 (B : Bi Ω.mg) {Fq5 : Ct} (Cq5 : Cal Ω "_law_pen" 2 1 Fq5) {Fq10 : Ct} (Cq10 : Cal Ω "_law_take" 2 2 Fq10) {Fq7 : Ct} (Cq7 : Cal Ω "_law_program" 3 1 Fq7) {Fq4 : Ct} (Cq4 : Cal Ω "_law_number" 3 1 Fq4) {Fq6 : Ct} (Cq6 : Cal Ω "_law_plan" 4 2 Fq6) {Fq3 : Ct} (Cq3 : Cal Ω "_law_due" 2 8 Fq3) {Fq11 : Ct} (Cq11 : Cal Ω "_law_told" 10 8 Fq11) : Bl Ω :=
 Bl.cons (Sm.set 7 (Ex.call Cq10 (Ar.cons (Ex.var 1) (Ar.cons (Ex.int 6) Ar.nil)))) (b_law_x1_1 B Cq5 Cq10 Cq7 Cq4 Cq6 Cq3 Cq11)
def b_law_7 (B : Bi Ω.mg) {Fq5 : Ct} (Cq5 : Cal Ω "_law_pen" 2 1 Fq5) {Fq10 : Ct} (Cq10 : Cal Ω "_law_take" 2 2 Fq10) {Fq7 : Ct} (Cq7 : Cal Ω "_law_program" 3 1 Fq7) {Fq4 : Ct} (Cq4 : Cal Ω "_law_number" 3 1 Fq4) {Fq6 : Ct} (Cq6 : Cal Ω "_law_plan" 4 2 Fq6) {Fq3 : Ct} (Cq3 : Cal Ω "_law_due" 2 8 Fq3) {Fq11 : Ct} (Cq11 : Cal Ω "_law_told" 10 8 Fq11) : Bl Ω :=
 Bl.cons (Sm.ret (Ex.cmp .Eq (Ex.call Cq11 (Ar.cons (Ex.var 2) (Ar.cons (Ex.var 3) (Ar.cons (Ex.var 7) (Ar.cons (Ex.var 8) (Ar.cons (Ex.var 9) (Ar.cons (Ex.var 10) (Ar.cons (Ex.var 11) (Ar.cons (Ex.var 12) Ar.nil))))))))) (Ex.var 13))) Bl.nil
def b_law_6 (B : Bi Ω.mg) {Fq5 : Ct} (Cq5 : Cal Ω "_law_pen" 2 1 Fq5) {Fq10 : Ct} (Cq10 : Cal Ω "_law_take" 2 2 Fq10) {Fq7 : Ct} (Cq7 : Cal Ω "_law_program" 3 1 Fq7) {Fq4 : Ct} (Cq4 : Cal Ω "_law_number" 3 1 Fq4) {Fq6 : Ct} (Cq6 : Cal Ω "_law_plan" 4 2 Fq6) {Fq3 : Ct} (Cq3 : Cal Ω "_law_due" 2 8 Fq3) {Fq11 : Ct} (Cq11 : Cal Ω "_law_told" 10 8 Fq11) : Bl Ω :=
 Bl.cons (Sm.unpack [7, 8, 9, 10, 11, 12, 13] (Ex.ix (Ex.var 5) (Ex.int 0))) (b_law_7 B Cq5 Cq10 Cq7 Cq4 Cq6 Cq3 Cq11)
def b_law_5 (B : Bi Ω.mg) {Fq5 : Ct} (Cq5 : Cal Ω "_law_pen" 2 1 Fq5) {Fq10 : Ct} (Cq10 : Cal Ω "_law_take" 2 2 Fq10) {Fq7 : Ct} (Cq7 : Cal Ω "_law_program" 3 1 Fq7) {Fq4 : Ct} (Cq4 : Cal Ω "_law_number" 3 1 Fq4) {Fq6 : Ct} (Cq6 : Cal Ω "_law_plan" 4 2 Fq6) {Fq3 : Ct} (Cq3 : Cal Ω "_law_due" 2 8 Fq3) {Fq11 : Ct} (Cq11 : Cal Ω "_law_told" 10 8 Fq11) : Bl Ω :=
 Bl.cons (Sm.for (Tg.nm 6) (Itb.rng1 B.range_ (Ex.int 12)) (b_law_x1 B Cq5 Cq10 Cq7 Cq4 Cq6 Cq3 Cq11)) (b_law_6 B Cq5 Cq10 Cq7 Cq4 Cq6 Cq3 Cq11)
def b_law_4 (B : Bi Ω.mg) {Fq5 : Ct} (Cq5 : Cal Ω "_law_pen" 2 1 Fq5) {Fq10 : Ct} (Cq10 : Cal Ω "_law_take" 2 2 Fq10) {Fq7 : Ct} (Cq7 : Cal Ω "_law_program" 3 1 Fq7) {Fq4 : Ct} (Cq4 : Cal Ω "_law_number" 3 1 Fq4) {Fq6 : Ct} (Cq6 : Cal Ω "_law_plan" 4 2 Fq6) {Fq3 : Ct} (Cq3 : Cal Ω "_law_due" 2 8 Fq3) {Fq11 : Ct} (Cq11 : Cal Ω "_law_told" 10 8 Fq11) : Bl Ω :=
 Bl.cons (Sm.set 5 (Ex.own Ar.nil)) (b_law_5 B Cq5 Cq10 Cq7 Cq4 Cq6 Cq3 Cq11)
def b_law_3 (B : Bi Ω.mg) {Fq5 : Ct} (Cq5 : Cal Ω "_law_pen" 2 1 Fq5) {Fq10 : Ct} (Cq10 : Cal Ω "_law_take" 2 2 Fq10) {Fq7 : Ct} (Cq7 : Cal Ω "_law_program" 3 1 Fq7) {Fq4 : Ct} (Cq4 : Cal Ω "_law_number" 3 1 Fq4) {Fq6 : Ct} (Cq6 : Cal Ω "_law_plan" 4 2 Fq6) {Fq3 : Ct} (Cq3 : Cal Ω "_law_due" 2 8 Fq3) {Fq11 : Ct} (Cq11 : Cal Ω "_law_told" 10 8 Fq11) : Bl Ω :=
 Bl.cons (Sm.set 4 (Ex.blt bLen B.len_ (Ar.cons (Ex.ix (Ex.ix (Ex.var 3) (Ex.int 0)) (Ex.int 0)) Ar.nil))) (b_law_4 B Cq5 Cq10 Cq7 Cq4 Cq6 Cq3 Cq11)
def b_law_2 (B : Bi Ω.mg) {Fq5 : Ct} (Cq5 : Cal Ω "_law_pen" 2 1 Fq5) {Fq10 : Ct} (Cq10 : Cal Ω "_law_take" 2 2 Fq10) {Fq7 : Ct} (Cq7 : Cal Ω "_law_program" 3 1 Fq7) {Fq4 : Ct} (Cq4 : Cal Ω "_law_number" 3 1 Fq4) {Fq6 : Ct} (Cq6 : Cal Ω "_law_plan" 4 2 Fq6) {Fq3 : Ct} (Cq3 : Cal Ω "_law_due" 2 8 Fq3) {Fq11 : Ct} (Cq11 : Cal Ω "_law_told" 10 8 Fq11) : Bl Ω :=
 Bl.cons (Sm.set 3 (Ex.call Cq6 (Ar.cons (Ex.var 1) (Ar.cons (Ex.var 2) Ar.nil)))) (b_law_3 B Cq5 Cq10 Cq7 Cq4 Cq6 Cq3 Cq11)
def b_law_1 (B : Bi Ω.mg) {Fq5 : Ct} (Cq5 : Cal Ω "_law_pen" 2 1 Fq5) {Fq10 : Ct} (Cq10 : Cal Ω "_law_take" 2 2 Fq10) {Fq7 : Ct} (Cq7 : Cal Ω "_law_program" 3 1 Fq7) {Fq4 : Ct} (Cq4 : Cal Ω "_law_number" 3 1 Fq4) {Fq6 : Ct} (Cq6 : Cal Ω "_law_plan" 4 2 Fq6) {Fq3 : Ct} (Cq3 : Cal Ω "_law_due" 2 8 Fq3) {Fq11 : Ct} (Cq11 : Cal Ω "_law_told" 10 8 Fq11) : Bl Ω :=
 Bl.cons (Sm.set 2 (Ex.call Cq7 (Ar.cons (Ex.var 1) Ar.nil))) (b_law_2 B Cq5 Cq10 Cq7 Cq4 Cq6 Cq3 Cq11)
def b_law (B : Bi Ω.mg) {Fq5 : Ct} (Cq5 : Cal Ω "_law_pen" 2 1 Fq5) {Fq10 : Ct} (Cq10 : Cal Ω "_law_take" 2 2 Fq10) {Fq7 : Ct} (Cq7 : Cal Ω "_law_program" 3 1 Fq7) {Fq4 : Ct} (Cq4 : Cal Ω "_law_number" 3 1 Fq4) {Fq6 : Ct} (Cq6 : Cal Ω "_law_plan" 4 2 Fq6) {Fq3 : Ct} (Cq3 : Cal Ω "_law_due" 2 8 Fq3) {Fq11 : Ct} (Cq11 : Cal Ω "_law_told" 10 8 Fq11) : Bl Ω :=
 Bl.cons (Sm.set 1 (Ex.call Cq5 (Ar.cons (Ex.var 0) Ar.nil))) (b_law_1 B Cq5 Cq10 Cq7 Cq4 Cq6 Cq3 Cq11)
end
end K29
local macro_rules | `(tactic| walk_at "op") => `(tactic| first | with_reducible refine RF.cLt ?_ | with_reducible refine RF.cLe ?_ | with_reducible refine RF.cGt ?_ | with_reducible refine RF.cGe ?_ | with_reducible refine RF.cEqI ?_ | with_reducible refine RF.cNeI ?_ | with_reducible refine RF.cEqB ?_ | with_reducible refine RF.cNeB ?_ | with_reducible refine RF.cIsN ?_ | with_reducible refine RF.cIsB ?_ | with_reducible refine RF.cIsNotB ?_ | with_reducible refine RF.cIsNot ?_)
local macro_rules | `(tactic| walk_at "n") => `(tactic| ((conv => whnf); repeat (walk_at "op"; (conv => whnf))))
local macro_rules | `(tactic| walk_at "at") => `(tactic| first | (with_reducible assumption) | exact DL.set_get (by with_reducible assumption) | exact DL.set_get (DL.set_get (by with_reducible assumption)))
local macro_rules | `(tactic| walk_at "a1") => `(tactic| first
 | refine And.intro (a := L2.CMul _ _) (by first | exact .inl ⟨by omega, by omega⟩ | exact .inr ⟨by omega, by omega⟩ | exact .inr ⟨by decide, by decide⟩ | exact .inl ⟨by decide, by decide⟩) ?_
 | refine And.intro (a := L2.CPow _ _) ⟨by decide, by decide, by decide⟩ ?_
 | refine And.intro (a := 0 < _ ∧ _ < _) ⟨by omega, by omega⟩ ?_
 | refine And.intro (a := 0 < _) (by omega) ?_
 | ((fail_if_success (with_reducible show (_ ∧ ∃ _ : Nat → List DL.D → DL.Store → Prop, _))); refine And.intro (a := List.length _ ≤ 1000000) (by first | omega | decide | (simp; done) | (simp; omega)) ?_)
 | refine And.intro (a := List.length _ + List.length _ ≤ 1000000) (by first | omega | decide | (simp; done) | (simp; omega)) ?_
 | (refine' Exists.intro ?w1 (Exists.intro ?w2 (And.intro (a := GetElem?.getElem? _ _ = some _) ?h1 (And.intro (a := L2.ixN _ _ = some _) ?h2 ?h3))); (case h1 => walk_at "at"); (case h2 => exact rfl); (try rw [List.set_set]))
 | (refine' Exists.intro ?w1 (Exists.intro ?w2 (And.intro (a := GetElem?.getElem? _ _ = some _) ?h1 (And.intro (a := L2.atI _ _ = some _) ?h2 ?h3))); (case h1 => walk_at "at"); (case h2 => exact rfl))
 | (refine' Exists.intro ?w1 (And.intro (a := L2.atI _ _ = some _) ?h2 ?h3); (case h2 => exact rfl)))
local macro_rules | `(tactic| walk_at "a") => `(tactic| (walk_at "n"; repeat (walk_at "a1"; walk_at "n")))
local macro_rules | `(tactic| walk_at "b") => `(tactic| (walk_at "n"; repeat ((first | walk_at "a1" | refine RF.bT ?_ | refine RF.bF ?_ | refine RF.dT ?_ | refine RF.dF ?_); walk_at "n")))
namespace K29
open PySem L2 DL RF XE
def whole : D → Bool
 | .int _ => true
 | _ => false
def tupOf (x : D) (a b : Int) : Bool := match x with
 | .tup ds => decide (a ≤ (ds.length : Int)) && decide ((ds.length : Int) ≤ b)
 | _ => false
def isForm (x : D) (d : Int) : Bool := match x with
 | .tup ds => decide ((ds.length : Int) = d + 1) && ds.all whole
 | _ => false
def c_whole : Ct := fun ds S W => ∃ x, ds = [x] ∧ W (.bl (whole x)) S
def c_tup : Ct := fun ds S W => ∃ x a b, ds = [x, .int a, .int b] ∧ W (.bl (tupOf x a b)) S
def c_form : Ct := fun ds S W => ∃ x d, ds = [x, .int d] ∧ d ≤ 1000 ∧ W (.bl (isForm x d)) S
theorem all_whole (ds : List D) : (ds.map whole).all id = ds.all whole := by rw [List.all_map]; rfl
theorem pair_at {fs cs : List Int} {i : Nat} {d : D} (h : (List.zipWith (fun x y => D.tup [x, y]) (fs.map D.int) (cs.map D.int))[i]? = some d) : ∃ a b, fs[i]? = some a ∧ cs[i]? = some b ∧ d = .tup [.int a, .int b] := by
 rw [List.getElem?_zipWith, List.getElem?_map, List.getElem?_map] at h
 cases e1 : fs[i]? with
 | none => rw [e1] at h; cases h
 | some a =>
   cases e2 : cs[i]? with
   | none => rw [e1, e2] at h; cases h
   | some b => rw [e1, e2] at h; cases h; exact ⟨a, b, rfl, rfl, rfl⟩
theorem ok_p_is_whole {Ω : Wd} {f : Addr} {fd : FuncData} (F : Fun Ω.K "is_whole" "is_whole" s_p_is_whole f fd) (B : Bi Ω.mg) : Ok Ω 1 f fd P_p_is_whole c_whole := by
 refine fn_rf (N := N_p_is_whole) F (b_p_is_whole B) (by kernel_rfl!) ?_
 rintro ds S W ⟨x, rfl, hw⟩ hl
 walk_at "n"
 refine ⟨fun c => ?_, fun c => ?_⟩
 · walk_at "n"
   have e : (!isD .bool x) = whole x := by cases x <;> first | rfl | exact ff c | exact tf c
   rw [e]; exact hw
 · have e : whole x = false := by cases x <;> first | rfl | exact ff c | exact tf c
   rw [e] at hw; exact hw
theorem ok_p_is_tuple_of {Ω : Wd} {f : Addr} {fd : FuncData} (F : Fun Ω.K "is_tuple_of" "is_tuple_of" s_p_is_tuple_of f fd) (B : Bi Ω.mg) : Ok Ω 1 f fd P_p_is_tuple_of c_tup := by
 refine fn_rf (N := N_p_is_tuple_of) F (b_p_is_tuple_of B) (by kernel_rfl!) ?_
 rintro ds S W ⟨x, a, b, rfl, hw⟩ hl
 walk_at "n"
 cases x with
 | tup ds =>
   refine ⟨fun _ => ?_, fun c => tf c⟩
   walk_at "n"
   refine ⟨fun c1 => ?_, fun c1 => ?_⟩
   · have e : tupOf (.tup ds) a b = false := by show (decide _ && decide _) = false; rw [c1]; rfl
     rw [e] at hw; exact hw
   · walk_at "n"
     have e : tupOf (.tup ds) a b = decide ((ds.length : Int) ≤ b) := by show (decide _ && decide _) = _; rw [c1]; rfl
     rw [e] at hw; exact hw
 | _ => exact ⟨fun c => ff c, fun _ => hw⟩
theorem ok_p_is_form {Ω : Wd} {f : Addr} {fd : FuncData} (F : Fun Ω.K "is_form" "is_form" s_p_is_form f fd) (B : Bi Ω.mg) (Cq26 : Cal Ω "is_whole" 1 1 c_whole) (Cq25 : Cal Ω "is_tuple_of" 1 3 c_tup) : Ok Ω 2 f fd P_p_is_form c_form := by
 refine fn_rf (N := N_p_is_form) F (b_p_is_form B Cq26 Cq25) (by kernel_rfl!) ?_
 rintro ds S W ⟨x, d, rfl, hd, hw⟩ hl
 walk_at "n"
 refine ⟨rfl, _, _, _, rfl, ?_⟩
 refine ⟨fun c => ?_, fun c => ?_⟩
 · cases x with
   | tup ds =>
     have hlen : (ds.length : Int) = d + 1 := by
      have c' : (decide (d + 1 ≤ (ds.length : Int)) && decide ((ds.length : Int) ≤ d + 1)) = true := c
      rw [Bool.and_eq_true, decide_eq_true_eq, decide_eq_true_eq] at c'
      omega
     walk_at "n"
     refine comp_by ⟨by omega, fun i acc S' => acc = (ds.take i).map (fun d => .bl (whole d)) ∧ S' = S, ⟨rfl, rfl⟩, ?_, ?_⟩
     · rintro i e acc S' he ⟨rfl, rfl⟩
       walk_at "n"
       refine ⟨fun _ => ⟨rfl, _, rfl, ?_, rfl⟩, fun z => tf z⟩
       rw [take_one he, List.map_append]; rfl
     · rintro acc S' ⟨rfl, rfl⟩
       rw [List.take_length]
       refine ⟨ds.map whole, by rw [List.map_map]; rfl, ?_⟩
       have e2 : isForm (.tup ds) d = (ds.map whole).all id := by
        show (decide _ && _) = _
        rw [decide_eq_true hlen, all_whole]; rfl
       rw [e2] at hw; exact hw
   | _ => exact ff c
 · have e : isForm x d = false := by
    cases x with
    | tup ds =>
      have c' : (decide (d + 1 ≤ (ds.length : Int)) && decide ((ds.length : Int) ≤ d + 1)) = false := c
      show (decide _ && _) = false
      rw [Bool.and_eq_false_iff, decide_eq_false_iff_not, decide_eq_false_iff_not] at c'
      rw [decide_eq_false (by omega)]; rfl
    | _ => rfl
   rw [e] at hw; exact hw
end K29
namespace K29
open PySem L2 DL RF XE
theorem cEqStr {a b : Str} {S : Store} {W : Bool → Store → Prop} (w : W (a == b) S) : wpCmp .Eq (.str a) (.str b) S W := by unfold wpCmp; exact ⟨⟨rfl, rfl, by simp [vw, deep]⟩, w⟩
def parts : D → List D
 | .tup ds => ds
 | _ => []
def wordB (x : D) (w : Str) : Bool := match x with
 | .str y => y == w
 | _ => false
def sizeB : D → Bool
 | .int n => decide (1 ≤ n) && decide (n ≤ 99)
 | _ => false
def isLine (d : Int) (x : D) : Bool := match x with
 | .tup [a, f] => wordB a "form" && isForm f d
 | .tup [a, f, z] => wordB a "block" && (isForm f d && sizeB z)
 | _ => false
def isLines (d : Int) (x : D) : Bool := tupOf x 1 9 && (parts x).all (isLine d)
def isNP (d t : Int) (x : D) : Bool := tupOf x t t && (parts x).all (isLines d)
theorem tupOf_tup {x : D} {a b : Int} (h : tupOf x a b = true) : ∃ ds, x = .tup ds ∧ a ≤ (ds.length : Int) ∧ (ds.length : Int) ≤ b := by
 cases x with
 | tup ds =>
   obtain ⟨h1, h2⟩ := and2 h
   exact ⟨ds, rfl, of_decide_eq_true h1, of_decide_eq_true h2⟩
 | _ => exact ff h
theorem all_close {ds : List D} {p : D → Bool} {S : Store} {W : WD} (w : W (.bl (ds.all p)) S) : bAll.wp [.lst (ds.map fun d => .bl (p d))] S W :=
 ⟨ds.map p, by rw [List.map_map]; rfl, by rw [List.all_map]; exact w⟩
def c_word : Ct := fun ds S W => ∃ x w, ds = [x, .str w] ∧ W (.bl (wordB x w)) S
def c_size : Ct := fun ds S W => ∃ x, ds = [x] ∧ W (.bl (sizeB x)) S
def c_line : Ct := fun ds S W => ∃ x d, ds = [x, .int d] ∧ d ≤ 1000 ∧ W (.bl (isLine d x)) S
def c_lines : Ct := fun ds S W => ∃ x d, ds = [x, .int d] ∧ d ≤ 1000 ∧ W (.bl (isLines d x)) S
def c_np : Ct := fun ds S W => ∃ x ls es, ds = [x, .tup [.tup ls, .tup es]] ∧ ls.length ≤ 1000 ∧ es.length ≤ 1000 ∧ W (.bl (isNP (ls.length : Int) (es.length : Int) x)) S
theorem ok_p_is_word {Ω : Wd} {f : Addr} {fd : FuncData} (F : Fun Ω.K "is_word" "is_word" s_p_is_word f fd) (B : Bi Ω.mg) : Ok Ω 1 f fd P_p_is_word c_word := by
 refine fn_rf (N := N_p_is_word) F (b_p_is_word B) (by kernel_rfl!) ?_
 rintro ds S W ⟨x, w, rfl, hw⟩ hl
 walk_at "b"
 cases x with
 | str y =>
   refine ⟨fun _ => ?_, fun c => tf c⟩
   walk_at "n"
   exact cEqStr hw
 | _ => exact ⟨fun c => ff c, fun _ => hw⟩
theorem ok_p_is_size {Ω : Wd} {f : Addr} {fd : FuncData} (F : Fun Ω.K "is_size" "is_size" s_p_is_size f fd) (B : Bi Ω.mg) (Cq26 : Cal Ω "is_whole" 1 1 c_whole) : Ok Ω 2 f fd P_p_is_size c_size := by
 refine fn_rf (N := N_p_is_size) F (b_p_is_size B Cq26) (by kernel_rfl!) ?_
 rintro ds S W ⟨x, rfl, hw⟩ hl
 walk_at "b"
 refine ⟨rfl, x, rfl, ?_⟩
 cases x with
 | int n =>
   refine ⟨fun _ => ?_, fun c => tf c⟩
   walk_at "b"
   have e : sizeB (.int n) = (decide (1 ≤ n) && decide (n ≤ 99)) := rfl
   rw [e] at hw
   refine ⟨fun h => by rw [h] at hw; exact hw, fun h => ?_⟩
   rw [h] at hw
   walk_at "b"
   exact hw
 | _ => exact ⟨fun c => ff c, fun _ => hw⟩
theorem ok_p_is_line {Ω : Wd} {f : Addr} {fd : FuncData} (F : Fun Ω.K "is_line" "is_line" s_p_is_line f fd) (Cq25 : Cal Ω "is_tuple_of" 1 3 c_tup) (Cq19 : Cal Ω "is_form" 2 2 c_form) (Cq27 : Cal Ω "is_word" 1 2 c_word) (Cq24 : Cal Ω "is_size" 2 1 c_size) : Ok Ω 3 f fd P_p_is_line c_line := by
 refine fn_rf (N := N_p_is_line) F (b_p_is_line Cq25 Cq19 Cq27 Cq24) (by kernel_rfl!) ?_
 rintro ds S W ⟨x, d, rfl, hd, hw⟩ hl
 walk_at "b"
 refine ⟨rfl, _, _, _, rfl, ?_⟩
 cases h2 : tupOf x 2 2 with
 | true =>
   obtain ⟨ds, rfl, l1, l2⟩ := tupOf_tup h2
   match ds, l1, l2, hw with
   | [a, f], _, _, hw =>
     have e : isLine d (.tup [a, f]) = (wordB a "form" && isForm f d) := rfl
     rw [e] at hw
     walk_at "b"
     refine ⟨rfl, _, _, rfl, ?_⟩
     refine ⟨fun h => ?_, fun h => by rw [h] at hw; exact hw⟩
     rw [h] at hw
     walk_at "b"
     exact ⟨rfl, _, _, rfl, hd, hw⟩
   | [], l1, _, _ => simp at l1
   | [_], l1, _, _ => simp at l1
   | _ :: _ :: _ :: es, _, l2, _ => simp at l2; omega
 | false =>
   walk_at "b"
   refine ⟨rfl, _, _, _, rfl, ?_⟩
   cases h3 : tupOf x 3 3 with
   | true =>
     obtain ⟨ds, rfl, l1, l2⟩ := tupOf_tup h3
     match ds, l1, l2, hw with
     | [a, f, z], _, _, hw =>
       have e : isLine d (.tup [a, f, z]) = (wordB a "block" && (isForm f d && sizeB z)) := rfl
       rw [e] at hw
       walk_at "b"
       refine ⟨rfl, _, _, rfl, ?_⟩
       refine ⟨fun h => ?_, fun h => by rw [h] at hw; exact hw⟩
       rw [h] at hw
       walk_at "b"
       refine ⟨rfl, _, _, rfl, hd, ?_⟩
       refine ⟨fun h => ?_, fun h => by rw [h] at hw; exact hw⟩
       rw [h] at hw
       walk_at "b"
       exact ⟨rfl, _, rfl, hw⟩
     | [], l1, _, _ => simp at l1
     | [_], l1, _, _ => simp at l1
     | [_, _], l1, _, _ => simp at l1
     | _ :: _ :: _ :: _ :: es, _, l2, _ => simp at l2; omega
   | false =>
     have e : isLine d x = false := by
      cases x with
      | tup ds =>
        match ds, h2, h3 with
        | [], _, _ => rfl
        | [_], _, _ => rfl
        | [_, _], h2, _ => exact tf h2
        | [_, _, _], _, h3 => exact tf h3
        | _ :: _ :: _ :: _ :: _, _, _ => rfl
      | _ => rfl
     rw [e] at hw
     walk_at "b"
     exact hw
theorem ok_p_is_lines {Ω : Wd} {f : Addr} {fd : FuncData} (F : Fun Ω.K "is_lines" "is_lines" s_p_is_lines f fd) (B : Bi Ω.mg) (Cq25 : Cal Ω "is_tuple_of" 1 3 c_tup) (Cq20 : Cal Ω "is_line" 3 2 c_line) : Ok Ω 4 f fd P_p_is_lines c_lines := by
 refine fn_rf (N := N_p_is_lines) F (b_p_is_lines B Cq25 Cq20) (by kernel_rfl!) ?_
 rintro ds S W ⟨x, d, rfl, hd, hw⟩ hl
 walk_at "b"
 refine ⟨rfl, _, _, _, rfl, ?_⟩
 unfold isLines at hw
 refine ⟨fun h => ?_, fun h => by rw [h] at hw; exact hw⟩
 rw [h] at hw
 obtain ⟨ds, rfl, l1, l2⟩ := tupOf_tup h
 walk_at "b"
 refine cm_map (fun x => .bl (isLine d x)) (by omega) ?_ (all_close hw)
 intro i e he Q hq
 walk_at "b"
 exact ⟨rfl, _, _, rfl, hd, hq⟩
theorem ok_p_is_nest_plan {Ω : Wd} {f : Addr} {fd : FuncData} (F : Fun Ω.K "is_nest_plan" "is_nest_plan" s_p_is_nest_plan f fd) (B : Bi Ω.mg) (Cq25 : Cal Ω "is_tuple_of" 1 3 c_tup) (Cq21 : Cal Ω "is_lines" 4 2 c_lines) : Ok Ω 5 f fd P_p_is_nest_plan c_np := by
 refine fn_rf (N := N_p_is_nest_plan) F (b_p_is_nest_plan B Cq25 Cq21) (by kernel_rfl!) ?_
 rintro ds S W ⟨x, ls, es, rfl, hl1, hl2, hw⟩ hl
 walk_at "b"
 refine ⟨rfl, _, _, _, rfl, ?_⟩
 unfold isNP at hw
 refine ⟨fun h => ?_, fun h => by rw [h] at hw; exact hw⟩
 rw [h] at hw
 obtain ⟨ds, rfl, l1, l2⟩ := tupOf_tup h
 walk_at "b"
 refine cm_map (fun x => .bl (isLines (ls.length : Int) x)) (by omega) ?_ (all_close hw)
 intro i e he Q hq
 walk_at "b"
 exact ⟨rfl, _, _, rfl, by omega, hq⟩
end K29
namespace K29
open PySem L2 DL RF XE
inductive Ln where
 | fm (f : List Int) | bk (f : List Int) (z : Int)
def dN (f : List Int) : D := .tup (f.map .int)
def dLn : Ln → D
 | .fm f => .tup [.str "form", dN f]
 | .bk f z => .tup [.str "block", dN f, .int z]
def dLs (ls : List Ln) : D := .tup (ls.map dLn)
def dDs (ds : List (List Ln)) : D := .tup (ds.map dLs)
abbrev Pn := List (List (List Ln))
def dPn (p : Pn) : D := .tup (p.map dDs)
abbrev Nd := List D × List D
def dNd (n : Nd) : D := .tup [.tup n.1, .tup n.2]
def dPr (w : D) (nss : List Nd) : D := .tup [w, .tup (nss.map dNd)]
def LnOk (d : Nat) : Ln → Prop
 | .fm f => f.length = d + 1
 | .bk f z => f.length = d + 1 ∧ 1 ≤ z ∧ z ≤ 99
def LsOk (d m : Nat) (ls : List Ln) : Prop := ls.length = m ∧ ∀ l ∈ ls, LnOk d l
def Nds (nss : List Nd) : Prop := 1 ≤ nss.length ∧ nss.length ≤ 3 ∧ ∀ n ∈ nss, n.1.length ≤ 3 ∧ 1 ≤ n.2.length ∧ n.2.length ≤ 4
def DsOk (n : Nd) (m : Nat) (ds : List (List Ln)) : Prop := ds.length = n.2.length ∧ ∀ ls ∈ ds, LsOk n.1.length m ls
def PnOk (nss : List Nd) (m : Nat) (p : Pn) : Prop := p.length = nss.length ∧ (1 ≤ m ∧ m ≤ 9) ∧ ∀ (i : Nat) (n : Nd) (ds : List (List Ln)), nss[i]? = some n → p[i]? = some ds → DsOk n m ds
theorem allB {α : Type} {f : α → D} {q : D → Bool} {l : List α} (h : ∀ a ∈ l, q (f a) = true) : (l.map f).all q = true := by
 rw [List.all_eq_true]
 intro x hx
 obtain ⟨a, ha, rfl⟩ := List.mem_map.mp hx
 exact h a ha
theorem tupB {α : Type} {f : α → D} {l : List α} {a b : Int} (h1 : a ≤ (l.length : Int)) (h2 : (l.length : Int) ≤ b) : tupOf (.tup (l.map f)) a b = true := by
 show (decide _ && decide _) = true
 rw [List.length_map, decide_eq_true h1, decide_eq_true h2]; rfl
theorem formB {f : List Int} {d : Nat} (h : f.length = d + 1) : isForm (dN f) (d : Int) = true := by
 show (decide _ && (f.map D.int).all whole) = true
 rw [decide_eq_true (by rw [List.length_map]; omega), allB fun _ _ => rfl]; rfl
theorem lineB {d : Nat} {l : Ln} (h : LnOk d l) : isLine (d : Int) (dLn l) = true := by
 cases l with
 | fm f => show (true && isForm (dN f) d) = true; rw [formB h]; rfl
 | bk f z =>
   show (true && (isForm (dN f) d && (decide _ && decide _))) = true
   rw [formB h.1, decide_eq_true h.2.1, decide_eq_true h.2.2]; rfl
theorem linesB {d m : Nat} {ls : List Ln} (h : LsOk d m ls) (h1 : 1 ≤ m) (h9 : m ≤ 9) : isLines (d : Int) (dLs ls) = true := by
 show (tupOf (.tup (ls.map dLn)) 1 9 && (ls.map dLn).all (isLine d)) = true
 rw [tupB (by have := h.1; omega) (by have := h.1; omega), allB fun l hl => lineB (h.2 l hl)]; rfl
theorem npB {n : Nd} {m : Nat} {ds : List (List Ln)} (h : DsOk n m ds) (h1 : 1 ≤ m) (h9 : m ≤ 9) : isNP (n.1.length : Int) (n.2.length : Int) (dDs ds) = true := by
 show (tupOf (.tup (ds.map dLs)) n.2.length n.2.length && (ds.map dLs).all (isLines n.1.length)) = true
 rw [tupB (by have := h.1; omega) (by have := h.1; omega), allB fun l hl => linesB (h.2 l hl) h1 h9]; rfl
def numsL (gp : List (List (List D))) : List Int := gp.flatMap fun ds => ds.map fun ls => (ls.length : Int)
def gD (gp : List (List (List D))) : D := .tup (gp.map fun ds => .tup (ds.map .tup))
theorem nolocs_nm (ns : List Int) : nolocs (ns.map D.int) = true := by
 induction ns with
 | nil => rfl
 | cons y ys ih => simp only [List.map_cons, nolocs, ih, Bool.and_true]; rfl
def c_nums : Ct := fun ds S W => ∃ gp, ds = [gD gp] ∧ gp.length ≤ 1000 ∧ (∀ ds ∈ gp, ds.length ≤ 1000) ∧ flat S ∧ hand W ((numsL gp).map .int) S
theorem ok_p_numbers_of_lines {Ω : Wd} {f : Addr} {fd : FuncData} (F : Fun Ω.K "numbers_of_lines" "numbers_of_lines" s_p_numbers_of_lines f fd) (B : Bi Ω.mg) : Ok Ω 1 f fd P_p_numbers_of_lines c_nums := by
 refine fn_rf (N := N_p_numbers_of_lines) F (Bl.frz (b_p_numbers_of_lines B)) (by kernel_rfl!) ?_
 rintro ds S W ⟨gp, rfl, h1, h2, hS, hw⟩ hl
 have hlen : ∀ i, i ≤ gp.length → (numsL (gp.take i)).length ≤ i * 1000 := by
  intro i
  induction i with
  | zero => intro _; simp [numsL]
  | succ i ih =>
    intro hi
    have eg := List.getElem?_eq_getElem (l := gp) (i := i) (by omega)
    have := h2 _ (List.getElem_mem (l := gp) (n := i) (by omega))
    have e : numsL (gp.take (i + 1)) = numsL (gp.take i) ++ gp[i].map fun ls => (ls.length : Int) := by unfold numsL; rw [take_one eg, List.flatMap_append]; simp
    rw [e, List.length_append, List.length_map]
    have := ih (by omega)
    omega
 walk_at "b"
 refine for_by ⟨fun i Γ' T => (∃ o2, Γ' = [some (gD gp), some (.loc S.length), o2]) ∧ T = S ++ [(numsL (gp.take i)).map .int], ⟨⟨_, rfl⟩, rfl⟩, ?_, ?_⟩
 · rintro i e Γ' T he ⟨⟨o2, rfl⟩, rfl⟩
   obtain ⟨ds, hd, rfl⟩ := map_get he
   have hi := (List.getElem?_eq_some_iff.mp hd).1
   have l1 := hlen i (by omega)
   have l2 := h2 ds (List.mem_of_getElem? hd)
   walk_at "b"
   refine cm_enc (fun ls => .int (ls.length : Int)) (by omega) ?_ ?_
   · intro j ls hj Q hq
     walk_at "b"
     exact hq
   refine ⟨_, _, last_get _ _, rfl, by rw [List.length_map, List.length_map]; omega, ?_⟩
   refine ⟨⟨_, rfl⟩, ?_⟩
   rw [last_set]
   have e : numsL (gp.take (i + 1)) = numsL (gp.take i) ++ ds.map fun ls => (ls.length : Int) := by unfold numsL; rw [take_one hd, List.flatMap_append]; simp
   rw [e, List.map_append, List.map_map]; rfl
 · rintro Γ' T ⟨⟨o2, rfl⟩, rfl⟩
   rw [List.length_map, List.take_length]
   exact hand_ret hw (nolocs_nm _) hS
theorem gD_of (p : Pn) : dPn p = gD (p.map fun ds => ds.map fun ls => ls.map dLn) := by
 show D.tup (p.map dDs) = D.tup ((p.map fun ds => ds.map fun ls => ls.map dLn).map fun ds => D.tup (ds.map D.tup))
 rw [List.map_map]
 congr 1
 apply List.map_congr_left
 intro ds _
 show D.tup (ds.map dLs) = D.tup ((ds.map fun ls => ls.map dLn).map D.tup)
 rw [List.map_map]; rfl
theorem same_all {c : Int} : ∀ {ns : List Int}, (∀ n ∈ ns, n = c) → ns = List.replicate ns.length c
 | [], _ => rfl
 | n :: ns, h => by rw [List.length_cons, List.replicate_succ, ← same_all fun m hm => h m (List.mem_cons_of_mem _ hm), h n List.mem_cons_self]
theorem PnOk.nums {nss : List Nd} {m : Nat} {p : Pn} (hn : Nds nss) (h : PnOk nss m p) : unl (numsL (p.map fun ds => ds.map fun ls => ls.map dLn)) = 1 ∧ (numsL (p.map fun ds => ds.map fun ls => ls.map dLn)).length ≤ 12 ∧ p.length ≤ 3 ∧ ∀ ds ∈ p, 1 ≤ ds.length ∧ ds.length ≤ 4 ∧ ∀ ls ∈ ds, ls.length = m := by
 obtain ⟨h1, h2, h3⟩ := h
 obtain ⟨n1, n2, n3⟩ := hn
 have hd : ∀ ds ∈ p, 1 ≤ ds.length ∧ ds.length ≤ 4 ∧ ∀ ls ∈ ds, ls.length = m := fun ds hds => by
  obtain ⟨i, hi⟩ := List.getElem?_of_mem hds
  have hl := (List.getElem?_eq_some_iff.mp hi).1
  have eg := List.getElem?_eq_getElem (l := nss) (i := i) (by omega)
  obtain ⟨a, b⟩ := h3 i _ ds eg hi
  have := n3 _ (List.getElem_mem (l := nss) (n := i) (by omega))
  exact ⟨by omega, by omega, fun ls hls => (b ls hls).1⟩
 have key : ∀ q : Pn, (∀ ds ∈ q, 1 ≤ ds.length ∧ ds.length ≤ 4 ∧ ∀ ls ∈ ds, ls.length = m) → (∀ x ∈ numsL (q.map fun ds => ds.map fun ls => ls.map dLn), x = (m : Int)) ∧ q.length ≤ (numsL (q.map fun ds => ds.map fun ls => ls.map dLn)).length ∧ (numsL (q.map fun ds => ds.map fun ls => ls.map dLn)).length ≤ 4 * q.length := by
  intro q
  induction q with
  | nil => intro _; exact ⟨fun x hx => (by cases hx), Nat.le_refl _, Nat.le_refl _⟩
  | cons ds q ih =>
    intro hq
    obtain ⟨a, b, c⟩ := hq ds List.mem_cons_self
    obtain ⟨i1, i2, i3⟩ := ih fun x hx => hq x (List.mem_cons_of_mem _ hx)
    have e : numsL ((ds :: q).map fun ds => ds.map fun ls => ls.map dLn) = (ds.map fun ls => ((ls.map dLn).length : Int)) ++ numsL (q.map fun ds => ds.map fun ls => ls.map dLn) := by
     unfold numsL
     rw [List.map_cons, List.flatMap_cons, List.map_map]; rfl
    rw [e, List.length_append, List.length_map, List.length_cons]
    refine ⟨fun x hx => ?_, by omega, by omega⟩
    rcases List.mem_append.mp hx with hx | hx
    · obtain ⟨ls, hls, rfl⟩ := List.mem_map.mp hx
      rw [List.length_map, c ls hls]
    · exact i1 x hx
 obtain ⟨k1, k2, k3⟩ := key p hd
 refine ⟨?_, by omega, by omega, hd⟩
 have e := same_all k1
 obtain ⟨j, hj⟩ : ∃ j, (numsL (p.map fun ds => ds.map fun ls => ls.map dLn)).length = j + 1 := ⟨(numsL (p.map fun ds => ds.map fun ls => ls.map dLn)).length - 1, by omega⟩
 rw [hj] at e
 rw [e]
 exact unl_same j
end K29
namespace K29
open PySem L2 DL RF XE
def npZ (d : D) : Bool := match d with
 | .tup [y, .tup [.tup ls, .tup es]] => isNP (ls.length : Int) (es.length : Int) y
 | _ => false
def gOf (x : D) : List (List (List D)) := (parts x).map fun y => (parts y).map parts
def zipP (nss : List Nd) (x : D) : List D := List.zipWith (fun x y => D.tup [x, y]) (parts x) (nss.map dNd)
def isPlanB (nss : List Nd) (x : D) : Bool := tupOf x (nss.length : Int) (nss.length : Int) && ((zipP nss x).all npZ && decide ((unl (numsL (gOf x)) : Int) = 1))
theorem encM {α : Type} {f : α → D} {P : α → Prop} : ∀ {ys : List D}, (∀ y ∈ ys, ∃ a, y = f a ∧ P a) → ∃ as : List α, ys = as.map f ∧ ∀ a ∈ as, P a
 | [], _ => ⟨[], rfl, fun a h => nomatch h⟩
 | y :: ys, h => by
   obtain ⟨a, rfl, pa⟩ := h y List.mem_cons_self
   obtain ⟨as, rfl, ps⟩ := encM fun z hz => h z (List.mem_cons_of_mem _ hz)
   refine ⟨a :: as, rfl, fun b hb => ?_⟩
   rcases List.mem_cons.mp hb with rfl | hb
   · exact pa
   · exact ps b hb
theorem form_of {x : D} {d : Nat} (h : isForm x (d : Int) = true) : ∃ f, x = dN f ∧ f.length = d + 1 := by
 cases x with
 | tup ds =>
   obtain ⟨h1, h2⟩ := and2 h
   have h1 := of_decide_eq_true h1
   obtain ⟨f, rfl, _⟩ := encM (f := D.int) (P := fun _ => True) (ys := ds) fun y hy => by
    have := List.all_eq_true.mp h2 y hy
    cases y with
    | int n => exact ⟨n, rfl, trivial⟩
    | _ => exact ff this
   exact ⟨f, rfl, by rw [List.length_map] at h1; omega⟩
 | _ => exact ff h
theorem word_of {x : D} {w : Str} (h : wordB x w = true) : x = .str w := by
 cases x with
 | str y => exact congrArg D.str (eq_of_beq h)
 | _ => exact ff h
theorem line_of {x : D} {d : Nat} (h : isLine (d : Int) x = true) : ∃ l, x = dLn l ∧ LnOk d l := by
 cases x with
 | tup ds =>
   match ds, h with
   | [a, f], h =>
     obtain ⟨h1, h2⟩ := and2 (show (wordB a "form" && isForm f d) = true from h)
     obtain ⟨f, rfl, hf⟩ := form_of h2
     rw [word_of h1]
     exact ⟨.fm f, rfl, hf⟩
   | [a, f, z], h =>
     obtain ⟨h1, h2⟩ := and2 (show (wordB a "block" && (isForm f d && sizeB z)) = true from h)
     obtain ⟨h2, h3⟩ := and2 h2
     obtain ⟨f, rfl, hf⟩ := form_of h2
     rw [word_of h1]
     cases z with
     | int z =>
       obtain ⟨h4, h5⟩ := and2 h3
       exact ⟨.bk f z, rfl, hf, of_decide_eq_true h4, of_decide_eq_true h5⟩
     | _ => exact ff h3
   | [], h => exact ff h
   | [_], h => exact ff h
   | _ :: _ :: _ :: _ :: _, h => exact ff h
 | _ => exact ff h
theorem lines_of {x : D} {d : Nat} (h : isLines (d : Int) x = true) : ∃ ls, x = dLs ls ∧ (1 ≤ ls.length ∧ ls.length ≤ 9) ∧ ∀ l ∈ ls, LnOk d l := by
 obtain ⟨h1, h2⟩ := and2 h
 obtain ⟨ds, rfl, l1, l2⟩ := tupOf_tup h1
 obtain ⟨ls, rfl, hl⟩ := encM (ys := ds) fun y hy => line_of (List.all_eq_true.mp h2 y hy)
 rw [List.length_map] at l1 l2
 exact ⟨ls, rfl, ⟨by omega, by omega⟩, hl⟩
theorem np_of {x : D} {d t : Nat} (h : isNP (d : Int) (t : Int) x = true) : ∃ es, x = dDs es ∧ es.length = t ∧ ∀ ls ∈ es, (1 ≤ ls.length ∧ ls.length ≤ 9) ∧ ∀ l ∈ ls, LnOk d l := by
 obtain ⟨h1, h2⟩ := and2 h
 obtain ⟨ds, rfl, l1, l2⟩ := tupOf_tup h1
 obtain ⟨ls, rfl, hl⟩ := encM (ys := ds) fun y hy => lines_of (List.all_eq_true.mp h2 y hy)
 rw [List.length_map] at l1 l2
 exact ⟨ls, rfl, by omega, hl⟩
theorem nps_of : ∀ {nss : List Nd} {xs : List D}, xs.length = nss.length → (List.zipWith (fun x y => D.tup [x, y]) xs (nss.map dNd)).all npZ = true →
 ∃ p : Pn, xs = p.map dDs ∧ ∀ (i : Nat) (n : Nd) (es : List (List Ln)), nss[i]? = some n → p[i]? = some es → es.length = n.2.length ∧ ∀ ls ∈ es, (1 ≤ ls.length ∧ ls.length ≤ 9) ∧ ∀ l ∈ ls, LnOk n.1.length l
 | [], [], _, _ => ⟨[], rfl, fun i n es h _ => by simp at h⟩
 | [], _ :: _, hl, _ => by simp at hl
 | _ :: _, [], hl, _ => by simp at hl
 | n :: nss, x :: xs, hl, h => by
   obtain ⟨h1, h2⟩ := and2 (show (isNP (n.1.length : Int) (n.2.length : Int) x && (List.zipWith (fun x y => D.tup [x, y]) xs (nss.map dNd)).all npZ) = true from h)
   obtain ⟨es, rfl, e1, e2⟩ := np_of h1
   obtain ⟨p, rfl, hp⟩ := nps_of (by simpa using hl) h2
   refine ⟨es :: p, rfl, fun i m fs hm hf => ?_⟩
   cases i with
   | zero => simp at hm hf; subst hm hf; exact ⟨e1, e2⟩
   | succ i => simp at hm hf; exact hp i m fs hm hf
theorem unl_one {ns : List Int} (h : unl ns = 1) : ∃ c, ∀ n ∈ ns, n = c := by
 unfold unl at h
 obtain ⟨c, hc⟩ := List.length_eq_one_iff.mp h
 refine ⟨c, fun n hn => ?_⟩
 obtain ⟨i, hi⟩ := List.getElem?_of_mem hn
 have hl := (List.getElem?_eq_some_iff.mp hi).1
 have e := PyProof.Rows.firstMet_any (fun i => ns.getD i 0) ns.length n
 rw [hc] at e
 have : ((List.range ns.length).map fun i => ns.getD i 0).any (· == n) = true := by
  rw [List.any_eq_true]
  exact ⟨n, List.mem_map.mpr ⟨i, List.mem_range.mpr hl, by simp [List.getD, hi]⟩, by simp⟩
 rw [this] at e
 exact (by simpa using e.symm : c = n).symm
theorem gOf_dPn (p : Pn) : gOf (dPn p) = p.map fun ds => ds.map fun ls => ls.map dLn := by
 show (p.map dDs).map _ = _
 rw [List.map_map]
 apply List.map_congr_left
 intro ds _
 show (ds.map dLs).map parts = _
 rw [List.map_map]
 apply List.map_congr_left
 intro ls _
 rfl
theorem plan_of {nss : List Nd} {x : D} (hn : Nds nss) (h : isPlanB nss x = true) : ∃ m p, x = dPn p ∧ PnOk nss m p := by
 obtain ⟨h1, h2⟩ := and2 h
 obtain ⟨h2, h3⟩ := and2 h2
 obtain ⟨xs, rfl, l1, l2⟩ := tupOf_tup h1
 have hl : xs.length = nss.length := by omega
 obtain ⟨p, rfl, hp⟩ := nps_of hl h2
 have h3 := of_decide_eq_true h3
 have eg := gOf_dPn p
 rw [show D.tup (p.map dDs) = dPn p from rfl, eg] at h3
 obtain ⟨c, hc⟩ := unl_one (ns := numsL (p.map fun ds => ds.map fun ls => ls.map dLn)) (by omega)
 rw [List.length_map] at hl
 have hlen : ∀ ds ∈ p, ∀ ls ∈ ds, (ls.length : Int) = c := fun ds hds ls hls => by
  refine hc _ ?_
  unfold numsL
  rw [List.mem_flatMap]
  exact ⟨_, List.mem_map.mpr ⟨ds, hds, rfl⟩, List.mem_map.mpr ⟨ls.map dLn, List.mem_map.mpr ⟨ls, hls, rfl⟩, by rw [List.length_map]⟩⟩
 have n1 := hn.1
 have g0 := List.getElem?_eq_getElem (l := nss) (i := 0) (by omega)
 have p0 := List.getElem?_eq_getElem (l := p) (i := 0) (by omega)
 obtain ⟨q1, q2⟩ := hp 0 _ _ g0 p0
 have d1 := (hn.2.2 _ (List.getElem_mem (l := nss) (n := 0) (by omega))).2.1
 have hm := List.getElem_mem (l := p[0]'(by omega)) (n := 0) (by omega)
 have b := (q2 _ hm).1
 have cm := hlen _ (List.getElem_mem (l := p) (n := 0) (by omega)) _ hm
 refine ⟨c.toNat, p, rfl, hl, ⟨by omega, by omega⟩, fun i n es hi he => ?_⟩
 obtain ⟨r1, r2⟩ := hp i n es hi he
 refine ⟨r1, fun ls hls => ⟨?_, (r2 ls hls).2⟩⟩
 have := hlen es (List.mem_of_getElem? he) ls hls
 omega
theorem plan_is {nss : List Nd} {m : Nat} {p : Pn} (hn : Nds nss) (hp : PnOk nss m p) : isPlanB nss (dPn p) = true := by
 obtain ⟨h1, _, _, _⟩ := hp.nums hn
 have e1 : tupOf (dPn p) (nss.length : Int) (nss.length : Int) = true := tupB (by have := hp.1; omega) (by have := hp.1; omega)
 have e2 : (zipP nss (dPn p)).all npZ = true := by
  rw [List.all_eq_true]
  intro d hd
  obtain ⟨i, hi⟩ := List.getElem?_of_mem hd
  unfold zipP at hi
  rw [List.getElem?_zipWith, List.getElem?_map, show (parts (dPn p)) = p.map dDs from rfl, List.getElem?_map] at hi
  cases g1 : p[i]? with
  | none => rw [g1] at hi; cases hi
  | some ds =>
    cases g2 : nss[i]? with
    | none => rw [g1, g2] at hi; cases hi
    | some n =>
      rw [g1, g2] at hi
      cases hi
      exact npB (hp.2.2 i n ds g2 g1) hp.2.1.1 hp.2.1.2
 unfold isPlanB
 rw [e1, e2, gOf_dPn, h1]; rfl
def c_isplanG : Ct := fun ds S W => ∃ w nss x, ds = [dPr w nss, x] ∧ Nds nss ∧ flat S ∧ W (.bl (isPlanB nss x)) S
theorem ok_p_is_plan {Ω : Wd} {f : Addr} {fd : FuncData} (F : Fun Ω.K "is_plan" "is_plan" s_p_is_plan f fd) (B : Bi Ω.mg) (Cq25 : Cal Ω "is_tuple_of" 1 3 c_tup) (Cq22 : Cal Ω "is_nest_plan" 5 2 c_np) (Cq33 : Cal Ω "numbers_of_lines" 1 1 c_nums) : Ok Ω 6 f fd P_p_is_plan c_isplanG := by
 refine fn_rf (N := N_p_is_plan) F (b_p_is_plan B Cq25 Cq22 Cq33) (by kernel_rfl!) ?_
 rintro ds S W ⟨w, nss, x, rfl, hn, hS, hw⟩ hl
 have n3 := hn.2.1
 walk_at "b"
 refine ⟨rfl, _, _, _, rfl, ?_⟩
 rw [List.length_map]
 cases h1 : tupOf x (nss.length : Int) (nss.length : Int) with
 | false =>
   have e : isPlanB nss x = false := by unfold isPlanB; rw [h1]; rfl
   rw [e] at hw
   walk_at "b"
   exact hw
 | true =>
   obtain ⟨xs, rfl, l1, l2⟩ := tupOf_tup h1
   walk_at "b"
   refine cm_map (fun d => .bl (npZ d)) (by rw [List.length_zipWith, List.length_map]; omega) ?_ ?_
   · intro i d hd Q hq
     rw [List.getElem?_zipWith, List.getElem?_map] at hd
     cases g1 : xs[i]? with
     | none => rw [g1] at hd; cases hd
     | some y =>
       cases g2 : nss[i]? with
       | none => rw [g1, g2] at hd; cases hd
       | some n =>
         rw [g1, g2] at hd
         cases hd
         have hnn := hn.2.2 n (List.mem_of_getElem? g2)
         walk_at "b"
         refine ⟨rfl, ?_⟩
         walk_at "b"
         exact ⟨rfl, _, n.1, n.2, rfl, by omega, by omega, hq⟩
   refine ⟨(List.zipWith (fun x y => D.tup [x, y]) xs (nss.map dNd)).map npZ, by rw [List.map_map]; rfl, ?_⟩
   rw [show ((List.zipWith (fun x y => D.tup [x, y]) xs (nss.map dNd)).map npZ).all id = (List.zipWith (fun x y => D.tup [x, y]) xs (nss.map dNd)).all npZ from by rw [List.all_map]; rfl]
   cases h2 : (List.zipWith (fun x y => D.tup [x, y]) xs (nss.map dNd)).all npZ with
   | false =>
     have e : isPlanB nss (.tup xs) = false := by
      unfold isPlanB
      rw [show zipP nss (.tup xs) = List.zipWith (fun x y => D.tup [x, y]) xs (nss.map dNd) from rfl, h2, Bool.false_and, Bool.and_false]
     rw [e] at hw
     walk_at "b"
     exact hw
   | true =>
     obtain ⟨p, rfl, hp⟩ := nps_of (by omega) h2
     have e : isPlanB nss (.tup (p.map dDs)) = decide ((unl (numsL (p.map fun ds => ds.map fun ls => ls.map dLn)) : Int) = 1) := by
      unfold isPlanB
      rw [show zipP nss (.tup (p.map dDs)) = List.zipWith (fun x y => D.tup [x, y]) (p.map dDs) (nss.map dNd) from rfl, h2, h1, show D.tup (p.map dDs) = dPn p from rfl, gOf_dPn]; rfl
     rw [e] at hw
     rw [List.length_map] at l1 l2
     have hz : ∀ ds ∈ p, ds.length ≤ 4 := fun ds hd => by
      obtain ⟨i, hi⟩ := List.getElem?_of_mem hd
      have hil := (List.getElem?_eq_some_iff.mp hi).1
      have gi := List.getElem?_eq_getElem (l := nss) (i := i) (by omega)
      have := (hp i _ _ gi hi).1
      have := (hn.2.2 _ (List.getElem_mem (l := nss) (n := i) (by omega))).2.2
      omega
     have hnl : (numsL (p.map fun ds => ds.map fun ls => ls.map dLn)).length ≤ 4 * p.length := by
      clear hw e h2 h1 l1 l2 hp hl
      induction p with
      | nil => exact Nat.le_refl _
      | cons ds q ih =>
        have := ih fun x hx => hz x (List.mem_cons_of_mem _ hx)
        have := hz ds List.mem_cons_self
        have e : numsL ((ds :: q).map fun ds => ds.map fun ls => ls.map dLn) = (ds.map fun ls => ((ls.map dLn).length : Int)) ++ numsL (q.map fun ds => ds.map fun ls => ls.map dLn) := by
         unfold numsL
         rw [List.map_cons, List.flatMap_cons, List.map_map]; rfl
        rw [e, List.length_append, List.length_map, List.length_cons]
        omega
     walk_at "b"
     refine ⟨rfl, _, by rw [← gD_of]; rfl, by rw [List.length_map]; omega, fun ds hd => ?_, hS, .inl ?_⟩
     · obtain ⟨es, he, rfl⟩ := List.mem_map.mp hd
       rw [List.length_map]
       have := hz es he
       omega
     · refine ⟨_, rfl, by unfold scanBound; omega, ?_⟩
       walk_at "b"
       exact hw
end K29
namespace K29
open PySem L2 DL RF XE
theorem nolM {α : Type} {f : α → D} (h : ∀ a, noloc (f a) = true) : ∀ l : List α, nolocs (l.map f) = true
 | [] => rfl
 | a :: l => by simp only [List.map_cons, nolocs, h, nolM h l, Bool.and_true]
theorem noloc_dLn (l : Ln) : noloc (dLn l) = true := by
 cases l with
 | fm f =>
   have e : noloc (dN f) = true := nolocs_nm f
   show nolocs [D.str "form", dN f] = true
   simp only [nolocs, e, Bool.and_true]; rfl
 | bk f z =>
   have e : noloc (dN f) = true := nolocs_nm f
   show nolocs [D.str "block", dN f, D.int z] = true
   simp only [nolocs, e, Bool.and_true]; rfl
theorem noloc_dLs (ls : List Ln) : noloc (dLs ls) = true := nolM noloc_dLn ls
theorem noloc_dDs (ds : List (List Ln)) : noloc (dDs ds) = true := nolM noloc_dLs ds
theorem noloc_dPn (p : Pn) : noloc (dPn p) = true := nolM noloc_dDs p
def exL (a b : Nat) (ls : List Ln) : List Ln := match ls[a]?, ls[b]? with
 | some x, some y => (ls.set a y).set b x
 | _, _ => ls
def bwL (a : Nat) (ls : List Ln) : List Ln := match ls[a]? with
 | some (.fm f) => ls.set a (.fm (f.map fun x => -x))
 | _ => ls
def slL (a b : Nat) (k : Int) (ls : List Ln) : List Ln := match ls[a]?, ls[b]? with
 | some (.fm f), some (.fm g) => ls.set a (.fm (List.zipWith (fun x y => x + k * y) f g))
 | _, _ => ls
def mvL (a : Nat) (k : Int) (ls : List Ln) : List Ln := match ls[a]? with
 | some (.fm (x :: f)) => ls.set a (.fm ((x + k) :: f))
 | _ => ls
def bkL (a : Nat) (z : Int) (ls : List Ln) : List Ln := match ls[a]? with
 | some (.fm f) => ls.take a ++ .bk f z :: ls.drop a
 | _ => ls
def noL (a d : Nat) (ls : List Ln) : List Ln := ls.take a ++ .fm (List.replicate (d + 1) 0) :: ls.drop a
def cutL (a : Nat) (ls : List Ln) : List Ln := ls.take a ++ ls.drop (a + 1)
def blkP (nss : List Nd) (i a : Nat) (z : Int) (p : Pn) : Pn := p.mapIdx fun j ds => if j = i then ds.map (bkL a z) else ds.map (noL a (nss.getD j ([], [])).1.length)
def Fms (a : Nat) (es : List (List Ln)) : Prop := ∀ ls ∈ es, ∃ f, ls[a]? = some (.fm f)
structure Pl (nss : List Nd) (m : Nat) (p : Pn) (S : Store) : Prop where
 n : Nds nss
 p : PnOk nss m p
 f : flat S
theorem Pl.first {nss : List Nd} {m : Nat} {p : Pn} {S : Store} (h : Pl nss m p S) : ∃ es ls, p[0]? = some es ∧ es[0]? = some ls ∧ ls.length = m := by
 obtain ⟨_, _, h3, h4⟩ := h.p.nums h.n
 have hp := h.p.1
 have hn := h.n.1
 have hl : 0 < p.length := by omega
 have g1 := List.getElem?_eq_getElem hl
 obtain ⟨a, _, c⟩ := h4 _ (List.getElem_mem hl)
 have hl2 : 0 < (p[0]).length := by omega
 exact ⟨_, _, g1, List.getElem?_eq_getElem hl2, c _ (List.getElem_mem hl2)⟩
theorem Pl.deeds {nss : List Nd} {m : Nat} {p : Pn} {S : Store} (h : Pl nss m p S) {i : Nat} {es : List (List Ln)} (hi : p[i]? = some es) : ∃ n, nss[i]? = some n ∧ DsOk n m es ∧ n.1.length ≤ 3 ∧ 1 ≤ n.2.length ∧ n.2.length ≤ 4 := by
 have hl := (List.getElem?_eq_some_iff.mp hi).1
 have hp := h.p.1
 have eg := List.getElem?_eq_getElem (l := nss) (i := i) (by omega)
 exact ⟨_, eg, h.p.2.2 i _ es eg hi, h.n.2.2 _ (List.getElem_mem _)⟩
theorem mapI {α : Type} {f : α → D} {xs : List α} {i : Nat} {x : α} (h : xs[i]? = some x) : atI (xs.map f) (i : Int) = some (f x) := atI_nat (by rw [List.getElem?_map, h]; rfl)
def inR (i : Int) (n : Nat) : Prop := 0 ≤ i ∧ i < (n : Int)
def fmB (a : Nat) (ls : List Ln) : Bool := match ls[a]? with
 | some (.fm _) => true
 | _ => false
theorem fmB_fms {a : Nat} {es : List (List Ln)} : es.all (fmB a) = true ↔ Fms a es := by
 rw [List.all_eq_true]
 constructor
 · intro h ls hls
   have := h ls hls
   unfold fmB at this
   split at this
   · rename_i f e; exact ⟨f, e⟩
   · cases this
 · intro h ls hls
   obtain ⟨f, e⟩ := h ls hls
   unfold fmB
   rw [e]
def c_rnpX : XCt := fun ds S W WE => ∃ w nss x, ds = [dPr w nss, x] ∧ Nds nss ∧ flat S ∧ (isPlanB nss x = false → WE "NoPlan" S) ∧ (∀ m p, x = dPn p → PnOk nss m p → W .non S)
theorem ok_p_refuse_no_plan {Ω : Wd} {f : Addr} {fd : FuncData} (F : Fun Ω.K "refuse_no_plan" "refuse_no_plan" s_p_refuse_no_plan f fd) (E : ExF Ω.mg Ω.K XL XT) (Cq23 : Cal Ω "is_plan" 6 2 c_isplanG) : OkX Ω 7 f fd P_p_refuse_no_plan c_rnpX := by
 refine fn_rx (N := N_p_refuse_no_plan) F (b_p_refuse_no_plan E Cq23) (by kernel_rfl!) ?_
 rintro ds S W WE ⟨w, nss, x, rfl, hn, hS, h1, h2⟩ hl
 walk_at "b"
 refine ⟨rfl, w, nss, x, rfl, hn, hS, ?_⟩
 cases h : isPlanB nss x with
 | false =>
   walk_at "b"
   exact h1 h
 | true =>
   obtain ⟨m, p, e, hok⟩ := plan_of hn h
   walk_at "b"
   exact h2 m p e hok
theorem zerosN (n : Nat) : (List.replicate n [D.int 0]).flatten = (List.replicate n (0 : Int)).map D.int := by
 induction n with
 | zero => rfl
 | succ m ih => simp [List.replicate_succ, ih]
def c_nf : Ct := fun ds S W => ∃ (n : Int) (d : Nat), ds = [.int n, .int d] ∧ d ≤ 10 ∧ W (dN (n :: List.replicate d 0)) S
theorem ok_p_number_form {Ω : Wd} {f : Addr} {fd : FuncData} (F : Fun Ω.K "number_form" "number_form" s_p_number_form f fd) : Ok Ω 1 f fd P_p_number_form c_nf := by
 refine fn_rf (N := N_p_number_form) F (b_p_number_form) (by kernel_rfl!) ?_
 rintro ds S W ⟨n, d, rfl, hd, hw⟩ hl
 walk_at "b"
 refine ⟨⟨by omega, by omega⟩, by show 1 * _ ≤ _; omega, ?_⟩
 rw [Int.toNat_natCast, zerosN]
 walk_at "b"
 exact hw
def c_nol : Ct := fun ds S W => ∃ nss m p, ds = [dPn p] ∧ Pl nss m p S ∧ W (.int m) S
theorem ok_p_number_of_lines {Ω : Wd} {f : Addr} {fd : FuncData} (F : Fun Ω.K "number_of_lines" "number_of_lines" s_p_number_of_lines f fd) (B : Bi Ω.mg) : Ok Ω 1 f fd P_p_number_of_lines c_nol := by
 refine fn_rf (N := N_p_number_of_lines) F (b_p_number_of_lines B) (by kernel_rfl!) ?_
 rintro ds S W ⟨nss, m, p, rfl, h, hw⟩ hl
 obtain ⟨es, ls, g1, g2, g3⟩ := h.first
 walk_at "b"
 refine ⟨_, mapI (i := 0) g1, ?_⟩
 walk_at "b"
 refine ⟨_, mapI (i := 0) g2, ?_⟩
 walk_at "b"
 rw [List.length_map, g3]
 exact hw
def c_rnnX : XCt := fun ds S W WE => ∃ (p : Pn) (i : Int), ds = [dPn p, .int i] ∧ (¬ inR i p.length → WE "NoTurn" S) ∧ (inR i p.length → W .non S)
def c_rndX : XCt := fun ds S W WE => ∃ (es : List (List Ln)) (i : Int), ds = [dDs es, .int i] ∧ (¬ inR i es.length → WE "NoTurn" S) ∧ (inR i es.length → W .non S)
def c_rnlX : XCt := fun ds S W WE => ∃ nss m p, ∃ a : Int, ds = [dPn p, .int a] ∧ Pl nss m p S ∧ (¬ inR a m → WE "NoTurn" S) ∧ (inR a m → W .non S)
def c_rnfX : XCt := fun ds S W WE => ∃ es, ∃ a : Nat, ds = [dDs es, .int a] ∧ (∀ ls ∈ es, a < ls.length) ∧ es.length ≤ 1000 ∧ (¬ Fms a es → WE "NoTurn" S) ∧ (Fms a es → W .non S)
theorem ok_p_refuse_no_nest {Ω : Wd} {f : Addr} {fd : FuncData} (F : Fun Ω.K "refuse_no_nest" "refuse_no_nest" s_p_refuse_no_nest f fd) (B : Bi Ω.mg) (E : ExF Ω.mg Ω.K XL XT) : OkX Ω 1 f fd P_p_refuse_no_nest c_rnnX := by
 refine fn_rx (N := N_p_refuse_no_nest) F (b_p_refuse_no_nest B E) (by kernel_rfl!) ?_
 rintro ds S W WE ⟨p, i, rfl, h1, h2⟩ hl
 walk_at "n"
 refine ⟨fun c => ?_, fun c => ?_⟩
 · walk_at "b"
   exact h1 fun z => of_decide_eq_false c z.1
 · walk_at "n"
   rw [List.length_map]
   refine ⟨fun c2 => h1 fun z => of_decide_eq_false (nt c2) z.2, fun c2 => h2 ⟨of_decide_eq_true c, ?_⟩⟩
   exact of_decide_eq_true (by simpa using c2)
theorem ok_p_refuse_no_deed {Ω : Wd} {f : Addr} {fd : FuncData} (F : Fun Ω.K "refuse_no_deed" "refuse_no_deed" s_p_refuse_no_deed f fd) (B : Bi Ω.mg) (E : ExF Ω.mg Ω.K XL XT) : OkX Ω 1 f fd P_p_refuse_no_deed c_rndX := by
 refine fn_rx (N := N_p_refuse_no_deed) F (b_p_refuse_no_deed B E) (by kernel_rfl!) ?_
 rintro ds S W WE ⟨p, i, rfl, h1, h2⟩ hl
 walk_at "n"
 refine ⟨fun c => ?_, fun c => ?_⟩
 · walk_at "b"
   exact h1 fun z => of_decide_eq_false c z.1
 · walk_at "n"
   rw [List.length_map]
   refine ⟨fun c2 => h1 fun z => of_decide_eq_false (nt c2) z.2, fun c2 => h2 ⟨of_decide_eq_true c, ?_⟩⟩
   exact of_decide_eq_true (by simpa using c2)
theorem ok_p_refuse_no_line {Ω : Wd} {f : Addr} {fd : FuncData} (F : Fun Ω.K "refuse_no_line" "refuse_no_line" s_p_refuse_no_line f fd) (E : ExF Ω.mg Ω.K XL XT) (Cq32 : Cal Ω "number_of_lines" 1 1 c_nol) : OkX Ω 2 f fd P_p_refuse_no_line c_rnlX := by
 refine fn_rx (N := N_p_refuse_no_line) F (b_p_refuse_no_line E Cq32) (by kernel_rfl!) ?_
 rintro ds S W WE ⟨nss, m, p, a, rfl, h, h1, h2⟩ hl
 walk_at "n"
 refine ⟨fun c => ?_, fun c => ?_⟩
 · walk_at "b"
   exact h1 fun z => of_decide_eq_false c z.1
 · walk_at "n"
   refine ⟨rfl, nss, m, p, rfl, h, ?_⟩
   walk_at "n"
   refine ⟨fun c2 => h1 fun z => of_decide_eq_false (nt c2) z.2, fun c2 => h2 ⟨of_decide_eq_true c, ?_⟩⟩
   exact of_decide_eq_true (by simpa using c2)
theorem ok_p_refuse_no_forms {Ω : Wd} {f : Addr} {fd : FuncData} (F : Fun Ω.K "refuse_no_forms" "refuse_no_forms" s_p_refuse_no_forms f fd) (B : Bi Ω.mg) (E : ExF Ω.mg Ω.K XL XT) : OkX Ω 1 f fd P_p_refuse_no_forms c_rnfX := by
 refine fn_rx (N := N_p_refuse_no_forms) F (b_p_refuse_no_forms B E) (by kernel_rfl!) ?_
 rintro ds S W WE ⟨es, a, rfl, hf, hz, h1, h2⟩ hl
 walk_at "b"
 refine cm_enc (fun ls => .bl (fmB a ls)) (by omega) ?_ ?_
 · intro i ls hi Q hq
   have ha := hf ls (List.mem_of_getElem? hi)
   have e := List.getElem?_eq_getElem ha
   unfold fmB at hq
   rw [e] at hq
   generalize ls[a] = l at e hq
   walk_at "b"
   refine ⟨_, mapI e, ?_⟩
   cases l with
   | fm f =>
     walk_at "b"
     exact cEqStr hq
   | bk f z =>
     walk_at "b"
     exact cEqStr hq
 refine ⟨es.map (fmB a), by rw [List.map_map]; rfl, ?_⟩
 rw [show (es.map (fmB a)).all id = es.all (fmB a) from by rw [List.all_map]; rfl]
 cases h : es.all (fmB a) with
 | true =>
   walk_at "b"
   exact h2 (fmB_fms.mp h)
 | false =>
   walk_at "b"
   exact h1 fun z => by rw [fmB_fms.mpr z] at h; cases h
def c_repl : Ct := fun ds S W => ∃ xs x, ∃ a : Nat, ds = [.tup xs, .int a, x] ∧ a < xs.length ∧ xs.length ≤ 1000 ∧ W (.tup (xs.set a x)) S
def c_put : Ct := fun ds S W => ∃ xs x, ∃ a : Nat, ds = [.tup xs, .int a, x] ∧ xs.length ≤ 1000 ∧ W (.tup (xs.take a ++ x :: xs.drop a)) S
def c_left : Ct := fun ds S W => ∃ xs, ∃ a : Nat, ds = [.tup xs, .int a] ∧ xs.length ≤ 1000 ∧ W (.tup (xs.take a ++ xs.drop (a + 1))) S
theorem ok_p_replaced {Ω : Wd} {f : Addr} {fd : FuncData} (F : Fun Ω.K "replaced" "replaced" s_p_replaced f fd) : Ok Ω 1 f fd P_p_replaced c_repl := by
 refine fn_rf (N := N_p_replaced) F (b_p_replaced) (by kernel_rfl!) ?_
 rintro ds S W ⟨xs, x, a, rfl, ha, hz, hw⟩ hl
 have c1 := cut_len xs none (some (a : Int))
 have c2 := cut_len xs (some ((a : Int) + 1)) none
 walk_at "b"
 rw [cut_to (by omega), cut_from (by omega), Int.toNat_natCast, show ((a : Int) + 1).toNat = a + 1 from by omega]
 rw [List.set_eq_take_append_cons_drop, if_pos ha] at hw
 rw [List.append_assoc]
 exact hw
theorem ok_p_put_ahead {Ω : Wd} {f : Addr} {fd : FuncData} (F : Fun Ω.K "put_ahead" "put_ahead" s_p_put_ahead f fd) : Ok Ω 1 f fd P_p_put_ahead c_put := by
 refine fn_rf (N := N_p_put_ahead) F (b_p_put_ahead) (by kernel_rfl!) ?_
 rintro ds S W ⟨xs, x, a, rfl, hz, hw⟩ hl
 have c1 := cut_len xs none (some (a : Int))
 have c2 := cut_len xs (some (a : Int)) none
 walk_at "b"
 rw [cut_to (by omega), cut_from (by omega), Int.toNat_natCast, List.append_assoc]
 exact hw
theorem ok_p_left_out {Ω : Wd} {f : Addr} {fd : FuncData} (F : Fun Ω.K "left_out" "left_out" s_p_left_out f fd) : Ok Ω 1 f fd P_p_left_out c_left := by
 refine fn_rf (N := N_p_left_out) F (b_p_left_out) (by kernel_rfl!) ?_
 rintro ds S W ⟨xs, a, rfl, hz, hw⟩ hl
 have c1 := cut_len xs none (some (a : Int))
 have c2 := cut_len xs (some ((a : Int) + 1)) none
 walk_at "b"
 rw [cut_to (by omega), cut_from (by omega), Int.toNat_natCast, show ((a : Int) + 1).toNat = a + 1 from by omega]
 exact hw
end K29
namespace K29
open PySem L2 DL RF XE
theorem map_set {α β : Type} (f : α → β) (l : List α) (i : Nat) (x : α) : (l.map f).set i (f x) = (l.set i x).map f := by rw [List.map_set]
theorem LsOk.get {d m : Nat} {ls : List Ln} (h : LsOk d m ls) {a : Nat} (ha : a < m) : ∃ l, ls[a]? = some l ∧ LnOk d l := by
 have hl : a < ls.length := by rw [h.1]; exact ha
 exact ⟨_, List.getElem?_eq_getElem hl, h.2 _ (List.getElem_mem hl)⟩
def c_exl : Ct := fun ds S W => ∃ d m ls, ∃ a b : Nat, ds = [dLs ls, .int a, .int b] ∧ LsOk d m ls ∧ m ≤ 9 ∧ a < m ∧ b < m ∧ W (dLs (exL a b ls)) S
theorem ok_p_exchanged_lines {Ω : Wd} {f : Addr} {fd : FuncData} (F : Fun Ω.K "exchanged_lines" "exchanged_lines" s_p_exchanged_lines f fd) (Cq40 : Cal Ω "replaced" 1 3 c_repl) : Ok Ω 2 f fd P_p_exchanged_lines c_exl := by
 refine fn_rf (N := N_p_exchanged_lines) F (b_p_exchanged_lines Cq40) (by kernel_rfl!) ?_
 rintro ds S W ⟨d, m, ls, a, b, rfl, h, h9, ha, hb, hw⟩ hl
 obtain ⟨x, ex, _⟩ := h.get ha
 obtain ⟨y, ey, _⟩ := h.get hb
 have e : exL a b ls = (ls.set a y).set b x := by unfold exL; rw [ex, ey]
 rw [e] at hw
 have hlen := h.1
 walk_at "b"
 refine ⟨_, mapI ey, ?_⟩
 walk_at "b"
 refine ⟨rfl, _, _, _, rfl, by rw [List.length_map]; omega, by rw [List.length_map]; omega, ?_⟩
 walk_at "b"
 refine ⟨_, mapI ex, ?_⟩
 walk_at "b"
 refine ⟨rfl, _, _, _, rfl, by rw [List.length_set, List.length_map]; omega, by rw [List.length_set, List.length_map]; omega, ?_⟩
 rw [map_set, map_set]
 exact hw
def c_bwl : Ct := fun ds S W => ∃ ls f, ∃ a : Nat, ds = [dLs ls, .int a] ∧ ls.length ≤ 1000 ∧ ls[a]? = some (.fm f) ∧ f.length ≤ 1000 ∧ W (dLs (bwL a ls)) S
theorem ok_p_backward_lines {Ω : Wd} {f : Addr} {fd : FuncData} (F : Fun Ω.K "backward_lines" "backward_lines" s_p_backward_lines f fd) (B : Bi Ω.mg) (Cq40 : Cal Ω "replaced" 1 3 c_repl) : Ok Ω 2 f fd P_p_backward_lines c_bwl := by
 refine fn_rf (N := N_p_backward_lines) F (b_p_backward_lines B Cq40) (by kernel_rfl!) ?_
 rintro ds S W ⟨ls, f, a, rfl, hz, ha, hf, hw⟩ hl
 have e : bwL a ls = ls.set a (.fm (f.map fun x => -x)) := by unfold bwL; rw [ha]
 rw [e] at hw
 have hal := (List.getElem?_eq_some_iff.mp ha).1
 walk_at "b"
 refine ⟨_, mapI ha, ?_⟩
 walk_at "b"
 refine cm_enc (fun x => .int (-x)) (by omega) ?_ ?_
 · intro j x hj Q hq
   walk_at "b"
   exact hq
 walk_at "b"
 refine ⟨rfl, _, _, a, rfl, by rw [List.length_map]; exact hal, by rw [List.length_map]; omega, ?_⟩
 have e2 : D.tup [D.str "form", D.tup (f.map fun x => D.int (-x))] = dLn (.fm (f.map fun x => -x)) := by show _ = D.tup [D.str "form", D.tup ((f.map fun x => -x).map D.int)]; rw [List.map_map]; rfl
 rw [e2, map_set]
 exact hw
theorem LsOk.few {d m : Nat} {ls : List Ln} (h : LsOk d m ls) (hd : d ≤ 3) {a : Nat} {f : List Int} (e : ls[a]? = some (.fm f)) : f.length = d + 1 := h.2 _ (List.mem_of_getElem? e)
def c_sll : Ct := fun ds S W => ∃ ls f g k, ∃ a b : Nat, ds = [dLs ls, .int a, .int b, .int k] ∧ ls.length ≤ 1000 ∧ ls[a]? = some (.fm f) ∧ ls[b]? = some (.fm g) ∧ f.length ≤ 1000 ∧ (Big k ∧ ∀ y ∈ g, Big y) ∧ W (dLs (slL a b k ls)) S
theorem ok_p_slanted_lines {Ω : Wd} {f : Addr} {fd : FuncData} (F : Fun Ω.K "slanted_lines" "slanted_lines" s_p_slanted_lines f fd) (B : Bi Ω.mg) (Cq40 : Cal Ω "replaced" 1 3 c_repl) : Ok Ω 2 f fd P_p_slanted_lines c_sll := by
 refine fn_rf (N := N_p_slanted_lines) F (b_p_slanted_lines B Cq40) (by kernel_rfl!) ?_
 rintro ds S W ⟨ls, f, g, k, a, b, rfl, hz, ha, hb, hf, hk, hw⟩ hl
 have e : slL a b k ls = ls.set a (.fm (List.zipWith (fun x y => x + k * y) f g)) := by unfold slL; rw [ha, hb]
 rw [e] at hw
 have hal := (List.getElem?_eq_some_iff.mp ha).1
 walk_at "b"
 refine ⟨_, mapI ha, ?_⟩
 walk_at "b"
 refine ⟨_, mapI hb, ?_⟩
 walk_at "b"
 refine comp_by ⟨by show (List.zipWith (fun x y => D.tup [x, y]) (f.map D.int) (g.map D.int)).length ≤ 1000000; rw [List.length_zipWith, List.length_map]; omega, fun i acc S' => acc = ((List.zipWith (fun x y => x + k * y) f g).take i).map D.int ∧ S' = S, ⟨rfl, rfl⟩, ?_, ?_⟩
 · rintro i e acc S' he ⟨rfl, rfl⟩
   obtain ⟨x, y, h1, h2, rfl⟩ := pair_at he
   walk_at "n"
   refine ⟨rfl, fun _ => ⟨⟨hk.1, hk.2 y (List.mem_of_getElem? h2)⟩, ?_, rfl⟩, fun z => tf z⟩
   have e3 : (List.zipWith (fun x y => x + k * y) f g)[i]? = some (x + k * y) := by rw [List.getElem?_zipWith, h1, h2]
   rw [take_one e3, List.map_append]; rfl
 · rintro acc S' ⟨rfl, rfl⟩
   have el : (List.zipWith (fun x y => D.tup [x, y]) (f.map D.int) (g.map D.int)).length = (List.zipWith (fun x y => x + k * y) f g).length := by simp
   rw [el, List.take_length]
   walk_at "b"
   refine ⟨rfl, _, _, a, rfl, by rw [List.length_map]; exact hal, by rw [List.length_map]; omega, ?_⟩
   have e2 : D.tup [D.str "form", D.tup ((List.zipWith (fun x y => x + k * y) f g).map D.int)] = dLn (.fm (List.zipWith (fun x y => x + k * y) f g)) := rfl
   rw [e2, map_set]
   exact hw
def PnB (p : Pn) : Prop := ∀ es ∈ p, ∀ ls ∈ es, ∀ f, Ln.fm f ∈ ls → ∀ y ∈ f, Big y
structure ExG (m : Nat) (p : Pn) (i a b : Int) (es : List (List Ln)) (i' a' b' : Nat) : Prop where
 i : i = i'
 a : a = a'
 b : b = b'
 he : p[i']? = some es
 la : a' < m
 lb : b' < m
theorem inR_nat {i : Int} {n : Nat} (h : inR i n) : ∃ k : Nat, i = k ∧ k < n := by
 obtain ⟨k, rfl⟩ := Int.eq_ofNat_of_zero_le h.1
 exact ⟨k, rfl, by have := h.2; omega⟩
theorem not_inR {i : Int} {n k : Nat} (h : ¬ inR i n) (e : i = k) (l : k < n) : False := h ⟨by omega, by omega⟩
def c_exchX : XCt := fun ds S W WE => ∃ w nss x, ∃ i a b : Int, ds = [dPr w nss, x, .int i, .int a, .int b] ∧ Nds nss ∧ flat S ∧ (isPlanB nss x = false → WE "NoPlan" S) ∧
 ∀ m p, x = dPn p → PnOk nss m p → ((∀ es i' a' b', ¬ ExG m p i a b es i' a' b') → WE "NoTurn" S) ∧ ∀ es i' a' b', ExG m p i a b es i' a' b' → W (dPn (p.set i' (es.map (exL a' b')))) S
theorem ok_p_exchanged {Ω : Wd} {f : Addr} {fd : FuncData} (F : Fun Ω.K "exchanged" "exchanged" s_p_exchanged f fd) (B : Bi Ω.mg) (E : ExF Ω.mg Ω.K XL XT) (Cq39 : CalX Ω "refuse_no_plan" 7 2 c_rnpX) (Cq38 : CalX Ω "refuse_no_nest" 1 2 c_rnnX) (Cq37 : CalX Ω "refuse_no_line" 2 2 c_rnlX) (Cq40 : Cal Ω "replaced" 1 3 c_repl) (Cq18 : Cal Ω "exchanged_lines" 2 3 c_exl) : OkX Ω 8 f fd P_p_exchanged c_exchX := by
 refine fn_rx (N := N_p_exchanged) F (b_p_exchanged B E Cq39 Cq38 Cq37 Cq40 Cq18) (by kernel_rfl!) ?_
 rintro ds S W WE ⟨w, nss, x, i, a, b, rfl, hN, hS, h0, h1⟩ hl
 walk_at "b"
 refine ⟨rfl, w, nss, x, rfl, hN, hS, h0, fun m p e hok => ?_⟩
 subst e
 obtain ⟨hno, hw⟩ := h1 m p rfl hok
 have h : Pl nss m p S := ⟨hN, hok, hS⟩
 have hp3 := h.p.1
 have hn3 := h.n.2.1
 walk_at "b"
 refine ⟨rfl, p, i, rfl, fun z => hno fun es i' a' b' g => not_inR z g.i (List.getElem?_eq_some_iff.mp g.he).1, fun zi => ?_⟩
 walk_at "b"
 refine ⟨rfl, nss, m, p, a, rfl, h, fun z => hno fun es i' a' b' g => not_inR z g.a g.la, fun za => ?_⟩
 walk_at "b"
 refine ⟨rfl, nss, m, p, b, rfl, h, fun z => hno fun es i' a' b' g => not_inR z g.b g.lb, fun zb => ?_⟩
 obtain ⟨i, rfl, hil⟩ := inR_nat zi
 obtain ⟨a, rfl, ha⟩ := inR_nat za
 obtain ⟨b, rfl, hb⟩ := inR_nat zb
 have hi := List.getElem?_eq_getElem hil
 generalize p[i] = es at hi
 obtain ⟨n, hn, hd, n1, n2, n3⟩ := h.deeds hi
 have hw := hw es i a b ⟨rfl, rfl, rfl, hi, ha, hb⟩
 walk_at "b"
 refine ⟨_, mapI hi, ?_⟩
 walk_at "b"
 refine cm_enc (fun ls => dLs (exL a b ls)) (by have := hd.1; omega) ?_ ?_
 · intro j ls hj Q hq
   walk_at "b"
   exact ⟨rfl, n.1.length, m, ls, a, b, rfl, hd.2 ls (List.mem_of_getElem? hj), h.p.2.1.2, ha, hb, hq⟩
 walk_at "b"
 refine ⟨rfl, _, _, i, rfl, by rw [List.length_map]; exact hil, by rw [List.length_map]; omega, ?_⟩
 have e : D.tup (es.map fun ls => dLs (exL a b ls)) = dDs (es.map (exL a b)) := by unfold dDs; rw [List.map_map]; rfl
 rw [e, map_set]
 exact hw
structure BwG (m : Nat) (p : Pn) (i a : Int) (es : List (List Ln)) (i' a' : Nat) : Prop where
 i : i = i'
 a : a = a'
 he : p[i']? = some es
 la : a' < m
 fa : Fms a' es
def c_backX : XCt := fun ds S W WE => ∃ w nss x, ∃ i a : Int, ds = [dPr w nss, x, .int i, .int a] ∧ Nds nss ∧ flat S ∧ (isPlanB nss x = false → WE "NoPlan" S) ∧
 ∀ m p, x = dPn p → PnOk nss m p → ((∀ es i' a', ¬ BwG m p i a es i' a') → WE "NoTurn" S) ∧ ∀ es i' a', BwG m p i a es i' a' → W (dPn (p.set i' (es.map (bwL a')))) S
theorem ok_p_backward {Ω : Wd} {f : Addr} {fd : FuncData} (F : Fun Ω.K "backward" "backward" s_p_backward f fd) (B : Bi Ω.mg) (E : ExF Ω.mg Ω.K XL XT) (Cq39 : CalX Ω "refuse_no_plan" 7 2 c_rnpX) (Cq38 : CalX Ω "refuse_no_nest" 1 2 c_rnnX) (Cq37 : CalX Ω "refuse_no_line" 2 2 c_rnlX) (Cq36 : CalX Ω "refuse_no_forms" 1 2 c_rnfX) (Cq40 : Cal Ω "replaced" 1 3 c_repl) (Cq13 : Cal Ω "backward_lines" 2 2 c_bwl) : OkX Ω 8 f fd P_p_backward c_backX := by
 refine fn_rx (N := N_p_backward) F (b_p_backward B E Cq39 Cq38 Cq37 Cq36 Cq40 Cq13) (by kernel_rfl!) ?_
 rintro ds S W WE ⟨w, nss, x, i, a, rfl, hN, hS, h0, h1⟩ hl
 walk_at "b"
 refine ⟨rfl, w, nss, x, rfl, hN, hS, h0, fun m p e hok => ?_⟩
 subst e
 obtain ⟨hno, hw⟩ := h1 m p rfl hok
 have h : Pl nss m p S := ⟨hN, hok, hS⟩
 have hp3 := h.p.1
 have hn3 := h.n.2.1
 have hm9 := h.p.2.1.2
 walk_at "b"
 refine ⟨rfl, p, i, rfl, fun z => hno fun es i' a' g => not_inR z g.i (List.getElem?_eq_some_iff.mp g.he).1, fun zi => ?_⟩
 walk_at "b"
 refine ⟨rfl, nss, m, p, a, rfl, h, fun z => hno fun es i' a' g => not_inR z g.a g.la, fun za => ?_⟩
 obtain ⟨i, rfl, hil⟩ := inR_nat zi
 obtain ⟨a, rfl, ha⟩ := inR_nat za
 have hi := List.getElem?_eq_getElem hil
 generalize p[i] = es at hi
 obtain ⟨n, hn, hd, n1, n2, n3⟩ := h.deeds hi
 have hel := hd.1
 walk_at "b"
 refine ⟨_, mapI hi, ?_⟩
 walk_at "b"
 refine ⟨rfl, es, a, rfl, fun ls hls => by rw [(hd.2 ls hls).1]; exact ha, by omega, fun z => hno fun es' i' a' g => ?_, fun hf => ?_⟩
 · obtain ⟨g1, g2, g3, g4, g5⟩ := g
   obtain rfl : i = i' := by omega
   obtain rfl : a = a' := by omega
   rw [hi] at g3
   cases g3
   exact z g5
 have hw := hw es i a ⟨rfl, rfl, hi, ha, hf⟩
 walk_at "b"
 refine ⟨_, mapI hi, ?_⟩
 walk_at "b"
 refine cm_enc (fun ls => dLs (bwL a ls)) (by omega) ?_ ?_
 · intro j ls hj Q hq
   have hls := List.mem_of_getElem? hj
   obtain ⟨f, ef⟩ := hf ls hls
   have := (hd.2 ls hls).few n1 ef
   have := (hd.2 ls hls).1
   walk_at "b"
   exact ⟨rfl, ls, f, a, rfl, by omega, ef, by omega, hq⟩
 walk_at "b"
 refine ⟨rfl, _, _, i, rfl, by rw [List.length_map]; exact hil, by rw [List.length_map]; omega, ?_⟩
 have e : D.tup (es.map fun ls => dLs (bwL a ls)) = dDs (es.map (bwL a)) := by unfold dDs; rw [List.map_map]; rfl
 rw [e, map_set]
 exact hw
structure SlG (m : Nat) (p : Pn) (i a b : Int) (es : List (List Ln)) (i' a' b' : Nat) : Prop where
 i : i = i'
 a : a = a'
 b : b = b'
 he : p[i']? = some es
 la : a' < m
 lb : b' < m
 ne : a' ≠ b'
 fa : Fms a' es
 fb : Fms b' es
def c_slanX : XCt := fun ds S W WE => ∃ w nss x, ∃ i a b k : Int, ds = [dPr w nss, x, .int i, .int a, .int b, .int k] ∧ Nds nss ∧ flat S ∧ (Big k ∧ ∀ p, x = dPn p → PnB p) ∧ (isPlanB nss x = false → WE "NoPlan" S) ∧
 ∀ m p, x = dPn p → PnOk nss m p → ((∀ es i' a' b', ¬ SlG m p i a b es i' a' b') → WE "NoTurn" S) ∧ ∀ es i' a' b', SlG m p i a b es i' a' b' → W (dPn (p.set i' (es.map (slL a' b' k)))) S
theorem ok_p_slanted {Ω : Wd} {f : Addr} {fd : FuncData} (F : Fun Ω.K "slanted" "slanted" s_p_slanted f fd) (B : Bi Ω.mg) (E : ExF Ω.mg Ω.K XL XT) (Cq39 : CalX Ω "refuse_no_plan" 7 2 c_rnpX) (Cq38 : CalX Ω "refuse_no_nest" 1 2 c_rnnX) (Cq37 : CalX Ω "refuse_no_line" 2 2 c_rnlX) (Cq36 : CalX Ω "refuse_no_forms" 1 2 c_rnfX) (Cq40 : Cal Ω "replaced" 1 3 c_repl) (Cq42 : Cal Ω "slanted_lines" 2 4 c_sll) : OkX Ω 8 f fd P_p_slanted c_slanX := by
 refine fn_rx (N := N_p_slanted) F (b_p_slanted B E Cq39 Cq38 Cq37 Cq36 Cq40 Cq42) (by kernel_rfl!) ?_
 rintro ds S W WE ⟨w, nss, x, i, a, b, k, rfl, hN, hS, hk, h0, h1⟩ hl
 walk_at "b"
 refine ⟨rfl, w, nss, x, rfl, hN, hS, h0, fun m p e hok => ?_⟩
 subst e
 obtain ⟨hno, hw⟩ := h1 m p rfl hok
 have h : Pl nss m p S := ⟨hN, hok, hS⟩
 have hp3 := h.p.1
 have hn3 := h.n.2.1
 have hm9 := h.p.2.1.2
 walk_at "b"
 refine ⟨rfl, p, i, rfl, fun z => hno fun es i' a' b' g => not_inR z g.i (List.getElem?_eq_some_iff.mp g.he).1, fun zi => ?_⟩
 walk_at "b"
 refine ⟨rfl, nss, m, p, a, rfl, h, fun z => hno fun es i' a' b' g => not_inR z g.a g.la, fun za => ?_⟩
 walk_at "b"
 refine ⟨rfl, nss, m, p, b, rfl, h, fun z => hno fun es i' a' b' g => not_inR z g.b g.lb, fun zb => ?_⟩
 obtain ⟨i, rfl, hil⟩ := inR_nat zi
 obtain ⟨a, rfl, ha⟩ := inR_nat za
 obtain ⟨b, rfl, hb⟩ := inR_nat zb
 have hi := List.getElem?_eq_getElem hil
 generalize p[i] = es at hi
 obtain ⟨n, hn, hd, n1, n2, n3⟩ := h.deeds hi
 have hel := hd.1
 have same : ∀ {es' i' a' b'}, SlG m p (i : Int) (a : Int) (b : Int) es' i' a' b' → es' = es ∧ i' = i ∧ a' = a ∧ b' = b := fun {es' i' a' b'} g => by
  obtain ⟨g1, g2, g3, g4, g5⟩ := g
  obtain rfl : i = i' := by omega
  rw [hi] at g4
  cases g4
  exact ⟨rfl, rfl, by omega, by omega⟩
 walk_at "n"
 by_cases hab : a = b
 · rw [decide_eq_true (by omega)]
   walk_at "b"
   refine hno fun es' i' a' b' g => ?_
   obtain ⟨_, _, e1, e2⟩ := same g
   exact g.ne (by omega)
 rw [decide_eq_false (by omega)]
 walk_at "b"
 refine ⟨_, mapI hi, ?_⟩
 walk_at "b"
 refine ⟨rfl, es, a, rfl, fun ls hls => by rw [(hd.2 ls hls).1]; exact ha, by omega, fun z => hno fun es' i' a' b' g => ?_, fun hf => ?_⟩
 · obtain ⟨rfl, rfl, rfl, rfl⟩ := same g
   exact z g.fa
 walk_at "b"
 refine ⟨_, mapI hi, ?_⟩
 walk_at "b"
 refine ⟨rfl, es, b, rfl, fun ls hls => by rw [(hd.2 ls hls).1]; exact hb, by omega, fun z => hno fun es' i' a' b' g => ?_, fun hg => ?_⟩
 · obtain ⟨rfl, rfl, rfl, rfl⟩ := same g
   exact z g.fb
 have hw := hw es i a b ⟨rfl, rfl, rfl, hi, ha, hb, hab, hf, hg⟩
 walk_at "b"
 refine ⟨_, mapI hi, ?_⟩
 walk_at "b"
 refine cm_enc (fun ls => dLs (slL a b k ls)) (by omega) ?_ ?_
 · intro j ls hj Q hq
   have hls := List.mem_of_getElem? hj
   obtain ⟨f, ef⟩ := hf ls hls
   obtain ⟨g, eg⟩ := hg ls hls
   have := (hd.2 ls hls).few n1 ef
   have := (hd.2 ls hls).1
   walk_at "b"
   exact ⟨rfl, ls, f, g, k, a, b, rfl, by omega, ef, eg, by omega, ⟨hk.1, hk.2 p rfl es (List.mem_of_getElem? hi) ls hls g (List.mem_of_getElem? eg)⟩, hq⟩
 walk_at "b"
 refine ⟨rfl, _, _, i, rfl, by rw [List.length_map]; exact hil, by rw [List.length_map]; omega, ?_⟩
 have e : D.tup (es.map fun ls => dLs (slL a b k ls)) = dDs (es.map (slL a b k)) := by unfold dDs; rw [List.map_map]; rfl
 rw [e, map_set]
 exact hw
end K29
namespace K29
open PySem L2 DL RF XE
theorem cut_one {ds : List D} {j : Nat} {d : D} (h : ds[j]? = some d) : cutD ds (some (j : Int)) (some ((j : Int) + 1)) = [d] := by
 have hj := (List.getElem?_eq_some_iff.mp h).1
 unfold cutD
 have e2 := HT.sIx_nat ds.length ds.length (j + 1)
 rw [Int.natCast_add, Int.natCast_one] at e2
 rw [HT.sIx_nat, e2, Nat.min_eq_left (by omega), Nat.min_eq_left (by omega), show j + 1 - j = 1 from by omega, List.drop_eq_getElem_cons hj, List.take_succ_cons, List.take_zero]
 rw [List.getElem?_eq_getElem hj] at h
 cases h
 rfl
def c_mvl : Ct := fun ds S W => ∃ ls x f k, ∃ a : Nat, ds = [dLs ls, .int a, .int k] ∧ ls.length ≤ 1000 ∧ ls[a]? = some (.fm (x :: f)) ∧ f.length ≤ 1000 ∧ W (dLs (mvL a k ls)) S
theorem ok_p_moved_lines {Ω : Wd} {f : Addr} {fd : FuncData} (F : Fun Ω.K "moved_lines" "moved_lines" s_p_moved_lines f fd) (Cq40 : Cal Ω "replaced" 1 3 c_repl) : Ok Ω 2 f fd P_p_moved_lines c_mvl := by
 refine fn_rf (N := N_p_moved_lines) F (b_p_moved_lines Cq40) (by kernel_rfl!) ?_
 rintro ds S W ⟨ls, x, f, k, a, rfl, hz, ha, hf, hw⟩ hl
 have e : mvL a k ls = ls.set a (.fm ((x + k) :: f)) := by unfold mvL; rw [ha]
 rw [e] at hw
 have hal := (List.getElem?_eq_some_iff.mp ha).1
 walk_at "b"
 refine ⟨_, mapI ha, ?_⟩
 walk_at "b"
 refine ⟨_, atI_nat (j := 0) rfl, ?_⟩
 walk_at "b"
 rw [show cutD (List.map D.int (x :: f)) (some 1) none = f.map D.int from cut_tail _ _]
 walk_at "b"
 refine ⟨rfl, _, _, a, rfl, by rw [List.length_map]; exact hal, by rw [List.length_map]; omega, ?_⟩
 have e2 : D.tup [D.str "form", D.tup ([D.int (x + k)] ++ f.map D.int)] = dLn (.fm ((x + k) :: f)) := rfl
 rw [e2, map_set]
 exact hw
def c_wba : Ct := fun ds S W => ∃ es z, ∃ a : Nat, ds = [dDs es, .int a, .int z] ∧ es.length ≤ 1000 ∧ (∀ ls ∈ es, ls.length ≤ 1000) ∧ Fms a es ∧ W (dDs (es.map (bkL a z))) S
def c_wna : Ct := fun ds S W => ∃ es, ∃ a d : Nat, ds = [dDs es, .int a, .int d] ∧ es.length ≤ 1000 ∧ (∀ ls ∈ es, ls.length ≤ 1000) ∧ d ≤ 10 ∧ W (dDs (es.map (noL a d))) S
theorem ok_p_with_block_ahead {Ω : Wd} {f : Addr} {fd : FuncData} (F : Fun Ω.K "with_block_ahead" "with_block_ahead" s_p_with_block_ahead f fd) (B : Bi Ω.mg) (Cq34 : Cal Ω "put_ahead" 1 3 c_put) : Ok Ω 2 f fd P_p_with_block_ahead c_wba := by
 refine fn_rf (N := N_p_with_block_ahead) F (b_p_with_block_ahead B Cq34) (by kernel_rfl!) ?_
 rintro ds S W ⟨es, z, a, rfl, hz, hz2, hf, hw⟩ hl
 walk_at "b"
 refine cm_enc (fun ls => dLs (bkL a z ls)) (by omega) ?_ ?_
 · intro j ls hj Q hq
   obtain ⟨f, ef⟩ := hf ls (List.mem_of_getElem? hj)
   have := hz2 ls (List.mem_of_getElem? hj)
   have e : bkL a z ls = ls.take a ++ .bk f z :: ls.drop a := by unfold bkL; rw [ef]
   rw [e] at hq
   walk_at "b"
   refine ⟨_, mapI ef, ?_⟩
   walk_at "b"
   refine ⟨rfl, _, _, a, rfl, by rw [List.length_map]; omega, ?_⟩
   unfold dLs at hq
   rw [List.map_append, List.map_cons, List.map_take, List.map_drop] at hq
   exact hq
 walk_at "b"
 have e : D.tup (es.map fun ls => dLs (bkL a z ls)) = dDs (es.map (bkL a z)) := by unfold dDs; rw [List.map_map]; rfl
 rw [e]
 exact hw
theorem ok_p_with_nothing_ahead {Ω : Wd} {f : Addr} {fd : FuncData} (F : Fun Ω.K "with_nothing_ahead" "with_nothing_ahead" s_p_with_nothing_ahead f fd) (B : Bi Ω.mg) (Cq31 : Cal Ω "number_form" 1 2 c_nf) (Cq34 : Cal Ω "put_ahead" 1 3 c_put) : Ok Ω 2 f fd P_p_with_nothing_ahead c_wna := by
 refine fn_rf (N := N_p_with_nothing_ahead) F (b_p_with_nothing_ahead B Cq31 Cq34) (by kernel_rfl!) ?_
 rintro ds S W ⟨es, a, d, rfl, hz, hz2, hd, hw⟩ hl
 walk_at "b"
 refine cm_enc (fun ls => dLs (noL a d ls)) (by omega) ?_ ?_
 · intro j ls hj Q hq
   have := hz2 ls (List.mem_of_getElem? hj)
   walk_at "b"
   refine ⟨rfl, 0, d, rfl, hd, ?_⟩
   walk_at "b"
   refine ⟨rfl, _, _, a, rfl, by rw [List.length_map]; omega, ?_⟩
   unfold dLs noL at hq
   rw [List.map_append, List.map_cons, List.map_take, List.map_drop] at hq
   exact hq
 walk_at "b"
 have e : D.tup (es.map fun ls => dLs (noL a d ls)) = dDs (es.map (noL a d)) := by unfold dDs; rw [List.map_map]; rfl
 rw [e]
 exact hw
def c_cutd : Ct := fun ds S W => ∃ es, ∃ a : Nat, ds = [dDs es, .int a] ∧ es.length ≤ 1000 ∧ (∀ ls ∈ es, ls.length ≤ 1000) ∧ W (dDs (es.map (cutL a))) S
theorem ok_p_cut_deeds {Ω : Wd} {f : Addr} {fd : FuncData} (F : Fun Ω.K "cut_deeds" "cut_deeds" s_p_cut_deeds f fd) (B : Bi Ω.mg) (Cq28 : Cal Ω "left_out" 1 2 c_left) : Ok Ω 2 f fd P_p_cut_deeds c_cutd := by
 refine fn_rf (N := N_p_cut_deeds) F (b_p_cut_deeds B Cq28) (by kernel_rfl!) ?_
 rintro ds S W ⟨es, a, rfl, hz, hz2, hw⟩ hl
 walk_at "b"
 refine cm_enc (fun ls => dLs (cutL a ls)) (by omega) ?_ ?_
 · intro j ls hj Q hq
   have := hz2 ls (List.mem_of_getElem? hj)
   walk_at "b"
   refine ⟨rfl, _, a, rfl, by rw [List.length_map]; omega, ?_⟩
   unfold dLs cutL at hq
   rw [List.map_append, List.map_take, List.map_drop] at hq
   exact hq
 walk_at "b"
 have e : D.tup (es.map fun ls => dLs (cutL a ls)) = dDs (es.map (cutL a)) := by unfold dDs; rw [List.map_map]; rfl
 rw [e]
 exact hw
structure MvG (m : Nat) (p : Pn) (i j a : Int) (es : List (List Ln)) (ls : List Ln) (x : Int) (f : List Int) (i' j' a' : Nat) : Prop where
 i : i = i'
 j : j = j'
 a : a = a'
 he : p[i']? = some es
 hs : es[j']? = some ls
 la : a' < m
 fa : ls[a']? = some (.fm (x :: f))
def c_movdX : XCt := fun ds S W WE => ∃ w nss x, ∃ i j a k : Int, ds = [dPr w nss, x, .int i, .int j, .int a, .int k] ∧ Nds nss ∧ flat S ∧ (isPlanB nss x = false → WE "NoPlan" S) ∧
 ∀ m p, x = dPn p → PnOk nss m p → ((∀ es ls y f i' j' a', ¬ MvG m p i j a es ls y f i' j' a') → WE "NoTurn" S) ∧ ∀ es ls y f i' j' a', MvG m p i j a es ls y f i' j' a' → W (dPn (p.set i' (es.set j' (mvL a' k ls)))) S
theorem ok_p_moved {Ω : Wd} {f : Addr} {fd : FuncData} (F : Fun Ω.K "moved" "moved" s_p_moved f fd) (E : ExF Ω.mg Ω.K XL XT) (Cq39 : CalX Ω "refuse_no_plan" 7 2 c_rnpX) (Cq38 : CalX Ω "refuse_no_nest" 1 2 c_rnnX) (Cq35 : CalX Ω "refuse_no_deed" 1 2 c_rndX) (Cq37 : CalX Ω "refuse_no_line" 2 2 c_rnlX) (Cq36 : CalX Ω "refuse_no_forms" 1 2 c_rnfX) (Cq40 : Cal Ω "replaced" 1 3 c_repl) (Cq30 : Cal Ω "moved_lines" 2 3 c_mvl) : OkX Ω 8 f fd P_p_moved c_movdX := by
 refine fn_rx (N := N_p_moved) F (b_p_moved E Cq39 Cq38 Cq35 Cq37 Cq36 Cq40 Cq30) (by kernel_rfl!) ?_
 rintro ds S W WE ⟨w, nss, x, i, j, a, k, rfl, hN, hS, h0, h1⟩ hl
 walk_at "b"
 refine ⟨rfl, w, nss, x, rfl, hN, hS, h0, fun m p e hok => ?_⟩
 subst e
 obtain ⟨hno, hw⟩ := h1 m p rfl hok
 have h : Pl nss m p S := ⟨hN, hok, hS⟩
 have hp3 := h.p.1
 have hn3 := h.n.2.1
 have hm9 := h.p.2.1.2
 walk_at "b"
 refine ⟨rfl, p, i, rfl, fun z => hno fun es ls y f i' j' a' g => not_inR z g.i (List.getElem?_eq_some_iff.mp g.he).1, fun zi => ?_⟩
 obtain ⟨i, rfl, hil⟩ := inR_nat zi
 have hi := List.getElem?_eq_getElem hil
 generalize p[i] = es at hi
 obtain ⟨n, hn, hd, n1, n2, n3⟩ := h.deeds hi
 have hel := hd.1
 have same : ∀ {es' ls y f i' j' a'}, MvG m p (i : Int) j a es' ls y f i' j' a' → es' = es ∧ i' = i := fun {es' ls y f i' j' a'} g => by
  obtain ⟨g1, g2, g3, g4, g5⟩ := g
  obtain rfl : i = i' := by omega
  rw [hi] at g4
  cases g4
  exact ⟨rfl, rfl⟩
 walk_at "b"
 refine ⟨_, mapI hi, ?_⟩
 walk_at "b"
 refine ⟨rfl, es, j, rfl, fun z => hno fun es' ls y f i' j' a' g => ?_, fun zj => ?_⟩
 · obtain ⟨rfl, rfl⟩ := same g
   exact not_inR z g.j (List.getElem?_eq_some_iff.mp g.hs).1
 obtain ⟨j, rfl, hjl⟩ := inR_nat zj
 have hj := List.getElem?_eq_getElem hjl
 generalize es[j] = ls at hj
 have hls := hd.2 ls (List.mem_of_getElem? hj)
 have hll := hls.1
 walk_at "b"
 refine ⟨rfl, nss, m, p, a, rfl, h, fun z => hno fun es ls y f i' j' a' g => not_inR z g.a g.la, fun za => ?_⟩
 obtain ⟨a, rfl, ha⟩ := inR_nat za
 have ec : cutD (es.map dLs) (some (j : Int)) (some ((j : Int) + 1)) = [ls].map dLs := cut_one (by rw [List.getElem?_map, hj]; rfl)
 walk_at "b"
 rw [ec]
 refine ⟨rfl, [ls], a, rfl, fun l hl => by rw [List.mem_singleton.mp hl, hll]; exact ha, by show 1 ≤ 1000; decide, fun z => hno fun es' ls' y f i' j' a' g => ?_, fun hf => ?_⟩
 · obtain ⟨rfl, rfl⟩ := same g
   obtain rfl : j = j' := by have := g.j; omega
   obtain rfl : a = a' := by have := g.a; omega
   have e1 := g.hs
   rw [hj] at e1
   cases e1
   exact z fun l hl => by rw [List.mem_singleton.mp hl]; exact ⟨_, g.fa⟩
 obtain ⟨f, hf⟩ := hf ls List.mem_cons_self
 have hfl := hls.few n1 hf
 obtain ⟨x, f, rfl⟩ : ∃ x f', f = x :: f' := by
  cases f with
  | nil => simp at hfl
  | cons x f => exact ⟨x, f, rfl⟩
 rw [List.length_cons] at hfl
 have hw := hw es ls x f i j a ⟨rfl, rfl, rfl, hi, hj, ha, hf⟩
 walk_at "b"
 refine ⟨_, mapI hj, ?_⟩
 walk_at "b"
 refine ⟨rfl, ls, x, f, k, a, rfl, by omega, hf, by omega, ?_⟩
 walk_at "b"
 refine ⟨rfl, _, _, j, rfl, by rw [List.length_map]; exact hjl, by rw [List.length_map]; omega, ?_⟩
 rw [map_set]
 walk_at "b"
 refine ⟨rfl, _, _, i, rfl, by rw [List.length_map]; exact hil, by rw [List.length_map]; omega, ?_⟩
 have e : D.tup ((es.set j (mvL a k ls)).map dLs) = dDs (es.set j (mvL a k ls)) := rfl
 rw [e, map_set]
 exact hw
structure BkG (m : Nat) (p : Pn) (i a : Int) (es : List (List Ln)) (i' a' : Nat) : Prop where
 i : i = i'
 a : a = a'
 he : p[i']? = some es
 la : a' < m
 fa : Fms a' es
 nine : m < 9
def c_blkX : XCt := fun ds S W WE => ∃ w nss x, ∃ i a z : Int, ds = [dPr w nss, x, .int i, .int a, .int z] ∧ Nds nss ∧ flat S ∧ (isPlanB nss x = false → WE "NoPlan" S) ∧
 ∀ m p, x = dPn p → PnOk nss m p → ((∀ es i' a', ¬ BkG m p i a es i' a') → WE "NoTurn" S) ∧ ∀ es i' a', BkG m p i a es i' a' → W (dPn (blkP nss i' a' z p)) S
theorem ok_p_blocked {Ω : Wd} {f : Addr} {fd : FuncData} (F : Fun Ω.K "blocked" "blocked" s_p_blocked f fd) (B : Bi Ω.mg) (E : ExF Ω.mg Ω.K XL XT) (Cq39 : CalX Ω "refuse_no_plan" 7 2 c_rnpX) (Cq32 : Cal Ω "number_of_lines" 1 1 c_nol) (Cq38 : CalX Ω "refuse_no_nest" 1 2 c_rnnX) (Cq37 : CalX Ω "refuse_no_line" 2 2 c_rnlX) (Cq36 : CalX Ω "refuse_no_forms" 1 2 c_rnfX) (Cq43 : Cal Ω "with_block_ahead" 2 3 c_wba) (Cq44 : Cal Ω "with_nothing_ahead" 2 3 c_wna) : OkX Ω 8 f fd P_p_blocked c_blkX := by
 refine fn_rx (N := N_p_blocked) F (b_p_blocked B E Cq39 Cq32 Cq38 Cq37 Cq36 Cq43 Cq44) (by kernel_rfl!) ?_
 rintro ds S W WE ⟨w, nss, x, i, a, z, rfl, hN, hS, h0, h1⟩ hl
 walk_at "b"
 refine ⟨rfl, w, nss, x, rfl, hN, hS, h0, fun m p e hok => ?_⟩
 subst e
 obtain ⟨hno, hw⟩ := h1 m p rfl hok
 have h : Pl nss m p S := ⟨hN, hok, hS⟩
 have hp3 := h.p.1
 have hn3 := h.n.2.1
 have hm9 := h.p.2.1.2
 walk_at "b"
 refine ⟨rfl, p, i, rfl, fun z => hno fun es i' a' g => not_inR z g.i (List.getElem?_eq_some_iff.mp g.he).1, fun zi => ?_⟩
 walk_at "b"
 refine ⟨rfl, nss, m, p, a, rfl, h, fun z => hno fun es i' a' g => not_inR z g.a g.la, fun za => ?_⟩
 obtain ⟨i, rfl, hil⟩ := inR_nat zi
 obtain ⟨a, rfl, ha⟩ := inR_nat za
 have hi := List.getElem?_eq_getElem hil
 generalize p[i] = es at hi
 obtain ⟨n, hn, hd, n1, n2, n3⟩ := h.deeds hi
 have hel := hd.1
 walk_at "b"
 refine ⟨_, mapI hi, ?_⟩
 walk_at "b"
 refine ⟨rfl, es, a, rfl, fun ls hls => by rw [(hd.2 ls hls).1]; exact ha, by omega, fun z => hno fun es' i' a' g => ?_, fun hf => ?_⟩
 · obtain ⟨g1, g2, g3, g4, g5⟩ := g
   obtain rfl : i = i' := by omega
   obtain rfl : a = a' := by omega
   rw [hi] at g3
   cases g3
   exact z g5
 walk_at "b"
 refine ⟨rfl, nss, m, p, rfl, h, ?_⟩
 walk_at "n"
 by_cases h9 : m = 9
 · rw [decide_eq_true (by omega)]
   walk_at "b"
   refine hno fun es' i' a' g => ?_
   have := g.nine
   omega
 rw [decide_eq_false (by omega)]
 have hw := hw es i a ⟨rfl, rfl, hi, ha, hf, by omega⟩
 walk_at "b"
 refine for_by ⟨fun j Γ' T => (∃ o6 o7 o8, Γ' = [some (dPr w nss), some (dPn p), some (.int i), some (.int a), some (.int z), some (.loc S.length), o6, o7, o8]) ∧ T = S ++ [((blkP nss i a z p).take j).map dDs], ⟨⟨_, _, _, rfl⟩, rfl⟩, ?_, ?_⟩
 · rintro j e Γ' T he ⟨⟨o6, o7, o8, rfl⟩, rfl⟩
   obtain ⟨e', he', rfl⟩ := idx_get he
   obtain ⟨ds, hds, rfl⟩ := map_get he'
   have hjl := (List.getElem?_eq_some_iff.mp hds).1
   obtain ⟨q, hq, hdq, q1, q2, q3⟩ := h.deeds hds
   have hql := hdq.1
   have hlen : ∀ ls ∈ ds, ls.length ≤ 1000 := fun ls hls => by have := (hdq.2 ls hls).1; omega
   have eb : (blkP nss i a z p)[j]? = some (if j = i then ds.map (bkL a z) else ds.map (noL a q.1.length)) := by
    unfold blkP
    rw [List.getElem?_mapIdx, hds]
    show some _ = _
    rw [show nss.getD j ([], []) = q from by rw [List.getD, hq]; rfl]
   walk_at "b"
   refine ⟨rfl, ?_⟩
   walk_at "b"
   refine ⟨_, mapI hq, ?_⟩
   walk_at "b"
   by_cases hji : j = i
   · rw [decide_eq_true (by omega)]
     walk_at "b"
     subst hji
     rw [hi] at hds
     cases hds
     refine ⟨rfl, es, z, a, rfl, by omega, hlen, hf, ?_⟩
     refine ⟨_, last_get _ _, by rw [List.length_map, List.length_take]; omega, ?_⟩
     refine ⟨⟨_, _, _, rfl⟩, ?_⟩
     rw [last_set, take_one eb, if_pos rfl, List.map_append]; rfl
   · rw [decide_eq_false (by omega)]
     walk_at "b"
     refine ⟨rfl, ds, a, q.1.length, rfl, by omega, hlen, by omega, ?_⟩
     refine ⟨_, last_get _ _, by rw [List.length_map, List.length_take]; omega, ?_⟩
     refine ⟨⟨_, _, _, rfl⟩, ?_⟩
     rw [last_set, take_one eb, if_neg hji, List.map_append]; rfl
 · rintro Γ' T ⟨⟨o6, o7, o8, rfl⟩, rfl⟩
   walk_at "b"
   refine ⟨_, last_get _ _, ?_⟩
   have el : ((p.map dDs).mapIdx fun i d => D.tup [D.int (i : Int), d]).length = (blkP nss i a z p).length := by simp [blkP]
   rw [el, List.take_length]
   refine .inr ⟨_, S, rfl, Nat.le_refl _, ?_, h.f, hw⟩
   exact noloc_dPn _
structure CuG (m : Nat) (a : Int) (a' : Nat) : Prop where
 a : a = a'
 la : a' < m
 two : 2 ≤ m
def c_cutX : XCt := fun ds S W WE => ∃ w nss x, ∃ a : Int, ds = [dPr w nss, x, .int a] ∧ Nds nss ∧ flat S ∧ (isPlanB nss x = false → WE "NoPlan" S) ∧
 ∀ m p, x = dPn p → PnOk nss m p → ((∀ a', ¬ CuG m a a') → WE "NoTurn" S) ∧ ∀ a', CuG m a a' → W (dPn (p.map (List.map (cutL a')))) S
theorem ok_p_cut {Ω : Wd} {f : Addr} {fd : FuncData} (F : Fun Ω.K "cut" "cut" s_p_cut f fd) (B : Bi Ω.mg) (E : ExF Ω.mg Ω.K XL XT) (Cq39 : CalX Ω "refuse_no_plan" 7 2 c_rnpX) (Cq32 : Cal Ω "number_of_lines" 1 1 c_nol) (Cq37 : CalX Ω "refuse_no_line" 2 2 c_rnlX) (Cq16 : Cal Ω "cut_deeds" 2 2 c_cutd) : OkX Ω 8 f fd P_p_cut c_cutX := by
 refine fn_rx (N := N_p_cut) F (b_p_cut B E Cq39 Cq32 Cq37 Cq16) (by kernel_rfl!) ?_
 rintro ds S W WE ⟨w, nss, x, a, rfl, hN, hS, h0, h1⟩ hl
 walk_at "b"
 refine ⟨rfl, w, nss, x, rfl, hN, hS, h0, fun m p e hok => ?_⟩
 subst e
 obtain ⟨hno, hw⟩ := h1 m p rfl hok
 have h : Pl nss m p S := ⟨hN, hok, hS⟩
 have hp3 := h.p.1
 have hn3 := h.n.2.1
 have hm9 := h.p.2.1
 walk_at "b"
 refine ⟨rfl, nss, m, p, a, rfl, h, fun z => hno fun a' g => not_inR z g.a g.la, fun za => ?_⟩
 obtain ⟨a, rfl, ha⟩ := inR_nat za
 walk_at "b"
 refine ⟨rfl, nss, m, p, rfl, h, ?_⟩
 walk_at "n"
 by_cases h2 : m = 1
 · rw [decide_eq_true (by omega)]
   walk_at "b"
   refine hno fun a' g => ?_
   have := g.two
   omega
 rw [decide_eq_false (by omega)]
 have hw := hw a ⟨rfl, ha, by omega⟩
 walk_at "b"
 refine cm_enc (fun es => dDs (es.map (cutL a))) (by omega) ?_ ?_
 · intro j es hj Q hq
   obtain ⟨q, hq1, hdq, q1, q2, q3⟩ := h.deeds hj
   have hql := hdq.1
   walk_at "b"
   exact ⟨rfl, es, a, rfl, by omega, fun ls hls => by have := (hdq.2 ls hls).1; omega, hq⟩
 walk_at "b"
 have e : D.tup (p.map fun es => dDs (es.map (cutL a))) = dPn (p.map (List.map (cutL a))) := by unfold dPn; rw [List.map_map]; rfl
 rw [e]
 exact hw
end K29
namespace K29
open PySem L2 DL RF XE
def c_cell : Ct := fun ds S W => ∃ ns k, ds = [.lst (List.map .int ns), .int k] ∧ 0 ≤ k ∧ ∀ v, W (.int v) S
def c_pen : Ct := fun ds S W => ∃ ns, ds = [.lst (List.map .int ns)] ∧ ns.length ≤ 63 ∧ ∀ a c n m z, 0 ≤ a → W (.loc S.length) (S ++ [penL ns a c n m z])
def c_take : Ct := fun ds S W => ∃ k m, ds = [.loc k, .int m] ∧ Pen S k ∧ 0 < m ∧ m < 1000000000000000000000000000000000000000000000000000000000000 ∧ ∀ v S', 0 ≤ v → v < m → Upd S k S' → Pen S' k → W (.int v) S'
theorem take_ok {S : Store} {k : Nat} {m : Int} {W : WD} (hp : Pen S k) (h0 : 0 < m) (h1 : m < 1000000000000000000000000000000000000000000000000000000000000) (w : ∀ v S', 0 ≤ v → v < m → Upd S k S' → Pen S' k → W (.int v) S') : ([D.loc k, .int m].length = 2 ∧ c_take [.loc k, .int m] S W) := ⟨rfl, k, m, rfl, hp, h0, h1, w⟩
theorem ok_l_cell_at {Ω : Wd} {f : Addr} {fd : FuncData} (F : Fun Ω.K "_law_cell_at" "_law_cell_at" s_l_cell_at f fd) (B : Bi Ω.mg) : Ok Ω 1 f fd P_l_cell_at c_cell := by
 refine fn_rf (N := N_l_cell_at) F (b_l_cell_at B) (by kernel_rfl!) ?_
 rintro ds S W ⟨ns, k, rfl, hk, hw⟩ hl
 walk_at "n"
 refine ⟨fun c => ?_, fun c => ?_⟩
 · walk_at "n"
   have c' := of_decide_eq_true c
   obtain ⟨x, h1, h2⟩ := atI_lt hk c'
   rw [List.getElem?_map] at h2
   cases e : ns[k.toNat]? with
   | none => rw [e] at h2; cases h2
   | some v =>
     rw [e] at h2
     cases h2
     exact ⟨_, h1, hw v⟩
 · exact hw 0
theorem ok_l_pen {Ω : Wd} {f : Addr} {fd : FuncData} (F : Fun Ω.K "_law_pen" "_law_pen" s_l_pen f fd) (B : Bi Ω.mg) (Cq1 : Cal Ω "_law_cell_at" 1 2 c_cell) : Ok Ω 2 f fd P_l_pen c_pen := by
 refine fn_rf (N := N_l_pen) F (b_l_pen B Cq1) (by kernel_rfl!) ?_
 rintro ds S W ⟨ns, rfl, hn, hw⟩ hl
 walk_at "n"
 have hc : (cutD (ns.map D.int) none (some 63)).length ≤ 63 := Nat.le_trans (cut_len _ _ _) (by rw [List.length_map]; exact hn)
 refine comp_by ⟨by rw [List.length_mapIdx]; omega, fun i acc S' => (∃ ms : List Int, acc = ms.map D.int) ∧ S' = S, ⟨⟨[], rfl⟩, rfl⟩, ?_, ?_⟩
 · rintro i e acc S' he ⟨⟨ms, rfl⟩, rfl⟩
   rw [List.getElem?_mapIdx] at he
   cases e1 : (cutD (ns.map D.int) none (some 63))[i]? with
   | none => rw [e1] at he; cases he
   | some d0 =>
     rw [e1] at he
     cases he
     have hi : i < 63 := Nat.lt_of_lt_of_le (List.getElem?_eq_some_iff.mp e1).1 hc
     obtain ⟨v, _, rfl⟩ := List.mem_map.mp (cut_mem (List.mem_of_getElem? e1))
     have hkk : (0 : Int) ≤ (i : Int) * i ∧ (i : Int) * i ≤ 63 * 63 := ⟨Int.mul_nonneg (by omega) (by omega), Int.mul_le_mul (by omega) (by omega) (by omega) (by omega)⟩
     refine ⟨rfl, fun _ => ⟨by decide, .inl ⟨by omega, by omega⟩, .inr ⟨by omega, by omega⟩, ⟨ms ++ [_], by rw [List.map_append]; rfl⟩, rfl⟩, fun z => tf z⟩
 · rintro acc S' ⟨⟨ms, rfl⟩, rfl⟩
   refine ⟨_, rfl, by decide, ?_⟩
   walk_at "n"
   refine ⟨rfl, ns, 1, rfl, by decide, fun c => ?_⟩
   walk_at "n"
   refine ⟨rfl, ns, 0, rfl, by decide, fun m => ?_⟩
   walk_at "n"
   refine ⟨by decide, by show 6 ≤ 1000000; decide, ?_⟩
   exact hw 1 c 0 (m % 2) _ (by decide)
theorem ok_l_take {Ω : Wd} {f : Addr} {fd : FuncData} (F : Fun Ω.K "_law_take" "_law_take" s_l_take f fd) (Cq1 : Cal Ω "_law_cell_at" 1 2 c_cell) : Ok Ω 2 f fd P_l_take c_take := by
 refine fn_rf (N := N_l_take) F (b_l_take Cq1) (by kernel_rfl!) ?_
 rintro ds S W ⟨k, m, rfl, ⟨ns, a, c, n, y, z, hk, ha⟩, h0, h1, hw⟩ hl
 have k2 : ∀ l : List D, (S.set k l)[k]? = some l := fun l => set_get hk
 have fin : ∀ a c n z v, 0 ≤ a → W (.int (v % m)) (S.set k (penL ns a c n y z)) := fun a c n z v ha =>
  hw _ _ (Int.emod_nonneg _ (by omega)) (Int.emod_lt_of_pos _ h0) ⟨ns, a, c, n, y, z, rfl, ha⟩ ⟨ns, a, c, n, y, z, k2 _, ha⟩
 have rest : ∀ a c n, 0 ≤ a → (b_l_take_2 Cq1).wp [some (.loc k), some (.int m), none] (S.set k (penL ns a c n y z)) { nx := fun _ S1 => W .non S1, rt := W } := by
  intro a c n ha
  walk_at "n"
  refine ⟨_, _, k2 _, rfl, ?_⟩
  walk_at "n"
  refine ⟨_, _, k2 _, rfl, ?_⟩
  rw [List.set_set]
  walk_at "n"
  refine ⟨_, _, k2 _, rfl, h0, ?_⟩
  walk_at "n"
  refine ⟨_, _, k2 _, rfl, ⟨h0, by omega⟩, _, _, k2 _, rfl, ?_⟩
  rw [List.set_set]
  walk_at "n"
  exact fin a _ _ z c ha
 have hself : S.set k (penL ns a c n y z) = S := by
  obtain ⟨hl', e⟩ := List.getElem?_eq_some_iff.mp hk
  rw [← e, List.set_getElem_self]
 walk_at "n"
 refine ⟨_, _, hk, rfl, ?_⟩
 walk_at "n"
 refine ⟨fun q => ?_, fun q => ?_⟩
 · walk_at "n"
   refine ⟨_, _, hk, rfl, .inr ⟨by decide, by decide⟩, by decide, _, _, hk, rfl, _, _, k2 _, rfl, .inr ⟨by decide, by decide⟩, by decide, ⟨by decide, by decide⟩, h0, ?_⟩
   exact fin a c n _ _ ha
 · walk_at "n"
   refine ⟨_, _, hk, rfl, ?_⟩
   walk_at "n"
   refine ⟨fun q => ?_, fun q => ?_⟩
   · walk_at "n"
     refine ⟨_, _, hk, rfl, _, _, hk, rfl, ?_⟩
     walk_at "n"
     refine ⟨_, _, k2 _, rfl, _, _, k2 _, rfl, rfl, ns, a + 1, rfl, by omega, fun v => ?_⟩
     walk_at "n"
     refine ⟨_, _, k2 _, rfl, ?_⟩
     rw [List.set_set]
     walk_at "n"
     refine ⟨_, _, k2 _, rfl, ?_⟩
     rw [List.set_set]
     exact rest (a + 1) v 0 (by omega)
   · have := rest a c n ha
     rw [hself] at this
     exact this
theorem _root_.DL.Pen.lt {S : Store} {k : Nat} (p : Pen S k) : k < S.length := by
 obtain ⟨ns, a, c, n, m, z, h, _⟩ := p
 exact (List.getElem?_eq_some_iff.mp h).1
theorem _root_.DL.Pen.app {S : Store} {k : Nat} (J : Store) (p : Pen S k) : Pen (S ++ J) k := by
 have hl := p.lt
 obtain ⟨ns, a, c, n, m, z, h, ha⟩ := p
 exact ⟨ns, a, c, n, m, z, by rw [List.getElem?_append_left hl]; exact h, ha⟩
theorem _root_.DL.Upd.split {S T : Store} {k : Nat} {J : Store} (p : Pen S k) (u : Upd (S ++ J) k T) : ∃ S', T = S' ++ J ∧ Upd S k S' ∧ Pen S' k := by
 have hl := p.lt
 obtain ⟨ns, a, c, n, m, z, rfl, hn⟩ := u
 have u : Upd S k (S.set k (penL ns a c n m z)) := ⟨ns, a, c, n, m, z, rfl, hn⟩
 exact ⟨S.set k (penL ns a c n m z), by rw [List.set_append_left k _ hl], u, u.pen p⟩
theorem intsP {P : Int → Prop} : ∀ {ys : List D}, (∀ (i : Nat) (y : D), ys[i]? = some y → ∃ n : Int, y = D.int n ∧ P n) → ∃ fs : List Int, ys = fs.map D.int ∧ ∀ n ∈ fs, P n
 | [], _ => ⟨[], rfl, by simp⟩
 | y :: ys, h => by
   obtain ⟨n, rfl, hn⟩ := h 0 y rfl
   obtain ⟨fs, rfl, hf⟩ := intsP (ys := ys) fun i y h' => h (i + 1) y (by simpa using h')
   exact ⟨n :: fs, rfl, by
    intro m hm
    rcases List.mem_cons.mp hm with rfl | hm
    · exact hn
    · exact hf m hm⟩
theorem _root_.DL.Upd.flat {S S' : Store} {k : Nat} (u : Upd S k S') (h : flat S) : RF.flat S' := by
 obtain ⟨ns, a, c, n, m, z, rfl, _⟩ := u
 intro l hl
 rcases List.mem_or_eq_of_mem_set hl with hl | rfl
 · exact h l hl
 · have : nolocs [D.lst (ns.map .int), .int a, .int c, .int n, .int m, .int z] = true := by
    have e : noloc (D.lst (ns.map .int)) = true := nolocs_nm ns
    simp only [nolocs, e, Bool.and_true]; rfl
   exact this
theorem flat_app {S J : Store} (h : flat S) (hJ : ∀ l ∈ J, nolocs l = true) : flat (S ++ J) := by
 intro x hx
 rcases List.mem_append.mp hx with hx | hx
 · exact h x hx
 · exact hJ x hx
theorem lget {A : Store} {x : List D} {n : Nat} (h : n = A.length) : (A ++ [x])[n]? = some x := by subst h; exact last_get _ _
theorem lset {A : Store} {x y : List D} {n : Nat} (h : n = A.length) : (A ++ [x]).set n y = A ++ [y] := by subst h; exact last_set _ _ _
theorem mid_at {S J : Store} {l : List D} {n : Nat} (h : n = S.length) : (S ++ [l] ++ J)[n]? = some l := by
 subst h
 rw [List.getElem?_append_left (by simp)]; exact last_get _ _
theorem mid_put {S J : Store} {l l' : List D} {n : Nat} (h : n = S.length) : (S ++ [l] ++ J).set n l' = S ++ [l'] ++ J := by
 subst h
 rw [List.set_append_left _ _ (by simp), last_set]
def NdV (n : Nd) : Prop := (1 ≤ n.1.length ∧ n.1.length ≤ 3) ∧ (1 ≤ n.2.length ∧ n.2.length ≤ 3) ∧ noloc (dNd n) = true ∧ deep (dNd n) ≤ 10
def ProgI (S : Store) (k : Nat) (i : Nat) (Γ' : Gam) (T : Store) : Prop := ∃ S' nss J o2 o3 o4 o5 o6, T = S' ++ [List.map dNd nss] ++ J ∧ Upd S k S' ∧ Pen S' k ∧ nss.length = i ∧ (∀ n ∈ nss, NdV n) ∧ Γ' = [some (.loc k), some (.loc S.length), o2, o3, o4, o5, o6]
def loop31 (k : Nat) (lo hi : Int) : D := .tup [dN (lo :: List.replicate k 0), dN (hi :: List.replicate k 0)]
def LoopI (S : Store) (k : Nat) (nss : List Nd) (J : Store) (n : D) (m : Nat) (Γ' : Gam) (T : Store) : Prop := ∃ S' lp o4 o5 o6, T = S' ++ [List.map dNd nss] ++ J ++ [lp] ∧ Upd S k S' ∧ Pen S' k ∧ lp.length = m ∧ (∀ x ∈ lp, ∃ q lo hi, x = loop31 q lo hi) ∧ Γ' = [some (.loc k), some (.loc S.length), some n, some (.loc (S.length + 1 + J.length)), o4, o5, o6]
theorem noloc_l31 (q : Nat) (lo hi : Int) : noloc (loop31 q lo hi) = true := by
 have e1 : noloc (dN (lo :: List.replicate q 0)) = true := nolocs_nm _
 have e2 : noloc (dN (hi :: List.replicate q 0)) = true := nolocs_nm _
 show nolocs [_, _] = true
 simp only [nolocs, e1, e2, Bool.and_true]
theorem deeps_of {l : List D} {n : Nat} (h : ∀ d ∈ l, deep d ≤ n) : deeps l ≤ n := by
 induction l with
 | nil => exact Nat.zero_le _
 | cons d l ih =>
   have := h d List.mem_cons_self
   have := ih fun x hx => h x (List.mem_cons_of_mem _ hx)
   show max (deep d) (deeps l) ≤ n
   omega
theorem nolocs_of {l : List D} (h : ∀ d ∈ l, noloc d = true) : nolocs l = true := by
 induction l with
 | nil => rfl
 | cons d l ih =>
   simp only [nolocs, h d List.mem_cons_self, ih fun x hx => h x (List.mem_cons_of_mem _ hx), Bool.and_true]
theorem deep_dN (f : List Int) : deep (dN f) ≤ 1 := by
 show deeps (f.map D.int) + 1 ≤ 1
 have : deeps (f.map D.int) ≤ 0 := deeps_of fun d hd => by obtain ⟨n, _, rfl⟩ := List.mem_map.mp hd; exact Nat.le_refl _
 omega
theorem deep_l31 (q : Nat) (lo hi : Int) : deep (loop31 q lo hi) ≤ 2 := by
 show deeps [dN _, dN _] + 1 ≤ 2
 have := deep_dN (lo :: List.replicate q 0)
 have := deep_dN (hi :: List.replicate q 0)
 show max (deep (dN _)) (max (deep (dN _)) 0) + 1 ≤ 2
 omega
theorem nd_ok {lp : List D} {d : D} {q : Nat} (h1 : 1 ≤ lp.length) (h3 : lp.length ≤ 3) (hl : ∀ x ∈ lp, ∃ q lo hi, x = loop31 q lo hi) (hq1 : 1 ≤ q) (hq3 : q ≤ 3) (hd : noloc d = true) (hdd : deep d ≤ 8) : NdV (lp, List.replicate q d) := by
 have n1 : nolocs lp = true := nolocs_of fun x hx => by obtain ⟨a, b, c, rfl⟩ := hl x hx; exact noloc_l31 _ _ _
 have n2 : nolocs (List.replicate q d) = true := nolocs_of fun x hx => by rw [List.eq_of_mem_replicate hx]; exact hd
 have e1 : deeps lp ≤ 2 := deeps_of fun x hx => by obtain ⟨a, b, c, rfl⟩ := hl x hx; exact deep_l31 _ _ _
 have e2 : deeps (List.replicate q d) ≤ 8 := deeps_of fun x hx => by rw [List.eq_of_mem_replicate hx]; exact hdd
 refine ⟨⟨h1, h3⟩, by simp; omega, ?_, ?_⟩
 · show nolocs [D.tup lp, D.tup (List.replicate q d)] = true
   have a1 : noloc (D.tup lp) = true := n1
   have a2 : noloc (D.tup (List.replicate q d)) = true := n2
   simp only [nolocs, a1, a2, Bool.and_true]
 · show max (deeps lp + 1) (max (deeps (List.replicate q d) + 1) 0) + 1 ≤ 10
   omega
theorem flat_rep (q : Nat) (d : D) : (List.replicate q [d]).flatten = List.replicate q d := by
 induction q with
 | zero => rfl
 | succ q ih => rw [List.replicate_succ, List.flatten_cons, ih, List.replicate_succ]; rfl
def c_prog31 : Ct := fun ds S W => ∃ k : Nat, ds = [.loc k] ∧ Pen S k ∧ flat S ∧ ∀ nss S', 1 ≤ nss.length → nss.length ≤ 3 → (∀ n ∈ nss, NdV n) → Upd S k S' → Pen S' k → flat S' → W (dPr (.tup [.int 1]) nss) S'
theorem ok_l_program {Ω : Wd} {f : Addr} {fd : FuncData} (F : Fun Ω.K "_law_program" "_law_program" s_l_program f fd) (B : Bi Ω.mg) (Cq10 : Cal Ω "_law_take" 2 2 c_take) : Ok Ω 3 f fd P_l_program c_prog31 := by
 refine fn_rf (N := N_l_program) F (Bl.drp (b_l_program B Cq10)) (by kernel_rfl!) ?_
 rintro ds S W ⟨k, rfl, hp, hS, hw⟩ hl
 walk_at "b"
 refine take_ok (hp.app _) (by decide) (by decide) fun v T v0 v1 u1 p1 => ?_
 obtain ⟨S1, rfl, u1, p1⟩ := u1.split hp
 walk_at "b"
 refine ⟨⟨by omega, by omega⟩, for_by ⟨ProgI S k, ⟨S1, [], [], none, none, none, none, none, by simp, u1, p1, rfl, (fun n h => nomatch h), rfl⟩, ?_, ?_⟩⟩
 · rintro i e Γ' T he ⟨S2, nss, J, o2, o3, o4, o5, o6, rfl, u2, p2, hnl, hns, rfl⟩
   obtain ⟨hi, rfl⟩ := upTo_get he
   have l2 := u2.len
   have eL : (S2 ++ [nss.map dNd] ++ J).length = S.length + 1 + J.length := by simp [l2]; omega
   walk_at "b"
   rw [eL, List.append_assoc, List.append_assoc]
   refine take_ok (p2.app _) (by decide) (by decide) fun v2 T y0 y1 u3 p3 => ?_
   obtain ⟨S3, rfl, u3, p3⟩ := u3.split p2
   have u3 := u2.trans u3
   rw [← List.append_assoc, ← List.append_assoc]
   walk_at "b"
   refine ⟨⟨by omega, by omega⟩, for_by ⟨LoopI S k nss J (.int (0 + (i : Int))), ⟨S3, [], _, _, _, rfl, u3, p3, rfl, (fun x h => nomatch h), rfl⟩, ?_, ?_⟩⟩
   · rintro q e Γ' T he ⟨S4, lp, o4, o5, o6, rfl, u4, p4, hll, hlp, rfl⟩
     obtain ⟨hq, rfl⟩ := upTo_get he
     have eq0 : (0 : Int) + (q : Int) = (q : Int) := by omega
     have ez : ((0 : Int) + (q : Int)).toNat = q := by omega
     walk_at "b"
     rw [List.append_assoc, List.append_assoc]
     refine take_ok (p4.app _) (by decide) (by decide) fun x T x0 x1 u5 p5 => ?_
     obtain ⟨S5, rfl, u5, p5⟩ := u5.split p4
     have u5 := u4.trans u5
     walk_at "b"
     refine ⟨⟨by omega, by omega⟩, by rw [ez]; show 1 * _ ≤ _; omega, ?_⟩
     rw [ez, zerosN]
     walk_at "b"
     refine take_ok (p5.app _) (by decide) (by decide) fun y T z0 z1 u6 p6 => ?_
     obtain ⟨S6, rfl, u6, p6⟩ := u6.split p5
     have u6 := u5.trans u6
     have l6 := u6.len
     walk_at "b"
     refine ⟨⟨by omega, by omega⟩, by rw [ez]; show 1 * _ ≤ _; omega, ?_⟩
     rw [ez, zerosN]
     walk_at "b"
     have eT : S6 ++ ([nss.map dNd] ++ (J ++ [lp])) = (S6 ++ [nss.map dNd] ++ J) ++ [lp] := by simp
     have eN : S.length + 1 + J.length = (S6 ++ [nss.map dNd] ++ J).length := by simp [l6]; omega
     rw [eT]
     refine ⟨_, lget eN, by omega, ?_⟩
     rw [lset eN]
     refine ⟨S6, _, _, _, _, rfl, u6, p6, by simp [hll], fun d hd => ?_, rfl⟩
     rcases List.mem_append.mp hd with hd | hd
     · exact hlp d hd
     · rw [List.mem_singleton.mp hd]
       exact ⟨q, _, _, rfl⟩
   · rintro Γ' T ⟨S4, lp, o4, o5, o6, rfl, u4, p4, hll, hlp, rfl⟩
     rw [upTo_length] at hll
     have l4 := u4.len
     have eN : S.length + 1 + J.length = (S4 ++ [nss.map dNd] ++ J).length := by simp [l4]; omega
     have e1 : ((lp.length : Int) + 1).toNat = lp.length + 1 := by omega
     walk_at "b"
     refine ⟨_, lget eN, ?_⟩
     walk_at "b"
     refine ⟨⟨by omega, by omega⟩, by rw [e1]; show 1 * _ ≤ _; omega, ?_⟩
     rw [e1, zerosN]
     walk_at "b"
     refine ⟨_, lget eN, ?_⟩
     walk_at "b"
     rw [List.append_assoc, List.append_assoc]
     refine take_ok (p4.app _) (by decide) (by decide) fun x T x0 x1 u5 p5 => ?_
     obtain ⟨S5, rfl, u5, p5⟩ := u5.split p4
     have u5 := u4.trans u5
     have l5 := u5.len
     obtain ⟨mm, hmm⟩ : ∃ mm : Nat, 1 + x = (mm : Int) := ⟨(1 + x).toNat, by omega⟩
     have em : (1 + x).toNat = mm := by omega
     walk_at "b"
     refine ⟨⟨by omega, by omega⟩, by rw [em]; show 1 * _ ≤ _; omega, ?_⟩
     rw [em, flat_rep]
     walk_at "b"
     rw [← List.append_assoc]
     refine ⟨_, mid_at l5.symm, by rw [List.length_map]; omega, ?_⟩
     rw [mid_put l5.symm]
     have hz : noloc (dN (List.replicate (lp.length + 1) 0)) = true := nolocs_nm _
     have hz2 := deep_dN (List.replicate (lp.length + 1) 0)
     refine ⟨S5, nss ++ [(lp, List.replicate mm (.tup [.int 0, .tup [dN (List.replicate (lp.length + 1) 0)], dN (List.replicate (lp.length + 1) 0), .tup []]))], J ++ [lp], _, _, _, _, _, ?_, u5, p5, by simp [hnl], fun n hn => ?_, rfl⟩
     · rw [List.map_append]; rfl
     · rcases List.mem_append.mp hn with hn | hn
       · exact hns n hn
       · rw [List.mem_singleton.mp hn]
         refine nd_ok (by omega) (by omega) hlp (by omega) (by omega) ?_ ?_
         · show nolocs [D.int 0, D.tup [dN _], dN _, D.tup []] = true
           have a : noloc (D.tup [dN (List.replicate (lp.length + 1) 0)]) = true := by show nolocs [_] = true; simp only [nolocs, hz, Bool.and_true]
           have b : noloc (D.tup []) = true := rfl
           simp only [nolocs, a, b, hz, Bool.and_true]; rfl
         · show max 0 (max (max (deep (dN _)) 0 + 1) (max (deep (dN _)) (max (0 + 1) 0))) + 1 ≤ 8
           omega
 · rintro Γ' T ⟨S2, nss, J, o2, o3, o4, o5, o6, rfl, u2, p2, hnl, hns, rfl⟩
   rw [upTo_length] at hnl
   walk_at "b"
   refine ⟨_, mid_at u2.len.symm, ?_⟩
   walk_at "b"
   rw [List.append_assoc]
   have f2 := u2.flat hS
   refine .inr ⟨_, S2, rfl, by rw [u2.len]; omega, ?_, f2, hw nss S2 (by omega) (by omega) hns u2 p2 f2⟩
   have a : noloc (D.tup (nss.map dNd)) = true := nolocs_of fun x hx => by obtain ⟨n, hn, rfl⟩ := List.mem_map.mp hx; exact (hns n hn).2.2.1
   show nolocs [D.tup [D.int 1], D.tup (nss.map dNd)] = true
   simp only [nolocs, a, Bool.and_true]; rfl
def c_num29 : Ct := fun ds S W => ∃ k : Nat, ds = [.loc k] ∧ Pen S k ∧ ∀ n S', -100000000000000000000000000000 ≤ n → n ≤ 100000000000000000000000000000 → Upd S k S' → Pen S' k → W (.int n) S'
theorem ok_l_number {Ω : Wd} {f : Addr} {fd : FuncData} (F : Fun Ω.K "_law_number" "_law_number" s_l_number f fd) (Cq10 : Cal Ω "_law_take" 2 2 c_take) : Ok Ω 3 f fd P_l_number c_num29 := by
 refine fn_rf (N := N_l_number) F (b_l_number Cq10) (by kernel_rfl!) ?_
 rintro ds S W ⟨k, rfl, hp, hw⟩ hl
 have two : ∀ (z : Int) (S' : Store), Upd S k S' → Pen S' k → 2 ≤ z → z ≤ 100000000000000000000000000000 → (b_l_number_1 Cq10).wp [some (.loc k), some (.int z)] S' { nx := fun _ S1 => W .non S1, rt := W } := by
  intro z S' u p h2 h6
  walk_at "n"
  refine ⟨.inl ⟨by decide, by decide⟩, ?_⟩
  walk_at "b"
  refine take_ok p (by omega) (by omega) fun x T x0 x1 u2 p2 => ?_
  walk_at "b"
  exact hw _ _ (by omega) (by omega) (u.trans u2) p2
 walk_at "b"
 refine take_ok hp (by decide) (by decide) fun v T v0 v1 u1 p1 => ?_
 have : v = 0 ∨ v = 1 ∨ v = 2 := by omega
 rcases this with rfl | rfl | rfl
 · refine ⟨_, rfl, two 2 T u1 p1 (by decide) (by decide)⟩
 · refine ⟨_, rfl, two 9 T u1 p1 (by decide) (by decide)⟩
 · refine ⟨_, rfl, two 100000000000000000000000000000 T u1 p1 (by decide) (by decide)⟩
end K29
namespace K29
open PySem L2 DL RF XE
def isFm : Ln → Bool
 | .fm _ => true
 | .bk _ _ => false
def kds (ls : List Ln) : List Bool := ls.map isFm
def Kd (p : Pn) : Prop := ∀ es ∈ p, ∀ ls ∈ es, ∀ ls' ∈ es, kds ls = kds ls'
theorem fm_kds {a : Nat} {ls : List Ln} : (∃ f, ls[a]? = some (.fm f)) ↔ (kds ls)[a]? = some true := by
 unfold kds
 rw [List.getElem?_map]
 cases e : ls[a]? with
 | none => simp
 | some l => cases l <;> simp [isFm]
end K29
namespace K29
open PySem L2 DL RF XE
def LnB : Ln → Prop
 | .fm f => ∀ y ∈ f, Big y
 | .bk _ _ => True
def lnOf (f : List Int) (z : Int) : Ln := if 0 < z then .bk f z else .fm f
def PlanI (S : Store) (k : Nat) (P : D) (nss : List Nd) (m : Nat) (i : Nat) (Γ' : Gam) (T : Store) : Prop := ∃ S' p J o4 o5 o6 o7 o8 o9 o10 o11, T = S' ++ [List.map dDs p] ++ J ∧ Upd S k S' ∧ Pen S' k ∧ p.length = i ∧ (∀ (j : Nat) (n : Nd) (es : List (List Ln)), nss[j]? = some n → p[j]? = some es → DsOk n m es) ∧ (Kd p ∧ PnB p) ∧ Γ' = [some (.loc k), some P, some (.int m), some (.loc S.length), o4, o5, o6, o7, o8, o9, o10, o11]
def DeedI (S : Store) (k : Nat) (P : D) (m : Nat) (p : Pn) (J : Store) (n : Nd) (zs : List Int) (i : Nat) (Γ' : Gam) (T : Store) : Prop := ∃ S' es K o8 o9 o10 o11, T = S' ++ [List.map dDs p] ++ J ++ [List.map dLs es] ++ K ∧ Upd S k S' ∧ Pen S' k ∧ es.length = i ∧ (∀ ls ∈ es, (LsOk n.1.length m ls ∧ ∀ l ∈ ls, LnB l) ∧ kds ls = zs.map fun z => decide (z ≤ 0)) ∧ Γ' = [some (.loc k), some P, some (.int m), some (.loc S.length), some (.tup n.1), some (.tup n.2), some (.lst (zs.map .int)), some (.loc (S.length + 1 + J.length)), o8, o9, o10, o11]
def LineI (S : Store) (k : Nat) (P : D) (m : Nat) (p : Pn) (J : Store) (n : Nd) (zs : List Int) (es : List (List Ln)) (K : Store) (x : D) (i : Nat) (Γ' : Gam) (T : Store) : Prop := ∃ S' ls o10 o11, T = S' ++ ([List.map dDs p] ++ J ++ [List.map dLs es] ++ K) ++ [List.map dLn ls] ∧ Upd S k S' ∧ Pen S' k ∧ ls.length = i ∧ (∀ l ∈ ls, LnOk n.1.length l ∧ LnB l) ∧ kds ls = (zs.take i).map (fun z => decide (z ≤ 0)) ∧ Γ' = [some (.loc k), some P, some (.int m), some (.loc S.length), some (.tup n.1), some (.tup n.2), some (.lst (zs.map .int)), some (.loc (S.length + 1 + J.length)), some x, some (.loc (S.length + 1 + J.length + 1 + K.length)), o10, o11]
def c_plan29 : Ct := fun ds S W => ∃ (k : Nat) (w : D) (nss : List Nd), ds = [.loc k, dPr w nss] ∧ Pen S k ∧ flat S ∧ 1 ≤ nss.length ∧ nss.length ≤ 3 ∧ (∀ n ∈ nss, NdV n) ∧ ∀ m p S', PnOk nss m p → m ≤ 8 → Kd p → PnB p → Upd S k S' → Pen S' k → flat S' → W (dPn p) S'
theorem ok_l_plan {Ω : Wd} {f : Addr} {fd : FuncData} (F : Fun Ω.K "_law_plan" "_law_plan" s_l_plan f fd) (B : Bi Ω.mg) (Cq10 : Cal Ω "_law_take" 2 2 c_take) (Cq4 : Cal Ω "_law_number" 3 1 c_num29) : Ok Ω 4 f fd P_l_plan c_plan29 := by
 refine fn_rf (N := N_l_plan) F (Bl.drp (b_l_plan B Cq10 Cq4)) (by kernel_rfl!) ?_
 rintro ds S W ⟨k, w, nss, rfl, hp, hS, hn1, hn3, hnv, hw⟩ hl
 walk_at "b"
 refine take_ok hp (by decide) (by decide) fun v S1 v0 v1 u1 p1 => ?_
 obtain ⟨m, hm⟩ : ∃ m : Nat, 1 + v = (m : Int) := ⟨(1 + v).toNat, by omega⟩
 have l1 := u1.len
 walk_at "b"
 rw [l1]
 simp only [hm]
 refine for_by ⟨PlanI S k (dPr w nss) nss m, ⟨S1, [], [], _, _, _, _, _, _, _, _, by simp, u1, p1, rfl, (fun j n es _ h => by simp at h), ⟨(fun es h => nomatch h), (fun es h => nomatch h)⟩, rfl⟩, ?_, ?_⟩
 · rintro i e Γ' T he ⟨S2, p, J, o4, o5, o6, o7, o8, o9, o10, o11, rfl, u2, p2, hpl, hpn, hkd, rfl⟩
   obtain ⟨n, hn, rfl⟩ := map_get he
   have hV := hnv n (List.mem_of_getElem? hn)
   obtain ⟨⟨d1, d3⟩, ⟨t1, t3⟩, _, _⟩ := hV
   have hil := (List.getElem?_eq_some_iff.mp hn).1
   walk_at "b"
   refine ⟨rfl, ?_⟩
   walk_at "b"
   rw [List.append_assoc]
   refine ⟨⟨by omega, by omega⟩, cm_all (fun _ y => ∃ z : Int, y = .int z ∧ (0 ≤ z ∧ z ≤ 99)) (fun T => ∃ S', T = S' ++ ([p.map dDs] ++ J) ∧ Upd S k S' ∧ Pen S' k) (by rw [upTo_length]; omega) ⟨S2, rfl, u2, p2⟩ ?_ ?_⟩
   · rintro q d T hd ⟨S3, rfl, u3, p3⟩ R hR
     walk_at "b"
     refine take_ok (p3.app _) (by decide) (by decide) fun x T x0 x1 u4 p4 => ?_
     obtain ⟨S4, rfl, u4, p4⟩ := u4.split p3
     walk_at "b"
     refine take_ok (p4.app _) (by decide) (by decide) fun y T y0 y1 u5 p5 => ?_
     obtain ⟨S5, rfl, u5, p5⟩ := u5.split p4
     walk_at "n"
     have hx : x / 2 = 0 ∨ x / 2 = 1 := by omega
     refine ⟨.inl ⟨by omega, by omega⟩, hR _ _ ⟨_, rfl, ?_⟩ ⟨S5, rfl, (u3.trans u4).trans u5, p5⟩⟩
     rcases hx with h | h <;> rw [h] <;> omega
   rintro ys T hyl hys ⟨S3, rfl, u3, p3⟩
   obtain ⟨zs, rfl, hzs⟩ := intsP hys
   rw [upTo_length, List.length_map] at hyl
   have l3 := u3.len
   have eL : (S3 ++ ([p.map dDs] ++ J)).length = S.length + 1 + J.length := by simp [l3]; omega
   walk_at "b"
   rw [eL]
   refine for_by ⟨DeedI S k (dPr w nss) m p J n zs, ⟨S3, [], [], _, _, _, _, by simp, u3, p3, rfl, (fun ls h => nomatch h), rfl⟩, ?_, ?_⟩
   · rintro j x Γ' T he ⟨S4, es, K, o8, o9, o10, o11, rfl, u4, p4, hel, hes, rfl⟩
     have hjl := (List.getElem?_eq_some_iff.mp he).1
     have l4 := u4.len
     have eL2 : (S4 ++ [p.map dDs] ++ J ++ [es.map dLs] ++ K).length = S.length + 1 + J.length + 1 + K.length := by simp [l4]; omega
     walk_at "b"
     rw [eL2]
     refine for_by ⟨LineI S k (dPr w nss) m p J n zs es K x, ⟨S4, [], _, _, by simp, u4, p4, rfl, (fun l h => nomatch h), rfl, rfl⟩, ?_, ?_⟩
     · rintro q e Γ' T he ⟨S5, ls, o10, o11, rfl, u5, p5, hll, hls, hks, rfl⟩
       obtain ⟨z, hz, rfl⟩ := map_get he
       have hz9 := hzs z (List.mem_of_getElem? hz)
       have hql := (List.getElem?_eq_some_iff.mp hz).1
       walk_at "b"
       rw [List.append_assoc]
       refine ⟨⟨by omega, by omega⟩, cm_all (fun _ y => ∃ n : Int, y = .int n ∧ Big n) (fun T => ∃ S', T = S' ++ ([p.map dDs] ++ J ++ [es.map dLs] ++ K ++ [ls.map dLn]) ∧ Upd S k S' ∧ Pen S' k) (by rw [upTo_length]; omega) ⟨S5, rfl, u5, p5⟩ ?_ ?_⟩
       · rintro r d T hd ⟨S6, rfl, u6, p6⟩ R hR
         walk_at "b"
         refine ⟨rfl, k, rfl, p6.app _, fun y T y0 y1 u7 p7 => ?_⟩
         obtain ⟨S7, rfl, u7, p7⟩ := u7.split p6
         exact hR _ _ ⟨_, rfl, ⟨by omega, by omega⟩⟩ ⟨S7, rfl, u6.trans u7, p7⟩
       rintro ys T hyl hys ⟨S6, rfl, u6, p6⟩
       obtain ⟨f, rfl, hfB⟩ := intsP hys
       rw [upTo_length, List.length_map] at hyl
       have l6 := u6.len
       have eT : S6 ++ ([p.map dDs] ++ J ++ [es.map dLs] ++ K ++ [ls.map dLn]) = (S6 ++ ([p.map dDs] ++ J ++ [es.map dLs] ++ K)) ++ [ls.map dLn] := by simp
       have eN : S.length + 1 + J.length + 1 + K.length = (S6 ++ ([p.map dDs] ++ J ++ [es.map dLs] ++ K)).length := by simp [l6]; omega
       have pick : atI [D.tup [.str "form", .tup (f.map .int)], .tup [.str "block", .tup (f.map .int), .int z]] (if decide (0 < z) = true then 1 else 0) = some (dLn (lnOf f z)) := by
        unfold lnOf
        by_cases hz0 : 0 < z
        · rw [decide_eq_true hz0, if_pos hz0]; rfl
        · rw [decide_eq_false hz0, if_neg hz0]; rfl
       walk_at "b"
       refine ⟨_, pick, ?_⟩
       rw [eT]
       refine ⟨_, lget eN, by rw [List.length_map]; omega, ?_⟩
       rw [lset eN]
       have hfl : f.length = n.1.length + 1 := by omega
       refine ⟨S6, ls ++ [lnOf f z], _, _, ?_, u6, p6, by simp [hll], fun l hl => ?_, ?_, rfl⟩
       · rw [List.map_append]; rfl
       · rcases List.mem_append.mp hl with hl | hl
         · exact hls l hl
         · rw [List.mem_singleton.mp hl]
           unfold lnOf
           split
           · exact ⟨⟨hfl, by omega, by omega⟩, trivial⟩
           · exact ⟨hfl, hfB⟩
       · unfold kds at hks ⊢
         rw [List.map_append, hks, take_one hz, List.map_append]
         congr 1
         show [isFm (lnOf f z)] = [decide (z ≤ 0)]
         unfold lnOf
         split
         · rw [decide_eq_false (by omega)]; rfl
         · rw [decide_eq_true (by omega)]; rfl
     · rintro Γ' T ⟨S5, ls, o10, o11, rfl, u5, p5, hll, hls, hks, rfl⟩
       rw [List.length_map] at hll hks
       rw [List.take_length] at hks
       have l5 := u5.len
       have eN : S.length + 1 + J.length + 1 + K.length = (S5 ++ ([p.map dDs] ++ J ++ [es.map dLs] ++ K)).length := by simp [l5]; omega
       walk_at "b"
       refine ⟨_, lget eN, ?_⟩
       walk_at "b"
       have eT : S5 ++ ([p.map dDs] ++ J ++ [es.map dLs] ++ K) ++ [ls.map dLn] = (S5 ++ [p.map dDs] ++ J) ++ [es.map dLs] ++ (K ++ [ls.map dLn]) := by simp
       have eM : S.length + 1 + J.length = (S5 ++ [p.map dDs] ++ J).length := by simp [l5]; omega
       rw [eT]
       refine ⟨_, mid_at eM, by rw [List.length_map]; omega, ?_⟩
       rw [mid_put eM]
       refine ⟨S5, es ++ [ls], K ++ [ls.map dLn], _, _, _, _, ?_, u5, p5, by simp [hel], fun l hl => ?_, rfl⟩
       · rw [List.map_append]; rfl
       · rcases List.mem_append.mp hl with hl | hl
         · exact hes l hl
         · rw [List.mem_singleton.mp hl]
           exact ⟨⟨⟨by omega, fun l h => (hls l h).1⟩, fun l h => (hls l h).2⟩, hks⟩
   · rintro Γ' T ⟨S4, es, K, o8, o9, o10, o11, rfl, u4, p4, hel, hes, rfl⟩
     have l4 := u4.len
     have eM : S.length + 1 + J.length = (S4 ++ [p.map dDs] ++ J).length := by simp [l4]; omega
     walk_at "b"
     refine ⟨_, mid_at eM, ?_⟩
     walk_at "b"
     have eT : S4 ++ [p.map dDs] ++ J ++ [es.map dLs] ++ K = S4 ++ [p.map dDs] ++ (J ++ [es.map dLs] ++ K) := by simp
     rw [eT]
     refine ⟨_, mid_at l4.symm, by rw [List.length_map]; omega, ?_⟩
     rw [mid_put l4.symm]
     refine ⟨S4, p ++ [es], J ++ [es.map dLs] ++ K, _, _, _, _, _, _, _, _, ?_, u4, p4, by simp [hpl], fun j n' es' hn' hj => ?_, ⟨fun es' he' => ?_, fun es' he' => ?_⟩, rfl⟩
     · rw [List.map_append]; rfl
     · by_cases hjl : j < p.length
       · rw [List.getElem?_append_left hjl] at hj
         exact hpn j n' es' hn' hj
       · rw [List.getElem?_append_right (by omega)] at hj
         have := (List.getElem?_eq_some_iff.mp hj).1
         simp at this
         have ej : j = i := by omega
         subst ej
         rw [show j - p.length = 0 from by omega] at hj
         cases hj
         rw [hn] at hn'
         cases hn'
         exact ⟨hel, fun ls hls => (hes ls hls).1.1⟩
     · rcases List.mem_append.mp he' with he' | he'
       · exact hkd.1 es' he'
       · rw [List.mem_singleton.mp he']
         intro ls hls ls' hls'
         rw [(hes ls hls).2, (hes ls' hls').2]
     · rcases List.mem_append.mp he' with he' | he'
       · exact hkd.2 es' he'
       · rw [List.mem_singleton.mp he']
         exact fun ls hls f hf => (hes ls hls).1.2 _ hf
 · rintro Γ' T ⟨S2, p, J, o4, o5, o6, o7, o8, o9, o10, o11, rfl, u2, p2, hpl, hpn, hkd, rfl⟩
   rw [List.length_map] at hpl
   walk_at "b"
   refine ⟨_, mid_at u2.len.symm, ?_⟩
   rw [List.append_assoc]
   have f2 := u2.flat hS
   exact .inr ⟨_, S2, rfl, by rw [u2.len]; omega, noloc_dPn p, f2, hw m p S2 ⟨hpl, ⟨by omega, by omega⟩, hpn⟩ (by omega) hkd.1 hkd.2 u2 p2 f2⟩
end K29
namespace K29
open PySem L2 DL RF XE
theorem injM {α : Type} {f : α → D} (h : ∀ a b, f a = f b → a = b) : ∀ l l' : List α, l.map f = l'.map f → l = l'
 | [], [], _ => rfl
 | [], _ :: _, e => by cases e
 | _ :: _, [], e => by cases e
 | a :: l, b :: l', e => by
   have e := List.cons.inj e
   rw [h a b e.1, injM h l l' e.2]
theorem dN_inj (f g : List Int) (h : dN f = dN g) : f = g := injM (fun a b e => D.int.inj e) _ _ (D.tup.inj h)
theorem dLn_inj (l l' : Ln) (h : dLn l = dLn l') : l = l' := by
 cases l with
 | fm f =>
   cases l' with
   | fm g => have := D.tup.inj h; rw [dN_inj f g (by simpa using this)]
   | bk g z => have := congrArg List.length (D.tup.inj h); simp at this
 | bk f z =>
   cases l' with
   | fm g => have := congrArg List.length (D.tup.inj h); simp at this
   | bk g z' =>
     have := D.tup.inj h
     simp at this
     rw [dN_inj f g this.1, this.2]
theorem dPn_inj {p q : Pn} (h : dPn p = dPn q) : p = q := injM (f := dDs) (fun a b e => injM (f := dLs) (fun a b e => injM dLn_inj _ _ (D.tup.inj e)) _ _ (D.tup.inj e)) _ _ (D.tup.inj h)
theorem m_one {nss : List Nd} {m m' : Nat} {p : Pn} (hn : Nds nss) (h : PnOk nss m p) (h' : PnOk nss m' p) : m = m' := by
 have f : flat [] := fun l h => nomatch h
 obtain ⟨es, ls, g1, g2, g3⟩ := (show Pl nss m p [] from ⟨hn, h, f⟩).first
 obtain ⟨es', ls', g1', g2', g3'⟩ := (show Pl nss m' p [] from ⟨hn, h', f⟩).first
 rw [g1] at g1'
 cases g1'
 rw [g2] at g2'
 cases g2'
 omega
structure In29 (nss : List Nd) (m : Nat) (p : Pn) (es : List (List Ln)) (way i j a b : Nat) (k : Int) (S : Store) : Prop where
 n : Nds nss
 ok : PnOk nss m p
 fl : flat S
 kd : Kd p
 big : PnB p
 m8 : m ≤ 8
 w5 : way ≤ 5
 he : p[i]? = some es
 hj : j < es.length
 ha : a < m
 hb : b < m
 k1 : -100000000000000000000000000000 ≤ k
 k2 : k ≤ 100000000000000000000000000000
structure Ok29 (m : Nat) (es : List (List Ln)) (way a b : Nat) : Prop where
 cut : way = 5 → 2 ≤ m
 fa : way ≠ 0 → way ≠ 5 → Fms a es
 fb : way = 2 → a ≠ b ∧ Fms b es
def T29 (nss : List Nd) (p : Pn) (es : List (List Ln)) (way i j a b : Nat) (k : Int) : Pn := match way with
 | 0 => p.set i (es.map (exL a b))
 | 1 => p.set i (es.map (bwL a))
 | 2 => p.set i (es.map (slL a b k))
 | 3 => p.set i (es.set j (mvL a k (es.getD j [])))
 | 4 => blkP nss i a (1 + k % 99) p
 | _ => p.map (List.map (cutL a))
theorem fms_one {es : List (List Ln)} {a : Nat} (h : ∀ ls ∈ es, ∀ ls' ∈ es, kds ls = kds ls') {ls : List Ln} (hl : ls ∈ es) {f : List Int} (e : ls[a]? = some (.fm f)) : Fms a es := fun ls' h' => by
 rw [fm_kds, h ls' h' ls hl, ← fm_kds]
 exact ⟨f, e⟩
def c_ask29 : XCt := fun ds S W WE => ∃ w nss m p es, ∃ way i j a b : Nat, ∃ k : Int, ds = [dPr w nss, dPn p, .int way, .int i, .int j, .int a, .int b, .int k] ∧ In29 nss m p es way i j a b k S ∧ (¬ Ok29 m es way a b → WE "NoTurn" S) ∧ (Ok29 m es way a b → W (dPn (T29 nss p es way i j a b k)) S)
theorem ok_l_asked {Ω : Wd} {f : Addr} {fd : FuncData} (F : Fun Ω.K "_law_asked" "_law_asked" s_l_asked f fd) (E : ExF Ω.mg Ω.K XL XT) (Cq17 : CalX Ω "exchanged" 8 5 c_exchX) (Cq12 : CalX Ω "backward" 8 4 c_backX) (Cq41 : CalX Ω "slanted" 8 6 c_slanX) (Cq29 : CalX Ω "moved" 8 6 c_movdX) (Cq14 : CalX Ω "blocked" 8 5 c_blkX) (Cq15 : CalX Ω "cut" 8 3 c_cutX) : OkX Ω 9 f fd P_l_asked c_ask29 := by
 refine fn_rx (N := N_l_asked) F (b_l_asked E Cq17 Cq12 Cq41 Cq29 Cq14 Cq15) (by kernel_rfl!) ?_
 rintro ds S W WE ⟨w, nss, m, p, es, way, i, j, a, b, k, rfl, hI, hno, hw⟩ hl
 obtain ⟨hN, hok, hS, hkd, hB, h8, h5, he, hj, ha, hb, hk1, hk2⟩ := hI
 have h0 : isPlanB nss (dPn p) = false → WE "NoPlan" S := fun z => by rw [plan_is hN hok] at z; cases z
 have hke := hkd es (List.mem_of_getElem? he)
 have hwy : way = 0 ∨ way = 1 ∨ way = 2 ∨ way = 3 ∨ way = 4 ∨ way = 5 := by omega
 have Bk : Big k := ⟨by omega, by omega⟩
 rcases hwy with rfl | rfl | rfl | rfl | rfl | rfl
 · walk_at "b"
   refine ⟨rfl, w, nss, dPn p, i, a, b, rfl, hN, hS, h0, fun m' p' e hok' => ?_⟩
   obtain rfl := dPn_inj e
   obtain rfl := m_one hN hok hok'
   refine ⟨fun z => (z es i a b ⟨rfl, rfl, rfl, he, ha, hb⟩).elim, fun es' i' a' b' g => ?_⟩
   obtain ⟨g1, g2, g3, g4, _, _⟩ := g
   obtain rfl : i = i' := by omega
   obtain rfl : a = a' := by omega
   obtain rfl : b = b' := by omega
   rw [he] at g4
   cases g4
   exact hw ⟨fun z => absurd z (by decide), fun z => absurd rfl z, fun z => absurd z (by decide)⟩
 · walk_at "b"
   refine ⟨rfl, w, nss, dPn p, i, a, rfl, hN, hS, h0, fun m' p' e hok' => ?_⟩
   obtain rfl := dPn_inj e
   obtain rfl := m_one hN hok hok'
   refine ⟨fun z => hno fun g => z es i a ⟨rfl, rfl, he, ha, g.fa (by decide) (by decide)⟩, fun es' i' a' g => ?_⟩
   obtain ⟨g1, g2, g4, _, fa⟩ := g
   obtain rfl : i = i' := by omega
   obtain rfl : a = a' := by omega
   rw [he] at g4
   cases g4
   exact hw ⟨fun z => absurd z (by decide), fun _ _ => fa, fun z => absurd z (by decide)⟩
 · walk_at "b"
   refine ⟨rfl, w, nss, dPn p, i, a, b, k, rfl, hN, hS, ⟨Bk, fun p' e => by rw [← dPn_inj e]; exact hB⟩, h0, fun m' p' e hok' => ?_⟩
   obtain rfl := dPn_inj e
   obtain rfl := m_one hN hok hok'
   refine ⟨fun z => hno fun g => z es i a b ⟨rfl, rfl, rfl, he, ha, hb, (g.fb rfl).1, g.fa (by decide) (by decide), (g.fb rfl).2⟩, fun es' i' a' b' g => ?_⟩
   obtain ⟨g1, g2, g3, g4, _, _, ne, fa, fb⟩ := g
   obtain rfl : i = i' := by omega
   obtain rfl : a = a' := by omega
   obtain rfl : b = b' := by omega
   rw [he] at g4
   cases g4
   exact hw ⟨fun z => absurd z (by decide), fun _ _ => fa, fun _ => ⟨ne, fb⟩⟩
 · walk_at "b"
   refine ⟨rfl, w, nss, dPn p, i, j, a, k, rfl, hN, hS, h0, fun m' p' e hok' => ?_⟩
   obtain rfl := dPn_inj e
   obtain rfl := m_one hN hok hok'
   have ej := List.getElem?_eq_getElem hj
   have ed : es.getD j [] = es[j] := by rw [List.getD, ej]; rfl
   refine ⟨fun z => hno fun g => ?_, fun es' ls y f i' j' a' g => ?_⟩
   · obtain ⟨f, ef⟩ := g.fa (by decide) (by decide) _ (List.getElem_mem hj)
     obtain ⟨n, hn, hd, n1, _⟩ := (show Pl nss m p S from ⟨hN, hok, hS⟩).deeds he
     have hfl := (hd.2 _ (List.getElem_mem hj)).few n1 ef
     cases f with
     | nil => simp at hfl
     | cons y f => exact z es _ y f i j a ⟨rfl, rfl, rfl, he, ej, ha, ef⟩
   · obtain ⟨g1, g2, g3, g4, g5, _, fa⟩ := g
     obtain rfl : i = i' := by omega
     obtain rfl : j = j' := by omega
     obtain rfl : a = a' := by omega
     rw [he] at g4
     cases g4
     have hw := hw ⟨fun z => absurd z (by decide), fun _ _ => fms_one hke (List.mem_of_getElem? g5) fa, fun z => absurd z (by decide)⟩
     have e4 : es.getD j [] = ls := by rw [List.getD, g5]; rfl
     unfold T29 at hw
     rw [e4] at hw
     exact hw
 · walk_at "b"
   refine ⟨rfl, w, nss, dPn p, i, a, 1 + k % 99, rfl, hN, hS, h0, fun m' p' e hok' => ?_⟩
   obtain rfl := dPn_inj e
   obtain rfl := m_one hN hok hok'
   refine ⟨fun z => hno fun g => z es i a ⟨rfl, rfl, he, ha, g.fa (by decide) (by decide), by omega⟩, fun es' i' a' g => ?_⟩
   obtain ⟨g1, g2, g4, _, fa, _⟩ := g
   obtain rfl : i = i' := by omega
   obtain rfl : a = a' := by omega
   rw [he] at g4
   cases g4
   exact hw ⟨fun z => absurd z (by decide), fun _ _ => fa, fun z => absurd z (by decide)⟩
 · walk_at "b"
   refine ⟨rfl, w, nss, dPn p, a, rfl, hN, hS, h0, fun m' p' e hok' => ?_⟩
   obtain rfl := dPn_inj e
   obtain rfl := m_one hN hok hok'
   refine ⟨fun z => hno fun g => z a ⟨rfl, ha, g.cut rfl⟩, fun a' g => ?_⟩
   obtain ⟨g2, _, h2⟩ := g
   obtain rfl : a = a' := by omega
   exact hw ⟨fun _ => h2, fun _ z => absurd rfl z, fun z => absurd z (by decide)⟩
def c_told29 : Ct := fun ds S W => ∃ w nss m p es, ∃ way i j a b : Nat, ∃ k : Int, ds = [dPr w nss, dPn p, .int way, .int i, .int j, .int a, .int b, .int k] ∧ In29 nss m p es way i j a b k S ∧ (¬ Ok29 m es way a b → W .non S) ∧ (Ok29 m es way a b → W (dPn (T29 nss p es way i j a b k)) S)
theorem ok_l_told {Ω : Wd} {f : Addr} {fd : FuncData} (F : Fun Ω.K "_law_told" "_law_told" s_l_told f fd) (B : Bi Ω.mg) (E : ExF Ω.mg Ω.K XL XT) (Cq0 : CalX Ω "_law_asked" 9 8 c_ask29) : Ok Ω 10 f fd P_l_told c_told29 := by
 refine fn_rt (N := N_l_told) F (b_l_told B E Cq0) (by kernel_rfl!) ?_
 rintro ds S W ⟨w, nss, m, p, es, way, i, j, a, b, k, rfl, hI, hno, hw⟩ hl
 walk_at "b"
 exact ⟨rfl, w, nss, m, p, es, way, i, j, a, b, k, rfl, hI, fun z => ⟨by decide, hno z⟩, hw⟩
end K29
namespace K29
open PySem L2 DL RF XE
theorem ixN_lt {n a : Nat} (h : a < n) : ixN n (a : Int) = some a := by
 unfold ixN
 rw [if_pos (by omega), if_pos (by omega), Int.toNat_natCast]
theorem zip_same {α : Type} (xs : List α) (f g : α → D) : List.zipWith (fun x y => D.tup [x, y]) (xs.map f) (xs.map g) = xs.map fun x => D.tup [f x, g x] := by
 induction xs with
 | nil => rfl
 | cons x xs ih => simp only [List.map_cons, List.zipWith_cons_cons, ih]
def fOf (a : Nat) (ls : List Ln) : List Int := match ls[a]? with
 | some (.fm f) => f
 | _ => []
theorem fOf_eq {a : Nat} {ls : List Ln} {f : List Int} (h : ls[a]? = some (.fm f)) : fOf a ls = f := by unfold fOf; rw [h]
def c_dt29 : Ct := fun ds S W => ∃ xs ys y, ∃ i : Nat, ds = [.tup xs, .int i, y] ∧ (y = .lst ys ∨ y = .tup ys) ∧ i < xs.length ∧ xs.length ≤ 1000 ∧ W (.tup (xs.set i (.tup ys))) S
theorem ok_l_deeds_turned {Ω : Wd} {f : Addr} {fd : FuncData} (F : Fun Ω.K "_law_deeds_turned" "_law_deeds_turned" s_l_deeds_turned f fd) (B : Bi Ω.mg) : Ok Ω 1 f fd P_l_deeds_turned c_dt29 := by
 refine fn_rf (N := N_l_deeds_turned) F (b_l_deeds_turned B) (by kernel_rfl!) ?_
 rintro ds S W ⟨xs, ys, y, i, rfl, hy, hi, hz, hw⟩ hl
 have c1 := cut_len xs none (some (i : Int))
 have c2 := cut_len xs (some ((i : Int) + 1)) none
 rw [List.set_eq_take_append_cons_drop, if_pos hi] at hw
 rcases hy with rfl | rfl
 · walk_at "b"
   rw [cut_to (by omega), cut_from (by omega), Int.toNat_natCast, show ((i : Int) + 1).toNat = i + 1 from by omega]
   rw [List.append_assoc]
   exact hw
 · walk_at "b"
   rw [cut_to (by omega), cut_from (by omega), Int.toNat_natCast, show ((i : Int) + 1).toNat = i + 1 from by omega]
   rw [List.append_assoc]
   exact hw
def c_sw29 : Ct := fun ds S W => ∃ d m ls, ∃ a b : Nat, ds = [dLs ls, .int a, .int b] ∧ LsOk d m ls ∧ m ≤ 9 ∧ a < m ∧ b < m ∧ flat S ∧ W (dLs (exL a b ls)) S
theorem ok_l_swapped {Ω : Wd} {f : Addr} {fd : FuncData} (F : Fun Ω.K "_law_swapped" "_law_swapped" s_l_swapped f fd) (B : Bi Ω.mg) : Ok Ω 1 f fd P_l_swapped c_sw29 := by
 refine fn_rf (N := N_l_swapped) F (Bl.drp (b_l_swapped B)) (by kernel_rfl!) ?_
 rintro ds S W ⟨d, m, ls, a, b, rfl, h, h9, ha, hb, hS, hw⟩ hl
 obtain ⟨x, ex, _⟩ := h.get ha
 obtain ⟨y, ey, _⟩ := h.get hb
 have e : exL a b ls = (ls.set a y).set b x := by unfold exL; rw [ex, ey]
 have hlen := h.1
 walk_at "b"
 refine ⟨_, mapI ey, ?_⟩
 walk_at "b"
 refine ⟨_, mapI ex, ?_⟩
 walk_at "b"
 refine ⟨_, _, last_get _ _, ixN_lt (by rw [List.length_map]; omega), ?_⟩
 rw [last_set]
 walk_at "b"
 refine ⟨_, _, last_get _ _, ixN_lt (by rw [List.length_set, List.length_map]; omega), ?_⟩
 rw [last_set]
 walk_at "b"
 refine ⟨_, last_get _ _, ?_⟩
 rw [map_set, map_set, ← e]
 exact .inr ⟨_, S, rfl, Nat.le_refl _, noloc_dLs _, hS, hw⟩
def c_lp29 : Ct := fun ds S W => ∃ ls f, ∃ a : Nat, ds = [dLs ls, .int a, dN f] ∧ a < ls.length ∧ ls.length ≤ 1000 ∧ W (dLs (ls.set a (.fm f))) S
theorem ok_l_put {Ω : Wd} {f : Addr} {fd : FuncData} (F : Fun Ω.K "_law_put" "_law_put" s_l_put f fd) : Ok Ω 1 f fd P_l_put c_lp29 := by
 refine fn_rf (N := N_l_put) F (b_l_put) (by kernel_rfl!) ?_
 rintro ds S W ⟨ls, f, a, rfl, ha, hz, hw⟩ hl
 have c1 := cut_len (ls.map dLn) none (some (a : Int))
 have c2 := cut_len (ls.map dLn) (some ((a : Int) + 1)) none
 rw [List.length_map] at c1 c2
 walk_at "b"
 rw [cut_to (by omega), cut_from (by omega), Int.toNat_natCast, show ((a : Int) + 1).toNat = a + 1 from by omega]
 have e : dLs (ls.set a (.fm f)) = .tup ((ls.map dLn).take a ++ dLn (.fm f) :: (ls.map dLn).drop (a + 1)) := by
  unfold dLs
  rw [← map_set, List.set_eq_take_append_cons_drop, if_pos (by rw [List.length_map]; exact ha)]
 rw [e] at hw
 rw [List.append_assoc]
 exact hw
end K29
namespace K29
open PySem L2 DL RF XE
theorem ok_l_due {Ω : Wd} {f : Addr} {fd : FuncData} (F : Fun Ω.K "_law_due" "_law_due" s_l_due f fd) (B : Bi Ω.mg) (Cq2 : Cal Ω "_law_deeds_turned" 1 3 c_dt29) (Cq9 : Cal Ω "_law_swapped" 1 3 c_sw29) (Cq8 : Cal Ω "_law_put" 1 3 c_lp29) : Ok Ω 2 f fd P_l_due c_told29 := by
 refine fn_rf (N := N_l_due) F (Bl.drp (b_l_due B Cq2 Cq9 Cq8)) (by kernel_rfl!) ?_
 rintro ds S W ⟨w, nss, m, p, es, way, i, j, a, b, k, rfl, hI, hno, hw⟩ hl
 obtain ⟨hN, hok, hS, hkd, hB, h8, h5, he, hj, ha, hb, hk1, hk2⟩ := hI
 have hP : Pl nss m p S := ⟨hN, hok, hS⟩
 obtain ⟨n, hn, hd, n1, n2, n3⟩ := hP.deeds he
 have hil := (List.getElem?_eq_some_iff.mp he).1
 have hpl := hok.1
 have hn3 := hN.2.1
 have hel := hd.1
 have hke := hkd es (List.mem_of_getElem? he)
 have hwy : way = 0 ∨ way = 1 ∨ way = 2 ∨ way = 3 ∨ way = 4 ∨ way = 5 := by omega
 have Bk : Big k := ⟨by omega, by omega⟩
 have g0 := List.getElem?_eq_getElem (l := es) (i := 0) (by omega)
 generalize es[0]'(by omega) = l0 at g0
 have m0 := List.mem_of_getElem? g0
 obtain ⟨xa, ea, oka⟩ := (hd.2 l0 m0).get ha
 obtain ⟨xb, eb, okb⟩ := (hd.2 l0 m0).get hb
 have no : ∀ {c : Nat} {f : List Int} {z : Int}, l0[c]? = some (.bk f z) → ¬ Fms c es := fun e h => by
  obtain ⟨f', e'⟩ := h l0 m0
  rw [e] at e'
  cases e'
 have fin : ∀ es' : List (List Ln), dPn (p.set i es') = .tup ((p.map dDs).set i (.tup (es'.map dLs))) := fun es' => by unfold dPn; rw [← map_set]; rfl
 rcases hwy with rfl | rfl | rfl | rfl | rfl | rfl
 · walk_at "b"
   refine ⟨_, mapI he, ?_⟩
   walk_at "b"
   refine cm_enc (fun ls => dLs (exL a b ls)) (by omega) ?_ ?_
   · intro q ls hq Q hQ
     walk_at "b"
     exact ⟨rfl, n.1.length, m, ls, a, b, rfl, hd.2 ls (List.mem_of_getElem? hq), by omega, ha, hb, hS, hQ⟩
   walk_at "b"
   refine ⟨rfl, _, _, _, i, rfl, .inl rfl, by rw [List.length_map]; omega, by rw [List.length_map]; omega, ?_⟩
   have hw : W (dPn (p.set i (es.map (exL a b)))) S := hw ⟨fun z => absurd z (by decide), fun z => absurd rfl z, fun z => absurd z (by decide)⟩
   rw [fin, List.map_map] at hw
   exact .inl hw
 · walk_at "b"
   refine ⟨_, mapI he, ?_⟩
   walk_at "b"
   refine ⟨_, mapI (i := 0) g0, ?_⟩
   walk_at "b"
   refine ⟨_, mapI ea, ?_⟩
   cases xa with
   | bk f z =>
     walk_at "b"
     refine cEqStr ?_
     walk_at "b"
     exact .inl (hno fun g => no ea (g.fa (by decide) (by decide)))
   | fm f =>
     have hf := fms_one hke m0 ea
     have hw : W (dPn (p.set i (es.map (bwL a)))) S := hw ⟨fun z => absurd z (by decide), fun _ _ => hf, fun z => absurd z (by decide)⟩
     walk_at "b"
     refine cEqStr ?_
     walk_at "b"
     refine cm_enc (fun ls => dN ((fOf a ls).map fun x => 0 - x)) (by omega) ?_ ?_
     · intro q ls hq Q hQ
       have hls := List.mem_of_getElem? hq
       obtain ⟨f', ef⟩ := hf ls hls
       have hfl := (hd.2 ls hls).few n1 ef
       rw [fOf_eq ef] at hQ
       walk_at "b"
       refine ⟨_, mapI ef, ?_⟩
       walk_at "b"
       refine cm_enc (fun x => .int (0 - x)) (by omega) ?_ ?_
       · intro r x hr Q2 hQ2
         walk_at "b"
         exact hQ2
       have e : dN (f'.map fun x => 0 - x) = .tup (f'.map fun x => D.int (0 - x)) := by unfold dN; rw [List.map_map]; rfl
       rw [e] at hQ
       exact hQ
     walk_at "b"
     rw [zip_same]
     refine cm_enc (fun ls => dLs (bwL a ls)) (by omega) ?_ ?_
     · intro q ls hq Q hQ
       have hls := List.mem_of_getElem? hq
       obtain ⟨f', ef⟩ := hf ls hls
       have hll := (hd.2 ls hls).1
       have e : bwL a ls = ls.set a (.fm ((fOf a ls).map fun x => 0 - x)) := by unfold bwL; rw [ef, fOf_eq ef]; simp only [Int.zero_sub]
       rw [e] at hQ
       walk_at "b"
       refine ⟨rfl, ?_⟩
       walk_at "b"
       exact ⟨rfl, ls, _, a, rfl, by omega, by omega, hQ⟩
     walk_at "b"
     refine ⟨rfl, _, _, _, i, rfl, .inl rfl, by rw [List.length_map]; omega, by rw [List.length_map]; omega, ?_⟩
     rw [fin, List.map_map] at hw
     exact .inl hw
 · walk_at "b"
   refine ⟨_, mapI he, ?_⟩
   walk_at "b"
   refine ⟨_, mapI (i := 0) g0, ?_⟩
   walk_at "b"
   refine ⟨_, mapI ea, ?_⟩
   cases xa with
   | bk f z =>
     walk_at "b"
     refine cEqStr ?_
     walk_at "b"
     exact .inl (hno fun g => no ea (g.fa (by decide) (by decide)))
   | fm f =>
     have hf := fms_one hke m0 ea
     walk_at "b"
     refine cEqStr ?_
     walk_at "b"
     by_cases hab : a = b
     · rw [decide_eq_true (by omega)]
       walk_at "b"
       exact .inl (hno fun g => (g.fb rfl).1 hab)
     rw [decide_eq_false (by omega)]
     walk_at "b"
     refine ⟨_, mapI (i := 0) g0, ?_⟩
     walk_at "b"
     refine ⟨_, mapI eb, ?_⟩
     cases xb with
     | bk f z =>
       walk_at "b"
       refine cEqStr ?_
       walk_at "b"
       exact .inl (hno fun g => no eb (g.fb rfl).2)
     | fm f2 =>
       have hg := fms_one hke m0 eb
       have hw : W (dPn (p.set i (es.map (slL a b k)))) S := hw ⟨fun z => absurd z (by decide), fun _ _ => hf, fun _ => ⟨hab, hg⟩⟩
       walk_at "b"
       refine cEqStr ?_
       walk_at "b"
       refine cm_enc (fun ls => dN (List.zipWith (fun x y => x + k * y) (fOf a ls) (fOf b ls))) (by omega) ?_ ?_
       · intro q ls hq Q hQ
         have hls := List.mem_of_getElem? hq
         obtain ⟨f, ef⟩ := hf ls hls
         obtain ⟨g, eg⟩ := hg ls hls
         have hfl := (hd.2 ls hls).few n1 ef
         rw [fOf_eq ef, fOf_eq eg] at hQ
         walk_at "b"
         refine ⟨_, mapI ef, ?_⟩
         walk_at "b"
         refine ⟨_, mapI eg, ?_⟩
         walk_at "b"
         refine comp_by ⟨by show (List.zipWith (fun x y => D.tup [x, y]) (f.map D.int) (g.map D.int)).length ≤ 1000000; rw [List.length_zipWith, List.length_map]; omega, fun i acc S' => acc = ((List.zipWith (fun x y => x + k * y) f g).take i).map D.int ∧ S' = S, ⟨rfl, rfl⟩, ?_, ?_⟩
         · rintro i e acc S' he ⟨rfl, rfl⟩
           obtain ⟨x, y, h1, h2, rfl⟩ := pair_at he
           walk_at "n"
           refine ⟨rfl, fun _ => ⟨⟨Bk, hB es (List.mem_of_getElem? (by assumption)) ls hls g (List.mem_of_getElem? eg) y (List.mem_of_getElem? h2)⟩, ?_, rfl⟩, fun z => tf z⟩
           have e3 : (List.zipWith (fun x y => x + k * y) f g)[i]? = some (x + k * y) := by rw [List.getElem?_zipWith, h1, h2]
           rw [take_one e3, List.map_append]; rfl
         · rintro acc S' ⟨rfl, rfl⟩
           have el : (List.zipWith (fun x y => D.tup [x, y]) (f.map D.int) (g.map D.int)).length = (List.zipWith (fun x y => x + k * y) f g).length := by simp
           rw [el, List.take_length]
           exact hQ
       walk_at "b"
       rw [zip_same]
       refine cm_enc (fun ls => dLs (slL a b k ls)) (by omega) ?_ ?_
       · intro q ls hq Q hQ
         have hls := List.mem_of_getElem? hq
         obtain ⟨f, ef⟩ := hf ls hls
         obtain ⟨g, eg⟩ := hg ls hls
         have hll := (hd.2 ls hls).1
         have e : slL a b k ls = ls.set a (.fm (List.zipWith (fun x y => x + k * y) (fOf a ls) (fOf b ls))) := by unfold slL; rw [ef, eg, fOf_eq ef, fOf_eq eg]
         rw [e] at hQ
         walk_at "b"
         refine ⟨rfl, ?_⟩
         walk_at "b"
         exact ⟨rfl, ls, _, a, rfl, by omega, by omega, hQ⟩
       walk_at "b"
       refine ⟨rfl, _, _, _, i, rfl, .inl rfl, by rw [List.length_map]; omega, by rw [List.length_map]; omega, ?_⟩
       rw [fin, List.map_map] at hw
       exact .inl hw
 · walk_at "b"
   refine ⟨_, mapI he, ?_⟩
   walk_at "b"
   refine ⟨_, mapI (i := 0) g0, ?_⟩
   walk_at "b"
   refine ⟨_, mapI ea, ?_⟩
   cases xa with
   | bk f z =>
     walk_at "b"
     refine cEqStr ?_
     walk_at "b"
     exact .inl (hno fun g => no ea (g.fa (by decide) (by decide)))
   | fm f =>
     have hf := fms_one hke m0 ea
     have ej := List.getElem?_eq_getElem hj
     have ed : es.getD j [] = es[j] := by rw [List.getD, ej]; rfl
     have hw : W (dPn (p.set i (es.set j (mvL a k (es.getD j []))))) S := hw ⟨fun z => absurd z (by decide), fun _ _ => hf, fun z => absurd z (by decide)⟩
     rw [ed] at hw
     generalize es[j] = ls at ej hw
     have hls := List.mem_of_getElem? ej
     have hll := (hd.2 ls hls).1
     obtain ⟨f', ef⟩ := hf ls hls
     have hfl := (hd.2 ls hls).few n1 ef
     cases f' with
     | nil => simp at hfl
     | cons y f' =>
       have e : mvL a k ls = ls.set a (.fm ((y + k) :: f')) := by unfold mvL; rw [ef]
       rw [e, fin] at hw
       walk_at "b"
       refine cEqStr ?_
       walk_at "b"
       refine ⟨_, mapI ej, ?_⟩
       walk_at "b"
       refine ⟨_, mapI ef, ?_⟩
       walk_at "b"
       refine ⟨_, mapI ej, ?_⟩
       have c3 := cut_len ((y :: f').map D.int) (some 1) none
       rw [List.length_map] at c3
       walk_at "b"
       refine ⟨_, mapI (i := 0) (f := D.int) (xs := y :: f') rfl, ?_⟩
       walk_at "b"
       have e2 : cutD ((y :: f').map D.int) (some 1) none = f'.map D.int := by rw [cut_from (by decide)]; rfl
       have e3 : D.tup ([D.int (y + k)] ++ cutD ((y :: f').map D.int) (some 1) none) = dN ((y + k) :: f') := by rw [e2]; rfl
       refine ⟨by show 1 + (cutD ((y :: f').map D.int) (some 1) none).length ≤ 1000000; rw [List.length_cons] at c3 hfl; omega, ?_⟩
       refine ⟨rfl, ls, (y + k) :: f', a, by rw [← e3], by omega, by omega, ?_⟩
       have c1 := cut_len (es.map dLs) none (some (j : Int))
       have c2 := cut_len (es.map dLs) (some ((j : Int) + 1)) none
       rw [List.length_map] at c1 c2
       walk_at "b"
       refine ⟨rfl, _, _, _, i, rfl, .inr rfl, by rw [List.length_map]; omega, by rw [List.length_map]; omega, ?_⟩
       rw [cut_to (by omega), cut_from (by omega), Int.toNat_natCast, show ((j : Int) + 1).toNat = j + 1 from by omega, List.append_assoc]
       rw [← map_set, List.set_eq_take_append_cons_drop (l := es.map dLs), if_pos (by rw [List.length_map]; exact hj)] at hw
       exact .inl hw
 · walk_at "b"
   refine ⟨_, mapI he, ?_⟩
   walk_at "b"
   refine ⟨_, mapI (i := 0) g0, ?_⟩
   walk_at "b"
   refine ⟨_, mapI ea, ?_⟩
   cases xa with
   | bk f z =>
     walk_at "b"
     refine cEqStr ?_
     walk_at "b"
     exact .inl (hno fun g => no ea (g.fa (by decide) (by decide)))
   | fm f =>
     have hf := fms_one hke m0 ea
     have hw : W (dPn (blkP nss i a (1 + k % 99) p)) S := hw ⟨fun z => absurd z (by decide), fun _ _ => hf, fun z => absurd z (by decide)⟩
     generalize hz : 1 + k % 99 = z at hw
     walk_at "b"
     refine cEqStr ?_
     walk_at "b"
     rw [List.length_map]
     refine ⟨⟨by omega, by omega⟩, for_by ⟨fun q Γ' T => (∃ o14 o15, Γ' = [some (dPr w nss), some (dPn p), some (.int (4 : Nat)), some (.int i), some (.int j), some (.int a), some (.int b), some (.int k), some (dDs es), none, none, none, none, some (.loc S.length), o14, o15]) ∧ T = S ++ [((blkP nss i a z p).take q).map dDs], ⟨⟨_, _, rfl⟩, rfl⟩, ?_, ?_⟩⟩
     · rintro q e Γ' T hq ⟨⟨o14, o15, rfl⟩, rfl⟩
       obtain ⟨hql, rfl⟩ := upTo_get hq
       have hql2 : q < p.length := by omega
       have gq := List.getElem?_eq_getElem hql2
       generalize p[q] = ds at gq
       obtain ⟨n', hn', hd', n1', n2', n3'⟩ := hP.deeds gq
       have hel' := hd'.1
       have e0 : (0 : Int) + (q : Int) = (q : Int) := by omega
       have ezz : ((n'.1.length : Int) + 1).toNat = n'.1.length + 1 := by omega
       have eb : (blkP nss i a z p)[q]? = some (if q = i then ds.map (bkL a z) else ds.map (noL a n'.1.length)) := by
        unfold blkP
        rw [List.getElem?_mapIdx, gq]
        show some _ = _
        rw [show nss.getD q ([], []) = n' from by rw [List.getD, hn']; rfl]
       walk_at "b"
       rw [e0]
       refine ⟨_, mapI gq, ?_⟩
       walk_at "b"
       refine cm_enc (fun _ => dLn (.fm (List.replicate (n'.1.length + 1) 0))) (by omega) ?_ ?_
       · intro r ls hr Q hQ
         walk_at "b"
         refine ⟨_, mapI hn', ?_⟩
         walk_at "b"
         refine ⟨⟨by omega, by omega⟩, by rw [ezz]; show 1 * _ ≤ _; omega, ?_⟩
         rw [ezz, zerosN]
         walk_at "b"
         exact hQ
       walk_at "b"
       by_cases hqi : q = i
       · subst hqi
         rw [he] at gq
         cases gq
         rw [decide_eq_true (by omega)]
         walk_at "b"
         refine ⟨_, mapI he, ?_⟩
         walk_at "b"
         refine cm_enc (fun ls => dLn (.bk (fOf a ls) z)) (by omega) ?_ ?_
         · intro r ls hr Q hQ
           obtain ⟨f', ef⟩ := hf ls (List.mem_of_getElem? hr)
           rw [fOf_eq ef] at hQ
           walk_at "b"
           refine ⟨_, mapI ef, ?_⟩
           walk_at "b"
           rw [hz]
           exact hQ
         walk_at "b"
         refine ⟨_, mapI he, ?_⟩
         walk_at "b"
         rw [zip_same]
         refine cm_enc (fun ls => dLs (bkL a z ls)) (by omega) ?_ ?_
         · intro r ls hr Q hQ
           have hls := List.mem_of_getElem? hr
           obtain ⟨f', ef⟩ := hf ls hls
           have hll := (hd.2 ls hls).1
           have c1 := cut_len (ls.map dLn) none (some (a : Int))
           have c2 := cut_len (ls.map dLn) (some (a : Int)) none
           rw [List.length_map] at c1 c2
           walk_at "b"
           refine ⟨rfl, ?_⟩
           walk_at "b"
           rw [cut_to (by omega), cut_from (by omega), Int.toNat_natCast, List.append_assoc]
           have e : dLs (bkL a z ls) = .tup ((ls.map dLn).take a ++ dLn (.bk (fOf a ls) z) :: (ls.map dLn).drop a) := by unfold bkL dLs; rw [ef, fOf_eq ef]; simp only [List.map_append, List.map_cons, List.map_take, List.map_drop]
           rw [e] at hQ
           exact hQ
         walk_at "b"
         refine ⟨_, last_get _ _, by rw [List.length_map, List.length_take]; omega, ?_⟩
         refine ⟨⟨_, _, rfl⟩, ?_⟩
         rw [last_set, take_one eb, if_pos rfl, List.map_append]
         show S ++ [_ ++ [D.tup _]] = S ++ [_ ++ [dDs _]]
         unfold dDs
         rw [List.map_map]; rfl
       · rw [decide_eq_false (by omega)]
         walk_at "b"
         refine ⟨_, mapI gq, ?_⟩
         walk_at "b"
         rw [zip_same]
         refine cm_enc (fun ls => dLs (noL a n'.1.length ls)) (by omega) ?_ ?_
         · intro r ls hr Q hQ
           have hll := (hd'.2 ls (List.mem_of_getElem? hr)).1
           have c1 := cut_len (ls.map dLn) none (some (a : Int))
           have c2 := cut_len (ls.map dLn) (some (a : Int)) none
           rw [List.length_map] at c1 c2
           walk_at "b"
           refine ⟨rfl, ?_⟩
           walk_at "b"
           rw [cut_to (by omega), cut_from (by omega), Int.toNat_natCast, List.append_assoc]
           have e : dLs (noL a n'.1.length ls) = .tup ((ls.map dLn).take a ++ dLn (.fm (List.replicate (n'.1.length + 1) 0)) :: (ls.map dLn).drop a) := by unfold noL dLs; simp only [List.map_append, List.map_cons, List.map_take, List.map_drop]
           rw [e] at hQ
           exact hQ
         walk_at "b"
         refine ⟨_, last_get _ _, by rw [List.length_map, List.length_take]; omega, ?_⟩
         refine ⟨⟨_, _, rfl⟩, ?_⟩
         rw [last_set, take_one eb, if_neg hqi, List.map_append]
         show S ++ [_ ++ [D.tup _]] = S ++ [_ ++ [dDs _]]
         unfold dDs
         rw [List.map_map]; rfl
     · rintro Γ' T ⟨⟨o14, o15, rfl⟩, rfl⟩
       walk_at "b"
       refine ⟨_, last_get _ _, ?_⟩
       have el : (upTo 0 (p.length : Int).toNat).length = (blkP nss i a z p).length := by rw [upTo_length]; simp [blkP]
       rw [el, List.take_length]
       exact .inr ⟨_, S, rfl, Nat.le_refl _, noloc_dPn _, hS, hw⟩
 · walk_at "b"
   refine ⟨_, mapI he, ?_⟩
   walk_at "b"
   refine ⟨_, mapI (i := 0) g0, ?_⟩
   walk_at "b"
   rw [List.length_map, (hd.2 l0 m0).1]
   by_cases hm : m = 1
   · rw [decide_eq_true (by omega)]
     walk_at "b"
     exact .inl (hno fun g => by have := g.cut rfl; omega)
   rw [decide_eq_false (by omega)]
   have hw : W (dPn (p.map (List.map (cutL a)))) S := hw ⟨fun _ => by omega, fun _ z => absurd rfl z, fun z => absurd z (by decide)⟩
   walk_at "b"
   refine cm_enc (fun es => dDs (es.map (cutL a))) (by omega) ?_ ?_
   · intro q es' hq Q hQ
     obtain ⟨n', hn', hd', _, _, n3'⟩ := hP.deeds hq
     have hel' := hd'.1
     walk_at "b"
     refine cm_enc (fun ls => dLs (cutL a ls)) (by omega) ?_ ?_
     · intro r ls hr Q2 hQ2
       have hll := (hd'.2 ls (List.mem_of_getElem? hr)).1
       have c1 := cut_len (ls.map dLn) none (some (a : Int))
       have c2 := cut_len (ls.map dLn) (some ((a : Int) + 1)) none
       rw [List.length_map] at c1 c2
       walk_at "b"
       rw [cut_to (by omega), cut_from (by omega), Int.toNat_natCast, show ((a : Int) + 1).toNat = a + 1 from by omega]
       have e : dLs (cutL a ls) = .tup ((ls.map dLn).take a ++ (ls.map dLn).drop (a + 1)) := by unfold cutL dLs; rw [List.map_append, List.map_take, List.map_drop]
       rw [e] at hQ2
       exact hQ2
     walk_at "b"
     have e : dDs (es'.map (cutL a)) = .tup (es'.map fun ls => dLs (cutL a ls)) := by unfold dDs; rw [List.map_map]; rfl
     rw [e] at hQ
     exact hQ
   walk_at "b"
   have e : dPn (p.map (List.map (cutL a))) = .tup (p.map fun es => dDs (es.map (cutL a))) := by unfold dPn; rw [List.map_map]; rfl
   rw [e] at hw
   exact .inl hw
end K29
namespace K29
open PySem L2 DL RF XE
theorem okM {α : Type} {f : α → D} (h : ∀ a, okD (f a) = true) : ∀ l : List α, okDs (l.map f) = true
 | [] => rfl
 | a :: l => by simp only [List.map_cons, okDs, h a, okM h l, Bool.and_true]
theorem okd_dN (f : List Int) : okD (dN f) = true := okM (fun _ => rfl) f
theorem okd_dLn (l : Ln) : okD (dLn l) = true := by
 cases l with
 | fm f => show okDs [.str _, dN f] = true; simp only [okDs, okd_dN, Bool.and_true]; rfl
 | bk f z => show okDs [.str _, dN f, .int z] = true; simp only [okDs, okd_dN, Bool.and_true]; rfl
theorem okd_dPn (p : Pn) : okD (dPn p) = true := okM (f := dDs) (fun ds => okM (f := dLs) (fun ls => okM okd_dLn ls) ds) p
theorem deepM {α : Type} {f : α → D} {n : Nat} (h : ∀ a, deep (f a) ≤ n) (l : List α) : deep (.tup (l.map f)) ≤ n + 1 := by
 have : deeps (l.map f) ≤ n := deeps_of fun d hd => by obtain ⟨a, _, rfl⟩ := List.mem_map.mp hd; exact h a
 show deeps (l.map f) + 1 ≤ n + 1
 omega
theorem deep_dLn (l : Ln) : deep (dLn l) ≤ 2 := by
 cases l with
 | fm f =>
   have := deep_dN f
   show max 0 (max (deep (dN f)) 0) + 1 ≤ 2
   omega
 | bk f z =>
   have := deep_dN f
   show max 0 (max (deep (dN f)) (max 0 0)) + 1 ≤ 2
   omega
theorem deep_dPn (p : Pn) : deep (dPn p) ≤ 50 := Nat.le_trans (deepM (f := dDs) (n := 4) (fun ds => deepM (f := dLs) (n := 3) (fun ls => deepM (n := 2) deep_dLn ls) ds) p) (by decide)
structure Res29 (nss : List Nd) (m : Nat) (p : Pn) (es : List (List Ln)) (way i j a b : Nat) (k : Int) (r : D) : Prop where
 ok : okD r = true
 nl : noloc r = true
 dp : deep r ≤ 50
 no : ¬ Ok29 m es way a b → r = .non
 yes : Ok29 m es way a b → r = dPn (T29 nss p es way i j a b k)
theorem res_ex (nss : List Nd) (m : Nat) (p : Pn) (es : List (List Ln)) (way i j a b : Nat) (k : Int) : ∃ r, Res29 nss m p es way i j a b k r := by
 by_cases h : Ok29 m es way a b
 · exact ⟨_, okd_dPn _, noloc_dPn _, deep_dPn _, fun z => absurd h z, fun _ => rfl⟩
 · exact ⟨.non, rfl, rfl, Nat.zero_le _, fun _ => rfl, fun z => absurd z h⟩
theorem told_ok {w : D} {nss : List Nd} {m : Nat} {p : Pn} {es : List (List Ln)} {way i j a b : Nat} {k : Int} {r : D} {S S0 : Store} {W : WD} (h : In29 nss m p es way i j a b k S0) (hS : flat S) (hr : Res29 nss m p es way i j a b k r) (hw : W r S) : ([dPr w nss, dPn p, D.int way, .int i, .int j, .int a, .int b, .int k].length = 8 ∧ c_told29 [dPr w nss, dPn p, .int way, .int i, .int j, .int a, .int b, .int k] S W) :=
 ⟨rfl, w, nss, m, p, es, way, i, j, a, b, k, rfl, ⟨h.n, h.ok, hS, h.kd, h.big, h.m8, h.w5, h.he, h.hj, h.ha, h.hb, h.k1, h.k2⟩, fun z => by rw [← hr.no z]; exact hw, fun z => by rw [← hr.yes z]; exact hw⟩
def Fst29 (nss : List Nd) (m : Nat) (p : Pn) (x : D) : Prop := ∃ es way i j a b k r, x = .tup [.int (way : Nat), .int (i : Nat), .int (j : Nat), .int (a : Nat), .int (b : Nat), .int k, r] ∧ In29 nss m p es way i j a b k [] ∧ Res29 nss m p es way i j a b k r
theorem fst_nl {nss : List Nd} {m : Nat} {p : Pn} {x : D} (h : Fst29 nss m p x) : noloc x = true := by
 obtain ⟨es, way, i, j, a, b, k, r, rfl, _, hr⟩ := h
 show nolocs [_, _, _, _, _, _, _] = true
 simp only [nolocs, hr.nl, Bool.and_true]; rfl
theorem ok_law {Ω : Wd} {f : Addr} {fd : FuncData} (F : Fun Ω.K "law" "law" s_law f fd) (B : Bi Ω.mg) (Cq5 : Cal Ω "_law_pen" 2 1 c_pen) (Cq10 : Cal Ω "_law_take" 2 2 c_take) (Cq7 : Cal Ω "_law_program" 3 1 c_prog31) (Cq4 : Cal Ω "_law_number" 3 1 c_num29) (Cq6 : Cal Ω "_law_plan" 4 2 c_plan29) (Cq3 : Cal Ω "_law_due" 2 8 c_told29) (Cq11 : Cal Ω "_law_told" 10 8 c_told29) : Ok Ω 11 f fd P_law c_law := by
 refine fn_rf (N := N_law) F (b_law B Cq5 Cq10 Cq7 Cq4 Cq6 Cq3 Cq11) (by kernel_rfl!) ?_
 rintro ds S W ⟨ns, rfl, hn, hw, rfl⟩ hl
 walk_at "b"
 refine ⟨rfl, ns, rfl, hn, fun a c n m z ha => ?_⟩
 have hp0 : Pen [penL ns a c n m z] 0 := ⟨ns, a, c, n, m, z, rfl, ha⟩
 have hf0 : flat [penL ns a c n m z] := fun l h => by
  rw [List.mem_singleton.mp h]
  have e : noloc (D.lst (ns.map .int)) = true := nolocs_nm ns
  show nolocs [D.lst (ns.map .int), .int a, .int c, .int n, .int m, .int z] = true
  simp only [nolocs, e, Bool.and_true]; rfl
 generalize penL ns a c n m z = pn at *
 walk_at "b"
 refine ⟨rfl, 0, rfl, hp0, hf0, fun nss S1 n1 n3 hns u1 p1 f1 => ?_⟩
 have hN : Nds nss := ⟨n1, n3, fun n hn => ⟨(hns n hn).1.2, (hns n hn).2.1.1, Nat.le_trans (hns n hn).2.1.2 (by decide)⟩⟩
 walk_at "b"
 refine ⟨rfl, 0, _, nss, rfl, p1, f1, n1, n3, hns, fun m pl S2 hok m8 hkd hB u2 p2 f2 => ?_⟩
 generalize D.tup [D.int 1] = w
 obtain ⟨es0, ls0, g1, g2, g3⟩ := (show Pl nss m pl S2 from ⟨hN, hok, f2⟩).first
 have hpl := hok.1
 have m19 := hok.2.1
 walk_at "b"
 refine ⟨_, mapI (i := 0) g1, ?_⟩
 walk_at "b"
 refine ⟨_, mapI (i := 0) g2, ?_⟩
 walk_at "b"
 rw [List.length_map, g3]
 refine ⟨⟨by decide, by decide⟩, for_by ⟨fun tt Γ' T => ∃ S' fs o6 o7 o8 o9 o10 o11 o12 o13, T = S' ++ [fs] ∧ Upd S2 0 S' ∧ Pen S' 0 ∧ fs.length = tt ∧ (∀ x ∈ fs, Fst29 nss m pl x) ∧ Γ' = [some (.lst (ns.map .int)), some (.loc 0), some (dPr w nss), some (dPn pl), some (.int m), some (.loc S2.length), o6, o7, o8, o9, o10, o11, o12, o13], ⟨S2, [], _, _, _, _, _, _, _, _, rfl, Upd.refl p2, p2, rfl, (fun x h => nomatch h), rfl⟩, ?_, ?_⟩⟩
 · rintro tt e Γ' T he ⟨S', fs, o6, o7, o8, o9, o10, o11, o12, o13, rfl, u3, p3, hfl, hfs, rfl⟩
   obtain ⟨hi, rfl⟩ := upTo_get he
   have fl : ∀ {S''}, Upd S2 0 S'' → flat (S'' ++ [fs]) := fun u => flat_app (u.flat f2) fun l h => by rw [List.mem_singleton.mp h]; exact nolocs_of fun x hx => fst_nl (hfs x hx)
   walk_at "b"
   refine take_ok (p3.app _) (by decide) (by decide) fun v T v0 v1 u4 p4 => ?_
   obtain ⟨S4, rfl, u4, p4⟩ := u4.split p3
   have u4 := u3.trans u4
   obtain ⟨way, rfl⟩ := Int.eq_ofNat_of_zero_le v0
   walk_at "b"
   refine take_ok (p4.app _) (by rw [List.length_map]; omega) (by rw [List.length_map]; omega) fun v T x0 x1 u5 p5 => ?_
   obtain ⟨S5, rfl, u5, p5⟩ := u5.split p4
   have u5 := u4.trans u5
   rw [List.length_map] at x1
   obtain ⟨i, rfl⟩ := Int.eq_ofNat_of_zero_le x0
   have gi := List.getElem?_eq_getElem (l := pl) (i := i) (by omega)
   generalize pl[i]'(by omega) = es at gi
   obtain ⟨nd, k1, k2, k3, k4, k5⟩ := (show Pl nss m pl S2 from ⟨hN, hok, f2⟩).deeds gi
   have hel := k2.1
   walk_at "b"
   refine ⟨_, mapI gi, ?_⟩
   walk_at "b"
   refine take_ok (p5.app _) (by rw [List.length_map]; omega) (by rw [List.length_map]; omega) fun v T y0 y1 u6 p6 => ?_
   obtain ⟨S6, rfl, u6, p6⟩ := u6.split p5
   have u6 := u5.trans u6
   rw [List.length_map] at y1
   obtain ⟨j, rfl⟩ := Int.eq_ofNat_of_zero_le y0
   walk_at "b"
   refine take_ok (p6.app _) (by omega) (by omega) fun v T a0 a1 u7 p7 => ?_
   obtain ⟨S7, rfl, u7, p7⟩ := u7.split p6
   have u7 := u6.trans u7
   obtain ⟨a, rfl⟩ := Int.eq_ofNat_of_zero_le a0
   walk_at "b"
   refine take_ok (p7.app _) (by omega) (by omega) fun v T b0 b1 u8 p8 => ?_
   obtain ⟨S8, rfl, u8, p8⟩ := u8.split p7
   have u8 := u7.trans u8
   obtain ⟨b, rfl⟩ := Int.eq_ofNat_of_zero_le b0
   walk_at "b"
   refine ⟨rfl, 0, rfl, p8.app _, fun k T c0 c1 u9 p9 => ?_⟩
   obtain ⟨S9, rfl, u9, p9⟩ := u9.split p8
   have u9 := u8.trans u9
   have f9 := fl u9
   have l9 := u9.len
   have hI : In29 nss m pl es way i j a b k [] := ⟨hN, hok, (fun l h => nomatch h), hkd, hB, m8, by omega, gi, by omega, by omega, by omega, c0, c1⟩
   obtain ⟨r, hr⟩ := res_ex nss m pl es way i j a b k
   walk_at "b"
   refine told_ok hI f9 hr ?_
   walk_at "b"
   refine told_ok hI f9 hr ?_
   walk_at "b"
   refine cNeSelf hr.nl hr.dp ?_
   walk_at "b"
   refine ⟨_, lget l9.symm, by omega, ?_⟩
   rw [lset l9.symm]
   refine ⟨S9, _, _, _, _, _, _, _, _, _, rfl, u9, p9, by simp [hfl], fun x hx => ?_, rfl⟩
   rcases List.mem_append.mp hx with hx | hx
   · exact hfs x hx
   · rw [List.mem_singleton.mp hx]
     exact ⟨es, way, i, j, a, b, k, r, rfl, hI, hr⟩
 · rintro Γ' T ⟨S', fs, o6, o7, o8, o9, o10, o11, o12, o13, rfl, u3, p3, hfl, hfs, rfl⟩
   rw [upTo_length] at hfl
   have fl : flat (S' ++ [fs]) := flat_app (u3.flat f2) fun l h => by rw [List.mem_singleton.mp h]; exact nolocs_of fun x hx => fst_nl (hfs x hx)
   cases fs with
   | nil => cases hfl
   | cons x fs =>
     obtain ⟨es, way, i, j, a, b, k, r, rfl, hI, hr⟩ := hfs x List.mem_cons_self
     walk_at "b"
     refine ⟨_, _, lget u3.len.symm, atI_nat (j := 0) rfl, ?_⟩
     walk_at "b"
     refine ⟨rfl, ?_⟩
     walk_at "b"
     refine told_ok hI fl hr ?_
     walk_at "n"
     by_cases hok : Ok29 m es way a b
     · have e := hr.yes hok
       subst e
       unfold wpCmp
       refine ⟨⟨okd_dPn _, okd_dPn _, deep_dPn _⟩, ?_⟩
       show W (.bl (eqD (dPn _) (dPn _))) _
       rw [eqD_self _ (noloc_dPn _)]
       exact hw _
     · have e := hr.no hok
       subst e
       unfold wpCmp
       refine ⟨⟨rfl, rfl, Nat.zero_le _⟩, ?_⟩
       exact hw _
end K29
namespace K29
open PySem PySem.Spec L2 DL RF XE
open PyProof.Rows
theorem all_mk {l : PySem.W.OpenLaw} {w : World} {K : PySem.W.Frag} {h : Heap} {mg : Str → Option Value} {fa f0 f1 f2 f3 f4 f5 f6 f7 f8 f9 f10 f11 f12 f13 f14 f15 f16 f17 f18 f19 f20 f21 f22 f23 f24 f25 f26 f27 f28 f29 f30 f31 f32 f33 f34 f35 f36 f37 f38 f39 f40 f41 f42 f43 f44 f45 : Addr} (X : K.In h) (G : h.Ns mainGlobals mg) (hfa : mg "law" = some (.ref fa))
 {od0 an0 : Option Addr} {sl0 : Array (Option Value)} {oc0 kV0 dc0 pm0 cd0 ct0 : Value}
 {od1 an1 : Option Addr} {sl1 : Array (Option Value)} {oc1 kV1 dc1 pm1 cd1 ct1 : Value}
 {od2 an2 : Option Addr} {sl2 : Array (Option Value)} {oc2 kV2 dc2 pm2 cd2 ct2 : Value}
 {od3 an3 : Option Addr} {sl3 : Array (Option Value)} {oc3 kV3 dc3 pm3 cd3 ct3 : Value}
 {od4 an4 : Option Addr} {sl4 : Array (Option Value)} {oc4 kV4 dc4 pm4 cd4 ct4 : Value}
 {od5 an5 : Option Addr} {sl5 : Array (Option Value)} {oc5 kV5 dc5 pm5 cd5 ct5 : Value}
 {od6 an6 : Option Addr} {sl6 : Array (Option Value)} {oc6 kV6 dc6 pm6 cd6 ct6 : Value}
 {od7 an7 : Option Addr} {sl7 : Array (Option Value)} {oc7 kV7 dc7 pm7 cd7 ct7 : Value}
 {od8 an8 : Option Addr} {sl8 : Array (Option Value)} {oc8 kV8 dc8 pm8 cd8 ct8 : Value}
 {od9 an9 : Option Addr} {sl9 : Array (Option Value)} {oc9 kV9 dc9 pm9 cd9 ct9 : Value}
 {od10 an10 : Option Addr} {sl10 : Array (Option Value)} {oc10 kV10 dc10 pm10 cd10 ct10 : Value}
 {od11 an11 : Option Addr} {sl11 : Array (Option Value)} {oc11 kV11 dc11 pm11 cd11 ct11 : Value}
 {od12 an12 : Option Addr} {sl12 : Array (Option Value)} {oc12 kV12 dc12 pm12 cd12 ct12 : Value}
 {od13 an13 : Option Addr} {sl13 : Array (Option Value)} {oc13 kV13 dc13 pm13 cd13 ct13 : Value}
 {od14 an14 : Option Addr} {sl14 : Array (Option Value)} {oc14 kV14 dc14 pm14 cd14 ct14 : Value}
 {od15 an15 : Option Addr} {sl15 : Array (Option Value)} {oc15 kV15 dc15 pm15 cd15 ct15 : Value}
 {od16 an16 : Option Addr} {sl16 : Array (Option Value)} {oc16 kV16 dc16 pm16 cd16 ct16 : Value}
 {od17 an17 : Option Addr} {sl17 : Array (Option Value)} {oc17 kV17 dc17 pm17 cd17 ct17 : Value}
 {od18 an18 : Option Addr} {sl18 : Array (Option Value)} {oc18 kV18 dc18 pm18 cd18 ct18 : Value}
 {od19 an19 : Option Addr} {sl19 : Array (Option Value)} {oc19 kV19 dc19 pm19 cd19 ct19 : Value}
 {od20 an20 : Option Addr} {sl20 : Array (Option Value)} {oc20 kV20 dc20 pm20 cd20 ct20 : Value}
 {od21 an21 : Option Addr} {sl21 : Array (Option Value)} {oc21 kV21 dc21 pm21 cd21 ct21 : Value}
 {od22 an22 : Option Addr} {sl22 : Array (Option Value)} {oc22 kV22 dc22 pm22 cd22 ct22 : Value}
 {od23 an23 : Option Addr} {sl23 : Array (Option Value)} {oc23 kV23 dc23 pm23 cd23 ct23 : Value}
 {od24 an24 : Option Addr} {sl24 : Array (Option Value)} {oc24 kV24 dc24 pm24 cd24 ct24 : Value}
 {od25 an25 : Option Addr} {sl25 : Array (Option Value)} {oc25 kV25 dc25 pm25 cd25 ct25 : Value}
 {od26 an26 : Option Addr} {sl26 : Array (Option Value)} {oc26 kV26 dc26 pm26 cd26 ct26 : Value}
 {od27 an27 : Option Addr} {sl27 : Array (Option Value)} {oc27 kV27 dc27 pm27 cd27 ct27 : Value}
 {od28 an28 : Option Addr} {sl28 : Array (Option Value)} {oc28 kV28 dc28 pm28 cd28 ct28 : Value}
 {od29 an29 : Option Addr} {sl29 : Array (Option Value)} {oc29 kV29 dc29 pm29 cd29 ct29 : Value}
 {od30 an30 : Option Addr} {sl30 : Array (Option Value)} {oc30 kV30 dc30 pm30 cd30 ct30 : Value}
 {od31 an31 : Option Addr} {sl31 : Array (Option Value)} {oc31 kV31 dc31 pm31 cd31 ct31 : Value}
 {od32 an32 : Option Addr} {sl32 : Array (Option Value)} {oc32 kV32 dc32 pm32 cd32 ct32 : Value}
 {od33 an33 : Option Addr} {sl33 : Array (Option Value)} {oc33 kV33 dc33 pm33 cd33 ct33 : Value}
 {od34 an34 : Option Addr} {sl34 : Array (Option Value)} {oc34 kV34 dc34 pm34 cd34 ct34 : Value}
 {od35 an35 : Option Addr} {sl35 : Array (Option Value)} {oc35 kV35 dc35 pm35 cd35 ct35 : Value}
 {od36 an36 : Option Addr} {sl36 : Array (Option Value)} {oc36 kV36 dc36 pm36 cd36 ct36 : Value}
 {od37 an37 : Option Addr} {sl37 : Array (Option Value)} {oc37 kV37 dc37 pm37 cd37 ct37 : Value}
 {od38 an38 : Option Addr} {sl38 : Array (Option Value)} {oc38 kV38 dc38 pm38 cd38 ct38 : Value}
 {od39 an39 : Option Addr} {sl39 : Array (Option Value)} {oc39 kV39 dc39 pm39 cd39 ct39 : Value}
 {od40 an40 : Option Addr} {sl40 : Array (Option Value)} {oc40 kV40 dc40 pm40 cd40 ct40 : Value}
 {od41 an41 : Option Addr} {sl41 : Array (Option Value)} {oc41 kV41 dc41 pm41 cd41 ct41 : Value}
 {od42 an42 : Option Addr} {sl42 : Array (Option Value)} {oc42 kV42 dc42 pm42 cd42 ct42 : Value}
 {od43 an43 : Option Addr} {sl43 : Array (Option Value)} {oc43 kV43 dc43 pm43 cd43 ct43 : Value}
 {od44 an44 : Option Addr} {sl44 : Array (Option Value)} {oc44 kV44 dc44 pm44 cd44 ct44 : Value}
 {od45 an45 : Option Addr} {sl45 : Array (Option Value)} {oc45 kV45 dc45 pm45 cd45 ct45 : Value}
 (a0 : PySem.W.nsIn K mainGlobals "_law_cell_at" = some (some (.ref f0))) (l0 : K.lookup f0 = some ⟨oc0, od0, .func (PySem.W.fnOf "_law_cell_at" "_law_cell_at" (defArgs s_l_cell_at) (defBody s_l_cell_at) (defScope s_l_cell_at) .none kV0 dc0 pm0 an0 cd0 ct0), sl0⟩) (c0 : PySem.W.codeIn K cd0 "_law_cell_at" = true) (k0 : PySem.W.keepIn K (.ref f0) = true)
 (a1 : PySem.W.nsIn K mainGlobals "_law_pen" = some (some (.ref f1))) (l1 : K.lookup f1 = some ⟨oc1, od1, .func (PySem.W.fnOf "_law_pen" "_law_pen" (defArgs s_l_pen) (defBody s_l_pen) (defScope s_l_pen) .none kV1 dc1 pm1 an1 cd1 ct1), sl1⟩) (c1 : PySem.W.codeIn K cd1 "_law_pen" = true) (k1 : PySem.W.keepIn K (.ref f1) = true)
 (a2 : PySem.W.nsIn K mainGlobals "_law_take" = some (some (.ref f2))) (l2 : K.lookup f2 = some ⟨oc2, od2, .func (PySem.W.fnOf "_law_take" "_law_take" (defArgs s_l_take) (defBody s_l_take) (defScope s_l_take) .none kV2 dc2 pm2 an2 cd2 ct2), sl2⟩) (c2 : PySem.W.codeIn K cd2 "_law_take" = true) (k2 : PySem.W.keepIn K (.ref f2) = true)
 (a3 : PySem.W.nsIn K mainGlobals "_law_program" = some (some (.ref f3))) (l3 : K.lookup f3 = some ⟨oc3, od3, .func (PySem.W.fnOf "_law_program" "_law_program" (defArgs s_l_program) (defBody s_l_program) (defScope s_l_program) .none kV3 dc3 pm3 an3 cd3 ct3), sl3⟩) (c3 : PySem.W.codeIn K cd3 "_law_program" = true) (k3 : PySem.W.keepIn K (.ref f3) = true)
 (a4 : PySem.W.nsIn K mainGlobals "_law_number" = some (some (.ref f4))) (l4 : K.lookup f4 = some ⟨oc4, od4, .func (PySem.W.fnOf "_law_number" "_law_number" (defArgs s_l_number) (defBody s_l_number) (defScope s_l_number) .none kV4 dc4 pm4 an4 cd4 ct4), sl4⟩) (c4 : PySem.W.codeIn K cd4 "_law_number" = true) (k4 : PySem.W.keepIn K (.ref f4) = true)
 (a5 : PySem.W.nsIn K mainGlobals "_law_plan" = some (some (.ref f5))) (l5 : K.lookup f5 = some ⟨oc5, od5, .func (PySem.W.fnOf "_law_plan" "_law_plan" (defArgs s_l_plan) (defBody s_l_plan) (defScope s_l_plan) .none kV5 dc5 pm5 an5 cd5 ct5), sl5⟩) (c5 : PySem.W.codeIn K cd5 "_law_plan" = true) (k5 : PySem.W.keepIn K (.ref f5) = true)
 (a6 : PySem.W.nsIn K mainGlobals "_law_deeds_turned" = some (some (.ref f6))) (l6 : K.lookup f6 = some ⟨oc6, od6, .func (PySem.W.fnOf "_law_deeds_turned" "_law_deeds_turned" (defArgs s_l_deeds_turned) (defBody s_l_deeds_turned) (defScope s_l_deeds_turned) .none kV6 dc6 pm6 an6 cd6 ct6), sl6⟩) (c6 : PySem.W.codeIn K cd6 "_law_deeds_turned" = true) (k6 : PySem.W.keepIn K (.ref f6) = true)
 (a7 : PySem.W.nsIn K mainGlobals "_law_swapped" = some (some (.ref f7))) (l7 : K.lookup f7 = some ⟨oc7, od7, .func (PySem.W.fnOf "_law_swapped" "_law_swapped" (defArgs s_l_swapped) (defBody s_l_swapped) (defScope s_l_swapped) .none kV7 dc7 pm7 an7 cd7 ct7), sl7⟩) (c7 : PySem.W.codeIn K cd7 "_law_swapped" = true) (k7 : PySem.W.keepIn K (.ref f7) = true)
 (a8 : PySem.W.nsIn K mainGlobals "_law_put" = some (some (.ref f8))) (l8 : K.lookup f8 = some ⟨oc8, od8, .func (PySem.W.fnOf "_law_put" "_law_put" (defArgs s_l_put) (defBody s_l_put) (defScope s_l_put) .none kV8 dc8 pm8 an8 cd8 ct8), sl8⟩) (c8 : PySem.W.codeIn K cd8 "_law_put" = true) (k8 : PySem.W.keepIn K (.ref f8) = true)
 (a9 : PySem.W.nsIn K mainGlobals "_law_due" = some (some (.ref f9))) (l9 : K.lookup f9 = some ⟨oc9, od9, .func (PySem.W.fnOf "_law_due" "_law_due" (defArgs s_l_due) (defBody s_l_due) (defScope s_l_due) .none kV9 dc9 pm9 an9 cd9 ct9), sl9⟩) (c9 : PySem.W.codeIn K cd9 "_law_due" = true) (k9 : PySem.W.keepIn K (.ref f9) = true)
 (a10 : PySem.W.nsIn K mainGlobals "is_tuple_of" = some (some (.ref f10))) (l10 : K.lookup f10 = some ⟨oc10, od10, .func (PySem.W.fnOf "is_tuple_of" "is_tuple_of" (defArgs s_p_is_tuple_of) (defBody s_p_is_tuple_of) (defScope s_p_is_tuple_of) .none kV10 dc10 pm10 an10 cd10 ct10), sl10⟩) (c10 : PySem.W.codeIn K cd10 "is_tuple_of" = true) (k10 : PySem.W.keepIn K (.ref f10) = true)
 (a11 : PySem.W.nsIn K mainGlobals "is_whole" = some (some (.ref f11))) (l11 : K.lookup f11 = some ⟨oc11, od11, .func (PySem.W.fnOf "is_whole" "is_whole" (defArgs s_p_is_whole) (defBody s_p_is_whole) (defScope s_p_is_whole) .none kV11 dc11 pm11 an11 cd11 ct11), sl11⟩) (c11 : PySem.W.codeIn K cd11 "is_whole" = true) (k11 : PySem.W.keepIn K (.ref f11) = true)
 (a12 : PySem.W.nsIn K mainGlobals "is_form" = some (some (.ref f12))) (l12 : K.lookup f12 = some ⟨oc12, od12, .func (PySem.W.fnOf "is_form" "is_form" (defArgs s_p_is_form) (defBody s_p_is_form) (defScope s_p_is_form) .none kV12 dc12 pm12 an12 cd12 ct12), sl12⟩) (c12 : PySem.W.codeIn K cd12 "is_form" = true) (k12 : PySem.W.keepIn K (.ref f12) = true)
 (a13 : PySem.W.nsIn K mainGlobals "is_word" = some (some (.ref f13))) (l13 : K.lookup f13 = some ⟨oc13, od13, .func (PySem.W.fnOf "is_word" "is_word" (defArgs s_p_is_word) (defBody s_p_is_word) (defScope s_p_is_word) .none kV13 dc13 pm13 an13 cd13 ct13), sl13⟩) (c13 : PySem.W.codeIn K cd13 "is_word" = true) (k13 : PySem.W.keepIn K (.ref f13) = true)
 (a14 : PySem.W.nsIn K mainGlobals "is_size" = some (some (.ref f14))) (l14 : K.lookup f14 = some ⟨oc14, od14, .func (PySem.W.fnOf "is_size" "is_size" (defArgs s_p_is_size) (defBody s_p_is_size) (defScope s_p_is_size) .none kV14 dc14 pm14 an14 cd14 ct14), sl14⟩) (c14 : PySem.W.codeIn K cd14 "is_size" = true) (k14 : PySem.W.keepIn K (.ref f14) = true)
 (a15 : PySem.W.nsIn K mainGlobals "is_line" = some (some (.ref f15))) (l15 : K.lookup f15 = some ⟨oc15, od15, .func (PySem.W.fnOf "is_line" "is_line" (defArgs s_p_is_line) (defBody s_p_is_line) (defScope s_p_is_line) .none kV15 dc15 pm15 an15 cd15 ct15), sl15⟩) (c15 : PySem.W.codeIn K cd15 "is_line" = true) (k15 : PySem.W.keepIn K (.ref f15) = true)
 (a16 : PySem.W.nsIn K mainGlobals "is_lines" = some (some (.ref f16))) (l16 : K.lookup f16 = some ⟨oc16, od16, .func (PySem.W.fnOf "is_lines" "is_lines" (defArgs s_p_is_lines) (defBody s_p_is_lines) (defScope s_p_is_lines) .none kV16 dc16 pm16 an16 cd16 ct16), sl16⟩) (c16 : PySem.W.codeIn K cd16 "is_lines" = true) (k16 : PySem.W.keepIn K (.ref f16) = true)
 (a17 : PySem.W.nsIn K mainGlobals "is_nest_plan" = some (some (.ref f17))) (l17 : K.lookup f17 = some ⟨oc17, od17, .func (PySem.W.fnOf "is_nest_plan" "is_nest_plan" (defArgs s_p_is_nest_plan) (defBody s_p_is_nest_plan) (defScope s_p_is_nest_plan) .none kV17 dc17 pm17 an17 cd17 ct17), sl17⟩) (c17 : PySem.W.codeIn K cd17 "is_nest_plan" = true) (k17 : PySem.W.keepIn K (.ref f17) = true)
 (a18 : PySem.W.nsIn K mainGlobals "numbers_of_lines" = some (some (.ref f18))) (l18 : K.lookup f18 = some ⟨oc18, od18, .func (PySem.W.fnOf "numbers_of_lines" "numbers_of_lines" (defArgs s_p_numbers_of_lines) (defBody s_p_numbers_of_lines) (defScope s_p_numbers_of_lines) .none kV18 dc18 pm18 an18 cd18 ct18), sl18⟩) (c18 : PySem.W.codeIn K cd18 "numbers_of_lines" = true) (k18 : PySem.W.keepIn K (.ref f18) = true)
 (a19 : PySem.W.nsIn K mainGlobals "is_plan" = some (some (.ref f19))) (l19 : K.lookup f19 = some ⟨oc19, od19, .func (PySem.W.fnOf "is_plan" "is_plan" (defArgs s_p_is_plan) (defBody s_p_is_plan) (defScope s_p_is_plan) .none kV19 dc19 pm19 an19 cd19 ct19), sl19⟩) (c19 : PySem.W.codeIn K cd19 "is_plan" = true) (k19 : PySem.W.keepIn K (.ref f19) = true)
 (a20 : PySem.W.nsIn K mainGlobals "refuse_no_plan" = some (some (.ref f20))) (l20 : K.lookup f20 = some ⟨oc20, od20, .func (PySem.W.fnOf "refuse_no_plan" "refuse_no_plan" (defArgs s_p_refuse_no_plan) (defBody s_p_refuse_no_plan) (defScope s_p_refuse_no_plan) .none kV20 dc20 pm20 an20 cd20 ct20), sl20⟩) (c20 : PySem.W.codeIn K cd20 "refuse_no_plan" = true) (k20 : PySem.W.keepIn K (.ref f20) = true)
 (a21 : PySem.W.nsIn K mainGlobals "refuse_no_nest" = some (some (.ref f21))) (l21 : K.lookup f21 = some ⟨oc21, od21, .func (PySem.W.fnOf "refuse_no_nest" "refuse_no_nest" (defArgs s_p_refuse_no_nest) (defBody s_p_refuse_no_nest) (defScope s_p_refuse_no_nest) .none kV21 dc21 pm21 an21 cd21 ct21), sl21⟩) (c21 : PySem.W.codeIn K cd21 "refuse_no_nest" = true) (k21 : PySem.W.keepIn K (.ref f21) = true)
 (a22 : PySem.W.nsIn K mainGlobals "number_of_lines" = some (some (.ref f22))) (l22 : K.lookup f22 = some ⟨oc22, od22, .func (PySem.W.fnOf "number_of_lines" "number_of_lines" (defArgs s_p_number_of_lines) (defBody s_p_number_of_lines) (defScope s_p_number_of_lines) .none kV22 dc22 pm22 an22 cd22 ct22), sl22⟩) (c22 : PySem.W.codeIn K cd22 "number_of_lines" = true) (k22 : PySem.W.keepIn K (.ref f22) = true)
 (a23 : PySem.W.nsIn K mainGlobals "refuse_no_line" = some (some (.ref f23))) (l23 : K.lookup f23 = some ⟨oc23, od23, .func (PySem.W.fnOf "refuse_no_line" "refuse_no_line" (defArgs s_p_refuse_no_line) (defBody s_p_refuse_no_line) (defScope s_p_refuse_no_line) .none kV23 dc23 pm23 an23 cd23 ct23), sl23⟩) (c23 : PySem.W.codeIn K cd23 "refuse_no_line" = true) (k23 : PySem.W.keepIn K (.ref f23) = true)
 (a24 : PySem.W.nsIn K mainGlobals "replaced" = some (some (.ref f24))) (l24 : K.lookup f24 = some ⟨oc24, od24, .func (PySem.W.fnOf "replaced" "replaced" (defArgs s_p_replaced) (defBody s_p_replaced) (defScope s_p_replaced) .none kV24 dc24 pm24 an24 cd24 ct24), sl24⟩) (c24 : PySem.W.codeIn K cd24 "replaced" = true) (k24 : PySem.W.keepIn K (.ref f24) = true)
 (a25 : PySem.W.nsIn K mainGlobals "exchanged_lines" = some (some (.ref f25))) (l25 : K.lookup f25 = some ⟨oc25, od25, .func (PySem.W.fnOf "exchanged_lines" "exchanged_lines" (defArgs s_p_exchanged_lines) (defBody s_p_exchanged_lines) (defScope s_p_exchanged_lines) .none kV25 dc25 pm25 an25 cd25 ct25), sl25⟩) (c25 : PySem.W.codeIn K cd25 "exchanged_lines" = true) (k25 : PySem.W.keepIn K (.ref f25) = true)
 (a26 : PySem.W.nsIn K mainGlobals "exchanged" = some (some (.ref f26))) (l26 : K.lookup f26 = some ⟨oc26, od26, .func (PySem.W.fnOf "exchanged" "exchanged" (defArgs s_p_exchanged) (defBody s_p_exchanged) (defScope s_p_exchanged) .none kV26 dc26 pm26 an26 cd26 ct26), sl26⟩) (c26 : PySem.W.codeIn K cd26 "exchanged" = true) (k26 : PySem.W.keepIn K (.ref f26) = true)
 (a27 : PySem.W.nsIn K mainGlobals "refuse_no_forms" = some (some (.ref f27))) (l27 : K.lookup f27 = some ⟨oc27, od27, .func (PySem.W.fnOf "refuse_no_forms" "refuse_no_forms" (defArgs s_p_refuse_no_forms) (defBody s_p_refuse_no_forms) (defScope s_p_refuse_no_forms) .none kV27 dc27 pm27 an27 cd27 ct27), sl27⟩) (c27 : PySem.W.codeIn K cd27 "refuse_no_forms" = true) (k27 : PySem.W.keepIn K (.ref f27) = true)
 (a28 : PySem.W.nsIn K mainGlobals "backward_lines" = some (some (.ref f28))) (l28 : K.lookup f28 = some ⟨oc28, od28, .func (PySem.W.fnOf "backward_lines" "backward_lines" (defArgs s_p_backward_lines) (defBody s_p_backward_lines) (defScope s_p_backward_lines) .none kV28 dc28 pm28 an28 cd28 ct28), sl28⟩) (c28 : PySem.W.codeIn K cd28 "backward_lines" = true) (k28 : PySem.W.keepIn K (.ref f28) = true)
 (a29 : PySem.W.nsIn K mainGlobals "backward" = some (some (.ref f29))) (l29 : K.lookup f29 = some ⟨oc29, od29, .func (PySem.W.fnOf "backward" "backward" (defArgs s_p_backward) (defBody s_p_backward) (defScope s_p_backward) .none kV29 dc29 pm29 an29 cd29 ct29), sl29⟩) (c29 : PySem.W.codeIn K cd29 "backward" = true) (k29 : PySem.W.keepIn K (.ref f29) = true)
 (a30 : PySem.W.nsIn K mainGlobals "slanted_lines" = some (some (.ref f30))) (l30 : K.lookup f30 = some ⟨oc30, od30, .func (PySem.W.fnOf "slanted_lines" "slanted_lines" (defArgs s_p_slanted_lines) (defBody s_p_slanted_lines) (defScope s_p_slanted_lines) .none kV30 dc30 pm30 an30 cd30 ct30), sl30⟩) (c30 : PySem.W.codeIn K cd30 "slanted_lines" = true) (k30 : PySem.W.keepIn K (.ref f30) = true)
 (a31 : PySem.W.nsIn K mainGlobals "slanted" = some (some (.ref f31))) (l31 : K.lookup f31 = some ⟨oc31, od31, .func (PySem.W.fnOf "slanted" "slanted" (defArgs s_p_slanted) (defBody s_p_slanted) (defScope s_p_slanted) .none kV31 dc31 pm31 an31 cd31 ct31), sl31⟩) (c31 : PySem.W.codeIn K cd31 "slanted" = true) (k31 : PySem.W.keepIn K (.ref f31) = true)
 (a32 : PySem.W.nsIn K mainGlobals "refuse_no_deed" = some (some (.ref f32))) (l32 : K.lookup f32 = some ⟨oc32, od32, .func (PySem.W.fnOf "refuse_no_deed" "refuse_no_deed" (defArgs s_p_refuse_no_deed) (defBody s_p_refuse_no_deed) (defScope s_p_refuse_no_deed) .none kV32 dc32 pm32 an32 cd32 ct32), sl32⟩) (c32 : PySem.W.codeIn K cd32 "refuse_no_deed" = true) (k32 : PySem.W.keepIn K (.ref f32) = true)
 (a33 : PySem.W.nsIn K mainGlobals "moved_lines" = some (some (.ref f33))) (l33 : K.lookup f33 = some ⟨oc33, od33, .func (PySem.W.fnOf "moved_lines" "moved_lines" (defArgs s_p_moved_lines) (defBody s_p_moved_lines) (defScope s_p_moved_lines) .none kV33 dc33 pm33 an33 cd33 ct33), sl33⟩) (c33 : PySem.W.codeIn K cd33 "moved_lines" = true) (k33 : PySem.W.keepIn K (.ref f33) = true)
 (a34 : PySem.W.nsIn K mainGlobals "moved" = some (some (.ref f34))) (l34 : K.lookup f34 = some ⟨oc34, od34, .func (PySem.W.fnOf "moved" "moved" (defArgs s_p_moved) (defBody s_p_moved) (defScope s_p_moved) .none kV34 dc34 pm34 an34 cd34 ct34), sl34⟩) (c34 : PySem.W.codeIn K cd34 "moved" = true) (k34 : PySem.W.keepIn K (.ref f34) = true)
 (a35 : PySem.W.nsIn K mainGlobals "put_ahead" = some (some (.ref f35))) (l35 : K.lookup f35 = some ⟨oc35, od35, .func (PySem.W.fnOf "put_ahead" "put_ahead" (defArgs s_p_put_ahead) (defBody s_p_put_ahead) (defScope s_p_put_ahead) .none kV35 dc35 pm35 an35 cd35 ct35), sl35⟩) (c35 : PySem.W.codeIn K cd35 "put_ahead" = true) (k35 : PySem.W.keepIn K (.ref f35) = true)
 (a36 : PySem.W.nsIn K mainGlobals "with_block_ahead" = some (some (.ref f36))) (l36 : K.lookup f36 = some ⟨oc36, od36, .func (PySem.W.fnOf "with_block_ahead" "with_block_ahead" (defArgs s_p_with_block_ahead) (defBody s_p_with_block_ahead) (defScope s_p_with_block_ahead) .none kV36 dc36 pm36 an36 cd36 ct36), sl36⟩) (c36 : PySem.W.codeIn K cd36 "with_block_ahead" = true) (k36 : PySem.W.keepIn K (.ref f36) = true)
 (a37 : PySem.W.nsIn K mainGlobals "number_form" = some (some (.ref f37))) (l37 : K.lookup f37 = some ⟨oc37, od37, .func (PySem.W.fnOf "number_form" "number_form" (defArgs s_p_number_form) (defBody s_p_number_form) (defScope s_p_number_form) .none kV37 dc37 pm37 an37 cd37 ct37), sl37⟩) (c37 : PySem.W.codeIn K cd37 "number_form" = true) (k37 : PySem.W.keepIn K (.ref f37) = true)
 (a38 : PySem.W.nsIn K mainGlobals "with_nothing_ahead" = some (some (.ref f38))) (l38 : K.lookup f38 = some ⟨oc38, od38, .func (PySem.W.fnOf "with_nothing_ahead" "with_nothing_ahead" (defArgs s_p_with_nothing_ahead) (defBody s_p_with_nothing_ahead) (defScope s_p_with_nothing_ahead) .none kV38 dc38 pm38 an38 cd38 ct38), sl38⟩) (c38 : PySem.W.codeIn K cd38 "with_nothing_ahead" = true) (k38 : PySem.W.keepIn K (.ref f38) = true)
 (a39 : PySem.W.nsIn K mainGlobals "blocked" = some (some (.ref f39))) (l39 : K.lookup f39 = some ⟨oc39, od39, .func (PySem.W.fnOf "blocked" "blocked" (defArgs s_p_blocked) (defBody s_p_blocked) (defScope s_p_blocked) .none kV39 dc39 pm39 an39 cd39 ct39), sl39⟩) (c39 : PySem.W.codeIn K cd39 "blocked" = true) (k39 : PySem.W.keepIn K (.ref f39) = true)
 (a40 : PySem.W.nsIn K mainGlobals "left_out" = some (some (.ref f40))) (l40 : K.lookup f40 = some ⟨oc40, od40, .func (PySem.W.fnOf "left_out" "left_out" (defArgs s_p_left_out) (defBody s_p_left_out) (defScope s_p_left_out) .none kV40 dc40 pm40 an40 cd40 ct40), sl40⟩) (c40 : PySem.W.codeIn K cd40 "left_out" = true) (k40 : PySem.W.keepIn K (.ref f40) = true)
 (a41 : PySem.W.nsIn K mainGlobals "cut_deeds" = some (some (.ref f41))) (l41 : K.lookup f41 = some ⟨oc41, od41, .func (PySem.W.fnOf "cut_deeds" "cut_deeds" (defArgs s_p_cut_deeds) (defBody s_p_cut_deeds) (defScope s_p_cut_deeds) .none kV41 dc41 pm41 an41 cd41 ct41), sl41⟩) (c41 : PySem.W.codeIn K cd41 "cut_deeds" = true) (k41 : PySem.W.keepIn K (.ref f41) = true)
 (a42 : PySem.W.nsIn K mainGlobals "cut" = some (some (.ref f42))) (l42 : K.lookup f42 = some ⟨oc42, od42, .func (PySem.W.fnOf "cut" "cut" (defArgs s_p_cut) (defBody s_p_cut) (defScope s_p_cut) .none kV42 dc42 pm42 an42 cd42 ct42), sl42⟩) (c42 : PySem.W.codeIn K cd42 "cut" = true) (k42 : PySem.W.keepIn K (.ref f42) = true)
 (a43 : PySem.W.nsIn K mainGlobals "_law_asked" = some (some (.ref f43))) (l43 : K.lookup f43 = some ⟨oc43, od43, .func (PySem.W.fnOf "_law_asked" "_law_asked" (defArgs s_l_asked) (defBody s_l_asked) (defScope s_l_asked) .none kV43 dc43 pm43 an43 cd43 ct43), sl43⟩) (c43 : PySem.W.codeIn K cd43 "_law_asked" = true) (k43 : PySem.W.keepIn K (.ref f43) = true)
 (a44 : PySem.W.nsIn K mainGlobals "_law_told" = some (some (.ref f44))) (l44 : K.lookup f44 = some ⟨oc44, od44, .func (PySem.W.fnOf "_law_told" "_law_told" (defArgs s_l_told) (defBody s_l_told) (defScope s_l_told) .none kV44 dc44 pm44 an44 cd44 ct44), sl44⟩) (c44 : PySem.W.codeIn K cd44 "_law_told" = true) (k44 : PySem.W.keepIn K (.ref f44) = true)
 (a45 : PySem.W.nsIn K mainGlobals "law" = some (some (.ref f45))) (l45 : K.lookup f45 = some ⟨oc45, od45, .func (PySem.W.fnOf "law" "law" (defArgs s_law) (defBody s_law) (defScope s_law) .none kV45 dc45 pm45 an45 cd45 ct45), sl45⟩) (c45 : PySem.W.codeIn K cd45 "law" = true) (k45 : PySem.W.keepIn K (.ref f45) = true)
 {t_GREATEST_SIZE : Tok} (z_GREATEST_SIZE : PySem.W.nsIn K mainGlobals "GREATEST_SIZE" = some (some (.int 99 t_GREATEST_SIZE)))
 {t_MOST_LINES : Tok} (z_MOST_LINES : PySem.W.nsIn K mainGlobals "MOST_LINES" = some (some (.int 9 t_MOST_LINES)))
 (z_all : PySem.W.nsIn K mainGlobals "all" = some none)
 (z_bool : PySem.W.nsIn K mainGlobals "bool" = some none)
 (z_enumerate : PySem.W.nsIn K mainGlobals "enumerate" = some none)
 (z_int : PySem.W.nsIn K mainGlobals "int" = some none)
 (z_isinstance : PySem.W.nsIn K mainGlobals "isinstance" = some none)
 (z_len : PySem.W.nsIn K mainGlobals "len" = some none)
 (z_list : PySem.W.nsIn K mainGlobals "list" = some none)
 (z_range : PySem.W.nsIn K mainGlobals "range" = some none)
 (z_set : PySem.W.nsIn K mainGlobals "set" = some none)
 (z_str : PySem.W.nsIn K mainGlobals "str" = some none)
 (z_sum : PySem.W.nsIn K mainGlobals "sum" = some none)
 (z_tuple : PySem.W.nsIn K mainGlobals "tuple" = some none)
 (z_zip : PySem.W.nsIn K mainGlobals "zip" = some none)
 (z_ex : XL.all (excB K XT) = true)
 : ∃ fd : FuncData, (∀ (s : Shared) (v : Value), BindsTo s fd ⟨[v], []⟩ [("_law_script", v)]) ∧ ∀ base : Heap, K.In base → base.Ns mainGlobals mg → FnOk l.prog w K mg base CX0 11 fa fd ["_law_script"] (spC K 1 c_law) := by
 have e := hfa.symm.trans (PySem.W.mg_of X G a45)
 cases e
 have F0 := fun_mk (st := s_l_cell_at) l0 c0 k0
 have b0 := F0.binds (ps := P_l_cell_at) fun _ _ _ _ _ _ us hl => match us, hl with | [_, _], _ => rfl
 have F1 := fun_mk (st := s_l_pen) l1 c1 k1
 have b1 := F1.binds (ps := P_l_pen) fun _ _ _ _ _ _ us hl => match us, hl with | [_], _ => rfl
 have F2 := fun_mk (st := s_l_take) l2 c2 k2
 have b2 := F2.binds (ps := P_l_take) fun _ _ _ _ _ _ us hl => match us, hl with | [_, _], _ => rfl
 have F3 := fun_mk (st := s_l_program) l3 c3 k3
 have b3 := F3.binds (ps := P_l_program) fun _ _ _ _ _ _ us hl => match us, hl with | [_], _ => rfl
 have F4 := fun_mk (st := s_l_number) l4 c4 k4
 have b4 := F4.binds (ps := P_l_number) fun _ _ _ _ _ _ us hl => match us, hl with | [_], _ => rfl
 have F5 := fun_mk (st := s_l_plan) l5 c5 k5
 have b5 := F5.binds (ps := P_l_plan) fun _ _ _ _ _ _ us hl => match us, hl with | [_, _], _ => rfl
 have F6 := fun_mk (st := s_l_deeds_turned) l6 c6 k6
 have b6 := F6.binds (ps := P_l_deeds_turned) fun _ _ _ _ _ _ us hl => match us, hl with | [_, _, _], _ => rfl
 have F7 := fun_mk (st := s_l_swapped) l7 c7 k7
 have b7 := F7.binds (ps := P_l_swapped) fun _ _ _ _ _ _ us hl => match us, hl with | [_, _, _], _ => rfl
 have F8 := fun_mk (st := s_l_put) l8 c8 k8
 have b8 := F8.binds (ps := P_l_put) fun _ _ _ _ _ _ us hl => match us, hl with | [_, _, _], _ => rfl
 have F9 := fun_mk (st := s_l_due) l9 c9 k9
 have b9 := F9.binds (ps := P_l_due) fun _ _ _ _ _ _ us hl => match us, hl with | [_, _, _, _, _, _, _, _], _ => rfl
 have F10 := fun_mk (st := s_p_is_tuple_of) l10 c10 k10
 have b10 := F10.binds (ps := P_p_is_tuple_of) fun _ _ _ _ _ _ us hl => match us, hl with | [_, _, _], _ => rfl
 have F11 := fun_mk (st := s_p_is_whole) l11 c11 k11
 have b11 := F11.binds (ps := P_p_is_whole) fun _ _ _ _ _ _ us hl => match us, hl with | [_], _ => rfl
 have F12 := fun_mk (st := s_p_is_form) l12 c12 k12
 have b12 := F12.binds (ps := P_p_is_form) fun _ _ _ _ _ _ us hl => match us, hl with | [_, _], _ => rfl
 have F13 := fun_mk (st := s_p_is_word) l13 c13 k13
 have b13 := F13.binds (ps := P_p_is_word) fun _ _ _ _ _ _ us hl => match us, hl with | [_, _], _ => rfl
 have F14 := fun_mk (st := s_p_is_size) l14 c14 k14
 have b14 := F14.binds (ps := P_p_is_size) fun _ _ _ _ _ _ us hl => match us, hl with | [_], _ => rfl
 have F15 := fun_mk (st := s_p_is_line) l15 c15 k15
 have b15 := F15.binds (ps := P_p_is_line) fun _ _ _ _ _ _ us hl => match us, hl with | [_, _], _ => rfl
 have F16 := fun_mk (st := s_p_is_lines) l16 c16 k16
 have b16 := F16.binds (ps := P_p_is_lines) fun _ _ _ _ _ _ us hl => match us, hl with | [_, _], _ => rfl
 have F17 := fun_mk (st := s_p_is_nest_plan) l17 c17 k17
 have b17 := F17.binds (ps := P_p_is_nest_plan) fun _ _ _ _ _ _ us hl => match us, hl with | [_, _], _ => rfl
 have F18 := fun_mk (st := s_p_numbers_of_lines) l18 c18 k18
 have b18 := F18.binds (ps := P_p_numbers_of_lines) fun _ _ _ _ _ _ us hl => match us, hl with | [_], _ => rfl
 have F19 := fun_mk (st := s_p_is_plan) l19 c19 k19
 have b19 := F19.binds (ps := P_p_is_plan) fun _ _ _ _ _ _ us hl => match us, hl with | [_, _], _ => rfl
 have F20 := fun_mk (st := s_p_refuse_no_plan) l20 c20 k20
 have b20 := F20.binds (ps := P_p_refuse_no_plan) fun _ _ _ _ _ _ us hl => match us, hl with | [_, _], _ => rfl
 have F21 := fun_mk (st := s_p_refuse_no_nest) l21 c21 k21
 have b21 := F21.binds (ps := P_p_refuse_no_nest) fun _ _ _ _ _ _ us hl => match us, hl with | [_, _], _ => rfl
 have F22 := fun_mk (st := s_p_number_of_lines) l22 c22 k22
 have b22 := F22.binds (ps := P_p_number_of_lines) fun _ _ _ _ _ _ us hl => match us, hl with | [_], _ => rfl
 have F23 := fun_mk (st := s_p_refuse_no_line) l23 c23 k23
 have b23 := F23.binds (ps := P_p_refuse_no_line) fun _ _ _ _ _ _ us hl => match us, hl with | [_, _], _ => rfl
 have F24 := fun_mk (st := s_p_replaced) l24 c24 k24
 have b24 := F24.binds (ps := P_p_replaced) fun _ _ _ _ _ _ us hl => match us, hl with | [_, _, _], _ => rfl
 have F25 := fun_mk (st := s_p_exchanged_lines) l25 c25 k25
 have b25 := F25.binds (ps := P_p_exchanged_lines) fun _ _ _ _ _ _ us hl => match us, hl with | [_, _, _], _ => rfl
 have F26 := fun_mk (st := s_p_exchanged) l26 c26 k26
 have b26 := F26.binds (ps := P_p_exchanged) fun _ _ _ _ _ _ us hl => match us, hl with | [_, _, _, _, _], _ => rfl
 have F27 := fun_mk (st := s_p_refuse_no_forms) l27 c27 k27
 have b27 := F27.binds (ps := P_p_refuse_no_forms) fun _ _ _ _ _ _ us hl => match us, hl with | [_, _], _ => rfl
 have F28 := fun_mk (st := s_p_backward_lines) l28 c28 k28
 have b28 := F28.binds (ps := P_p_backward_lines) fun _ _ _ _ _ _ us hl => match us, hl with | [_, _], _ => rfl
 have F29 := fun_mk (st := s_p_backward) l29 c29 k29
 have b29 := F29.binds (ps := P_p_backward) fun _ _ _ _ _ _ us hl => match us, hl with | [_, _, _, _], _ => rfl
 have F30 := fun_mk (st := s_p_slanted_lines) l30 c30 k30
 have b30 := F30.binds (ps := P_p_slanted_lines) fun _ _ _ _ _ _ us hl => match us, hl with | [_, _, _, _], _ => rfl
 have F31 := fun_mk (st := s_p_slanted) l31 c31 k31
 have b31 := F31.binds (ps := P_p_slanted) fun _ _ _ _ _ _ us hl => match us, hl with | [_, _, _, _, _, _], _ => rfl
 have F32 := fun_mk (st := s_p_refuse_no_deed) l32 c32 k32
 have b32 := F32.binds (ps := P_p_refuse_no_deed) fun _ _ _ _ _ _ us hl => match us, hl with | [_, _], _ => rfl
 have F33 := fun_mk (st := s_p_moved_lines) l33 c33 k33
 have b33 := F33.binds (ps := P_p_moved_lines) fun _ _ _ _ _ _ us hl => match us, hl with | [_, _, _], _ => rfl
 have F34 := fun_mk (st := s_p_moved) l34 c34 k34
 have b34 := F34.binds (ps := P_p_moved) fun _ _ _ _ _ _ us hl => match us, hl with | [_, _, _, _, _, _], _ => rfl
 have F35 := fun_mk (st := s_p_put_ahead) l35 c35 k35
 have b35 := F35.binds (ps := P_p_put_ahead) fun _ _ _ _ _ _ us hl => match us, hl with | [_, _, _], _ => rfl
 have F36 := fun_mk (st := s_p_with_block_ahead) l36 c36 k36
 have b36 := F36.binds (ps := P_p_with_block_ahead) fun _ _ _ _ _ _ us hl => match us, hl with | [_, _, _], _ => rfl
 have F37 := fun_mk (st := s_p_number_form) l37 c37 k37
 have b37 := F37.binds (ps := P_p_number_form) fun _ _ _ _ _ _ us hl => match us, hl with | [_, _], _ => rfl
 have F38 := fun_mk (st := s_p_with_nothing_ahead) l38 c38 k38
 have b38 := F38.binds (ps := P_p_with_nothing_ahead) fun _ _ _ _ _ _ us hl => match us, hl with | [_, _, _], _ => rfl
 have F39 := fun_mk (st := s_p_blocked) l39 c39 k39
 have b39 := F39.binds (ps := P_p_blocked) fun _ _ _ _ _ _ us hl => match us, hl with | [_, _, _, _, _], _ => rfl
 have F40 := fun_mk (st := s_p_left_out) l40 c40 k40
 have b40 := F40.binds (ps := P_p_left_out) fun _ _ _ _ _ _ us hl => match us, hl with | [_, _], _ => rfl
 have F41 := fun_mk (st := s_p_cut_deeds) l41 c41 k41
 have b41 := F41.binds (ps := P_p_cut_deeds) fun _ _ _ _ _ _ us hl => match us, hl with | [_, _], _ => rfl
 have F42 := fun_mk (st := s_p_cut) l42 c42 k42
 have b42 := F42.binds (ps := P_p_cut) fun _ _ _ _ _ _ us hl => match us, hl with | [_, _, _], _ => rfl
 have F43 := fun_mk (st := s_l_asked) l43 c43 k43
 have b43 := F43.binds (ps := P_l_asked) fun _ _ _ _ _ _ us hl => match us, hl with | [_, _, _, _, _, _, _, _], _ => rfl
 have F44 := fun_mk (st := s_l_told) l44 c44 k44
 have b44 := F44.binds (ps := P_l_told) fun _ _ _ _ _ _ us hl => match us, hl with | [_, _, _, _, _, _, _, _], _ => rfl
 have F45 := fun_mk (st := s_law) l45 c45 k45
 refine ⟨PySem.W.fnOf "law" "law" (defArgs s_law) (defBody s_law) (defScope s_law) .none kV45 dc45 pm45 an45 cd45 ct45, fun s v => .of_eq rfl, fun base _ _ => ?_⟩
 have B : Bi mg := ⟨⟨_, PySem.W.mg_of X G z_GREATEST_SIZE⟩, ⟨_, PySem.W.mg_of X G z_MOST_LINES⟩, PySem.W.mg_none_of X G z_all, PySem.W.mg_none_of X G z_bool, PySem.W.mg_none_of X G z_enumerate, PySem.W.mg_none_of X G z_int, PySem.W.mg_none_of X G z_isinstance, PySem.W.mg_none_of X G z_len, PySem.W.mg_none_of X G z_list, PySem.W.mg_none_of X G z_range, PySem.W.mg_none_of X G z_set, PySem.W.mg_none_of X G z_str, PySem.W.mg_none_of X G z_sum, PySem.W.mg_none_of X G z_tuple, PySem.W.mg_none_of X G z_zip⟩
 have E : ExF mg K XL XT := exF_of X G z_ex
 have Cq1 : Cal ⟨l.prog, w, K, mg, base⟩ "_law_cell_at" 1 2 c_cell := callee (Ω := ⟨l.prog, w, K, mg, base⟩) F0 (ok_l_cell_at (Ω := ⟨l.prog, w, K, mg, base⟩) F0 B) (PySem.W.mg_of X G a0) b0
 have Cq5 : Cal ⟨l.prog, w, K, mg, base⟩ "_law_pen" 2 1 c_pen := callee (Ω := ⟨l.prog, w, K, mg, base⟩) F1 (ok_l_pen (Ω := ⟨l.prog, w, K, mg, base⟩) F1 B Cq1) (PySem.W.mg_of X G a1) b1
 have Cq10 : Cal ⟨l.prog, w, K, mg, base⟩ "_law_take" 2 2 c_take := callee (Ω := ⟨l.prog, w, K, mg, base⟩) F2 (ok_l_take (Ω := ⟨l.prog, w, K, mg, base⟩) F2 Cq1) (PySem.W.mg_of X G a2) b2
 have Cq7 : Cal ⟨l.prog, w, K, mg, base⟩ "_law_program" 3 1 c_prog31 := callee (Ω := ⟨l.prog, w, K, mg, base⟩) F3 (ok_l_program (Ω := ⟨l.prog, w, K, mg, base⟩) F3 B Cq10) (PySem.W.mg_of X G a3) b3
 have Cq4 : Cal ⟨l.prog, w, K, mg, base⟩ "_law_number" 3 1 c_num29 := callee (Ω := ⟨l.prog, w, K, mg, base⟩) F4 (ok_l_number (Ω := ⟨l.prog, w, K, mg, base⟩) F4 Cq10) (PySem.W.mg_of X G a4) b4
 have Cq6 : Cal ⟨l.prog, w, K, mg, base⟩ "_law_plan" 4 2 c_plan29 := callee (Ω := ⟨l.prog, w, K, mg, base⟩) F5 (ok_l_plan (Ω := ⟨l.prog, w, K, mg, base⟩) F5 B Cq10 Cq4) (PySem.W.mg_of X G a5) b5
 have Cq2 : Cal ⟨l.prog, w, K, mg, base⟩ "_law_deeds_turned" 1 3 c_dt29 := callee (Ω := ⟨l.prog, w, K, mg, base⟩) F6 (ok_l_deeds_turned (Ω := ⟨l.prog, w, K, mg, base⟩) F6 B) (PySem.W.mg_of X G a6) b6
 have Cq9 : Cal ⟨l.prog, w, K, mg, base⟩ "_law_swapped" 1 3 c_sw29 := callee (Ω := ⟨l.prog, w, K, mg, base⟩) F7 (ok_l_swapped (Ω := ⟨l.prog, w, K, mg, base⟩) F7 B) (PySem.W.mg_of X G a7) b7
 have Cq8 : Cal ⟨l.prog, w, K, mg, base⟩ "_law_put" 1 3 c_lp29 := callee (Ω := ⟨l.prog, w, K, mg, base⟩) F8 (ok_l_put (Ω := ⟨l.prog, w, K, mg, base⟩) F8) (PySem.W.mg_of X G a8) b8
 have Cq3 : Cal ⟨l.prog, w, K, mg, base⟩ "_law_due" 2 8 c_told29 := callee (Ω := ⟨l.prog, w, K, mg, base⟩) F9 (ok_l_due (Ω := ⟨l.prog, w, K, mg, base⟩) F9 B Cq2 Cq9 Cq8) (PySem.W.mg_of X G a9) b9
 have Cq25 : Cal ⟨l.prog, w, K, mg, base⟩ "is_tuple_of" 1 3 c_tup := callee (Ω := ⟨l.prog, w, K, mg, base⟩) F10 (ok_p_is_tuple_of (Ω := ⟨l.prog, w, K, mg, base⟩) F10 B) (PySem.W.mg_of X G a10) b10
 have Cq26 : Cal ⟨l.prog, w, K, mg, base⟩ "is_whole" 1 1 c_whole := callee (Ω := ⟨l.prog, w, K, mg, base⟩) F11 (ok_p_is_whole (Ω := ⟨l.prog, w, K, mg, base⟩) F11 B) (PySem.W.mg_of X G a11) b11
 have Cq19 : Cal ⟨l.prog, w, K, mg, base⟩ "is_form" 2 2 c_form := callee (Ω := ⟨l.prog, w, K, mg, base⟩) F12 (ok_p_is_form (Ω := ⟨l.prog, w, K, mg, base⟩) F12 B Cq26 Cq25) (PySem.W.mg_of X G a12) b12
 have Cq27 : Cal ⟨l.prog, w, K, mg, base⟩ "is_word" 1 2 c_word := callee (Ω := ⟨l.prog, w, K, mg, base⟩) F13 (ok_p_is_word (Ω := ⟨l.prog, w, K, mg, base⟩) F13 B) (PySem.W.mg_of X G a13) b13
 have Cq24 : Cal ⟨l.prog, w, K, mg, base⟩ "is_size" 2 1 c_size := callee (Ω := ⟨l.prog, w, K, mg, base⟩) F14 (ok_p_is_size (Ω := ⟨l.prog, w, K, mg, base⟩) F14 B Cq26) (PySem.W.mg_of X G a14) b14
 have Cq20 : Cal ⟨l.prog, w, K, mg, base⟩ "is_line" 3 2 c_line := callee (Ω := ⟨l.prog, w, K, mg, base⟩) F15 (ok_p_is_line (Ω := ⟨l.prog, w, K, mg, base⟩) F15 Cq25 Cq19 Cq27 Cq24) (PySem.W.mg_of X G a15) b15
 have Cq21 : Cal ⟨l.prog, w, K, mg, base⟩ "is_lines" 4 2 c_lines := callee (Ω := ⟨l.prog, w, K, mg, base⟩) F16 (ok_p_is_lines (Ω := ⟨l.prog, w, K, mg, base⟩) F16 B Cq25 Cq20) (PySem.W.mg_of X G a16) b16
 have Cq22 : Cal ⟨l.prog, w, K, mg, base⟩ "is_nest_plan" 5 2 c_np := callee (Ω := ⟨l.prog, w, K, mg, base⟩) F17 (ok_p_is_nest_plan (Ω := ⟨l.prog, w, K, mg, base⟩) F17 B Cq25 Cq21) (PySem.W.mg_of X G a17) b17
 have Cq33 : Cal ⟨l.prog, w, K, mg, base⟩ "numbers_of_lines" 1 1 c_nums := callee (Ω := ⟨l.prog, w, K, mg, base⟩) F18 (ok_p_numbers_of_lines (Ω := ⟨l.prog, w, K, mg, base⟩) F18 B) (PySem.W.mg_of X G a18) b18
 have Cq23 : Cal ⟨l.prog, w, K, mg, base⟩ "is_plan" 6 2 c_isplanG := callee (Ω := ⟨l.prog, w, K, mg, base⟩) F19 (ok_p_is_plan (Ω := ⟨l.prog, w, K, mg, base⟩) F19 B Cq25 Cq22 Cq33) (PySem.W.mg_of X G a19) b19
 have Cq39 : CalX ⟨l.prog, w, K, mg, base⟩ "refuse_no_plan" 7 2 c_rnpX := calleeX (Ω := ⟨l.prog, w, K, mg, base⟩) F20 (ok_p_refuse_no_plan (Ω := ⟨l.prog, w, K, mg, base⟩) F20 E Cq23) (PySem.W.mg_of X G a20) b20
 have Cq38 : CalX ⟨l.prog, w, K, mg, base⟩ "refuse_no_nest" 1 2 c_rnnX := calleeX (Ω := ⟨l.prog, w, K, mg, base⟩) F21 (ok_p_refuse_no_nest (Ω := ⟨l.prog, w, K, mg, base⟩) F21 B E) (PySem.W.mg_of X G a21) b21
 have Cq32 : Cal ⟨l.prog, w, K, mg, base⟩ "number_of_lines" 1 1 c_nol := callee (Ω := ⟨l.prog, w, K, mg, base⟩) F22 (ok_p_number_of_lines (Ω := ⟨l.prog, w, K, mg, base⟩) F22 B) (PySem.W.mg_of X G a22) b22
 have Cq37 : CalX ⟨l.prog, w, K, mg, base⟩ "refuse_no_line" 2 2 c_rnlX := calleeX (Ω := ⟨l.prog, w, K, mg, base⟩) F23 (ok_p_refuse_no_line (Ω := ⟨l.prog, w, K, mg, base⟩) F23 E Cq32) (PySem.W.mg_of X G a23) b23
 have Cq40 : Cal ⟨l.prog, w, K, mg, base⟩ "replaced" 1 3 c_repl := callee (Ω := ⟨l.prog, w, K, mg, base⟩) F24 (ok_p_replaced (Ω := ⟨l.prog, w, K, mg, base⟩) F24) (PySem.W.mg_of X G a24) b24
 have Cq18 : Cal ⟨l.prog, w, K, mg, base⟩ "exchanged_lines" 2 3 c_exl := callee (Ω := ⟨l.prog, w, K, mg, base⟩) F25 (ok_p_exchanged_lines (Ω := ⟨l.prog, w, K, mg, base⟩) F25 Cq40) (PySem.W.mg_of X G a25) b25
 have Cq17 : CalX ⟨l.prog, w, K, mg, base⟩ "exchanged" 8 5 c_exchX := calleeX (Ω := ⟨l.prog, w, K, mg, base⟩) F26 (ok_p_exchanged (Ω := ⟨l.prog, w, K, mg, base⟩) F26 B E Cq39 Cq38 Cq37 Cq40 Cq18) (PySem.W.mg_of X G a26) b26
 have Cq36 : CalX ⟨l.prog, w, K, mg, base⟩ "refuse_no_forms" 1 2 c_rnfX := calleeX (Ω := ⟨l.prog, w, K, mg, base⟩) F27 (ok_p_refuse_no_forms (Ω := ⟨l.prog, w, K, mg, base⟩) F27 B E) (PySem.W.mg_of X G a27) b27
 have Cq13 : Cal ⟨l.prog, w, K, mg, base⟩ "backward_lines" 2 2 c_bwl := callee (Ω := ⟨l.prog, w, K, mg, base⟩) F28 (ok_p_backward_lines (Ω := ⟨l.prog, w, K, mg, base⟩) F28 B Cq40) (PySem.W.mg_of X G a28) b28
 have Cq12 : CalX ⟨l.prog, w, K, mg, base⟩ "backward" 8 4 c_backX := calleeX (Ω := ⟨l.prog, w, K, mg, base⟩) F29 (ok_p_backward (Ω := ⟨l.prog, w, K, mg, base⟩) F29 B E Cq39 Cq38 Cq37 Cq36 Cq40 Cq13) (PySem.W.mg_of X G a29) b29
 have Cq42 : Cal ⟨l.prog, w, K, mg, base⟩ "slanted_lines" 2 4 c_sll := callee (Ω := ⟨l.prog, w, K, mg, base⟩) F30 (ok_p_slanted_lines (Ω := ⟨l.prog, w, K, mg, base⟩) F30 B Cq40) (PySem.W.mg_of X G a30) b30
 have Cq41 : CalX ⟨l.prog, w, K, mg, base⟩ "slanted" 8 6 c_slanX := calleeX (Ω := ⟨l.prog, w, K, mg, base⟩) F31 (ok_p_slanted (Ω := ⟨l.prog, w, K, mg, base⟩) F31 B E Cq39 Cq38 Cq37 Cq36 Cq40 Cq42) (PySem.W.mg_of X G a31) b31
 have Cq35 : CalX ⟨l.prog, w, K, mg, base⟩ "refuse_no_deed" 1 2 c_rndX := calleeX (Ω := ⟨l.prog, w, K, mg, base⟩) F32 (ok_p_refuse_no_deed (Ω := ⟨l.prog, w, K, mg, base⟩) F32 B E) (PySem.W.mg_of X G a32) b32
 have Cq30 : Cal ⟨l.prog, w, K, mg, base⟩ "moved_lines" 2 3 c_mvl := callee (Ω := ⟨l.prog, w, K, mg, base⟩) F33 (ok_p_moved_lines (Ω := ⟨l.prog, w, K, mg, base⟩) F33 Cq40) (PySem.W.mg_of X G a33) b33
 have Cq29 : CalX ⟨l.prog, w, K, mg, base⟩ "moved" 8 6 c_movdX := calleeX (Ω := ⟨l.prog, w, K, mg, base⟩) F34 (ok_p_moved (Ω := ⟨l.prog, w, K, mg, base⟩) F34 E Cq39 Cq38 Cq35 Cq37 Cq36 Cq40 Cq30) (PySem.W.mg_of X G a34) b34
 have Cq34 : Cal ⟨l.prog, w, K, mg, base⟩ "put_ahead" 1 3 c_put := callee (Ω := ⟨l.prog, w, K, mg, base⟩) F35 (ok_p_put_ahead (Ω := ⟨l.prog, w, K, mg, base⟩) F35) (PySem.W.mg_of X G a35) b35
 have Cq43 : Cal ⟨l.prog, w, K, mg, base⟩ "with_block_ahead" 2 3 c_wba := callee (Ω := ⟨l.prog, w, K, mg, base⟩) F36 (ok_p_with_block_ahead (Ω := ⟨l.prog, w, K, mg, base⟩) F36 B Cq34) (PySem.W.mg_of X G a36) b36
 have Cq31 : Cal ⟨l.prog, w, K, mg, base⟩ "number_form" 1 2 c_nf := callee (Ω := ⟨l.prog, w, K, mg, base⟩) F37 (ok_p_number_form (Ω := ⟨l.prog, w, K, mg, base⟩) F37) (PySem.W.mg_of X G a37) b37
 have Cq44 : Cal ⟨l.prog, w, K, mg, base⟩ "with_nothing_ahead" 2 3 c_wna := callee (Ω := ⟨l.prog, w, K, mg, base⟩) F38 (ok_p_with_nothing_ahead (Ω := ⟨l.prog, w, K, mg, base⟩) F38 B Cq31 Cq34) (PySem.W.mg_of X G a38) b38
 have Cq14 : CalX ⟨l.prog, w, K, mg, base⟩ "blocked" 8 5 c_blkX := calleeX (Ω := ⟨l.prog, w, K, mg, base⟩) F39 (ok_p_blocked (Ω := ⟨l.prog, w, K, mg, base⟩) F39 B E Cq39 Cq32 Cq38 Cq37 Cq36 Cq43 Cq44) (PySem.W.mg_of X G a39) b39
 have Cq28 : Cal ⟨l.prog, w, K, mg, base⟩ "left_out" 1 2 c_left := callee (Ω := ⟨l.prog, w, K, mg, base⟩) F40 (ok_p_left_out (Ω := ⟨l.prog, w, K, mg, base⟩) F40) (PySem.W.mg_of X G a40) b40
 have Cq16 : Cal ⟨l.prog, w, K, mg, base⟩ "cut_deeds" 2 2 c_cutd := callee (Ω := ⟨l.prog, w, K, mg, base⟩) F41 (ok_p_cut_deeds (Ω := ⟨l.prog, w, K, mg, base⟩) F41 B Cq28) (PySem.W.mg_of X G a41) b41
 have Cq15 : CalX ⟨l.prog, w, K, mg, base⟩ "cut" 8 3 c_cutX := calleeX (Ω := ⟨l.prog, w, K, mg, base⟩) F42 (ok_p_cut (Ω := ⟨l.prog, w, K, mg, base⟩) F42 B E Cq39 Cq32 Cq37 Cq16) (PySem.W.mg_of X G a42) b42
 have Cq0 : CalX ⟨l.prog, w, K, mg, base⟩ "_law_asked" 9 8 c_ask29 := calleeX (Ω := ⟨l.prog, w, K, mg, base⟩) F43 (ok_l_asked (Ω := ⟨l.prog, w, K, mg, base⟩) F43 E Cq17 Cq12 Cq41 Cq29 Cq14 Cq15) (PySem.W.mg_of X G a43) b43
 have Cq11 : Cal ⟨l.prog, w, K, mg, base⟩ "_law_told" 10 8 c_told29 := callee (Ω := ⟨l.prog, w, K, mg, base⟩) F44 (ok_l_told (Ω := ⟨l.prog, w, K, mg, base⟩) F44 B E Cq0) (PySem.W.mg_of X G a44) b44
 exact ok_law (Ω := ⟨l.prog, w, K, mg, base⟩) F45 B Cq5 Cq10 Cq7 Cq4 Cq6 Cq3 Cq11
end K29
namespace PySem.W.Fast
def tw1558784178768729728:=()
def tw15050206505220337691:=()
def tw1787993622206595223:=()
def tw8823757833281206685:=()
def tw1699942295655526839:=()
def tw4797823381096688122:=()
def tw17046412320703599574:=()
def tw5916766461022669019:=()
def tw8086934996737237174:=()
def tw2775974984657152739:=()
def tw6451492473072080848:=()
def tw1087818621798650018:=()
def tw17905763835025322454:=()
def tw9130797948931445627:=()
def tw982500732686502625:=()
def tw5492177213093281180:=()
def tw17999158180759325212:=()
def tw16656267587674045674:=()
def tw16698090987273297733:=()
def tw3184270948811325556:=()
def tw10845575424470283222:=()
def tw10816059856015332619:=()
def tw10850303238229103984:=()
def tw9649924118298005924:=()
def tw2662116240629991650:=()
def tw2302522229397683733:=()
def tw15921248498082906207:=()
def tw5012151970100101352:=()
def tw7821191741959667871:=()
def tw5301328272475992451:=()
def tw4513096264323468120:=()
def tw13151507767309133732:=()
def tw11419859407020396526:=()
def tw1570343325260875618:=()
def tw1105006294152656824:=()
def tw9653812463138862698:=()
def tw17860083041838053510:=()
def tw10025196113650164722:=()
def tw15965779576960787865:=()
def tw13254938140873859915:=()
def tw5878333812624070419:=()
def tw6025943242290422892:=()
def tw8204088950172017582:=()
def tw10337922392944435735:=()
def tw18273321133153953415:=()
def tw15811479108985487267:=()
def tw2847854968348951074:=()
def tw1132338281329850490:=()
def tw6413466333188902188:=()
def tw1584521168398261969:=()
def tw3636318346855719682:=()
def tw595959539077983272:=()
def tw4942970643004332968:=()
def tw12571417632207340794:=()
def tw14182798060333261685:=()
def tw7337841471948041025:=()
def tw9107571784899506900:=()
def tw10951002228136746819:=()
def tw337003867420243562:=()
def tw9817607454797289146:=()
def tw4771465336829794519:=()
def tw2982039706993188404:=()
def tw10390524384376785184:=()
def tw8545107777820059745:=()
def tw13216170311792968448:=()
def tw13605995862106227039:=()
def tw18372944853912477807:=()
def tw8829007099798830918:=()
def tw10054073620684455771:=()
def tw2043355439739644668:=()
def tw17961135662391995585:=()
def tw10441457157109150887:=()
def tw6213351051641516891:=()
def tw1188292309999953629:=()
def tw13880932555309291934:=()
def tw8553916030641518623:=()
def tw9488561107333307776:=()
def tw1727335048350835475:=()
def tw13666905412480714844:=()
def tw11818099190251711279:=()
def tw12278272805719959417:=()
def tw11742374536989614978:=()
def tw6256705154260100532:=()
def tw5428225562917488399:=()
def tw10940339831164406125:=()
def tw7682756326792955345:=()
def tw7646629614425707363:=()
def tw1099457288650182087:=()
def tw3367742332194587116:=()
def tw8710425399063124430:=()
def tw9741184775160171765:=()
def tw14085768467496257126:=()
def tw17991801097210633927:=()
def tw2231088613570912763:=()
def tw890559991839219532:=()
def tw10982753070616880832:=()
def tw1448463718251337472:=()
def tw8253125249900164606:=()
def tw4782860119332598359:=()
def tw8257040467290220709:=()
def tw15220626826300575345:=()
def tw11427621809486901340:=()
def tw15833547122764468865:=()
def tw13467175298916375129:=()
def tw17441840810954871351:=()
def tw6136241743709264284:=()
def tw13669177726332707389:=()
def tw4828485974601183289:=()
def tw4681207467214977856:=()
def tw9404563682235541518:=()
def tw14603609863308354543:=()
def tw2524714406811396802:=()
def tw2482809195166847558:=()
def tw10050839319671930899:=()
def tw10107847762240272480:=()
def tw11250087701007569893:=()
def tw3589353635040377385:=()
def tw13078994288852310787:=()
def tw13411793650920248024:=()
def tw12412517997657986160:=()
def tw7977208589978844297:=()
def tw18438758920787629377:=()
def tw18320686614243492488:=()
def tw11615702909717027420:=()
def tw7252306057953730390:=()
def tw7492130000862701628:=()
def tw3141664792907221654:=()
def tw1573328164669649877:=()
def tw1089093218152947190:=()
def tw3844613073628736981:=()
def tw3371513179639212738:=()
def tw3480325396001083116:=()
def tw5955139994160312049:=()
def tw7889529471141197503:=()
def tw3388716748552250996:=()
def tw8990359813371165468:=()
def tw16478557622286673910:=()
def tw12635290330360469171:=()
def tw15699994649738862212:=()
def tw14359959819851581861:=()
def tw7084230385187794421:=()
def tw10712812861457395170:=()
def tw2835064851949933673:=()
def tw3642711532314211252:=()
def tw13845700278541288994:=()
def tw18281775493594571:=()
def tw18422499622041703862:=()
def tw8447886029644141589:=()
def tw7783956484547539881:=()
def tw4882801404277126474:=()
def tw3087013310697224943:=()
def tw15359028619068604348:=()
def tw11256209420861300023:=()
def tw10713343185090068567:=()
def tw10101495726410117436:=()
def tw1870355771944539852:=()
def tw4674729364611175273:=()
def tw4676310567860611162:=()
def tw9267635061055273487:=()
def tw7839018581696334922:=()
def tw5673818050291270503:=()
def tw7049487120338854305:=()
def tw11503582672705045522:=()
def tw10959842972461571883:=()
def tw7273412208519288415:=()
def tw17168864791021928221:=()
def tw7856678948715772866:=()
def tw8332817150568731639:=()
def tw4145444827990475941:=()
def tw17706542485411403733:=()
def tw2148220735324615586:=()
def tw15896480465252489899:=()
def tw784803793646046426:=()
def tw17267494105903196997:=()
def tw5216059615161117790:=()
def tw9730054908950677925:=()
def tw12234203613236516892:=()
def tw13819049783769074314:=()
def tw10238589564473501806:=()
def tw3084372503154930139:=()
def tw3311381289756495530:=()
def tw15253717421916902226:=()
def tw12293863639805525179:=()
def tw11703516321499755139:=()
def tw12464485217544503778:=()
def tw14051304503346993225:=()
def tw15506685711281171562:=()
def tw9280469508550849202:=()
def tw8666608302374251181:=()
def tw12258498151362058989:=()
def tw15207909898661694166:=()
def tw6949426851075894791:=()
def tw11250342605138482379:=()
def tw1003685774883708417:=()
def tw10791865819910014055:=()
def tw16009755510880991155:=()
def tw12440952849744221660:=()
def tw10540387525747993770:=()
def tw17808838412488970333:=()
def tw11438150024006144594:=()
def tw17883781933990831296:=()
def tw9178975572636942690:=()
def tw2105954075751015562:=()
def tw940507336367851965:=()
def tw3678562696049134186:=()
def tw1510706457876895297:=()
def tw8262186776590255968:=()
def tw2523239552148211478:=()
def tw1993552666131369242:=()
def tw2736984068970373141:=()
def tw13725008076543704420:=()
def tw7466217684218676891:=()
def tw8850522822231346801:=()
def tw18023984954939573757:=()
def tw9105252590254906563:=()
def tw12020146387615021075:=()
def tw17966715706547399260:=()
def tw13967837705793192763:=()
def tw4226963792061084167:=()
def tw5699890540163448348:=()
def tw14251732853955336779:=()
def tw3507465735807268523:=()
def tw7549634412390043928:=()
def tw7147549132197530170:=()
def tw14523445488567249384:=()
def tw11927349005124077664:=()
def tw5800067215344794116:=()
def tw5358740874653723021:=()
def tw7329845297379964104:=()
def tw17739485184777961547:=()
def tw11790344062516805535:=()
def tw417223701715326172:=()
def tw11505025294402506582:=()
def tw4304278038153073302:=()
def tw13201544771164393924:=()
def tw15093343198075278745:=()
def tw8824987658548999895:=()
def tw17882736549633793808:=()
def tw10968027700689304137:=()
def tw14224832468183316694:=()
def tw9038214303469184312:=()
def tw5925253794517291809:=()
def tw2631743391343802610:=()
def tw3999314539366265922:=()
def tw13899083706630892919:=()
def tw15296099736237757064:=()
def tw8847821867651468032:=()
def tw14266819312768978649:=()
def tw5569961517427223829:=()
def tw16532926181533352600:=()
def tw15631622042230095743:=()
def tw16333473663047675826:=()
def tw10710852904897110594:=()
def tw6495670615034218247:=()
def tw11375250021012489042:=()
def tw8335848781373925052:=()
def tw18153270679724920110:=()
def tw3102380857483591362:=()
def tw8185377765536007839:=()
def tw16016676045151056985:=()
def tw14197802145574974247:=()
def tw466742911357441723:=()
def tw10907753958814882886:=()
def tw6540886619873236257:=()
def tw9350617354993662786:=()
def tw278281817333711618:=()
def tw1861031041401544468:=()
def tw5483718904840334265:=()
def tw16761618121606320630:=()
def tw2417887172150870161:=()
def tw12377945248840689647:=()
def tw242060441260460135:=()
def tw16731630911712551088:=()
def tw1111308098079105946:=()
def tw2460027952084703916:=()
def tw812198016179347781:=()
def tw16730136335464807037:=()
def tw15401852091749870207:=()
def tw14826242513006244830:=()
def tw13372568396701740864:=()
def tw2319672660688456050:=()
def tw16379145076517819026:=()
def tw12360920881507889314:=()
def tw7304321409357610212:=()
def tw15555627738058052460:=()
def tw2325263437621954643:=()
def tw4369095790819295220:=()
def tw8954960066408165150:=()
def tw9315610802535215053:=()
def tw17112685428906698628:=()
def tw13762254500506885825:=()
def tw9168229294761104487:=()
def tw4438682432397754339:=()
def tw7717601907167655644:=()
def tw5617883583429987337:=()
def tw16463125810690172275:=()
def tw17165012835848675627:=()
def tw17341363816530748874:=()
def tw17498335589739516998:=()
def tw9246833155479639256:=()
def tw15965143008466071682:=()
def tw2762900124590549984:=()
def tw18389521646984521765:=()
def tw12019376513987404073:=()
def tw6719545591813239736:=()
def tw11787757132009602398:=()
def tw9064089473669414131:=()
def tw17032690169741569520:=()
def tw6090807742580491357:=()
def tw11930733460379938315:=()
def tw11435006857211231399:=()
def tw14080406120011696650:=()
def tw14615395125116180974:=()
def tw4472266454671681978:=()
def tw14764435173441918460:=()
def tw6209453689130408099:=()
def tw4358074550803526213:=()
def tw3731936527544614231:=()
def tw12173244432368054653:=()
def tw5971777118677939794:=()
def tw729804366943882335:=()
def tw5453939301983885635:=()
def tw3805929223800713952:=()
def tw9859809415118796404:=()
def tw8566868917387738766:=()
def tw13061324920674257127:=()
def tw17612727025855436835:=()
def tw9113255387843792784:=()
def tw17461307547586506764:=()
def tw1471685540425429565:=()
def tw3774663614261218361:=()
def tw17973947975637518241:=()
def tw7126618014508168962:=()
def tw10509359235850961668:=()
def tw12723223009908135090:=()
def tw16646997157662725651:=()
def tw16736916579274133029:=()
def tw6988291192917461907:=()
def tw15359485005715105883:=()
def tw2037777151567062180:=()
def tw7070479166180014935:=()
def tw10459824515133178767:=()
def tw972739843608652972:=()
def tw3857885481003120450:=()
def tw10212670901870395548:=()
def tw8369243058690097100:=()
def tw3969077787035092042:=()
def tw14061933072196772976:=()
def tw14438537436187224469:=()
def tw3562316106401980952:=()
def tw4736645855579924601:=()
def tw11105031588018522036:=()
def tw17654007148046597946:=()
def tw15319355492550077708:=()
def tw14082062382321072610:=()
def tw13652007609854438205:=()
def tw6243917468162837454:=()
def tw8897101051744897990:=()
def tw10232855259692665336:=()
def tw1946537754081567299:=()
def tw16492638646013821861:=()
def tw5565390703387323699:=()
def tw2118690030734148426:=()
def tw11053531168749171338:=()
def tw1416943680742377136:=()
def tw2751248211978809875:=()
def tw9343446806677773293:=()
def tw11029743455865927649:=()
def tw3333270161544308529:=()
def tw3765568376680993696:=()
def tw18208637956664823723:=()
def tw2091504692097437978:=()
def tw18436098701495834625:=()
def tw11150455368741849619:=()
def tw3270245147305993686:=()
def tw8377724730032907050:=()
def tw15189960044947705859:=()
def tw17233039736818492529:=()
def tw14295788837619606280:=()
def tw12674024959385815505:=()
def tw17992631138918366708:=()
def tw9723782687833694036:=()
def tw8186997862451434131:=()
def tw17678679386385317997:=()
def tw17439263654946975884:=()
def tw782953811639868311:=()
def tw3895673569517489205:=()
def tw2847781110212914870:=()
def tw17995438522850161943:=()
def tw14038906865085193052:=()
def tw15076555391693888611:=()
def tw3197611106826949967:=()
def tw4934145600694152872:=()
def tw8099622975892268985:=()
def tw12425131576015699489:=()
def tw8196605900223180912:=()
def tw3143201954010195143:=()
def tw5565011282245166536:=()
def tw1159998061441823323:=()
def tw2042148199438700947:=()
def tw606180120801967503:=()
def tw12657954395633230018:=()
def tw9413611642628173002:=()
def tw7452521331597854241:=()
end PySem.W.Fast
open PySem PySem.W PyProof.Rows
set_option maxRecDepth 100000 in
set_option maxHeartbeats 0 in
theorem PySem.Challenge.cw_nestturn_k29_plans_turned_holds : PySem.Challenge.rw_nestturn_k29_plans_turned.Holds := by
 w_on; o_law; k_head; (case hw => w_witness2)
 k_fill
 refine RF.walk (l := PySem.Challenge.rw_nestturn_k29_plans_turned) (lev := 11) (x := "_law_script") rfl rfl ⟨rfl, by decide, by decide⟩ (fun w h Y => PySem.W.kIn_of Y) ?F
 case F =>
  intro w mg fa h KX G hmg
  refine' K29.all_mk KX G hmg ?a0 ?l0 ?c0 ?k0 ?a1 ?l1 ?c1 ?k1 ?a2 ?l2 ?c2 ?k2 ?a3 ?l3 ?c3 ?k3 ?a4 ?l4 ?c4 ?k4 ?a5 ?l5 ?c5 ?k5 ?a6 ?l6 ?c6 ?k6 ?a7 ?l7 ?c7 ?k7 ?a8 ?l8 ?c8 ?k8 ?a9 ?l9 ?c9 ?k9 ?a10 ?l10 ?c10 ?k10 ?a11 ?l11 ?c11 ?k11 ?a12 ?l12 ?c12 ?k12 ?a13 ?l13 ?c13 ?k13 ?a14 ?l14 ?c14 ?k14 ?a15 ?l15 ?c15 ?k15 ?a16 ?l16 ?c16 ?k16 ?a17 ?l17 ?c17 ?k17 ?a18 ?l18 ?c18 ?k18 ?a19 ?l19 ?c19 ?k19 ?a20 ?l20 ?c20 ?k20 ?a21 ?l21 ?c21 ?k21 ?a22 ?l22 ?c22 ?k22 ?a23 ?l23 ?c23 ?k23 ?a24 ?l24 ?c24 ?k24 ?a25 ?l25 ?c25 ?k25 ?a26 ?l26 ?c26 ?k26 ?a27 ?l27 ?c27 ?k27 ?a28 ?l28 ?c28 ?k28 ?a29 ?l29 ?c29 ?k29 ?a30 ?l30 ?c30 ?k30 ?a31 ?l31 ?c31 ?k31 ?a32 ?l32 ?c32 ?k32 ?a33 ?l33 ?c33 ?k33 ?a34 ?l34 ?c34 ?k34 ?a35 ?l35 ?c35 ?k35 ?a36 ?l36 ?c36 ?k36 ?a37 ?l37 ?c37 ?k37 ?a38 ?l38 ?c38 ?k38 ?a39 ?l39 ?c39 ?k39 ?a40 ?l40 ?c40 ?k40 ?a41 ?l41 ?c41 ?k41 ?a42 ?l42 ?c42 ?k42 ?a43 ?l43 ?c43 ?k43 ?a44 ?l44 ?c44 ?k44 ?a45 ?l45 ?c45 ?k45 ?z_GREATEST_SIZE ?z_MOST_LINES ?z_all ?z_bool ?z_enumerate ?z_int ?z_isinstance ?z_len ?z_list ?z_range ?z_set ?z_str ?z_sum ?z_tuple ?z_zip ?z_ex
  (case a0 => k_is)
  (case l0 => k_is)
  (case c0 => k_is)
  (case k0 => k_is)
  (case a1 => k_is)
  (case l1 => k_is)
  (case c1 => k_is)
  (case k1 => k_is)
  (case a2 => k_is)
  (case l2 => k_is)
  (case c2 => k_is)
  (case k2 => k_is)
  (case a3 => k_is)
  (case l3 => k_is)
  (case c3 => k_is)
  (case k3 => k_is)
  (case a4 => k_is)
  (case l4 => k_is)
  (case c4 => k_is)
  (case k4 => k_is)
  (case a5 => k_is)
  (case l5 => k_is)
  (case c5 => k_is)
  (case k5 => k_is)
  (case a6 => k_is)
  (case l6 => k_is)
  (case c6 => k_is)
  (case k6 => k_is)
  (case a7 => k_is)
  (case l7 => k_is)
  (case c7 => k_is)
  (case k7 => k_is)
  (case a8 => k_is)
  (case l8 => k_is)
  (case c8 => k_is)
  (case k8 => k_is)
  (case a9 => k_is)
  (case l9 => k_is)
  (case c9 => k_is)
  (case k9 => k_is)
  (case a10 => k_is)
  (case l10 => k_is)
  (case c10 => k_is)
  (case k10 => k_is)
  (case a11 => k_is)
  (case l11 => k_is)
  (case c11 => k_is)
  (case k11 => k_is)
  (case a12 => k_is)
  (case l12 => k_is)
  (case c12 => k_is)
  (case k12 => k_is)
  (case a13 => k_is)
  (case l13 => k_is)
  (case c13 => k_is)
  (case k13 => k_is)
  (case a14 => k_is)
  (case l14 => k_is)
  (case c14 => k_is)
  (case k14 => k_is)
  (case a15 => k_is)
  (case l15 => k_is)
  (case c15 => k_is)
  (case k15 => k_is)
  (case a16 => k_is)
  (case l16 => k_is)
  (case c16 => k_is)
  (case k16 => k_is)
  (case a17 => k_is)
  (case l17 => k_is)
  (case c17 => k_is)
  (case k17 => k_is)
  (case a18 => k_is)
  (case l18 => k_is)
  (case c18 => k_is)
  (case k18 => k_is)
  (case a19 => k_is)
  (case l19 => k_is)
  (case c19 => k_is)
  (case k19 => k_is)
  (case a20 => k_is)
  (case l20 => k_is)
  (case c20 => k_is)
  (case k20 => k_is)
  (case a21 => k_is)
  (case l21 => k_is)
  (case c21 => k_is)
  (case k21 => k_is)
  (case a22 => k_is)
  (case l22 => k_is)
  (case c22 => k_is)
  (case k22 => k_is)
  (case a23 => k_is)
  (case l23 => k_is)
  (case c23 => k_is)
  (case k23 => k_is)
  (case a24 => k_is)
  (case l24 => k_is)
  (case c24 => k_is)
  (case k24 => k_is)
  (case a25 => k_is)
  (case l25 => k_is)
  (case c25 => k_is)
  (case k25 => k_is)
  (case a26 => k_is)
  (case l26 => k_is)
  (case c26 => k_is)
  (case k26 => k_is)
  (case a27 => k_is)
  (case l27 => k_is)
  (case c27 => k_is)
  (case k27 => k_is)
  (case a28 => k_is)
  (case l28 => k_is)
  (case c28 => k_is)
  (case k28 => k_is)
  (case a29 => k_is)
  (case l29 => k_is)
  (case c29 => k_is)
  (case k29 => k_is)
  (case a30 => k_is)
  (case l30 => k_is)
  (case c30 => k_is)
  (case k30 => k_is)
  (case a31 => k_is)
  (case l31 => k_is)
  (case c31 => k_is)
  (case k31 => k_is)
  (case a32 => k_is)
  (case l32 => k_is)
  (case c32 => k_is)
  (case k32 => k_is)
  (case a33 => k_is)
  (case l33 => k_is)
  (case c33 => k_is)
  (case k33 => k_is)
  (case a34 => k_is)
  (case l34 => k_is)
  (case c34 => k_is)
  (case k34 => k_is)
  (case a35 => k_is)
  (case l35 => k_is)
  (case c35 => k_is)
  (case k35 => k_is)
  (case a36 => k_is)
  (case l36 => k_is)
  (case c36 => k_is)
  (case k36 => k_is)
  (case a37 => k_is)
  (case l37 => k_is)
  (case c37 => k_is)
  (case k37 => k_is)
  (case a38 => k_is)
  (case l38 => k_is)
  (case c38 => k_is)
  (case k38 => k_is)
  (case a39 => k_is)
  (case l39 => k_is)
  (case c39 => k_is)
  (case k39 => k_is)
  (case a40 => k_is)
  (case l40 => k_is)
  (case c40 => k_is)
  (case k40 => k_is)
  (case a41 => k_is)
  (case l41 => k_is)
  (case c41 => k_is)
  (case k41 => k_is)
  (case a42 => k_is)
  (case l42 => k_is)
  (case c42 => k_is)
  (case k42 => k_is)
  (case a43 => k_is)
  (case l43 => k_is)
  (case c43 => k_is)
  (case k43 => k_is)
  (case a44 => k_is)
  (case l44 => k_is)
  (case c44 => k_is)
  (case k44 => k_is)
  (case a45 => k_is)
  (case l45 => k_is)
  (case c45 => k_is)
  (case k45 => k_is)
  (case z_GREATEST_SIZE => k_is)
  (case z_MOST_LINES => k_is)
  (case z_all => k_is)
  (case z_bool => k_is)
  (case z_enumerate => k_is)
  (case z_int => k_is)
  (case z_isinstance => k_is)
  (case z_len => k_is)
  (case z_list => k_is)
  (case z_range => k_is)
  (case z_set => k_is)
  (case z_str => k_is)
  (case z_sum => k_is)
  (case z_tuple => k_is)
  (case z_zip => k_is)
  (case z_ex => kernel_rfl!)
