import PyProof.Rows.All
import Wide.All
import OpenK.AllK
import Wide.FinOn
import PyProof.EqAt
import PyProof.EqKinds
import PyProof.TupleCall
import KE.BitLaws
import PySem.PyData
import KE.KUnpack
import PyProof.FString
import PySem.Challenge.RW_stepline_k17_adding_refused
set_option Elab.async false
set_option linter.all false
set_option maxRecDepth 100000
/-! THE HAND LAYER, for ints, bools, texts, own classes, lists, tuples, dicts, comprehensions, walks over dicts, enumerate, zip, reversed, texts, calls, loops. Paste it whole ahead of your own text; what your proof does not reach may be deleted. -/
namespace L2
open PySem PySem.Spec PyProof.Rows

/-- a key: an int or a str -/
abbrev Key := Sum Int Str
def keyIs : Key → Value → Bool
  | .inl k, v => Value.isInt k v
  | .inr x, v => Value.isStrOf x v
def keyH (w : World) : Key → Int
  | .inl k => hashInt k
  | .inr x => hashStr w x
theorem keyIs_shape : ∀ {k : Key} {v : Value}, keyIs k v = true → (∃ i t, k = Sum.inl i ∧ v = Value.int i t) ∨ (∃ x t, k = Sum.inr x ∧ v = Value.str x t)
  | .inl i, v, h => by
    obtain ⟨t, e⟩ := Value.isInt_shape (k := i) (v := v) h
    exact .inl ⟨i, t, rfl, e⟩
  | .inr x, v, h => by
    obtain ⟨t, e⟩ := Value.isStrOf_shape (x := x) (v := v) h
    exact .inr ⟨x, t, rfl, e⟩
theorem key_ll (a b : Int) : decide ((Sum.inl a : Key) = Sum.inl b) = (a == b) := by
  by_cases e : a = b
  · subst e; simp
  · have h : ¬ (Sum.inl a : Key) = Sum.inl b := fun q => e (Sum.inl.inj q)
    rw [decide_eq_false h]
    exact (beq_eq_false_iff_ne.mpr e).symm
theorem key_rr (a b : Str) : decide ((Sum.inr a : Key) = Sum.inr b) = decide (a = b) := by
  by_cases e : a = b
  · subst e; simp
  · have h : ¬ (Sum.inr a : Key) = Sum.inr b := fun q => e (Sum.inr.inj q)
    rw [decide_eq_false h, decide_eq_false e]
theorem key_lr (a : Int) (b : Str) : decide ((Sum.inl a : Key) = Sum.inr b) = false := decide_eq_false (fun q => nomatch q)
theorem key_rl (a : Str) (b : Int) : decide ((Sum.inr a : Key) = Sum.inl b) = false := decide_eq_false (fun q => nomatch q)

def mixKind (prog : Program) (w : World) : PySem.KeyKind prog w Key where
  is := keyIs
  hash := keyH w
  inj := fun v a b ha hb => by
    rcases keyIs_shape ha with ⟨i, t, rfl, rfl⟩ | ⟨x, t, rfl, rfl⟩
    · rcases keyIs_shape hb with ⟨j, u, rfl, e⟩ | ⟨y, u, rfl, e⟩
      · injection e with e1 _; rw [e1]
      · exact nomatch e
    · rcases keyIs_shape hb with ⟨j, u, rfl, e⟩ | ⟨y, u, rfl, e⟩
      · exact nomatch e
      · injection e with e1 _; rw [e1]
  byValue := fun k v h => by
    rcases keyIs_shape h with ⟨i, t, rfl, rfl⟩ | ⟨x, t, rfl, rfl⟩ <;> rfl
  pyHash := fun hv h => by
    rcases keyIs_shape hv with ⟨i, t, rfl, rfl⟩ | ⟨x, t, rfl, rfl⟩
    · exact wpAny_pyHash_int h
    · exact wpAny_pyHash_str h
  eqBool := fun hu hv h => by
    rcases keyIs_shape hu with ⟨i, t, rfl, rfl⟩ | ⟨x, t, rfl, rfl⟩
    · rcases keyIs_shape hv with ⟨j, u, rfl, rfl⟩ | ⟨y, u, rfl, rfl⟩
      · rw [key_ll] at h; exact wpAny_eqBool_int h
      · rw [key_lr] at h; exact SeqAt.EqAt.int_str i t y u _ _ _ _ h
    · rcases keyIs_shape hv with ⟨j, u, rfl, rfl⟩ | ⟨y, u, rfl, rfl⟩
      · rw [key_rl] at h; exact SeqAt.EqAt.str_int x t j u _ _ _ _ h
      · rw [key_rr] at h; exact wpAny_eqBool_str h
  «strs» := fun k x t v h => by
    rcases keyIs_shape h with ⟨i, u, rfl, e⟩ | ⟨y, u, rfl, e⟩
    · exact nomatch e
    · injection e with e1 _
      subst e1
      cases v <;> rfl

end L2

namespace L2
open PySem PySem.Spec PyProof.Rows

/-- a value, without the heap -/
inductive V where
  | non | bl (b : Bool) | int (i : Int) | str (x : Str) | byt (b : Array UInt8) | flt (b : UInt64) | ref (a : Addr) | ty (n : String)
  deriving DecidableEq

def RelV : V → Value → Prop
  | .non, u => u = Value.none
  | .bl b, u => u = Value.bool b
  | .int i, u => ∃ t, u = Value.int i t
  | .str x, u => ∃ t, u = Value.str x t
  | .byt b, u => ∃ t, u = Value.bytes b t
  | .flt b, u => ∃ t, u = Value.float b t
  | .ref a, u => u = Value.ref a
  | .ty n, u => u = Value.type n

abbrev Vals : List V → List Value → Prop := Paired RelV
theorem Vals.length {xs : List V} {us : List Value} (r : Vals xs us) : xs.length = us.length := Paired.length r
theorem Vals.get : ∀ {xs : List V} {us : List Value} {i : Nat} {x : V}, Vals xs us → xs[i]? = some x → ∃ u, us[i]? = some u ∧ RelV x u
  | _, _, _, _, .nil, e => by simp at e
  | _, _, 0, _, .cons r _, e => by simp at e; subst e; exact ⟨_, rfl, r⟩
  | _, _, i + 1, x, .cons _ t, e => by
    obtain ⟨u, h1, h2⟩ := Vals.get (i := i) (x := x) t (by simpa using e)
    exact ⟨u, by simpa using h1, h2⟩
theorem Vals.set {x : V} {u : Value} (r : RelV x u) : ∀ {xs : List V} {us : List Value} (i : Nat), Vals xs us → Vals (xs.set i x) (us.set i u)
  | _, _, _, .nil => .nil
  | _, _, 0, .cons _ t => .cons r t
  | _, _, i + 1, .cons q t => .cons q (Vals.set r i t)
theorem Vals.append : ∀ {xs ys : List V} {us ws : List Value}, Vals xs us → Vals ys ws → Vals (xs ++ ys) (us ++ ws)
  | _, _, _, _, .nil, s => s
  | _, _, _, _, .cons r t, s => .cons r (Vals.append t s)
theorem Vals.take : ∀ {xs : List V} {us : List Value} (n : Nat), Vals xs us → Vals (xs.take n) (us.take n)
  | _, _, 0, _ => .nil
  | _, _, _ + 1, .nil => .nil
  | _, _, n + 1, .cons r t => .cons r (Vals.take n t)
theorem Vals.drop : ∀ {xs : List V} {us : List Value} (n : Nat), Vals xs us → Vals (xs.drop n) (us.drop n)
  | _, _, 0, r => r
  | _, _, _ + 1, .nil => .nil
  | _, _, n + 1, .cons _ t => Vals.drop n t
theorem Vals.none_of : ∀ {xs : List V} {us : List Value} {i : Nat}, Vals xs us → xs[i]? = none → us[i]? = none := fun {xs us i} r e => by
  have h1 := r.length
  have h2 : xs.length ≤ i := List.getElem?_eq_none_iff.mp e
  exact List.getElem?_eq_none_iff.mpr (by omega)

def RelO : Option V → Option Value → Prop
  | some v, some u => RelV v u
  | none, none => True
  | _, _ => False
def KV {κ : Type} : List (κ × V) → List (κ × Value) → Prop := Paired fun (p : κ × V) (q : κ × Value) => p.1 = q.1 ∧ RelV p.2 q.2

/-- a key of a dict (00_mix): an int or a text -/
def kV : Key → V
  | .inl i => .int i
  | .inr x => .str x

/-- what stands at a tracked address -/
inductive HO where
  /-- a list -/
  | lst (xs : List V)
  /-- a tuple (never changes) -/
  | tup (xs : List V)
  /-- a dict whose keys are ints and texts; one whose keys are tuples of ints and texts (the empty one is both) -/
  | dK (kvs : List (Key × V)) | dT (kvs : List (List Key × V))
  /-- a set of ints: its members, its size -/
  | set (S : Int → Bool) (n : Nat)
  /-- an instance of the class at C, its dict at dx, its attributes -/
  | ins (C dx : Addr) (fs : List (Str × V))
  /-- the dict of the instance at x -/
  | own (x : Addr)
  /-- the dict of an exception -/
  | xd (fs : List (Str × V))
  /-- a bound method, f of x -/
  | met (f x : Addr)
  /-- a range object lo, lo + 1, .. below hi -/
  | rng (lo hi : Int)
  /-- a thing that is known to the object (the script; a dict while a loop walks it): read, never written while it is so -/
  | frz (o : Obj) (u : HO)
  /-- a code object's table -/
  | tbl (ps : Array Value)
  /-- any other thing, by what is true of its one object (a def of one's own: SetO a S n := HO.ext fun h => ..) -/
  | ext (φ : Heap → Prop)

abbrev Hp := Addr → Option HO
def upd (H : Hp) (a : Addr) (o : HO) : Hp := fun b => if b = a then some o else H b
theorem upd_same {H : Hp} {a : Addr} {o : HO} : upd H a o a = some o := by unfold upd; rw [if_pos rfl]
theorem upd_ne {H : Hp} {a b : Addr} {o : HO} (h : b ≠ a) : upd H a o b = H b := by unfold upd; rw [if_neg h]
/-- two objects of different content stand apart -/
theorem ne_of {H : Hp} {a b : Addr} {o u : HO} (h : H a = some o) (h' : H b = some u) (d : o ≠ u) : a ≠ b := by
  intro e; subst e; rw [h] at h'; exact d (Option.some.inj h')
theorem ne_of_none {H : Hp} {a b : Addr} {o : HO} (h : H a = some o) (h' : H b = none) : a ≠ b := by
  intro e; subst e; rw [h] at h'; cases h'

section
variable (P : Program) (w : World)
def ObjOk (H : Hp) (h : Heap) (a : Addr) : HO → Prop
  | .lst xs => xs.length ≤ sizeLine ∧ ∃ (its : List Value) (n : Nat), Vals xs its ∧ h.get? a = some { cls := .type "list", data := .seq its.toArray n }
  | .tup xs => xs.length ≤ sizeLine ∧ ∃ its : List Value, Vals xs its ∧ IsTup h a its.toArray
  | .dK kvs => kvs.length ≤ sizeLine ∧ (a == sysModules) = false ∧ ∃ vs, KV kvs vs ∧ h.DictOf (mixKind P w) a vs
  | .dT kvs => kvs.length ≤ sizeLine ∧ (a == sysModules) = false ∧ ∃ xs : List (List Key × Addr × Value),
      Paired (fun (p : List Key × V) (q : List Key × Addr × Value) => p.1 = q.1 ∧ H q.2.1 = some (.tup (p.1.map kV)) ∧ RelV p.2 q.2.2) kvs xs ∧
      ∃ o es ep, h.get? a = some o ∧ o.ExactDict ∧ o.data = .dict es ep ∧ es.toList = xs.map (entryOfKey (tupleKind (mixKind P w))) ∧ (xs.map (·.1)).Nodup
  | .set S n => h.SetOf (intKind P w) a S n
  | .ins C dx fs => H dx = some (.own a) ∧ fs.length ≤ 1000 ∧ dx ≠ a ∧ h.get? a = some (PySem.W.instObj C dx) ∧
      ∃ mA, h.Ns1 dx mA ∧ (∀ f, RelO (fs.lookup f) (mA f)) ∧ PySem.Within mA (fs.map (·.1))
  | .own _ => ∃ o, h.get? a = some o
  | .xd fs => ∃ mA, h.Ns1 a mA ∧ ∀ f, RelO (fs.lookup f) (mA f)
  | .rng lo hi => ∃ t u v, h.get? a = some { cls := .type "range", data := .fields #[.int lo t, .int hi u, .int 1 v] }
  | .frz o u => h.get? a = some o ∧ ObjOk H h a u
  | .tbl ps => h.get? a = some { cls := .none, data := .fields ps }
  | .met f x => h.get? a = some (PySem.W.methodObj (.ref f) (.ref x))
  | .ext φ => φ h ∧ (∃ o, h.get? a = some o) ∧ ∀ h1 h2 : Heap, φ h1 → (∀ o, h1.get? a = some o → h2.get? a = some o) → φ h2
/-- the abstract heap is held -/
def HOk (H : Hp) (h : Heap) : Prop := ∀ a o, H a = some o → ObjOk P w H h a o
end

section
variable {P : Program} {w : World} {H H' : Hp} {h h' : Heap} {a : Addr} {o : HO}
theorem ObjOk.lt (x : ObjOk P w H h a o) : a < h.objs.size := by
  cases o with
  | lst xs => obtain ⟨_, _, _, _, e⟩ := x; exact Heap.lt_size e
  | tup xs => obtain ⟨_, _, _, p⟩ := x; exact p.lt
  | dK kvs => obtain ⟨_, _, _, _, o, _, _, e, _⟩ := x; exact Heap.lt_size e
  | dT kvs => obtain ⟨_, _, _, _, o, _, _, e, _⟩ := x; exact Heap.lt_size e
  | set S n => obtain ⟨o, _, _, _, e, _⟩ := x; exact Heap.lt_size e
  | ins C dx fs => obtain ⟨_, _, _, e, _⟩ := x; exact Heap.lt_size e
  | own y => obtain ⟨_, e⟩ := x; exact Heap.lt_size e
  | xd fs => obtain ⟨_, ⟨_, _, _, e, _⟩, _⟩ := x; exact Heap.lt_size e
  | rng lo hi => obtain ⟨_, _, _, e⟩ := x; exact Heap.lt_size e
  | frz ob u => obtain ⟨e, _⟩ := x; exact Heap.lt_size e
  | tbl ps => exact Heap.lt_size (show h.get? a = some _ from x)
  | met f y => exact Heap.lt_size (show h.get? a = some _ from x)
  | ext φ => obtain ⟨_, ⟨_, e⟩, _⟩ := x; exact Heap.lt_size e
theorem Paired.mapP {α β : Type} {F G : α → β → Prop} : ∀ {l₁ : List α} {l₂ : List β}, Paired F l₁ l₂ → (∀ a b, F a b → G a b) → Paired G l₁ l₂
  | _, _, .nil, _ => .nil
  | _, _, .cons r t, f => .cons (f _ _ r) (Paired.mapP t f)
theorem Paired.imp' {α β : Type} {F G : α → β → Prop} (f : ∀ a b, F a b → G a b) {l₁ : List α} {l₂ : List β} (r : Paired F l₁ l₂) : Paired G l₁ l₂ := Paired.mapP r f
/-- what an object's description leans on: its own object, its own dict, the tuples -/
theorem ObjOk.stay (x : ObjOk P w H h a o) (k : ∀ b u, (b = a ∨ H b = some (.own a)) → h.get? b = some u → h'.get? b = some u)
    (ho : ∀ b, H b = some (.own a) → H' b = some (.own a)) (ht : ∀ b xs, H b = some (.tup xs) → H' b = some (.tup xs)) : ObjOk P w H' h' a o := by
  induction o with
  | lst xs => obtain ⟨z, its, n, r, e⟩ := x; exact ⟨z, its, n, r, k _ _ (.inl rfl) e⟩
  | tup xs => obtain ⟨z, its, r, ob, e, c⟩ := x; exact ⟨z, its, r, ob, k _ _ (.inl rfl) e, c⟩
  | dK kvs => obtain ⟨z, y, vs, r, ob, es, ep, e, c⟩ := x; exact ⟨z, y, vs, r, ob, es, ep, k _ _ (.inl rfl) e, c⟩
  | dT kvs =>
    obtain ⟨z, y, xs, r, ob, es, ep, e, c⟩ := x
    exact ⟨z, y, xs, Paired.mapP r fun p q z => ⟨z.1, ht _ _ z.2.1, z.2.2⟩, ob, es, ep, k _ _ (.inl rfl) e, c⟩
  | set S n => obtain ⟨ob, es, ep, t, e, c⟩ := x; exact ⟨ob, es, ep, t, k _ _ (.inl rfl) e, c⟩
  | ins C dx fs =>
    obtain ⟨d, z, ne, e, mA, ⟨od, es, ep, e2, c⟩, r⟩ := x
    exact ⟨ho _ d, z, ne, k _ _ (.inl rfl) e, mA, ⟨od, es, ep, k _ _ (.inr d) e2, c⟩, r⟩
  | own y => obtain ⟨ob, e⟩ := x; exact ⟨ob, k _ _ (.inl rfl) e⟩
  | xd fs => obtain ⟨mA, ⟨od, es, ep, e, c⟩, r⟩ := x; exact ⟨mA, ⟨od, es, ep, k _ _ (.inl rfl) e, c⟩, r⟩
  | rng lo hi => obtain ⟨t, u, v, e⟩ := x; exact ⟨t, u, v, k _ _ (.inl rfl) e⟩
  | frz ob u ih => obtain ⟨e, q⟩ := x; exact ⟨k _ _ (.inl rfl) e, ih q⟩
  | tbl ps =>
    have e : h.get? a = some { cls := .none, data := .fields ps } := x
    show h'.get? a = some { cls := .none, data := .fields ps }
    exact k a _ (.inl rfl) e
  | met f y =>
    have e : h.get? a = some (PySem.W.methodObj (.ref f) (.ref y)) := x
    show h'.get? a = some (PySem.W.methodObj (.ref f) (.ref y))
    exact k a _ (.inl rfl) e
  | ext φ => obtain ⟨p, ⟨o, e⟩, st⟩ := x; exact ⟨st _ _ p fun o q => k _ _ (.inl rfl) q, ⟨o, k _ _ (.inl rfl) e⟩, st⟩
theorem HOk.lt (x : HOk P w H h) (e : H a = some o) : a < h.objs.size := (x a o e).lt
theorem HOk.fresh (x : HOk P w H h) (e : h.objs.size ≤ a) : H a = none := by
  cases q : H a with
  | none => rfl
  | some u => exact absurd (Nat.lt_of_lt_of_le (x.lt q) e) (Nat.lt_irrefl _)
/-- every object of the heap is kept -/
theorem HOk.kept (x : HOk P w H h) (k : ∀ b u, h.get? b = some u → h'.get? b = some u) : HOk P w H h' := fun a o e =>
  (x a o e).stay (fun b u _ q => k b u q) (fun _ q => q) fun _ _ q => q
/-- a new object is laid and tracked -/
theorem HOk.laid (x : HOk P w H h) (k : ∀ b u, h.get? b = some u → h'.get? b = some u) (hp : h.objs.size ≤ a) (new : ObjOk P w (upd H a o) h' a o) : HOk P w (upd H a o) h' := fun b u e => by
  have hn := x.fresh hp
  by_cases hb : b = a
  · subst hb; rw [upd_same] at e; cases e; exact new
  · rw [upd_ne hb] at e
    exact (x b u e).stay (fun c v _ q => k c v q) (fun c q => by rw [upd_ne (ne_of_none q hn)]; exact q) fun c xs q => by rw [upd_ne (ne_of_none q hn)]; exact q
end

/-- what may be read as u: it is u, or a known u -/
def Rd (H : Hp) (a : Addr) (u : HO) : Prop := H a = some u ∨ ∃ o, H a = some (.frz o u)
theorem Rd.of {H : Hp} {a : Addr} {u : HO} (h : H a = some u) : Rd H a u := .inl h
theorem Rd.ok {P : Program} {w : World} {H : Hp} {h : Heap} {a : Addr} {u : HO} (r : Rd H a u) (x : HOk P w H h) : ObjOk P w H h a u := by
  rcases r with r | ⟨o, r⟩
  · exact x a u r
  · obtain ⟨_, q⟩ := x a _ r
    exact q
/-- what may be written -/
def Mut : Option HO → Prop
  | some (.lst _) => True
  | some (.dK _) => True
  | some (.dT _) => True
  | some (.set _ _) => True
  | some (.ins _ _ _) => True
  | some (.ext _) => True
  | _ => False
section
variable {P : Program} {w : World} {H : Hp} {h h' : Heap} {x e : Addr} {o' : HO}
/-- the object at e is changed: x itself, or the dict of the instance x -/
theorem HOk.write (ok : HOk P w H h) (mu : Mut (H x)) (he : e = x ∨ H e = some (.own x)) (k : ∀ b u, b ≠ e → h.get? b = some u → h'.get? b = some u) (heo : ∃ u, h'.get? e = some u)
    (new : ObjOk P w (upd H x o') h' x o') : HOk P w (upd H x o') h' := fun b u q => by
  have nown : ∀ c y, H c = some (.own y) → c ≠ x := fun c y r z => by subst z; rw [r] at mu; exact mu
  have ntup : ∀ c xs, H c = some (.tup xs) → c ≠ x := fun c xs r z => by subst z; rw [r] at mu; exact mu
  by_cases hb : b = x
  · subst hb; rw [upd_same] at q; cases q; exact new
  · rw [upd_ne hb] at q
    by_cases hbe : b = e
    · have q' : H b = some (.own x) := by
        rcases he with z | z
        · exact absurd (hbe.trans z) hb
        · rw [hbe]; exact z
      rw [q] at q'; cases q'
      obtain ⟨v, hv⟩ := heo
      exact ⟨v, by rw [hbe]; exact hv⟩
    · refine (ok b u q).stay (fun c v hc r => k c v ?_ r) (fun c r => by rw [upd_ne (nown c b r)]; exact r) fun c xs r => by rw [upd_ne (ntup c xs r)]; exact r
      rcases hc with rfl | hc
      · exact hbe
      · rintro rfl
        rcases he with z | z
        · exact nown c b hc z
        · rw [hc] at z; cases z; exact hb rfl
end

/-! ### kept unless tracked; of the frames at fs (the callers') the slots may change (an exception that passes writes there); of the records at ex (iterators) nothing is said -/
structure Un (fs ex : List Addr) (H H' : Hp) (h h' : Heap) : Prop where
  keep : ∀ b o, h.get? b = some o → H b = none → b ∉ fs → b ∉ ex → h'.get? b = some o
  slot : ∀ b o, h.get? b = some o → H b = none → b ∈ fs → b ∉ ex → ∃ sl, h'.get? b = some { o with slots := sl }
  free : ∀ b o, h.get? b = some o → H b = none → b ∉ ex → H' b = none
  there : ∀ b o, h.get? b = some o → b ∉ ex → ∃ o', h'.get? b = some o'
  tups : ∀ b xs, H b = some (.tup xs) → H' b = some (.tup xs)
  frzs : ∀ b o u, H b = some (.frz o u) → H' b = some (.frz o u)
  tbls : ∀ b ps, H b = some (.tbl ps) → ∃ more, H' b = some (.tbl (ps ++ more))
section
variable {fs fs' ex ex' : List Addr} {H H1 H2 : Hp} {h h1 h2 h' : Heap} {a x e : Addr} {o : HO}
theorem Un.any (u : Un fs ex H H1 h h1) {b : Addr} {ob : Obj} (q : h.get? b = some ob) (n : H b = none) (hx : b ∉ ex) : ∃ sl, h1.get? b = some { ob with slots := sl } := by
  by_cases hb : b ∈ fs
  · exact u.slot b ob q n hb hx
  · exact ⟨ob.slots, u.keep b ob q n hb hx⟩
theorem Un.trans (a : Un fs ex H H1 h h1) (b : Un fs ex H1 H2 h1 h2) : Un fs ex H H2 h h2 where
  keep := fun c ob q n hc hx => b.keep c ob (a.keep c ob q n hc hx) (a.free c ob q n hx) hc hx
  slot := fun c ob q n hc hx => by
    obtain ⟨sl, e1⟩ := a.slot c ob q n hc hx
    obtain ⟨sl', e2⟩ := b.slot c _ e1 (a.free c ob q n hx) hc hx
    exact ⟨sl', e2⟩
  free := fun c ob q n hx => by
    obtain ⟨o', e1⟩ := a.there c ob q hx
    exact b.free c o' e1 (a.free c ob q n hx) hx
  there := fun c ob q hx => by
    obtain ⟨o', e1⟩ := a.there c ob q hx
    exact b.there c o' e1 hx
  tups := fun c xs q => b.tups c xs (a.tups c xs q)
  frzs := fun c ob xs q => b.frzs c ob xs (a.frzs c ob xs q)
  tbls := fun c ps q => by
    obtain ⟨m1, e1⟩ := a.tbls c ps q
    obtain ⟨m2, e2⟩ := b.tbls c _ e1
    exact ⟨m1 ++ m2, by rw [e2, Array.append_assoc]⟩
theorem Un.kept (k : ∀ b u, h.get? b = some u → h'.get? b = some u) : Un fs ex H H h h' :=
  ⟨fun b ob q _ _ _ => k b ob q, fun b ob q _ _ _ => ⟨ob.slots, k b ob q⟩, fun _ _ _ n _ => n, fun b ob q _ => ⟨ob, k b ob q⟩, fun _ _ q => q, fun _ _ _ q => q, fun _ ps q => ⟨#[], by rw [q]; simp⟩⟩
theorem Un.refl : Un fs ex H H h h := Un.kept fun _ _ q => q
theorem Un.laid (k : ∀ b u, h.get? b = some u → h'.get? b = some u) (hp : h.objs.size ≤ a) (hn : H a = none) : Un fs ex H (upd H a o) h h' where
  keep := fun b u q _ _ _ => k b u q
  slot := fun b u q _ _ _ => ⟨u.slots, k b u q⟩
  free := fun b u q n _ => by rw [upd_ne (Nat.ne_of_lt (Nat.lt_of_lt_of_le (Heap.lt_size q) hp))]; exact n
  there := fun b u q _ => ⟨u, k b u q⟩
  tups := fun b xs q => by rw [upd_ne (ne_of_none q hn)]; exact q
  frzs := fun b u xs q => by rw [upd_ne (ne_of_none q hn)]; exact q
  tbls := fun b ps q => ⟨#[], by rw [upd_ne (ne_of_none q hn), q]; simp⟩
theorem Un.write (mu : Mut (H x)) (he : e = x ∨ H e = some (.own x)) (k : ∀ b u, b ≠ e → h.get? b = some u → h'.get? b = some u) (heo : ∃ u, h'.get? e = some u) : Un fs ex H (upd H x o) h h' := by
  have hx : ∀ b, H b = none → b ≠ x := fun b n z => by subst z; rw [n] at mu; exact mu
  have hb : ∀ b, H b = none → b ≠ e := fun b n z => by
    subst z
    rcases he with r | r
    · exact hx b n r
    · rw [n] at r; cases r
  have hm : ∀ b u, H b = some u → ¬ Mut (some u) → b ≠ x := fun b u q nm z => by subst z; rw [q] at mu; exact nm mu
  refine ⟨fun b u q n _ _ => k b u (hb b n) q, fun b u q n _ _ => ⟨u.slots, k b u (hb b n) q⟩, fun b u q n _ => by rw [upd_ne (hx b n)]; exact n, fun b u q _ => ?_,
    fun b xs q => by rw [upd_ne (hm b _ q fun z => z)]; exact q, fun b u xs q => by rw [upd_ne (hm b _ q fun z => z)]; exact q, fun b ps q => ⟨#[], by rw [upd_ne (hm b _ q fun z => z), q]; simp⟩⟩
  by_cases hbe : b = e
  · subst hbe; exact heo
  · exact ⟨u, k b u hbe q⟩
theorem Un.mono (u : Un fs ex H H1 h h1) (hs : ∀ b ∈ fs, b ∈ fs') (hx : ∀ b ∈ ex, b ∈ ex') : Un fs' ex' H H1 h h1 :=
  ⟨fun b ob q n hb he => u.keep b ob q n (fun z => hb (hs b z)) fun z => he (hx b z), fun _ _ q n _ he => u.any q n fun z => he (hx _ z), fun b ob q n he => u.free b ob q n fun z => he (hx b z), fun b ob q he => u.there b ob q fun z => he (hx b z), u.tups, u.frzs, u.tbls⟩
end

/-! ### the heap without what is tracked -/
def trk (h : Heap) (H : Hp) : List Addr := (List.range h.objs.size).filter fun a => (H a).isSome
def hidT (h : Heap) (H : Hp) : Heap := PySem.W.hideAll h (trk h H)
theorem hidT_size (h : Heap) (H : Hp) : (hidT h H).objs.size = h.objs.size := PySem.W.hideAll_size _ _
theorem hidT_get {h : Heap} {H : Hp} {b : Addr} {o : Obj} (e : h.get? b = some o) (n : H b = none) : (hidT h H).get? b = some o :=
  PySem.W.hideAll_get _ e fun hm => by
    have q : (H b).isSome = true := (List.mem_filter.mp hm).2
    rw [n] at q; simp at q
theorem of_hidT {h : Heap} {H : Hp} {b : Addr} {o : Obj} (e : (hidT h H).get? b = some o) : h.get? b = some o ∧ H b = none := by
  have e' : h.get? b = some o := PySem.W.of_hideAll (trk h H) e
  refine ⟨e', ?_⟩
  cases q : H b with
  | none => rfl
  | some x =>
    have hm : b ∈ trk h H := List.mem_filter.mpr ⟨List.mem_range.mpr (Heap.lt_size e'), by simp [q]⟩
    have z : (hidT h H).get? b = none := PySem.W.hideAll_none (trk h H) hm
    rw [z] at e; cases e

/-! ### OpenK's ledger, filled with every new object but one -/
def allNews (g h : Heap) (L : Addr) : List (Addr × Obj) := (List.range h.objs.size).filterMap fun a => if a = L ∨ (g.get? a).isSome = true then none else (h.get? a).map fun o => (a, o)
def rest (g h : Heap) (L d : Addr) : List (Addr × Obj) := (allNews g h L).filter fun p => decide (p.1 ≠ d)
end L2

namespace L2
open PySem PySem.Spec PyProof.Rows

/-- the generators that stood there stand as they stood, all are bare -/
def GensOk (g0 g : Array GenState) : Prop := AllBare g ∧ ∀ (i : Nat) (x : GenState), g0[i]? = some x → g[i]? = some x
theorem GensOk.trans {a b c : Array GenState} (x : GensOk a b) (y : GensOk b c) : GensOk a c := ⟨y.1, fun i z e => y.2 i z (x.2 i z e)⟩
theorem GensOk.self {a b : Array GenState} (x : GensOk a b) : GensOk b b := ⟨x.1, fun _ _ e => e⟩
/-- the module's facts, over the base: the heap at the law's entry without what is tracked there -/
structure Mod (K : PySem.W.Frag) (mg : Str → Option Value) (base : Heap) : Prop where
  kin : K.In base
  glob : base.Ns mainGlobals mg
  blt : ∃ mb, base.Ns builtinsNs mb ∧ ∀ x : Str, x ≠ "__name__" → mb x = bootBuiltins x
  nolimit : base.NoLimit

/-- the context: a def's body (or a comprehension's block) running. base: fixed through the whole law; s₀, H₀: the entry; outer: the frames whose slots others may change (a def's callers); stack: all frames that run;
   ex: iterators that were made ahead of the entry and are walked here (a comprehension's); fn: the names whose cells were made at the entry (a def: all; a comprehension's block: its own); calm: not within an except suite; pn: pins that every state bears; xe: what is wanted of an exception that leaves the code -/
structure Cx where
  prog : Program
  w : World
  K : PySem.W.Frag
  mg : Str → Option Value
  base : Heap
  A : Around
  N : List Str
  s_0 : Shared
  H_0 : Hp
  env : Env
  outer : List Env
  stack : List Env
  ex : List Addr
  fn : Str → Bool
  calm : Bool
  pn : List (Addr × Obj)
  xe : Value → Shared → Prop
/-- the callers' frames -/
def frs (l : List Env) : List Addr := l.filterMap (·.frame)
abbrev Cx.fs (X : Cx) : List Addr := frs X.outer

def Vis (sc : Scope) (x : Str) : Prop := sc.names.lookup x = some .local ∨ sc.names.lookup x = some .cell ∨ sc.names.lookup x = some .free
def Loc (sc : Scope) (x : Str) : Prop := sc.names.lookup x = some .local ∨ sc.names.lookup x = some .cell
def Look (env : Env) (h : Heap) (m : Str → Option Value) (x : Str) (u : Value) : Prop :=
  (env.kindOf x = some .local ∧ m x = some u) ∨ ((env.kindOf x = some .cell ∨ env.kindOf x = some .free) ∧ ∃ c, env.cells.lookup x = some c ∧ h.IsCell c (some u))

structure Cx.Ok (X : Cx) : Prop where
  mod : Mod X.K X.mg X.base
  kind : X.env.scope.kind = .function
  glob : X.env.globals = mainGlobals
  blt : X.env.builtins = builtinsNs
  above : X.s_0.heap.objs.size ≤ X.env.locals
  inj : ∀ x y c, X.env.cells.lookup x = some c → X.env.cells.lookup y = some c → x = y
  has : ∀ x, (X.env.kindOf x = some .cell ∨ X.env.kindOf x = some .free) → ∃ c, X.env.cells.lookup x = some c
  cab : ∀ x c, X.fn x = true → X.env.cells.lookup x = some c → X.s_0.heap.objs.size ≤ c
  hd : X.calm = true → X.A.handled = none
  frames : X.A.frames = some X.stack
  stk : X.stack = X.outer ∨ (X.stack = X.env :: X.outer ∧ X.env.frame = some X.env.locals)
  exf : ∀ b ∈ X.ex, b ≠ X.env.locals ∧ ∀ x c, X.env.cells.lookup x = some c → c ≠ b
  bs : ∀ b o, X.base.get? b = some o → X.s_0.heap.get? b = some o ∧ X.H_0 b = none
  bsz : X.base.objs.size ≤ X.s_0.heap.objs.size
  noex : ∀ b o, X.base.get? b = some o → b ∉ X.ex
  exfs : ∀ b ∈ X.ex, b ∉ X.fs
  funs : X.s_0.heap.FunFrames X.base X.outer
  frf : ∀ b ∈ X.fs, X.H_0 b = none

structure Inv (X : Cx) (pins : List (Addr × Obj)) (σ : List (Option V)) (H : Hp) (s : Shared) : Prop where
  ok : X.Ok
  os : s.os = X.s_0.os
  bare : GensOk X.s_0.gens s.gens
  base : Un X.fs X.ex X.H_0 H X.s_0.heap s.heap
  loc : ∃ m, s.heap.Ns X.env.locals m ∧ ∀ (i : Nat) (x : Str) (v : V), X.N[i]? = some x → σ[i]? = some (some v) → Vis X.env.scope x → ∃ u, RelV v u ∧ Look X.env s.heap m x u
  cell : ∀ x c, X.env.cells.lookup x = some c → ∃ v, s.heap.IsCell c v
  free : H X.env.locals = none
  freeC : ∀ x c, X.env.cells.lookup x = some c → H c = none
  pin : ∀ p ∈ X.pn ++ pins, s.heap.get? p.1 = some p.2 ∧ H p.1 = none ∧ p.1 ≠ X.env.locals ∧ p.1 ∉ X.fs ∧ ∀ v, p.2.data ≠ .cell v
  hok : HOk X.prog X.w H s.heap
  len : σ.length = X.N.length

section
variable {X : Cx} {pins : List (Addr × Obj)} {σ : List (Option V)} {H H' : Hp} {s : Shared} {h' : Heap}

theorem Cx.Ok.nofr (ok : X.Ok) {b : Addr} {o : Obj} (e : X.base.get? b = some o) : b ∉ X.fs := fun hb => by
  have := (ok.funs.mem hb).1
  rw [e] at this; cases this
theorem Inv.bs (I : Inv X pins σ H s) : ∀ b o, X.base.get? b = some o → s.heap.get? b = some o ∧ H b = none := fun b o e =>
  ⟨I.base.keep b o (I.ok.bs b o e).1 (I.ok.bs b o e).2 (I.ok.nofr e) (I.ok.noex b o e), I.base.free b o (I.ok.bs b o e).1 (I.ok.bs b o e).2 (I.ok.noex b o e)⟩
theorem Inv.bk (I : Inv X pins σ H s) : ∀ b o, X.base.get? b = some o → s.heap.get? b = some o := fun b o e => (I.bs b o e).1
theorem Inv.mod (I : Inv X pins σ H s) : Mod X.K X.mg X.base := I.ok.mod
theorem Inv.kIn (I : Inv X pins σ H s) : X.K.In s.heap := I.ok.mod.kin.keeps I.bk
theorem Inv.nolimit (I : Inv X pins σ H s) : s.heap.NoLimit := I.ok.mod.nolimit.keeps I.bk
/-- the frame over the base: for OpenK's rules (K.In X.base is I.mod.kin) -/
theorem Inv.fr (I : Inv X pins σ H s) : ∃ m, Fr X.base X.env.locals s.heap m :=
  let ⟨m, hn, _⟩ := I.loc
  ⟨m, hn, I.bk, Nat.le_trans I.ok.bsz I.ok.above⟩
theorem Inv.lt (I : Inv X pins σ H s) : X.env.locals < s.heap.objs.size := let ⟨_, hn, _⟩ := I.loc; hn.lt
theorem Inv.sz (I : Inv X pins σ H s) : X.s_0.heap.objs.size ≤ s.heap.objs.size := Nat.le_trans I.ok.above (Nat.le_of_lt I.lt)
theorem Inv.nofs (I : Inv X pins σ H s) {a : Addr} (h : s.heap.objs.size ≤ a) : a ∉ X.fs := fun hb => by
  obtain ⟨_, o, ho, _⟩ := I.ok.funs.mem hb
  exact absurd (Nat.lt_of_lt_of_le (Heap.lt_size ho) (Nat.le_trans I.sz h)) (Nat.lt_irrefl _)
theorem Inv.cne (I : Inv X pins σ H s) : ∀ x c, X.env.cells.lookup x = some c → c ≠ X.env.locals := fun x c e z => by
  obtain ⟨v, o, ho, hd⟩ := I.cell x c e
  obtain ⟨m, ⟨o', es, ep, ho', hd', _⟩, _⟩ := I.loc
  rw [z, ho'] at ho; cases ho; rw [hd'] at hd; cases hd
theorem Inv.funs (I : Inv X pins σ H s) : s.heap.FunFrames X.base X.outer := by
  have all : ∀ (l : List Env), (∀ b ∈ frs l, b ∈ X.fs) → X.s_0.heap.FunFrames X.base l → s.heap.FunFrames X.base l := by
    intro l
    induction l with
    | nil => intro _ _; trivial
    | cons env r ih =>
      intro hs hl
      obtain ⟨hk, ⟨L, o, hf, hn, ho, hd⟩, hr⟩ := hl
      have hL : L ∈ X.fs := hs L (by unfold frs; rw [List.filterMap_cons, hf]; exact List.mem_cons_self)
      obtain ⟨sl, e⟩ := I.base.slot L o ho (I.ok.frf L hL) hL fun z => I.ok.exfs L z hL
      exact ⟨hk, ⟨L, _, hf, hn, e, hd⟩, ih (fun b hb => hs b (by unfold frs; rw [List.filterMap_cons, hf]; exact List.mem_cons_of_mem _ hb)) hr⟩
  exact all X.outer (fun _ hb => hb) I.ok.funs

/-- the frames that run, for a call -/
theorem Inv.stack (I : Inv X pins σ H s) : s.heap.FunFrames X.base X.stack := by
  rcases I.ok.stk with e | ⟨e, hf⟩
  · rw [e]; exact I.funs
  · rw [e]
    obtain ⟨m, hn, _⟩ := I.loc
    refine .cons (by rw [I.ok.kind]; decide) hf hn ?_ I.funs
    exact Heap.get?_none_of_le (Nat.le_trans I.ok.bsz I.ok.above)
theorem Inv.stkSub (I : Inv X pins σ H s) : ∀ b ∈ frs X.stack, b ∈ X.env.locals :: X.fs := fun b hb => by
  rcases I.ok.stk with e | ⟨e, hf⟩
  · rw [e] at hb; exact List.mem_cons_of_mem _ hb
  · rw [e] at hb
    unfold frs at hb
    rw [List.filterMap_cons, hf] at hb
    exact hb
theorem Inv.stkFree (I : Inv X pins σ H s) : ∀ b ∈ frs X.stack, H b = none := fun b hb => by
  rcases List.mem_cons.mp (I.stkSub b hb) with e | hb
  · rw [e]; exact I.free
  · obtain ⟨_, o, ho, _⟩ := I.ok.funs.mem hb
    exact I.base.free b o ho (I.ok.frf b hb) fun z => I.ok.exfs b z hb

/-- THE STEP: the untracked objects but the frame and the records at ch are kept (the callers' frames up to slots), the frame's map is kept, the new abstract heap is held -/
theorem Inv.step {g' : Array GenState} {t' : Nat} {d' : Drawn} {ch : List Addr} (I : Inv X pins σ H s)
    (hch : ∀ b ∈ ch, (b ∈ X.ex ∨ X.s_0.heap.objs.size ≤ b) ∧ b ≠ X.env.locals ∧ (∀ x c, X.env.cells.lookup x = some c → c ≠ b) ∧ ∀ p ∈ X.pn ++ pins, p.1 ≠ b)
    (keep : ∀ b o, b ≠ X.env.locals → b ∉ X.fs → b ∉ ch → s.heap.get? b = some o → H b = none → h'.get? b = some o)
    (slot : ∀ b o, b ≠ X.env.locals → b ∈ X.fs → b ∉ ch → s.heap.get? b = some o → H b = none → ∃ sl, h'.get? b = some { o with slots := sl }) (free : ∀ b o, b ∉ ch → s.heap.get? b = some o → H b = none → H' b = none)
    (there : ∀ b o, b ∉ ch → s.heap.get? b = some o → ∃ o', h'.get? b = some o')
    (tups : ∀ b xs, H b = some (.tup xs) → H' b = some (.tup xs)) (frzs : ∀ b o u, H b = some (.frz o u) → H' b = some (.frz o u)) (tbls : ∀ b ps, H b = some (.tbl ps) → ∃ more, H' b = some (.tbl (ps ++ more)))
    (ns : ∀ m, s.heap.Ns X.env.locals m → h'.Ns X.env.locals m) (hok : HOk X.prog X.w H' h') (hg : GensOk s.gens g') :
    Inv X pins σ H' { s with heap := h', gens := g', drawn := d', toks := t' } := by
  have neL : ∀ b o, X.s_0.heap.get? b = some o → b ≠ X.env.locals := fun b o e => Nat.ne_of_lt (Nat.lt_of_lt_of_le (Heap.lt_size e) I.ok.above)
  have neC : ∀ b o, X.s_0.heap.get? b = some o → b ∉ X.ex → b ∉ ch := fun b o e hx hb => by
    rcases (hch b hb).1 with z | z
    · exact hx z
    · exact absurd (Nat.lt_of_lt_of_le (Heap.lt_size e) z) (Nat.lt_irrefl _)
  have cellK : ∀ x c, X.env.cells.lookup x = some c → ∀ v, s.heap.IsCell c v → h'.IsCell c v := fun x c e v ⟨o, ho, hd⟩ => by
    have nch : c ∉ ch := fun z => (hch c z).2.2.1 x c e rfl
    by_cases hc : c ∈ X.fs
    · obtain ⟨sl, q⟩ := slot c o (I.cne x c e) hc nch ho (I.freeC x c e)
      exact ⟨_, q, hd⟩
    · exact ⟨o, keep c o (I.cne x c e) hc nch ho (I.freeC x c e), hd⟩
  refine ⟨I.ok, I.os, I.bare.trans hg, ⟨fun b o e n hb hx => ?_, fun b o e n hb hx => ?_, fun b o e n hx => ?_, fun b o e hx => ?_, fun b xs e => tups b xs (I.base.tups b xs e), fun b o xs e => frzs b o xs (I.base.frzs b o xs e), fun b ps e => ?_⟩, ?_, fun x c e => ?_, ?_, fun x c e => ?_, fun p hp => ?_, hok, I.len⟩
  · exact keep b o (neL b o e) hb (neC b o e hx) (I.base.keep b o e n hb hx) (I.base.free b o e n hx)
  · obtain ⟨sl, e1⟩ := I.base.slot b o e n hb hx
    obtain ⟨sl', e2⟩ := slot b _ (neL b o e) hb (neC b o e hx) e1 (I.base.free b o e n hx)
    exact ⟨sl', e2⟩
  · obtain ⟨o', e1⟩ := I.base.there b o e hx
    exact free b o' (neC b o e hx) e1 (I.base.free b o e n hx)
  · obtain ⟨o', e1⟩ := I.base.there b o e hx
    exact there b o' (neC b o e hx) e1
  · obtain ⟨m1, e1⟩ := I.base.tbls b ps e
    obtain ⟨m2, e2⟩ := tbls b _ e1
    exact ⟨m1 ++ m2, by rw [e2, Array.append_assoc]⟩
  · obtain ⟨m, hn, hl⟩ := I.loc
    refine ⟨m, ns m hn, fun i x v e1 e2 e3 => ?_⟩
    obtain ⟨u, r, l⟩ := hl i x v e1 e2 e3
    refine ⟨u, r, ?_⟩
    rcases l with l | ⟨k, c, e, z⟩
    · exact .inl l
    · exact .inr ⟨k, c, e, cellK x c e _ z⟩
  · obtain ⟨v, z⟩ := I.cell x c e
    exact ⟨v, cellK x c e v z⟩
  · obtain ⟨m, ⟨o, _, _, ho, _⟩, _⟩ := I.loc
    exact free _ o (fun z => (hch _ z).2.1 rfl) ho I.free
  · obtain ⟨v, o, ho, hd⟩ := I.cell x c e
    exact free c o (fun z => (hch c z).2.2.1 x c e rfl) ho (I.freeC x c e)
  · obtain ⟨e, n, ne, nf, d⟩ := I.pin p hp
    have nch : p.1 ∉ ch := fun z => (hch p.1 z).2.2.2 p hp rfl
    exact ⟨keep p.1 p.2 ne nf nch e n, free p.1 p.2 nch e n, ne, nf, d⟩
/-- .. where the frame's own object is kept too -/
theorem Inv.un {t' : Nat} (I : Inv X pins σ H s) (u : Un X.fs [] H H' s.heap h') (hok : HOk X.prog X.w H' h') : Inv X pins σ H' { s with heap := h', toks := t' } := by
  obtain ⟨m, ⟨o, es, ep, ho, r⟩, _⟩ := id I.loc
  obtain ⟨sl, hL⟩ := u.any ho I.free (by simp)
  exact I.step (g' := s.gens) (d' := s.drawn) (ch := []) (fun _ z => nomatch z) (fun b o _ hb _ e n => u.keep b o e n hb (by simp)) (fun b o _ hb _ e n => u.slot b o e n hb (by simp)) (fun b o _ e n => u.free b o e n (by simp)) (fun b o _ e => u.there b o e (by simp)) u.tups u.frzs u.tbls (fun m' hm => by
    obtain ⟨o', es', ep', ho', r'⟩ := hm
    rw [ho] at ho'; cases ho'
    exact ⟨_, es', ep', hL, r'⟩) hok I.bare.self
/-- behind a call (or a comprehension's block): the slots of this frame may have changed too, the records at ch may have turned -/
theorem Inv.call {g' : Array GenState} {t' : Nat} {d' : Drawn} {ch : List Addr} (I : Inv X pins σ H s) (u : Un (frs X.stack) ch H H' s.heap h') (hok : HOk X.prog X.w H' h') (hg : GensOk s.gens g')
    (hch : ∀ b ∈ ch, (b ∈ X.ex ∨ X.s_0.heap.objs.size ≤ b) ∧ b ≠ X.env.locals ∧ (∀ x c, X.env.cells.lookup x = some c → c ≠ b) ∧ ∀ p ∈ X.pn ++ pins, p.1 ≠ b) :
    Inv X pins σ H' { s with heap := h', gens := g', drawn := d', toks := t' } := by
  obtain ⟨m, ⟨o, es, ep, ho, r⟩, _⟩ := id I.loc
  obtain ⟨sl, hL⟩ := u.any ho I.free fun z => (hch _ z).2.1 rfl
  exact I.step (ch := ch) hch (fun b o hL hb hc e n => u.keep b o e n (fun z => (List.mem_cons.mp (I.stkSub b z)).elim hL hb) hc) (fun b o _ _ hc e n => u.any e n hc) (fun b o hc e n => u.free b o e n hc) (fun b o hc e => u.there b o e hc) u.tups u.frzs u.tbls (fun m' hm => by
    obtain ⟨o', es', ep', ho', r'⟩ := hm
    rw [ho] at ho'; cases ho'
    exact ⟨_, es', ep', hL, r'⟩) hok hg
/-- an untracked record of ours (an iterator) has turned -/
theorem Inv.turned {t' : Nat} {it : Addr} (I : Inv X pins σ H s) (k : ∀ b o, b ≠ it → s.heap.get? b = some o → h'.get? b = some o) (hn : H it = none) (hL : it ≠ X.env.locals)
    (h1 : it ∈ X.ex ∨ X.s_0.heap.objs.size ≤ it) (h2 : ∀ x c, X.env.cells.lookup x = some c → c ≠ it) (h3 : ∀ p ∈ X.pn ++ pins, p.1 ≠ it) : Inv X pins σ H { s with heap := h', toks := t' } := by
  have nit : ∀ b u, H b = some u → b ≠ it := fun b u e z => by rw [z, hn] at e; cases e
  refine I.step (g' := s.gens) (d' := s.drawn) (ch := [it]) (fun b hb => ?_) (fun b o _ _ hc e _ => k b o (fun z => hc (by simp [z])) e) (fun b o _ _ hc e _ => ⟨o.slots, k b o (fun z => hc (by simp [z])) e⟩) (fun _ _ _ _ n => n)
    (fun b o hc e => ⟨o, k b o (fun z => hc (by simp [z])) e⟩) (fun _ _ e => e) (fun _ _ _ e => e) (fun b ps e => ⟨#[], by rw [e]; simp⟩) (fun m hm => ?_) (fun b u e => ?_) I.bare.self
  · have e : b = it := by simpa using hb
    subst e
    exact ⟨h1, hL, h2, h3⟩
  · obtain ⟨o, es, ep, ho, r⟩ := hm
    exact ⟨o, es, ep, k _ o (Ne.symm hL) ho, r⟩
  · refine (I.hok b u e).stay (fun c v hc q => k c v ?_ q) (fun _ q => q) fun _ _ q => q
    rcases hc with z | z
    · rw [z]; exact nit b u e
    · exact nit c _ z
theorem Inv.tok (I : Inv X pins σ H s) (t : Nat) : Inv X pins σ H { s with toks := t } := I.un (h' := s.heap) (t' := t) Un.refl I.hok
/-- all objects kept -/
theorem Inv.kept {t' : Nat} (I : Inv X pins σ H s) (k : ∀ b u, s.heap.get? b = some u → h'.get? b = some u) : Inv X pins σ H { s with heap := h', toks := t' } := I.un (Un.kept k) (I.hok.kept k)
/-- a new object laid and tracked -/
theorem Inv.laid {a : Addr} {o : HO} {t' : Nat} (I : Inv X pins σ H s) (k : ∀ b u, s.heap.get? b = some u → h'.get? b = some u) (hp : s.heap.objs.size ≤ a) (new : ObjOk X.prog X.w (upd H a o) h' a o) :
    Inv X pins σ (upd H a o) { s with heap := h', toks := t' } := I.un (Un.laid k hp (I.hok.fresh hp)) (I.hok.laid k hp new)
/-- an object written -/
theorem Inv.write {x e : Addr} {o : HO} {t' : Nat} (I : Inv X pins σ H s) (mu : Mut (H x)) (he : e = x ∨ H e = some (.own x)) (k : ∀ b u, b ≠ e → s.heap.get? b = some u → h'.get? b = some u) (heo : ∃ u, h'.get? e = some u)
    (new : ObjOk X.prog X.w (upd H x o) h' x o) : Inv X pins σ (upd H x o) { s with heap := h', toks := t' } := I.un (Un.write mu he k heo) (I.hok.write mu he k heo new)
/-- forgetting slots, pins -/
theorem Inv.weak {σ' : List (Option V)} (I : Inv X pins σ H s) (hl : σ'.length = σ.length) (w : ∀ (i : Nat) v, σ'[i]? = some (some v) → σ[i]? = some (some v)) : Inv X pins σ' H s :=
  ⟨I.ok, I.os, I.bare, I.base, let ⟨m, hn, hl'⟩ := I.loc; ⟨m, hn, fun i x v e1 e2 e3 => hl' i x v e1 (w i v e2) e3⟩, I.cell, I.free, I.freeC, I.pin, I.hok, hl.trans I.len⟩
theorem Inv.pins_of {pins' : List (Addr × Obj)} (I : Inv X pins σ H s) (h : ∀ p ∈ pins', s.heap.get? p.1 = some p.2 ∧ H p.1 = none ∧ p.1 ≠ X.env.locals ∧ p.1 ∉ X.fs ∧ ∀ v, p.2.data ≠ .cell v) : Inv X pins' σ H s :=
  ⟨I.ok, I.os, I.bare, I.base, I.loc, I.cell, I.free, I.freeC, fun p hp => (List.mem_append.mp hp).elim (fun z => I.pin p (List.mem_append_left _ z)) (h p), I.hok, I.len⟩

theorem nodup_ix {N : List Str} (hN : N.Nodup) {i j : Nat} {x : Str} (a : N[i]? = some x) (b : N[j]? = some x) : i = j := by
  obtain ⟨h1, e1⟩ := List.getElem?_eq_some_iff.mp a
  obtain ⟨h2, e2⟩ := List.getElem?_eq_some_iff.mp b
  exact (List.getElem_inj hN).mp (e1.trans e2.symm)

/-- a name is stored; what changed -/
theorem store_ok2 {M : Model} {A : Around} {E : Value → Shared → Prop} {i : Nat} {x : Str} {v : V} {u : Value} {Q : Unit → Shared → Prop} (I : Inv X pins σ H s) (hN : X.N.Nodup) (hi : X.N[i]? = some x) (hx : Loc X.env.scope x) (r : RelV v u)
    (h : ∀ s', Inv X pins (σ.set i (some v)) H s' → (∃ a, Heap.SameBut a s.heap s'.heap ∧ (a = X.env.locals ∨ X.env.cells.lookup x = some a)) → Q () s') (hf : X.fn x = true ∨ X.env.scope.names.lookup x = some .local := by first | exact .inl rfl | exact .inr rfl | assumption) : wpAny M A (storeName X.env x u) Q E s := by
  obtain ⟨m, hn, hl⟩ := id I.loc
  have hcls : (X.env.scope.kind == .class || (X.env.scope.kind == .module && X.env.locals != X.env.globals)) = false := by rw [I.ok.kind]; rfl
  have hiσ : i < σ.length := by rw [I.len]; exact (List.getElem?_eq_some_iff.mp hi).1
  have cne := I.cne
  have tracked : ∀ {a : Addr} {h' : Heap}, (∃ o, s.heap.get? a = some o ∧ H a = none) → Heap.SameBut a s.heap h' → HOk X.prog X.w H h' := fun {a h'} ha hs b ob e => by
    obtain ⟨_, _, hfree⟩ := ha
    refine (I.hok b ob e).stay (fun c w' hc q => (hs.2 c ?_).trans q) (fun _ q => q) fun _ _ q => q
    rintro rfl
    rcases hc with rfl | hc
    · rw [hfree] at e; cases e
    · rw [hfree] at hc; cases hc
  rcases hx with hk | hk
  · refine wpAny_storeName_local hk hn (fun h' hn' hs => ?_) hcls
    obtain ⟨oL, _, _, hoL, _⟩ := id hn
    refine h _ ⟨I.ok, I.os, I.bare, ⟨fun b o e n hb hx => ?_, fun b o e n hb hx => ?_, I.base.free, fun b o e hx => ?_, I.base.tups, I.base.frzs, I.base.tbls⟩, ⟨_, hn', fun j y v' e1 e2 e3 => ?_⟩, fun y c e => ?_, I.free, I.freeC, fun p hp => ?_, tracked ⟨oL, hoL, I.free⟩ hs, by simpa using I.len⟩ ⟨_, hs, .inl rfl⟩
    · exact (hs.2 b (Nat.ne_of_lt (Nat.lt_of_lt_of_le (Heap.lt_size e) I.ok.above))).trans (I.base.keep b o e n hb hx)
    · obtain ⟨sl, e1⟩ := I.base.slot b o e n hb hx
      exact ⟨sl, (hs.2 b (Nat.ne_of_lt (Nat.lt_of_lt_of_le (Heap.lt_size e) I.ok.above))).trans e1⟩
    · obtain ⟨o', e1⟩ := I.base.there b o e hx
      exact ⟨o', (hs.2 b (Nat.ne_of_lt (Nat.lt_of_lt_of_le (Heap.lt_size e) I.ok.above))).trans e1⟩
    · by_cases hj : j = i
      · subst hj
        rw [hi] at e1; cases e1
        rw [List.getElem?_set_self hiσ] at e2
        cases e2
        exact ⟨u, r, .inl ⟨hk, by simp⟩⟩
      · rw [List.getElem?_set_ne (Ne.symm hj)] at e2
        obtain ⟨u', r', q⟩ := hl j y v' e1 e2 e3
        refine ⟨u', r', ?_⟩
        rcases q with ⟨k, e⟩ | ⟨k, c, e, z⟩
        · refine .inl ⟨k, ?_⟩
          have : y ≠ x := fun e => hj (nodup_ix hN e1 (e ▸ hi))
          simp [this, e]
        · exact .inr ⟨k, c, e, z.sameBut hs (cne y c e)⟩
    · obtain ⟨w', z⟩ := I.cell y c e
      exact ⟨w', z.sameBut hs (cne y c e)⟩
    · obtain ⟨e, n, ne, nf, d⟩ := I.pin p hp
      exact ⟨(hs.2 p.1 ne).trans e, n, ne, nf, d⟩
  · have hfn : X.fn x = true := by
      rcases hf with z | z
      · exact z
      · rw [z] at hk; cases hk
    obtain ⟨c, hc⟩ := I.ok.has x (.inl hk)
    obtain ⟨w', z⟩ := I.cell x c hc
    refine wpAny_storeName_cell I.ok.kind hk hc z (fun h' hc' hs => ?_)
    obtain ⟨oc, hoc, hocd⟩ := id z
    refine h { s with heap := h' } ⟨I.ok, I.os, I.bare, ⟨fun b o e n hb hx => ?_, fun b o e n hb hx => ?_, I.base.free, fun b o e hx => ?_, I.base.tups, I.base.frzs, I.base.tbls⟩, ⟨m, hn.sameBut hs (Ne.symm (cne x c hc)), fun j y v' e1 e2 e3 => ?_⟩, fun y c' e => ?_, I.free, I.freeC, fun p hp => ?_, tracked ⟨oc, hoc, I.freeC x c hc⟩ hs, by simpa using I.len⟩ ⟨c, hs, .inr hc⟩
    · exact (hs.2 b (Nat.ne_of_lt (Nat.lt_of_lt_of_le (Heap.lt_size e) (I.ok.cab x c hfn hc)))).trans (I.base.keep b o e n hb hx)
    · obtain ⟨sl, e1⟩ := I.base.slot b o e n hb hx
      exact ⟨sl, (hs.2 b (Nat.ne_of_lt (Nat.lt_of_lt_of_le (Heap.lt_size e) (I.ok.cab x c hfn hc)))).trans e1⟩
    · obtain ⟨o', e1⟩ := I.base.there b o e hx
      exact ⟨o', (hs.2 b (Nat.ne_of_lt (Nat.lt_of_lt_of_le (Heap.lt_size e) (I.ok.cab x c hfn hc)))).trans e1⟩
    · by_cases hj : j = i
      · subst hj
        rw [hi] at e1; cases e1
        rw [List.getElem?_set_self hiσ] at e2
        cases e2
        exact ⟨u, r, .inr ⟨.inl hk, c, hc, hc'⟩⟩
      · rw [List.getElem?_set_ne (Ne.symm hj)] at e2
        obtain ⟨u', r', q⟩ := hl j y v' e1 e2 e3
        refine ⟨u', r', ?_⟩
        rcases q with q | ⟨k, c', e, z'⟩
        · exact .inl q
        · refine .inr ⟨k, c', e, z'.sameBut hs ?_⟩
          rintro rfl
          exact hj (nodup_ix hN e1 (I.ok.inj _ _ _ e hc ▸ hi))
    · by_cases hcc : c' = c
      · subst hcc; exact ⟨_, hc'⟩
      · obtain ⟨w2, z2⟩ := I.cell y c' e
        exact ⟨w2, z2.sameBut hs hcc⟩
    · obtain ⟨e, n, ne, nf, d⟩ := I.pin p hp
      refine ⟨(hs.2 p.1 ?_).trans e, n, ne, nf, d⟩
      intro q
      rw [q, hoc] at e
      have q' : oc = p.2 := Option.some.inj e
      exact d w' (by rw [← q']; exact hocd)
theorem store_ok {M : Model} {A : Around} {E : Value → Shared → Prop} {i : Nat} {x : Str} {v : V} {u : Value} {Q : Unit → Shared → Prop} (I : Inv X pins σ H s) (hN : X.N.Nodup) (hi : X.N[i]? = some x) (hx : Loc X.env.scope x) (r : RelV v u)
    (h : ∀ s', Inv X pins (σ.set i (some v)) H s' → Q () s') (hf : X.fn x = true ∨ X.env.scope.names.lookup x = some .local := by first | exact .inl rfl | exact .inr rfl | assumption) : wpAny M A (storeName X.env x u) Q E s :=
  store_ok2 I hN hi hx r (fun s' I' _ => h s' I') hf
/-- behind a call or a block, the state as it is -/
theorem Inv.call' {s' : Shared} {ch : List Addr} (I : Inv X pins σ H s) (ho : s'.os = s.os) (u : Un (frs X.stack) ch H H' s.heap s'.heap) (hok : HOk X.prog X.w H' s'.heap) (hg : GensOk s.gens s'.gens)
    (hch : ∀ b ∈ ch, (b ∈ X.ex ∨ X.s_0.heap.objs.size ≤ b) ∧ b ≠ X.env.locals ∧ (∀ x c, X.env.cells.lookup x = some c → c ≠ b) ∧ ∀ p ∈ X.pn ++ pins, p.1 ≠ b) : Inv X pins σ H' s' := by
  obtain ⟨h', g', d', t', o'⟩ := s'
  have e : o' = s.os := ho
  subst e
  exact I.call (g' := g') (t' := t') (d' := d') u hok hg hch
end

/-! ### the judgements -/
/-- an exception: its class, its own dict's address (where it has one), the abstract heap behind it -/
abbrev XK := Value → Option Addr → Hp → Prop
abbrev St := List (Option V)
abbrev VK := V → Hp → Prop
/-- an expression's reading; a test's; an argument list's -/
abbrev TE := St → Hp → VK → Prop
abbrev TT := St → Hp → (Bool → Hp → Prop) → Prop
abbrev TA := St → Hp → (List V → Hp → Prop) → Prop
/-- what is wanted behind a statement -/
structure Ends where
  nx : St → Hp → Prop
  rt : VK
  bk : St → Hp → Prop := fun _ _ => False
  ct : St → Hp → Prop := fun _ _ => False
abbrev TS := Ends → St → Hp → Prop

def EP (X : Cx) (pins : List (Addr × Obj)) (σ : St) (Q : VK) (u : Value) (s' : Shared) : Prop := ∃ v H', Inv X pins σ H' s' ∧ RelV v u ∧ Q v H'
def TP (X : Cx) (pins : List (Addr × Obj)) (σ : St) (Q : Bool → Hp → Prop) (b : Bool) (s' : Shared) : Prop := ∃ H', Inv X pins σ H' s' ∧ Q b H'
def AP (X : Cx) (pins : List (Addr × Obj)) (σ : St) (Q : List V → Hp → Prop) (us : List Value) (s' : Shared) : Prop := ∃ vs H', Inv X pins σ H' s' ∧ Vals vs us ∧ Q vs H'
def SP (X : Cx) (pins : List (Addr × Obj)) (D : Ends) (f : Flow) (s' : Shared) : Prop :=
  match f with
  | .next => ∃ σ' H', Inv X pins σ' H' s' ∧ D.nx σ' H'
  | .brk => ∃ σ' H', Inv X pins σ' H' s' ∧ D.bk σ' H'
  | .cont => ∃ σ' H', Inv X pins σ' H' s' ∧ D.ct σ' H'
  | .ret u => ∃ v σ' H', Inv X pins σ' H' s' ∧ RelV v u ∧ D.rt v H'

def PE (X : Cx) (e : Expr) (t : TE) : Prop :=
  ∀ (pins : List (Addr × Obj)) (s : Shared) (σ : St) (H : Hp) (Q : VK), Inv X pins σ H s → t σ H Q → wpAny (model X.prog X.w) X.A (eval e X.env) (EP X pins σ Q) X.xe s
def PT (X : Cx) (e : Expr) (t : TT) : Prop :=
  ∀ (pins : List (Addr × Obj)) (s : Shared) (σ : St) (H : Hp) (Q : Bool → Hp → Prop), Inv X pins σ H s → t σ H Q → wpAny (model X.prog X.w) X.A (isTrue e X.env (eval e X.env)) (TP X pins σ Q) X.xe s
/-- a test whatever its 'whole' is (and, or) -/
def PW (X : Cx) (e : Expr) (t : TT) : Prop :=
  ∀ (whole : Sem Value) (pins : List (Addr × Obj)) (s : Shared) (σ : St) (H : Hp) (Q : Bool → Hp → Prop), Inv X pins σ H s → t σ H Q → wpAny (model X.prog X.w) X.A (isTrue e X.env whole) (TP X pins σ Q) X.xe s
theorem PW.pt {X : Cx} {e : Expr} {t : TT} (h : PW X e t) : PT X e t := h _
/-- an argument list (no star), from the left -/
def PA (X : Cx) (es : List Expr) (t : TA) : Prop :=
  ∀ (pos : Pos) (pins : List (Addr × Obj)) (s : Shared) (σ : St) (H : Hp) (Q : List V → Hp → Prop), Inv X pins σ H s → t σ H Q → wpAny (model X.prog X.w) X.A (spliced (backTo pos (starEach es X.env))) (AP X pins σ Q) X.xe s
def PS (X : Cx) (st : Stmt) (t : TS) : Prop :=
  ∀ (pins : List (Addr × Obj)) (s : Shared) (σ : St) (H : Hp) (D : Ends), Inv X pins σ H s → t D σ H → wpAny (model X.prog X.w) X.A (exec st X.env) (SP X pins D) X.xe s
def PSs (X : Cx) (st : List Stmt) (t : TS) : Prop :=
  ∀ (pins : List (Addr × Obj)) (s : Shared) (σ : St) (H : Hp) (D : Ends), Inv X pins σ H s → t D σ H → wpAny (model X.prog X.w) X.A (execs st X.env) (SP X pins D) X.xe s
/-- weaken the end -/
theorem thn {α : Type} {t : Sem α} {Q Q' : α → Shared → Prop} {M : Model} {A : Around} {E : Value → Shared → Prop} {s : Shared} (h : wpAny M A t Q E s) (hQ : ∀ a s, Q a s → Q' a s) : wpAny M A t Q' E s := wpAny_mono h hQ fun _ _ x => x
end L2

namespace L2
open PySem PySem.Spec PyProof.Rows
section
variable {X : Cx}

/-! ### names and constants -/
def tVar (i : Nat) : TE := fun σ H Q => ∃ v, σ[i]? = some (some v) ∧ Q v H
def tC (v : V) : TE := fun _ H Q => Q v H
theorem pe_var {i : Nat} {x : Str} {pos : Pos} (hN : X.N[i]? = some x) (hv : Vis X.env.scope x) (hd : (x == ("__debug__" : Str)) = false := by decide) (hcd : (x == ("__classdict__" : Str)) = false := by decide) : PE X (.Name x pos) (tVar i) := by
  intro pins s σ H Q I h
  obtain ⟨v, e, h⟩ := h
  obtain ⟨m, hn, hl⟩ := I.loc
  obtain ⟨u, r, l⟩ := hl i x v hN e hv
  have fin : EP X pins σ Q u s := ⟨v, H, I, r, h⟩
  rcases l with ⟨hk, hm⟩ | ⟨hk, c, hc, hcell⟩
  · exact wpAny_Name (wpAny_loadName_local I.ok.kind hk hn hm fin) hd
  · rcases hk with hk | hk
    · exact wpAny_Name (wpAny_loadName_cell I.ok.kind hk hc hcell fin) hd
    · exact wpAny_Name (wpAny_loadName_free I.ok.kind hk hc hcell fin hcd) hd
theorem pe_int {i j pos} : PE X (.Constant (.int i) j pos) (tC (.int i)) := fun _ _ _ H _ I h => wpAny_Constant_int ⟨.int i, H, I.tok _, ⟨_, rfl⟩, h⟩
theorem pe_bl {b j pos} : PE X (.Constant (.bool b) j pos) (tC (.bl b)) := fun _ _ _ H _ I h => Constant_bool ⟨.bl b, H, I, rfl, h⟩
theorem pe_non {j pos} : PE X (.Constant .none j pos) (tC .non) := fun _ _ _ H _ I h => Constant_none ⟨.non, H, I, rfl, h⟩
theorem pe_str {x j pos} : PE X (.Constant (.str x) j pos) (tC (.str x)) := fun _ _ _ H _ I h => Calls.Constant_str ⟨.str x, H, I.tok _, ⟨_, rfl⟩, h⟩

/-- a global name of the def -/
def Gl (X : Cx) (x : Str) : Prop := X.env.kindOf x = some .globalImplicit
theorem ld_glob {E : Value → Shared → Prop} {pins : List (Addr × Obj)} {s : Shared} {σ : St} {H : Hp} {x : Str} {u : Value} {pos : Pos} {Q : Value → Shared → Prop} (I : Inv X pins σ H s) (hg : Gl X x) (hm : X.mg x = some u) (h : Q u s)
    (hd : (x == ("__debug__" : Str)) = false := by decide) : wpAny (model X.prog X.w) X.A (eval (.Name x pos) X.env) Q E s :=
  Calls.Name_function_global I.ok.kind hg (Calls.loadGlobal_global (by rw [I.ok.glob]; exact I.mod.glob.keeps I.bk) hm h) hd
theorem ld_blt {E : Value → Shared → Prop} {pins : List (Addr × Obj)} {s : Shared} {σ : St} {H : Hp} {x : Str} {u : Value} {pos : Pos} {Q : Value → Shared → Prop} (I : Inv X pins σ H s) (hg : Gl X x) (hm : X.mg x = none) (hv : bootBuiltins x = some u) (h : Q u s)
    (hn : x ≠ "__name__" := by decide) (hd : (x == ("__debug__" : Str)) = false := by decide) : wpAny (model X.prog X.w) X.A (eval (.Name x pos) X.env) Q E s := by
  obtain ⟨mb, h1, h2⟩ := I.mod.blt
  exact Calls.Name_function_global I.ok.kind hg (Calls.loadGlobal_builtin (by rw [I.ok.glob]; exact I.mod.glob.keeps I.bk) hm (by rw [I.ok.blt]; exact h1.keeps I.bk) ((h2 x hn).trans hv) h) hd
/-- a module's constant, a class, a function, as a value -/
theorem pe_glob {x : Str} {v : V} {u : Value} {pos : Pos} (hg : Gl X x) (hm : X.mg x = some u) (r : RelV v u) (hd : (x == ("__debug__" : Str)) = false := by decide) : PE X (.Name x pos) (tC v) :=
  fun _ _ _ H _ I h => ld_glob I hg hm ⟨v, H, I, r, h⟩ hd
theorem pe_bltn {x : Str} {v : V} {u : Value} {pos : Pos} (hg : Gl X x) (hm : X.mg x = none) (hv : bootBuiltins x = some u) (r : RelV v u) (hn : x ≠ "__name__" := by decide) (hd : (x == ("__debug__" : Str)) = false := by decide) : PE X (.Name x pos) (tC v) :=
  fun _ _ _ H _ I h => ld_blt I hg hm hv ⟨v, H, I, r, h⟩ hn hd

/-! ### arithmetic -/
variable {a b : Expr} {ta tb : TE} {pos : Pos}
/-! ### comparisons -/
/-- a comparison as a value, as a test -/
def tB (t : TE) : TT := fun σ H Q => t σ H fun x H1 => ∃ c, x = .bl c ∧ Q c H1
/-- an expression whose value is a bool, as a test -/
theorem pt_val {e : Expr} {t : TE} (h : PE X e t) (he : ∀ whole, isTrue e X.env whole = (do let v ← whole; standAt e.pos; holding [v] (truthy v)) := by intro _; rfl) : PT X e (tB t) := by
  intro pins s σ H Q I hw
  refine isTrue_plain (thn (h pins s σ H _ I hw) fun v s1 ⟨x, H1, I1, r1, q1⟩ => ?_) (he _)
  obtain ⟨d, rfl, q⟩ := q1
  cases r1
  exact wpAny_truthy_bool ⟨H1, I1, q⟩

/-! ### and, or, not -/
variable {tA tB' : TT} {rest : List Expr}
def tAnd (t u : TT) : TT := fun σ H Q => t σ H fun c H1 => if c = true then u σ H1 Q else Q false H1
def tOr (t u : TT) : TT := fun σ H Q => t σ H fun c H1 => if c = true then Q true H1 else u σ H1 Q
def tNot (t : TT) : TT := fun σ H Q => t σ H fun c H1 => Q (!c) H1
theorem pw_and1 (ha : PT X a tA) : PW X (.BoolOp .And [a] pos) tA := by
  intro wh pins s σ H Q I h
  refine isTrue_and (thn (ha pins s σ H Q I h) fun c s1 e => ?_)
  cases c with
  | true => exact isTrue_and_nil e
  | false => exact e
theorem pw_or1 (ha : PT X a tA) : PW X (.BoolOp .Or [a] pos) tA := by
  intro wh pins s σ H Q I h
  refine isTrue_or (thn (ha pins s σ H Q I h) fun c s1 e => ?_)
  cases c with
  | false => exact isTrue_or_nil e
  | true => exact e
theorem pw_and (ha : PT X a tA) (hb : PW X (.BoolOp .And (b :: rest) pos) tB') : PW X (.BoolOp .And (a :: b :: rest) pos) (tAnd tA tB') := by
  intro wh pins s σ H Q I h
  refine isTrue_and (thn (ha pins s σ H _ I h) fun c s1 ⟨H1, I1, q1⟩ => ?_)
  cases c with
  | true => exact hb wh pins s1 σ H1 Q I1 q1
  | false => exact ⟨H1, I1, q1⟩
theorem pw_or (ha : PT X a tA) (hb : PW X (.BoolOp .Or (b :: rest) pos) tB') : PW X (.BoolOp .Or (a :: b :: rest) pos) (tOr tA tB') := by
  intro wh pins s σ H Q I h
  refine isTrue_or (thn (ha pins s σ H _ I h) fun c s1 ⟨H1, I1, q1⟩ => ?_)
  cases c with
  | true => exact ⟨H1, I1, q1⟩
  | false => exact hb wh pins s1 σ H1 Q I1 q1
theorem pt_not (ha : PT X a tA) : PT X (.UnaryOp .Not a pos) (tNot tA) := by
  intro pins s σ H Q I h
  exact isTrue_not (ha pins s σ H (fun c H1 => Q (!c) H1) I h)
/-- .. as values (bools) -/
def tAndV (ta tb : TE) : TE := fun σ H Q => ta σ H fun x H1 => ∃ c, x = .bl c ∧ if c = true then tb σ H1 Q else Q (.bl false) H1
theorem pe_one {op} {t : TE} (h : PE X a t) : PE X (.BoolOp op [a] pos) t := fun pins s σ H Q I hw => BoolOp_one (h pins s σ H Q I hw)
theorem pe_and (ha : PE X a ta) (hb : PE X (.BoolOp .And (b :: rest) pos) tb) : PE X (.BoolOp .And (a :: b :: rest) pos) (tAndV ta tb) := by
  intro pins s σ H Q I h
  refine BoolOp_and (thn (ha pins s σ H _ I h) fun v s1 ⟨x, H1, I1, r1, q1⟩ => ?_)
  obtain ⟨c, rfl, q1⟩ := q1
  cases r1
  refine wpAny_truthy_bool ?_
  cases c with
  | true => exact hb pins s1 σ H1 Q I1 q1
  | false => exact ⟨.bl false, H1, I1, rfl, q1⟩
/-- a if t else b -/
def tIf (t : TT) (ta tb : TE) : TE := fun σ H Q => t σ H fun c H1 => if c = true then ta σ H1 Q else tb σ H1 Q
theorem pe_ifExp {c : Expr} (hc : PT X c tA) (ha : PE X a ta) (hb : PE X b tb) : PE X (.IfExp c a b pos) (tIf tA ta tb) := by
  intro pins s σ H Q I h
  refine wpAny_IfExp (thn (hc pins s σ H _ I h) fun d s1 ⟨H1, I1, q1⟩ => ?_)
  cases d with
  | true => exact ha pins s1 σ H1 Q I1 q1
  | false => exact hb pins s1 σ H1 Q I1 q1
end
end L2

namespace L2
open PySem PySem.Spec PyProof.Rows

/-! ### a list, a tuple that is read: tracked, frozen, or an object of the module -/
def SqL (K : PySem.W.Frag) (H : Hp) (a : Addr) (xs : List V) : Prop :=
  Rd H a (.lst xs) ∨
    ∃ (o : Obj) (its : Array Value) (n : Nat), K.lookup a = some o ∧ o.cls = .type "list" ∧ o.dict = none ∧ o.data = .seq its n ∧ its.size ≤ sizeLine ∧ Vals xs its.toList
def SqT (K : PySem.W.Frag) (H : Hp) (a : Addr) (xs : List V) : Prop :=
  Rd H a (.tup xs) ∨
    ∃ (o : Obj) (its : Array Value) (n : Nat), K.lookup a = some o ∧ o.cls = .type "tuple" ∧ o.data = .seq its n ∧ its.size ≤ sizeLine ∧ Vals xs its.toList
def absV : Value → Option V
  | .none => some .non
  | .bool b => some (.bl b)
  | .int i _ => some (.int i)
  | .str x _ => some (.str x)
  | .bytes b _ => some (.byt b)
  | .float b _ => some (.flt b)
  | .ref a => some (.ref a)
  | .type n => some (.ty n)
  | _ => none
theorem RelV.abs {x : V} {u : Value} (r : RelV x u) : absV u = some x := by
  cases x with
  | non => cases r; rfl
  | bl _ => cases r; rfl
  | int _ => obtain ⟨t, rfl⟩ := r; rfl
  | str _ => obtain ⟨t, rfl⟩ := r; rfl
  | byt _ => obtain ⟨t, rfl⟩ := r; rfl
  | flt _ => obtain ⟨t, rfl⟩ := r; rfl
  | ref _ => cases r; rfl
  | ty _ => cases r; rfl
theorem RelV.inj {x y : V} {u : Value} (r : RelV x u) (q : RelV y u) : x = y := Option.some.inj (r.abs.symm.trans q.abs)
theorem Vals.inj : ∀ {xs ys : List V} {us : List Value}, Vals xs us → Vals ys us → xs = ys
  | _, _, _, .nil, .nil => rfl
  | _, _, _, .cons r t, .cons r' t' => by rw [r.inj r', Vals.inj t t']
section
variable {X : Cx} {pins : List (Addr × Obj)} {σ : St} {H : Hp} {s : Shared} {a : Addr} {xs ys : List V}
theorem SqL.of {K : PySem.W.Frag} (h : H a = some (.lst xs)) : SqL K H a xs := .inl (.inl h)
theorem SqT.of {K : PySem.W.Frag} (h : H a = some (.tup xs)) : SqT K H a xs := .inl (.inl h)
theorem Inv.list (I : Inv X pins σ H s) (h : SqL X.K H a xs) : ∃ its : List Value, Vals xs its ∧ PlainL s.heap a its.toArray ∧ xs.length ≤ sizeLine := by
  rcases h with h | ⟨o, its, n, hk, hc, hd, hs, hz, r⟩
  · obtain ⟨z, its, n, r, e⟩ := h.ok I.hok
    exact ⟨its, r, ⟨_, n, e, rfl, rfl, rfl⟩, z⟩
  · refine ⟨its.toList, r, ⟨o, n, I.kIn a o hk, hc, hd, by simpa using hs⟩, ?_⟩
    have e := r.length
    simp only [Array.length_toList] at e
    omega
theorem Inv.tuple (I : Inv X pins σ H s) (h : SqT X.K H a xs) : ∃ its : List Value, Vals xs its ∧ IsTup s.heap a its.toArray ∧ xs.length ≤ sizeLine := by
  rcases h with h | ⟨o, its, n, hk, hc, hs, hz, r⟩
  · obtain ⟨z, its, r, p⟩ := h.ok I.hok
    exact ⟨its, r, p, z⟩
  · refine ⟨its.toList, r, ⟨o, I.kIn a o hk, hc, n, by simpa using hs⟩, ?_⟩
    have e := r.length
    simp only [Array.length_toList] at e
    omega
theorem Inv.list_inj (I : Inv X pins σ H s) (h : SqL X.K H a xs) (h' : SqL X.K H a ys) : xs = ys := by
  obtain ⟨its, r, ⟨o, n, e, _, _, d⟩, _⟩ := I.list h
  obtain ⟨its', r', ⟨o', n', e', _, _, d'⟩, _⟩ := I.list h'
  rw [e] at e'; cases e'
  rw [d] at d'
  injection d' with d1 _
  have : its = its' := by simpa using congrArg Array.toList d1
  subst this
  exact r.inj r'
theorem Inv.tuple_inj (I : Inv X pins σ H s) (h : SqT X.K H a xs) (h' : SqT X.K H a ys) : xs = ys := by
  obtain ⟨its, r, ⟨o, e, _, n, d⟩, _⟩ := I.tuple h
  obtain ⟨its', r', ⟨o', e', _, n', d'⟩, _⟩ := I.tuple h'
  rw [e] at e'; cases e'
  rw [d] at d'
  injection d' with d1 _
  have : its = its' := by simpa using congrArg Array.toList d1
  subst this
  exact r.inj r'
end

/-! ### another wish about exceptions -/
abbrev Cx.wish (X : Cx) (E : Value → Shared → Prop) : Cx := { X with xe := E }
/-- no exception leaves -/
abbrev Cx.nox (X : Cx) : Cx := X.wish fun _ _ => False
theorem Cx.Ok.wish {X : Cx} (ok : X.Ok) (E : Value → Shared → Prop) : (X.wish E).Ok :=
  ⟨ok.mod, ok.kind, ok.glob, ok.blt, ok.above, ok.inj, ok.has, ok.cab, ok.hd, ok.frames, ok.stk, ok.exf, ok.bs, ok.bsz, ok.noex, ok.exfs, ok.funs, ok.frf⟩
theorem Cx.Ok.unwish {X : Cx} {E : Value → Shared → Prop} (ok : (X.wish E).Ok) : X.Ok :=
  ⟨ok.mod, ok.kind, ok.glob, ok.blt, ok.above, ok.inj, ok.has, ok.cab, ok.hd, ok.frames, ok.stk, ok.exf, ok.bs, ok.bsz, ok.noex, ok.exfs, ok.funs, ok.frf⟩
section
variable {X : Cx} {pins : List (Addr × Obj)} {σ : St} {H : Hp} {s : Shared} {E : Value → Shared → Prop}
theorem Inv.wish (I : Inv X pins σ H s) (E : Value → Shared → Prop) : Inv (X.wish E) pins σ H s := ⟨I.ok.wish E, I.os, I.bare, I.base, I.loc, I.cell, I.free, I.freeC, I.pin, I.hok, I.len⟩
theorem Inv.unwish (I : Inv (X.wish E) pins σ H s) : Inv X pins σ H s := ⟨I.ok.unwish, I.os, I.bare, I.base, I.loc, I.cell, I.free, I.freeC, I.pin, I.hok, I.len⟩
theorem SP.unwish {D : Ends} {f : Flow} {s' : Shared} (h : SP (X.wish E) pins D f s') : SP X pins D f s' := by
  cases f with
  | next => obtain ⟨σ', H', I, q⟩ := h; exact ⟨σ', H', I.unwish, q⟩
  | brk => obtain ⟨σ', H', I, q⟩ := h; exact ⟨σ', H', I.unwish, q⟩
  | cont => obtain ⟨σ', H', I, q⟩ := h; exact ⟨σ', H', I.unwish, q⟩
  | ret u => obtain ⟨v, σ', H', I, r, q⟩ := h; exact ⟨v, σ', H', I.unwish, r, q⟩
theorem PE.nox {e : Expr} {t : TE} (h : PE X.nox e t) : PE X e t := fun pins s σ H Q I hw =>
  wpAny_mono (h pins s σ H Q (I.wish _) hw) (fun _ _ ⟨v, H', I', r, q⟩ => ⟨v, H', I'.unwish, r, q⟩) fun _ _ z => False.elim z
theorem PT.nox {e : Expr} {t : TT} (h : PT X.nox e t) : PT X e t := fun pins s σ H Q I hw =>
  wpAny_mono (h pins s σ H Q (I.wish _) hw) (fun _ _ ⟨H', I', q⟩ => ⟨H', I'.unwish, q⟩) fun _ _ z => False.elim z
theorem PSs.nox {st : List Stmt} {t : TS} (h : PSs X.nox st t) : PSs X st t := fun pins s σ H D I hw =>
  wpAny_mono (h pins s σ H D (I.wish _) hw) (fun _ _ q => q.unwish) fun _ _ z => False.elim z
end

/-! ### blocks and small statements -/
section
variable {X : Cx} {st : Stmt} {rest : List Stmt} {t u : TS} {e : Expr} {te : TE} {pos : Pos}
def tNext : TS := fun D σ H => D.nx σ H
def tSeq (t u : TS) : TS := fun D σ H => t { D with nx := u D } σ H
theorem pss_nil : PSs X [] tNext := fun _ _ σ H _ I h => wpAny_execs_nil ⟨σ, H, I, h⟩
theorem pss_cons (h1 : PS X st t) (h2 : PSs X rest u) : PSs X (st :: rest) (tSeq t u) := by
  intro pins s σ H D I h
  refine wpAny_execs_cons (thn (h1 pins s σ H { D with nx := u D } I h) fun f s1 q => ?_)
  cases f with
  | next =>
    obtain ⟨σ', H', I', q⟩ := q
    exact h2 pins s1 σ' H' D I' q
  | ret v => exact q
  | brk => exact q
  | cont => exact q
theorem pss_one (h1 : PS X st t) : PSs X [st] t := by
  intro pins s σ H D I h
  refine wpAny_execs_cons (thn (h1 pins s σ H D I h) fun f s1 q => ?_)
  cases f with
  | next => exact wpAny_execs_nil q
  | ret v => exact q
  | brk => exact q
  | cont => exact q
/-- in a def's body nothing is shown -/
theorem Inv.quiet {pins : List (Addr × Obj)} {σ : St} {H : Hp} {s : Shared} (I : Inv X pins σ H s) : interactive X.env = false := by simp [interactive, I.ok.kind]
/-- an expression whose value is dropped -/
def tDrop (te : TE) : TS := fun D σ H => te σ H fun _ H1 => D.nx σ H1
theorem ps_expr (he : PE X e te) (hs : swapsWith e none pos.line X.env = pure false := by rfl) : PS X (.Expr e pos) (tDrop te) := by
  intro pins s σ H D I h
  exact wpAny_Expr_any (thn (he pins s σ H _ I h) fun v s1 ⟨x, H1, I1, r1, q1⟩ => ⟨σ, H1, I1, q1⟩) I.quiet hs
def tRet (te : TE) : TS := fun D σ H => te σ H D.rt
theorem ps_ret (he : PE X e te) : PS X (.Return (some e) pos) (tRet te) := by
  intro pins s σ H D I h
  exact wpAny_Return_some (thn (he pins s σ H _ I h) fun v s1 ⟨x, H1, I1, r1, q1⟩ => ⟨x, σ, H1, I1, r1, q1⟩)
def tIfS (c : TT) (t u : TS) : TS := fun D σ H => c σ H fun b H1 => if b = true then t D σ H1 else u D σ H1
theorem ps_if {c : Expr} {a b : List Stmt} {tc : TT} (hc : PT X c tc) (ha : PSs X a t) (hb : PSs X b u) : PS X (.If c a b pos) (tIfS tc t u) := by
  intro pins s σ H D I h
  refine wpAny_If (thn (hc pins s σ H _ I h) fun d s1 ⟨H1, I1, q1⟩ => ?_)
  cases d with
  | true => exact ha pins s1 σ H1 D I1 q1
  | false => exact hb pins s1 σ H1 D I1 q1
end

/-! ### targets -/
abbrev TG := V → St → Hp → (St → Hp → Prop) → Prop
abbrev TGs := List V → St → Hp → (St → Hp → Prop) → Prop
def PG (X : Cx) (target : Expr) (t : TG) : Prop :=
  ∀ (pins : List (Addr × Obj)) (s : Shared) (σ : St) (H : Hp) (v : V) (u : Value) (Q : St → Hp → Prop), Inv X pins σ H s → RelV v u → t v σ H Q →
    wpAny (model X.prog X.w) X.A (assign target X.env u) (fun _ s' => ∃ σ' H', Inv X pins σ' H' s' ∧ Q σ' H') X.xe s
/-- several targets, one after another -/
def PGs (X : Cx) (ts : List Expr) (t : TGs) : Prop :=
  ∀ (pins : List (Addr × Obj)) (s : Shared) (σ : St) (H : Hp) (vs : List V) (us : List Value) (Q : St → Hp → Prop), Inv X pins σ H s → Vals vs us → t vs σ H Q →
    wpAny (model X.prog X.w) X.A (assignInOrder ((assignEach ts X.env).map (·.2)) us) (fun _ s' => ∃ σ' H', Inv X pins σ' H' s' ∧ Q σ' H') X.xe s
/-- o[i] = v, by values -/
abbrev TSet := V → V → V → Hp → (Hp → Prop) → Prop
def PSet (X : Cx) (t : TSet) : Prop :=
  ∀ (pins : List (Addr × Obj)) (s : Shared) (σ : St) (H : Hp) (o i v : V) (ov iv u : Value) (Q : Hp → Prop), Inv X pins σ H s → RelV o ov → RelV i iv → RelV v u → t o i v H Q →
    wpAny (model X.prog X.w) X.A (setItem ov iv u) (fun _ s' => ∃ H', Inv X pins σ H' s' ∧ Q H') X.xe s
/-- a op= b, by values -/
abbrev TIp := V → V → Hp → VK → Prop
def PIp (X : Cx) (op : Operator) (t : TIp) : Prop :=
  ∀ (pins : List (Addr × Obj)) (s : Shared) (σ : St) (H : Hp) (x y : V) (v u : Value) (Q : VK), Inv X pins σ H s → RelV x v → RelV y u → t x y H Q →
    wpAny (model X.prog X.w) X.A (inplaceOp op v u) (EP X pins σ Q) X.xe s
section
variable {X : Cx} {pos : Pos}
def gName (i : Nat) : TG := fun v σ H Q => Q (σ.set i (some v)) H
theorem pg_name {i : Nat} {x : Str} (hN : X.N.Nodup) (hi : X.N[i]? = some x) (hx : Loc X.env.scope x) (hf : X.fn x = true ∨ X.env.scope.names.lookup x = some .local := by first | exact .inl rfl | exact .inr rfl | assumption) : PG X (.Name x pos) (gName i) := by
  intro pins s σ H v u Q I r h
  exact wpAny_assign_Name (store_ok I hN hi hx r (fun s' I' => ⟨_, H, I', h⟩) hf)
def gNil : TGs := fun vs σ H Q => vs = [] ∧ Q σ H
def gCons (t : TG) (u : TGs) : TGs := fun vs σ H Q => ∃ v r, vs = v :: r ∧ t v σ H fun σ' H' => u r σ' H' Q
theorem pgs_nil : PGs X [] gNil := by
  intro pins s σ H vs us Q I r h
  obtain ⟨e, h⟩ := h
  subst e
  cases r
  exact assignInOrder_nil ⟨σ, H, I, h⟩
theorem pgs_cons {e : Expr} {es : List Expr} {t : TG} {u : TGs} (h1 : PG X e t) (h2 : PGs X es u)
    (hs : (assignEach (e :: es) X.env).map (·.2) = assign e X.env :: (assignEach es X.env).map (·.2) := by rfl) : PGs X (e :: es) (gCons t u) := by
  intro pins s σ H vs us Q I r h
  obtain ⟨v, vr, e1, h⟩ := h
  subst e1
  cases r with
  | cons r rr =>
    rw [hs]
    refine assignInOrder_cons (thn (h1 pins s σ H _ _ _ I r h) fun _ s1 ⟨σ1, H1, I1, q1⟩ => ?_)
    exact h2 pins s1 σ1 H1 _ _ Q I1 rr q1
/-- (a, b, ..) = a tuple of that length -/
def gTup (K : PySem.W.Frag) (n : Nat) (t : TGs) : TG := fun v σ H Q => ∃ a xs, v = .ref a ∧ SqT K H a xs ∧ xs.length = n ∧ t xs σ H Q
theorem pg_tup {es : List Expr} {k : Nat} {t : TGs} {n : Nat} (hc : X.calm = true) (h : PGs X es t)
    (hn : (assignEach es X.env).length = n := by rfl) (hst : (assignEach es X.env).findIdx? (·.1) = none := by rfl) : PG X (.Tuple es k pos) (gTup X.K n t) := by
  intro pins s σ H v u Q I r hw
  obtain ⟨a, xs, e1, hq, hl, hw⟩ := hw
  subst e1
  cases r
  obtain ⟨its, rv, ht, hz⟩ := I.tuple hq
  refine assign_Tuple_tuple (I.ok.hd hc) ht (by simp [hn, ← hl, rv.length]) hst fun h' hx => ?_
  have I1 : Inv X pins σ H { s with heap := h' } := I.kept (t' := s.toks) fun b o e => hx b o (Nat.ne_of_lt (Heap.lt_size e)) e
  exact h pins _ σ H xs _ Q I1 (by simpa using rv) hw
/-- o[i] = .. -/
def gSub (to ti : TE) (t : TSet) : TG := fun v σ H Q => to σ H fun o H1 => ti σ H1 fun i H2 => t o i v H2 fun H3 => Q σ H3
theorem pg_sub {o i : Expr} {to ti : TE} {t : TSet} (ho : PE X o to) (hi : PE X i ti) (hs : PSet X t)
    (ha : ∀ v, assign (.Subscript o i pos) X.env v = (do
      let ov ← holding [v] (eval o X.env)
      let iv ← holding [v, ov] (eval i X.env)
      standAt pos
      holding [v, ov, iv] (setItem ov iv v)
      release [v, ov, iv] []) := by intro _; rfl) : PG X (.Subscript o i pos) (gSub to ti t) := by
  intro pins s σ H v u Q I r h
  rw [ha]
  refine wpAny_bind (wpAny_holding (thn (ho pins s σ H _ I h) fun ov s1 ⟨x, H1, I1, r1, q1⟩ => ?_))
  refine wpAny_bind (wpAny_holding (thn (hi pins s1 σ H1 _ I1 q1) fun iv s2 ⟨y, H2, I2, r2, q2⟩ => ?_))
  refine wpAny_bind (wpAny_standAt (wpAny_bind (wpAny_holding (thn (hs pins s2 σ H2 x y v ov iv u _ I2 r1 r2 r q2) fun _ s3 ⟨H3, I3, q3⟩ => ?_))))
  exact wpAny_release ⟨σ, H3, I3, q3⟩
/-- target = value -/
def tAsg (te : TE) (g : TG) : TS := fun D σ H => te σ H fun x H1 => g x σ H1 D.nx
theorem ps_asg {tg e : Expr} {te : TE} {g : TG} (he : PE X e te) (hg : PG X tg g) (hs : swapsWithSole [tg] e pos.line X.env = pure false := by rfl) (hw : swappedStores [tg] e X.env = pure none := by rfl)
    (h1 : (assignEach [tg] X.env).map (·.2) = [assign tg X.env] := by rfl) : PS X (.Assign [tg] e pos) (tAsg te g) := by
  intro pins s σ H D I h
  refine wpAny_Assign_stores (thn (he pins s σ H _ I h) fun v s1 ⟨x, H1, I1, r1, q1⟩ => ?_) hs hw
  rw [h1]
  exact thn (hg pins s1 σ H1 x v _ I1 r1 q1) fun _ s2 q => q
/-- name = value -/
theorem ps_set {i : Nat} {x : Str} {e : Expr} {te : TE} {pos' : Pos} (hN : X.N.Nodup) (hi : X.N[i]? = some x) (hx : Loc X.env.scope x) (he : PE X e te) (hs : swapsWith e (some (.Name x pos')) pos.line X.env = pure false := by rfl) (hf : X.fn x = true ∨ X.env.scope.names.lookup x = some .local := by first | exact .inl rfl | exact .inr rfl | assumption) :
    PS X (.Assign [.Name x pos'] e pos) (tAsg te (gName i)) := by
  intro pins s σ H D I h
  refine wpAny_Assign_Name (thn (he pins s σ H _ I h) fun v s1 ⟨y, H1, I1, r1, q1⟩ => ?_) hs
  exact store_ok I1 hN hi hx r1 (fun s2 I2 => ⟨_, H1, I2, q1⟩) hf
/-- name op= e -/
def tAug (i : Nat) (te : TE) (ti : TIp) : TS := fun D σ H => ∃ x, σ[i]? = some (some x) ∧ te σ H fun y H1 => ti x y H1 fun z H2 => D.nx (σ.set i (some z)) H2
theorem ps_aug {i : Nat} {x : Str} {e : Expr} {te : TE} {op : Operator} {ti : TIp} {pos' : Pos} (hN : X.N.Nodup) (hi : X.N[i]? = some x) (hx : Loc X.env.scope x) (he : PE X e te) (ho : PIp X op ti) (hf : X.fn x = true ∨ X.env.scope.names.lookup x = some .local := by first | exact .inl rfl | exact .inr rfl | assumption) :
    PS X (.AugAssign (.Name x pos') op e pos) (tAug i te ti) := by
  intro pins s σ H D I h
  obtain ⟨v, e1, h⟩ := h
  obtain ⟨m, hn, hl⟩ := I.loc
  have vis : Vis X.env.scope x := by rcases hx with k | k; exact .inl k; exact .inr (.inl k)
  obtain ⟨u, r, l⟩ := hl i x v hi e1 vis
  refine wpAny_AugAssign_Name ?_
  have go : wpAny (model X.prog X.w) X.A (eval e X.env) (fun w s₂ => wpAny (model X.prog X.w) X.A (inplaceOp op u w) (fun r s₃ => wpAny (model X.prog X.w) X.A (storeName X.env x r) (fun _ => SP X pins D .next) X.xe s₃) X.xe s₂) X.xe s := by
    refine thn (he pins s σ H _ I h) fun w s1 ⟨y, H1, I1, r1, q1⟩ => ?_
    refine thn (ho pins s1 σ H1 v y u w _ I1 r r1 q1) fun z s2 ⟨zv, H2, I2, r2, q2⟩ => ?_
    exact store_ok I2 hN hi hx r2 (fun s3 I3 => ⟨_, H2, I3, q2⟩) hf
  rcases l with ⟨hk, hm⟩ | ⟨hk, c, hc, hcell⟩
  · exact wpAny_loadName_local I.ok.kind hk hn hm go
  · rcases hk with hk | hk
    · exact wpAny_loadName_cell I.ok.kind hk hc hcell go
    · rcases hx with k | k
      · have : X.env.scope.names.lookup x = some .free := hk
        rw [k] at this; cases this
      · have : X.env.scope.names.lookup x = some .free := hk
        rw [k] at this; cases this
end

/-! ### while -/
section
variable {X : Cx} {pos : Pos}
/-- the invariant W with its measure -/
def tWhile (c : TT) (tb : TS) : TS := fun D σ H => ∃ W : Nat → St → Hp → Prop, (∃ m, W m σ H) ∧ ∀ m σ H, W m σ H →
  c σ H fun b H1 => if b = true then ∃ N : St → Hp → Prop, (∀ σ' H', N σ' H' → ∃ m', m' < m ∧ W m' σ' H') ∧ tb { D with nx := N, ct := N, bk := D.nx } σ H1 else D.nx σ H1
theorem ps_while {c : Expr} {body : List Stmt} {tc : TT} {tb : TS} (hp : PassesOwn (model X.prog X.w) X.A X.env X.xe) (hc : PT X c tc) (hb : PSs X body tb) : PS X (.While c body [] pos) (tWhile tc tb) := by
  intro pins s σ H D I h
  obtain ⟨W, ⟨m0, w0⟩, turn⟩ := h
  refine wpAny_While (codeAny_whileLoop (fun n s' => ∃ σ' H', Inv X pins σ' H' s' ∧ W n σ' H') ?_ m0 ⟨σ, H, I, w0⟩)
  rintro n s1 ⟨σ1, H1, I1, w1⟩
  refine wpAny_passesOwn hp (thn (hc pins s1 σ1 H1 _ I1 (turn n σ1 H1 w1)) fun b s2 ⟨H2, I2, q2⟩ => ?_)
  cases b with
  | true =>
    obtain ⟨N, hN, q2⟩ := q2
    rw [if_pos rfl]
    refine wpAny_passesOwn hp (thn (hb pins s2 σ1 H2 _ I2 q2) fun f s3 q3 => ?_)
    cases f with
    | next =>
      obtain ⟨σ3, H3, I3, n3⟩ := q3
      obtain ⟨m', hm, w3⟩ := hN σ3 H3 n3
      exact ⟨m', hm, σ3, H3, I3, w3⟩
    | cont =>
      obtain ⟨σ3, H3, I3, n3⟩ := q3
      obtain ⟨m', hm, w3⟩ := hN σ3 H3 n3
      exact ⟨m', hm, σ3, H3, I3, w3⟩
    | brk => exact q3
    | ret v => exact q3
  | false =>
    rw [if_neg Bool.false_ne_true]
    exact wpAny_execs_nil ⟨σ1, H2, I2, q2⟩
end

/-! ### what a loop or a comprehension walks -/
/-- at turn i: it yields x (the heap may grow), or it stops -/
structure It where
  go : Nat → Hp → Prop
  yld : Nat → Hp → V → Hp → Prop
  stop : Nat → Hp → Prop
/-- the iterator's own objects may turn: they are not the frame's, not pinned, younger than the entry (or a comprehension's own) -/
def FpOk (X : Cx) (pins : List (Addr × Obj)) (H : Hp) (b : Addr) : Prop :=
  H b = none ∧ b ≠ X.env.locals ∧ b ∉ X.fs ∧ (b ∈ X.ex ∨ X.s_0.heap.objs.size ≤ b) ∧ (∀ x c, X.env.cells.lookup x = some c → c ≠ b) ∧ ∀ p ∈ X.pn ++ pins, p.1 ≠ b
theorem Inv.fpOk {X : Cx} {pins : List (Addr × Obj)} {σ : St} {H H' : Hp} {s : Shared} {b : Addr} (I : Inv X pins σ H s) (hb : s.heap.objs.size ≤ b) (hn : H' b = none) : FpOk X pins H' b := by
  refine ⟨hn, Nat.ne_of_gt (Nat.lt_of_lt_of_le I.lt hb), I.nofs hb, .inr (Nat.le_trans I.sz hb), fun x c e z => ?_, fun p hp z => ?_⟩
  · obtain ⟨v, q⟩ := I.cell x c e
    exact absurd (Nat.lt_of_lt_of_le q.lt (by rw [z]; exact hb)) (Nat.lt_irrefl _)
  · exact absurd (Nat.lt_of_lt_of_le (Heap.lt_size (I.pin p hp).1) (by rw [z]; exact hb)) (Nat.lt_irrefl _)
structure Turn (P : Program) (w : World) (K : PySem.W.Frag) (tg : Expr) (J : It) (fp : List Addr) (it : Addr) (tn : Nat → Heap → Prop) : Prop where
  mem : it ∈ fp
  obj : ∀ i h, tn i h → ∀ b ∈ fp, ∃ o, h.get? b = some o ∧ ∀ v, o.data ≠ .cell v
  keep : ∀ i h h', tn i h → (∀ b ∈ fp, ∀ o, h.get? b = some o → h'.get? b = some o) → tn i h'
  item : ∀ (X : Cx), X.prog = P → X.w = w → X.K = K → X.calm = true → ∀ (i : Nat) (pins : List (Addr × Obj)) (s : Shared) (σ : St) (H : Hp) (E : Value → Shared → Prop), Inv X pins σ H s → (∀ b ∈ fp, FpOk X pins H b) → tn i s.heap → J.go i H →
    wpAny (model P w) X.A (pyNext (.ref it)) (fun r s1 => ∃ u, r = some u ∧
      wpAny (model P w) X.A (letOwnedTupleGo tg (.ref it) u) (fun _ s2 => ∃ x H', Inv X pins σ H' s2 ∧ RelV x u ∧ J.yld i H x H' ∧ tn (i + 1) s2.heap ∧ ∀ b ∈ fp, H' b = none) E s1) E s
  done : ∀ (X : Cx), X.prog = P → X.w = w → X.K = K → X.calm = true → ∀ (i : Nat) (pins : List (Addr × Obj)) (s : Shared) (σ : St) (H : Hp) (E : Value → Shared → Prop), Inv X pins σ H s → (∀ b ∈ fp, FpOk X pins H b) → tn i s.heap → J.stop i H →
    wpAny (model P w) X.A (pyNext (.ref it)) (fun r s1 => r = none ∧ Inv X pins σ H s1) E s
  self : ∀ (A : Around) (i : Nat) (s : Shared) (Q : Value → Shared → Prop) (E : Value → Shared → Prop), tn i s.heap → Q (.ref it) s → wpAny (model P w) A (pyIter (.ref it)) Q E s
abbrev TI := St → Hp → (It → Hp → Prop) → Prop
/-- an iterator has come -/
def PIE (X : Cx) (pins : List (Addr × Obj)) (σ : St) (tg : Expr) (R : It → Hp → Prop) (itv : Value) (s2 : Shared) : Prop :=
  ∃ (it : Addr) (fp : List Addr) (tn : Nat → Heap → Prop) (J : It) (H' : Hp), itv = .ref it ∧ Inv X pins σ H' s2 ∧ Turn X.prog X.w X.K tg J fp it tn ∧ tn 0 s2.heap ∧ (∀ b ∈ fp, FpOk X pins H' b) ∧ R J H'
def PI (X : Cx) (tg iter : Expr) (wi : TI) : Prop :=
  ∀ (pins : List (Addr × Obj)) (s : Shared) (σ : St) (H : Hp) (R : It → Hp → Prop), Inv X pins σ H s → wi σ H R →
    wpAny (model X.prog X.w) X.A (eval iter X.env) (fun v s1 => wpAny (model X.prog X.w) X.A (pyIter v) (PIE X pins σ tg R) X.xe s1) X.xe s

/-- the step ahead of the store is nothing for an iterator that keeps no tuple -/
theorem go_of {M : Model} {A : Around} {E : Value → Shared → Prop} {s : Shared} {tg : Expr} {it : Addr} {u : Value} {o : Obj} {n : String} {vs : Array Value} {Q : Unit → Shared → Prop} (ho : s.heap.get? it = some o) (hc : o.cls = .type n) (hd : o.data = .fields vs)
    (hn : ["enumerate", "zip", "dict_itemiterator", "dict_reverseitemiterator", "odict_iterator", "itertools.zip_longest", "itertools.pairwise"].contains n = false) (hQ : Q () s) : wpAny M A (letOwnedTupleGo tg (.ref it) u) Q E s := by
  unfold letOwnedTupleGo
  cases tg <;> first
    | exact wpAny_pure hQ
    | (cases u <;> first
        | exact wpAny_pure hQ
        | (refine wpAny_bind (wpAny_load ho ?_)
           rw [hc, hd]
           show wpAny M A (if (["enumerate", "zip", "dict_itemiterator", "dict_reverseitemiterator", "odict_iterator", "itertools.zip_longest", "itertools.pairwise"].contains n && vs[0]? == some (rawInt _)) = true then _ else _) Q E s
           rw [if_neg (by intro h; rw [hn, Bool.false_and] at h; cases h)]
           exact wpAny_pure hQ))

/-- the list at a, as it stands at each turn (a loop may append to it) -/
def Itl (K : PySem.W.Frag) (a : Addr) : It :=
  ⟨fun i H => ∃ xs x, SqL K H a xs ∧ xs[i]? = some x, fun i H x H' => H' = H ∧ ∀ xs, SqL K H a xs → xs[i]? = some x, fun i H => ∃ xs, SqL K H a xs ∧ xs.length ≤ i⟩
def Itt (K : PySem.W.Frag) (a : Addr) : It :=
  ⟨fun i H => ∃ xs x, SqT K H a xs ∧ xs[i]? = some x, fun i H x H' => H' = H ∧ ∀ xs, SqT K H a xs → xs[i]? = some x, fun i H => ∃ xs, SqT K H a xs ∧ xs.length ≤ i⟩
/-- lo, lo + 1, .. (n of them) -/
def Itr (lo : Int) (n : Nat) : It := ⟨fun i _ => i < n, fun i H x H' => H' = H ∧ x = .int (lo + i), fun i _ => n ≤ i⟩
theorem turn_list {P : Program} {w : World} {K : PySem.W.Frag} {tg : Expr} (a it : Addr) : Turn P w K tg (Itl K a) [it] it (fun i h => h.IsListIter it a i) where
  mem := by simp
  obj := fun i h st b hb => by
    have e : b = it := by simpa using hb
    subst e
    obtain ⟨o, e, c, d⟩ := st
    exact ⟨o, e, fun v z => by rw [d] at z; cases z⟩
  keep := fun i h h' st k => st.at fun o e => k it (by simp) o e
  item := by
    intro X hP hw hK hc i pins s σ H E I hf st hg
    subst hP hw hK
    obtain ⟨xs, x, hq, hx⟩ := hg
    obtain ⟨its, rv, p, hz⟩ := I.list hq
    obtain ⟨u, hu, ru⟩ := rv.get hx
    obtain ⟨f0, f1, f2, f3, f4, f5⟩ := hf it (by simp)
    refine wpAny_pyNext_list_item st p.isList (x := u) (by simpa using hu) fun h' st' sb => ?_
    have I1 : Inv X pins σ H { s with heap := h' } := I.turned (t' := s.toks) (fun b o hb e => (sb.2 b hb).trans e) f0 f1 f3 f4 f5
    obtain ⟨o, e, c, d⟩ := id st'
    exact ⟨u, rfl, go_of (s := { s with heap := h' }) e c d (by decide) ⟨x, H, I1, ru, ⟨rfl, fun ys hy => by rw [I.list_inj hy hq]; exact hx⟩, st', fun b hb => (hf b hb).1⟩⟩
  done := by
    intro X hP hw hK hc i pins s σ H E I hf st hg
    subst hP hw hK
    obtain ⟨xs, hq, hx⟩ := hg
    obtain ⟨its, rv, p, hz⟩ := I.list hq
    obtain ⟨f0, f1, f2, f3, f4, f5⟩ := hf it (by simp)
    have hl := rv.length
    exact wpAny_pyNext_list_end (I.ok.hd hc) st p.isList (by simp; omega) fun h' eb => ⟨rfl, I.turned (t' := s.toks) (fun b o hb e => eb b o hb e) f0 f1 f3 f4 f5⟩
  self := fun _ _ _ _ _ st h => wpAny_pyIter_listiter st h
theorem turn_tuple {P : Program} {w : World} {K : PySem.W.Frag} {tg : Expr} (a it : Addr) : Turn P w K tg (Itt K a) [it] it (fun i h => h.IsTupleIter it a i) where
  mem := by simp
  obj := fun i h st b hb => by
    have e : b = it := by simpa using hb
    subst e
    obtain ⟨o, e, c, d⟩ := st
    exact ⟨o, e, fun v z => by rw [d] at z; cases z⟩
  keep := fun i h h' st k => st.at fun o e => k it (by simp) o e
  item := by
    intro X hP hw hK hc i pins s σ H E I hf st hg
    subst hP hw hK
    obtain ⟨xs, x, hq, hx⟩ := hg
    obtain ⟨its, rv, p, hz⟩ := I.tuple hq
    obtain ⟨u, hu, ru⟩ := rv.get hx
    obtain ⟨f0, f1, f2, f3, f4, f5⟩ := hf it (by simp)
    refine wpAny_pyNext_tuple_item st (show s.heap.IsTuple a its.toArray from p) (x := u) (by simpa using hu) fun h' st' sb => ?_
    have I1 : Inv X pins σ H { s with heap := h' } := I.turned (t' := s.toks) (fun b o hb e => (sb.2 b hb).trans e) f0 f1 f3 f4 f5
    obtain ⟨o, e, c, d⟩ := id st'
    exact ⟨u, rfl, go_of (s := { s with heap := h' }) e c d (by decide) ⟨x, H, I1, ru, ⟨rfl, fun ys hy => by rw [I.tuple_inj hy hq]; exact hx⟩, st', fun b hb => (hf b hb).1⟩⟩
  done := by
    intro X hP hw hK hc i pins s σ H E I hf st hg
    subst hP hw hK
    obtain ⟨xs, hq, hx⟩ := hg
    obtain ⟨its, rv, p, hz⟩ := I.tuple hq
    obtain ⟨f0, f1, f2, f3, f4, f5⟩ := hf it (by simp)
    have hl := rv.length
    exact wpAny_pyNext_tuple_end (I.ok.hd hc) st (show s.heap.IsTuple a its.toArray from p) (by simp; omega) fun h' eb => ⟨rfl, I.turned (t' := s.toks) (fun b o hb e => eb b o hb e) f0 f1 f3 f4 f5⟩
  self := fun _ _ _ _ _ st h => wpAny_pyIter_tupleiter st h
theorem turn_range {P : Program} {w : World} {K : PySem.W.Frag} {tg : Expr} (it : Addr) (lo : Int) (n : Nat) : Turn P w K tg (Itr lo n) [it] it (fun i h => IsRangeIter h it (lo + (i : Nat) * 1) ((n : Int) - (i : Nat)) 1) where
  mem := by simp
  obj := fun i h st b hb => by
    have e : b = it := by simpa using hb
    subst e
    exact ⟨_, st, fun v z => by
      have z' : Data.fields _ = Data.cell v := z
      cases z'⟩
  keep := fun i h h' st k => k it (by simp) _ st
  item := by
    intro X hP hw hK hc i pins s σ H E I hf st hg
    subst hP hw hK
    obtain ⟨f0, f1, f2, f3, f4, f5⟩ := hf it (by simp)
    have W := Walks.range (prog := X.prog) (w := X.w) (I.ok.hd hc) it lo 1 n
    refine W.item i s _ _ hg st fun v h' tk hv st' kk => ?_
    obtain ⟨t, rfl⟩ := hv
    have I1 : Inv X pins σ H { s with heap := h', toks := tk } := I.turned (fun b o hb e => kk b o (by simpa using hb) e) f0 f1 f3 f4 f5
    refine ⟨_, rfl, go_of (s := { s with heap := h', toks := tk }) (n := "range_iterator") st' rfl rfl (by decide) ⟨.int (lo + i), H, I1, ⟨t, ?_⟩, ⟨rfl, rfl⟩, st', fun b hb => (hf b hb).1⟩⟩
    rw [Int.mul_one]
  done := by
    intro X hP hw hK hc i pins s σ H E I hf st hg
    subst hP hw hK
    obtain ⟨f0, f1, f2, f3, f4, f5⟩ := hf it (by simp)
    exact wpAny_pyNext_range_end (I.ok.hd hc) st (by have : n ≤ i := hg; omega) fun h' eb => ⟨rfl, I.turned (t' := s.toks) (fun b o hb e => eb b o hb e) f0 f1 f3 f4 f5⟩
  self := fun _ _ _ _ _ st h => wpAny_pyIter_rangeiter st h
end L2

namespace L2
open PySem PySem.Spec PyProof.Rows
section
variable {X : Cx} {tg : Expr}
def iList (K : PySem.W.Frag) (tl : TE) : TI := fun σ H R => tl σ H fun x H1 => ∃ a, x = .ref a ∧ (∃ xs, SqL K H1 a xs) ∧ R (Itl K a) H1
def iTup (K : PySem.W.Frag) (tl : TE) : TI := fun σ H R => tl σ H fun x H1 => ∃ a, x = .ref a ∧ (∃ xs, SqT K H1 a xs) ∧ R (Itt K a) H1
theorem pi_list {l : Expr} {tl : TE} (hl : PE X l tl) : PI X tg l (iList X.K tl) := by
  intro pins s σ H R I h
  refine thn (hl pins s σ H _ I h) fun v s1 ⟨x, H1, I1, r1, q1⟩ => ?_
  obtain ⟨a, e, ⟨xs, hq⟩, q⟩ := q1
  subst e
  cases r1
  obtain ⟨its, rv, p, hz⟩ := I1.list hq
  refine wpAny_pyIter_list p.isList ?_
  refine ⟨s1.heap.objs.size, [s1.heap.objs.size], _, _, H1, rfl, I1.kept (t' := s1.toks) fun b o e => Heap.get?_push_of_some _ e, turn_list a _, ⟨_, Heap.get?_push_size _ rfl, rfl, rfl⟩, fun b hb => ?_, q⟩
  have e : b = s1.heap.objs.size := by simpa using hb
  subst e
  exact I1.fpOk (Nat.le_refl _) (I1.hok.fresh (Nat.le_refl _))
theorem pi_tup {l : Expr} {tl : TE} (hl : PE X l tl) : PI X tg l (iTup X.K tl) := by
  intro pins s σ H R I h
  refine thn (hl pins s σ H _ I h) fun v s1 ⟨x, H1, I1, r1, q1⟩ => ?_
  obtain ⟨a, e, ⟨xs, hq⟩, q⟩ := q1
  subst e
  cases r1
  obtain ⟨its, rv, p, hz⟩ := I1.tuple hq
  refine wpAny_pyIter_tuple (show s1.heap.IsTuple a its.toArray from p) ?_
  refine ⟨s1.heap.objs.size, [s1.heap.objs.size], _, _, H1, rfl, I1.kept (t' := s1.toks) fun b o e => Heap.get?_push_of_some _ e, turn_tuple a _, ⟨_, Heap.get?_push_size _ rfl, rfl, rfl⟩, fun b hb => ?_, q⟩
  have e : b = s1.heap.objs.size := by simpa using hb
  subst e
  exact I1.fpOk (Nat.le_refl _) (I1.hok.fresh (Nat.le_refl _))
/-- a range object just made, walked -/
theorem range_it {pins : List (Addr × Obj)} {σ : St} {H : Hp} {s : Shared} {R : It → Hp → Prop} {E : Value → Shared → Prop} {lo hi : Int} {t u v : Tok} {tk : Nat} (I : Inv X pins σ H s) (h1 : -(2 ^ 62) ≤ lo) (h2 : lo < 2 ^ 62) (h3 : -(2 ^ 62) ≤ hi) (h4 : hi < 2 ^ 62)
    (q : R (Itr lo (hi - lo).toNat) H) : wpAny (model X.prog X.w) X.A (pyIter (.ref s.heap.objs.size)) (PIE X pins σ tg R) E { s with heap := s.heap.push { cls := .type "range", data := .fields #[.int lo t, .int hi u, .int 1 v] }, toks := tk } := by
  refine wpAny_pyIter_range (IsRange.new ..) (small_one h1 h2 h3 h4) ?_
  have I1 : Inv X pins σ H { s with heap := s.heap.push { cls := .type "range", data := .fields #[.int lo t, .int hi u, .int 1 v] }, toks := tk } := I.kept fun b o e => Heap.get?_push_of_some _ e
  refine ⟨(s.heap.push { cls := .type "range", data := .fields #[.int lo t, .int hi u, .int 1 v] }).objs.size, [(s.heap.push { cls := .type "range", data := .fields #[.int lo t, .int hi u, .int 1 v] }).objs.size], _, _, H, rfl,
    I1.kept (t' := tk) fun b o e => Heap.get?_push_of_some _ e, turn_range _ lo (hi - lo).toNat, ?_, fun b hb => ?_, q⟩
  · have e1 : lo + ((0 : Nat) : Int) * 1 = lo := by simp
    have e2 : (((hi - lo).toNat : Nat) : Int) - ((0 : Nat) : Int) = Builtin.Range.rangeSize lo hi 1 := by rw [rangeSize_one]; split <;> omega
    show IsRangeIter _ _ (lo + ((0 : Nat) : Int) * 1) ((((hi - lo).toNat : Nat) : Int) - ((0 : Nat) : Int)) 1
    rw [e1, e2]
    exact Heap.get?_push_size _ rfl
  · have e : b = (s.heap.push { cls := .type "range", data := .fields #[.int lo t, .int hi u, .int 1 v] }).objs.size := by simpa using hb
    subst e
    exact I1.fpOk (Nat.le_refl _) (I1.hok.fresh (Nat.le_refl _))
def iRng1 (ta : TA) : TI := fun σ H R => ta σ H fun vs H1 => ∃ j : Int, vs = [.int j] ∧ -(2 ^ 62) ≤ j ∧ j < 2 ^ 62 ∧ R (Itr 0 j.toNat) H1
theorem pi_range1 {a : Expr} {ta : TA} {p pos : Pos} (hg : Gl X "range") (hm : X.mg "range" = none) (ha : PA X [a] ta) (hs : starEach [a] X.env = [(false, eval a X.env)] := by rfl) : PI X tg (.Call (.Name "range" p) [a] [] pos) (iRng1 ta) := by
  intro pins s σ H R I h
  refine Call_ (ld_blt I hg hm boot_range (PyProof.Rows.callWith_type1 (thn (ha pos pins s σ H _ I h) fun us s1 ⟨vs, H1, I1, r1, q1⟩ => ?_) hs rfl))
  obtain ⟨j, e, q1, q2, q⟩ := q1
  subst e
  cases r1 with
  | cons r rr =>
    cases rr
    obtain ⟨t, rfl⟩ := r
    exact call_range_1 (range_it I1 (by omega) (by omega) q1 q2 (by simpa using q))
/-! ### for -/
/-- W: the invariant by the turn and a measure; N: what the body is to reach -/
def tFor (wi : TI) (g : TG) (tb : TS) : TS := fun D σ H => wi σ H fun J H1 => ∃ W : Nat → Nat → St → Hp → Prop, (∃ m, W 0 m σ H1) ∧ ∀ i m σ H, W i m σ H →
  (J.stop i H ∧ D.nx σ H) ∨ (J.go i H ∧ ∃ N : St → Hp → Prop, (∀ σ' H', N σ' H' → ∃ m', m' < m ∧ W (i + 1) m' σ' H') ∧ ∀ x H', J.yld i H x H' → g x σ H' fun σ2 H2 => tb { D with nx := N, ct := N, bk := D.nx } σ2 H2)
/-- the records at fp as they stand -/
def pinsAt (fp : List Addr) (h : Heap) : List (Addr × Obj) := fp.filterMap fun b => (h.get? b).map fun o => (b, o)
theorem mem_pinsAt {fp : List Addr} {h : Heap} {b : Addr} {o : Obj} (hb : b ∈ fp) (e : h.get? b = some o) : (b, o) ∈ pinsAt fp h := List.mem_filterMap.mpr ⟨b, hb, by rw [e]; rfl⟩
theorem of_pinsAt {fp : List Addr} {h : Heap} {p : Addr × Obj} (hp : p ∈ pinsAt fp h) : p.1 ∈ fp ∧ h.get? p.1 = some p.2 := by
  obtain ⟨b, hb, e⟩ := List.mem_filterMap.mp hp
  cases q : h.get? b with
  | none => rw [q] at e; cases e
  | some o =>
    rw [q] at e
    have e' : (b, o) = p := Option.some.inj e
    subst e'
    exact ⟨hb, q⟩
theorem Inv.pinned {pins : List (Addr × Obj)} {σ : St} {H : Hp} {s : Shared} {fp : List Addr} (I : Inv X pins σ H s) (hf : ∀ b ∈ fp, FpOk X pins H b) (ho : ∀ b ∈ fp, ∃ o, s.heap.get? b = some o ∧ ∀ v, o.data ≠ .cell v) : Inv X (pins ++ pinsAt fp s.heap) σ H s :=
  I.pins_of fun p hp => (List.mem_append.mp hp).elim (fun z => I.pin p (List.mem_append_right _ z)) fun z => by
    obtain ⟨hb, e⟩ := of_pinsAt z
    obtain ⟨f0, f1, f2, _⟩ := hf p.1 hb
    obtain ⟨o, e', d⟩ := ho p.1 hb
    rw [e] at e'; cases e'
    exact ⟨e, f0, f1, f2, d⟩
theorem Inv.unpinned {pins pl : List (Addr × Obj)} {σ : St} {H : Hp} {s : Shared} (I : Inv X (pins ++ pl) σ H s) : Inv X pins σ H s := I.pins_of fun p hp => I.pin p (List.mem_append_right _ (List.mem_append_left _ hp))
theorem ps_for {iter : Expr} {body : List Stmt} {wi : TI} {g : TG} {tb : TS} {pos : Pos} (hp : PassesOwn (model X.prog X.w) X.A X.env X.xe) (hc : X.calm = true) (hi : PI X tg iter wi) (hg : PG X tg g) (hb : PSs X body tb)
    (hs : ∀ x, foldedSetIterable iter X.env x = pure x := by intro _; rfl) : PS X (.For tg iter body [] pos) (tFor wi g tb) := by
  intro pins s σ H D I h
  refine wpAny_For (thn (hi pins s σ H _ I h) fun v s1 h1 => thn h1 fun itv s2 h2 => ?_) hs
  obtain ⟨it, fp, tn, J, H2, e, I2, T, st2, f2, W, ⟨m0, w0⟩, turn⟩ := h2
  subst e
  -- what stays true of the iterator's objects through the loop
  have stat : ∀ {H' : Hp}, (∀ b ∈ fp, H' b = none) → ∀ b ∈ fp, FpOk X pins H' b := fun hn b hb => ⟨hn b hb, (f2 b hb).2⟩
  refine codeAny_forLoop_any (fun n s' => ∃ i σ' H', Inv X pins σ' H' s' ∧ tn i s'.heap ∧ (∀ b ∈ fp, H' b = none) ∧ W i n σ' H') ?_ m0 ⟨0, σ, H2, I2, st2, fun b hb => (f2 b hb).1, w0⟩
  rintro n s3 ⟨i, σ3, H3, I3, st3, fr3, w3⟩
  rcases turn i n σ3 H3 w3 with ⟨stop, qn⟩ | ⟨go, N, hN, step⟩
  · refine wpAny_passesOwn hp (thn (T.done X rfl rfl rfl hc i pins s3 σ3 H3 X.xe I3 (stat fr3) st3 stop) fun r s4 ⟨hr, I4⟩ => ?_)
    subst hr
    exact wpAny_execs_nil ⟨σ3, H3, I4, qn⟩
  · refine wpAny_passesOwn hp (thn (T.item X rfl rfl rfl hc i pins s3 σ3 H3 X.xe I3 (stat fr3) st3 go) fun r s4 ⟨u, hr, h4⟩ => ?_)
    subst hr
    refine wpAny_passesOwn hp (thn h4 fun _ s5 ⟨x, H5, I5, r5, y5, st5, fr5⟩ => ?_)
    have I5' := I5.pinned (stat fr5) (T.obj _ _ st5)
    refine wpAny_passesOwn hp (thn (hg _ s5 σ3 H5 x u _ I5' r5 (step x H5 y5)) fun _ s6 ⟨σ6, H6, I6, q6⟩ => ?_)
    refine wpAny_passesOwn hp (thn (hb _ s6 σ6 H6 _ I6 q6) fun f s7 q7 => ?_)
    have again : ∀ {σ7 : St} {H7 : Hp}, Inv X (pins ++ pinsAt fp s5.heap) σ7 H7 s7 → N σ7 H7 → ∃ m, m < n ∧ ∃ i σ' H', Inv X pins σ' H' s7 ∧ tn i s7.heap ∧ (∀ b ∈ fp, H' b = none) ∧ W i m σ' H' := fun {σ7 H7} I7 n7 => by
      obtain ⟨m', hm, w7⟩ := hN σ7 H7 n7
      refine ⟨m', hm, i + 1, σ7, H7, I7.unpinned, T.keep _ _ _ st5 fun b hb o e => (I7.pin (b, o) (List.mem_append_right _ (List.mem_append_right _ (mem_pinsAt hb e)))).1, fun b hb => ?_, w7⟩
      obtain ⟨o, e, d⟩ := T.obj _ _ st5 b hb
      exact (I7.pin (b, o) (List.mem_append_right _ (List.mem_append_right _ (mem_pinsAt hb e)))).2.1
    cases f with
    | next => obtain ⟨σ7, H7, I7, n7⟩ := q7; exact again I7 n7
    | cont => obtain ⟨σ7, H7, I7, n7⟩ := q7; exact again I7 n7
    | brk => obtain ⟨σ7, H7, I7, q7⟩ := q7; exact ⟨σ7, H7, I7.unpinned, q7⟩
    | ret v => obtain ⟨x7, σ7, H7, I7, r7, q7⟩ := q7; exact ⟨x7, σ7, H7, I7.unpinned, r7, q7⟩
end

/-! ### the forms one uses -/
/-- over a list that the body leaves as it is -/
theorem for_list {K : PySem.W.Frag} {a : Addr} {xs : List V} {g : TG} {tb : TS} {D : Ends} {σ : St} {H : Hp} (Pv : Nat → St → Hp → Prop) (h0 : Pv 0 σ H) (hl : ∀ i σ H, i ≤ xs.length → Pv i σ H → SqL K H a xs)
    (hs : ∀ i x σ H, xs[i]? = some x → Pv i σ H → g x σ H fun σ2 H2 => tb { D with nx := Pv (i + 1), ct := Pv (i + 1), bk := D.nx } σ2 H2) (hd : ∀ σ H, Pv xs.length σ H → D.nx σ H) :
    ∃ W : Nat → Nat → St → Hp → Prop, (∃ m, W 0 m σ H) ∧ ∀ i m σ H, W i m σ H →
      ((Itl K a).stop i H ∧ D.nx σ H) ∨ ((Itl K a).go i H ∧ ∃ N : St → Hp → Prop, (∀ σ' H', N σ' H' → ∃ m', m' < m ∧ W (i + 1) m' σ' H') ∧ ∀ x H', (Itl K a).yld i H x H' → g x σ H' fun σ2 H2 => tb { D with nx := N, ct := N, bk := D.nx } σ2 H2) := by
  refine ⟨fun i m σ H => m = xs.length - i ∧ i ≤ xs.length ∧ Pv i σ H, ⟨xs.length, by simp, Nat.zero_le _, h0⟩, ?_⟩
  rintro i m σ H ⟨rfl, hi, p⟩
  have q := hl i σ H hi p
  by_cases hlt : i < xs.length
  · refine .inr ⟨⟨xs, xs[i], q, by simp [hlt]⟩, Pv (i + 1), fun σ' H' p' => ⟨xs.length - (i + 1), by omega, rfl, hlt, p'⟩, fun x H' y => ?_⟩
    obtain ⟨e, y⟩ := y
    subst e
    exact hs i x σ _ (y xs q) p
  · have e : i = xs.length := by omega
    subst e
    exact .inl ⟨⟨xs, q, Nat.le_refl _⟩, hd σ H p⟩
end L2

namespace L2
open PySem PySem.Spec PyProof.Rows

abbrev R2 := V → V → Hp → VK → Prop
/-- a two-place operation on values: f is binaryOp op, inplaceOp op or compareOp op -/
def OpR (X : Cx) (f : Value → Value → Sem Value) (r : R2) : Prop :=
  ∀ (pins : List (Addr × Obj)) (s : Shared) (σ : St) (H : Hp) (x y : V) (v u : Value) (Q : VK), Inv X pins σ H s → RelV x v → RelV y u → r x y H Q →
    wpAny (model X.prog X.w) X.A (f v u) (EP X pins σ Q) X.xe s
/-- a one-place operation -/
def UnR (X : Cx) (f : Value → Sem Value) (r : V → Hp → VK → Prop) : Prop :=
  ∀ (pins : List (Addr × Obj)) (s : Shared) (σ : St) (H : Hp) (x : V) (v : Value) (Q : VK), Inv X pins σ H s → RelV x v → r x H Q →
    wpAny (model X.prog X.w) X.A (f v) (EP X pins σ Q) X.xe s
/-- a call of a value that is known (a builtin, a type) with values -/
def CallR (X : Cx) (f : Value) (r : List V → Hp → VK → Prop) : Prop :=
  ∀ (pins : List (Addr × Obj)) (s : Shared) (σ : St) (H : Hp) (xs : List V) (us : List Value) (Q : VK), Inv X pins σ H s → Vals xs us → r xs H Q →
    wpAny (model X.prog X.w) X.A (call f us) (EP X pins σ Q) X.xe s
/-- a value's truth -/
def TruR (X : Cx) (r : V → Hp → (Bool → Hp → Prop) → Prop) : Prop :=
  ∀ (pins : List (Addr × Obj)) (s : Shared) (σ : St) (H : Hp) (x : V) (v : Value) (Q : Bool → Hp → Prop), Inv X pins σ H s → RelV x v → r x H Q →
    wpAny (model X.prog X.w) X.A (truthy v) (TP X pins σ Q) X.xe s

def tOp (r : R2) (ta tb : TE) : TE := fun σ H Q => ta σ H fun x H1 => tb σ H1 fun y H2 => r x y H2 Q
def tUn (r : V → Hp → VK → Prop) (ta : TE) : TE := fun σ H Q => ta σ H fun x H1 => r x H1 Q
/-- ints in, under C, and a value out -/
def rI (C : Int → Int → Prop) (g : Int → Int → V) : R2 := fun x y H Q => ∃ i j, x = .int i ∧ y = .int j ∧ C i j ∧ Q (g i j) H
def rI0 (g : Int → Int → V) : R2 := fun x y H Q => ∃ i j, x = .int i ∧ y = .int j ∧ Q (g i j) H
def rU (g : Int → V) : V → Hp → VK → Prop := fun x H Q => ∃ i, x = .int i ∧ Q (g i) H

section
variable {X : Cx} {a b c : Expr} {ta tb tc : TE} {pos : Pos}

theorem binT (ha : PE X a ta) (hb : PE X b tb) {pins : List (Addr × Obj)} {s : Shared} {σ : St} {H : Hp} {R : V → V → Hp → Prop} (I : Inv X pins σ H s)
    (h : ta σ H fun x H1 => tb σ H1 fun y H2 => R x y H2) {Q : Value → Shared → Prop} {f : Value → Value → Sem Value}
    (hf : ∀ v u s2 x y H2, Inv X pins σ H2 s2 → RelV x v → RelV y u → R x y H2 → wpAny (model X.prog X.w) X.A (f v u) Q X.xe s2) :
    wpAny (model X.prog X.w) X.A (eval a X.env) (fun v s₁ => wpAny (model X.prog X.w) X.A (eval b X.env) (fun u s₂ => wpAny (model X.prog X.w) X.A (f v u) Q X.xe s₂) X.xe s₁) X.xe s := by
  refine thn (ha pins s σ H _ I h) fun v s1 ⟨x, H1, I1, r1, q1⟩ => ?_
  refine thn (hb pins s1 σ H1 _ I1 q1) fun u s2 ⟨y, H2, I2, r2, q2⟩ => ?_
  exact hf v u s2 x y H2 I2 r1 r2 q2

theorem pe_op {op : Operator} {r : R2} (ho : OpR X (binaryOp op) r) (ha : PE X a ta) (hb : PE X b tb) : PE X (.BinOp a op b pos) (tOp r ta tb) := by
  intro pins s σ H Q I h
  exact wpAny_BinOp (binT ha hb I h fun v u s2 x y H2 I2 rx ry q => ho pins s2 σ H2 x y v u Q I2 rx ry q)
theorem pe_un {op : UnaryOp} {r : V → Hp → VK → Prop} (ho : UnR X (unaryOp op) r) (ha : PE X a ta) : PE X (.UnaryOp op a pos) (tUn r ta) := by
  intro pins s σ H Q I h
  exact UnaryOp_ (thn (ha pins s σ H _ I h) fun v s1 ⟨x, H1, I1, r1, q1⟩ => ho pins s1 σ H1 x v Q I1 r1 q1)
/-! ### ints -/
theorem opI {f : Value → Value → Sem Value} {C : Int → Int → Prop} {g : Int → Int → Int}
    (rule : ∀ (i j : Int) (t u : Tok) (s : Shared) (Q : Value → Shared → Prop) (E : Value → Shared → Prop), C i j → Q (.int (g i j) s.toks) { s with toks := s.toks + 1 } → wpAny (model X.prog X.w) X.A (f (.int i t) (.int j u)) Q E s) :
    OpR X f (rI C fun i j => .int (g i j)) := by
  intro pins s σ H x y v u Q I rx ry h
  obtain ⟨i, j, rfl, rfl, hc, q⟩ := h
  obtain ⟨t, rfl⟩ := rx
  obtain ⟨t', rfl⟩ := ry
  exact rule i j t t' s _ _ hc ⟨.int (g i j), H, I.tok _, ⟨_, rfl⟩, q⟩
theorem opI0 {f : Value → Value → Sem Value} {g : Int → Int → Int}
    (rule : ∀ (i j : Int) (t u : Tok) (s : Shared) (Q : Value → Shared → Prop) (E : Value → Shared → Prop), Q (.int (g i j) s.toks) { s with toks := s.toks + 1 } → wpAny (model X.prog X.w) X.A (f (.int i t) (.int j u)) Q E s) :
    OpR X f (rI0 fun i j => .int (g i j)) := by
  intro pins s σ H x y v u Q I rx ry h
  obtain ⟨i, j, rfl, rfl, q⟩ := h
  obtain ⟨t, rfl⟩ := rx
  obtain ⟨t', rfl⟩ := ry
  exact rule i j t t' s _ _ ⟨.int (g i j), H, I.tok _, ⟨_, rfl⟩, q⟩
theorem opB0 {f : Value → Value → Sem Value} {g : Int → Int → Bool}
    (rule : ∀ (i j : Int) (t u : Tok) (s : Shared) (Q : Value → Shared → Prop) (E : Value → Shared → Prop), Q (.bool (g i j)) s → wpAny (model X.prog X.w) X.A (f (.int i t) (.int j u)) Q E s) :
    OpR X f (rI0 fun i j => .bl (g i j)) := by
  intro pins s σ H x y v u Q I rx ry h
  obtain ⟨i, j, rfl, rfl, q⟩ := h
  obtain ⟨t, rfl⟩ := rx
  obtain ⟨t', rfl⟩ := ry
  exact rule i j t t' s _ _ ⟨.bl (g i j), H, I, rfl, q⟩

def CPow (i j : Int) : Prop := 0 ≤ j ∧ j ≤ 1000000 ∧ i.natAbs < 2 ^ 64
def CMul (i j : Int) : Prop := (-(2 ^ 64) < i ∧ i < 2 ^ 64) ∨ (-(2 ^ 64) < j ∧ j < 2 ^ 64)
theorem CMul.ok {i j : Int} (h : CMul i j) : IntMulOk i j := by
  rcases h with ⟨h1, h2⟩ | ⟨h1, h2⟩
  · exact .of_left (intBits_le_64 h1 h2)
  · exact .of_right (intBits_le_64 h1 h2)
theorem op_add : OpR X (binaryOp .Add) (rI0 fun i j => .int (i + j)) := opI0 fun _ _ _ _ _ _ _ q => add_int q
theorem op_sub : OpR X (binaryOp .Sub) (rI0 fun i j => .int (i - j)) := opI0 fun _ _ _ _ _ _ _ q => sub_int q
theorem op_mul : OpR X (binaryOp .Mult) (rI CMul fun i j => .int (i * j)) := opI fun _ _ _ _ _ _ _ hc q => mul_int q hc.ok
/-- % by a positive divisor of any size -/
theorem op_mod : OpR X (binaryOp .Mod) (rI (fun _ j => 0 < j) fun i j => .int (i % j)) := opI fun i j _ _ _ _ _ hc q => by
  have h1 : (0 : Int) < j := hc
  exact mod_int' (by omega) (by rw [Int.fmod_eq_emod_of_nonneg i (by omega)]; exact q)
theorem op_pow : OpR X (binaryOp .Pow) (rI CPow fun i j => .int (i ^ j.toNat)) := opI fun _ _ _ _ _ _ _ hc q => pow_int_small hc.1 hc.2.1 hc.2.2 q
theorem iop_add : OpR X (inplaceOp .Add) (rI0 fun i j => .int (i + j)) := opI0 fun _ _ _ _ _ _ _ q => iadd_int q
theorem unI {f : Value → Sem Value} {g : Int → Int}
    (rule : ∀ (i : Int) (t : Tok) (s : Shared) (Q : Value → Shared → Prop) (E : Value → Shared → Prop), Q (.int (g i) s.toks) { s with toks := s.toks + 1 } → wpAny (model X.prog X.w) X.A (f (.int i t)) Q E s) :
    UnR X f (rU fun i => .int (g i)) := by
  intro pins s σ H x v Q I rx h
  obtain ⟨i, rfl, q⟩ := h
  obtain ⟨t, rfl⟩ := rx
  exact rule i t s _ _ ⟨.int (g i), H, I.tok _, ⟨_, rfl⟩, q⟩
theorem un_neg : UnR X (unaryOp .USub) (rU fun i => .int (-i)) := unI fun _ _ _ _ _ q => neg_int q
/-! ### bools among ints: n += (a < b) -/
end

/-! ### comparisons -/
/-- the scalars that == tells apart as data does -/
def scal : V → V → Bool
  | .non, .non => true | .non, .int _ => true | .int _, .non => true | .non, .bl _ => true | .bl _, .non => true | .non, .str _ => true | .str _, .non => true
  | .int _, .int _ => true | .bl _, .bl _ => true | .str _, .str _ => true | .byt _, .byt _ => true
  | .int _, .str _ => true | .str _, .int _ => true | .bl _, .str _ => true | .str _, .bl _ => true
  | _, _ => false
def rEq : R2 := fun x y H Q => scal x y = true ∧ Q (.bl (decide (x = y))) H
def rNe : R2 := fun x y H Q => scal x y = true ∧ Q (.bl (!decide (x = y))) H

theorem dec_int {i j : Int} : decide (V.int i = V.int j) = (i == j) := by
  rw [Bool.eq_iff_iff]
  simp
theorem dec_bl {i j : Bool} : decide (V.bl i = V.bl j) = (i == j) := by
  rw [Bool.eq_iff_iff]
  simp
theorem dec_str {i j : Str} : decide (V.str i = V.str j) = (i == j) := by
  rw [Bool.eq_iff_iff]
  simp
theorem dec_byt {i j : Array UInt8} : decide (V.byt i = V.byt j) = (i.toList == j.toList) := by
  rw [Bool.eq_iff_iff]
  cases i
  cases j
  simp

section
variable {X : Cx} {a b c : Expr} {ta tb tc : TE} {pos : Pos}
theorem fin_bl {pins : List (Addr × Obj)} {σ : St} {H : Hp} {s : Shared} {Q : VK} {k k' : Bool} (I : Inv X pins σ H s) (q : Q (.bl k) H) (e : k = k') : EP X pins σ Q (.bool k') s := by
  subst e
  exact ⟨.bl k, H, I, rfl, q⟩
theorem op_eq : OpR X (compareOp .Eq) rEq := by
  intro pins s σ H x y v u Q I rx ry h
  obtain ⟨hs, q⟩ := h
  cases x with
  | non =>
    cases rx
    cases y with
    | non => cases ry; exact PySem.EqNone.eq_none_none (fin_bl I q (by simp))
    | bl j => cases ry; exact PySem.EqNone.eq_none_bool (fin_bl I q (by simp))
    | int j => obtain ⟨t', rfl⟩ := ry; exact PySem.EqNone.eq_none_int (fin_bl I q (by simp))
    | str j => obtain ⟨t', rfl⟩ := ry; exact PySem.EqNone.eq_none_str (fin_bl I q (by simp))
    | _ => exact absurd (show false = true from hs) Bool.false_ne_true
  | bl i =>
    cases rx
    cases y with
    | non => cases ry; exact PySem.EqNone.eq_bool_none (fin_bl I q (by simp))
    | bl j => cases ry; exact eq_bool (fin_bl I q dec_bl)
    | str j => obtain ⟨t', rfl⟩ := ry; exact PySem.EqMixed.eq_bool_str (fin_bl I q (by simp))
    | _ => exact absurd (show false = true from hs) Bool.false_ne_true
  | int i =>
    obtain ⟨t, rfl⟩ := rx
    cases y with
    | non => cases ry; exact PySem.EqNone.eq_int_none (fin_bl I q (by simp))
    | int j => obtain ⟨t', rfl⟩ := ry; exact eq_int (fin_bl I q dec_int)
    | str j => obtain ⟨t', rfl⟩ := ry; exact PySem.EqMixed.eq_int_str (fin_bl I q (by simp))
    | _ => exact absurd (show false = true from hs) Bool.false_ne_true
  | str i =>
    obtain ⟨t, rfl⟩ := rx
    cases y with
    | non => cases ry; exact PySem.EqNone.eq_str_none (fin_bl I q (by simp))
    | bl j => cases ry; exact PySem.EqMixed.eq_str_bool (fin_bl I q (by simp))
    | int j => obtain ⟨t', rfl⟩ := ry; exact PySem.EqMixed.eq_str_int (fin_bl I q (by simp))
    | str j => obtain ⟨t', rfl⟩ := ry; exact eq_str (fin_bl I q dec_str)
    | _ => exact absurd (show false = true from hs) Bool.false_ne_true
  | byt i =>
    obtain ⟨t, rfl⟩ := rx
    cases y with
    | byt j => obtain ⟨t', rfl⟩ := ry; exact PySem.W.eq_bytes (fin_bl I q dec_byt)
    | _ => exact absurd (show false = true from hs) Bool.false_ne_true
  | _ => cases y <;> exact absurd (show false = true from hs) Bool.false_ne_true
theorem op_ne : OpR X (compareOp .NotEq) rNe := by
  intro pins s σ H x y v u Q I rx ry h
  obtain ⟨hs, q⟩ := h
  cases x with
  | non =>
    cases rx
    cases y with
    | non => cases ry; exact PySem.EqNone.ne_none_none (fin_bl I q (by simp))
    | bl j => cases ry; exact PySem.EqNone.ne_none_bool (fin_bl I q (by simp))
    | int j => obtain ⟨t', rfl⟩ := ry; exact PySem.EqNone.ne_none_int (fin_bl I q (by simp))
    | str j => obtain ⟨t', rfl⟩ := ry; exact PySem.EqNone.ne_none_str (fin_bl I q (by simp))
    | _ => exact absurd (show false = true from hs) Bool.false_ne_true
  | bl i =>
    cases rx
    cases y with
    | non => cases ry; exact PySem.EqNone.ne_bool_none (fin_bl I q (by simp))
    | bl j => cases ry; exact ne_bool (fin_bl I q (congrArg not dec_bl))
    | str j => obtain ⟨t', rfl⟩ := ry; exact PySem.EqMixed.ne_bool_str (fin_bl I q (by simp))
    | _ => exact absurd (show false = true from hs) Bool.false_ne_true
  | int i =>
    obtain ⟨t, rfl⟩ := rx
    cases y with
    | non => cases ry; exact PySem.EqNone.ne_int_none (fin_bl I q (by simp))
    | int j => obtain ⟨t', rfl⟩ := ry; exact ne_int (fin_bl I q (congrArg not dec_int))
    | str j => obtain ⟨t', rfl⟩ := ry; exact PySem.EqMixed.ne_int_str (fin_bl I q (by simp))
    | _ => exact absurd (show false = true from hs) Bool.false_ne_true
  | str i =>
    obtain ⟨t, rfl⟩ := rx
    cases y with
    | non => cases ry; exact PySem.EqNone.ne_str_none (fin_bl I q (by simp))
    | bl j => cases ry; exact PySem.EqMixed.ne_str_bool (fin_bl I q (by simp))
    | int j => obtain ⟨t', rfl⟩ := ry; exact PySem.EqMixed.ne_str_int (fin_bl I q (by simp))
    | str j => obtain ⟨t', rfl⟩ := ry; exact ne_str (fin_bl I q (congrArg not dec_str))
    | _ => exact absurd (show false = true from hs) Bool.false_ne_true
  | byt i =>
    obtain ⟨t, rfl⟩ := rx
    cases y with
    | byt j => obtain ⟨t', rfl⟩ := ry; exact PySem.W.ne_bytes (fin_bl I q (congrArg not dec_byt))
    | _ => exact absurd (show false = true from hs) Bool.false_ne_true
  | _ => cases y <;> exact absurd (show false = true from hs) Bool.false_ne_true

theorem op_lt : OpR X (compareOp .Lt) (rI0 fun i j => .bl (decide (i < j))) := opB0 fun _ _ _ _ _ _ _ q => lt_int q
theorem op_le : OpR X (compareOp .LtE) (rI0 fun i j => .bl (decide (i ≤ j))) := opB0 fun _ _ _ _ _ _ _ q => le_int q
theorem op_gt : OpR X (compareOp .Gt) (rI0 fun i j => .bl (decide (j < i))) := opB0 fun _ _ _ _ _ _ _ q => gt_int q
theorem op_ge : OpR X (compareOp .GtE) (rI0 fun i j => .bl (decide (j ≤ i))) := opB0 fun _ _ _ _ _ _ _ q => ge_int q
/-- two rules for one operation: by cases -/
theorem OpR.or {f : Value → Value → Sem Value} {r r' : R2} (h : OpR X f r) (h' : OpR X f r') : OpR X f (fun x y H Q => r x y H Q ∨ r' x y H Q) := by
  intro pins s σ H x y v u Q I rx ry q
  rcases q with q | q
  · exact h pins s σ H x y v u Q I rx ry q
  · exact h' pins s σ H x y v u Q I rx ry q

theorem nomark (b : Expr) {op : CmpOp} (h : op ≠ .In := by decide) (h2 : op ≠ .NotIn := by decide) : behindInMarks op b = false := by
  have e1 : (op == CmpOp.In) = false := by cases op <;> first | rfl | exact absurd rfl h
  have e2 : (op == CmpOp.NotIn) = false := by cases op <;> first | rfl | exact absurd rfl h2
  cases b <;> simp [behindInMarks, e1, e2]
/-- a comparison as a value; hm: nomark b, or (for in, not in) by with_unfolding_all rfl -/
theorem pe_cmpR {op : CmpOp} {r : R2} (ho : OpR X (compareOp op) r) (ha : PE X a ta) (hb : PE X b tb) (hm : behindInMarks op b = false) : PE X (.Compare a [op] [b] pos) (tOp r ta tb) := by
  intro pins s σ H Q I h
  exact wpAny_Compare1 (binT ha hb I h fun v u s2 x y H2 I2 rx ry q => ho pins s2 σ H2 x y v u Q I2 rx ry q) hm
/-- a reading of a value as a test -/
def tTest (t : TE) : TT := fun σ H Q => t σ H fun x H' => ∃ k, x = .bl k ∧ Q k H'
theorem pt_cmpR {op : CmpOp} {r : R2} (ho : OpR X (compareOp op) r) (ha : PE X a ta) (hb : PE X b tb) (hm : behindInMarks op b = false) : PT X (.Compare a [op] [b] pos) (tTest (tOp r ta tb)) := by
  intro pins s σ H Q I h
  refine wpAny_isTrue_Compare1 (thn (ha pins s σ H _ I h) fun v s1 ⟨x, H1, I1, r1, q1⟩ => thn (hb pins s1 σ H1 _ I1 q1) fun u s2 ⟨y, H2, I2, r2, q2⟩ =>
    thn (ho pins s2 σ H2 x y v u _ I2 r1 r2 q2) fun c s3 ⟨z, H3, I3, r3, k, e, q3⟩ => ?_) hm
  subst e
  cases r3
  exact wpAny_truthy_bool ⟨H3, I3, q3⟩
/-- a op1 b op2 c -/
def tChain (r r' : R2) (ta tb tc : TE) : TE := fun σ H Q => ta σ H fun x H1 => tb σ H1 fun y H2 => r x y H2 fun z H3 => ∃ k, z = .bl k ∧
  (if k = true then tc σ H3 fun w' H4 => r' y w' H4 Q else Q (.bl false) H3)
theorem pe_chain {op op' : CmpOp} {r r' : R2} (ho : OpR X (compareOp op) r) (ho' : OpR X (compareOp op') r') (ha : PE X a ta) (hb : PE X b tb) (hc : PE X c tc)
    (hm : lastMarks [op, op'] [b, c] = false := by with_unfolding_all rfl) : PE X (.Compare a [op, op'] [b, c] pos) (tChain r r' ta tb tc) := by
  intro pins s σ H Q I h
  refine Compare_chain (thn (ha pins s σ H _ I h) fun v s1 ⟨x, H1, I1, r1, q1⟩ => chain_link (thn (hb pins s1 σ H1 _ I1 q1) fun u s2 ⟨y, H2, I2, r2, q2⟩ =>
    thn (ho pins s2 σ H2 x y v u _ I2 r1 r2 q2) fun d s3 ⟨z, H3, I3, r3, k, e, q3⟩ => ?_)) hm
  subst e
  cases r3
  refine wpAny_truthy_bool ?_
  cases k with
  | false => exact ite_ff ⟨.bl false, H3, I3, rfl, q3⟩
  | true => exact ite_tt (chain_last (thn (hc pins s3 σ H3 _ I3 q3) fun w' s4 ⟨z', H4, I4, r4, q4⟩ => ho' pins s4 σ H4 y z' u w' Q I4 r2 r4 q4))
theorem pt_chain {op op' : CmpOp} {r r' : R2} (ho : OpR X (compareOp op) r) (ho' : OpR X (compareOp op') r') (ha : PE X a ta) (hb : PE X b tb) (hc : PE X c tc)
    (hm : lastMarks [op, op'] [b, c] = false := by with_unfolding_all rfl) : PT X (.Compare a [op, op'] [b, c] pos) (tTest (tChain r r' ta tb tc)) := by
  intro pins s σ H Q I h
  refine isTrue_chain (thn (ha pins s σ H _ I h) fun v s1 ⟨x, H1, I1, r1, q1⟩ => test_link (thn (hb pins s1 σ H1 _ I1 q1) fun u s2 ⟨y, H2, I2, r2, q2⟩ =>
    thn (ho pins s2 σ H2 x y v u _ I2 r1 r2 q2) fun d s3 ⟨z, H3, I3, r3, k, e, q3⟩ => ?_)) hm
  subst e
  cases r3
  refine wpAny_truthy_bool ?_
  cases k with
  | false =>
    obtain ⟨k', e', q'⟩ := q3
    cases e'
    exact ite_ff ⟨H3, I3, q'⟩
  | true =>
    refine ite_tt (test_last (thn (hc pins s3 σ H3 _ I3 q3) fun w' s4 ⟨z', H4, I4, r4, q4⟩ => thn (ho' pins s4 σ H4 y z' u w' _ I4 r2 r4 q4) fun d' s5 ⟨z2, H5, I5, r5, k2, e2, q5⟩ => ?_))
    subst e2
    cases r5
    exact wpAny_truthy_bool ⟨H5, I5, q5⟩

/-! ### truth -/
/-- a value's truth by the abstract heap -/
def TruV (K : PySem.W.Frag) (x : V) (H : Hp) (k : Bool) : Prop :=
  match x with
  | .non => k = false
  | .bl b => k = b
  | .int i => k = (i != 0)
  | .str y => y.length ≤ sizeLine ∧ k = ((y.length : Int) != 0)
  | .byt y => y.size ≤ sizeLine ∧ k = ((y.size : Int) != 0)
  | .ref p => (∃ xs, SqL K H p xs ∧ k = !xs.isEmpty) ∨ (∃ xs, SqT K H p xs ∧ k = !xs.isEmpty) ∨ ∃ kvs, H p = some (.dK kvs) ∧ k = !kvs.isEmpty
  | _ => False
theorem isEmpty_kv {κ : Type} {kvs : List (κ × V)} {vs : List (κ × Value)} (r : KV kvs vs) : (!vs.isEmpty) = !kvs.isEmpty := by
  cases r <;> rfl
theorem isEmpty_of {xs : List V} {its : List Value} (r : Vals xs its) : (!its.toArray.isEmpty) = !xs.isEmpty := by
  cases r <;> simp
theorem line63 : (sizeLine : Nat) < 2 ^ 63 := by rw [sizeLine_eq]; decide
theorem tru_ok : TruR X (fun x H Q => ∃ k, TruV X.K x H k ∧ Q k H) := by
  intro pins s σ H x v Q I rx h
  obtain ⟨k, e, q⟩ := h
  have hl := line63
  have hs : sizeLine = 16777216 := sizeLine_eq
  cases x with
  | non =>
    cases rx
    have e' : k = false := e
    subst e'
    exact truthy_none ⟨H, I, q⟩
  | bl b =>
    cases rx
    have e' : k = b := e
    subst e'
    exact wpAny_truthy_bool ⟨H, I, q⟩
  | int i =>
    obtain ⟨t, rfl⟩ := rx
    have e' : k = (i != 0) := e
    subst e'
    exact PySem.P.truthy_int ⟨H, I, q⟩
  | str y =>
    obtain ⟨t, rfl⟩ := rx
    obtain ⟨hy, e'⟩ : y.length ≤ sizeLine ∧ k = ((y.length : Int) != 0) := e
    subst e'
    exact PySem.P.truthy_str (by omega) ⟨H, I.tok _, q⟩
  | byt y =>
    obtain ⟨t, rfl⟩ := rx
    obtain ⟨hy, e'⟩ : y.size ≤ sizeLine ∧ k = ((y.size : Int) != 0) := e
    subst e'
    exact PySem.W.truthy_bytes (by omega) ⟨H, I.tok _, q⟩
  | ref p =>
    cases rx
    have e' : (∃ xs, SqL X.K H p xs ∧ k = !xs.isEmpty) ∨ (∃ xs, SqT X.K H p xs ∧ k = !xs.isEmpty) ∨ ∃ kvs, H p = some (.dK kvs) ∧ k = !kvs.isEmpty := e
    rcases e' with ⟨xs, hx, e'⟩ | ⟨xs, hx, e'⟩ | ⟨kvs, hx, e'⟩
    · subst e'
      obtain ⟨its, r, pl, hz⟩ := I.list hx
      have hlen := r.length
      exact wpAny_truthy_list pl.isList (by simp only [List.size_toArray]; omega) ⟨H, I.tok _, by rw [isEmpty_of r]; exact q⟩
    · subst e'
      obtain ⟨its, r, pl, hz⟩ := I.tuple hx
      have hlen := r.length
      exact truthy_tuple pl (by simp only [List.size_toArray]; omega) ⟨H, I.tok _, by rw [isEmpty_of r]; exact q⟩
    · subst e'
      obtain ⟨hz, hS, vs, r, m⟩ : kvs.length ≤ sizeLine ∧ (p == sysModules) = false ∧ ∃ vs, KV kvs vs ∧ s.heap.DictOf (mixKind X.prog X.w) p vs := I.hok p _ hx
      have hlen : kvs.length = vs.length := Paired.length r
      exact wpAny_truthy_dict hS m (by omega) ⟨H, I.tok _, by rw [isEmpty_kv r]; exact q⟩
  | _ => exact (show False from e).elim
/-- any expression whose test is its value's truth (a name, a call, a subscript, a field ..: he by fun _ => rfl) -/
theorem pt_truth (ha : PE X a ta) (he : ∀ whole, isTrue a X.env whole = (do let v ← whole; standAt a.pos; holding [v] (truthy v))) :
    PT X a (fun σ H Q => ta σ H fun x H' => ∃ k, TruV X.K x H' k ∧ Q k H') := by
  intro pins s σ H Q I h
  exact isTrue_plain (thn (ha pins s σ H _ I h) fun v s1 ⟨x, H1, I1, r1, q1⟩ => tru_ok pins s1 σ H1 x v Q I1 r1 q1) (he _)

/-! ### strs and bytes -/
/-! ### scalar builtins, by CallR -/
theorem vals1 {x : V} {us : List Value} (r : Vals [x] us) : ∃ u, us = [u] ∧ RelV x u := by
  cases r with
  | cons r1 r2 => cases r2; exact ⟨_, rfl, r1⟩
end
end L2

namespace L2
open PySem PySem.Spec PyProof.Rows

/-! ### an instance, its attributes a map -/
structure ObjM (h : Heap) (x dx C : Addr) (mA : Str → Option Value) : Prop where
  obj : h.get? x = some (PySem.W.instObj C dx)
  ns : h.Ns1 dx mA
  ne : dx ≠ x

theorem lookIn_ns {h : Heap} {dx : Addr} {mA : Str → Option Value} (n : h.Ns1 dx mA) : ∃ od, h.get? dx = some od ∧ ∀ name, PySem.W.lookIn name od = some (mA name) := by
  obtain ⟨o, es, ep, ho, hd, hk, _, hm⟩ := n
  refine ⟨o, ho, fun name => ?_⟩
  have e := hm name
  unfold nsFind findBy at e
  rw [← Array.find?_toList] at e
  unfold PySem.W.lookIn
  rw [hd]
  dsimp only
  split
  · rename_i y q
    rw [q] at e
    exact congrArg some e
  · rename_i q
    rw [q] at e
    have a : es.toList.any (·.refKey) = false := by
      rw [List.any_eq_false]
      intro y hy
      obtain ⟨z, t, hkey⟩ := hk y (Array.mem_toList_iff.mp hy)
      simp [DictEntry.refKey, hkey]
    have a' : ¬ es.toList.any (·.refKey) = true := by rw [a]; exact Bool.false_ne_true
    rw [if_neg a']
    exact congrArg some e

theorem ObjM.look {h : Heap} {x dx C : Addr} {mA : Str → Option Value} (I : ObjM h x dx C mA) : ∃ od, PySem.W.InstAt h x (PySem.W.instObj C dx) C (some od) ∧ ∀ name, PySem.W.lookIn name od = some (mA name) :=
  let ⟨od, ho, hl⟩ := lookIn_ns I.ns
  ⟨od, ⟨I.obj, rfl, rfl, ho⟩, hl⟩

section
variable {prog : Program} {w : World} {A : Around} {E : Value → Shared → Prop} {s : Shared} {K : PySem.W.Frag} {x dx C f : Addr} {mA : Str → Option Value} {name : Str} {v : Value}

end

/-! ### the attributes as a list of pairs -/
theorem RelO.none_of {o : Option Value} (r : RelO none o) : o = none := by
  cases o with
  | none => rfl
  | some u => exact (show False from r).elim
section
variable {P : Program} {w : World} {H H' : Hp} {h h' : Heap} {a C dx : Addr} {fs fs' : List (Str × V)}
theorem ins_get (hok : HOk P w H h) (e : H a = some (.ins C dx fs)) : ∃ mA, ObjM h a dx C mA ∧ (∀ f, RelO (fs.lookup f) (mA f)) ∧ PySem.Within mA (fs.map (·.1)) ∧ fs.length ≤ 1000 ∧ H dx = some (.own a) := by
  obtain ⟨d, z, ne, ob, mA, n, r, q⟩ := (show ObjOk P w H h a (.ins C dx fs) from hok a _ e)
  exact ⟨mA, ⟨ob, n, ne⟩, r, q, z, d⟩
end

/-! ### what of the text a class must have -/
structure Cls (K : PySem.W.Frag) (C : Addr) : Prop where
  pg : PySem.W.plainGet K C Str.empty = true
  hd : PySem.W.hasDictIn K C = true
  po : PySem.W.plainOver K C = true
  sa : PySem.W.findIn K (.ref C) "__setattr__" = some (some (.builtin "object.__setattr__"))
theorem Cls.get {K : PySem.W.Frag} {C : Addr} (c : Cls K C) (f : Str) : PySem.W.plainGet K C f = true := c.pg
section
variable {X : Cx} {pins : List (Addr × Obj)} {σ : St} {H : Hp} {s : Shared} {a C dx : Addr} {fs : List (Str × V)} {f : Str} {v : V} {A : Around} {E : Value → Shared → Prop}

/-- a new instance, tracked, without attributes -/
theorem Inv.made (I : Inv X pins σ H s) : Inv X pins σ (upd (upd H s.heap.objs.size (.own (s.heap.objs.size + 1))) (s.heap.objs.size + 1) (.ins C s.heap.objs.size []))
    { s with heap := (s.heap.push PySem.W.emptyDict).push (PySem.W.instObj C s.heap.objs.size) } := by
  have e1 : (s.heap.push PySem.W.emptyDict).get? s.heap.objs.size = some PySem.W.emptyDict := Heap.get?_push_size s.heap rfl
  have e2 : ((s.heap.push PySem.W.emptyDict).push (PySem.W.instObj C s.heap.objs.size)).get? (s.heap.objs.size + 1) = some (PySem.W.instObj C s.heap.objs.size) := by
    have := Heap.get?_push_size (s.heap.push PySem.W.emptyDict) (o := PySem.W.instObj C s.heap.objs.size) rfl
    rwa [Heap.size_push] at this
  have e3 : (s.heap.push PySem.W.emptyDict).Ns s.heap.objs.size (fun _ => none) := ⟨PySem.W.emptyDict, #[], _, e1, rfl, (fun e he => absurd he (by simp)), fun _ => rfl⟩
  have I1 := I.laid (a := s.heap.objs.size) (o := .own (s.heap.objs.size + 1)) (h' := s.heap.push PySem.W.emptyDict) (t' := s.toks) (fun b u q => Heap.get?_push_of_some _ q) (Nat.le_refl _) ⟨_, e1⟩
  refine I1.laid (a := s.heap.objs.size + 1) (o := .ins C s.heap.objs.size []) (t' := s.toks) (fun b u q => Heap.get?_push_of_some _ q) (Nat.le_of_eq (Heap.size_push _ _)) ?_
  have ne : s.heap.objs.size ≠ s.heap.objs.size + 1 := Nat.ne_of_lt (Nat.lt_succ_self _)
  refine ⟨by rw [upd_ne ne, upd_same], Nat.zero_le _, ne, e2, fun _ => none, (Heap.Ns1.of_empty e3).at fun o q => Heap.get?_push_of_some _ q, fun _ => True.intro, fun y hy => absurd rfl hy⟩

end

/-! ### readings and rules -/
section
variable {X : Cx} {o e value : Expr} {f : Str} {pos pos' tpos : Pos} {ta tv : TE}
end

/-! ### isinstance -/
section
variable {X : Cx} {pins : List (Addr × Obj)} {σ : St} {H : Hp} {s : Shared} {A : Around} {E : Value → Shared → Prop} {Q : Value → Shared → Prop} {c : Value} {b : Bool}
/-- the type of a value, as the fragment's deciders take it; for an instance its class -/
inductive TyOf (K : PySem.W.Frag) (H : Hp) : V → Value → Prop where
  | non : TyOf K H .non (.type "NoneType")
  | bl (x : Bool) : TyOf K H (.bl x) (.type "bool")
  | int (i : Int) : TyOf K H (.int i) (.type "int")
  | str (x : Str) : TyOf K H (.str x) (.type "str")
  | flt (x : UInt64) : TyOf K H (.flt x) (.type "float")
  | lst {a : Addr} {xs : List V} (e : H a = some (.lst xs)) : TyOf K H (.ref a) (.type "list")
  | frz {a : Addr} {o : Obj} {xs : List V} (e : H a = some (.frz o (.lst xs))) : TyOf K H (.ref a) (.type "list")
  | tup {a : Addr} {xs : List V} (e : H a = some (.tup xs)) : TyOf K H (.ref a) (.type "tuple")
  | dK {a : Addr} {kvs : List (Key × V)} (e : H a = some (.dK kvs)) : TyOf K H (.ref a) (.type "dict")
  | dT {a : Addr} {kvs : List (List Key × V)} (e : H a = some (.dT kvs)) : TyOf K H (.ref a) (.type "dict")
  | ins {a C dx : Addr} {fs : List (Str × V)} (e : H a = some (.ins C dx fs)) (cl : Cls K C) (ha : PySem.W.findIn K (.ref C) "__class__" = some (some (.builtin "object.__class__")))
      (hn : PySem.W.specialIn K (.builtin "object.__class__") "__get__" = some (some (.builtin "getset_descriptor.__get__"))) (htk : PySem.W.takesIn K (.builtin "object.__class__") = some true)
      (hm : PySem.W.mroIn K C (.type "object") = some true) : TyOf K H (.ref a) (.ref C)
/-- isinstance(x, c) for one class c, a built-in or an own one: kitOne's answer -/
theorem isinst_ok {x : V} {u t : Value} (I : Inv X pins σ H s) (rx : RelV x u) (ty : TyOf X.K H x t) (e : PySem.W.kitOne X.K t c = some b) (h : ∀ tk, Q (.bool b) { s with toks := tk }) :
    wpAny (model X.prog X.w) A (call (.builtin "isinstance") [u, c]) Q E s := by
  cases ty with
  | non => cases (show u = Value.none from rx); exact PySem.W.kia_one PySem.W.kitx_none I.kIn True.intro e (fun z => nomatch z) h
  | bl y => cases (show u = Value.bool y from rx); exact PySem.W.kia_one PySem.W.kitx_bool I.kIn True.intro e (fun z => nomatch z) h
  | int i => obtain ⟨t, q⟩ := (show ∃ t, u = Value.int i t from rx); cases q; exact PySem.W.kia_one PySem.W.kitx_int I.kIn True.intro e (fun z => nomatch z) h
  | str y => obtain ⟨t, q⟩ := (show ∃ t, u = Value.str y t from rx); cases q; exact PySem.W.kia_one PySem.W.kitx_str I.kIn True.intro e (fun z => nomatch z) h
  | flt y => obtain ⟨t, q⟩ := (show ∃ t, u = Value.float y t from rx); cases q; exact PySem.W.kia_one PySem.W.kitx_float I.kIn True.intro e (fun z => nomatch z) h
  | @lst a xs ea =>
    cases (show u = Value.ref a from rx)
    obtain ⟨_, _, n, _, h1⟩ := (show ObjOk X.prog X.w H s.heap a (.lst xs) from I.hok a _ ea)
    exact PySem.W.kia_one PySem.W.kitx_list I.kIn ⟨_, h1, rfl⟩ e (fun z => nomatch z) h
  | @frz a ob xs ea =>
    cases (show u = Value.ref a from rx)
    obtain ⟨_, _, _, n, _, h1⟩ := (show ObjOk X.prog X.w H s.heap a (.frz ob (.lst xs)) from I.hok a _ ea)
    exact PySem.W.kia_one PySem.W.kitx_list I.kIn ⟨_, h1, rfl⟩ e (fun z => nomatch z) h
  | @tup a xs ea =>
    cases (show u = Value.ref a from rx)
    obtain ⟨_, _, _, p⟩ := (show ObjOk X.prog X.w H s.heap a (.tup xs) from I.hok a _ ea)
    obtain ⟨o, h1, h2, _⟩ := p
    exact PySem.W.kia_one PySem.W.kitx_tuple I.kIn ⟨o, h1, h2⟩ e (fun z => nomatch z) h
  | @dK a kvs ea =>
    cases (show u = Value.ref a from rx)
    obtain ⟨_, _, vs, _, p⟩ := (show ObjOk X.prog X.w H s.heap a (.dK kvs) from I.hok a _ ea)
    obtain ⟨o, es, ep, h1, h2, _⟩ := p
    exact PySem.W.kia_one PySem.W.kitx_dict I.kIn ⟨o, h1, h2.1⟩ e (fun z => nomatch z) h
  | @dT a kvs ea =>
    cases (show u = Value.ref a from rx)
    obtain ⟨_, _, xs, _, o, es, ep, h1, h2, _⟩ := (show ObjOk X.prog X.w H s.heap a (.dT kvs) from I.hok a _ ea)
    exact PySem.W.kia_one PySem.W.kitx_dict I.kIn ⟨o, h1, h2.1⟩ e (fun z => nomatch z) h
  | @ins a C dx fs ea cl ha hn htk hm =>
    cases (show u = Value.ref a from rx)
    obtain ⟨mA, O, _⟩ := ins_get I.hok ea
    obtain ⟨od, J, _⟩ := O.look
    exact PySem.W.kia_one (PySem.W.kitx_own (cl.get _) cl.hd ha hn htk hm) I.kIn J e (fun z => nomatch z) h
end
end L2

namespace L2
open PySem PySem.Spec PyProof.Rows

/-! ### room -/
structure Room (k : Nat) (A : Around) : Prop where
  hd : A.handled = none
  dp : A.depth + 3 * k + 5 < recursionLimit
  un : A.units + 16 * k + 200 < cLine
theorem Room.mono {j k : Nat} {A : Around} (r : Room k A) (h : j ≤ k) : Room j A := ⟨r.hd, by have := r.dp; omega, by have := r.un; omega⟩
theorem Room.deeper {k : Nat} {A : Around} (r : Room (k + 1) A) (env : Env) : Room k (A.deeper env) :=
  ⟨r.hd, by have := r.dp; show A.depth + 1 + 3 * k + 5 < _; omega, by have := r.un; show A.units + 3 + 16 * k + 200 < _; omega⟩
theorem Room.in1 {k : Nat} {A : Around} (r : Room (k + 1) A) : Room k A.in1 :=
  ⟨r.hd, by have := r.dp; show A.depth + 3 * k + 5 < _; omega, by have := r.un; show A.units + 1 + 16 * k + 200 < _; omega⟩
theorem Room.depth {k : Nat} {A : Around} (r : Room k A) : A.depth < recursionLimit := by have := r.dp; omega
theorem Room.units {k : Nat} {A : Around} (r : Room k A) : A.units + 64 < cLine := by have := r.un; omega
/-! ### argument lists and displays -/
def tNil : TA := fun _ H Q => Q [] H
def tCons (ta : TE) (tr : TA) : TA := fun σ H Q => ta σ H fun x H1 => tr σ H1 fun xs H2 => Q (x :: xs) H2
section
variable {X : Cx} {e : Expr} {es : List Expr} {te : TE} {t : TA} {pos : Pos}
theorem pa_nil : PA X [] tNil := fun _ _ _ _ H Q I h => Calls.spliced_nil ⟨[], H, I, .nil, h⟩
theorem pa_cons (ha : PE X e te) (hr : PA X es t) (hs : starEach (e :: es) X.env = (false, eval e X.env) :: starEach es X.env := by rfl) : PA X (e :: es) (tCons te t) := by
  intro pos pins s σ H Q I h
  rw [hs]
  show wpAny _ _ (spliced ((false, eval e X.env) :: backTo pos (starEach es X.env))) _ _ s
  refine Calls.spliced_cons (thn (ha pins s σ H _ I h) fun u s1 ⟨x, H1, I1, r1, q1⟩ => ?_)
  exact thn (hr pos pins s1 σ H1 _ I1 q1) fun us s2 ⟨xs, H2, I2, r2, q2⟩ => ⟨x :: xs, H2, I2, .cons r1 r2, q2⟩

/-- a tuple, a list of written items -/
def tTup (t : TA) : TE := fun σ H Q => t σ H fun xs H1 => xs.length ≤ sizeLine ∧ ∀ p, H1 p = none → Q (.ref p) (upd H1 p (.tup xs))
def tLst (t : TA) : TE := fun σ H Q => t σ H fun xs H1 => xs.length ≤ sizeLine ∧ ∀ p, H1 p = none → Q (.ref p) (upd H1 p (.lst xs))
theorem pe_tup {x1} (h : PA X es t) : PE X (.Tuple es x1 pos) (tTup t) := by
  intro pins s σ H Q I hq
  refine wpAny_Tuple_spliced (thn (h pos pins s σ H _ I hq) fun us s1 ⟨xs, H1, I1, r, z, q⟩ => ⟨by rw [← r.length]; exact z, ?_⟩)
  have hf : H1 s1.heap.objs.size = none := I1.hok.fresh (Nat.le_refl _)
  refine ⟨.ref s1.heap.objs.size, upd H1 s1.heap.objs.size (.tup xs), I1.laid (t' := s1.toks) (fun b u e => Heap.get?_push_of_some _ e) (Nat.le_refl _) ?_, rfl, q _ hf⟩
  exact ⟨z, us, r, ⟨_, Heap.get?_push_size _ rfl, rfl, _, rfl⟩⟩
theorem pe_lst (h : PA X es t) : PE X (.List es pos) (tLst t) := by
  intro pins s σ H Q I hq
  refine wpAny_List_spliced (thn (h pos pins s σ H _ I hq) fun us s1 ⟨xs, H1, I1, r, z, q⟩ => ⟨by rw [← r.length]; exact z, ?_⟩)
  have hf : H1 s1.heap.objs.size = none := I1.hok.fresh (Nat.le_refl _)
  refine ⟨.ref s1.heap.objs.size, upd H1 s1.heap.objs.size (.lst xs), I1.laid (t' := s1.toks) (fun b u e => Heap.get?_push_of_some _ e) (Nat.le_refl _) ?_, rfl, q _ hf⟩
  exact ⟨z, us, 0, r, Heap.get?_push_size _ rfl⟩
end

/-! ### what a def promises -/
/-- a def's promise: the bound arguments in the parameters' order, the heap, the wanted end, the wanted exception -/
abbrev Sp := List V → Hp → VK → XK → Prop
/-- how an exception lies behind a call (file 08 gives it): the callers' frames, abstract heap and state ahead of the call, the wish, the exception, the state -/
abbrev CXT := List Env → Hp → Shared → XK → Value → Shared → Prop

/-- the state at a call -/
structure Env0 (P : Program) (w : World) (K : PySem.W.Frag) (mg : Str → Option Value) (base : Heap) (A : Around) (outer : List Env) (s : Shared) (H : Hp) : Prop where
  frames : A.frames = some outer
  mod : Mod K mg base
  bs : ∀ b o, base.get? b = some o → s.heap.get? b = some o ∧ H b = none
  bsz : base.objs.size ≤ s.heap.objs.size
  funs : s.heap.FunFrames base outer
  frf : ∀ b ∈ frs outer, H b = none
  hok : HOk P w H s.heap
  bare : AllBare s.gens
/-- a call's end -/
def CE (outer : List Env) (P : Program) (w : World) (H : Hp) (s : Shared) (Q : VK) (u : Value) (s' : Shared) : Prop :=
  ∃ v H', s'.os = s.os ∧ GensOk s.gens s'.gens ∧ Un (frs outer) [] H H' s.heap s'.heap ∧ HOk P w H' s'.heap ∧ RelV v u ∧ Q v H'
def CR (CX : CXT) (outer : List Env) (P : Program) (w : World) (H : Hp) (s : Shared) (Q : VK) (E : XK) (r : Result) (s' : Shared) : Prop :=
  match r with
  | .ok (.ret u) => CE outer P w H s Q u s'
  | .ok _ => False
  | .error e => CX outer H s E e s'
structure FnOk (P : Program) (w : World) (K : PySem.W.Frag) (mg : Str → Option Value) (base : Heap) (CX : CXT) (k : Nat) (f : Addr) (fd : FuncData) (ps : List Str) (sp : Sp) : Prop where
  len : ∀ vs H Q E, sp vs H Q E → vs.length = ps.length
  run : ∀ (A : Around) (outer : List Env) (s : Shared) (H : Hp) (args : Args) (us : List Value) (vs : List V) (Q : VK) (E : XK), Room k A → Env0 P w K mg base A outer s H → BindsTo s fd args (ps.zip us) → Vals vs us → sp vs H Q E →
    codeAny (model P w) A (.call (.ref f) args) (CR CX outer P w H s Q E) s
theorem FnOk.mono {P : Program} {w : World} {K : PySem.W.Frag} {mg : Str → Option Value} {base : Heap} {CX : CXT} {j k : Nat} {f : Addr} {fd : FuncData} {ps : List Str} {sp : Sp} (F : FnOk P w K mg base CX j f fd ps sp) (h : j ≤ k) :
    FnOk P w K mg base CX k f fd ps sp := ⟨F.len, fun A outer s H args us vs Q E hr => F.run A outer s H args us vs Q E (hr.mono h)⟩
/-- a weaker promise -/
theorem FnOk.imp {P : Program} {w : World} {K : PySem.W.Frag} {mg : Str → Option Value} {base : Heap} {CX : CXT} {k : Nat} {f : Addr} {fd : FuncData} {ps : List Str} {sp sp' : Sp} (F : FnOk P w K mg base CX k f fd ps sp)
    (h : ∀ vs H Q E, sp' vs H Q E → sp vs H Q E) : FnOk P w K mg base CX k f fd ps sp' :=
  ⟨fun vs H Q E q => F.len vs H Q E (h _ _ _ _ q), fun A outer s H args us vs Q E hr he hb hv hs => F.run A outer s H args us vs Q E hr he hb hv (h _ _ _ _ hs)⟩

theorem Env0.in1 {P : Program} {w : World} {K : PySem.W.Frag} {mg : Str → Option Value} {base : Heap} {A : Around} {outer : List Env} {s : Shared} {H : Hp} (e : Env0 P w K mg base A outer s H) :
    Env0 P w K mg base A.in1 outer s H := ⟨e.frames, e.mod, e.bs, e.bsz, e.funs, e.frf, e.hok, e.bare⟩

section
variable {X : Cx} {pins : List (Addr × Obj)} {σ : St} {H : Hp} {s s' : Shared}
/-- from a body: what a callee wants -/
theorem Inv.env0 (I : Inv X pins σ H s) : Env0 X.prog X.w X.K X.mg X.base X.A X.stack s H :=
  ⟨I.ok.frames, I.ok.mod, I.bs, Nat.le_trans I.ok.bsz I.sz, I.stack, I.stkFree, I.hok, I.bare.1⟩
/-- behind a call -/
theorem Inv.after {Q : VK} {u : Value} (I : Inv X pins σ H s) (h : CE X.stack X.prog X.w H s Q u s') : EP X pins σ Q u s' := by
  obtain ⟨v, H', os, bare, un, hok, r, q⟩ := h
  obtain ⟨hh, g, d, t, os'⟩ := s'
  obtain rfl : os' = s.os := os
  exact ⟨v, H', I.call (h' := hh) (g' := g) (d' := d) (t' := t) (ch := []) un hok bare (fun b z => absurd z (by simp)), r, q⟩
end

/-! ### calls -/
/-- f(..): the written arguments, then the defaults dvs; E: what is wanted of an exception -/
def tCall (sp : Sp) (dvs : List V) (E : XK) (t : TA) : TE := fun σ H Q => t σ H fun vs H1 => sp (vs ++ dvs) H1 Q E
/-- how the parameters are bound: us the positional arguments, kw the keywords' values by name, ds the defaults that fill up -/
def Binds (K : PySem.W.Frag) (fd : FuncData) (ps : List Str) (ds : List Value) : Prop :=
  ∀ (s : Shared) (us : List Value), K.In s.heap → (us ++ ds).length = ps.length → BindsTo s fd ⟨us, []⟩ (ps.zip (us ++ ds))
/-- every parameter is given -/
theorem Binds.all {K : PySem.W.Frag} {fd : FuncData} {ps : List Str} (h : ∀ us : List Value, us.length = ps.length → bindArgs fd ⟨us, []⟩ = pure (ps.zip us)) : Binds K fd ps [] := fun s us _ hl => by
  rw [List.append_nil] at hl ⊢
  exact .of_eq (h us hl)

/-- an exception of a callee reaches what this body wants of exceptions -/
def Passes (CX : CXT) (X : Cx) (E : XK) : Prop := ∀ (pins : List (Addr × Obj)) (σ : St) (H : Hp) (s : Shared) (e : Value) (s' : Shared), Inv X pins σ H s → CX X.stack H s E e s' → X.xe e s'

section
variable {X : Cx} {CX : CXT} {k : Nat} {f C : Addr} {fd : FuncData} {ps : List Str} {sp : Sp} {dvs : List V} {ds : List Value} {E : XK} {x m : Str} {p pos apos : Pos} {e o : Expr} {es : List Expr} {ta : TE} {t : TA}

/-- the callee runs -/
theorem run_fn {pins : List (Addr × Obj)} {σ : St} {H : Hp} {s : Shared} {Q : VK} {us : List Value} {vs : List V} (F : FnOk X.prog X.w X.K X.mg X.base CX k f fd ps sp) (hr : Room k X.A) (hb : Binds X.K fd ps ds) (hd : Vals dvs ds) (hx : Passes CX X E)
    (I : Inv X pins σ H s) (r : Vals vs us) (h : sp (vs ++ dvs) H Q E) : wpAny (model X.prog X.w) X.A (call (.ref f) us) (EP X pins σ Q) X.xe s := by
  have r2 : Vals (vs ++ dvs) (us ++ ds) := r.append hd
  have hl : (us ++ ds).length = ps.length := by rw [← r2.length]; exact F.len _ _ _ _ h
  refine wpAny_call (codeAny_mono (F.run X.A X.stack s H ⟨us, []⟩ (us ++ ds) (vs ++ dvs) Q E hr I.env0 (hb s us I.kIn hl) r2 h) fun r s' hq => ?_)
  cases r with
  | error e => exact hx pins σ H s e s' I hq
  | ok fl =>
    cases fl with
    | ret u => exact I.after hq
    | next => exact False.elim hq
    | brk => exact False.elim hq
    | cont => exact False.elim hq

theorem pe_call (F : FnOk X.prog X.w X.K X.mg X.base CX k f fd ps sp) (hr : Room k X.A) (hg : Gl X x) (hm : X.mg x = some (.ref f)) (hk : PySem.W.keepIn X.K (.ref f) = true) (hb : Binds X.K fd ps ds) (hd : Vals dvs ds) (hx : Passes CX X E)
    (ha : PA X (e :: es) t) (hdb : (x == ("__debug__" : Str)) = false := by decide) (he : starEach (e :: es) X.env = (false, eval e X.env) :: starEach es X.env := by rfl) (hpl : (backTo pos (starEach es X.env)).any (·.1) = false := by rfl) :
    PE X (.Call (.Name x p) (e :: es) [] pos) (tCall sp dvs E t) := by
  intro pins s σ H Q I h
  refine wpAny_Call_Name_kw (ld_glob I hg hm ?_ hdb)
  refine PySem.W.callWith_K (h₀ := X.base) I.ok.mod.kin hk (thn (ha pos pins s σ H _ I h) fun us s1 ⟨vs, H1, I1, r, q⟩ => ⟨I1.kIn, ?_⟩) he hpl
  exact run_fn F hr hb hd hx I1 r q
end

/-! ### keywords -/
section
variable {X : Cx} {CX : CXT} {k : Nat} {f C : Addr} {fd : FuncData} {ps ks : List Str} {sp : Sp} {E : XK} {x m : Str} {p pos apos kpos : Pos} {e o : Expr} {es : List Expr} {kws : List Keyword} {te ta : TE} {t tk : TA} {nm : Option Str}
variable {g : List Value → List Value → List Value} {gV : List V → List V → List V}
end

/-! ### a def's body keeps its promise -/
/-- names: the parameters first -/
structure FnScope (N P : List Str) (sc : Scope) : Prop where
  kind : sc.kind = .function
  co : sc.isCoroutine = false
  gen : sc.isGenerator = false
  nd : N.Nodup
  pre : N.take P.length = P
  par : ∀ x ∈ P, sc.names.lookup x = some .local ∨ sc.names.lookup x = some .cell
  nofree : ∀ y ∈ sc.names, y.2 ≠ .free

theorem bindL_out {kindOf : Str → Option NameKind} {x : Str} : ∀ {binds : List (Str × Value)} {m : Str → Option Value}, (∀ v, (x, v) ∉ binds) → bindL kindOf binds m x = m x
  | [], _, _ => rfl
  | (n, v) :: r, m, h => by
    unfold bindL
    rw [bindL_out fun w hw => h w (List.mem_cons_of_mem _ hw)]
    split
    · have : x ≠ n := by rintro rfl; exact h v List.mem_cons_self
      simp [this]
    · rfl
theorem bindC_out {kindOf : Str → Option NameKind} {x : Str} : ∀ {binds : List (Str × Value)} {m : Str → Option Value}, (∀ v, (x, v) ∉ binds) → bindC kindOf binds m x = m x
  | [], _, _ => rfl
  | (n, v) :: r, m, h => by
    unfold bindC
    rw [bindC_out fun w hw => h w (List.mem_cons_of_mem _ hw)]
    split
    · rfl
    · have : x ≠ n := by rintro rfl; exact h v List.mem_cons_self
      simp [this]
theorem bindL_get {kindOf : Str → Option NameKind} {x : Str} {v : Value} : ∀ {P : List Str} {vs : List Value} {i : Nat} {m : Str → Option Value}, P.Nodup → P[i]? = some x → vs[i]? = some v → kindOf x = some .local →
    bindL kindOf (P.zip vs) m x = some v
  | [], _, _, _, _, h, _, _ => by simp at h
  | _ :: _, [], _, _, _, _, h, _ => by simp at h
  | p :: P, w :: vs, 0, m, nd, h1, h2, hk => by
    simp at h1 h2; subst h1; subst h2
    show bindL kindOf ((p, w) :: P.zip vs) m p = _
    unfold bindL
    rw [bindL_out fun v hv => (List.nodup_cons.mp nd).1 (List.of_mem_zip hv).1, if_pos hk]
    simp
  | p :: P, w :: vs, i + 1, m, nd, h1, h2, hk => by
    show bindL kindOf ((p, w) :: P.zip vs) m x = _
    unfold bindL
    exact bindL_get (i := i) (List.nodup_cons.mp nd).2 (by simpa using h1) (by simpa using h2) hk
theorem bindC_get {kindOf : Str → Option NameKind} {x : Str} {v : Value} : ∀ {P : List Str} {vs : List Value} {i : Nat} {m : Str → Option Value}, P.Nodup → P[i]? = some x → vs[i]? = some v → kindOf x ≠ some .local →
    bindC kindOf (P.zip vs) m x = some v
  | [], _, _, _, _, h, _, _ => by simp at h
  | _ :: _, [], _, _, _, _, h, _ => by simp at h
  | p :: P, w :: vs, 0, m, nd, h1, h2, hk => by
    simp at h1 h2; subst h1; subst h2
    show bindC kindOf ((p, w) :: P.zip vs) m p = _
    unfold bindC
    rw [bindC_out fun v hv => (List.nodup_cons.mp nd).1 (List.of_mem_zip hv).1, if_neg hk]
    simp
  | p :: P, w :: vs, i + 1, m, nd, h1, h2, hk => by
    show bindC kindOf ((p, w) :: P.zip vs) m x = _
    unfold bindC
    exact bindC_get (i := i) (List.nodup_cons.mp nd).2 (by simpa using h1) (by simpa using h2) hk

/-- the names' values at the entry -/
def start (N : List Str) (vs : List V) : St := vs.map some ++ List.replicate (N.length - vs.length) none

/-- the context of a def's body, at its entry; an exception leaves the frame, then lies as CX says -/
def cxOf (CX : CXT) (P : Program) (w : World) (K : PySem.W.Frag) (mg : Str → Option Value) (base : Heap) (N : List Str) (qual : Str) (scope : Scope) (f : Addr) (cd : Value) (A : Around) (outer : List Env) (s : Shared) (H : Hp) (E : XK) : Cx where
  prog := P
  w := w
  K := K
  mg := mg
  base := base
  A := A.deeper (envOfC qual scope s.heap.objs.size f cd)
  N := N
  s_0 := s
  H_0 := H
  env := envOfC qual scope s.heap.objs.size f cd
  outer := outer
  stack := envOfC qual scope s.heap.objs.size f cd :: outer
  ex := []
  calm := true
  fn := fun _ => true
  pn := []
  xe := fun e s' => wpAny (model P w) (A.deeper (envOfC qual scope s.heap.objs.size f cd)) (leaving (envOfC qual scope s.heap.objs.size f cd) e) (fun _ s'' => CX outer H s E e s'') (fun e' s'' => CX outer H s E e' s'') s'

theorem cell_has {sc : Scope} {n : Nat} {x : Str} (h : sc.names.lookup x = some .cell) : ∃ c, (cellsFrom n sc.names []).lookup x = some c := by
  have q := PySem.W.cellsFrom_some sc.names n [] (.inl h)
  exact Option.isSome_iff_exists.mp q

theorem inv_start {CX : CXT} {P : Program} {w : World} {K : PySem.W.Frag} {mg : Str → Option Value} {base : Heap} {N ps : List Str} {qual : Str} {scope : Scope} {f : Addr} {cd : Value} {A : Around} {outer : List Env} {s s1 : Shared} {H : Hp} {E : XK} {us : List Value} {vs : List V}
    (S : FnScope N ps scope) (hd : A.handled = none) (e0 : Env0 P w K mg base A outer s H) (hl : vs.length = ps.length) (r : Vals vs us)
    (x : InCallC s s.heap.objs.size (bindL (envOfC qual scope s.heap.objs.size f cd).kindOf (ps.zip us) fun _ => none) (cellsFrom (s.heap.objs.size + 1) scope.names []) (bindC (envOfC qual scope s.heap.objs.size f cd).kindOf (ps.zip us) fun _ => none) s1) :
    Inv (cxOf CX P w K mg base N qual scope f cd A outer s H E) [] (start N vs) H s1 := by
  have hpl : ps.length ≤ N.length := by have := congrArg List.length S.pre; rw [List.length_take] at this; omega
  obtain ⟨h1, tk, rfl, hk⟩ := x.done
  have noA : ∀ b : Addr, b ∉ (cxOf CX P w K mg base N qual scope f cd A outer s H E).ex := fun b z => absurd (show b ∈ ([] : List Addr) from z) (by simp)
  refine ⟨⟨e0.mod, S.kind, rfl, rfl, Nat.le_refl _, fun y z c h1 h2 => ?_, fun y hy => ?_, fun y c _ h => ?_, fun _ => hd, Around.frames_deeper e0.frames, .inr ⟨rfl, rfl⟩, fun b z => absurd z (noA b), e0.bs, e0.bsz, fun b _ _ => noA b, fun b z => absurd z (noA b), e0.funs, e0.frf⟩,
    rfl, ⟨e0.bare, fun _ _ e => e⟩, Un.kept hk, ⟨_, x.toInCall.ns, fun i y v h1 h2 h3 => ?_⟩, fun y c h => ⟨_, x.cell y c h⟩, e0.hok.fresh (Nat.le_refl _), fun y c h => ?_, fun p hp => absurd (show p ∈ ([] : List (Addr × Obj)) from hp) (by simp), e0.hok.kept hk, ?_⟩
  · exact name_of_addr x.apart (PySem.mem_of_lookup h1) (PySem.mem_of_lookup h2)
  · have hy : scope.names.lookup y = some .cell ∨ scope.names.lookup y = some .free := hy
    rcases hy with hy | hy
    · exact cell_has hy
    · exact absurd rfl (S.nofree _ (PySem.mem_of_lookup hy))
  · exact Nat.le_of_lt (x.above y c (PySem.mem_of_lookup h))
  · have hi : i < vs.length := by
      unfold start at h2
      by_cases hi : i < vs.length
      · exact hi
      · rw [List.getElem?_append_right (by simpa using hi)] at h2
        rw [List.getElem?_replicate] at h2
        split at h2 <;> cases h2
    have ha : vs[i]? = some v := by
      unfold start at h2
      rw [List.getElem?_append_left (by simpa using hi), List.getElem?_map] at h2
      cases e : vs[i]? with
      | none => rw [e] at h2; cases h2
      | some a => rw [e] at h2; cases h2; rfl
    obtain ⟨u, hu, rv⟩ := r.get ha
    have hp : ps[i]? = some y := by
      rw [← S.pre, List.getElem?_take_of_lt (by omega)]; exact h1
    have ndP : ps.Nodup := by rw [← S.pre]; exact S.nd.sublist (List.take_sublist _ _)
    refine ⟨u, rv, ?_⟩
    rcases S.par y (List.mem_of_getElem? hp) with k | k
    · exact .inl ⟨k, bindL_get ndP hp hu k⟩
    · obtain ⟨c, e⟩ := cell_has (n := s.heap.objs.size + 1) k
      refine .inr ⟨.inl k, c, e, ?_⟩
      have q := x.cell y c e
      rw [bindC_get ndP hp hu (by show scope.names.lookup y ≠ _; rw [k]; decide)] at q
      exact q
  · exact e0.hok.fresh (Nat.le_of_lt (x.above y c (PySem.mem_of_lookup h)))
  · unfold start
    show _ = N.length
    rw [List.length_append, List.length_map, List.length_replicate]
    omega

/-- THE RULE: a def (or a method) of the text, by its body. The body's reading t is chosen for each entry; it is run at the parameters' values -/
theorem fn_of {CX : CXT} {P : Program} {w : World} {K : PySem.W.Frag} {mg : Str → Option Value} {base : Heap} {k : Nat} {f : Addr} {name qual : Str} {params : Arguments} {body : List Stmt} {scope : Scope} {dV kV doc pm cdv ct oc : Value} {an od : Option Addr}
    {osl : Array (Option Value)} {N ps : List Str} {sp : Sp} (lk : K.lookup f = some ⟨oc, od, .func (PySem.W.fnOf name qual params body scope dV kV doc pm an cdv ct), osl⟩) (hcd : PySem.W.codeIn K cdv qual = true) (S : FnScope N ps scope)
    (len : ∀ vs H Q E, sp vs H Q E → vs.length = ps.length)
    (hbody : ∀ (A : Around) (outer : List Env) (s : Shared) (H : Hp) (vs : List V) (Q : VK) (E : XK), Room k (A.deeper (envOfC qual scope s.heap.objs.size f cdv)) → sp vs H Q E →
      ∃ t, PSs (cxOf CX P w K mg base N qual scope f cdv A outer s H E) body t ∧ t { nx := fun _ H' => Q .non H', rt := Q } (start N vs) H) :
    FnOk P w K mg base CX (k + 1) f (PySem.W.fnOf name qual params body scope dV kV doc pm an cdv ct) ps sp := by
  refine ⟨len, fun A outer s H args us vs Q E hr e0 hb r hsp => ?_⟩
  have hl := len _ _ _ _ hsp
  have KX : K.In s.heap := e0.mod.kin.keeps fun b o e => (e0.bs b o e).1
  have lim : s.heap.NoLimit := e0.mod.nolimit.keeps fun b o e => (e0.bs b o e).1
  have hkind : ∀ y ∈ ps.zip us, scope.names.lookup y.1 = some .local ∨ (scope.names.lookup y.1 = some .cell ∧ ((cellsFrom (s.heap.objs.size + 1) scope.names []).lookup y.1).isSome = true) := fun ⟨n, v⟩ hy => by
    rcases S.par n (List.of_mem_zip hy).1 with q | q
    · exact .inl q
    · exact .inr ⟨q, PySem.W.cellsFrom_some _ _ _ (.inl q)⟩
  refine codeAny_call_function hr.depth (KX _ _ lk) rfl S.co S.gen rfl (PySem.W.codeRec_of KX hcd) (hb _ _ _ _ ?_)
  refine wpAny_newFunctionEnv_cells S.kind hkind fun env he s1 x => ?_
  subst he
  refine ⟨lim.keeps x.toInCall.keep, codeAny_func ?_⟩
  obtain ⟨t, ht, hq⟩ := hbody A outer s H vs Q E (hr.deeper _) hsp
  have I : Inv (cxOf CX P w K mg base N qual scope f cdv A outer s H E) [] (start N vs) H s1 := inv_start S hr.hd e0 hl r x
  refine wpAny_mono (ht [] s1 (start N vs) H _ I hq) (fun fl s' hs => ?_) fun e s' hs => hs
  have fin : ∀ {σ' : St} {H' : Hp} {v : V} {u : Value}, Inv (cxOf CX P w K mg base N qual scope f cdv A outer s H E) [] σ' H' s' → RelV v u → Q v H' → CE outer P w H s Q u s' :=
    fun {σ' H' v u} J rv q => ⟨v, H', J.os, J.bare, J.base, J.hok, rv, q⟩
  cases fl with
  | ret u =>
    obtain ⟨v, σ', H', J, rv, q⟩ := hs
    exact fin J rv q
  | next =>
    obtain ⟨σ', H', J, q⟩ := hs
    exact fin (v := V.non) (u := Value.none) J rfl q
  | brk =>
    obtain ⟨_, _, _, q⟩ := hs
    exact False.elim q
  | cont =>
    obtain ⟨_, _, _, q⟩ := hs
    exact False.elim q
end L2

namespace L2
open PySem PySem.Spec PyProof.Rows
section
variable {X : Cx} {x : Str} {p pos : Pos} {e : Expr} {es : List Expr} {t : TA} {id T : String} {r : List V → Hp → VK → Prop}

def tCB (r : List V → Hp → VK → Prop) (t : TA) : TE := fun σ H Q => t σ H fun vs H1 => r vs H1 Q
/-- f(e, ..), f a built-in function -/
theorem pe_callB (hc : CallR X (.builtin id) r) (hg : Gl X x) (hm : X.mg x = none) (hv : bootBuiltins x = some (.builtin id)) (ha : PA X (e :: es) t) (hn : x ≠ "__name__" := by decide) (hdb : (x == ("__debug__" : Str)) = false := by decide)
    (he : starEach (e :: es) X.env = (false, eval e X.env) :: starEach es X.env := by rfl) (hpl : (backTo pos (starEach es X.env)).any (·.1) = false := by rfl) : PE X (.Call (.Name x p) (e :: es) [] pos) (tCB r t) := by
  intro pins s σ H Q I h
  refine wpAny_Call_Name_kw (ld_blt I hg hm hv ?_ hn hdb)
  exact PyProof.Rows.callWith_builtin1 (thn (ha pos pins s σ H _ I h) fun us s1 ⟨vs, H1, I1, r1, q1⟩ => hc pins s1 σ H1 vs us Q I1 r1 q1) he hpl
end
end L2

namespace HT
open PySem PyProof.Rows

section
open PySem.SeqAt
open PySem.AutoSeq1 (wpAny_loadPart')
open PySem.MeetsSeq PySem.MeetsSeq2 PySem.MeetsSeq3

end

section
variable {prog : Program} {w : World} {A : Around} {E : Value → Shared → Prop} {s : Shared}

/-- t + u, t not empty -/
theorem cat_tup {t b : Addr} {vs ws : List Value} {Q : Value → Shared → Prop} (ht : IsTup s.heap t vs.toArray) (hb : IsTup s.heap b ws.toArray) (hv : vs ≠ [])
    (h1 : ws = [] → Q (.ref t) s) (h2 : ws ≠ [] → Q (.ref s.heap.objs.size) { s with heap := s.heap.push { cls := .type "tuple", data := .seq (vs ++ ws).toArray } })
    (hsz : vs.length + ws.length ≤ sizeLine) : wpAny (model prog w) A (binaryOp .Add (.ref t) (.ref b)) Q E s := by
  obtain ⟨⟨cls, dd, data, sl⟩, ho, hc, n, hd⟩ := id ht
  obtain ⟨⟨cls2, dd2, data2, sl2⟩, ho2, hc2, n2, hd2⟩ := id hb
  simp only at hc hd hc2 hd2
  subst hc hd hc2 hd2
  have e : vs.toArray ++ ws.toArray = (vs ++ ws).toArray := by simp
  by_cases hw : ws = []
  · exact concat_meets ⟨_, ho, rfl⟩ ⟨_, ho2, rfl⟩ noFill_tuple_add seq_tuple_add PySem.F.slot_tuple_add PySem.F.entry_tuple_add (PySem.F.args_tuple_add_2 _ _)
      (tuple_addW1 t b vs.toArray ws.toArray n n2 dd dd2 sl sl2 (by simpa using hv) (by simp [hw])) ⟨ho, ho2, h1 hw⟩
  · refine concat_meets ⟨_, ho, rfl⟩ ⟨_, ho2, rfl⟩ noFill_tuple_add seq_tuple_add PySem.F.slot_tuple_add PySem.F.entry_tuple_add (PySem.F.args_tuple_add_2 _ _)
      (tuple_addW2 t b vs.toArray ws.toArray n n2 dd dd2 sl sl2 (by simpa using hv) (by simpa using hw) (by rw [List.size_toArray, List.size_toArray]; exact hsz)) ⟨ho, ho2, ?_⟩
    rw [e]
    exact h2 hw

/-! ### t[a:b], not the whole -/
/-- a slice's bound as a place among n (d where it is left out) -/
def sIx (n d : Nat) : Option Int → Nat
  | none => d
  | some v => if v < 0 then (v + (n : Int)).toNat else min v.toNat n
theorem sIx_le (n d : Nat) (hd : d ≤ n) (o : Option Int) : sIx n d o ≤ n := by
  cases o with
  | none => exact hd
  | some v =>
    show (if v < 0 then (v + (n : Int)).toNat else min v.toNat n) ≤ n
    by_cases hv : v < 0
    · rw [if_pos hv]; omega
    · rw [if_neg hv]; exact Nat.min_le_right _ _
theorem clip_eq (v : Int) (n d : Nat) : (if v < 0 then max (v + (n : Int)) 0 else min v (n : Int)) = ((sIx n d (some v) : Nat) : Int) := by
  show (if v < 0 then max (v + (n : Int)) 0 else min v (n : Int)) = (((if v < 0 then (v + (n : Int)).toNat else min v.toNat n) : Nat) : Int)
  by_cases hv : v < 0
  · simp only [if_pos hv]; omega
  · simp only [if_neg hv]; omega
theorem adjust_gen (lo hi : Option Int) (n : Nat) : Builtin.Slice.sliceAdjust lo hi 1 (n : Int) = (((sIx n 0 lo : Nat) : Int), ((sIx n n hi : Nat) : Int)) := by
  have h1 : ¬ ((1 : Int) < 0) := by omega
  unfold Builtin.Slice.sliceAdjust
  simp only [h1, if_false]
  refine Prod.ext ?_ ?_
  · cases lo with
    | none => rfl
    | some v => exact clip_eq v n 0
  · cases hi with
    | none => rfl
    | some v => exact clip_eq v n n
theorem places_gen (i j : Nat) : Builtin.Slice.slicePlaces (i : Int) (j : Int) 1 = j - i := by
  unfold Builtin.Slice.slicePlaces
  have h1 : (1 : Int) > 0 := by omega
  simp only [h1, if_true, Int.ediv_one]
  split <;> omega
theorem slicePart_ {v : Value} {o : Option Int} {Q : Option Int → Shared → Prop} (p : IsPart v o) (h : Q o s) : wpAny (model prog w) A (Builtin.Slice.slicePartIndex v) Q E s := by
  cases p with
  | none => exact slicePart_none h
  | int i t => exact slicePart_int h
theorem sliceApplied_gen {sl : Addr} {vl vu : Value} {lo hi : Option Int} {n : Nat} {Q : Int × Int × Nat → Shared → Prop} (hs : s.heap.IsSliceOf sl vl vu .none) (pl : IsPart vl lo) (pu : IsPart vu hi)
    (h : Q (((sIx n 0 lo : Nat) : Int), 1, sIx n n hi - sIx n 0 lo) s) : wpAny (model prog w) A (Builtin.Slice.sliceApplied (.ref sl) (pure (n : Int))) Q E s := by
  obtain ⟨os, hos, hcs, hds⟩ := id hs
  unfold Builtin.Slice.sliceApplied Builtin.Slice.sliceFields
  refine wpAny_bind (wpAny_bind (wpAny_field hos hds (x := vl) rfl (wpAny_bind (wpAny_field hos hds (x := vu) rfl (wpAny_bind (wpAny_field hos hds (x := .none) rfl (wpAny_pure ?_)))))))
  refine wpAny_bind (slicePart_none ?_)
  show wpAny _ _ (if ((1 : Int) == 0) = true then _ else _) _ _ s
  rw [if_neg (by decide)]
  refine wpAny_bind (slicePart_ pl (wpAny_bind (slicePart_ pu (wpAny_bind (wpAny_pure ?_)))))
  show wpAny _ _ (match Builtin.Slice.sliceAdjust lo hi 1 (n : Int) with | (lo, hi) => pure (lo, (1 : Int), Builtin.Slice.slicePlaces lo hi 1)) _ _ s
  rw [adjust_gen lo hi n]
  show wpAny _ _ (pure (((sIx n 0 lo : Nat) : Int), (1 : Int), Builtin.Slice.slicePlaces ((sIx n 0 lo : Nat) : Int) ((sIx n n hi : Nat) : Int) 1)) _ _ s
  rw [places_gen]
  exact wpAny_pure h
theorem pick_gen (xs : Array Value) (i k : Nat) : ((List.range k).filterMap fun (m : Nat) => xs[((i : Int) + (m : Int) * 1).toNat]?).toArray = ((xs.toList.drop i).take k).toArray := by
  have e : (fun (m : Nat) => xs[((i : Int) + (m : Int) * 1).toNat]?) = fun m => xs[i + m]? := by
    funext m
    have : ((i : Int) + (m : Int) * 1).toNat = i + m := by omega
    rw [this]
  rw [e]
  have := pick_run xs i k
  rw [List.filterMap_map] at this
  have e2 : ((fun x => xs[x]?) ∘ fun x => i + x) = fun m => xs[i + m]? := rfl
  rw [e2] at this
  rw [this]

theorem getItem_tuple_cut {t sl : Addr} {items : Array Value} {vl vu : Value} {lo hi : Option Int} {Q : Value → Shared → Prop} (ht : IsTup s.heap t items) (hs : s.heap.IsSliceOf sl vl vu .none) (pl : IsPart vl lo) (pu : IsPart vu hi)
    (hw : ¬ (sIx items.size 0 lo = 0 ∧ sIx items.size items.size hi = items.size))
    (h : Q (.ref s.heap.objs.size) { s with heap := s.heap.push { cls := .type "tuple", data := .seq ((items.toList.drop (sIx items.size 0 lo)).take (sIx items.size items.size hi - sIx items.size 0 lo)).toArray } })
    (hsz : items.size ≤ sizeLine) : wpAny (model prog w) A (getItem (.ref t) (.ref sl)) Q E s := by
  have htake : sizeOk (.seq ((items.toList.drop (sIx items.size 0 lo)).take (sIx items.size items.size hi - sIx items.size 0 lo)).toArray) := by
    show ((items.toList.drop (sIx items.size 0 lo)).take (sIx items.size items.size hi - sIx items.size 0 lo)).toArray.size ≤ sizeLine
    rw [List.size_toArray, List.length_take, List.length_drop, Array.length_toList]
    omega
  have hj : sIx items.size items.size hi ≤ items.size := sIx_le _ _ (Nat.le_refl _) hi
  obtain ⟨os, hos, hcs, hds⟩ := id hs
  have hTs : s.TypeIs (.ref sl) "slice" := ⟨os, hos, hcs⟩
  unfold getItem
  try with_reducible refine wpAny_holding ?_
  first | refine wpAny_bind (wpAny_pure ?_) | skip
  refine wpAny_bind (wpAny_sequenceKey ht.typeIs (by decide) ?_)
  refine wpAny_bind (wpAny_callSpecial?_slot (name := Str.ofString "__getitem__") ht.typeIs PyProof.Rows.slot_tuple_getitem
    (wpAny_call_entry PyProof.Rows.slot_tuple_getitem ht.typeIs entry_tuple_getitem ?_ (args_tuple_getitem _ _)))
  show wpAny _ _ (Builtin.Tuple.tupleItemsOf (.ref t) >>= _) _ _ s
  refine wpAny_bind (tupleItemsOf_ ht ?_)
  refine wpAny_bind (wpAny_typeOf hTs ?_)
  rw [if_pos (by decide)]
  refine wpAny_bind (sliceApplied_gen hs pl pu ?_)
  have hno : ¬ ((((sIx items.size 0 lo : Nat) : Int) == 0 && (1 : Int) == 1 && (sIx items.size items.size hi - sIx items.size 0 lo) == items.size) = true) := by
    intro q
    rw [Bool.and_eq_true, Bool.and_eq_true] at q
    have q1 : ((sIx items.size 0 lo : Nat) : Int) = 0 := eq_of_beq q.1.1
    have q2 : sIx items.size items.size hi - sIx items.size 0 lo = items.size := eq_of_beq q.2
    exact hw ⟨by omega, by omega⟩
  show wpAny _ _ (if (((sIx items.size 0 lo : Nat) : Int) == 0 && (1 : Int) == 1 && (sIx items.size items.size hi - sIx items.size 0 lo) == items.size) = true then _ else _) _ _ s
  rw [if_neg hno, pick_gen]
  first
    | exact wpAny_bind (m := Builtin.Tuple.tupleExact _) (wpAny_newObj_type (wpAny_pure ⟨_, rfl, wpAny_pure h⟩) htake)
    | exact wpAny_bind (m := Builtin.Tuple.tupleExact _) (wpAny_newObj_type (wpAny_bind (wpAny_pure (wpAny_pure ⟨_, rfl, wpAny_pure h⟩))) htake)
    | exact wpAny_bind (wpAny_bind (m := Builtin.Tuple.tupleExact _) (wpAny_newObj_type (wpAny_pure (wpAny_pure ⟨_, rfl, wpAny_pure h⟩)) htake))
    | exact wpAny_bind (wpAny_bind (m := Builtin.Tuple.tupleExact _) (wpAny_newObj_type (wpAny_pure ⟨_, rfl, wpAny_pure h⟩) htake))
end
end HT

namespace L2
open PySem PySem.Spec PyProof.Rows

/-! ### the parts of a slice -/
abbrev TO := St → Hp → (Option Int → Hp → Prop) → Prop
/-- a slice's part (left out, or an int) -/
def PO (X : Cx) (e : Option Expr) (t : TO) : Prop :=
  ∀ (pins : List (Addr × Obj)) (s : Shared) (σ : St) (H : Hp) (Q : Option Int → Hp → Prop), Inv X pins σ H s → t σ H Q →
    wpAny (model X.prog X.w) X.A (evalPart e X.env) (fun u s' => ∃ o H', Inv X pins σ H' s' ∧ IsPart u o ∧ Q o H') X.xe s
def tNoPart : TO := fun _ H Q => Q none H
def tPart (t : TE) : TO := fun σ H Q => t σ H fun x H1 => ∃ i, x = .int i ∧ Q (some i) H1

section
variable {X : Cx} {e : Expr} {te : TE} {lo hi : Option Expr} {tl th : TO} {pos p2 : Pos}

theorem po_none : PO X none tNoPart := by
  intro pins s σ H Q I h
  rw [evalPart_none]
  exact wpAny_pure ⟨none, H, I, .none, h⟩
theorem po_some (h : PE X e te) : PO X (some e) (tPart te) := by
  intro pins s σ H Q I hw
  rw [evalPart_some]
  refine thn (h pins s σ H _ I hw) fun u s1 ⟨x, H1, I1, r1, q1⟩ => ?_
  obtain ⟨i, rfl, q⟩ := q1
  obtain ⟨t, rfl⟩ := r1
  exact ⟨some i, H1, I1, .int i t, q⟩

/-- what a slice of a value is, by values: the slice object stands at sl -/
def SlR (X : Cx) (r : V → Option Int → Option Int → Hp → VK → Prop) : Prop :=
  ∀ (pins : List (Addr × Obj)) (s : Shared) (σ : St) (H : Hp) (x : V) (v vl vu : Value) (lo hi : Option Int) (sl : Addr) (Q : VK), Inv X pins σ H s → RelV x v → s.heap.IsSliceOf sl vl vu .none → IsPart vl lo → IsPart vu hi → r x lo hi H Q →
    ∃ T id, typeLookup (.type T) "__getitem__" = pure (some (.builtin id)) ∧ s.TypeIs v T ∧ wpAny (model X.prog X.w) X.A (getItem v (.ref sl)) (EP X pins σ Q) X.xe s
theorem SlR.or {r r' : V → Option Int → Option Int → Hp → VK → Prop} (h : SlR X r) (h' : SlR X r') : SlR X (fun x lo hi H Q => r x lo hi H Q ∨ r' x lo hi H Q) := by
  intro pins s σ H x v vl vu lo hi sl Q I rx hs pl pu q
  rcases q with q | q
  · exact h pins s σ H x v vl vu lo hi sl Q I rx hs pl pu q
  · exact h' pins s σ H x v vl vu lo hi sl Q I rx hs pl pu q
def tSl (r : V → Option Int → Option Int → Hp → VK → Prop) (te : TE) (tl th : TO) : TE := fun σ H Q => te σ H fun x H1 => tl σ H1 fun l H2 => th σ H2 fun u H3 => r x l u H3 Q
/-- a[lo:hi], any a -/
theorem pe_slice {r : V → Option Int → Option Int → Hp → VK → Prop} (hr : SlR X r) (he : PE X e te) (hl : PO X lo tl) (hu : PO X hi th) : PE X (.Subscript e (.Slice lo hi none p2) pos) (tSl r te tl th) := by
  intro pins s σ H Q I h
  refine Subscript_ (thn (he pins s σ H _ I h) fun v s1 ⟨x, H1, I1, r1, q1⟩ => ?_)
  refine wpAny_Slice (thn (hl pins s1 σ H1 _ I1 q1) fun vl s2 ⟨l, H2, I2, pl, q2⟩ => thn (hu pins s2 σ H2 _ I2 q2) fun vu s3 ⟨u, H3, I3, pu, q3⟩ => ?_)
  rw [evalPart_none]
  refine wpAny_pure ?_
  have I4 : Inv X pins σ H3 { s3 with heap := s3.heap.push { cls := .type "slice", data := .fields #[vl, vu, .none] } } := I3.kept (t' := s3.toks) fun b ob q => Heap.get?_push_of_some _ q
  obtain ⟨T, id, hT, ht, hg⟩ := hr pins { s3 with heap := s3.heap.push { cls := .type "slice", data := .fields #[vl, vu, .none] } } σ H3 x v vl vu l u s3.heap.objs.size Q I4 r1 (Heap.IsSliceOf.new ..) pl pu q3
  show wpAny (model X.prog X.w) X.A (subscriptTail e (.Slice lo hi none p2) v (.ref s3.heap.objs.size)) (EP X pins σ Q) X.xe { s3 with heap := s3.heap.push { cls := .type "slice", data := .fields #[vl, vu, .none] } }
  exact tail_any (ops := [.ref s3.heap.objs.size, v]) ht hT hg (by with_unfolding_all rfl)

/-- the items of xs[lo:hi] -/
def cutV (xs : List V) (lo hi : Option Int) : List V := (xs.drop (HT.sIx xs.length 0 lo)).take (HT.sIx xs.length xs.length hi - HT.sIx xs.length 0 lo)
theorem cutV_length (xs : List V) (lo hi : Option Int) : (cutV xs lo hi).length ≤ xs.length := by
  unfold cutV
  rw [List.length_take, List.length_drop]
  omega
/-- t[lo:hi], not the whole of it (the whole would be t itself) -/
def rSlT (K : PySem.W.Frag) : V → Option Int → Option Int → Hp → VK → Prop := fun x lo hi H Q => ∃ a xs, x = .ref a ∧ SqT K H a xs ∧
  ¬ (HT.sIx xs.length 0 lo = 0 ∧ HT.sIx xs.length xs.length hi = xs.length) ∧ ∀ p, H p = none → Q (.ref p) (upd H p (.tup (cutV xs lo hi)))
theorem sl_tup : SlR X (rSlT X.K) := by
  intro pins s σ H x v vl vu lo hi sl Q I rx hs pl pu h
  obtain ⟨a, xs, rfl, hx, hw, q⟩ := h
  cases rx
  obtain ⟨its, r, ht, hz⟩ := I.tuple hx
  have hlen : its.toArray.size = xs.length := by rw [List.size_toArray]; exact r.length.symm
  refine ⟨"tuple", _, PyProof.Rows.slot_tuple_getitem.lookup, ht.typeIs, ?_⟩
  refine HT.getItem_tuple_cut ht hs pl pu (by rw [hlen]; exact hw) ?_ (by rw [hlen]; exact hz)
  rw [hlen]
  refine ⟨.ref s.heap.objs.size, _, I.laid (t' := s.toks) (o := .tup (cutV xs lo hi)) (fun b ob q => Heap.get?_push_of_some _ q) (Nat.le_refl _) ?_, rfl, q _ (I.hok.fresh (Nat.le_refl _))⟩
  exact ⟨Nat.le_trans (cutV_length xs lo hi) hz, _, (r.drop (HT.sIx xs.length 0 lo)).take (HT.sIx xs.length xs.length hi - HT.sIx xs.length 0 lo), IsTup.new _ _⟩

/-! ### t < u, t + u -/
/-- t + u, t not empty: u empty gives t itself -/
def rCatT (K : PySem.W.Frag) : R2 := fun x y H Q => ∃ a b xs ys, x = .ref a ∧ y = .ref b ∧ SqT K H a xs ∧ SqT K H b ys ∧ xs ≠ [] ∧ xs.length + ys.length ≤ sizeLine ∧
  (ys = [] → Q (.ref a) H) ∧ (ys ≠ [] → ∀ p, H p = none → Q (.ref p) (upd H p (.tup (xs ++ ys))))
theorem Vals.nil_iff {xs : List V} {us : List Value} (r : Vals xs us) : us = [] ↔ xs = [] := by
  cases r with
  | nil => simp
  | cons _ _ => simp
theorem op_catT : OpR X (binaryOp .Add) (rCatT X.K) := by
  intro pins s σ H x y v u Q I rx ry h
  obtain ⟨a, b, xs, ys, rfl, rfl, ha, hb, hx, hz, q1, q2⟩ := h
  cases rx
  cases ry
  obtain ⟨its, r1, p1, _⟩ := I.tuple ha
  obtain ⟨its2, r2, p2, _⟩ := I.tuple hb
  refine HT.cat_tup p1 p2 (fun z => hx (r1.nil_iff.mp z)) (fun z => ⟨.ref a, H, I, rfl, q1 (r2.nil_iff.mp z)⟩) (fun z => ?_) (by rw [← r1.length, ← r2.length]; exact hz)
  refine ⟨.ref s.heap.objs.size, _, I.laid (t' := s.toks) (o := .tup (xs ++ ys)) (fun b ob q => Heap.get?_push_of_some _ q) (Nat.le_refl _) ?_, rfl, q2 (fun w => z (r2.nil_iff.mpr w)) _ (I.hok.fresh (Nat.le_refl _))⟩
  exact ⟨by rw [List.length_append]; exact hz, _, r1.append r2, IsTup.new _ _⟩
end
end L2

namespace L2
open PySem PySem.Spec PyProof.Rows

/-! ### places -/
/-- the place that an index of any sign means -/
def ixN (n : Nat) (i : Int) : Option Nat := if 0 ≤ i then (if i < n then some i.toNat else none) else if -(n : Int) ≤ i then some (i + n).toNat else none
def atI {α : Type} (xs : List α) (i : Int) : Option α := (ixN xs.length i).bind fun j => xs[j]?
theorem ixN_seq {n : Nat} {i : Int} {j : Nat} (h : ixN n i = some j) : seqIndex? i n = some j ∧ j < n ∧ -(n : Int) ≤ i ∧ i < n := by
  unfold ixN at h
  by_cases h0 : 0 ≤ i
  · rw [if_pos h0] at h
    by_cases h1 : i < n
    · rw [if_pos h1] at h
      have e : i.toNat = j := Option.some.inj h
      exact ⟨by rw [seqIndex_of h0 h1, e], by omega, by omega, h1⟩
    · rw [if_neg h1] at h; cases h
  · rw [if_neg h0] at h
    by_cases h1 : -(n : Int) ≤ i
    · rw [if_pos h1] at h
      have e : (i + n).toNat = j := Option.some.inj h
      exact ⟨by rw [seqIndex_neg (by omega) h1, e], by omega, h1, by omega⟩
    · rw [if_neg h1] at h; cases h
theorem atI_get {α : Type} {xs : List α} {i : Int} {v : α} (h : atI xs i = some v) : ∃ j, seqIndex? i xs.length = some j ∧ xs[j]? = some v ∧ j < xs.length ∧ -(xs.length : Int) ≤ i ∧ i < xs.length := by
  unfold atI at h
  cases e : ixN xs.length i with
  | none => rw [e] at h; cases h
  | some j =>
    rw [e] at h
    obtain ⟨h1, h2, h3, h4⟩ := ixN_seq e
    exact ⟨j, h1, h, h2, h3, h4⟩
theorem atI_nat {α : Type} {xs : List α} {j : Nat} {v : α} (h : xs[j]? = some v) : atI xs (j : Int) = some v := by
  have hj : j < xs.length := (List.getElem?_eq_some_iff.mp h).1
  have e : ixN xs.length (j : Int) = some j := by
    unfold ixN
    rw [if_pos (by omega), if_pos (by omega)]; simp
  unfold atI; rw [e]; exact h
theorem atI_last {α : Type} (xs : List α) (v : α) : atI (xs ++ [v]) (-1) = some v := by
  have hl : (xs ++ [v]).length = xs.length + 1 := by simp
  have e : ixN (xs ++ [v]).length (-1) = some xs.length := by
    unfold ixN
    rw [hl, if_neg (by decide), if_pos (by omega)]
    congr 1
    omega
  unfold atI
  rw [e]
  show (xs ++ [v])[xs.length]? = some v
  simp

/-! ### what may be subscripted -/
/-- what stands as an index of a plain subscript -/
def PlainIx (b : Expr) : Prop := ∀ o i, subscripted b false o i = operate [o, i] (getItem o i)
/-- a subscript by values -/
def IxR (X : Cx) (r : R2) : Prop :=
  ∀ (value slice : Expr) (pins : List (Addr × Obj)) (s : Shared) (σ : St) (H : Hp) (x y : V) (v u : Value) (Q : VK), Inv X pins σ H s → RelV x v → RelV y u → r x y H Q →
    subscripted slice false v u = operate [v, u] (getItem v u) → wpAny (model X.prog X.w) X.A (subscriptTail value slice v u) (EP X pins σ Q) X.xe s
/-- a call of a builtin's method by values: the receiver, the arguments -/
def MtR (X : Cx) (id : String) (r : V → List V → Hp → VK → Prop) : Prop :=
  ∀ (pins : List (Addr × Obj)) (s : Shared) (σ : St) (H : Hp) (x : V) (xs : List V) (v : Value) (us : List Value) (Q : VK), Inv X pins σ H s → RelV x v → Vals xs us → r x xs H Q →
    wpAny (model X.prog X.w) X.A (call (.builtin id) (v :: us)) (EP X pins σ Q) X.xe s
section
variable {X : Cx} {a b : Expr} {ta tb : TE} {pos : Pos}
theorem IxR.or {r r' : R2} (h : IxR X r) (h' : IxR X r') : IxR X (fun x y H Q => r x y H Q ∨ r' x y H Q) := by
  intro value slice pins s σ H x y v u Q I rx ry q hs
  rcases q with q | q
  · exact h value slice pins s σ H x y v u Q I rx ry q hs
  · exact h' value slice pins s σ H x y v u Q I rx ry q hs
theorem MtR.or {id : String} {r r' : V → List V → Hp → VK → Prop} (h : MtR X id r) (h' : MtR X id r') : MtR X id (fun x xs H Q => r x xs H Q ∨ r' x xs H Q) := by
  intro pins s σ H x xs v us Q I rx rs q
  rcases q with q | q
  · exact h pins s σ H x xs v us Q I rx rs q
  · exact h' pins s σ H x xs v us Q I rx rs q
/-- a[b] -/
theorem pe_ix {r : R2} (hr : IxR X r) (ha : PE X a ta) (hb : PE X b tb) (hs : PlainIx b) : PE X (.Subscript a b pos) (tOp r ta tb) := by
  intro pins s σ H Q I h
  exact Subscript_ (binT ha hb I h fun v u s2 x y H2 I2 rx ry q => hr a b pins s2 σ H2 x y v u Q I2 rx ry q (hs _ _))

def rIxL (K : PySem.W.Frag) : R2 := fun x y H Q => ∃ p xs i v, x = .ref p ∧ y = .int i ∧ SqL K H p xs ∧ atI xs i = some v ∧ Q v H
def rIxT (K : PySem.W.Frag) : R2 := fun x y H Q => ∃ p xs i v, x = .ref p ∧ y = .int i ∧ SqT K H p xs ∧ atI xs i = some v ∧ Q v H
theorem ix_list : IxR X (rIxL X.K) := by
  intro value slice pins s σ H x y v u Q I rx ry h hs
  obtain ⟨p, xs, i, z, rfl, rfl, hq, he, q⟩ := h
  cases rx
  obtain ⟨t, rfl⟩ := ry
  obtain ⟨its, r, pl, hz⟩ := I.list hq
  obtain ⟨j, h1, h2, h3, h4, h5⟩ := atI_get he
  obtain ⟨w, ew, rw'⟩ := r.get h2
  have hl := r.length
  have hn := line63
  have fin : EP X pins σ Q w s := ⟨z, H, I, rw', q⟩
  by_cases h0 : 0 ≤ i
  · have hj : i.toNat = j := by
      rw [seqIndex_of h0 h5] at h1
      exact Option.some.inj h1
    exact item_listR pl.isList h0 (by omega) (by rw [hj]; simpa using ew) fin hs
  · have hj : (i + (its.toArray.size : Int)).toNat = j := by
      rw [seqIndex_neg (by omega) h4] at h1
      rw [List.size_toArray, ← hl]
      exact Option.some.inj h1
    exact subscriptTail_builtinR (x := w) pl.isList.typeIs slot_list_getitem.lookup
      (wpAny_getItem_list_neg (Q := fun r s' => r = w ∧ EP X pins σ Q r s') pl.isList (by omega) (by rw [List.size_toArray] <;> omega) (by omega) (by rw [hj]; simpa using ew) ⟨rfl, fin⟩) hs
theorem ix_tup : IxR X (rIxT X.K) := by
  intro value slice pins s σ H x y v u Q I rx ry h hs
  obtain ⟨p, xs, i, z, rfl, rfl, hq, he, q⟩ := h
  cases rx
  obtain ⟨t, rfl⟩ := ry
  obtain ⟨its, r, pl, hz⟩ := I.tuple hq
  obtain ⟨j, h1, h2, h3, h4, h5⟩ := atI_get he
  obtain ⟨w, ew, rw'⟩ := r.get h2
  have hl := r.length
  have hn := line63
  have fin : EP X pins σ Q w s := ⟨z, H, I, rw', q⟩
  exact subscriptTail_builtinR (x := w) pl.typeIs slot_tuple_getitem.lookup
    (getItem_tuple (j := j) (Q := fun r s' => r = w ∧ EP X pins σ Q r s') pl (by omega) (by omega) (by rw [List.size_toArray, ← hl]; exact h1) (by simpa using ew) ⟨rfl, fin⟩) hs
/-! ### xs[i] = v, any sign -/
/-- the list's object behind a store -/
theorem mapSeq_set (its : List Value) (n j : Nat) (u : Value) : Obj.mapSeq (·.setIfInBounds j u) { cls := .type "list", data := .seq its.toArray n } = { cls := .type "list", data := .seq (its.set j u).toArray n } := by
  simp [Obj.mapSeq]
theorem Inv.lst {pins : List (Addr × Obj)} {σ : St} {H : Hp} {s : Shared} {p : Addr} {xs : List V} (I : Inv X pins σ H s) (h : H p = some (.lst xs)) :
    ∃ (its : List Value) (n : Nat), Vals xs its ∧ s.heap.get? p = some { cls := .type "list", data := .seq its.toArray n } ∧ xs.length ≤ sizeLine := by
  obtain ⟨z, its, n, r, e⟩ := I.hok p _ h
  exact ⟨its, n, r, e, z⟩
/-- the list at p is written by an update of its object -/
theorem Inv.lstUpd {pins : List (Addr × Obj)} {σ : St} {H : Hp} {s : Shared} {p : Addr} {xs ys : List V} {its its' : List Value} {n n' : Nat} {f : Obj → Obj} (I : Inv X pins σ H s) (h : H p = some (.lst xs))
    (ho : s.heap.get? p = some { cls := .type "list", data := .seq its.toArray n }) (hf : f { cls := .type "list", data := .seq its.toArray n } = { cls := .type "list", data := .seq its'.toArray n' }) (r : Vals ys its') (hz : ys.length ≤ sizeLine) (t : Nat) :
    Inv X pins σ (upd H p (.lst ys)) { s with heap := s.heap.update p f, toks := t } := by
  have e : (s.heap.update p f).get? p = some { cls := .type "list", data := .seq its'.toArray n' } := by
    rw [Heap.get?_update_self f ho (by rw [hf] <;> rfl), hf]
  refine I.write (x := p) (e := p) (by rw [h]; trivial) (.inl rfl) (fun b u hb q => (Heap.get?_update_other _ _ (Ne.symm hb)).trans q) ⟨_, e⟩ ?_
  exact ⟨hz, its', n', r, e⟩
def rSetL : V → V → V → Hp → (Hp → Prop) → Prop := fun o i v H Q => ∃ p xs k j, o = .ref p ∧ i = .int k ∧ H p = some (.lst xs) ∧ ixN xs.length k = some j ∧ Q (upd H p (.lst (xs.set j v)))
theorem set_list : PSet X rSetL := by
  intro pins s σ H o i v ov iv u Q I ro ri rv h
  obtain ⟨p, xs, k, j, rfl, rfl, hp, hj, q⟩ := h
  cases ro
  obtain ⟨t, rfl⟩ := ri
  obtain ⟨its, n, r, ho, hz⟩ := I.lst hp
  obtain ⟨h1, h2, h3, h4⟩ := ixN_seq hj
  have hl := r.length
  have hn := line63
  have I' : Inv X pins σ (upd H p (.lst (xs.set j v))) { s with heap := s.heap.update p (Obj.mapSeq (·.setIfInBounds j u)) } :=
    I.lstUpd hp ho (mapSeq_set its n j u) (r.set rv j) (by rw [List.length_set]; exact hz) s.toks
  by_cases h0 : 0 ≤ k
  · have hk : k.toNat = j := by
      rw [seqIndex_of h0 h4] at h1
      exact Option.some.inj h1
    exact PySem.W.ki_setAt ho h0 (by omega) (by rw [List.size_toArray, ← hl]; exact h4) (by rw [hk]; exact ⟨_, I', q⟩)
  · have hk : (k + (its.toArray.size : Int)).toNat = j := by
      rw [seqIndex_neg (by omega) h3] at h1
      rw [List.size_toArray, ← hl]
      exact Option.some.inj h1
    exact PySem.W.ki_setBack ho (by omega) (by rw [List.size_toArray, ← hl]; exact h3) (by omega) (by rw [hk]; exact ⟨_, I', q⟩)

/-! ### slices -/
theorem slice_bounds (lo hi : Option Int) (n : Nat) : (sliceBounds lo hi none n).1 = ((HT.sIx n 0 lo : Nat) : Int) ∧ (sliceBounds lo hi none n).2.1 = ((HT.sIx n n hi : Nat) : Int) ∧ (sliceBounds lo hi none n).2.2 = 1 := by
  refine ⟨?_, ?_, rfl⟩
  · cases lo with
    | none => simp [sliceBounds, HT.sIx]
    | some i =>
      simp only [sliceBounds, HT.sIx, Option.getD_none, show (1 : Int) > 0 by decide, if_true]
      by_cases h : i < 0
      · simp only [h, if_true] <;> omega
      · simp only [h, if_false] <;> omega
  · cases hi with
    | none => simp [sliceBounds, HT.sIx]
    | some i =>
      simp only [sliceBounds, HT.sIx, Option.getD_none, show (1 : Int) > 0 by decide, if_true]
      by_cases h : i < 0
      · simp only [h, if_true] <;> omega
      · simp only [h, if_false] <;> omega
theorem slicePick_cut (its : List Value) (lo hi : Option Int) : slicePick its.toArray lo hi none = ((its.drop (HT.sIx its.length 0 lo)).take (HT.sIx its.length its.length hi - HT.sIx its.length 0 lo)).toArray := by
  obtain ⟨h1, h2, h3⟩ := slice_bounds lo hi its.toArray.size
  unfold slicePick
  rw [h1, h2, h3]
  simp only [sliceRange_one, pick_run, List.size_toArray] <;> rfl
/-- xs[lo:hi] of a list: a new list -/
def rSlL (K : PySem.W.Frag) : V → Option Int → Option Int → Hp → VK → Prop := fun x lo hi H Q => ∃ a xs, x = .ref a ∧ SqL K H a xs ∧ ∀ p, H p = none → Q (.ref p) (upd H p (.lst (cutV xs lo hi)))
theorem sl_list : SlR X (rSlL X.K) := by
  intro pins s σ H x v vl vu lo hi sl Q I rx hs pl pu h
  obtain ⟨a, xs, rfl, hx, q⟩ := h
  cases rx
  obtain ⟨its, r, ht, hz⟩ := I.list hx
  have hlen := r.length
  refine ⟨"list", _, slot_list_getitem.lookup, ht.isList.typeIs, ?_⟩
  refine wpAny_getItem_list_slice ht.isList hs pl pu .none (by simp) ?_ (by rw [List.size_toArray] <;> omega)
  rw [slicePick_cut, ← hlen]
  refine ⟨.ref s.heap.objs.size, _, I.laid (t' := s.toks) (o := .lst (cutV xs lo hi)) (fun b ob q => Heap.get?_push_of_some _ q) (Nat.le_refl _) ?_, rfl, q _ (I.hok.fresh (Nat.le_refl _))⟩
  exact ⟨Nat.le_trans (cutV_length xs lo hi) hz, _, 0, (r.drop (HT.sIx xs.length 0 lo)).take (HT.sIx xs.length xs.length hi - HT.sIx xs.length 0 lo), Heap.get?_push_size _ rfl⟩

/-! ### in, not in: flat items -/
def flatV : V → Bool
  | .non => true
  | .bl _ => true
  | .int _ => true
  | .str _ => true
  | _ => false
/-- == of flat values -/
def eqV : V → V → Bool
  | .non, .non => true
  | .bl a, .bl b => a == b
  | .bl a, .int b => (if a then 1 else 0) == b
  | .int a, .bl b => a == (if b then 1 else 0)
  | .int a, .int b => a == b
  | .str a, .str b => a == b
  | _, _ => false
theorem eqAt_V {A : Around} {s : Shared} {y x : V} {u v : Value} (ry : RelV y u) (rx : RelV x v) (fy : flatV y = true) (fx : flatV x = true) : SeqAt.EqAt A s u v (eqV y x) := by
  cases y with
  | non =>
    cases ry
    cases x with
    | non => cases rx; exact SeqAt.EqAt.same _
    | bl b => cases rx; exact SeqAt.EqAt.none_bool b
    | int b => obtain ⟨t, rfl⟩ := rx; exact SeqAt.EqAt.none_int b t
    | str b => obtain ⟨t, rfl⟩ := rx; exact SeqAt.EqAt.none_str b t
    | _ => exact absurd (show false = true from fx) Bool.false_ne_true
  | bl a =>
    cases ry
    cases x with
    | non => cases rx; exact SeqAt.EqAt.bool_none a
    | bl b => cases rx; exact SeqAt.EqAt.bool_bool a b
    | int b => obtain ⟨t, rfl⟩ := rx; exact SeqAt.EqAt.bool_int a b t
    | str b => obtain ⟨t, rfl⟩ := rx; exact SeqAt.EqAt.bool_str a b t
    | _ => exact absurd (show false = true from fx) Bool.false_ne_true
  | int a =>
    obtain ⟨t', rfl⟩ := ry
    cases x with
    | non => cases rx; exact SeqAt.EqAt.int_none a t'
    | bl b => cases rx; exact SeqAt.EqAt.int_bool a t' b
    | int b => obtain ⟨t, rfl⟩ := rx; exact SeqAt.EqAt.int_int a t' b t
    | str b => obtain ⟨t, rfl⟩ := rx; exact SeqAt.EqAt.int_str a t' b t
    | _ => exact absurd (show false = true from fx) Bool.false_ne_true
  | str a =>
    obtain ⟨t', rfl⟩ := ry
    cases x with
    | non => cases rx; exact SeqAt.EqAt.str_none a t'
    | bl b => cases rx; exact SeqAt.EqAt.str_bool a t' b
    | int b => obtain ⟨t, rfl⟩ := rx; exact SeqAt.EqAt.str_int a t' b t
    | str b => obtain ⟨t, rfl⟩ := rx; exact SeqAt.EqAt.str_str a t' b t
    | _ => exact absurd (show false = true from fx) Bool.false_ne_true
  | _ => exact absurd (show false = true from fy) Bool.false_ne_true
/-- the items' answers, read off the values (a value's own answer does not lean on its token) -/
def eqU (x : V) (u : Value) : Bool := match u with
  | .none => eqV .non x
  | .bool b => eqV (.bl b) x
  | .int i _ => eqV (.int i) x
  | .str z _ => eqV (.str z) x
  | _ => false
theorem eqU_of {x y : V} {u : Value} (r : RelV y u) (f : flatV y = true) : eqU x u = eqV y x := by
  cases y with
  | non => cases r; rfl
  | bl b => cases r; rfl
  | int i => obtain ⟨t, rfl⟩ := r; rfl
  | str z => obtain ⟨t, rfl⟩ := r; rfl
  | _ => exact absurd (show false = true from f) Bool.false_ne_true
theorem mem_eqAt {A : Around} {s : Shared} {x : V} {v : Value} (rx : RelV x v) (fx : flatV x = true) : ∀ {xs : List V} {us : List Value}, Vals xs us → xs.all flatV = true → ∀ u ∈ us, SeqAt.EqAt A s u v (eqU x u)
  | _, _, .nil, _ => fun u hu => by cases hu
  | y :: xs, u :: us, .cons r t, f => fun u' hu => by
    rw [List.all_cons, Bool.and_eq_true] at f
    rcases List.mem_cons.mp hu with rfl | hu
    · rw [eqU_of r f.1]; exact eqAt_V r rx f.1 fx
    · exact mem_eqAt rx fx t f.2 u' hu
/-! ### len, list(x), tuple(x) of any list or tuple that is read -/
theorem call_len_seq : CallR X (.builtin "len") (fun xs H Q => ∃ p ys, xs = [.ref p] ∧ (SqL X.K H p ys ∨ SqT X.K H p ys) ∧ Q (.int ys.length) H) := by
  intro pins s σ H xs us Q I r h
  obtain ⟨p, ys, rfl, hq, q⟩ := h
  obtain ⟨u, rfl, rx⟩ := vals1 r
  cases rx
  have hn := line63
  rcases hq with hq | hq
  · obtain ⟨its, r', pl, hz⟩ := I.list hq
    have hlen := r'.length
    exact Calls.call_len_list pl.isList (by simp only [List.size_toArray] <;> omega) ⟨.int ys.length, H, I.tok _, ⟨s.toks + 1, by rw [List.size_toArray, hlen]⟩, q⟩
  · obtain ⟨its, r', pl, hz⟩ := I.tuple hq
    have hlen := r'.length
    exact len_tuple pl (by simp only [List.size_toArray] <;> omega) ⟨.int ys.length, H, I.tok _, ⟨s.toks + 1, by rw [List.size_toArray, hlen]⟩, q⟩
theorem CallR.or {f : Value} {r r' : List V → Hp → VK → Prop} (h : CallR X f r) (h' : CallR X f r') : CallR X f (fun xs H Q => r xs H Q ∨ r' xs H Q) := by
  intro pins s σ H xs us Q I rs q
  rcases q with q | q
  · exact h pins s σ H xs us Q I rs q
  · exact h' pins s σ H xs us Q I rs q
/-! ### the call of a builtin's method: o.m(..) -/
/-- the value is of that builtin type -/
def tyV (K : PySem.W.Frag) (T : String) (x : V) (H : Hp) : Prop := match x with
  | .str _ => T = "str"
  | .int _ => T = "int"
  | .ref p => (T = "list" ∧ ∃ xs, SqL K H p xs) ∨ (T = "tuple" ∧ ∃ o, K.lookup p = some o ∧ o.cls = .type "tuple" ∧ o.dict = none) ∨
      (T = "dict" ∧ ((∃ kvs, H p = some (.dK kvs)) ∨ ∃ kvs, H p = some (.dT kvs))) ∨ (T = "set" ∧ ∃ S n, H p = some (.set S n))
  | _ => False
theorem tyV_is {pins : List (Addr × Obj)} {σ : St} {H : Hp} {s : Shared} {T : String} {x : V} {v : Value} (I : Inv X pins σ H s) (r : RelV x v) (ty : tyV X.K T x H) :
    s.TypeIs v T ∧ ∀ a, v = .ref a → ∃ ob, s.heap.get? a = some ob ∧ ob.dict = none := by
  cases x with
  | str z =>
    obtain ⟨t, rfl⟩ := r
    cases (show T = "str" from ty)
    exact ⟨typeIs_str s z t, fun _ e => nomatch e⟩
  | int i =>
    obtain ⟨t, rfl⟩ := r
    cases (show T = "int" from ty)
    exact ⟨typeIs_int s i t, fun _ e => nomatch e⟩
  | ref p =>
    cases r
    rcases ty with ⟨rfl, xs, hq⟩ | ⟨rfl, o, hk, hc, hd⟩ | ⟨rfl, hk⟩ | ⟨rfl, S, n, hk⟩
    · obtain ⟨its, _, pl, _⟩ := I.list hq
      refine ⟨pl.isList.typeIs, fun a e => ?_⟩
      cases e
      obtain ⟨o, n, e, c, hd, _⟩ := pl
      exact ⟨o, e, hd⟩
    · refine ⟨⟨o, I.kIn p o hk, hc⟩, fun a e => ?_⟩
      cases e
      exact ⟨o, I.kIn _ o hk, hd⟩
    · have z : ∃ o, s.heap.get? p = some o ∧ o.ExactDict := by
        rcases hk with ⟨kvs, hk⟩ | ⟨kvs, hk⟩
        · obtain ⟨_, _, _, _, o, _, _, e, ex, _⟩ := I.hok p _ hk
          exact ⟨o, e, ex⟩
        · obtain ⟨_, _, _, _, o, _, _, e, ex, _⟩ := I.hok p _ hk
          exact ⟨o, e, ex⟩
      obtain ⟨o, e, ex⟩ := z
      refine ⟨⟨o, e, ex.1⟩, fun a e2 => ?_⟩
      cases e2
      exact ⟨o, e, ex.2.1⟩
    · obtain ⟨o, _, _, _, e, ex, _⟩ := I.hok p _ hk
      refine ⟨⟨o, e, ex.1⟩, fun a e2 => ?_⟩
      cases e2
      exact ⟨o, e, ex.2.1⟩
  | _ => exact False.elim ty
def tBM (K : PySem.W.Frag) (T : String) (r : V → List V → Hp → VK → Prop) (to : TE) (t : TA) : TE := fun σ H Q => to σ H fun x H1 => tyV K T x H1 ∧ t σ H1 fun xs H2 => r x xs H2 Q
variable {o e : Expr} {es : List Expr} {to : TE} {t : TA} {name : Str} {apos cpos : Pos} {T id : String} {r : V → List V → Hp → VK → Prop}
theorem pe_bm (pa : PlainAttrs T) (slot : Slot T name id) (hty : typeOf (.builtin id) = pure (.type "method_descriptor")) (hm : MtR X id r) (ho : PE X o to) (ha : PA X (e :: es) t)
    (hbase : attributeBase o name X.env (eval o X.env) = eval o X.env := by rfl)
    (hfew : ((backTo cpos (starEach (e :: es) X.env)).all (fun x => !x.1) && (backToKw cpos (keywordEach [] X.env)).all (fun x => x.1.isSome)
      && decide ((e :: es).length + ([] : List Keyword).length + (if ([] : List Keyword).isEmpty then 0 else 1) < 30)) = true := by rfl)
    (hline : (apos.endLine == cpos.line) = true := by rfl) (hs : starEach (e :: es) X.env = (false, eval e X.env) :: starEach es X.env := by rfl) (hplain : (backTo cpos (starEach es X.env)).any (·.1) = false := by rfl) :
    PE X (.Call (.Attribute o name apos) (e :: es) [] cpos) (tBM X.K T r to t) := by
  intro pins s σ H Q I h
  refine wpAny_Call_method_late hbase hfew hline rfl (thn (ho pins s σ H _ I h) fun v s1 ⟨x, H1, I1, r1, ty, q1⟩ => ?_)
  obtain ⟨h1, h2⟩ := tyV_is I1 r1 ty
  refine ⟨T, id, pa, slot, hty, h1, h2, ?_⟩
  have hA := ha cpos pins s1 σ H1 _ I1 q1
  rw [hs] at hA ⊢
  refine Calls.callWith_builtin (by show (false || (backTo cpos (starEach es X.env)).any (·.1)) = false; rw [hplain] <;> rfl) (Calls.evalArgs_plain ?_)
  exact thn hA fun us s2 ⟨vs, H2, I2, r2, q2⟩ => hm pins s2 σ H2 x vs v us Q I2 r1 r2 q2
/- xs.append(e), list.index on a module's tuple .. are MtR facts of 06m -/
end
end L2

namespace L2
open PySem PySem.Spec PyProof.Rows

def MtM (X : Cx) (id : String) (r : V → List V → Hp → VK → Prop) : Prop :=
  ∀ (pins : List (Addr × Obj)) (s : Shared) (σ : St) (H : Hp) (x : V) (xs : List V) (v : Value) (us : List Value) (Q : VK), Inv X pins σ H s → RelV x v → Vals xs us → r x xs H Q →
    wpAny (model X.prog X.w) X.A (call (.builtin id) (v :: us)) (EP X pins σ Q) X.xe s

/-! ### lists of values -/
theorem Vals.one : ∀ {x : V} {us : List Value}, Vals [x] us → ∃ u, us = [u] ∧ RelV x u
  | _, _, .cons r .nil => ⟨_, rfl, r⟩
theorem Vals.zero : ∀ {us : List Value}, Vals [] us → us = []
  | _, .nil => rfl
theorem Vals.dropLast {xs : List V} {us : List Value} (h : Vals xs us) : Vals xs.dropLast us.dropLast := by
  induction h with
  | nil => exact .nil
  | cons r t ih =>
    cases t with
    | nil => exact .nil
    | cons q t' => exact .cons r ih
theorem Vals.rep {xs : List V} {us : List Value} (h : Vals xs us) : ∀ k : Nat, Vals (List.replicate k xs).flatten (List.replicate k us).flatten
  | 0 => .nil
  | k + 1 => by
    rw [List.replicate_succ, List.replicate_succ, List.flatten_cons, List.flatten_cons]
    exact Vals.append h (Vals.rep h k)
theorem foldl_rep (its : List Value) : ∀ (k : Nat) (acc : List Value),
    List.foldl (fun x1 x2 => x1 ++ x2) acc.toArray (List.replicate k its.toArray) = (acc ++ (List.replicate k its).flatten).toArray
  | 0, acc => by simp
  | k + 1, acc => by
    have e : acc.toArray ++ its.toArray = (acc ++ its).toArray := by simp
    have e2 : (acc ++ its) ++ (List.replicate k its).flatten = acc ++ (List.replicate (k + 1) its).flatten := by
      rw [List.replicate_succ, List.flatten_cons, List.append_assoc]
    rw [← e2, ← foldl_rep its k (acc ++ its), ← e, List.replicate_succ, List.foldl_cons]

section
variable {X : Cx} {pins : List (Addr × Obj)} {σ : St} {H : Hp} {s : Shared} {l b : Addr} {xs ys zs : List V}

/-! ### the two steps: a tracked list is rewritten, a new list is laid -/
theorem Inv.lset {its its' : List Value} {n : Nat} {f : Array Value → Array Value} {t' : Nat} (I : Inv X pins σ H s) (hH : H l = some (.lst xs))
    (e : s.heap.get? l = some { cls := .type "list", data := .seq its.toArray n }) (hf : f its.toArray = its'.toArray) (hv : Vals ys its') (hz : ys.length ≤ sizeLine) :
    Inv X pins σ (upd H l (.lst ys)) { s with heap := s.heap.update l (Obj.mapSeq f), toks := t' } := by
  have q := PySem.IsL.update e f
  rw [hf] at q
  refine I.write (x := l) (e := l) (by rw [hH]; exact trivial) (.inl rfl) (fun b' u hb hu => (Heap.get?_update_other s.heap (Obj.mapSeq f) (Ne.symm hb)).trans hu) ⟨_, q⟩ ?_
  exact ⟨hz, its', _, hv, q⟩
theorem Inv.lnew {its : List Value} {t' : Nat} (I : Inv X pins σ H s) (hv : Vals ys its) (hz : ys.length ≤ sizeLine) :
    Inv X pins σ (upd H s.heap.objs.size (.lst ys)) { s with heap := s.heap.push { cls := .type "list", data := .seq its.toArray }, toks := t' } :=
  I.laid (fun _ _ q => Heap.get?_push_of_some _ q) (Nat.le_refl _) ⟨hz, its, 0, hv, Heap.get?_push_size _ rfl⟩
theorem Inv.fresh (I : Inv X pins σ H s) : H s.heap.objs.size = none := I.hok.fresh (Nat.le_refl _)
theorem Inv.lstM (I : Inv X pins σ H s) (hH : H l = some (.lst xs)) : xs.length ≤ sizeLine ∧ ∃ (its : List Value) (n : Nat), Vals xs its ∧ xs.length = its.length ∧ s.heap.get? l = some { cls := .type "list", data := .seq its.toArray n } := by
  obtain ⟨z, its, n, r, e⟩ := I.hok l _ hH
  exact ⟨z, its, n, r, r.length, e⟩

theorem notLongL {n : Nat} (h : n ≤ sizeLine) : Builtin.List.listTooLong n = false := by
  unfold Builtin.List.listTooLong
  exact decide_eq_false (by omega)
end

section
variable {X : Cx}

/-! ### methods -/
def rAppend : V → List V → Hp → VK → Prop := fun x vs H Q => ∃ l xs y, x = .ref l ∧ vs = [y] ∧ H l = some (.lst xs) ∧ xs.length < sizeLine ∧ Q .non (upd H l (.lst (xs ++ [y])))
theorem mt_append : MtM X "list.append" rAppend := by
  intro pins s σ H x vs v us Q I rx rv h
  obtain ⟨l, xs, y, rfl, rfl, hH, hz, q⟩ := h
  cases rx
  obtain ⟨u, rfl, ru⟩ := rv.one
  obtain ⟨z, its, n, r, hl, e⟩ := I.lstM hH
  refine call_meets F.slot_list_append ⟨_, e, rfl⟩ F.entry_list_append (F.args_list_append_2 _ _) (PySem.list_append l its.toArray n u (by rw [List.size_toArray]; omega)) ⟨e, ?_⟩
  refine ⟨.non, _, I.lset (its' := its ++ [u]) hH e (by simp) (r.append (.cons ru .nil)) ?_, rfl, q⟩
  rw [List.length_append, List.length_singleton]
  omega

def rExtend : V → List V → Hp → VK → Prop := fun x vs H Q => ∃ l b xs zs, x = .ref l ∧ vs = [.ref b] ∧ H l = some (.lst xs) ∧ H b = some (.lst zs) ∧ xs.length + zs.length ≤ sizeLine ∧ Q .non (upd H l (.lst (xs ++ zs)))
theorem mt_extend : MtM X "list.extend" rExtend := by
  intro pins s σ H x vs v us Q I rx rv h
  obtain ⟨l, b, xs, zs, rfl, rfl, hH, hB, hz, q⟩ := h
  cases rx
  obtain ⟨u, rfl, ru⟩ := rv.one
  cases ru
  obtain ⟨z, its, n, r, hl, e⟩ := I.lstM hH
  obtain ⟨z2, its2, n2, r2, hl2, e2⟩ := I.lstM hB
  have hsz : its.toArray.size + its2.toArray.size ≤ sizeLine := by rw [List.size_toArray, List.size_toArray]; omega
  have hlong : ¬ (!its.toArray.isEmpty && Builtin.List.listTooLong (its.toArray.size + its2.toArray.size)) = true := by
    rw [notLongL hsz, Bool.and_false]
    exact Bool.false_ne_true
  refine call_meets F.slot_list_extend ⟨_, e, rfl⟩ F.entry_list_extend (F.args_list_extend_2 _ _)
    (AutoSeq1.list_extend_list_list_0 l its.toArray n b its2.toArray n2 hlong (by rw [List.size_toArray]; omega) (by omega)) ⟨e, e2, ?_⟩
  refine ⟨.non, _, I.lset (its' := its ++ its2) hH e (by simp) (r.append r2) ?_, rfl, q⟩
  rw [List.length_append]
  omega

/-! ### list + list, list += list, list * int -/
def rCat : R2 := fun x y H Q => ∃ l b xs zs, x = .ref l ∧ y = .ref b ∧ H l = some (.lst xs) ∧ H b = some (.lst zs) ∧ xs.length + zs.length ≤ sizeLine ∧ ∀ p, H p = none → Q (.ref p) (upd H p (.lst (xs ++ zs)))
theorem op_cat : OpR X (binaryOp .Add) rCat := by
  intro pins s σ H x y v u Q I rx ry h
  obtain ⟨l, b, xs, zs, rfl, rfl, hH, hB, hz, q⟩ := h
  cases rx
  cases ry
  obtain ⟨z, its, n, r, hl, e⟩ := I.lstM hH
  obtain ⟨z2, its2, n2, r2, hl2, e2⟩ := I.lstM hB
  refine PySem.P.add_list e e2 ?_ (by rw [List.size_toArray, List.size_toArray]; omega)
  have ea : its.toArray ++ its2.toArray = (its ++ its2).toArray := by simp
  rw [ea]
  exact ⟨.ref _, _, I.lnew (t' := s.toks) (r.append r2) (by rw [List.length_append]; omega), rfl, q _ I.fresh⟩
/-- a list times an int (a negative one is nothing) -/
def rRep : R2 := fun x y H Q => ∃ l k xs, x = .ref l ∧ y = .int k ∧ H l = some (.lst xs) ∧ -(2 ^ 63) ≤ k ∧ k < 2 ^ 63 ∧ xs.length * k.toNat ≤ sizeLine ∧
  ∀ p, H p = none → Q (.ref p) (upd H p (.lst (List.replicate k.toNat xs).flatten))
theorem len_rep {α : Type} (xs : List α) (k : Nat) : (List.replicate k xs).flatten.length = k * xs.length := by
  induction k with
  | zero => simp
  | succ k ih => rw [List.replicate_succ, List.flatten_cons, List.length_append, ih, Nat.succ_mul, Nat.add_comm]
theorem op_rep : OpR X (binaryOp .Mult) rRep := by
  intro pins s σ H x y v u Q I rx ry h
  obtain ⟨l, k, xs, rfl, rfl, hH, h1, h2, hz, q⟩ := h
  cases rx
  obtain ⟨t, rfl⟩ := ry
  obtain ⟨z, its, n, r, hl, e⟩ := I.lstM hH
  have hlen : its.toArray.size * k.toNat ≤ sizeLine := by rw [List.size_toArray, ← hl]; exact hz
  have hcap : ¬ its.toArray.size * k.toNat > (2 ^ 63 - 1) / 8 := by
    have : (sizeLine : Nat) ≤ (2 ^ 63 - 1) / 8 := by decide
    omega
  have hfit : ¬ (!Builtin.List.listFitsIndex k) = true := by
    rw [fitsIndex_both h1 h2]
    exact Bool.false_ne_true
  have hlong : ¬ Builtin.List.listTooLong (its.toArray.size * k.toNat) = true := by
    rw [notLongL hlen]
    exact Bool.false_ne_true
  have hnew : List.foldl (fun x1 x2 => x1 ++ x2) #[] (List.replicate (if its.toArray.isEmpty = true then 0 else k.toNat) its.toArray) = (List.replicate k.toNat its).flatten.toArray := by
    have f0 : ∀ m : Nat, List.foldl (fun x1 x2 => x1 ++ x2) #[] (List.replicate m its.toArray) = (List.replicate m its).flatten.toArray := fun m => by
      have := foldl_rep its m []
      rw [List.nil_append] at this
      exact this
    rw [f0]
    cases its with
    | nil => simp
    | cons a r' => rw [if_neg (by simp)]
  refine wpAny_binaryOp_repeat_ref (T := "list") (U := "int") (by decide) ⟨_, e, rfl⟩ (fun s' => typeIs_int s' k t) noFill_list_mul F.fills_int_mul F.slot_int_rmul repeat_list F.slot_int_index.lookup
    (call_meets F.slot_int_rmul (typeIs_int s k t) F.entry_int_rmul (F.args_int_rmul_2 _ _) (int___rmul___int_list k t l its.toArray n)
      ⟨e, rfl, ⟨_, e, rfl⟩, call_meets F.slot_list_mul ⟨_, e, rfl⟩ F.entry_list_mul (F.args_list_mul_2 _ _) (AutoListH.list___mul___list_int_3 l its.toArray n k t hfit hcap hlong) ⟨e, ?_⟩⟩)
  rw [hnew]
  exact ⟨.ref _, _, I.lnew (t' := s.toks) (r.rep k.toNat) (by rw [len_rep, Nat.mul_comm]; exact hz), rfl, q _ I.fresh⟩

/-! ### del xs[i] -/
end

/-! ### xs[a:b] = ys -/
section
variable {prog : Program} {w : World} {A : Around} {E : Value → Shared → Prop} {s : Shared}
end

section
variable {X : Cx}
end
end L2

namespace L2
open PySem PySem.Spec PyProof.Rows

/-! ### the library's walks over a list of ints, kept objects alone -/
section
variable {prog : Program} {w : World} {A : Around} {E : Value → Shared → Prop} {s : Shared} {l : Addr} {its : List Value} {ns : List Int} {Q : Value → Shared → Prop}
end

/-! ### the calls, by values (CallR of 03t; MtR of 06l) -/
section
variable {X : Cx}
/-! sorted, sort (fewer than 64 items: the library's own bound) -/
end

/-! ### list.index, flat items -/
section
variable {X : Cx}
def rIndex (K : PySem.W.Frag) : V → List V → Hp → VK → Prop := fun x xs H Q => ∃ (a : Addr) (ys : List V) (y : V) (j : Nat) (z : V), x = V.ref a ∧ xs = [y] ∧ SqL K H a ys ∧ flatV y = true ∧ ys.all flatV = true ∧ ys[j]? = some z ∧ eqV z y = true ∧
  (∀ (m : Nat) (z' : V), m < j → ys[m]? = some z' → eqV z' y = false) ∧ Q (.int (j : Nat)) H
theorem flat_at {ys : List V} (f : ys.all flatV = true) {j : Nat} {z : V} (h : ys[j]? = some z) : flatV z = true := List.all_eq_true.mp f z (List.mem_of_getElem? h)
theorem mt_index : MtR X "list.index" (rIndex X.K) := by
  intro pins s σ H x xs v us Q I rx rxs h
  obtain ⟨a, ys, y, j, z, rfl, rfl, hs, fy, fys, hz, hzj, hno, q⟩ := h
  cases rx
  cases rxs with
  | cons ry rt =>
    rename_i uy ut
    cases rt
    obtain ⟨its, rv, ⟨⟨cls, dd, data, sl⟩, n, ho, hc, hdn, hd⟩, hlen⟩ := I.list hs
    simp only at hc hd
    subst hc hd
    obtain ⟨u, hu, ru⟩ := rv.get hz
    obtain ⟨hjl, hje⟩ := List.getElem?_eq_some_iff.mp hu
    have hvl := rv.length
    have hj : j < its.toArray.size := by simpa using hjl
    have hsl := sizeLine_eq
    refine call_meets PySem.F.slot_list_index ⟨_, ho, rfl⟩ PySem.F.entry_list_index (PySem.F.args_list_index_2 _ _)
      (SeqAt.list_indexAt a its.toArray n dd sl uy (eqU y) j hj (by omega) ?_ ?_) ⟨ho, fun u' hu' => mem_eqAt ry fy rv fys u' (by simpa using hu'), ?_⟩
    · have e1 : its.toArray[j] = u := by simpa using hje
      rw [e1, eqU_of ru (flat_at fys hz)]
      exact hzj
    · intro m hm hmj
      have hml : m < its.length := by simpa using hm
      have hmy : m < ys.length := by omega
      have hy' : ys[m]? = some ys[m] := List.getElem?_eq_getElem hmy
      obtain ⟨u2, hu2, ru2⟩ := rv.get hy'
      obtain ⟨_, hme⟩ := List.getElem?_eq_some_iff.mp hu2
      have e1 : its.toArray[m] = u2 := by simpa using hme
      rw [e1, eqU_of ru2 (flat_at fys hy')]
      exact hno m _ hmj hy'
    · exact ⟨.int (j : Nat), H, I.tok _, ⟨_, rfl⟩, q⟩
end

/-! ### type(x) of an own instance; is, is not of a module's class -/
section
variable {X : Cx}
end

/-! ### any(xs), all(xs) of a list of bools -/
section
variable {X : Cx}
end

/-! ### == and != of data at any depth: none, bools, ints, texts, lists, tuples -/
mutual
inductive Dp (K : PySem.W.Frag) (H : Hp) : V → PyData → Prop
  | non : Dp K H .non .none
  | bl (b : Bool) : Dp K H (.bl b) (.bool b)
  | int (i : Int) : Dp K H (.int i) (.int i)
  | str (x : Str) : Dp K H (.str x) (.str x)
  | lst {a : Addr} {xs : List V} {ds : List PyData} : SqL K H a xs → DpAll K H xs ds → Dp K H (.ref a) (.list ds)
  | tup {a : Addr} {xs : List V} {ds : List PyData} : SqT K H a xs → DpAll K H xs ds → Dp K H (.ref a) (.tuple ds)
inductive DpAll (K : PySem.W.Frag) (H : Hp) : List V → List PyData → Prop
  | nil : DpAll K H [] []
  | cons {v : V} {vs : List V} {d : PyData} {ds : List PyData} : Dp K H v d → DpAll K H vs ds → DpAll K H (v :: vs) (d :: ds)
end
section
variable {X : Cx} {pins : List (Addr × Obj)} {σ : St} {H : Hp} {s : Shared}
mutual
theorem Dp.reads (I : Inv X pins σ H s) : ∀ (d : PyData) (v : V) (u : Value), Dp X.K H v d → RelV v u → ∃ as, Reads s.heap u d as
  | .none, _, _, h, r => by
    cases h
    cases r
    exact ⟨_, Reads.none⟩
  | .bool b, _, _, h, r => by
    cases h
    cases r
    exact ⟨_, Reads.bool b⟩
  | .int i, _, _, h, r => by
    cases h
    obtain ⟨t, rfl⟩ := r
    exact ⟨_, Reads.int i t⟩
  | .str x, _, _, h, r => by
    cases h
    obtain ⟨t, rfl⟩ := r
    exact ⟨_, Reads.str x t⟩
  | .list ds, _, _, h, r => by
    cases h with
    | lst hs ha =>
      cases r
      obtain ⟨its, rv, ⟨o, n, ho, hc, _, hd⟩, _⟩ := I.list hs
      obtain ⟨as, hr⟩ := Dp.readsAll I ds _ its ha rv
      exact ⟨_, Reads.list ho hc hd hr⟩
  | .tuple ds, _, _, h, r => by
    cases h with
    | tup hs ha =>
      cases r
      obtain ⟨its, rv, ⟨o, ho, hc, n, hd⟩, _⟩ := I.tuple hs
      obtain ⟨as, hr⟩ := Dp.readsAll I ds _ its ha rv
      exact ⟨_, Reads.tuple ho hc hd hr⟩
  | .dict _, _, _, h, _ => by cases h
theorem Dp.readsAll (I : Inv X pins σ H s) : ∀ (ds : List PyData) (vs : List V) (us : List Value), DpAll X.K H vs ds → Vals vs us → ∃ as, ReadsAll s.heap us ds as
  | [], _, _, h, r => by
    cases h
    cases r
    exact ⟨_, ReadsAll.nil⟩
  | d :: ds, _, _, h, r => by
    cases h with
    | cons h1 h2 =>
      cases r with
      | cons r1 r2 =>
        obtain ⟨as, q1⟩ := Dp.reads I d _ _ h1 r1
        obtain ⟨bs, q2⟩ := Dp.readsAll I ds _ _ h2 r2
        exact ⟨_, ReadsAll.cons q1 q2⟩
end
end
section
variable {X : Cx}
def rEqD (K : PySem.W.Frag) : R2 := fun x y H Q => ∃ d e, Dp K H x d ∧ Dp K H y e ∧ SeqAt.shaped d = true ∧ SeqAt.shaped e = true ∧ Q (.bl (PyData.eqv d e)) H
def rNeD (K : PySem.W.Frag) : R2 := fun x y H Q => ∃ d e, Dp K H x d ∧ Dp K H y e ∧ SeqAt.shaped d = true ∧ SeqAt.shaped e = true ∧ Q (.bl (!PyData.eqv d e)) H
theorem op_eqD (hu : X.A.units + 64 < cLine) : OpR X (compareOp .Eq) (rEqD X.K) := by
  intro pins s σ H x y v u Q I rx ry h
  obtain ⟨d, e, hd, he, sd, se, q⟩ := h
  obtain ⟨as, r1⟩ := Dp.reads I d x v hd rx
  obtain ⟨bs, r2⟩ := Dp.reads I e y u he ry
  exact SeqAt.compareEq_shaped r1 r2 sd se hu ⟨.bl _, H, I, rfl, q⟩
theorem op_neD (hu : X.A.units + 64 < cLine) : OpR X (compareOp .NotEq) (rNeD X.K) := by
  intro pins s σ H x y v u Q I rx ry h
  obtain ⟨d, e, hd, he, sd, se, q⟩ := h
  obtain ⟨as, r1⟩ := Dp.reads I d x v hd rx
  obtain ⟨bs, r2⟩ := Dp.reads I e y u he ry
  exact SeqAt.compareNe_shaped r1 r2 sd se hu ⟨.bl _, H, I, rfl, q⟩
end
end L2

namespace L2
open PySem PySem.Spec PyProof.Rows
abbrev CellAt (h : Heap) (c : Addr) (v : Option Value) : Prop := h.IsCell c v
def relS (scope sc : Scope) : Scope :=
  { scope with names := scope.names.map fun (n, k) => if (k == .free && sc.kind == .function && sc.names.lookup n == some .cell) then (n, .cell) else (n, k) }

def cloFrom (cells : List (Str × Addr)) : List (Str × NameKind) → List (Str × Addr) → List (Str × Addr)
  | [], acc => acc
  | (n, k) :: r, acc => if k == .free then cloFrom cells r ((n, (cells.lookup n).getD 0) :: acc) else cloFrom cells r acc

theorem closure_loop (env : Env) (f : Str × NameKind → List (Str × Addr) → Sem (ForInStep (List (Str × Addr))))
    (hf : ∀ n k c, f (n, k) c = if k == .free then (do let a ← cellOf env n; pure (.yield ((n, a) :: c))) else pure (.yield c)) :
    ∀ (names : List (Str × NameKind)) (acc : List (Str × Addr)), (∀ y ∈ names, y.2 = .free → ∃ c, env.cells.lookup y.1 = some c) → forIn names acc f = pure (cloFrom env.cells names acc)
  | [], acc, _ => by rw [List.forIn_nil]; rfl
  | (n, k) :: r, acc, h => by
    rw [List.forIn_cons, hf]
    have ih := fun acc => closure_loop env f hf r acc fun y hy => h y (List.mem_cons_of_mem _ hy)
    unfold cloFrom
    by_cases hk : (k == NameKind.free) = true
    · rw [if_pos hk, if_pos hk]
      obtain ⟨c, hc⟩ := h (n, k) List.mem_cons_self (by simpa using hk)
      have e : cellOf env n = pure c := by unfold cellOf; rw [hc]
      rw [e]
      have e2 : (env.cells.lookup n).getD 0 = c := by rw [hc]; rfl
      rw [e2]
      exact ih _
    · rw [if_neg hk, if_neg hk]
      exact ih _
theorem closure_ok {scope : Scope} {env : Env} (h : ∀ y ∈ scope.names, y.2 = .free → ∃ c, env.cells.lookup y.1 = some c) : closureFor scope env = pure (cloFrom env.cells scope.names []) := by
  simp only [closureFor]
  rw [closure_loop env _ (fun n k c => rfl) scope.names [] h]
  rfl

theorem mem_lookup {α : Type} : ∀ {l : List (Str × α)} {n : Str} {c : α}, (n, c) ∈ l → ∃ c', l.lookup n = some c'
  | (k, v) :: r, n, c, h => by
    rw [List.lookup_cons]
    cases hb : n == k with
    | true => exact ⟨_, rfl⟩
    | false =>
      rcases List.mem_cons.mp h with e | h
      · cases e; simp at hb
      · exact mem_lookup h

theorem cloFrom_mem {cells : List (Str × Addr)} : ∀ {names : List (Str × NameKind)} {acc : List (Str × Addr)} {n : Str} {c : Addr}, (n, c) ∈ cloFrom cells names acc → (n, c) ∈ acc ∨ ((n, .free) ∈ names ∧ c = (cells.lookup n).getD 0)
  | [], _, _, _, h => .inl h
  | (m, k) :: r, acc, n, c, h => by
    unfold cloFrom at h
    split at h
    · rename_i hk
      have hk : k = .free := by simpa using hk
      rcases cloFrom_mem h with h | ⟨h1, h2⟩
      · rcases List.mem_cons.mp h with e | h
        · cases e; exact .inr ⟨hk ▸ List.mem_cons_self, rfl⟩
        · exact .inl h
      · exact .inr ⟨List.mem_cons_of_mem _ h1, h2⟩
    · rcases cloFrom_mem h with h | ⟨h1, h2⟩
      · exact .inl h
      · exact .inr ⟨List.mem_cons_of_mem _ h1, h2⟩
theorem cloFrom_acc {cells : List (Str × Addr)} : ∀ {names : List (Str × NameKind)} {acc : List (Str × Addr)} {p : Str × Addr}, p ∈ acc → p ∈ cloFrom cells names acc
  | [], _, _, h => h
  | (m, k) :: r, acc, p, h => by
    unfold cloFrom
    split
    · exact cloFrom_acc (List.mem_cons_of_mem _ h)
    · exact cloFrom_acc h
theorem cloFrom_has {cells : List (Str × Addr)} : ∀ {names : List (Str × NameKind)} {acc : List (Str × Addr)} {n : Str}, (n, .free) ∈ names → (n, (cells.lookup n).getD 0) ∈ cloFrom cells names acc
  | (m, k) :: r, acc, n, h => by
    unfold cloFrom
    rcases List.mem_cons.mp h with e | h
    · cases e
      exact cloFrom_acc List.mem_cons_self
    · split
      · exact cloFrom_has h
      · exact cloFrom_has h

theorem cells_mem : ∀ {names : List (Str × NameKind)} {h : Heap} {acc : List (Str × Addr)} {x : Str} {c : Addr}, (x, c) ∈ cellsFrom h.objs.size names acc →
    (x, c) ∈ acc ∨ ((x, .cell) ∈ names ∧ h.objs.size ≤ c ∧ CellAt (pushCells h names) c none)
  | [], _, _, _, _, h => .inl h
  | (n, k) :: r, h, acc, x, c, hm => by
    unfold cellsFrom at hm
    unfold pushCells
    split at hm
    · rename_i hk
      rw [if_pos hk]
      have hk : k = .cell := by simpa using hk
      rw [← Heap.size_push h { cls := .type "cell", data := .cell none }] at hm
      rcases cells_mem hm with hm | ⟨h1, h2, h3⟩
      · rcases List.mem_cons.mp hm with e | hm
        · cases e
          exact .inr ⟨hk ▸ List.mem_cons_self, Nat.le_refl _, _, pushCells_keeps r _ _ _ (Heap.get?_push_size _ rfl), rfl⟩
        · exact .inl hm
      · rw [Heap.size_push] at h2
        exact .inr ⟨List.mem_cons_of_mem _ h1, Nat.le_of_succ_le h2, h3⟩
    · rename_i hk
      rw [if_neg hk]
      rcases cells_mem hm with hm | ⟨h1, h2, h3⟩
      · exact .inl hm
      · exact .inr ⟨List.mem_cons_of_mem _ h1, h2, h3⟩
theorem cells_acc : ∀ {names : List (Str × NameKind)} {n : Nat} {acc : List (Str × Addr)} {p : Str × Addr}, p ∈ acc → p ∈ cellsFrom n names acc
  | [], _, _, _, h => h
  | (m, k) :: r, n, acc, p, h => by
    unfold cellsFrom
    split
    · exact cells_acc (List.mem_cons_of_mem _ h)
    · exact cells_acc h
theorem cells_has : ∀ {names : List (Str × NameKind)} {n : Nat} {acc : List (Str × Addr)} {x : Str}, (x, .cell) ∈ names → ∃ c, (x, c) ∈ cellsFrom n names acc
  | (m, k) :: r, n, acc, x, h => by
    unfold cellsFrom
    rcases List.mem_cons.mp h with e | h
    · cases e
      exact ⟨n, cells_acc List.mem_cons_self⟩
    · split
      · exact cells_has h
      · exact cells_has h
theorem cells_inj : ∀ {names : List (Str × NameKind)} {h : Heap} {acc : List (Str × Addr)} {x y : Str} {c : Addr}, (∀ p ∈ acc, p.2 < h.objs.size) → (∀ x y c, (x, c) ∈ acc → (y, c) ∈ acc → x = y) →
    (x, c) ∈ cellsFrom h.objs.size names acc → (y, c) ∈ cellsFrom h.objs.size names acc → x = y
  | [], _, _, _, _, _, _, hi, h1, h2 => hi _ _ _ h1 h2
  | (n, k) :: r, h, acc, x, y, c, hl, hi, h1, h2 => by
    unfold cellsFrom at h1 h2
    split at h1
    · rename_i hk
      rw [if_pos hk] at h2
      rw [← Heap.size_push h { cls := .type "cell", data := .cell none }] at h1 h2
      refine cells_inj (h := h.push _) (fun p hp => ?_) (fun x y c a b => ?_) h1 h2
      · rw [Heap.size_push]
        rcases List.mem_cons.mp hp with rfl | hp
        · exact Nat.lt_succ_self _
        · exact Nat.lt_succ_of_lt (hl p hp)
      · rcases List.mem_cons.mp a with e | a <;> rcases List.mem_cons.mp b with e' | b
        · cases e; cases e'; rfl
        · cases e; exact absurd (hl _ b) (Nat.lt_irrefl _)
        · cases e'; exact absurd (hl _ a) (Nat.lt_irrefl _)
        · exact hi _ _ _ a b
    · rename_i hk
      rw [if_neg hk] at h2
      exact cells_inj hl hi h1 h2

theorem newEnv_comp {M : Model} {A : Around} {E : Value → Shared → Prop} {s : Shared} {scope : Scope} {globals : Addr} {closure : List (Str × Addr)} {qual : Str} {func : Option Addr} {code : Value} {around : Env} {builtins : Addr} {Q : Env → Shared → Prop}
    (h : Q (newEnv scope s.heap.objs.size globals (cellsFrom (s.heap.objs.size + 1) scope.names closure) qual func code (some around) builtins)
      { s with heap := pushCells (s.heap.push { cls := .type "dict", data := .dict #[] }) scope.names }) :
    wpAny M A (newFunctionEnv scope globals closure [] qual func code (some around) builtins) Q E s := by
  simp only [newFunctionEnv, Option.isSome_some, if_true]
  refine wpAny_bind (wpAny_alloc ?_)
  refine wpAny_bind (wpAny_layCells _ (fun n k c => rfl) scope.names closure _ _ ?_)
  rw [show ({ s with heap := s.heap.push { cls := .type "dict", data := .dict #[] } } : Shared).heap.objs.size = s.heap.objs.size + 1 from Heap.size_push ..]
  rw [List.forIn_nil]
  exact wpAny_bind (wpAny_pure (wpAny_pure h))

/-- every name of the written scope, in the scope that runs -/
theorem lookup_relS {sc : Scope} : ∀ {names : List (Str × NameKind)} {x : Str} {k : NameKind},
    (names.map fun (n, k) => if (k == NameKind.free && sc.kind == .function && sc.names.lookup n == some .cell) then (n, NameKind.cell) else (n, k)).lookup x = some k →
    ∃ k', names.lookup x = some k' ∧ (k = k' ∨ (k' = .free ∧ k = .cell))
  | [], _, _, h => by simp at h
  | (n, k₀) :: r, x, k, h => by
    have ih := @lookup_relS sc r x k
    have h' : List.lookup x ((if (k₀ == NameKind.free && sc.kind == .function && sc.names.lookup n == some .cell) = true then (n, NameKind.cell) else (n, k₀)) :: (r.map _)) = some k := h
    cases hx : x == n with
    | true =>
      simp only [List.lookup_cons, hx]
      by_cases hc : (k₀ == NameKind.free && sc.kind == .function && sc.names.lookup n == some .cell) = true
      · rw [if_pos hc] at h'
        simp only [List.lookup_cons, hx] at h'
        cases h'
        simp only [Bool.and_eq_true, beq_iff_eq] at hc
        exact ⟨k₀, rfl, .inr ⟨hc.1.1, rfl⟩⟩
      · rw [if_neg hc] at h'
        simp only [List.lookup_cons, hx] at h'
        cases h'
        exact ⟨_, rfl, .inl rfl⟩
    | false =>
      simp only [List.lookup_cons, hx]
      by_cases hc : (k₀ == NameKind.free && sc.kind == .function && sc.names.lookup n == some .cell) = true
      · rw [if_pos hc] at h'
        simp only [List.lookup_cons, hx] at h'
        exact ih h'
      · rw [if_neg hc] at h'
        simp only [List.lookup_cons, hx] at h'
        exact ih h'
/-- the names of a comprehension's block: its own (with their places in N), or captured -/
structure BlkOk (N : List Str) (sc scope : Scope) (own : List (Str × Nat)) : Prop where
  kind : scope.kind = .function
  uniq : ∀ y ∈ scope.names, scope.names.lookup y.1 = some y.2
  ix : ∀ p ∈ own, N[p.2]? = some p.1
  free : ∀ y ∈ scope.names, y.2 = .free → sc.names.lookup y.1 = some .cell ∨ sc.names.lookup y.1 = some .free
  own : ∀ y ∈ scope.names, y.2 = .local ∨ y.2 = .cell → y.1 ∈ own.map (·.1) ∨ y.1 ∉ N
/-- the slots of the block's own names forgotten -/
def wipe (σ : St) : List Nat → St
  | [] => σ
  | v :: vs => (wipe σ vs).set v none
theorem wipe_length (σ : St) : ∀ vs : List Nat, (wipe σ vs).length = σ.length
  | [] => rfl
  | v :: vs => by unfold wipe; rw [List.length_set, wipe_length σ vs]
theorem wipe_some {σ : St} {i : Nat} {x : V} : ∀ {vs : List Nat}, (wipe σ vs)[i]? = some (some x) → σ[i]? = some (some x) ∧ i ∉ vs
  | [], h => ⟨h, by simp⟩
  | v :: vs, h => by
    unfold wipe at h
    by_cases hi : v = i
    · subst hi
      by_cases hv : v < (wipe σ vs).length
      · rw [List.getElem?_set_self hv] at h; cases h
      · rw [List.getElem?_eq_none (by simpa using hv)] at h; cases h
    · rw [List.getElem?_set_ne hi] at h
      obtain ⟨h1, h2⟩ := wipe_some h
      exact ⟨h1, by simp only [List.mem_cons, not_or]; exact ⟨fun e => hi e.symm, h2⟩⟩

/-- the context of a block that starts at s, its iterator's objects at fp -/
abbrev Cx.blk (X : Cx) (s : Shared) (H : Hp) (scope : Scope) (cenv : Env) (fp : List Addr) : Cx := { X with s_0 := s, H_0 := H, env := cenv, outer := X.stack, ex := fp, fn := fun x => scope.names.lookup x == some .cell, pn := [], xe := fun _ _ => False }
section
variable {X : Cx} {pins : List (Addr × Obj)} {σ : St} {H : Hp} {s : Shared}
theorem block_start {scope : Scope} {own : List (Str × Nat)} {fp : List Addr} (I : Inv X pins σ H s) (ok : BlkOk X.N X.env.scope scope own) (hN : X.N.Nodup) (hfp : ∀ b ∈ fp, FpOk X pins H b ∧ b < s.heap.objs.size) :
    Inv (X.blk s H scope (compEnvC scope (cellsFrom (s.heap.objs.size + 1) scope.names (cloFrom X.env.cells scope.names [])) s.heap.objs.size X.env) fp) [] (wipe σ (own.map (·.2))) H { s with heap := pushCells (s.heap.push { cls := .type "dict", data := .dict #[] }) scope.names } := by
  have hfree : ∀ y ∈ scope.names, y.2 = .free → ∃ c, X.env.cells.lookup y.1 = some c := fun y hy e => by
    rcases ok.free y hy e with k | k
    · exact I.ok.has _ (.inl k)
    · exact I.ok.has _ (.inr k)
  generalize hcenv : compEnvC scope (cellsFrom (s.heap.objs.size + 1) scope.names (cloFrom X.env.cells scope.names [])) s.heap.objs.size X.env = cenv
  have kp : ∀ b o, s.heap.get? b = some o → (pushCells (s.heap.push { cls := .type "dict", data := .dict #[] }) scope.names).get? b = some o := fun b o e => pushCells_keeps _ _ _ _ (Heap.get?_push_of_some _ e)
  have hL : cenv.locals = s.heap.objs.size := by rw [← hcenv]; rfl
  have hcl : cenv.cells = cellsFrom (s.heap.objs.size + 1) scope.names (cloFrom X.env.cells scope.names []) := by rw [← hcenv]; rfl
  have hsc : cenv.scope = relS scope X.env.scope := by rw [← hcenv]; rfl
  rw [← Heap.size_push s.heap { cls := .type "dict", data := .dict #[] }] at hcl
  have cm : ∀ {y c}, (y, c) ∈ cloFrom X.env.cells scope.names [] → X.env.cells.lookup y = some c ∧ c < s.heap.objs.size := fun {y c} hm => by
    rcases cloFrom_mem hm with hm | ⟨h1, rfl⟩
    · cases hm
    · obtain ⟨c, hc⟩ := hfree _ h1 rfl
      rw [hc]
      obtain ⟨w, z⟩ := I.cell _ _ hc
      exact ⟨rfl, z.lt⟩
  have mem : ∀ {y c}, cenv.cells.lookup y = some c → (X.env.cells.lookup y = some c ∧ c < s.heap.objs.size) ∨ (s.heap.objs.size + 1 ≤ c ∧ CellAt (pushCells (s.heap.push { cls := .type "dict", data := .dict #[] }) scope.names) c none) := fun {y c} e => by
    rw [hcl] at e
    rcases cells_mem (PySem.mem_of_lookup e) with hm | ⟨_, h2, h3⟩
    · exact .inl (cm hm)
    · rw [Heap.size_push] at h2; exact .inr ⟨h2, h3⟩
  have look : ∀ {y}, scope.names.lookup y = some .free → ∃ c, cenv.cells.lookup y = some c ∧ X.env.cells.lookup y = some c := fun {y} hl => by
    have hy : (y, NameKind.free) ∈ scope.names := PySem.mem_of_lookup hl
    obtain ⟨c', e'⟩ := mem_lookup (cells_acc (names := scope.names) (n := (s.heap.push { cls := .type "dict", data := .dict #[] }).objs.size) (cloFrom_has (cells := X.env.cells) (acc := []) hy))
    rw [← hcl] at e'
    refine ⟨c', e', ?_⟩
    rw [hcl] at e'
    rcases cells_mem (PySem.mem_of_lookup e') with hm | ⟨h1, _, _⟩
    · exact (cm hm).1
    · have := ok.uniq _ h1
      rw [hl] at this; cases this
  have okB : (X.blk s H scope cenv fp).Ok := by
    refine ⟨I.ok.mod, by show cenv.scope.kind = _; rw [hsc]; exact ok.kind, by show cenv.globals = _; rw [← hcenv]; exact I.ok.glob, by show cenv.builtins = _; rw [← hcenv]; exact I.ok.blt, by show s.heap.objs.size ≤ cenv.locals; rw [hL]; exact Nat.le_refl _,
      fun y z c e1 e2 => ?_, fun y hy => ?_, fun y c z e => ?_, I.ok.hd, I.ok.frames, .inl rfl, fun b hb => ⟨?_, fun y c e z => ?_⟩, I.bs, Nat.le_trans I.ok.bsz I.sz, fun b o e hb => ?_, fun b hb z => ?_, I.stack, I.stkFree⟩
    · have e1 : cenv.cells.lookup y = some c := e1
      have e2 : cenv.cells.lookup z = some c := e2
      rw [hcl] at e1 e2
      refine cells_inj (fun p hp => ?_) (fun y z c a b => I.ok.inj y z c (cm a).1 (cm b).1) (PySem.mem_of_lookup e1) (PySem.mem_of_lookup e2)
      rw [Heap.size_push]
      exact Nat.lt_succ_of_lt (cm (y := p.1) (c := p.2) hp).2
    · show ∃ c, cenv.cells.lookup y = some c
      have key : ∀ k, cenv.kindOf y = some k → (k = .cell ∨ k = .free) → ∃ c, cenv.cells.lookup y = some c := fun k hk hk' => by
        unfold Env.kindOf at hk
        rw [hsc] at hk
        obtain ⟨k', e, r⟩ := lookup_relS hk
        have : k' = .cell ∨ k' = .free := by
          rcases r with rfl | ⟨rfl, _⟩
          · exact hk'
          · exact .inr rfl
        rcases this with rfl | rfl
        · obtain ⟨c, hm⟩ := cells_has (n := (s.heap.push { cls := .type "dict", data := .dict #[] }).objs.size) (acc := cloFrom X.env.cells scope.names []) (PySem.mem_of_lookup e)
          obtain ⟨c', e'⟩ := mem_lookup hm
          exact ⟨c', by rw [hcl]; exact e'⟩
        · obtain ⟨c, h1, _⟩ := look e
          exact ⟨c, h1⟩
      rcases hy with hy | hy
      · exact key _ hy (.inl rfl)
      · exact key _ hy (.inr rfl)
    · have z : (scope.names.lookup y == some NameKind.cell) = true := z
      have z : scope.names.lookup y = some .cell := by simpa using z
      have e : cenv.cells.lookup y = some c := e
      rw [hcl] at e
      rcases cells_mem (PySem.mem_of_lookup e) with hm | ⟨_, h2, _⟩
      · rcases cloFrom_mem hm with hm | ⟨h1, _⟩
        · cases hm
        · have q := ok.uniq _ h1
          rw [z] at q; cases q
      · rw [Heap.size_push] at h2
        exact Nat.le_of_succ_le h2
    · show b ≠ cenv.locals
      rw [hL]; exact Nat.ne_of_lt (hfp b hb).2
    · have e : cenv.cells.lookup y = some c := e
      rcases mem e with ⟨h1, _⟩ | ⟨h1, _⟩
      · exact (hfp b hb).1.2.2.2.2.1 y c h1 z
      · have h2 : s.heap.objs.size + 1 ≤ b := by rw [← z]; exact h1
        exact absurd (Nat.lt_of_lt_of_le (hfp b hb).2 (Nat.le_of_succ_le h2)) (Nat.lt_irrefl _)
    · rcases (hfp b hb).1.2.2.2.1 with z | z
      · exact I.ok.noex b o e z
      · exact absurd (Nat.lt_of_lt_of_le (Heap.lt_size e) (Nat.le_trans I.ok.bsz z)) (Nat.lt_irrefl _)
    · rcases List.mem_cons.mp (I.stkSub b z) with z | z
      · exact (hfp b hb).1.2.1 z
      · exact (hfp b hb).1.2.2.1 z
  refine ⟨okB, rfl, I.bare.self, Un.kept kp, ⟨fun _ => none, ?_, fun i y av e1 e2 e3 => ?_⟩, fun y c e => ?_, ?_, fun y c e => ?_, fun p hp => ?_, I.hok.kept kp, by rw [wipe_length]; exact I.len⟩
  · show Heap.Ns _ cenv.locals _
    rw [hL]
    exact Heap.Ns.keeps (Heap.Ns.new ..) fun b o e => pushCells_keeps _ _ _ _ e
  · obtain ⟨e2, hne⟩ := wipe_some e2
    have hfr : scope.names.lookup y = some .free ∧ (cenv.kindOf y = some .cell ∨ cenv.kindOf y = some .free) := by
      have key : ∀ k, cenv.scope.names.lookup y = some k → k = .local ∨ k = .cell ∨ k = .free → scope.names.lookup y = some .free ∧ (cenv.kindOf y = some .cell ∨ cenv.kindOf y = some .free) := fun k hk hk' => by
        have hk0 := hk
        rw [hsc] at hk
        obtain ⟨k', e, r⟩ := lookup_relS hk
        have no : ¬ (k' = .local ∨ k' = .cell) := fun hh => by
          rcases ok.own _ (PySem.mem_of_lookup e) hh with e' | e'
          · obtain ⟨p, hp, hpy⟩ := List.mem_map.mp e'
            have e3 := ok.ix p hp
            have : p.1 = y := hpy
            rw [this] at e3
            exact hne (List.mem_map.mpr ⟨p, hp, nodup_ix hN e3 e1⟩)
          · exact e' (List.mem_of_getElem? e1)
        rcases r with rfl | ⟨rfl, rfl⟩
        · rcases hk' with rfl | rfl | rfl
          · exact absurd (.inl rfl) no
          · exact absurd (.inr rfl) no
          · exact ⟨e, .inr hk0⟩
        · exact ⟨e, .inl hk0⟩
      have e3 : Vis cenv.scope y := e3
      rcases e3 with e3 | e3 | e3
      · exact key _ e3 (.inl rfl)
      · exact key _ e3 (.inr (.inl rfl))
      · exact key _ e3 (.inr (.inr rfl))
    obtain ⟨m, hn, hl⟩ := I.loc
    have hvis : Vis X.env.scope y := (ok.free _ (PySem.mem_of_lookup hfr.1) rfl).elim (fun k => .inr (.inl k)) (fun k => .inr (.inr k))
    obtain ⟨w, r, q⟩ := hl i y av e1 e2 hvis
    refine ⟨w, r, .inr ⟨hfr.2, ?_⟩⟩
    obtain ⟨c, h1, h2⟩ := look hfr.1
    rcases q with ⟨k, _⟩ | ⟨_, c', e', z⟩
    · have k : X.env.scope.names.lookup y = some .local := k
      rcases ok.free _ (PySem.mem_of_lookup hfr.1) rfl with k' | k' <;> rw [show X.env.scope.names.lookup y = _ from k'] at k <;> cases k
    · rw [h2] at e'; cases e'
      exact ⟨c, h1, z.keeps kp⟩
  · have e : cenv.cells.lookup y = some c := e
    rcases mem e with ⟨h1, _⟩ | ⟨_, z⟩
    · obtain ⟨w, z⟩ := I.cell y c h1
      exact ⟨w, z.keeps kp⟩
    · exact ⟨_, z⟩
  · show H cenv.locals = none
    rw [hL]; exact I.hok.fresh (Nat.le_refl _)
  · have e : cenv.cells.lookup y = some c := e
    rcases mem e with ⟨h1, _⟩ | ⟨h1, _⟩
    · exact I.freeC y c h1
    · exact I.hok.fresh (Nat.le_of_succ_le h1)
  · exact absurd (show p ∈ ([] : List (Addr × Obj)) ++ [] from hp) (by simp)

/-- an item appended to a tracked list -/
theorem app_ok {E : Value → Shared → Prop} {D : Addr} {xs : List V} {y : V} {v : Value} {Q : Value → Shared → Prop} (I : Inv X pins σ H s) (hD : H D = some (.lst xs)) (hz : xs.length < sizeLine) (r : RelV y v)
    (h : ∀ s', Inv X pins σ (upd H D (.lst (xs ++ [y]))) s' → Q .none s') : wpAny (model X.prog X.w) X.A (call (.builtin "list.append") [.ref D, v]) Q E s := by
  obtain ⟨hz', its, n, ri, e⟩ := I.hok D _ hD
  have hl := ri.length
  refine append_at (hsz := by rw [List.size_toArray]; omega) e fun h' sb ho' => ?_
  refine h { s with heap := h' } (I.write (t' := s.toks) (by rw [hD]; trivial) (.inl rfl) (fun b u hb q => (sb.2 b hb).trans q) ⟨_, ho'⟩ ⟨by rw [List.length_append]; exact hz, its ++ [v], n + 1, ri.append (.cons r .nil), ?_⟩)
  rw [ho']
  simp

/-- a clause's tests -/
def PTs (X : Cx) (ifs : List Expr) (t : TT) : Prop :=
  ∀ (pins : List (Addr × Obj)) (s : Shared) (σ : St) (H : Hp) (Q : Bool → Hp → Prop), Inv X pins σ H s → t σ H Q →
    wpAny (model X.prog X.w) X.A (forIn ifs true fun c r => if r = true then do let ok ← isTrue c X.env (eval c X.env); pure (ForInStep.yield ok) else pure (ForInStep.yield r)) (TP X pins σ Q) X.xe s
def tYes : TT := fun _ H Q => Q true H
theorem pts_nil : PTs X [] tYes := fun _ _ _ H _ I h => wpAny_tests_nil ⟨H, I, h⟩
theorem pts_one {c : Expr} {t : TT} (h : PT X c t) : PTs X [c] t := fun pins s σ H Q I hw => wpAny_tests_one (h pins s σ H Q I hw)
end

theorem thnF {α : Type} {t : Sem α} {Q Q' : α → Shared → Prop} {M : Model} {A : Around} {E : Value → Shared → Prop} {s : Shared} (h : wpAny M A t Q (fun _ _ => False) s) (hQ : ∀ a s, Q a s → Q' a s) : wpAny M A t Q' E s := wpAny_mono h hQ fun _ _ z => False.elim z

/-- the loop of a list comprehension's block, the target of any form (codeAny_compLoop_tests asks a target that no tuple goes to; statement and proof follow it, PyProof/CompMap.lean:41-61, with the step letOwnedTupleGo kept) -/
theorem compLoop_any {prog : Program} {w : World} {A : Around} {R : Result → Shared → Prop} {s : Shared} {elt target iter : Expr} {ifs : List Expr} {scope : Scope} {pos : Pos} {it acc : Value} {env : Env} (I : Nat → Shared → Prop)
    (turn : ∀ n s, I n s → wpAny (model prog w) A (pyNext it) (fun r s₁ => match r with
      | none => R (.ok .next) s₁
      | some v => wpAny (model prog w) A (letOwnedTupleGo target it v) (fun _ s₁' => wpAny (model prog w) A (assign target env v) (fun _ s₂ =>
          wpAny (model prog w) A (forIn ifs true fun c r => if r = true then do let ok ← isTrue c env (eval c env); pure (ForInStep.yield ok) else pure (ForInStep.yield r)) (fun ok s₃ =>
            if ok = true then wpAny (model prog w) A (eval elt env) (fun x s₄ =>
              wpAny (model prog w) A (call (.builtin "list.append") [acc, x]) (fun _ s₅ => ∃ m, m < n ∧ I m s₅) (notedBy (model prog w) A env fun e s' => R (.error e) s') s₄) (notedBy (model prog w) A env fun e s' => R (.error e) s') s₃
            else ∃ m, m < n ∧ I m s₃) (notedBy (model prog w) A env fun e s' => R (.error e) s') s₂) (notedBy (model prog w) A env fun e s' => R (.error e) s') s₁') (notedBy (model prog w) A env fun e s' => R (.error e) s') s₁) (notedBy (model prog w) A env fun e s' => R (.error e) s') s)
    (n : Nat) (h : I n s) :
    codeAny (model prog w) A (.compLoop (.ListComp elt [⟨target, iter, ifs, 0⟩] scope pos) 0 it acc env) R s := by
  refine codeAny_loop rfl I (fun n s hI => ?_) n h
  show wpAny _ A ((compTurn (.ListComp elt [⟨target, iter, ifs, 0⟩] scope pos) 0 it acc env).onRaise (fun x => do noteFrame x env; theTreesLotGoes x)) _ _ s
  refine wpAny_noted ?_
  rw [compTurn_list]
  refine wpAny_bind (wpAny_standAt (wpAny_bind (wpAny_mono (turn n s hI) (fun r s₁ h₁ => ?_) fun _ _ h' => h')))
  cases r with
  | none => exact wpAny_pure h₁
  | some v =>
    refine wpAny_bind (wpAny_mono h₁ (fun _ s₁' h₁' => ?_) fun _ _ h' => h')
    refine wpAny_bind (wpAny_mono h₁' (fun _ s₂ h₂ => wpAny_bind (wpAny_mono h₂ (fun ok s₃ h₃ => ?_) fun _ _ h' => h')) fun _ _ h' => h')
    cases ok with
    | false => exact wpAny_pure ⟨rfl, h₃⟩
    | true =>
      exact wpAny_bind (wpAny_bind (wpAny_mono h₃ (fun x s₄ h₄ => wpAny_bind (wpAny_mono h₄ (fun _ s₅ h₅ => wpAny_pure (wpAny_pure ⟨rfl, h₅⟩)) fun _ _ h' => h')) fun _ _ h' => h'))

section
variable {X : Cx}
/-- [elt for target in iter if ..]: D the new list; W by the turn and a measure, Nx what a turn is to reach -/
def tLc (wi : TI) (g : TG) (tt : TT) (te : TE) (vs : List Nat) : TE := fun σ H Q => wi σ H fun J H1 => ∀ D, H1 D = none → ∃ W : Nat → Nat → Hp → Prop, (∃ m, W 0 m (upd H1 D (.lst []))) ∧ ∀ i m H, W i m H →
  (J.stop i H ∧ Q (.ref D) H) ∨ (J.go i H ∧ ∃ Nx : Hp → Prop, (∀ H', Nx H' → ∃ m', m' < m ∧ W (i + 1) m' H') ∧ ∀ x H', J.yld i H x H' → g x (wipe σ vs) H' fun σ2 H2 => wipe σ2 vs = wipe σ vs ∧ tt σ2 H2 fun b H3 =>
    if b = true then te σ2 H3 fun y H4 => ∃ acc, H4 D = some (.lst acc) ∧ acc.length < sizeLine ∧ Nx (upd H4 D (.lst (acc ++ [y]))) else Nx H3)
theorem lc_core {pins : List (Addr × Obj)} {s : Shared} {σ : St} {H : Hp} {Q : VK} {elt tg iter : Expr} {ifs : List Expr} {scope : Scope} {own : List (Str × Nat)} {pos pos' : Pos} {wi : TI} {g : TG} {tt : TT} {te : TE} {use : Option (Value → Sem Unit)} {Qf : Value → Shared → Prop}
    (hc : X.calm = true) (hN : X.N.Nodup) (I : Inv X pins σ H s) (hi : PI X tg iter wi) (ok : BlkOk X.N X.env.scope scope own)
    (hg : ∀ (s : Shared) (H : Hp) (C : Addr) (cl : List (Str × Addr)) (fp : List Addr), PG (X.blk s H scope (compEnvC scope cl C X.env) fp) tg g) (ht : ∀ (s : Shared) (H : Hp) (C : Addr) (cl : List (Str × Addr)) (fp : List Addr), PTs (X.blk s H scope (compEnvC scope cl C X.env) fp) ifs tt)
    (he : ∀ (s : Shared) (H : Hp) (C : Addr) (cl : List (Str × Addr)) (fp : List Addr), PE (X.blk s H scope (compEnvC scope cl C X.env) fp) elt te) (hs : ∀ x, foldedSetIterable iter X.env x = pure x)
    (h : tLc wi g tt te (own.map (·.2)) σ H Q)
    (hRR : ∀ D C s' m H', Inv X pins σ H' s' → Q (.ref D) H' → s'.heap.Ns C m → FpOk X pins H' C → compPost (model X.prog X.w) X.A X.xe use Qf (.ref D) C (.ok .next) s') :
    wpAny (model X.prog X.w) X.A (comprehension (.ListComp elt [⟨tg, iter, ifs, 0⟩] scope pos) scope X.env pos' (newList []) false (eval iter X.env) use) Qf X.xe s := by
  have hfree : ∀ y ∈ scope.names, y.2 = .free → ∃ c, X.env.cells.lookup y.1 = some c := fun y hy e => by
    rcases ok.free y hy e with k | k
    · exact I.ok.has _ (.inl k)
    · exact I.ok.has _ (.inr k)
  refine wpAny_comprehension_free (use := use) rfl hs (closure_ok hfree) ok.kind (fun y hy e => by rw [ok.uniq y hy, e])
    (thn (hi pins s σ H _ I h) fun xv s1 hx => thn hx fun itv s2 h2 => ?_)
  obtain ⟨it, fp, tn, J, H2, e, I2, T, st2, f2, q⟩ := h2
  subst e
  refine wpAny_newObj_type (newEnv_comp ?_) (by show 0 ≤ sizeLine; decide)
  generalize hD : s2.heap.objs.size = D
  have hDn : H2 D = none := I2.hok.fresh (Nat.le_of_eq hD)
  obtain ⟨W, ⟨m0, w0⟩, turn⟩ := q D hDn
  -- the new list
  generalize hs3 : ({ s2 with heap := s2.heap.push { cls := .type "list", data := .seq ([] : List Value).toArray } } : Shared) = s3
  have I3 : Inv X pins σ (upd H2 D (.lst [])) s3 := by
    rw [← hs3]
    refine I2.laid (t' := s2.toks) (fun b o e => Heap.get?_push_of_some _ e) (Nat.le_of_eq hD) ⟨Nat.zero_le _, [], 0, .nil, ?_⟩
    rw [← hD]
    exact Heap.get?_push_size _ rfl
  have h3 : s3.heap = s2.heap.push { cls := .type "list", data := .seq ([] : List Value).toArray } := by rw [← hs3]
  have sz : ∀ b ∈ fp, b < s2.heap.objs.size := fun b hb => by
    obtain ⟨o, e, _⟩ := T.obj _ _ st2 b hb
    exact Heap.lt_size e
  have f3 : ∀ b ∈ fp, FpOk X pins (upd H2 D (.lst [])) b ∧ b < s3.heap.objs.size := fun b hb => by
    have hlt := sz b hb
    refine ⟨⟨?_, (f2 b hb).2⟩, by rw [h3, Heap.size_push]; exact Nat.lt_succ_of_lt hlt⟩
    rw [upd_ne (by rw [← hD]; exact Nat.ne_of_lt hlt)]
    exact (f2 b hb).1
  have st3 : tn 0 s3.heap := T.keep _ _ _ st2 fun b _ o e => by rw [h3]; exact Heap.get?_push_of_some _ e
  have I4 := block_start I3 ok hN f3
  have pg := hg s3 (upd H2 D (.lst [])) s3.heap.objs.size (cellsFrom (s3.heap.objs.size + 1) scope.names (cloFrom X.env.cells scope.names [])) fp
  have pt := ht s3 (upd H2 D (.lst [])) s3.heap.objs.size (cellsFrom (s3.heap.objs.size + 1) scope.names (cloFrom X.env.cells scope.names [])) fp
  have pe := he s3 (upd H2 D (.lst [])) s3.heap.objs.size (cellsFrom (s3.heap.objs.size + 1) scope.names (cloFrom X.env.cells scope.names [])) fp
  show codeAny _ _ (.compStart (.ListComp elt [⟨tg, iter, ifs, 0⟩] scope pos) 0 (.ref it) (.ref D) (compEnvC scope (cellsFrom (s3.heap.objs.size + 1) scope.names (cloFrom X.env.cells scope.names [])) s3.heap.objs.size X.env)) (compPost (model X.prog X.w) X.A X.xe use Qf (.ref D) s3.heap.objs.size) { s3 with heap := pushCells (s3.heap.push { cls := .type "dict", data := .dict #[] }) scope.names }
  have nfp : ∀ b ∈ fp, (upd H2 D (.lst [])) b = none := fun b hb => (f3 b hb).1.1
  generalize hce : compEnvC scope (cellsFrom (s3.heap.objs.size + 1) scope.names (cloFrom X.env.cells scope.names [])) s3.heap.objs.size X.env = ce at I4 pg pt pe ⊢
  have cL : ce.locals = s3.heap.objs.size := by subst hce; rfl
  generalize hH3 : upd H2 D (.lst []) = H3 at I3 I4 pg pt pe w0 nfp f3
  generalize hs4 : ({ s3 with heap := pushCells (s3.heap.push { cls := .type "dict", data := .dict #[] }) scope.names } : Shared) = s4 at I4 ⊢
  have st4 : tn 0 s4.heap := T.keep _ _ _ st3 fun b _ o e => by rw [← hs4]; exact pushCells_keeps _ _ _ _ (Heap.get?_push_of_some _ e)
  have stat : ∀ {σ' : St} {H' : Hp} {s' : Shared}, Inv (X.blk s3 H3 scope ce fp) [] σ' H' s' → (∀ b ∈ fp, H' b = none) → ∀ b ∈ fp, FpOk (X.blk s3 H3 scope ce fp) [] H' b := fun {σ' H' s'} I' hn b hb =>
    ⟨hn b hb, (I'.ok.exf b hb).1, I'.ok.exfs b hb, .inl hb, fun x c e => (I'.ok.exf b hb).2 x c e, fun p hp => absurd (show p ∈ ([] : List (Addr × Obj)) ++ [] from hp) (by simp)⟩
  have loop : codeAny (model X.prog X.w) X.A (.compLoop (.ListComp elt [⟨tg, iter, ifs, 0⟩] scope pos) 0 (.ref it) (.ref D) ce) (compPost (model X.prog X.w) X.A X.xe use Qf (.ref D) s3.heap.objs.size) s4 := by
    refine compLoop_any (fun n s' => ∃ i H', Inv (X.blk s3 H3 scope ce fp) [] (wipe σ (own.map (·.2))) H' s' ∧ tn i s'.heap ∧ (∀ b ∈ fp, H' b = none) ∧ W i n H') ?_ m0 ⟨0, H3, I4, st4, nfp, w0⟩
    rintro n s5 ⟨i, H5, I5, st5, n5, w5⟩
    rcases turn i n H5 w5 with ⟨stop, qq⟩ | ⟨go, Nx, hNx, step⟩
    · have td := T.done (X.blk s3 H3 scope ce fp) rfl rfl rfl hc i [] s5 _ H5 (fun _ _ => False) I5 (stat I5 n5) st5 stop
      refine thnF td fun r s6 ⟨hr, I6⟩ => ?_
      subst hr
      -- back in the def's context
      have I7 : Inv X pins σ H5 s6 := I3.call' (ch := fp) I6.os I6.base I6.hok I6.bare fun b hb => ⟨(f3 b hb).1.2.2.2.1, (f3 b hb).1.2.1, (f3 b hb).1.2.2.2.2.1, (f3 b hb).1.2.2.2.2.2⟩
      have nC : H5 s3.heap.objs.size = none := by
        have z : H5 ce.locals = none := I6.free
        rw [cL] at z
        exact z
      obtain ⟨m, hn, _⟩ := I6.loc
      have hn : s6.heap.Ns ce.locals m := hn
      rw [cL] at hn
      exact hRR D s3.heap.objs.size s6 m H5 I7 qq hn (I3.fpOk (Nat.le_refl _) nC)
    · have ti := T.item (X.blk s3 H3 scope ce fp) rfl rfl rfl hc i [] s5 _ H5 (fun _ _ => False) I5 (stat I5 n5) st5 go
      refine thnF ti fun r s6 ⟨u, hr, h6⟩ => ?_
      subst hr
      refine thnF h6 fun _ s7 ⟨x, H7, I7, r7, y7, st7, n7⟩ => ?_
      have I7' := I7.pinned (stat I7 n7) (T.obj _ _ st7)
      refine thnF (pg _ s7 _ H7 x u _ I7' r7 (step x H7 y7)) fun _ s8 ⟨σ8, H8, I8, hw8, q8⟩ => ?_
      refine thnF (pt _ s8 σ8 H8 _ I8 q8) fun b s9 ⟨H9, I9, q9⟩ => ?_
      -- the turn's end
      have fin : ∀ {s' : Shared} {H' : Hp}, Inv (X.blk s3 H3 scope ce fp) ([] ++ pinsAt fp s7.heap) σ8 H' s' → Nx H' → ∃ m, m < n ∧ ∃ i H', Inv (X.blk s3 H3 scope ce fp) [] (wipe σ (own.map (·.2))) H' s' ∧ tn i s'.heap ∧ (∀ b ∈ fp, H' b = none) ∧ W i m H' := fun {s' H'} I' nx => by
        obtain ⟨m', hm, w'⟩ := hNx H' nx
        have pin' : ∀ b ∈ fp, ∀ o, s7.heap.get? b = some o → s'.heap.get? b = some o ∧ H' b = none := fun b hb o e =>
          let z := I'.pin (b, o) (List.mem_append_right _ (List.mem_append_right _ (mem_pinsAt hb e)))
          ⟨z.1, z.2.1⟩
        have hl : (wipe σ (own.map (·.2))).length = σ8.length := by rw [← hw8, wipe_length]
        refine ⟨m', hm, i + 1, H', (I'.unpinned (pins := [])).weak hl (fun j v e => ?_), T.keep _ _ _ st7 fun b hb o e => (pin' b hb o e).1, fun b hb => ?_, w'⟩
        · rw [← hw8] at e
          exact (wipe_some e).1
        · obtain ⟨o, e, _⟩ := T.obj _ _ st7 b hb
          exact (pin' b hb o e).2
      cases b with
      | false =>
        simp only [Bool.false_eq_true, if_false] at q9 ⊢
        exact fin I9 q9
      | true =>
        simp only [if_true] at q9 ⊢
        refine thnF (pe _ s9 σ8 H9 _ I9 q9) fun z s10 ⟨yv, H10, I10, r10, acc, hD10, hz10, nx⟩ => ?_
        exact app_ok (X := X.blk s3 H3 scope ce fp) I10 hD10 hz10 r10 fun s11 I11 => fin I11 nx
  exact codeAny_compStart_list loop (T.self X.A 0 _ _ _ st4 loop)
/-- as a value -/
theorem pe_lc {elt tg iter : Expr} {ifs : List Expr} {scope : Scope} {own : List (Str × Nat)} {pos : Pos} {wi : TI} {g : TG} {tt : TT} {te : TE} (hc : X.calm = true) (hN : X.N.Nodup) (hi : PI X tg iter wi) (ok : BlkOk X.N X.env.scope scope own)
    (hg : ∀ (s : Shared) (H : Hp) (C : Addr) (cl : List (Str × Addr)) (fp : List Addr), PG (X.blk s H scope (compEnvC scope cl C X.env) fp) tg g) (ht : ∀ (s : Shared) (H : Hp) (C : Addr) (cl : List (Str × Addr)) (fp : List Addr), PTs (X.blk s H scope (compEnvC scope cl C X.env) fp) ifs tt)
    (he : ∀ (s : Shared) (H : Hp) (C : Addr) (cl : List (Str × Addr)) (fp : List Addr), PE (X.blk s H scope (compEnvC scope cl C X.env) fp) elt te) (hs : ∀ x, foldedSetIterable iter X.env x = pure x := by intro _; rfl) :
    PE X (.ListComp elt [⟨tg, iter, ifs, 0⟩] scope pos) (tLc wi g tt te (own.map (·.2))) := by
  intro pins s σ H Q I h
  rw [eval_ListComp]
  refine lc_core hc hN I hi ok hg ht he hs h fun D C s' m H' I' q hn f => ⟨m, hn, fun h'' sb => ?_⟩
  obtain ⟨f0, f1, f2, f3, f4, f5⟩ := f
  exact ⟨.ref D, H', I'.turned (t' := s'.toks) (fun b o hb e => (sb.2 b hb).trans e) f0 f1 f3 f4 f5, rfl, q⟩
end

/-! ### the forms one uses -/
/-- over a range: Pv by the turn and the heap (the new list at D within) -/
theorem lc_range {lo : Int} {n : Nat} {g : TG} {tt : TT} {te : TE} {vs : List Nat} {σ : St} {H1 : Hp} {D : Addr} {Qd : Hp → Prop} (Pv : Nat → Hp → Prop) (h0 : Pv 0 (upd H1 D (.lst [])))
    (hs : ∀ i H, i < n → Pv i H → g (.int (lo + i)) (wipe σ vs) H fun σ2 H2 => wipe σ2 vs = wipe σ vs ∧ tt σ2 H2 fun b H3 =>
      if b = true then te σ2 H3 fun y H4 => ∃ acc, H4 D = some (.lst acc) ∧ acc.length < sizeLine ∧ Pv (i + 1) (upd H4 D (.lst (acc ++ [y]))) else Pv (i + 1) H3) (hd : ∀ H, Pv n H → Qd H) :
    ∃ W : Nat → Nat → Hp → Prop, (∃ m, W 0 m (upd H1 D (.lst []))) ∧ ∀ i m H, W i m H →
      ((Itr lo n).stop i H ∧ Qd H) ∨ ((Itr lo n).go i H ∧ ∃ Nx : Hp → Prop, (∀ H', Nx H' → ∃ m', m' < m ∧ W (i + 1) m' H') ∧ ∀ x H', (Itr lo n).yld i H x H' → g x (wipe σ vs) H' fun σ2 H2 => wipe σ2 vs = wipe σ vs ∧ tt σ2 H2 fun b H3 =>
        if b = true then te σ2 H3 fun y H4 => ∃ acc, H4 D = some (.lst acc) ∧ acc.length < sizeLine ∧ Nx (upd H4 D (.lst (acc ++ [y]))) else Nx H3) := by
  refine ⟨fun i m H => m = n - i ∧ i ≤ n ∧ Pv i H, ⟨n, by simp, Nat.zero_le _, h0⟩, ?_⟩
  rintro i m H ⟨rfl, hi, p⟩
  by_cases hlt : i < n
  · refine .inr ⟨hlt, Pv (i + 1), fun H' p' => ⟨n - (i + 1), by omega, rfl, hlt, p'⟩, fun x H' y => ?_⟩
    obtain ⟨e, y⟩ := y
    subst e y
    exact hs i _ hlt p
  · have e : i = n := by omega
    subst e
    exact .inl ⟨Nat.le_refl _, hd H p⟩
/-- over a tuple -/
theorem lc_tup {K : PySem.W.Frag} {a : Addr} {xs : List V} {g : TG} {tt : TT} {te : TE} {vs : List Nat} {σ : St} {H1 : Hp} {D : Addr} {Qd : Hp → Prop} (Pv : Nat → Hp → Prop) (h0 : Pv 0 (upd H1 D (.lst []))) (hl : ∀ i H, i ≤ xs.length → Pv i H → SqT K H a xs)
    (hs : ∀ i x H, xs[i]? = some x → Pv i H → g x (wipe σ vs) H fun σ2 H2 => wipe σ2 vs = wipe σ vs ∧ tt σ2 H2 fun b H3 =>
      if b = true then te σ2 H3 fun y H4 => ∃ acc, H4 D = some (.lst acc) ∧ acc.length < sizeLine ∧ Pv (i + 1) (upd H4 D (.lst (acc ++ [y]))) else Pv (i + 1) H3) (hd : ∀ H, Pv xs.length H → Qd H) :
    ∃ W : Nat → Nat → Hp → Prop, (∃ m, W 0 m (upd H1 D (.lst []))) ∧ ∀ i m H, W i m H →
      ((Itt K a).stop i H ∧ Qd H) ∨ ((Itt K a).go i H ∧ ∃ Nx : Hp → Prop, (∀ H', Nx H' → ∃ m', m' < m ∧ W (i + 1) m' H') ∧ ∀ x H', (Itt K a).yld i H x H' → g x (wipe σ vs) H' fun σ2 H2 => wipe σ2 vs = wipe σ vs ∧ tt σ2 H2 fun b H3 =>
        if b = true then te σ2 H3 fun y H4 => ∃ acc, H4 D = some (.lst acc) ∧ acc.length < sizeLine ∧ Nx (upd H4 D (.lst (acc ++ [y]))) else Nx H3) := by
  refine ⟨fun i m H => m = xs.length - i ∧ i ≤ xs.length ∧ Pv i H, ⟨xs.length, by simp, Nat.zero_le _, h0⟩, ?_⟩
  rintro i m H ⟨rfl, hi, p⟩
  have q := hl i H hi p
  by_cases hlt : i < xs.length
  · refine .inr ⟨⟨xs, xs[i], q, by simp [hlt]⟩, Pv (i + 1), fun H' p' => ⟨xs.length - (i + 1), by omega, rfl, hlt, p'⟩, fun x H' y => ?_⟩
    obtain ⟨e, y⟩ := y
    subst e
    exact hs i x _ (y xs q) p
  · have e : i = xs.length := by omega
    subst e
    exact .inl ⟨⟨xs, q, Nat.le_refl _⟩, hd H p⟩
def blkC (N : List Str) (sc scope : Scope) (own : List (Str × Nat)) : Bool :=
  (match scope.kind with | .function => true | _ => false) && (scope.names.all fun y => decide (scope.names.lookup y.1 = some y.2)) && (own.all fun p => decide (N[p.2]? = some p.1)) &&
    (scope.names.all fun y => match y.2 with
      | .free => (match sc.names.lookup y.1 with | some .cell => true | some .free => true | _ => false)
      | .local => decide (y.1 ∈ own.map (·.1)) || decide (y.1 ∉ N)
      | .cell => decide (y.1 ∈ own.map (·.1)) || decide (y.1 ∉ N)
      | _ => true)
theorem blkOk_by {N : List Str} {sc scope : Scope} {own : List (Str × Nat)} (h : blkC N sc scope own = true) : BlkOk N sc scope own := by
  unfold blkC at h
  simp only [Bool.and_eq_true, List.all_eq_true, decide_eq_true_eq] at h
  obtain ⟨⟨⟨h1, h2⟩, h3⟩, h4⟩ := h
  refine ⟨?_, h2, h3, fun y hy e => ?_, fun y hy e => ?_⟩
  · split at h1
    · assumption
    · cases h1
  · have q := h4 y hy
    simp only [e] at q
    split at q <;> first | exact .inl (by assumption) | exact .inr (by assumption) | cases q
  · have q := h4 y hy
    rcases e with e | e <;> (simp only [e, Bool.or_eq_true, decide_eq_true_eq] at q; exact q)
end L2

namespace L2
open PySem PySem.Spec PyProof.Rows

section
variable {prog : Program} {w : World} {A : Around} {R : Result → Shared → Prop} {s : Shared} {elt t0 i0 t1 i1 : Expr} {ifs0 ifs1 : List Expr} {scope : Scope} {pos : Pos} {it acc : Value} {env : Env}
end

section
variable {X : Cx}
end
end L2

namespace L2
open PySem PySem.Spec PyProof.Rows

/-! ### lists of pairs as tables -/
section
variable {κ : Type} [DecidableEq κ]
def valV (kvs : List (κ × V)) (k : κ) : Option V := (kvs.find? fun kv => decide (kv.1 = k)).map (·.2)
/-- in its place, or at the end -/
def putK (kvs : List (κ × V)) (k : κ) (v : V) : List (κ × V) :=
  if (kvs.any fun kv => decide (kv.1 = k)) = true then kvs.map (fun kv => if kv.1 = k then (kv.1, v) else kv) else kvs ++ [(k, v)]
def dropK (kvs : List (κ × V)) (k : κ) : List (κ × V) := kvs.filter fun kv => decide (kv.1 ≠ k)

theorem valV_pos {p : κ × V} {r : List (κ × V)} {k : κ} (e : p.1 = k) : valV (p :: r) k = some p.2 := by simp [valV, List.find?_cons, e]
theorem valV_neg {p : κ × V} {r : List (κ × V)} {k : κ} (e : ¬ p.1 = k) : valV (p :: r) k = valV r k := by simp [valV, List.find?_cons, e]
theorem valV_any (k : κ) : ∀ kvs : List (κ × V), (kvs.any fun kv => decide (kv.1 = k)) = (valV kvs k).isSome
  | [] => rfl
  | p :: r => by
    rw [List.any_cons]
    by_cases e : p.1 = k
    · simp only [valV_pos e, decide_eq_true e, Bool.true_or, Option.isSome_some]
    · rw [valV_neg e, decide_eq_false e, Bool.false_or]; exact valV_any k r
theorem RelO.isSome_eq {o : Option V} {u : Option Value} (r : RelO o u) : o.isSome = u.isSome := by
  cases o with
  | none => cases u with
    | none => rfl
    | some _ => exact (show False from r).elim
  | some _ => cases u with
    | none => exact (show False from r).elim
    | some _ => rfl
theorem RelO.getD {o : Option V} {u : Option Value} {d : V} {d' : Value} (r : RelO o u) (rd : RelV d d') : RelV (o.getD d) (u.getD d') := by
  cases o with
  | none => cases u with
    | none => exact rd
    | some _ => exact (show False from r).elim
  | some _ => cases u with
    | none => exact (show False from r).elim
    | some _ => exact r

/-- raw tables of the same keys -/
theorem KV.val {kvs : List (κ × V)} {vs : List (κ × Value)} (r : KV kvs vs) (k : κ) : RelO (valV kvs k) (valueAt vs k) := by
  unfold KV at r
  induction r with
  | nil => exact True.intro
  | @cons p q ps qs h t ih =>
    obtain ⟨h1, h2⟩ := h
    by_cases e : p.1 = k
    · have e' : q.1 = k := h1.symm.trans e
      have b : valueAt (q :: qs) k = some q.2 := by simp [valueAt, List.find?_cons, e']
      rw [valV_pos e, b]; exact h2
    · have e' : ¬ q.1 = k := fun z => e (h1.trans z)
      have b : valueAt (q :: qs) k = valueAt qs k := by simp [valueAt, List.find?_cons, e']
      rw [valV_neg e, b]; exact ih
theorem KV.any {kvs : List (κ × V)} {vs : List (κ × Value)} (r : KV kvs vs) (k : κ) : (kvs.any fun kv => decide (kv.1 = k)) = vs.any fun kv => decide (kv.1 = k) := by
  unfold KV at r
  induction r with
  | nil => rfl
  | cons h t ih => rw [List.any_cons, List.any_cons, ih, h.1]
theorem KV.repl {kvs : List (κ × V)} {vs : List (κ × Value)} (r : KV kvs vs) (k : κ) {y : V} {u : Value} (ry : RelV y u) :
    KV (kvs.map fun kv => if kv.1 = k then (kv.1, y) else kv) (vs.map fun kv => if kv.1 = k then (kv.1, u) else kv) := by
  unfold KV at r ⊢
  induction r with
  | nil => exact .nil
  | @cons p q ps qs h t ih =>
    rw [List.map_cons, List.map_cons]
    refine .cons ?_ ih
    obtain ⟨h1, h2⟩ := h
    by_cases e : p.1 = k
    · rw [if_pos e, if_pos (h1.symm.trans e)]; exact ⟨h1, ry⟩
    · rw [if_neg e, if_neg (fun z => e (h1.trans z))]; exact ⟨h1, h2⟩
theorem KV.put {kvs : List (κ × V)} {vs : List (κ × Value)} (r : KV kvs vs) (k : κ) {y : V} {u : Value} (ry : RelV y u) : KV (putK kvs k y) (stored vs k u) := by
  unfold putK stored
  rw [r.any k]
  by_cases e : (vs.any fun kv => decide (kv.1 = k)) = true
  · rw [if_pos e, if_pos e]; exact r.repl k ry
  · rw [if_neg e, if_neg e]; exact Paired.snoc r ⟨rfl, ry⟩
theorem KV.drop {kvs : List (κ × V)} {vs : List (κ × Value)} (r : KV kvs vs) (k : κ) : KV (dropK kvs k) (without vs k) := by
  unfold KV at r ⊢
  unfold dropK without
  induction r with
  | nil => exact .nil
  | @cons p q ps qs h t ih =>
    obtain ⟨h1, h2⟩ := h
    rw [List.filter_cons, List.filter_cons]
    by_cases e : p.1 = k
    · have a : ¬ decide (p.1 ≠ k) = true := by simp [e]
      have b : ¬ decide (q.1 ≠ k) = true := by simp [h1.symm.trans e]
      rw [if_neg a, if_neg b]; exact ih
    · have e' : ¬ q.1 = k := fun z => e (h1.trans z)
      have a : decide (p.1 ≠ k) = true := by simp [e]
      have b : decide (q.1 ≠ k) = true := by simp [e']
      rw [if_pos a, if_pos b]; exact .cons ⟨h1, h2⟩ ih
theorem KV.length {kvs : List (κ × V)} {vs : List (κ × Value)} (r : KV kvs vs) : kvs.length = vs.length := Paired.length r
end


/-! ### a tracked dict, its keys ints and texts or tuples of these -/
/-- raw entries of a dict with tuple keys -/
abbrev KT (H : Hp) : List (List Key × V) → List (List Key × Addr × Value) → Prop := Paired fun p q => p.1 = q.1 ∧ H q.2.1 = some (.tup (p.1.map kV)) ∧ RelV p.2 q.2.2
theorem KT.val {H : Hp} {kvs : List (List Key × V)} {xs : List (List Key × Addr × Value)} (r : KT H kvs xs) (k : List Key) : RelO (valV kvs k) ((atKey xs k).map (·.2)) := by
  induction r with
  | nil => exact True.intro
  | @cons p q ps qs h t ih =>
    obtain ⟨h1, _, h2⟩ := h
    by_cases e : p.1 = k
    · have e' : q.1 = k := h1.symm.trans e
      have b : atKey (q :: qs) k = some q.2 := by simp [atKey, List.find?_cons, e']
      rw [valV_pos e, b]; exact h2
    · have e' : ¬ q.1 = k := fun z => e (h1.trans z)
      have b : atKey (q :: qs) k = atKey qs k := by simp [atKey, List.find?_cons, e']
      rw [valV_neg e, b]; exact ih
theorem KT.repl {H : Hp} {kvs : List (List Key × V)} {xs : List (List Key × Addr × Value)} (r : KT H kvs xs) (k : List Key) {y : V} {u : Value} (ry : RelV y u) :
    KT H (kvs.map fun kv => if kv.1 = k then (kv.1, y) else kv) (xs.map (putAt k u)) := by
  induction r with
  | nil => exact .nil
  | @cons p q ps qs h t ih =>
    rw [List.map_cons, List.map_cons]
    refine .cons ?_ ih
    obtain ⟨h1, h2, h3⟩ := h
    unfold putAt
    by_cases e : p.1 = k
    · rw [if_pos e, if_pos (h1.symm.trans e)]; exact ⟨h1, h2, ry⟩
    · rw [if_neg e, if_neg (fun z => e (h1.trans z))]; exact ⟨h1, h2, h3⟩
theorem KT.put {H : Hp} {kvs : List (List Key × V)} {xs : List (List Key × Addr × Value)} (r : KT H kvs xs) (k : List Key) {b : Addr} {y : V} {u : Value} (hb : H b = some (.tup (k.map kV))) (ry : RelV y u) :
    KT H (putK kvs k y) (storedH xs k b u) := by
  have e : (kvs.any fun kv => decide (kv.1 = k)) = (atKey xs k).isSome := by
    rw [valV_any, (r.val k).isSome_eq, Option.isSome_map]
  unfold putK storedH
  rw [e]
  by_cases q : (atKey xs k).isSome = true
  · rw [if_pos q, if_pos q]; exact r.repl k ry
  · rw [if_neg q, if_neg q]; exact Paired.snoc r ⟨rfl, hb, ry⟩
theorem KT.keeps {H H' : Hp} {kvs : List (List Key × V)} {xs : List (List Key × Addr × Value)} (r : KT H kvs xs) (ht : ∀ b ys, H b = some (.tup ys) → H' b = some (.tup ys)) : KT H' kvs xs :=
  Paired.mapP r fun _ _ z => ⟨z.1, ht _ _ z.2.1, z.2.2⟩

section
variable {P : Program} {w : World} {H : Hp} {h : Heap} {a : Addr}
end

/-- what the dict at a holds at the key y -/
def DGet (H : Hp) (a : Addr) (y : V) (r : Option V) : Prop :=
  (∃ kvs k, Rd H a (.dK kvs) ∧ y = kV k ∧ r = valV kvs k) ∨ ∃ kvs k b, Rd H a (.dT kvs) ∧ y = .ref b ∧ H b = some (.tup (k.map kV)) ∧ r = valV kvs k
/-- the heap behind a[y] = v -/
def DPut (H : Hp) (a : Addr) (y v : V) (H' : Hp) : Prop :=
  (∃ kvs k, H a = some (.dK kvs) ∧ y = kV k ∧ kvs.length < sizeLine ∧ H' = upd H a (.dK (putK kvs k v))) ∨
  ∃ kvs k b, H a = some (.dT kvs) ∧ y = .ref b ∧ H b = some (.tup (k.map kV)) ∧ kvs.length < sizeLine ∧ H' = upd H a (.dT (putK kvs k v))
theorem DGet.k {H : Hp} {a : Addr} {kvs : List (Key × V)} {k : Key} (e : H a = some (.dK kvs)) : DGet H a (kV k) (valV kvs k) := .inl ⟨kvs, k, .inl e, rfl, rfl⟩
theorem DGet.t {H : Hp} {a b : Addr} {kvs : List (List Key × V)} {k : List Key} (e : H a = some (.dT kvs)) (eb : H b = some (.tup (k.map kV))) : DGet H a (.ref b) (valV kvs k) := .inr ⟨kvs, k, b, .inl e, rfl, eb, rfl⟩
theorem DPut.k {H : Hp} {a : Addr} {kvs : List (Key × V)} {k : Key} {v : V} (e : H a = some (.dK kvs)) (hl : kvs.length < sizeLine) : DPut H a (kV k) v (upd H a (.dK (putK kvs k v))) := .inl ⟨kvs, k, e, rfl, hl, rfl⟩
theorem DPut.t {H : Hp} {a b : Addr} {kvs : List (List Key × V)} {k : List Key} {v : V} (e : H a = some (.dT kvs)) (eb : H b = some (.tup (k.map kV))) (hl : kvs.length < sizeLine) :
    DPut H a (.ref b) v (upd H a (.dT (putK kvs k v))) := .inr ⟨kvs, k, b, e, rfl, eb, hl, rfl⟩


section
variable {X : Cx} {pins : List (Addr × Obj)} {σ : St} {H : Hp} {s : Shared} {a : Addr} {y v : V} {u r : Value} {o : Option V} {A : Around} {E : Value → Shared → Prop}

end

section
variable {X : Cx} {pins : List (Addr × Obj)} {σ : St} {H : Hp} {s : Shared} {a : Addr} {kvs : List (Key × V)} {k : Key} {u : Value} {A : Around} {E : Value → Shared → Prop}
end


/-! ### readings and rules -/
section
variable {X : Cx} {o i e value : Expr} {pos pos' tpos : Pos} {td ty tv : TE}
end


/-! ### displays -/
section
variable {X : Cx} {pos : Pos}
end

/-! ### methods -/
section
variable {X : Cx} {pins : List (Addr × Obj)} {σ : St} {H : Hp} {s : Shared} {a : Addr} {y d : V} {u r : Value} {o : Option V} {A : Around} {E : Value → Shared → Prop}
end

section
variable {X : Cx} {o e f : Expr} {apos cpos : Pos} {td ty tx : TE}
end

/-! ### dict(d): a copy -/
section
variable {X : Cx} {pins : List (Addr × Obj)} {σ : St} {H : Hp} {s : Shared} {a : Addr} {kvs : List (Key × V)} {A : Around} {E : Value → Shared → Prop}
end


section
variable {X : Cx} {pins : List (Addr × Obj)} {σ : St} {H : Hp} {s : Shared} {a : Addr} {y : V} {u : Value} {A : Around} {E : Value → Shared → Prop}
end
end L2

namespace L2
open PySem PySem.Spec PyProof.Rows

section
variable {prog : Program} {w : World} {A : Around} {E : Value → Shared → Prop}
end

section
variable {X : Cx}
end
end L2

namespace L2
open PySem PySem.Spec PyProof.Rows

section
variable {X : Cx} {pins : List (Addr × Obj)} {σ : St} {H : Hp} {s : Shared} {h' : Heap}
/-- several records of ours have turned -/
theorem Inv.turnedL {t' : Nat} {ch : List Addr} (I : Inv X pins σ H s) (k : ∀ b o, b ∉ ch → s.heap.get? b = some o → h'.get? b = some o) (hf : ∀ b ∈ ch, FpOk X pins H b) : Inv X pins σ H { s with heap := h', toks := t' } := by
  have nit : ∀ b u, H b = some u → b ∉ ch := fun b u e z => by
    have q := (hf b z).1
    rw [q] at e; cases e
  refine I.step (g' := s.gens) (d' := s.drawn) (ch := ch) (fun b hb => ⟨(hf b hb).2.2.2.1, (hf b hb).2.1, (hf b hb).2.2.2.2.1, (hf b hb).2.2.2.2.2⟩) (fun b o _ _ hc e _ => k b o hc e) (fun b o _ _ hc e _ => ⟨o.slots, k b o hc e⟩)
    (fun _ _ _ _ n => n) (fun b o hc e => ⟨o, k b o hc e⟩) (fun _ _ e => e) (fun _ _ _ e => e) (fun b ps e => ⟨#[], by rw [e]; simp⟩) (fun m hm => ?_) (fun b u e => ?_) I.bare.self
  · obtain ⟨o, es, ep, ho, r⟩ := hm
    exact ⟨o, es, ep, k _ o (fun z => (hf _ z).2.1 rfl) ho, r⟩
  · refine (I.hok b u e).stay (fun c v hc q => k c v ?_ q) (fun _ q => q) fun _ _ q => q
    rcases hc with z | z
    · rw [z]; exact nit b u e
    · exact nit c _ z
/-- .. and one new object is laid -/
theorem Inv.turnedNew {t' : Nat} {ch : List Addr} {T : Addr} {ob : HO} (I : Inv X pins σ H s) (k : ∀ b o, b ∉ ch → s.heap.get? b = some o → h'.get? b = some o) (hf : ∀ b ∈ ch, FpOk X pins H b) (hT : s.heap.objs.size ≤ T)
    (new : ObjOk X.prog X.w (upd H T ob) h' T ob) : Inv X pins σ (upd H T ob) { s with heap := h', toks := t' } := by
  have hn : H T = none := I.hok.fresh hT
  have nit : ∀ b u, H b = some u → b ∉ ch := fun b u e z => by
    have q := (hf b z).1
    rw [q] at e; cases e
  refine I.step (g' := s.gens) (d' := s.drawn) (ch := ch) (fun b hb => ⟨(hf b hb).2.2.2.1, (hf b hb).2.1, (hf b hb).2.2.2.2.1, (hf b hb).2.2.2.2.2⟩) (fun b o _ _ hc e _ => k b o hc e) (fun b o _ _ hc e _ => ⟨o.slots, k b o hc e⟩)
    (fun b o _ e n => ?_) (fun b o hc e => ⟨o, k b o hc e⟩) (fun b xs e => ?_) (fun b o u e => ?_) (fun b ps e => ⟨#[], ?_⟩) (fun m hm => ?_) (fun b u e => ?_) I.bare.self
  · rw [upd_ne (Nat.ne_of_lt (Nat.lt_of_lt_of_le (Heap.lt_size e) hT))]; exact n
  · rw [upd_ne (ne_of_none e hn)]; exact e
  · rw [upd_ne (ne_of_none e hn)]; exact e
  · rw [upd_ne (ne_of_none e hn), e]; simp
  · obtain ⟨o, es, ep, ho, r⟩ := hm
    exact ⟨o, es, ep, k _ o (fun z => (hf _ z).2.1 rfl) ho, r⟩
  · by_cases hb : b = T
    · subst hb
      rw [upd_same] at e
      cases e
      exact new
    · rw [upd_ne hb] at e
      refine (I.hok b u e).stay (fun c v hc q => k c v ?_ q) (fun c q => by rw [upd_ne (ne_of_none q hn)]; exact q) fun c xs q => by rw [upd_ne (ne_of_none q hn)]; exact q
      rcases hc with z | z
      · rw [z]; exact nit b u e
      · exact nit c _ z

/-! ### locking a thing while a statement runs -/
end
section
variable {X : Cx}
/-! ### one iterator just laid -/
end

/-! ### range with a step -/
section
variable {X : Cx} {tg : Expr}
end
/-! ### reversed(list) -/
section
variable {X : Cx} {tg : Expr}
end

/-! ### a str -/
/-! ### a dict's keys: any dict's entries -/
section
variable {prog : Program} {w : World} {A : Around} {E : Value → Shared → Prop} {s : Shared}
end

/-! ### a locked dict -/
section
variable {X : Cx} {pins : List (Addr × Obj)} {σ : St} {H : Hp} {s : Shared} {d : Addr} {o : Obj}
end

section
variable {P : Program} {w : World} {K : PySem.W.Frag} {tg : Expr} {d : Addr} {o : Obj} {es : Array DictEntry} {ep : Nat}
end

/-! ### for k in d, d.keys(), d.values(), d.items() -/
section
variable {X : Cx} {tg e : Expr} {td : TE} {apos cpos : Pos}
end

/-! ### enumerate(list) -/
/-- the list at a as it stands at each turn, each item in a new pair -/
def Ite (K : PySem.W.Frag) (a : Addr) : It :=
  ⟨fun i H => ∃ (xs : List V) (x : V), SqL K H a xs ∧ xs[i]? = some x, fun i H v H' => ∃ T x, v = .ref T ∧ H T = none ∧ H' = upd H T (.tup [.int (i : Nat), x]) ∧ ∀ xs, SqL K H a xs → xs[i]? = some x, fun i H => ∃ xs : List V, SqL K H a xs ∧ xs.length ≤ i⟩
theorem turn_enum {P : Program} {w : World} {K : PySem.W.Frag} {elts : List Expr} {kk : Nat} {tpos : Pos} (a e it : Addr) :
    Turn P w K (.Tuple elts kk tpos) (Ite K a) [e, it] e (fun i h => (∃ old, IsEnum h e it ((i : Nat) : Int) old) ∧ h.IsListIter it a i ∧ e ≠ it) where
  mem := by simp
  obj := fun i h st b hb => by
    obtain ⟨⟨old, he⟩, ⟨o, ho, hc, hd⟩, _⟩ := st
    have e' : b = e ∨ b = it := by simpa using hb
    rcases e' with z | z
    · rw [z]; exact ⟨_, he, fun v q => nomatch q⟩
    · rw [z]; exact ⟨o, ho, fun v q => by rw [hd] at q; cases q⟩
  keep := fun i h h' st k => let ⟨⟨old, he⟩, hi, hne⟩ := st; ⟨⟨old, k e (by simp) _ he⟩, hi.at fun o q => k it (by simp) o q, hne⟩
  item := by
    intro X hP hw hK hc i pins s σ H E I hf st hg
    subst hP hw hK
    obtain ⟨⟨old, he⟩, hit, hne⟩ := st
    obtain ⟨xs, x, hq, hx⟩ := hg
    obtain ⟨its, rv, p, hz⟩ := I.list hq
    obtain ⟨u, hu, ru⟩ := rv.get hx
    have hel : e < s.heap.objs.size := Heap.lt_size he
    have hil : it < s.heap.objs.size := by obtain ⟨_, q, _⟩ := hit; exact Heap.lt_size q
    refine wpAny_pyNext_enum_item he hit p.isList (x := u) (by simpa using hu) hne fun h' ho hit' hT hsz hk => ?_
    refine ⟨_, rfl, wpAny_letOwnedTupleGo_enum (s := { s with heap := h', toks := s.toks + 1 }) ho fun h'' he' sb => ?_⟩
    have hT2 : h''.get? s.heap.objs.size = some { cls := .type "tuple", data := .seq #[.int i s.toks, u] } := (sb.2 _ (Nat.ne_of_gt hel)).trans hT
    have new : ObjOk X.prog X.w (upd H s.heap.objs.size (.tup [.int (i : Nat), x])) h'' s.heap.objs.size (.tup [.int (i : Nat), x]) :=
      ⟨by show 2 ≤ sizeLine; decide, [.int i s.toks, u], .cons ⟨_, rfl⟩ (.cons ru .nil), ⟨_, hT2, rfl, _, rfl⟩⟩
    have I1 : Inv X pins σ (upd H s.heap.objs.size (.tup [.int (i : Nat), x])) { s with heap := h'', toks := s.toks + 1 } :=
      I.turnedNew (ch := [e, it]) (fun b ob hb q => (sb.2 b (fun z => hb (by simp [z]))).trans (hk b ob (fun z => hb (by simp [z])) (fun z => hb (by simp [z])) q)) hf (Nat.le_refl _) new
    refine ⟨.ref s.heap.objs.size, _, I1, rfl, ⟨_, x, rfl, I.hok.fresh (Nat.le_refl _), rfl, fun ys hy => by rw [I.list_inj hy hq]; exact hx⟩, ⟨⟨u, ?_⟩, hit'.at fun o q => (sb.2 it (Ne.symm hne)).trans q, hne⟩, fun b hb => ?_⟩
    · have e1 : ((i + 1 : Nat) : Int) = (i : Int) + 1 := by omega
      rw [e1]; exact he'
    · have hb' : b < s.heap.objs.size := by
        have e' : b = e ∨ b = it := by simpa using hb
        rcases e' with z | z
        · rw [z]; exact hel
        · rw [z]; exact hil
      rw [upd_ne (Nat.ne_of_lt hb')]
      exact (hf b hb).1
  done := by
    intro X hP hw hK hc i pins s σ H E I hf st hg
    subst hP hw hK
    obtain ⟨⟨old, he⟩, hit, hne⟩ := st
    obtain ⟨xs, hq, hx⟩ := hg
    obtain ⟨its, rv, p, hz⟩ := I.list hq
    obtain ⟨f0, f1, f2, f3, f4, f5⟩ := hf it (by simp)
    have hl := rv.length
    exact wpAny_pyNext_enum_end (I.ok.hd hc) he hit p.isList (by simp; omega) fun h' eb => ⟨rfl, I.turned (t' := s.toks) (fun b o hb q => eb b o hb q) f0 f1 f3 f4 f5⟩
  self := fun A i s Q E st h => let ⟨⟨_, he⟩, _⟩ := st; wpAny_pyIter_enum he h
def iEnum (K : PySem.W.Frag) (ta : TA) : TI := fun σ H R => ta σ H fun vs H1 => ∃ a xs, vs = [.ref a] ∧ SqL K H1 a xs ∧ R (Ite K a) H1
theorem pi_enum {X : Cx} {e : Expr} {ta : TA} {p pos tpos : Pos} {elts : List Expr} {kk : Nat} (hg : Gl X "enumerate") (hm : X.mg "enumerate" = none) (ha : PA X [e] ta) (hs : starEach [e] X.env = [(false, eval e X.env)] := by rfl) :
    PI X (.Tuple elts kk tpos) (.Call (.Name "enumerate" p) [e] [] pos) (iEnum X.K ta) := by
  intro pins s σ H R I h
  refine Call_ (ld_blt I hg hm boot_enumerate (PyProof.Rows.callWith_type1 (thn (ha pos pins s σ H _ I h) fun us s1 ⟨vs, H1, I1, r1, q1⟩ => ?_) hs rfl))
  obtain ⟨a, xs, ex, hq, q⟩ := q1
  subst ex
  cases r1 with
  | cons r rr =>
    cases rr
    cases r
    obtain ⟨its, rv, p', hz⟩ := I1.list hq
    refine call_enumerate_list p'.isList fun h' he hit hsz hk => wpAny_pyIter_enum he ?_
    have I2 : Inv X pins σ H1 { s1 with heap := h' } := I1.kept (t' := s1.toks) hk
    refine ⟨s1.heap.objs.size + 1, [s1.heap.objs.size + 1, s1.heap.objs.size], _, _, H1, rfl, I2, turn_enum a (s1.heap.objs.size + 1) s1.heap.objs.size, ⟨⟨.none, he⟩, hit, Nat.succ_ne_self _⟩, fun b hb => ?_, q⟩
    have e' : b = s1.heap.objs.size + 1 ∨ b = s1.heap.objs.size := by simpa using hb
    have hle : s1.heap.objs.size ≤ b := by
      rcases e' with z | z
      · rw [z]; exact Nat.le_add_right _ _
      · rw [z]; exact Nat.le_refl _
    exact I1.fpOk hle (I1.hok.fresh hle)
/-! ### zip(list, list) -/
theorem boot_zip5 : bootBuiltins "zip" = some (.type "zip") := by decide +kernel
end L2

section 
namespace Bits
open PySem PyProof.Rows

end Bits
end 

section 
namespace TL
open PySem PySem.Builtin PySem.Builtin.Str PySem.StrLaws

abbrev tl (x : Str) : List Nat := x.cps.toList
/-! ### the list functions -/
/-- S stands at the head of l -/
def pre (S l : List Nat) : Bool := l.take S.length == S
/-- what stands before the first S, and behind it -/
def par (S : List Nat) : List Nat → List Nat → Option (List Nat × List Nat)
  | _, [] => none
  | acc, c :: r => if pre S (c :: r) = true then some (acc, (c :: r).drop S.length) else par S (acc ++ [c]) r

/-! ### the model's split and partition are these -/
/-! ### computing spl and par -/
/-! ### digits -/
/-! ### words: x.split() -/
end TL
end 

namespace L2
open PySem PySem.Spec PyProof.Rows

section
variable {X : Cx} {pins : List (Addr × Obj)} {σ : St} {H : Hp} {s : Shared} {Q : VK}
end

section
variable {X : Cx}

/-! ### of a text alone -/
/-! ### of a text and a text -/
end

section
variable {X : Cx} {o e : Expr} {to te : TE}
end
end L2

namespace L2
open PySem PySem.Spec PyProof.Rows

section
variable {X : Cx}
end

/-! ### slices of a text -/
end L2

namespace Att
open PySem PySem.W PySem.Calls PyProof.Rows

/-! ### the script -/
theorem ints_of_wellAll {P : Params} {h : Heap} : ∀ (ns : List Int) (vs : List Value), WellAll P h vs (ns.map WData.int) → IntsAre vs ns := by
  intro ns
  induction ns with
  | nil =>
    intro vs w
    rw [List.map_nil] at w
    cases w
    exact .nil
  | cons n ns ih =>
    intro vs w
    rw [List.map_cons] at w
    cases w with
    | cons a b =>
      cases a
      exact .cons _ _ (ih _ b)

theorem script_of {l : OpenLaw} {n : Nat} (hn : l.most = some n) {P : Params} {h : Heap} {args : List WData} {vals : List Value}
    (hpre : l.row.toRowW.claim.pre args = true) (hwl : WellAll P h vals args) :
    ∃ a vs ns, vals = [Value.ref a] ∧ args = [WData.list (ns.map WData.int)] ∧ h.get? a = some { cls := .type "list", data := .seq vs.toArray } ∧ IntsAre vs ns ∧ ns.length ≤ n := by
  have hsh : WShape.hasAll [] args [.list .int] = true := (pre_splitW hpre).1
  have hc : l.pre.holds [] { args := args } = true := (pre_splitW hpre).2
  obtain ⟨d, r, rfl, h1, h2⟩ := hasAllW_cons hsh
  obtain rfl := hasAllW_nil h2
  obtain ⟨xs, rfl, h3⟩ := hasW_list h1
  obtain ⟨ns, rfl⟩ := items_int h3
  have hlen : ns.length ≤ n := by
    unfold OpenLaw.pre at hc
    have h4 : (WTm.not (.lt (.lit (.int (n : Int))) (.len (.arg 0)))).holds [] { args := [.list (ns.map .int)] } = true := by
      have h4 := (holds_andW hc).1
      rw [hn] at h4
      exact h4
    have h5 := condW_of h4 (w_not (w_lt w_lit (w_len_list (w_arg rfl))))
    rw [List.length_map] at h5
    refine Nat.le_of_not_lt fun q => ?_
    have q' : (n : Int) < ((ns.length : Nat) : Int) := by omega
    first
      | (rw [decide_eq_true q'] at h5; exact absurd h5 (by decide))
      | (simp at h5; omega)
  cases hwl with
  | cons w1 w2 =>
    cases w2
    cases w1 with
    | list ho hall => exact ⟨_, _, ns, rfl, rfl, ho, ints_of_wellAll ns _ hall, hlen⟩

theorem post_true (l : OpenLaw) (args : List WData) : l.row.toRowW.claim.post args (.bool true) args = true :=
  postW_of (r := l.row.toRowW) (X := (true == true))
    (show WShape.has [] (.bool true) .bool = true by first | rfl | decide | simp [WShape.has, WShape.arms, WShape.armsAll])
    (show (WTm.eq .res (.lit (.bool true))).value [] { args := args, res := some (.bool true), after := args } = some (.bool (true == true)) from w_eq_bool (w_res rfl) w_lit) rfl

/-! ### the attachment: holds_open's last premise (the goal 'hc' behind k_head) from a wpAny of the law's body -/
/-- the same from a codeAny of the CALL (for a layer whose function contracts speak of calls) -/
theorem attach_call {l : OpenLaw} {n : Nat} {q : Program} {loose : List Str} {XP : (Str → Option Value) → Heap → Prop} {YP : World → Heap → Prop} {d : DefRec}
    (hn : l.most = some n) (hdf : d.params.defaults = [])
    (call : ∀ (w : World) (s₀ s₁ : Shared) (mg mb : Str → Option Value) (fa : Addr) (o : Obj) (pm cd doc : Value) (a : Addr) (vs : List Value) (ns : List Int),
      Ground q loose [] XP w s₀ mg mb s₁.heap → YP w s₁.heap →
      s₁.heap.get? fa = some o → o.data = .func (docDef d.name d.params d.body d.scope pm cd doc) → s₁.heap.CodeRec cd d.name → mg d.name = some (.ref fa) →
      s₁.heap.get? a = some { cls := .type "list", data := .seq vs.toArray } → IntsAre vs ns → ns.length ≤ n → s₁.gens = #[] →
      codeAny (model l.prog w) callerA (.call (.ref fa) ⟨[.ref a], []⟩) (fun r s' => r = .ok (.ret (.bool true)) ∧ OldK s₁.heap s'.heap ∧ s'.os = s₁.os ∧ AllBare s'.gens) s₁) :
    WalkO q loose XP YP l.row.toRowW d [] (fun f vs => PySem.call f vs) := by
  intro w s₀ s₁ mg mb G Y fa o pm cd doc dV kV ho hd hcd hD hmg hg args vals as hpre hlay hrd hwl hlo
  obtain rfl : dV = .none := Dflts.none hD hdf
  obtain rfl : kV = .none := Dflts.noKw hD
  obtain ⟨a, vs, ns, rfl, rfl, hobj, hints, hlen⟩ := script_of hn hpre hwl
  refine enter_call (codeAny_mono (call w s₀ s₁ mg mb fa o pm cd doc a vs ns G Y ho (fd_plain hd) hcd hmg hobj hints hlen hg) fun r s' hq => ?_)
  obtain ⟨rfl, h2, h3, h4⟩ := hq
  exact ⟨.inl ⟨.bool true, .bool true, [], rfl, fun _ => rfl, .bool true, post_true l _, fun _ => ⟨List.Pairwise.nil, fun _ hm => (nomatch hm)⟩⟩, h2, h3, h4⟩

/-! ### rules over ANY heap (no ledger) from facts about the written part K: the library's own take a ledger (News) for what they write -/
section
variable {prog : Program} {w : World} {A : Around} {E : Value → Shared → Prop} {s : Shared} {K : Frag}

/-! the whole heap as the ledger: makes every rule that writes through a ledger a rule over any heap -/
end
end Att

namespace L2
open PySem PySem.Spec PyProof.Rows

theorem vals_ints : ∀ {vs : List Value} {ns : List Int}, IntsAre vs ns → Vals (ns.map V.int) vs
  | _, _, .nil => .nil
  | _, _, .cons n t h => .cons ⟨t, rfl⟩ (vals_ints h)

end L2

namespace L2
open PySem PySem.Spec PyProof.Rows

abbrev KOf {K : PySem.W.Frag} {h : Heap} (_ : K.In h) : PySem.W.Frag := K

end L2

/- THE LAST THEOREM (shape; LID, My.* are yours):
   My.Adr: a structure of the addresses that your layer names (classes, functions); My.Txt K t: a structure (Prop) of the equations over K;
   My.txt_mk : {K} {implicit addresses ..} (e1 : nsIn K mainGlobals "law" = some (some (.ref f))) (e2 : K.lookup f = some ⟨oc, od, .func (fnOf "law" "law" params body scope dV kV doc pm an cdv ct), sl⟩) (e3 : codeIn K cdv "law" = true) .. : ∃ t, My.Txt K t

set_option maxRecDepth 100000 in
set_option maxHeartbeats 0 in
theorem PySem.Challenge.cw_LID_holds : PySem.Challenge.rw_LID.Holds := by
  w_on; o_law; k_head; (case hw => w_witness2)
  k_fill
  refine L2.walk_of (l := PySem.Challenge.rw_LID) (n := 63) (k := 40) (x := "script") (CX := fun w => ..) (sp := fun _ => My.sp_law) rfl (by decide) rfl ⟨rfl, by decide, by decide⟩ (fun w h Y => PySem.W.kIn_of Y) ?F ?S ?C
  case F =>
    intro w mg fa h KX G hmg
    have T : ∃ t, My.Txt (L2.KOf KX) t := by
      dsimp only [L2.KOf]                          -- K must stand as «<heap const> w.params» for k_is
      refine' My.txt_mk ?e1 ?e2 ?e3 ..
      (case e1 => PySem.W.k_is)                    -- in the order: a name -> its address -> its object -> its parts
      (case e2 => PySem.W.k_is)
      ..
    obtain ⟨t, T⟩ := T
    have e0 := hmg.symm.trans (PySem.W.mg_of KX G T.law)
    cases e0                                       -- fa is the law's own address
    exact ⟨_, fun s u => .of_eq rfl, fun base kb nb => My.law_fn T kb nb⟩     -- if «.of_eq rfl» comes too early: refine' ⟨_, ?b, fun base kb nb => My.law_fn T kb nb⟩; exact fun s u => .of_eq rfl
  case S => exact fun w H a ns hl hO hS => ..
  case C => exact ..
(the tactic k_is has no namespace: write k_is) -/

/-! SHORT WORDS over the layer: a def of the text, its body, what a loop and a test want. -/
namespace L2
open PySem PySem.Spec PyProof.Rows

/-! ### the text by places -/
def defArgs (s : Stmt) : Arguments := match s with
  | .FunctionDef _ a _ _ _ _ _ _ _ _ => a
  | _ => { posonlyargs := [], args := [], vararg := none, kwonlyargs := [], kw_defaults := [], kwarg := none, defaults := [] }
def defBody (s : Stmt) : List Stmt := match s with
  | .FunctionDef _ _ b _ _ _ _ _ _ _ => b
  | _ => []
def defScope (s : Stmt) : Scope := match s with
  | .FunctionDef _ _ _ _ _ _ sc _ _ _ => sc
  | _ => { kind := .function, names := [], isGenerator := false, isCoroutine := false }

/-! ### no exception leaves a def -/
abbrev CX0 : CXT := fun _ _ _ _ _ _ => False
abbrev E0 : XK := fun _ _ _ => False
/-! ### a def (or method) of the text as it stands behind the top -/
structure Fun (K : PySem.W.Frag) (x qual : Str) (st : Stmt) (f : Addr) (fd : FuncData) : Prop where
  ex : ∃ (oc : Value) (od : Option Addr) (kV doc pm : Value) (an : Option Addr) (cdv ct : Value) (osl : Array (Option Value)),
    fd = PySem.W.fnOf x qual (defArgs st) (defBody st) (defScope st) .none kV doc pm an cdv ct ∧ K.lookup f = some ⟨oc, od, .func fd, osl⟩ ∧ PySem.W.codeIn K cdv qual = true
  kp : PySem.W.keepIn K (.ref f) = true
section
variable {P : Program} {w : World} {K : PySem.W.Frag} {mg : Str → Option Value} {base : Heap}
/-- THE RULE for a def: its body as a term of rules, and the reading of that term -/
theorem Fun.ok {x qual : Str} {st : Stmt} {f : Addr} {fd : FuncData} {N ps : List Str} {k : Nat} {sp : Sp} (F : Fun K x qual st f fd) (S : FnScope N ps (defScope st)) (len : ∀ vs H Q E, sp vs H Q E → vs.length = ps.length)
    (hbody : ∀ (cdv : Value) (A : Around) (outer : List Env) (s : Shared) (H : Hp) (vs : List V) (Q : VK) (E : XK), Room k (A.deeper (envOfC qual (defScope st) s.heap.objs.size f cdv)) → sp vs H Q E →
      ∃ t, PSs (cxOf CX0 P w K mg base N qual (defScope st) f cdv A outer s H E).nox (defBody st) t ∧ t { nx := fun _ H' => Q .non H', rt := Q } (start N vs) H) : FnOk P w K mg base CX0 (k + 1) f fd ps sp := by
  obtain ⟨oc, od, kV, doc, pm, an, cdv, ct, osl, rfl, lk, hcd⟩ := F.ex
  refine fn_of lk hcd S len fun A outer s H vs Q E hr hsp => ?_
  obtain ⟨t, h, q⟩ := hbody cdv A outer s H vs Q E hr hsp
  exact ⟨t, h.nox, q⟩
/-- how its arguments bind (no defaults): h is «fun _ _ _ _ _ _ us hl => match us, hl with | [_, _], _ => rfl», one _ a parameter -/
theorem Fun.binds {x qual : Str} {st : Stmt} {f : Addr} {fd : FuncData} {ps : List Str} (F : Fun K x qual st f fd)
    (h : ∀ (kV doc pm : Value) (an : Option Addr) (cdv ct : Value) (us : List Value), us.length = ps.length → bindArgs (PySem.W.fnOf x qual (defArgs st) (defBody st) (defScope st) .none kV doc pm an cdv ct) ⟨us, []⟩ = pure (ps.zip us)) : Binds K fd ps [] := by
  obtain ⟨oc, od, kV, doc, pm, an, cdv, ct, osl, rfl, lk, hcd⟩ := F.ex
  exact .all (h kV doc pm an cdv ct)
theorem fun_mk {x qual : Str} {st : Stmt} {f : Addr} {oc : Value} {od an : Option Addr} {osl : Array (Option Value)} {kV doc pm cdv ct : Value} (l : K.lookup f = some ⟨oc, od, .func (PySem.W.fnOf x qual (defArgs st) (defBody st) (defScope st) .none kV doc pm an cdv ct), osl⟩)
    (c : PySem.W.codeIn K cdv qual = true) (k : PySem.W.keepIn K (.ref f) = true) : Fun K x qual st f (PySem.W.fnOf x qual (defArgs st) (defBody st) (defScope st) .none kV doc pm an cdv ct) := ⟨⟨oc, od, kV, doc, pm, an, cdv, ct, osl, rfl, l, c⟩, k⟩
end
/-! ### expressions in short: the name that stands in the i-th slot -/
section
variable {X : Cx}
theorem pv (i : Nat) {x : Str} {pos : Pos} (hN : X.N[i]? = some x := by rfl) (hv : Vis X.env.scope x := by first | exact Or.inl rfl | exact Or.inr (Or.inl rfl) | exact Or.inr (Or.inr rfl)) (hd : (x == ("__debug__" : Str)) = false := by decide)
    (hcd : (x == ("__classdict__" : Str)) = false := by decide) : PE X (.Name x pos) (tVar i) := pe_var hN hv hd hcd
end

/-! ### tests -/
theorem iteF {A B : Prop} (h : B) : if false = true then A else B := by
  rw [if_neg Bool.false_ne_true]
  exact h
theorem iteT {A B : Prop} (h : A) : if true = true then A else B := by
  rw [if_pos rfl]
  exact h
/-! ### heaps -/
/-- all that was tracked is as it was -/
def Same (H H' : Hp) : Prop := ∀ b o, H b = some o → H' b = some o
theorem Same.refl (H : Hp) : Same H H := fun _ _ h => h
theorem Same.trans {H H1 H2 : Hp} (a : Same H H1) (b : Same H1 H2) : Same H H2 := fun c o h => b c o (a c o h)
theorem Same.free {H H' : Hp} (e : Same H H') {l : Addr} (h : H' l = Option.none) : H l = Option.none := by
  cases q : H l with
  | none => rfl
  | some o =>
    rw [e l o q] at h
    cases h
theorem Same.seq {K : PySem.W.Frag} {H H' : Hp} {a : Addr} {xs : List V} (e : Same H H') (h : SqL K H a xs) : SqL K H' a xs := by
  rcases h with (h | ⟨o, h⟩) | h
  · exact .inl (.inl (e _ _ h))
  · exact .inl (.inr ⟨o, e _ _ h⟩)
  · exact .inr h

/-! ### a dict's pairs: keys that differ -/
section
variable {κ : Type} [DecidableEq κ]
end
/-! ### lists -/
/-- a new instance and its __init__ leave all that was tracked as it was -/
theorem Same.made {H H1 : Hp} {x dx C : Addr} (nx : H x = Option.none) (nd : H dx = Option.none) (k : ∀ b o, (upd (upd H dx (.own x)) x (.ins C dx [])) b = some o → b ≠ x → H1 b = some o) : Same H H1 := fun b o e =>
  k b o (by rw [upd_ne (ne_of_none e nx), upd_ne (ne_of_none e nd)]; exact e) (ne_of_none e nx)
end L2
set_option Elab.async false
set_option linter.all false
set_option maxRecDepth 100000
set_option maxHeartbeats 4000000
/-! Own exceptions over the layer: raised in a def, passed on through its callers, caught by name in a try. -/
namespace L2
open PySem PySem.Spec PyProof.Rows

/-- an exception of the own class at C, in flight: it and its trace entry were not there in h0, and are not tracked -/
structure Fly (h0 h : Heap) (H : Hp) (e C : Addr) : Prop where
  tr : ∃ oe vs T oT ts a0, h.get? e = some oe ∧ (oe.cls = .ref C ∧ vs[0]? = some a0) ∧ oe.data = .fields vs ∧ vs[1]? = some (.ref T) ∧ T ≠ e ∧ h.get? T = some oT ∧ oT.data = .fields ts ∧ ts[3]? = some .none ∧ h0.get? T = none ∧ H T = none
  ne : h0.get? e = none
  nt : H e = none

/-- how an own exception lies behind a call -/
def CXM (P : Program) (w : World) : CXT := fun outer H s E e s' => ∃ (ea C : Addr) (H' : Hp), e = .ref ea ∧ s'.os = s.os ∧ GensOk s.gens s'.gens ∧ Un (frs outer) [] H H' s.heap s'.heap ∧ HOk P w H' s'.heap ∧
  Fly s.heap s'.heap H' ea C ∧ E (.ref C) none H'

theorem Un.funs {fs : List Addr} {H H' : Hp} {h h' base : Heap} (u : Un fs [] H H' h h') : ∀ {l : List Env}, h.FunFrames base l → (∀ b ∈ frs l, H b = none) → h'.FunFrames base l
  | [], _, _ => trivial
  | env :: r, ⟨hk, ⟨L, o, hf, hn, ho, hd⟩, hr⟩, fr => by
    have hL : L ∈ frs (env :: r) := by unfold frs; rw [List.filterMap_cons, hf]; exact List.mem_cons_self
    obtain ⟨sl, e⟩ := u.any ho (fr L hL) (by simp)
    exact ⟨hk, ⟨L, _, hf, hn, e, hd⟩, Un.funs u hr fun b hb => fr b (by unfold frs; rw [List.filterMap_cons, hf]; exact List.mem_cons_of_mem _ hb)⟩
theorem HOk.keptT {P : Program} {w : World} {H : Hp} {h h' : Heap} (x : HOk P w H h) (k : ∀ b u, (∃ o, H b = some o) → h.get? b = some u → h'.get? b = some u) : HOk P w H h' := fun a o e =>
  (x a o e).stay (fun b u hb q => k b u (by
    rcases hb with z | z
    · exact ⟨o, by rw [z]; exact e⟩
    · exact ⟨_, z⟩) q) (fun _ q => q) fun _ _ q => q
theorem ObjOk.there {P : Program} {w : World} {H : Hp} {h : Heap} {a : Addr} {o : HO} (x : ObjOk P w H h a o) : ∃ ob, h.get? a = some ob := by
  cases o with
  | lst xs => obtain ⟨_, _, _, _, e⟩ := x; exact ⟨_, e⟩
  | tup xs => obtain ⟨_, _, _, p⟩ := x; obtain ⟨ob, e, _⟩ := p; exact ⟨_, e⟩
  | dK kvs => obtain ⟨_, _, _, _, o, _, _, e, _⟩ := x; exact ⟨_, e⟩
  | dT kvs => obtain ⟨_, _, _, _, o, _, _, e, _⟩ := x; exact ⟨_, e⟩
  | set S n => obtain ⟨o, _, _, _, e, _⟩ := x; exact ⟨_, e⟩
  | ins C dx fs => obtain ⟨_, _, _, e, _⟩ := x; exact ⟨_, e⟩
  | own y => obtain ⟨_, e⟩ := x; exact ⟨_, e⟩
  | xd fs => obtain ⟨_, ⟨_, _, _, e, _⟩, _⟩ := x; exact ⟨_, e⟩
  | rng lo hi => obtain ⟨_, _, _, e⟩ := x; exact ⟨_, e⟩
  | frz ob u => obtain ⟨e, _⟩ := x; exact ⟨_, e⟩
  | tbl ps => exact ⟨_, (show h.get? a = some _ from x)⟩
  | met f y => exact ⟨_, (show h.get? a = some _ from x)⟩
  | ext φ => obtain ⟨_, ⟨_, e⟩, _⟩ := x; exact ⟨_, e⟩

theorem frs_cons {env : Env} {outer : List Env} {L : Addr} (hf : env.frame = some L) : frs (env :: outer) = L :: frs outer := by
  unfold frs; rw [List.filterMap_cons, hf]

theorem cxm_of {P : Program} {w : World} {env : Env} {outer : List Env} {L : Addr} {H0 H H1 : Hp} {s0 s : Shared} {s' : Shared} {base h1 : Heap} {hs : List Addr} {ea C : Addr} {a0 : Value} {E : XK}
    (hf : env.frame = some L) (hL : s0.heap.get? L = none) (b0 : Un (frs outer) [] H0 H s0.heap s.heap) (u : Un (frs (env :: outer)) [] H H1 s.heap h1) (ok : HOk P w H1 h1)
    (fu : s.heap.FunFrames base (env :: outer)) (fr : ∀ b ∈ frs (env :: outer), H b = none) (hh : ∀ b ∈ hs, b ∈ frs (env :: outer) ∨ (s.heap.get? b = none ∧ H1 b = none))
    (fl : Heap.FlyingW (PySem.W.hideAll h1 hs) outer ea (.ref C) a0 s'.heap) (up : h1.UpToSlots s'.heap) (ne : s.heap.get? ea = none) (nt : H1 ea = none) (q : E (.ref C) none H1) (os : s'.os = s0.os) (bare : GensOk s0.gens s'.gens) :
    CXM P w outer H0 s0 E (.ref ea) s' := by
  obtain ⟨f1, f2, f3, f4⟩ := fl
  have kp : ∀ b o, h1.get? b = some o → b ∉ hs → s'.heap.get? b = some o := fun b o e hb => f1 b o (PySem.W.hideAll_get _ e hb)
  have s0s : ∀ b, s.heap.get? b = none → s0.heap.get? b = none := fun b hb => by
    cases q : s0.heap.get? b with
    | none => rfl
    | some o => obtain ⟨o', e⟩ := b0.there b _ q (by simp); rw [hb] at e; cases e
  have fu1 := u.funs fu fr
  have frH1 : ∀ b ∈ frs (env :: outer), H1 b = none := fun b hb => by
    obtain ⟨_, o, ho, _⟩ := fu.mem hb
    exact u.free b o ho (fr b hb) (by simp)
  have mem' : ∀ b, b ∈ frs outer → b ∈ frs (env :: outer) := fun b hb => by rw [frs_cons hf]; exact List.mem_cons_of_mem _ hb
  refine ⟨ea, C, H1, rfl, os, bare, ⟨fun b o e n hb _ => ?_, fun b o e n hb _ => ?_, fun b o e n _ => ?_, fun b o e _ => ?_, fun b xs e => u.tups b xs (b0.tups b xs e), fun b o xs e => u.frzs b o xs (b0.frzs b o xs e), fun b ps e => ?_⟩, ok.keptT fun b w' ⟨o, ho⟩ e => ?_, ⟨?_, s0s ea ne, nt⟩, q⟩
  · have e1 := b0.keep b o e n hb (by simp)
    have n1 := b0.free b o e n (by simp)
    have bL : b ≠ L := fun z => by rw [z, hL] at e; cases e
    have hb' : b ∉ frs (env :: outer) := by
      rw [frs_cons hf]
      intro z
      rcases List.mem_cons.mp z with z | z
      · exact bL z
      · exact hb z
    have e2 := u.keep b o e1 n1 hb' (by simp)
    exact kp b o e2 fun z => (hh b z).elim hb' fun q => by rw [q.1] at e1; cases e1
  · obtain ⟨sl, e1⟩ := b0.slot b o e n hb (by simp)
    have n1 := b0.free b o e n (by simp)
    obtain ⟨sl2, e2⟩ := u.slot b _ e1 n1 (mem' b hb) (by simp)
    obtain ⟨_, o', ho', nf⟩ := fu.mem (mem' b hb)
    rw [e1] at ho'; cases ho'
    obtain ⟨sl3, e3⟩ := up b _ e2 nf
    exact ⟨sl3, e3⟩
  · obtain ⟨o1, e1⟩ := b0.there b o e (by simp)
    exact u.free b o1 e1 (b0.free b o e n (by simp)) (by simp)
  · obtain ⟨o1, e1⟩ := b0.there b o e (by simp)
    obtain ⟨o2, e2⟩ := u.there b o1 e1 (by simp)
    by_cases hb : b ∈ hs
    · rcases hh b hb with z | z
      · obtain ⟨_, o', ho', nf⟩ := fu1.mem z
        obtain ⟨sl3, e3⟩ := up b _ ho' nf
        exact ⟨_, e3⟩
      · rw [z.1] at e1; cases e1
    · exact ⟨o2, kp b o2 e2 hb⟩
  · obtain ⟨m1, e1⟩ := b0.tbls b ps e
    obtain ⟨m2, e2⟩ := u.tbls b _ e1
    exact ⟨m1 ++ m2, by rw [e2, Array.append_assoc]⟩
  · refine kp b w' e fun z => ?_
    rcases hh b z with q | q
    · rw [frH1 b q] at ho; cases ho
    · rw [q.2] at ho; cases ho
  · obtain ⟨oe, vs, T, oT, ts, he, hc, hd, h1', hnT, hTe, hT, hdT, h3⟩ := f4
    refine ⟨oe, vs, T, oT, ts, a0, he, hc, hd, h1', hTe, hT, hdT, h3, ?_, ?_⟩
    · cases q : s0.heap.get? T with
      | none => rfl
      | some o =>
        exfalso
        obtain ⟨o1, e1⟩ := b0.there T o q (by simp)
        obtain ⟨o2, e2⟩ := u.there T o1 e1 (by simp)
        by_cases hb : T ∈ hs
        · rcases hh T hb with z | z
          · rw [frs_cons hf] at z
            rcases List.mem_cons.mp z with z | z
            · rw [z, hL] at q; cases q
            · obtain ⟨_, o', ho', nf⟩ := f3.mem z
              rw [hT] at ho'; cases ho'
              exact nf _ hdT
          · rw [z.1] at e1; cases e1
        · rw [PySem.W.hideAll_get _ e2 hb] at hnT; cases hnT
    · cases q : H1 T with
      | none => rfl
      | some o =>
        exfalso
        obtain ⟨ob, e⟩ := (ok T o q).there
        by_cases hb : T ∈ hs
        · rcases hh T hb with z | z
          · rw [frH1 T z] at q; cases q
          · rw [z.2] at q; cases q
        · rw [PySem.W.hideAll_get _ e hb] at hnT; cases hnT

section
variable {P : Program} {w : World} {K : PySem.W.Frag} {mg : Str → Option Value} {base : Heap} {N : List Str} {qual : Str} {scope : Scope} {f : Addr} {cd : Value} {A : Around} {outer : List Env} {s0 : Shared} {H0 : Hp} {E : XK}
theorem frs_in {l : List Env} : ∀ env ∈ l, ∀ a, env.frame = some a → a ∈ frs l := fun env he a hf => List.mem_filterMap.mpr ⟨env, he, hf⟩
/-- an own exception of a callee leaves this def, too -/
theorem passesDef : Passes (CXM P w) (cxOf (CXM P w) P w K mg base N qual scope f cd A outer s0 H0 E) E := by
  intro pins σ H s e s' I h
  obtain ⟨ea, C, H1, rfl, os, bare, u, ok, ⟨⟨oe, vs, T, oT, ts, a0, he, hc, hd, h1, hTe, hT, hdT, h3, nT, tT⟩, ne, nt⟩, q⟩ := h
  have u : Un (frs (envOfC qual scope s0.heap.objs.size f cd :: outer)) [] H H1 s.heap s'.heap := u
  have fu : s.heap.FunFrames base (envOfC qual scope s0.heap.objs.size f cd :: outer) := I.stack
  have fr : ∀ b ∈ frs (envOfC qual scope s0.heap.objs.size f cd :: outer), H b = none := I.stkFree
  show wpAny _ _ _ _ _ _
  refine wpAny_leaves_onW (base := PySem.W.hideAll s'.heap (frs (envOfC qual scope s0.heap.objs.size f cd :: outer) ++ [ea, T])) (a0 := a0) (cls := .ref C) I.ok.frames rfl ⟨fun b o z => PySem.W.of_hideAll _ z, PySem.W.hideAll_none _ (by simp), ?_, oe, vs, T, oT, ts, he, hc, hd, h1, PySem.W.hideAll_none _ (by simp), hTe, hT, hdT, h3⟩ fun h' fl up => ?_
  · exact PySem.W.funFrames_hide (u.funs fu fr) fun env z a hf => List.mem_append_left _ (frs_in env z a hf)
  · refine cxm_of (s := s) (L := s0.heap.objs.size) (h1 := s'.heap) rfl (Heap.get?_none_of_le (Nat.le_refl _)) I.base u ok fu fr (fun b z => ?_) fl up ne nt q (os.trans I.os) (I.bare.trans bare)
    rcases List.mem_append.mp z with z | z
    · exact .inl z
    · have e' : b = ea ∨ b = T := by simpa using z
      rcases e' with z | z
      · subst z; exact .inr ⟨ne, nt⟩
      · subst z; exact .inr ⟨nT, tT⟩
/-- an own exception that was just made leaves the def -/
theorem madeDef {pins : List (Addr × Obj)} {σ : St} {H : Hp} {s : Shared} {h' : Heap} {e C : Addr} {args : List Value} (I : Inv (cxOf (CXM P w) P w K mg base N qual scope f cd A outer s0 H0 E) pins σ H s)
    (hx : Heap.MadeExcOf s.heap h' e (.ref C) args) (q : E (.ref C) none H) : (cxOf (CXM P w) P w K mg base N qual scope f cd A outer s0 H0 E).xe (.ref e) { s with heap := h' } := by
  have fu : s.heap.FunFrames base (envOfC qual scope s0.heap.objs.size f cd :: outer) := I.stack
  have fr : ∀ b ∈ frs (envOfC qual scope s0.heap.objs.size f cd :: outer), H b = none := I.stkFree
  have nt : H e = none := by
    cases q : H e with
    | none => rfl
    | some o =>
      obtain ⟨ob, z⟩ := (I.hok e o q).there
      rw [hx.new] at z; cases z
  show wpAny _ _ _ _ _ _
  refine wpAny_leaves_madeW (base := PySem.W.hideAll s.heap (frs (envOfC qual scope s0.heap.objs.size f cd :: outer))) (h := s.heap) (s := { s with heap := h' }) I.ok.frames rfl (fun b o z => PySem.W.of_hideAll _ z) (PySem.W.funFrames_hide fu fun env z a hf => frs_in env z a hf) hx fun h2 t fl _ _ up => ?_
  exact cxm_of (s := s) (L := s0.heap.objs.size) (h1 := s.heap) rfl (Heap.get?_none_of_le (Nat.le_refl _)) I.base Un.refl I.hok fu fr (fun b z => .inl z) fl ((Heap.UpToSlots.of_keeps hx.keeps).trans up) hx.new nt q I.os I.bare
end

/-- the facts about an own class of exceptions -/
theorem own_obj {K : PySem.W.Frag} {h : Heap} {C : Addr} {bmB : List Value} {newId : String} (X : K.In h) (q : PySem.W.excIn K C bmB newId = true) :
    ∃ bm N nm q bs hdct sn sub ab col dd k0 k1 k2 k3 k5 mN, h.get? C = some (excClassObj nm q C N bs bm hdct sn sub ab col dd k0 k1 k2 k3 k5 newId) ∧ h.Ns N mN ∧ mN "__init__" = none ∧ OwnTail h bmB bm := by
  unfold PySem.W.excIn at q
  split at q
  · rename_i dd cd sl ho
    split at q
    · rename_i C' bm k0 k1 k2 k3 n k5 hm hs
      simp only [Bool.and_eq_true, beq_iff_eq, Bool.not_eq_true'] at q
      obtain ⟨⟨⟨⟨⟨rfl, rfl⟩, hdel⟩, ht⟩, hok⟩, hni⟩ := q
      obtain ⟨nm, bs, mro, ns, qn, hd, sn, sub, ab, col, del⟩ := cd
      dsimp only at hm hdel hok hni
      subst hm hdel
      have hsl : sl = #[k0, k1, k2, k3, some (.builtin n), k5] := by
        obtain ⟨l⟩ := sl
        simp only at hs
        rw [hs]
      subst hsl
      exact ⟨bm, ns, nm, qn, bs, hd, sn, sub, ab, col, dd, k0, k1, k2, k3, k5, _, X _ _ ho, .of_isNs (PySem.W.isNs_of_in X hok), PySem.W.nsMap_none_of_in X hok hni, PySem.W.tail_of_in X ht⟩
    · cases q
  · cases q

/-- raise C(e, ..) -/
def tRaise (C : Addr) (E : XK) (ta : TA) : TS := fun _ σ H => ta σ H fun vs H1 => vs.length ≤ sizeLine ∧ E (.ref C) none H1
section
variable {P : Program} {w : World} {K : PySem.W.Frag} {mg : Str → Option Value} {base : Heap} {N : List Str} {qual : Str} {scope : Scope} {f : Addr} {cd : Value} {A : Around} {outer : List Env} {s0 : Shared} {H0 : Hp} {E : XK}
theorem ps_raise {C : Addr} {x : Str} {B newId initId : String} {bmB : List Value} {e0 : Expr} {rest : List Expr} {ta : TA} {np cpos pos : Pos} {X : Cx} (hX : X = cxOf (CXM P w) P w K mg base N qual scope f cd A outer s0 H0 E)
    (FB : ExcBaseFacts B newId initId bmB) (hB : bmB.contains (.type B) = true) (ex : PySem.W.excIn X.K C bmB newId = true) (hg : Gl X x) (hm : X.mg x = some (.ref C)) (ha : PA X (e0 :: rest) ta)
    (he : starEach (e0 :: rest) X.env = (false, eval e0 X.env) :: starEach rest X.env := by rfl) (hplain : (backTo cpos (starEach rest X.env)).any (·.1) = false := by rfl) (hd : (x == ("__debug__" : Str)) = false := by decide) :
    PS X (.Raise (some (.Call (.Name x np) (e0 :: rest) [] cpos)) none pos) (tRaise C E ta) := by
  intro pins s σ H D I h
  obtain ⟨tl, N', nm, q, bs, hdct, sn, sub, ab, col, dd, k0, k1, k2, k3, k5, mN, hC, hN, hni, T⟩ := own_obj I.ok.mod.kin ex
  have hh : X.A.handled = none := I.ok.hd (by rw [hX]; rfl)
  refine wpAny_Raise_call_subU (C := C) (nm := nm) (q := q) (N := N') (bs := bs) (bm := tl) (hdct := hdct) (sn := sn) (sub := sub) (ab := ab) (col := col) (dd := dd) (k0 := k0) (k1 := k1) (k2 := k2) (k3 := k3) (k5 := k5)
    FB hB FB (mN := mN) (T.hasType FB.hasBase) hh (by rw [he]; show (false || (backTo cpos (starEach rest X.env)).any (·.1)) = false; rw [hplain]; rfl) hni (ld_glob I hg hm ⟨rfl, ?_⟩ hd)
  have hs := ha cpos pins s σ H _ I h
  rw [he] at hs ⊢
  refine Calls.evalArgs_plain (wpAny_mono hs (fun vs s2 ⟨ws, H2, I2, r2, z2, q2⟩ => ⟨rfl, by rw [← r2.length]; exact z2, I2.bk _ _ hC, hN.keeps I2.bk, T.keeps I2.bk, fun h' e hx => ?_⟩) fun _ _ y => y)
  subst hX
  exact madeDef I2 hx q2
end
end L2
set_option Elab.async false
set_option linter.all false
set_option maxRecDepth 100000
set_option maxHeartbeats 4000000
/-! try .. except C as n: an own exception of a callee is caught by its name or its base's. -/
namespace L2
open PySem PySem.Spec PyProof.Rows

/-- the object of an own exception, known by its class -/
def ExcIs (a C : Addr) : HO := .ext fun h => ∃ o vs, h.get? a = some o ∧ o.cls = .ref C ∧ o.data = .fields vs

theorem un_more {hs : List Addr} {H H1 : Hp} {P : Program} {w : World} {h h1 h2 base : Heap} {l : List Env} (u : Un (frs l) [] H H1 h h1) (ok : HOk P w H1 h1) (fu : h.FunFrames base l) (fr : ∀ b ∈ frs l, H b = none)
    (hh : ∀ b ∈ hs, b ∈ frs l ∨ (h.get? b = none ∧ H1 b = none)) (st : (PySem.W.hideAll h1 hs).StaysIn h2) (up : h1.UpToSlots h2) : Un (frs l) [] H H1 h h2 ∧ HOk P w H1 h2 := by
  have kp : ∀ b o, h1.get? b = some o → b ∉ hs → h2.get? b = some o := fun b o e hb => st b o (PySem.W.hideAll_get _ e hb)
  have fu1 := u.funs fu fr
  have frH1 : ∀ b ∈ frs l, H1 b = none := fun b hb => by
    obtain ⟨_, o, ho, _⟩ := fu.mem hb
    exact u.free b o ho (fr b hb) (by simp)
  refine ⟨⟨fun b o e n hb _ => ?_, fun b o e n hb _ => ?_, fun b o e n _ => u.free b o e n (by simp), fun b o e _ => ?_, u.tups, u.frzs, u.tbls⟩, ok.keptT fun b w' ⟨o, ho⟩ e => ?_⟩
  · exact kp b o (u.keep b o e n hb (by simp)) fun z => (hh b z).elim hb fun q => by rw [q.1] at e; cases e
  · obtain ⟨sl2, e2⟩ := u.slot b _ e n hb (by simp)
    obtain ⟨_, o', ho', nf⟩ := fu.mem hb
    rw [e] at ho'; cases ho'
    obtain ⟨sl3, e3⟩ := up b _ e2 nf
    exact ⟨sl3, e3⟩
  · obtain ⟨o2, e2⟩ := u.there b o e (by simp)
    by_cases hb : b ∈ hs
    · rcases hh b hb with z | z
      · obtain ⟨_, o', ho', nf⟩ := fu1.mem z
        obtain ⟨sl3, e3⟩ := up b _ ho' nf
        exact ⟨_, e3⟩
      · rw [z.1] at e; cases e
    · exact ⟨o2, kp b o2 e2 hb⟩
  · refine kp b w' e fun z => ?_
    rcases hh b z with q | q
    · rw [frH1 b q] at ho; cases ho
    · rw [q.2] at ho; cases ho

/-- no slot is known -/
def nones (n : Nat) : St := List.replicate n none
theorem nones_no {n i : Nat} {v : V} (h : (nones n)[i]? = some (some v)) : False := by
  unfold nones at h
  rw [List.getElem?_replicate] at h
  split at h <;> cases h
/-- the context with further pins and another wish -/
abbrev Cx.tr (X : Cx) (pn : List (Addr × Obj)) (xe : Value → Shared → Prop) : Cx := { X with pn := pn, xe := xe }
/-- the context of an except suite -/
abbrev Cx.hdl (X : Cx) (e : Addr) : Cx := { X with A := X.A.mark (some (.ref e)), calm := false, xe := fun _ _ => False }
section
variable {X : Cx} {pins pins' : List (Addr × Obj)} {σ : St} {H : Hp} {s : Shared} {xe : Value → Shared → Prop}
theorem Cx.Ok.tr (ok : X.Ok) (pn : List (Addr × Obj)) : (X.tr pn xe).Ok := ⟨ok.mod, ok.kind, ok.glob, ok.blt, ok.above, ok.inj, ok.has, ok.cab, ok.hd, ok.frames, ok.stk, ok.exf, ok.bs, ok.bsz, ok.noex, ok.exfs, ok.funs, ok.frf⟩
theorem Cx.Ok.untr {pn : List (Addr × Obj)} (ok : (X.tr pn xe).Ok) : X.Ok := ⟨ok.mod, ok.kind, ok.glob, ok.blt, ok.above, ok.inj, ok.has, ok.cab, ok.hd, ok.frames, ok.stk, ok.exf, ok.bs, ok.bsz, ok.noex, ok.exfs, ok.funs, ok.frf⟩
theorem Cx.Ok.hdl (ok : X.Ok) (e : Addr) : (X.hdl e).Ok := ⟨ok.mod, ok.kind, ok.glob, ok.blt, ok.above, ok.inj, ok.has, ok.cab, fun z => (by cases z), ok.frames, ok.stk, ok.exf, ok.bs, ok.bsz, ok.noex, ok.exfs, ok.funs, ok.frf⟩
theorem Inv.tr (I : Inv X pins σ H s) : Inv (X.tr (X.pn ++ pins) xe) [] σ H s := ⟨I.ok.tr _, I.os, I.bare, I.base, I.loc, I.cell, I.free, I.freeC, fun p hp => I.pin p (by simpa using hp), I.hok, I.len⟩
theorem Inv.untr (I : Inv (X.tr (X.pn ++ pins) xe) pins' σ H s) : Inv X pins σ H s := ⟨I.ok.untr, I.os, I.bare, I.base, I.loc, I.cell, I.free, I.freeC, fun p hp => I.pin p (List.mem_append_left _ hp), I.hok, I.len⟩
theorem Inv.hdl (I : Inv X pins σ H s) (e : Addr) : Inv (X.hdl e) pins σ H s := ⟨I.ok.hdl e, I.os, I.bare, I.base, I.loc, I.cell, I.free, I.freeC, I.pin, I.hok, I.len⟩
theorem Inv.unhdl {e : Addr} (ok : X.Ok) (I : Inv (X.hdl e) pins σ H s) : Inv X pins σ H s := ⟨ok, I.os, I.bare, I.base, I.loc, I.cell, I.free, I.freeC, I.pin, I.hok, I.len⟩
theorem Inv.noN (I : Inv X pins σ H s) : Inv X pins (nones X.N.length) H s := I.weak (by rw [I.len]; unfold nones; rw [List.length_replicate]) fun i v h => (nones_no h).elim
theorem SP.untr {D : Ends} {f : Flow} {s' : Shared} (h : SP (X.tr (X.pn ++ pins) xe) [] D f s') : SP X pins D f s' := by
  cases f with
  | next => obtain ⟨σ', H', I, q⟩ := h; exact ⟨σ', H', I.untr, q⟩
  | brk => obtain ⟨σ', H', I, q⟩ := h; exact ⟨σ', H', I.untr, q⟩
  | cont => obtain ⟨σ', H', I, q⟩ := h; exact ⟨σ', H', I.untr, q⟩
  | ret u => obtain ⟨v, σ', H', I, r, q⟩ := h; exact ⟨v, σ', H', I.untr, r, q⟩
/-- a young object that was not tracked is tracked from here on -/
theorem Inv.track {a : Addr} {o : HO} (I : Inv X pins σ H s) (hn : H a = none) (h0 : X.s_0.heap.get? a = none) (hL : a ≠ X.env.locals) (hc : ∀ x c, X.env.cells.lookup x = some c → c ≠ a) (hp : ∀ p ∈ X.pn ++ pins, p.1 ≠ a)
    (new : ObjOk X.prog X.w (upd H a o) s.heap a o) : Inv X pins σ (upd H a o) s := by
  refine ⟨I.ok, I.os, I.bare, ⟨I.base.keep, I.base.slot, fun b ob e n hx => ?_, I.base.there, fun b xs e => ?_, fun b ob u e => ?_, fun b ps e => ?_⟩, I.loc, I.cell, ?_, fun x c e => ?_, fun p hp' => ?_, fun b ob e => ?_, I.len⟩
  · have z : b ≠ a := fun z => by rw [z, h0] at e; cases e
    rw [upd_ne z]; exact I.base.free b ob e n hx
  · have q := I.base.tups b xs e
    rw [upd_ne (ne_of_none q hn)]; exact q
  · have q := I.base.frzs b ob u e
    rw [upd_ne (ne_of_none q hn)]; exact q
  · obtain ⟨m, q⟩ := I.base.tbls b ps e
    exact ⟨m, by rw [upd_ne (ne_of_none q hn)]; exact q⟩
  · rw [upd_ne (Ne.symm hL)]; exact I.free
  · rw [upd_ne (hc x c e)]; exact I.freeC x c e
  · obtain ⟨q1, q2, q3⟩ := I.pin p hp'
    exact ⟨q1, by rw [upd_ne (hp p hp')]; exact q2, q3⟩
  · by_cases hb : b = a
    · subst hb; rw [upd_same] at e; cases e; exact new
    · rw [upd_ne hb] at e
      exact (I.hok b ob e).stay (fun _ _ _ q => q) (fun c q => by rw [upd_ne (ne_of_none q hn)]; exact q) fun c xs q => by rw [upd_ne (ne_of_none q hn)]; exact q
/-- the frame's own object is written anew: nothing is known of its names -/
theorem Inv.renamed {h' : Heap} {t' : Nat} {m' : Str → Option Value} (I : Inv X pins σ H s) (hn : h'.Ns X.env.locals m') (hs : Heap.SameBut X.env.locals s.heap h') : Inv X pins (nones X.N.length) H { s with heap := h', toks := t' } := by
  have ne0 : ∀ b o, X.s_0.heap.get? b = some o → b ≠ X.env.locals := fun b o e => Nat.ne_of_lt (Nat.lt_of_lt_of_le (Heap.lt_size e) I.ok.above)
  refine ⟨I.ok, I.os, I.bare, ⟨fun b o e n hb hx => ?_, fun b o e n hb hx => ?_, I.base.free, fun b o e hx => ?_, I.base.tups, I.base.frzs, I.base.tbls⟩, ⟨m', hn, fun i x v _ e2 _ => (nones_no e2).elim⟩, fun y c e => ?_, I.free, I.freeC, fun p hp => ?_, fun b ob e => ?_, by unfold nones; rw [List.length_replicate]⟩
  · exact (hs.2 b (ne0 b o e)).trans (I.base.keep b o e n hb hx)
  · obtain ⟨sl, e1⟩ := I.base.slot b o e n hb hx
    exact ⟨sl, (hs.2 b (ne0 b o e)).trans e1⟩
  · obtain ⟨o', e1⟩ := I.base.there b o e hx
    exact ⟨o', (hs.2 b (ne0 b o e)).trans e1⟩
  · obtain ⟨v, z⟩ := I.cell y c e
    exact ⟨v, z.sameBut hs (I.cne y c e)⟩
  · obtain ⟨q1, q2, q3, q4⟩ := I.pin p hp
    exact ⟨(hs.2 _ q3).trans q1, q2, q3, q4⟩
  · refine (I.hok b ob e).stay (fun c w' hc q => (hs.2 c ?_).trans q) (fun _ q => q) fun _ _ q => q
    rintro rfl
    rcases hc with z | z
    · rw [← z, I.free] at e; cases e
    · rw [I.free] at z; cases z
end

/-- try: body; except C as n: suite. ts is the suite's reading, at the slots that know n alone -/
def tTry (K : PySem.W.Frag) (CL : Addr) (k i : Nat) (tb : XK → TS) (ts : TS) : TS := fun D σ H =>
  tb (fun c _ H1 => ∀ ea, H1 ea = none → ∃ C, c = .ref C ∧ PySem.W.exmOne K (.ref C) (.ref CL) = some true ∧
    ts { nx := fun _ H2 => D.nx (nones k) H2, rt := D.rt, bk := fun _ H2 => D.bk (nones k) H2, ct := fun _ H2 => D.ct (nones k) H2 } ((nones k).set i (some (.ref ea))) (upd H1 ea (ExcIs ea C))) D σ H
theorem ps_try {X : Cx} {body suite : List Stmt} {b0 : Stmt} {cls n : Str} {np hpos pos : Pos} {CL : Addr} {i : Nat} {tb : XK → TS} {ts : TS} (hx : X.ex = []) (hst : X.stack = X.env :: X.outer) (hf : X.env.frame = some X.env.locals) (hN : X.N.Nodup)
    (hi : X.N[i]? = some n) (hl : X.env.scope.names.lookup n = some .local) (hg : Gl X cls) (hm : X.mg cls = some (.ref CL))
    (hb : ∀ (pn : List (Addr × Obj)) (xe : Value → Shared → Prop) (Ex : XK), Passes (CXM X.prog X.w) (X.tr pn xe) Ex → PSs (X.tr pn xe) body (tb Ex))
    (hs : ∀ ea : Addr, PSs (X.hdl ea) (b0 :: suite) ts) (hd : (cls == ("__debug__" : Str)) = false := by decide) :
    PS X (.Try body [.ExceptHandler (some (.Name cls np)) (some n) (b0 :: suite) hpos] [] [] pos) (tTry X.K CL X.N.length i tb ts) := by
  intro pins s σ H D I h
  refine wpAny_Try_except ?_
  refine wpAny_mono (hb (X.pn ++ pins) (fun e s1 => wpAny (model X.prog X.w) X.A (noteFrame e X.env) (fun _ s2 => wpAny (model X.prog X.w) X.A (setFlight e none) (fun _ s3 =>
    wpAny (model X.prog X.w) X.A (handleBy e X.env [.ExceptHandler (some (.Name cls np)) (some n) (b0 :: suite) hpos]) (SP X pins D) X.xe s3) X.xe s2) X.xe s1) _ ?_ [] s σ H D I.tr h) (fun f s1 q => ?_) fun _ _ q => q
  · intro pins' σ' H' s' e s'' I' hcx
    obtain ⟨ea, C, H1, rfl, os, bare, u, ok, ⟨⟨oe, vs, T, oT, ts', a0, he, hc, hdt, h1, hTe, hT, hdT, h3, nT, tT⟩, ne, nt⟩, q⟩ := hcx
    have I0 : Inv X pins σ' H' s' := I'.untr
    have u : Un (frs X.stack) [] H' H1 s'.heap s''.heap := u
    have fu : s'.heap.FunFrames X.base X.stack := I0.stack
    have fr : ∀ b ∈ frs X.stack, H' b = none := I0.stkFree
    have hfr : X.A.frames = some (X.env :: X.outer) := by rw [← hst]; exact I.ok.frames
    have hh : ∀ b ∈ frs X.stack ++ [ea, T], b ∈ frs X.stack ∨ (s'.heap.get? b = none ∧ H1 b = none) := fun b z => by
      rcases List.mem_append.mp z with z | z
      · exact .inl z
      · have e' : b = ea ∨ b = T := by simpa using z
        rcases e' with z | z
        · subst z; exact .inr ⟨ne, nt⟩
        · subst z; exact .inr ⟨nT, tT⟩
    show wpAny _ _ _ _ _ _
    refine wpAny_looks_onW (base := PySem.W.hideAll s''.heap (frs X.stack ++ [ea, T])) (outer := X.outer) (a0 := a0) (cls := .ref C) hfr hf ⟨fun b o z => PySem.W.of_hideAll _ z, PySem.W.hideAll_none _ (by simp), ?_, oe, vs, T, oT, ts', he, hc, hdt, h1, PySem.W.hideAll_none _ (by simp), hTe, hT, hdT, h3⟩ fun h4 held up4 => ?_
    · rw [← hst]
      exact PySem.W.funFrames_hide (u.funs fu fr) fun env z a hf => List.mem_append_left _ (frs_in env z a hf)
    refine wpAny_landsW held fun h5 fl5 up5 => ?_
    have invOf : ∀ (h6 : Heap), (PySem.W.hideAll s''.heap (frs X.stack ++ [ea, T])).StaysIn h6 → s''.heap.UpToSlots h6 → Inv X pins (nones X.N.length) H1 { s'' with heap := h6 } := fun h6 st up => by
      obtain ⟨u6, ok6⟩ := un_more u ok fu fr hh st up
      exact (I0.call' (s' := { s'' with heap := h6 }) (ch := []) os u6 ok6 bare (fun b z => absurd z (by simp))).noN
    have I5 := invOf h5 fl5.1 (up4.trans up5)
    obtain ⟨ob5, hob5, hobc5⟩ := fl5.there
    refine wpAny_handleBy_cons (codeAny_handlers_test (ld_glob (X := X.hdl ea) (I5.hdl ea) hg hm ?_ hd)) (by intro q; cases q)
    have LT : PySem.W.Looks (model X.prog X.w) h5 (typeOf (.ref ea)) (.ref C) := hobc5 ▸ (PySem.W.Looks.ld hob5).andThen .now
    obtain ⟨C', eC, hex, q⟩ := q ea nt
    cases eC
    refine (PySem.W.exm_one (M := model X.prog X.w) I5.kIn LT hex).here ?_
    show codeAny _ _ _ _ _
    refine codeAny_handlers_suite_as (lands_againW fl5 fun h6 fl6 up6 => ?_)
    have I6 := invOf h6 fl6.1 ((up4.trans up5).trans up6)
    obtain ⟨ob6, vs6, hob6, hobc6, hobd6, _⟩ := fl6.first
    have I7 : Inv X pins (nones X.N.length) (upd H1 ea (ExcIs ea C)) { s'' with heap := h6 } := by
      refine I6.track nt ?_ ?_ ?_ ?_ ?_
      · cases z : X.s_0.heap.get? ea with
        | none => rfl
        | some o =>
          obtain ⟨o', e'⟩ := I0.base.there ea o z (by rw [hx]; simp)
          rw [ne] at e'; cases e'
      · intro z
        obtain ⟨m, ⟨oL, _, _, hoL, _⟩, _⟩ := I0.loc
        rw [← z, ne] at hoL; cases hoL
      · intro x c e z
        obtain ⟨v, o, ho, _⟩ := I0.cell x c e
        rw [z, ne] at ho; cases ho
      · intro p hp z
        have := (I0.pin p hp).1
        rw [z, ne] at this; cases this
      · exact ⟨⟨ob6, vs6, hob6, hobc6, hobd6⟩, ⟨ob6, hob6⟩, fun h1 h2 ⟨o, vs, z1, z2, z3⟩ k => ⟨o, vs, k o z1, z2, z3⟩⟩
    refine store_ok (X := X.hdl ea) (v := .ref ea) (I7.hdl ea) hN hi (.inl hl) rfl (fun s7 I8 => ?_) (.inr hl)
    refine wpAny_mono (hs ea pins s7 _ _ _ I8 q) (fun f s8 q8 => ?_) fun _ _ z => z.elim
    show wpAny _ _ (do bindName X.env n .none; unbindBehindTheSuite X.env n hpos) (fun _ s9 => SP X pins D f s9) X.xe s8
    have hcls : (X.env.scope.kind == .class || (X.env.scope.kind == .module && X.env.locals != X.env.globals)) = false := by rw [I.ok.kind]; rfl
    have fin : ∀ {σ8 : St} {H8 : Hp}, Inv (X.hdl ea) pins σ8 H8 s8 → (∀ s9, Inv X pins (nones X.N.length) H8 s9 → SP X pins D f s9) → wpAny (model X.prog X.w) X.A (do bindName X.env n .none; unbindBehindTheSuite X.env n hpos) (fun _ s9 => SP X pins D f s9) X.xe s8 := fun {σ8 H8} J k => by
      obtain ⟨m, hn, _⟩ := J.loc
      exact wpAny_nameGoes (show X.env.kindOf n = some .local from hl) hn hcls fun h' m' hn' sb => k _ ((J.unhdl I.ok).renamed hn' sb)
    cases f with
    | next => obtain ⟨σ8, H8, J, q8⟩ := q8; exact fin J fun s9 J9 => ⟨_, H8, J9, q8⟩
    | brk => obtain ⟨σ8, H8, J, q8⟩ := q8; exact fin J fun s9 J9 => ⟨_, H8, J9, q8⟩
    | cont => obtain ⟨σ8, H8, J, q8⟩ := q8; exact fin J fun s9 J9 => ⟨_, H8, J9, q8⟩
    | ret u => obtain ⟨v, σ8, H8, J, r, q8⟩ := q8; exact fin J fun s9 J9 => ⟨v, _, H8, J9, r, q8⟩
  · cases f with
    | next => exact wpAny_execs_nil (q.untr)
    | brk => exact q.untr
    | cont => exact q.untr
    | ret u => exact q.untr
end L2
set_option Elab.async false
set_option linter.all false
set_option maxRecDepth 100000
set_option maxHeartbeats 4000000
/-! a def that is called within an except suite: the same promises, in a room where something may be handled -/
namespace L2
open PySem PySem.Spec PyProof.Rows
structure RoomH (k : Nat) (A : Around) : Prop where
  dp : A.depth + 3 * k + 5 < recursionLimit
  un : A.units + 16 * k + 200 < cLine
theorem Room.h {k : Nat} {A : Around} (r : Room k A) : RoomH k A := ⟨r.dp, r.un⟩
theorem RoomH.mark {k : Nat} {A : Around} (r : RoomH k A) (v : Option Value) : RoomH k (A.mark v) := ⟨r.dp, r.un⟩
theorem RoomH.depth {k : Nat} {A : Around} (r : RoomH k A) : A.depth < recursionLimit := by have := r.dp; omega
theorem RoomH.deeper {k : Nat} {A : Around} (r : RoomH (k + 1) A) (env : Env) : RoomH k (A.deeper env) :=
  ⟨by have := r.dp; show A.depth + 1 + 3 * k + 5 < _; omega, by have := r.un; show A.units + 3 + 16 * k + 200 < _; omega⟩
structure FnOkH (P : Program) (w : World) (K : PySem.W.Frag) (mg : Str → Option Value) (base : Heap) (CX : CXT) (k : Nat) (f : Addr) (fd : FuncData) (ps : List Str) (sp : Sp) : Prop where
  len : ∀ vs H Q E, sp vs H Q E → vs.length = ps.length
  run : ∀ (A : Around) (outer : List Env) (s : Shared) (H : Hp) (args : Args) (us : List Value) (vs : List V) (Q : VK) (E : XK), RoomH k A → Env0 P w K mg base A outer s H → BindsTo s fd args (ps.zip us) → Vals vs us → sp vs H Q E →
    codeAny (model P w) A (.call (.ref f) args) (CR CX outer P w H s Q E) s
theorem FnOkH.ok {P : Program} {w : World} {K : PySem.W.Frag} {mg : Str → Option Value} {base : Heap} {CX : CXT} {k : Nat} {f : Addr} {fd : FuncData} {ps : List Str} {sp : Sp} (F : FnOkH P w K mg base CX k f fd ps sp) : FnOk P w K mg base CX k f fd ps sp :=
  ⟨F.len, fun A outer s H args us vs Q E hr => F.run A outer s H args us vs Q E hr.h⟩

def cxOfH (CX : CXT) (P : Program) (w : World) (K : PySem.W.Frag) (mg : Str → Option Value) (base : Heap) (N : List Str) (qual : Str) (scope : Scope) (f : Addr) (cd : Value) (A : Around) (outer : List Env) (s : Shared) (H : Hp) (E : XK) : Cx where
  prog := P
  w := w
  K := K
  mg := mg
  base := base
  A := A.deeper (envOfC qual scope s.heap.objs.size f cd)
  N := N
  s_0 := s
  H_0 := H
  env := envOfC qual scope s.heap.objs.size f cd
  outer := outer
  stack := envOfC qual scope s.heap.objs.size f cd :: outer
  ex := []
  calm := false
  fn := fun _ => true
  pn := []
  xe := fun e s' => wpAny (model P w) (A.deeper (envOfC qual scope s.heap.objs.size f cd)) (leaving (envOfC qual scope s.heap.objs.size f cd) e) (fun _ s'' => CX outer H s E e s'') (fun e' s'' => CX outer H s E e' s'') s'
theorem inv_startH {CX : CXT} {P : Program} {w : World} {K : PySem.W.Frag} {mg : Str → Option Value} {base : Heap} {N ps : List Str} {qual : Str} {scope : Scope} {f : Addr} {cd : Value} {A : Around} {outer : List Env} {s s1 : Shared} {H : Hp} {E : XK} {us : List Value} {vs : List V}
    (S : FnScope N ps scope) (e0 : Env0 P w K mg base A outer s H) (hl : vs.length = ps.length) (r : Vals vs us)
    (x : InCallC s s.heap.objs.size (bindL (envOfC qual scope s.heap.objs.size f cd).kindOf (ps.zip us) fun _ => none) (cellsFrom (s.heap.objs.size + 1) scope.names []) (bindC (envOfC qual scope s.heap.objs.size f cd).kindOf (ps.zip us) fun _ => none) s1) :
    Inv (cxOfH CX P w K mg base N qual scope f cd A outer s H E) [] (start N vs) H s1 := by
  have hpl : ps.length ≤ N.length := by have := congrArg List.length S.pre; rw [List.length_take] at this; omega
  obtain ⟨h1, tk, rfl, hk⟩ := x.done
  have noA : ∀ b : Addr, b ∉ (cxOfH CX P w K mg base N qual scope f cd A outer s H E).ex := fun b z => absurd (show b ∈ ([] : List Addr) from z) (by simp)
  refine ⟨⟨e0.mod, S.kind, rfl, rfl, Nat.le_refl _, fun y z c h1 h2 => ?_, fun y hy => ?_, fun y c _ h => ?_, fun z => (by cases z), Around.frames_deeper e0.frames, .inr ⟨rfl, rfl⟩, fun b z => absurd z (noA b), e0.bs, e0.bsz, fun b _ _ => noA b, fun b z => absurd z (noA b), e0.funs, e0.frf⟩,
    rfl, ⟨e0.bare, fun _ _ e => e⟩, Un.kept hk, ⟨_, x.toInCall.ns, fun i y v h1 h2 h3 => ?_⟩, fun y c h => ⟨_, x.cell y c h⟩, e0.hok.fresh (Nat.le_refl _), fun y c h => ?_, fun p hp => absurd (show p ∈ ([] : List (Addr × Obj)) from hp) (by simp), e0.hok.kept hk, ?_⟩
  · exact name_of_addr x.apart (PySem.mem_of_lookup h1) (PySem.mem_of_lookup h2)
  · have hy : scope.names.lookup y = some .cell ∨ scope.names.lookup y = some .free := hy
    rcases hy with hy | hy
    · exact cell_has hy
    · exact absurd rfl (S.nofree _ (PySem.mem_of_lookup hy))
  · exact Nat.le_of_lt (x.above y c (PySem.mem_of_lookup h))
  · have hi : i < vs.length := by
      unfold start at h2
      by_cases hi : i < vs.length
      · exact hi
      · rw [List.getElem?_append_right (by simpa using hi)] at h2
        rw [List.getElem?_replicate] at h2
        split at h2 <;> cases h2
    have ha : vs[i]? = some v := by
      unfold start at h2
      rw [List.getElem?_append_left (by simpa using hi), List.getElem?_map] at h2
      cases e : vs[i]? with
      | none => rw [e] at h2; cases h2
      | some a => rw [e] at h2; cases h2; rfl
    obtain ⟨u, hu, rv⟩ := r.get ha
    have hp : ps[i]? = some y := by
      rw [← S.pre, List.getElem?_take_of_lt (by omega)]; exact h1
    have ndP : ps.Nodup := by rw [← S.pre]; exact S.nd.sublist (List.take_sublist _ _)
    refine ⟨u, rv, ?_⟩
    rcases S.par y (List.mem_of_getElem? hp) with k | k
    · exact .inl ⟨k, bindL_get ndP hp hu k⟩
    · obtain ⟨c, e⟩ := cell_has (n := s.heap.objs.size + 1) k
      refine .inr ⟨.inl k, c, e, ?_⟩
      have q := x.cell y c e
      rw [bindC_get ndP hp hu (by show scope.names.lookup y ≠ _; rw [k]; decide)] at q
      exact q
  · exact e0.hok.fresh (Nat.le_of_lt (x.above y c (PySem.mem_of_lookup h)))
  · unfold start
    show _ = N.length
    rw [List.length_append, List.length_map, List.length_replicate]
    omega
theorem fn_ofH {CX : CXT} {P : Program} {w : World} {K : PySem.W.Frag} {mg : Str → Option Value} {base : Heap} {k : Nat} {f : Addr} {name qual : Str} {params : Arguments} {body : List Stmt} {scope : Scope} {dV kV doc pm cdv ct oc : Value} {an od : Option Addr}
    {osl : Array (Option Value)} {N ps : List Str} {sp : Sp} (lk : K.lookup f = some ⟨oc, od, .func (PySem.W.fnOf name qual params body scope dV kV doc pm an cdv ct), osl⟩) (hcd : PySem.W.codeIn K cdv qual = true) (S : FnScope N ps scope)
    (len : ∀ vs H Q E, sp vs H Q E → vs.length = ps.length)
    (hbody : ∀ (A : Around) (outer : List Env) (s : Shared) (H : Hp) (vs : List V) (Q : VK) (E : XK), RoomH k (A.deeper (envOfC qual scope s.heap.objs.size f cdv)) → sp vs H Q E →
      ∃ t, PSs (cxOfH CX P w K mg base N qual scope f cdv A outer s H E) body t ∧ t { nx := fun _ H' => Q .non H', rt := Q } (start N vs) H) :
    FnOkH P w K mg base CX (k + 1) f (PySem.W.fnOf name qual params body scope dV kV doc pm an cdv ct) ps sp := by
  refine ⟨len, fun A outer s H args us vs Q E hr e0 hb r hsp => ?_⟩
  have hl := len _ _ _ _ hsp
  have KX : K.In s.heap := e0.mod.kin.keeps fun b o e => (e0.bs b o e).1
  have lim : s.heap.NoLimit := e0.mod.nolimit.keeps fun b o e => (e0.bs b o e).1
  have hkind : ∀ y ∈ ps.zip us, scope.names.lookup y.1 = some .local ∨ (scope.names.lookup y.1 = some .cell ∧ ((cellsFrom (s.heap.objs.size + 1) scope.names []).lookup y.1).isSome = true) := fun ⟨n, v⟩ hy => by
    rcases S.par n (List.of_mem_zip hy).1 with q | q
    · exact .inl q
    · exact .inr ⟨q, PySem.W.cellsFrom_some _ _ _ (.inl q)⟩
  refine codeAny_call_function hr.depth (KX _ _ lk) rfl S.co S.gen rfl (PySem.W.codeRec_of KX hcd) (hb _ _ _ _ ?_)
  refine wpAny_newFunctionEnv_cells S.kind hkind fun env he s1 x => ?_
  subst he
  refine ⟨lim.keeps x.toInCall.keep, codeAny_func ?_⟩
  obtain ⟨t, ht, hq⟩ := hbody A outer s H vs Q E (hr.deeper _) hsp
  have I : Inv (cxOfH CX P w K mg base N qual scope f cdv A outer s H E) [] (start N vs) H s1 := inv_startH S e0 hl r x
  refine wpAny_mono (ht [] s1 (start N vs) H _ I hq) (fun fl s' hs => ?_) fun e s' hs => hs
  have fin : ∀ {σ' : St} {H' : Hp} {v : V} {u : Value}, Inv (cxOfH CX P w K mg base N qual scope f cdv A outer s H E) [] σ' H' s' → RelV v u → Q v H' → CE outer P w H s Q u s' :=
    fun {σ' H' v u} J rv q => ⟨v, H', J.os, J.bare, J.base, J.hok, rv, q⟩
  cases fl with
  | ret u =>
    obtain ⟨v, σ', H', J, rv, q⟩ := hs
    exact fin J rv q
  | next =>
    obtain ⟨σ', H', J, q⟩ := hs
    exact fin (v := V.non) (u := Value.none) J rfl q
  | brk =>
    obtain ⟨_, _, _, q⟩ := hs
    exact False.elim q
  | cont =>
    obtain ⟨_, _, _, q⟩ := hs
    exact False.elim q
section
variable {X : Cx} {CX : CXT} {k : Nat} {f C : Addr} {fd : FuncData} {ps : List Str} {sp : Sp} {dvs : List V} {ds : List Value} {E : XK} {x m : Str} {p pos apos : Pos} {e o : Expr} {es : List Expr} {ta : TE} {t : TA}
theorem run_fnH {pins : List (Addr × Obj)} {σ : St} {H : Hp} {s : Shared} {Q : VK} {us : List Value} {vs : List V} (F : FnOkH X.prog X.w X.K X.mg X.base CX k f fd ps sp) (hr : RoomH k X.A) (hb : Binds X.K fd ps ds) (hd : Vals dvs ds) (hx : Passes CX X E)
    (I : Inv X pins σ H s) (r : Vals vs us) (h : sp (vs ++ dvs) H Q E) : wpAny (model X.prog X.w) X.A (call (.ref f) us) (EP X pins σ Q) X.xe s := by
  have r2 : Vals (vs ++ dvs) (us ++ ds) := r.append hd
  have hl : (us ++ ds).length = ps.length := by rw [← r2.length]; exact F.len _ _ _ _ h
  refine wpAny_call (codeAny_mono (F.run X.A X.stack s H ⟨us, []⟩ (us ++ ds) (vs ++ dvs) Q E hr I.env0 (hb s us I.kIn hl) r2 h) fun r s' hq => ?_)
  cases r with
  | error e => exact hx pins σ H s e s' I hq
  | ok fl =>
    cases fl with
    | ret u => exact I.after hq
    | next => exact False.elim hq
    | brk => exact False.elim hq
    | cont => exact False.elim hq
theorem pe_callH (F : FnOkH X.prog X.w X.K X.mg X.base CX k f fd ps sp) (hr : RoomH k X.A) (hg : Gl X x) (hm : X.mg x = some (.ref f)) (hk : PySem.W.keepIn X.K (.ref f) = true) (hb : Binds X.K fd ps ds) (hd : Vals dvs ds) (hx : Passes CX X E)
    (ha : PA X (e :: es) t) (hdb : (x == ("__debug__" : Str)) = false := by decide) (he : starEach (e :: es) X.env = (false, eval e X.env) :: starEach es X.env := by rfl) (hpl : (backTo pos (starEach es X.env)).any (·.1) = false := by rfl) :
    PE X (.Call (.Name x p) (e :: es) [] pos) (tCall sp dvs E t) := by
  intro pins s σ H Q I h
  refine wpAny_Call_Name_kw (ld_glob I hg hm ?_ hdb)
  refine PySem.W.callWith_K (h₀ := X.base) I.ok.mod.kin hk (thn (ha pos pins s σ H _ I h) fun us s1 ⟨vs, H1, I1, r, q⟩ => ⟨I1.kIn, ?_⟩) he hpl
  exact run_fnH F hr hb hd hx I1 r q
end
section
variable {P : Program} {w : World} {K : PySem.W.Frag} {mg : Str → Option Value} {base : Heap}
end
/-- nothing is raised: a callee's exceptions are none -/
theorem passN {P : Program} {w : World} {X : Cx} : Passes (CXM P w) X E0 := fun _ _ _ _ _ _ _ h => by
  obtain ⟨_, _, _, _, _, _, _, _, _, h⟩ := h
  exact h.elim
theorem PS.nox {X : Cx} {st : Stmt} {t : TS} (h : PS X.nox st t) : PS X st t := fun pins s σ H D I hw =>
  wpAny_mono (h pins s σ H D (I.wish _) hw) (fun _ _ q => q.unwish) fun _ _ z => False.elim z

end L2
set_option Elab.async false
set_option linter.all false
set_option maxRecDepth 100000
set_option maxHeartbeats 4000000
/-! all(e for x in xs): a generator expression that is walked at once; its element may call. -/
namespace L2
open PySem PySem.Spec PyProof.Rows

/-- the table of a code object: it grows where a generator expression is met for the first time -/
def TabE (P : Addr) : HO := .ext fun h => ∃ ps, h.get? P = some { cls := .none, data := .fields ps } ∧ TriplesOk ps.toList
/-- an object that stands as it stood -/
def ObE (b : Addr) (o : Obj) : HO := .ext fun h => h.get? b = some o
/-- the code object at c has its table at P -/
structure CodeK (K : PySem.W.Frag) (c P : Addr) : Prop where
  ex : ∃ o vs file tf flags tg inF text tt, K.lookup c = some o ∧ o.cls = .type "code" ∧ o.data = .fields vs ∧ vs[11]? = some (.ref P) ∧ vs.getD 11 .none = .ref P ∧ vs.getD 18 .none = .str file tf ∧
    vs.getD 7 .none = .int flags tg ∧ vs.getD 9 .none = .bool inF ∧ vs.getD 10 .none = .int text tt
  ne : c ≠ P
/-- the module of the built-ins, as the globals name it -/
structure BmK (mg : Str → Option Value) (bm : Addr) (ob : Obj) : Prop where
  nm : mg "__builtins__" = some (.ref bm)
  ne : bm ≠ builtinsNs
  cls : ob.cls = .type "module"
  dict : ob.dict = some builtinsNs
  data : ob.data = .plain
section
variable {X : Cx} {pins : List (Addr × Obj)} {σ : St} {H : Hp} {s : Shared} {P : Addr}
theorem Inv.grown {h' : Heap} {t' : Nat} (I : Inv X pins σ H s) (hP : H P = some (TabE P)) (hx : Heap.ExtBut P s.heap h') (new : ∃ ps, h'.get? P = some { cls := .none, data := .fields ps } ∧ TriplesOk ps.toList) :
    Inv X pins σ H { s with heap := h', toks := t' } := by
  have ne : ∀ b, H b = none → b ≠ P := fun b n z => by rw [z, hP] at n; cases n
  obtain ⟨ps, hn, tr⟩ := new
  refine I.step (g' := s.gens) (d' := s.drawn) (ch := []) (fun _ z => absurd z (by simp)) (fun b o _ _ _ e n => hx b o (ne b n) e) (fun b o _ _ _ e n => ⟨o.slots, hx b o (ne b n) e⟩) (fun _ _ _ _ n => n) (fun b o _ e => ?_) (fun _ _ e => e) (fun _ _ _ e => e)
    (fun b ps e => ⟨#[], by rw [e]; simp⟩) (fun m hm => ?_) (fun b u e => ?_) I.bare.self
  · by_cases hb : b = P
    · exact ⟨_, by rw [hb]; exact hn⟩
    · exact ⟨o, hx b o hb e⟩
  · obtain ⟨o, es, ep, ho, r⟩ := hm
    exact ⟨o, es, ep, hx _ o (ne _ I.free) ho, r⟩
  · by_cases hb : b = P
    · subst hb
      rw [hP] at e; cases e
      exact ⟨⟨ps, hn, tr⟩, ⟨_, hn⟩, fun h1 h2 ⟨ps, z1, z2⟩ k => ⟨ps, k _ z1, z2⟩⟩
    · refine (I.hok b u e).stay (fun c v hc q => hx c v ?_ q) (fun _ q => q) fun _ _ q => q
      rcases hc with z | z
      · rw [z]; exact hb
      · exact fun z' => by rw [z', hP] at z; cases z
theorem code_step {A : Around} {E : Value → Shared → Prop} {c : Addr} {gpos : Pos} {qn : Str} {scope : Scope} {Q : Value → Shared → Prop} (I : Inv X pins σ H s) (hc : X.env.code = .ref c) (ck : CodeK X.K c P) (hP : H P = some (TabE P))
    (h : ∀ code h' tk, Inv X pins σ H { s with heap := h', toks := tk } → Heap.ExtBut P s.heap h' → Q code { s with heap := h', toks := tk }) :
    wpAny (model X.prog X.w) A (genexprCode X.env gpos qn scope) Q E s := by
  obtain ⟨o, vs, file, tf, flags, tg, inF, text, tt, lk, hcl, hd, h11, h11', h2, h7, h9, h10⟩ := ck.ex
  obtain ⟨⟨ps, hop, tr⟩, _, _⟩ := I.hok P _ hP
  have ho := I.kIn c o lk
  have hok : s.heap.IsCode c P ps := ⟨o, vs, file, tf, flags, tg, inF, text, tt, _, ho, hd, h11', h2, h7, h9, h10, hop, rfl, tr, ck.ne⟩
  have htab : s.heap.TableAt c P ps := ⟨⟨o, vs, ho, hcl, hd, h11⟩, hop⟩
  cases hnf : codeAmong gpos ps.toList with
  | none =>
    refine wpAny_genexprCodeX hc hok htab hnf fun c' h' tk hx _ _ hcode _ htab' _ => ?_
    obtain ⟨_, _, _, _, _, _, _, _, _, op, _, _, _, _, _, _, _, hop', hpd', tr', _⟩ := hcode
    rw [htab'.2] at hop'
    cases hop'
    cases hpd'
    exact h _ _ _ (I.grown hP hx ⟨_, htab'.2, tr'⟩) hx
  | some cv =>
    unfold genexprCode codeAt
    rw [hc, if_neg (show ¬ ((Value.ref c == Value.none) = true) from Bool.false_ne_true)]
    refine wpAny_bind (wpAny_fieldsOf ho hd ?_)
    rw [h11']
    refine wpAny_bind (wpAny_fieldsOf hop rfl ?_)
    rw [hnf]
    exact wpAny_pure (h cv s.heap s.toks I (Heap.ExtBut.refl _ _))
end

/-- the context of a generator expression's block -/
abbrev Cx.gen (X : Cx) (A : Around) (s : Shared) (H : Hp) (cenv : Env) (fp : List Addr) : Cx :=
  { X with A := A, s_0 := s, H_0 := H, env := cenv, outer := X.stack, stack := cenv :: X.stack, ex := fp, fn := fun _ => false, calm := true, pn := [], xe := fun _ _ => False }
section
variable {X : Cx} {pins : List (Addr × Obj)} {σ : St} {H : Hp} {s : Shared}
theorem gen_start {A : Around} {scope : Scope} {own : List (Str × Nat)} {fp : List Addr} {code : Value} {s' : Shared} {m0 : Str → Option Value} {g0 : Array GenState} {pn : List (Addr × Obj)} (I : Inv X pins σ H s) (ok : BlkOk X.N X.env.scope scope own) (hN : X.N.Nodup)
    (hfp : ∀ b ∈ fp, FpOk X pins H b ∧ b < s.heap.objs.size) (hcell : ∀ y ∈ scope.names, y.2 ≠ .cell) (hA : A.handled = none) (hfr : A.frames = some (genEnv scope (cloFrom X.env.cells scope.names []) s.heap.objs.size code builtinsNs X.env :: X.stack))
    (kp : ∀ b o, s.heap.get? b = some o → s'.heap.get? b = some o) (hn : s'.heap.Ns s.heap.objs.size m0) (hos : s'.os = s.os) (hg : GensOk g0 s'.gens)
    (hpn : ∀ p ∈ pn, s'.heap.get? p.1 = some p.2 ∧ s.heap.objs.size < p.1 ∧ ∀ v, p.2.data ≠ .cell v) :
    Inv (X.gen A { s with gens := g0 } H (genEnv scope (cloFrom X.env.cells scope.names []) s.heap.objs.size code builtinsNs X.env) fp) pn (wipe σ (own.map (·.2))) H s' := by
  have hfree : ∀ y ∈ scope.names, y.2 = .free → ∃ c, X.env.cells.lookup y.1 = some c := fun y hy e => by
    rcases ok.free y hy e with k | k
    · exact I.ok.has _ (.inl k)
    · exact I.ok.has _ (.inr k)
  generalize hcenv : genEnv scope (cloFrom X.env.cells scope.names []) s.heap.objs.size code builtinsNs X.env = cenv at *
  have hL : cenv.locals = s.heap.objs.size := by rw [← hcenv]; rfl
  have hcl : cenv.cells = cloFrom X.env.cells scope.names [] := by rw [← hcenv]; rfl
  have hsc : cenv.scope = scope := by rw [← hcenv]; rfl
  have cm : ∀ {y c}, (y, c) ∈ cloFrom X.env.cells scope.names [] → X.env.cells.lookup y = some c ∧ c < s.heap.objs.size := fun {y c} hm => by
    rcases cloFrom_mem hm with hm | ⟨h1, rfl⟩
    · cases hm
    · obtain ⟨c, hc⟩ := hfree _ h1 rfl
      rw [hc]
      obtain ⟨w, z⟩ := I.cell _ _ hc
      exact ⟨rfl, z.lt⟩
  have mem : ∀ {y c}, cenv.cells.lookup y = some c → X.env.cells.lookup y = some c ∧ c < s.heap.objs.size := fun {y c} e => by
    rw [hcl] at e
    exact cm (PySem.mem_of_lookup e)
  have look : ∀ {y}, scope.names.lookup y = some .free → ∃ c, cenv.cells.lookup y = some c ∧ X.env.cells.lookup y = some c := fun {y} hl => by
    have hy : (y, NameKind.free) ∈ scope.names := PySem.mem_of_lookup hl
    obtain ⟨c', e'⟩ := mem_lookup (cloFrom_has (cells := X.env.cells) (acc := []) hy)
    rw [← hcl] at e'
    exact ⟨c', e', (mem e').1⟩
  have okB : (X.gen A { s with gens := g0 } H cenv fp).Ok := by
    refine ⟨I.ok.mod, by show cenv.scope.kind = _; rw [hsc]; exact ok.kind, by show cenv.globals = _; rw [← hcenv]; exact I.ok.glob, by show cenv.builtins = _; rw [← hcenv]; rfl, by show s.heap.objs.size ≤ cenv.locals; rw [hL]; exact Nat.le_refl _,
      fun y z c e1 e2 => I.ok.inj y z c (mem e1).1 (mem e2).1, fun y hy => ?_, fun y c z e => (by cases z), fun _ => hA, hfr, .inr ⟨rfl, by show cenv.frame = some cenv.locals; rw [← hcenv]; rfl⟩, fun b hb => ⟨?_, fun y c e z => ?_⟩, I.bs, Nat.le_trans I.ok.bsz I.sz, fun b o e hb => ?_, fun b hb z => ?_, I.stack, I.stkFree⟩
    · have hy : scope.names.lookup y = some .cell ∨ scope.names.lookup y = some .free := by
        have hy : cenv.scope.names.lookup y = some .cell ∨ cenv.scope.names.lookup y = some .free := hy
        rw [hsc] at hy; exact hy
      rcases hy with hy | hy
      · exact absurd rfl (hcell _ (PySem.mem_of_lookup hy))
      · obtain ⟨c, h1, _⟩ := look hy
        exact ⟨c, h1⟩
    · show b ≠ cenv.locals
      rw [hL]; exact Nat.ne_of_lt (hfp b hb).2
    · exact (hfp b hb).1.2.2.2.2.1 y c (mem e).1 z
    · rcases (hfp b hb).1.2.2.2.1 with z | z
      · exact I.ok.noex b o e z
      · exact absurd (Nat.lt_of_lt_of_le (Heap.lt_size e) (Nat.le_trans I.ok.bsz z)) (Nat.lt_irrefl _)
    · rcases List.mem_cons.mp (I.stkSub b z) with z | z
      · exact (hfp b hb).1.2.1 z
      · exact (hfp b hb).1.2.2.1 z
  refine ⟨okB, hos, hg, Un.kept kp, ⟨m0, ?_, fun i y av e1 e2 e3 => ?_⟩, fun y c e => ?_, ?_, fun y c e => I.freeC y c (mem e).1, fun p hp => ?_, I.hok.kept kp, by rw [wipe_length]; exact I.len⟩
  · show Heap.Ns _ cenv.locals _
    rw [hL]; exact hn
  · obtain ⟨e2, hne⟩ := wipe_some e2
    have hfr : scope.names.lookup y = some .free := by
      have key : ∀ k, scope.names.lookup y = some k → k = .local ∨ k = .cell ∨ k = .free → scope.names.lookup y = some .free := fun k hk hk' => by
        have no : ¬ (k = .local ∨ k = .cell) := fun hh => by
          rcases ok.own _ (PySem.mem_of_lookup hk) hh with e' | e'
          · obtain ⟨p, hp, hpy⟩ := List.mem_map.mp e'
            have e3 := ok.ix p hp
            have : p.1 = y := hpy
            rw [this] at e3
            exact hne (List.mem_map.mpr ⟨p, hp, nodup_ix hN e3 e1⟩)
          · exact e' (List.mem_of_getElem? e1)
        rcases hk' with rfl | rfl | rfl
        · exact absurd (.inl rfl) no
        · exact absurd (.inr rfl) no
        · exact hk
      have e3 : Vis cenv.scope y := e3
      rw [hsc] at e3
      rcases e3 with e3 | e3 | e3
      · exact key _ e3 (.inl rfl)
      · exact key _ e3 (.inr (.inl rfl))
      · exact key _ e3 (.inr (.inr rfl))
    obtain ⟨m, hn', hl⟩ := I.loc
    have hvis : Vis X.env.scope y := (ok.free _ (PySem.mem_of_lookup hfr) rfl).elim (fun k => .inr (.inl k)) (fun k => .inr (.inr k))
    obtain ⟨w, r, q⟩ := hl i y av e1 e2 hvis
    refine ⟨w, r, .inr ⟨.inr (by show cenv.scope.names.lookup y = _; rw [hsc]; exact hfr), ?_⟩⟩
    obtain ⟨c, h1, h2⟩ := look hfr
    rcases q with ⟨k, _⟩ | ⟨_, c', e', z⟩
    · have k : X.env.scope.names.lookup y = some .local := k
      rcases ok.free _ (PySem.mem_of_lookup hfr) rfl with k' | k' <;> rw [show X.env.scope.names.lookup y = _ from k'] at k <;> cases k
    · rw [h2] at e'; cases e'
      exact ⟨c, h1, z.keeps kp⟩
  · obtain ⟨w, z⟩ := I.cell y c (mem e).1
    exact ⟨w, z.keeps kp⟩
  · show H cenv.locals = none
    rw [hL]; exact I.hok.fresh (Nat.le_refl _)
  · obtain ⟨q1, q2, q3⟩ := hpn p (by simpa using hp)
    refine ⟨q1, I.hok.fresh (Nat.le_of_lt q2), ?_, fun z => ?_, q3⟩
    · show p.1 ≠ cenv.locals
      rw [hL]; exact Nat.ne_of_gt q2
    · obtain ⟨_, o, ho, _⟩ := I.stack.mem z
      exact absurd (Nat.lt_trans (Heap.lt_size ho) q2) (Nat.lt_irrefl _)
end
end L2
set_option Elab.async false
set_option linter.all false
set_option maxRecDepth 100000
set_option maxHeartbeats 4000000
namespace L2
open PySem PySem.Spec PyProof.Rows
section
variable {X : Cx} {H4 : Hp} {s4 : Shared} {A2 : Around} {cenv : Env} {fp : List Addr} {it a : Addr} {g : Nat} {og : Obj} {σ : St} {vs : List Nat} {tn : Nat → Heap → Prop} {J : It} {x : Str} {px : Pos} {elt iter : Expr} {scope : Scope} {gpos : Pos}
  {gt : TG} {te : TE} {n : Nat} {Pv : Nat → Hp → Prop} {Q : VK}
/-- the code of the generator's block -/
abbrev gcode (elt iter : Expr) (x : Str) (px : Pos) (scope : Scope) (gpos : Pos) (it : Addr) (cenv : Env) : Code := .compLoop (.GeneratorExp elt [⟨.Name x px, iter, [], 0⟩] scope gpos) 0 (.ref it) .none cenv
/-- the block's context, from a state with these generators on -/
abbrev gctx (X : Cx) (Ae : Around) (s4 : Shared) (H4 : Hp) (cenv : Env) (fp : List Addr) (g0 : Array GenState) : Cx := X.gen Ae { s4 with gens := g0 } H4 cenv fp
theorem Inv.regen {X : Cx} {Ae : Around} {s4 : Shared} {H4 : Hp} {cenv : Env} {fp : List Addr} {g1 g2 : Array GenState} {pins : List (Addr × Obj)} {σ : St} {H : Hp} {s s' : Shared} (I : Inv (gctx X Ae s4 H4 cenv fp g1) pins σ H s) (hh : s'.heap = s.heap) (ho : s'.os = s.os) (hg : GensOk g2 s'.gens) :
    Inv (gctx X Ae s4 H4 cenv fp g2) pins σ H s' := by
  obtain ⟨h, gs, d, t, os⟩ := s'
  cases hh
  cases ho
  have ok := I.ok
  exact ⟨⟨ok.mod, ok.kind, ok.glob, ok.blt, ok.above, ok.inj, ok.has, ok.cab, ok.hd, ok.frames, ok.stk, ok.exf, ok.bs, ok.bsz, ok.noex, ok.exfs, ok.funs, ok.frf⟩, I.os, hg, I.base, I.loc, I.cell, I.free, I.freeC, I.pin, I.hok, I.len⟩
structure GH (X : Cx) (Ae : Around) (s4 : Shared) (H4 : Hp) (cenv : Env) (fp : List Addr) (a : Addr) (og : Obj) (σ0 : St) (H : Hp) (s : Shared) : Prop where
  inv : Inv (gctx X Ae s4 H4 cenv fp s.gens) [(a, og)] σ0 H s
  gk : GensOk s4.gens s.gens
theorem GH.at {X : Cx} {Ae : Around} {s4 : Shared} {H4 : Hp} {cenv : Env} {fp : List Addr} {a : Addr} {og : Obj} {σ0 : St} {H : Hp} {s s' : Shared} (h : GH X Ae s4 H4 cenv fp a og σ0 H s) (hh : s'.heap = s.heap) (ho : s'.os = s.os) (hg : GensOk s4.gens s'.gens) : GH X Ae s4 H4 cenv fp a og σ0 H s' :=
  ⟨h.inv.regen hh ho hg.self, hg⟩
/-- what is known where the generator yields -/
def gproto (X : Cx) (Ae : Around) (s4 : Shared) (H4 : Hp) (cenv : Env) (fp : List Addr) (a : Addr) (og : Obj) (σ0 : St) (g : Nat) (tn : Nat → Heap → Prop) (n : Nat) (Pv : Nat → Hp → Prop) (Q : VK) : Protocol := fun m _ v s kap =>
  ∃ i H b, i + m = n ∧ i < n ∧ GH X Ae s4 H4 cenv fp a og σ0 H s ∧ tn (i + 1) s.heap ∧ (∀ c ∈ fp, H c = none) ∧ s.gens[g]? = some .running ∧ v = Value.bool b ∧ (if b = true then Pv (i + 1) H else Q (.bl false) H) ∧
    ∀ s'' : Shared, b = true → s''.heap = s.heap → s''.os = s.os → GensOk s4.gens s''.gens → s''.gens[g]? = some .running → kap (.send .none) s''
def gend (X : Cx) (Ae : Around) (s4 : Shared) (H4 : Hp) (cenv : Env) (fp : List Addr) (a : Addr) (og : Obj) (σ0 : St) (g : Nat) (n : Nat) (Pv : Nat → Hp → Prop) : Nat → Shared → Shared → Prop := fun m _ s1 =>
  m = 1 ∧ ∃ H, GH X Ae s4 H4 cenv fp a og σ0 H s1 ∧ Pv n H ∧ s1.gens[g]? = some .running
theorem seg_all (T : Turn X.prog X.w X.K (.Name x px) J fp it tn) (hco : cenv.scope.isCoroutine = false)
    (hsf : ∀ H, (∀ b ∈ fp, H b = none) → ∀ b ∈ fp, FpOk (gctx X (A2.over (gcode elt iter x px scope gpos it cenv) []) s4 H4 cenv fp s4.gens) [(a, og)] H b)
    (hg : ∀ g0, PG (gctx X (A2.over (gcode elt iter x px scope gpos it cenv) []) s4 H4 cenv fp g0) (.Name x px) gt) (he : ∀ g0, PE (gctx X (A2.over (gcode elt iter x px scope gpos it cenv) []) s4 H4 cenv fp g0) elt te)
    (step : ∀ i H, i < n → Pv i H → J.go i H ∧ ∀ y H', J.yld i H y H' → gt y (wipe σ vs) H' fun σ2 H2 => wipe σ2 vs = wipe σ vs ∧ te σ2 H2 fun z H3 => ∃ b, z = .bl b ∧ if b = true then Pv (i + 1) H3 else Q (.bl false) H3)
    (stop : ∀ H, Pv n H → J.stop n H) :
    ∀ (k i : Nat) (s0 s : Shared) (H : Hp), i + k = n → GH X (A2.over (gcode elt iter x px scope gpos it cenv) []) s4 H4 cenv fp a og (wipe σ vs) H s → tn i s.heap → (∀ b ∈ fp, H b = none) → Pv i H → s.gens[g]? = some .running →
      Seg (model X.prog X.w) A2 (fun m s₀ r s₁ => r = .ok .next ∧ gend X (A2.over (gcode elt iter x px scope gpos it cenv) []) s4 H4 cenv fp a og (wipe σ vs) g n Pv m s₀ s₁)
        (gproto X (A2.over (gcode elt iter x px scope gpos it cenv) []) s4 H4 cenv fp a og (wipe σ vs) g tn n Pv Q) (k + 1) s0 (gcode elt iter x px scope gpos it cenv) ((model X.prog X.w).den (gcode elt iter x px scope gpos it cenv)) [] s := by
  have sf : ∀ {g0 H}, (∀ b ∈ fp, H b = none) → ∀ b ∈ fp, FpOk (gctx X (A2.over (gcode elt iter x px scope gpos it cenv) []) s4 H4 cenv fp g0) [(a, og)] H b := fun {g0 H} h b hb => hsf H h b hb
  intro k
  induction k with
  | zero =>
    intro i s0 s H hk G ht hf p hr
    have hin : i = n := by omega
    subst hin
    show Seg _ A2 _ _ _ s0 _ ((compTurn (.GeneratorExp elt [⟨.Name x px, iter, [], 0⟩] scope gpos) 0 (.ref it) .none cenv).onRaise (leaving cenv)) [] s
    rw [compTurn_gen, Sem.onRaise_eq_wrap]
    refine seg_bind_wrap (wpAny_standAt ?_)
    refine seg_bind_wrap (wpAny_mono (T.done (gctx X (A2.over (gcode elt iter x px scope gpos it cenv) []) s4 H4 cenv fp s.gens) rfl rfl rfl rfl i [(a, og)] s _ H _ G.inv (sf hf) ht (stop H p)) (fun r s1 h1 => ?_) fun _ _ z => z)
    obtain ⟨rfl, I1⟩ := h1
    have gk := G.gk.trans I1.bare
    exact seg_end (.ok .next) ⟨rfl, rfl, H, ⟨I1.regen rfl rfl gk.self, gk⟩, p, I1.bare.2 g _ hr⟩
  | succ k ih =>
    intro i s0 s H hk G ht hf p hr
    obtain ⟨hgo, hst⟩ := step i H (by omega) p
    show Seg _ A2 _ _ _ s0 _ ((compTurn (.GeneratorExp elt [⟨.Name x px, iter, [], 0⟩] scope gpos) 0 (.ref it) .none cenv).onRaise (leaving cenv)) [] s
    rw [compTurn_gen, Sem.onRaise_eq_wrap]
    refine seg_bind_wrap (wpAny_standAt ?_)
    refine seg_bind_wrap (wpAny_mono (T.item (gctx X (A2.over (gcode elt iter x px scope gpos it cenv) []) s4 H4 cenv fp s.gens) rfl rfl rfl rfl i [(a, og)] s _ H _ G.inv (sf hf) ht hgo) (fun r s1 h1 => ?_) fun _ _ z => z)
    obtain ⟨u, rfl, h1⟩ := h1
    refine seg_bind_wrap (wpAny_mono h1 (fun _ s2 h2 => ?_) fun _ _ z => z)
    obtain ⟨y, H2, I2, r2, y2, tn2, hf2⟩ := h2
    have I2p := I2.pinned (sf hf2) (fun b hb => T.obj _ _ tn2 b hb)
    refine seg_bind_wrap (wpAny_mono (hg s.gens _ s2 _ H2 y u _ I2p r2 (hst y H2 y2)) (fun _ s3 h3 => ?_) fun _ _ z => z.elim)
    obtain ⟨σ3, H3, I3, hw, q3⟩ := h3
    refine seg_bind_wrap (wpAny_tests_nil ?_)
    simp only [if_true]
    have hy : ∀ v, yieldOut cenv v = yieldValue v := fun v => by simp only [yieldOut, hco, Bool.false_eq_true, if_false]
    simp only [hy]
    rw [Sem.bind_eq_wrap', Sem.bind_eq_wrap', Sem.wrap_wrap, Sem.wrap_wrap]
    refine seg_wrap (wpAny_mono (he s.gens _ s3 σ3 H3 _ I3 q3) (fun v s5 h5 => ?_) fun _ _ z => z.elim)
    obtain ⟨z, H5, I5, r5, b, rfl, q5⟩ := h5
    obtain rfl : v = Value.bool b := r5
    have pin5 : ∀ c ∈ fp, ∀ o, s2.heap.get? c = some o → s5.heap.get? c = some o ∧ H5 c = none := fun c hc o e => by
      have z := I5.pin (c, o) (by show (c, o) ∈ [] ++ ([(a, og)] ++ pinsAt fp s2.heap); exact List.mem_append_right _ (List.mem_append_right _ (mem_pinsAt hc e)))
      exact ⟨z.1, z.2.1⟩
    have tn5 : tn (i + 1) s5.heap := T.keep _ _ _ tn2 fun c hc o e => (pin5 c hc o e).1
    have hf5 : ∀ c ∈ fp, H5 c = none := fun c hc => by
      obtain ⟨o, e, _⟩ := T.obj _ _ tn2 c hc
      exact (pin5 c hc o e).2
    have gk5 := G.gk.trans I5.bare
    have I6 : Inv (gctx X (A2.over (gcode elt iter x px scope gpos it cenv) []) s4 H4 cenv fp s.gens) [(a, og)] (wipe σ vs) H5 s5 := by
      refine I5.unpinned.weak ?_ fun j w e => ?_
      · rw [← hw, wipe_length]
      · rw [← hw] at e
        exact (wipe_some e).1
    have G6 : GH X (A2.over (gcode elt iter x px scope gpos it cenv) []) s4 H4 cenv fp a og (wipe σ vs) H5 s5 := ⟨I6.regen rfl rfl gk5.self, gk5⟩
    refine seg_at (seg_yield rfl rfl rfl ⟨i, H5, b, by omega, by omega, G6, tn5, hf5, I5.bare.2 g _ hr, rfl, q5, fun s'' hb hh ho hk' hr' => ?_⟩)
    subst hb
    exact seg_again rfl (ih (i + 1) s'' s'' H5 (by omega) (G6.at hh ho hk') (by rw [hh]; exact tn5) hf5 q5 hr')
theorem seg_start (T : Turn X.prog X.w X.K (.Name x px) J fp it tn) (s0 s : Shared) (ht : tn 0 s.heap) {k : Nat} {R : GenEnd} {Y : Protocol}
    (loop : Seg (model X.prog X.w) A2 R Y k s0 (gcode elt iter x px scope gpos it cenv) ((model X.prog X.w).den (gcode elt iter x px scope gpos it cenv)) [] s) :
    Seg (model X.prog X.w) A2 R Y k s0 (.compStart (.GeneratorExp elt [⟨.Name x px, iter, [], 0⟩] scope gpos) 0 (.ref it) .none cenv)
      ((model X.prog X.w).den (.compStart (.GeneratorExp elt [⟨.Name x px, iter, [], 0⟩] scope gpos) 0 (.ref it) .none cenv)) [] s := by
  show Seg _ A2 _ _ _ s0 _ ((compStart (.GeneratorExp elt [⟨.Name x px, iter, [], 0⟩] scope gpos) 0 (.ref it) .none cenv).onRaise (leaving cenv)) [] s
  unfold compStart
  rw [Sem.onRaise_eq_wrap]
  show Seg _ A2 _ _ _ s0 _ ((ask >>= _).wrap _ _ _ _) [] s
  refine seg_bind_wrap (wpAny_askSetting ?_)
  split
  · exact seg_again rfl loop
  · refine seg_bind_wrap (wpAny_rule ?_)
    show Seg _ A2 _ _ _ s0 _ ((standAt iter.pos >>= _).wrap _ _ _ _) [] s
    exact seg_bind_wrap (wpAny_standAt (seg_bind_wrap (T.self _ 0 s _ _ ht (seg_again rfl loop))))
theorem gens_set {a b : Array GenState} {g : Nat} {y : GenState} (h : GensOk a b) (hg : a.size ≤ g) (hy : y.bare = true) : GensOk a (b.setIfInBounds g y) := by
  refine ⟨fun z hz => ?_, fun i z e => ?_⟩
  · rcases Array.mem_or_eq_of_mem_setIfInBounds hz with q | q
    · exact h.1 z q
    · rw [q]; exact hy
  · have hi : i < a.size := (Array.getElem?_eq_some_iff.mp e).1
    rw [Array.getElem?_setIfInBounds_ne (by omega)]
    exact h.2 i z e
/-- the walk by all -/
theorem all_loop {A : Around} {R : Result → Shared → Prop} (hh : A.handled = none) (hroom : A.depth < recursionLimit) (hgs0 : s4.gens.size ≤ g) (hog : og.cls = .type "generator") (hod : ∃ nm qn, og.data = .fields #[.int g 0, nm, qn]) (hos : og.slots = #[])
    (fin : ∀ b H s, GH X (A.in1.in1.over (gcode elt iter x px scope gpos it cenv) []) s4 H4 cenv fp a og (wipe σ vs) H s → Q (.bl b) H → R (.ok (.ret (.bool b))) s) (stop : ∀ H, Pv n H → Q (.bl true) H) :
    ∀ (k i : Nat) (s : Shared) (H : Hp) (gs : GenState), i + k = n → GH X (A.in1.in1.over (gcode elt iter x px scope gpos it cenv) []) s4 H4 cenv fp a og (wipe σ vs) H s → Pv i H → s.gens[g]? = some gs →
      (∀ s'' : Shared, s''.heap = s.heap → s''.os = s.os → GensOk s4.gens s''.gens → s''.gens[g]? = some .running →
        gs.Goes (model X.prog X.w) A.in1.in1 (fun m s₀ r s₁ => r = .ok .next ∧ gend X (A.in1.in1.over (gcode elt iter x px scope gpos it cenv) []) s4 H4 cenv fp a og (wipe σ vs) g n Pv m s₀ s₁)
          (gproto X (A.in1.in1.over (gcode elt iter x px scope gpos it cenv) []) s4 H4 cenv fp a og (wipe σ vs) g tn n Pv Q) (k + 1) (.send .none) s'') →
      codeAny (model X.prog X.w) A (.builtin "all.loop" ⟨[.ref a], []⟩) R s := by
  intro k
  induction k with
  | zero =>
    intro i s H gs hk G p hgs hgo
    have hin : i = n := by omega
    subst hin
    obtain ⟨nm, qn, hod'⟩ := hod
    have hig : s.heap.IsGen a g := ⟨og, nm, qn, (G.inv.pin (a, og) (by simp)).1, hog, hod', hos⟩
    refine codeAny_builtin F.entry_all_loop ?_
    rw [Around.under_plainId F.plain_all_loop _]
    show wpAny _ A.in1 (pyNext (.ref a) >>= _) _ _ s
    refine wpAny_bind (wpAny_pyNext_genexpQ (A := A.in1) hh G.inv.nolimit hroom hig hgs (hgo _ rfl rfl (gens_set G.gk hgs0 rfl) (setGen_self hgs)) (fun v s1 gs' hb hv => ?_) (fun s1 hp h' hk => ?_))
    · obtain ⟨j, _, _, hj, hj2, _⟩ := hv
      omega
    · obtain ⟨_, H1, G1, p1, hr1⟩ := hp
      refine wpAny_bind (wpAny_rule (wpAny_pure ?_))
      have gk2 : GensOk s4.gens ({ s1.setGen g .finished with heap := h' } : Shared).gens := gens_set G1.gk hgs0 rfl
      have I2 : Inv (gctx X (A.in1.in1.over (gcode elt iter x px scope gpos it cenv) []) s4 H4 cenv fp ({ s1.setGen g .finished with heap := h' } : Shared).gens) [(a, og)] (wipe σ vs) H1 { s1.setGen g .finished with heap := h' } :=
        (Inv.regen (s' := s1.setGen g .finished) G1.inv rfl rfl gk2.self).kept (t' := s1.toks) hk
      exact fin true H1 _ ⟨I2, gk2⟩ (stop H1 p1)
  | succ k ih =>
    intro i s H gs hk G p hgs hgo
    obtain ⟨nm, qn, hod'⟩ := id hod
    have hig : s.heap.IsGen a g := ⟨og, nm, qn, (G.inv.pin (a, og) (by simp)).1, hog, hod', hos⟩
    refine codeAny_builtin F.entry_all_loop ?_
    rw [Around.under_plainId F.plain_all_loop _]
    show wpAny _ A.in1 (pyNext (.ref a) >>= _) _ _ s
    refine wpAny_bind (wpAny_pyNext_genexpQ (A := A.in1) hh G.inv.nolimit hroom hig hgs (hgo _ rfl rfl (gens_set G.gk hgs0 rfl) (setGen_self hgs)) (fun v s1 gs' hb hv => ?_) (fun s1 hp h' hk => ?_))
    · obtain ⟨j, H1, b, hj, hj2, G1, tn1, hf1, hr1, rfl, q1, hkap⟩ := hv
      have hij : j = i := by omega
      subst hij
      have gk2 : GensOk s4.gens (s1.setGen g gs').gens := gens_set G1.gk hgs0 hb
      have G2 : GH X (A.in1.in1.over (gcode elt iter x px scope gpos it cenv) []) s4 H4 cenv fp a og (wipe σ vs) H1 (s1.setGen g gs') := G1.at rfl rfl gk2
      refine wpAny_bind (wpAny_holding ?_)
      show wpAny _ _ (truthy (.bool b)) _ _ _
      refine wpAny_pure ?_
      refine wpAny_bind (wpAny_letGo ?_)
      cases b with
      | true =>
        simp only [if_true]
        refine wpAny_pure ⟨plainId_quiet F.plain_all_loop _, ih (j + 1) _ H1 gs' (by omega) G2 q1 (setGen_self hr1) fun s'' e1 e2 e3 e4 => hkap s'' rfl e1 e2 e3 e4⟩
      | false =>
        simp only [Bool.false_eq_true, if_false]
        refine wpAny_bind (wpAny_rule (wpAny_pure ?_))
        exact fin false H1 _ G2 q1
    · obtain ⟨h0, _⟩ := hp
      omega
end
end L2
set_option Elab.async false
set_option linter.all false
set_option maxRecDepth 100000
set_option maxHeartbeats 4000000
namespace L2
open PySem PySem.Spec PyProof.Rows
/-- all(e for x in xs): the walked thing, then by an invariant Pv over the turns: a turn whose element is False ends it -/
def tAllG (P bm : Addr) (ob : Obj) (wi : TI) (g : TG) (te : TE) (vs : List Nat) : TE := fun σ H Q => wi σ H fun J H1 => H1 P = some (TabE P) ∧ H1 bm = some (ObE bm ob) ∧ ∃ (n : Nat) (Pv : Nat → Hp → Prop), Pv 0 H1 ∧
  (∀ i H, i < n → Pv i H → J.go i H ∧ ∀ y H', J.yld i H y H' → g y (wipe σ vs) H' fun σ2 H2 => wipe σ2 vs = wipe σ vs ∧ te σ2 H2 fun z H3 => ∃ b, z = .bl b ∧ if b = true then Pv (i + 1) H3 else Q (.bl false) H3) ∧
  ∀ H, Pv n H → J.stop n H ∧ Q (.bl true) H
theorem boot_all : bootBuiltins "all" = some (.builtin "all") := by decide +kernel
/-- the room of a generator's block -/
theorem Room.gen {k : Nat} {A : Around} (r : Room (k + 1) A) {elt iter : Expr} {x : Str} {px : Pos} {scope : Scope} {gpos : Pos} {it : Addr} {cenv : Env} : Room k (A.in1.in1.over (gcode elt iter x px scope gpos it cenv) []) := by
  refine ⟨r.hd, ?_, ?_⟩
  · have := r.dp
    show A.depth + 0 + 1 + 3 * k + 5 < _
    omega
  · have := r.un
    show A.units + 1 + 1 + 0 + 3 + 16 * k + 200 < _
    omega
section
variable {X : Cx}
theorem pe_allg {elt iter : Expr} {x : Str} {px : Pos} {scope : Scope} {own : List (Str × Nat)} {gpos p pos : Pos} {c P bm : Addr} {ob : Obj} {k : Nat} {wi : TI} {gt : TG} {te : TE} (hcalm : X.calm = true) (hN : X.N.Nodup) (hr : Room (k + 1) X.A) (hgl : Gl X "all") (hm : X.mg "all" = none)
    (hi : PI X (.Name x px) iter wi) (ok : BlkOk X.N X.env.scope scope own) (hco : scope.isCoroutine = false) (hcell : ∀ y ∈ scope.names, y.2 ≠ .cell) (h0 : scope.names.lookup (".0" : Str) = some NameKind.local)
    (hc : X.env.code = .ref c) (ck : CodeK X.K c P) (bk : BmK X.mg bm ob)
    (hg : ∀ (A : Around) (s : Shared) (H : Hp) (C : Addr) (cl : List (Str × Addr)) (code : Value) (fp : List Addr), PG (X.gen A s H (genEnv scope cl C code builtinsNs X.env) fp) (.Name x px) gt)
    (he : ∀ (A : Around) (s : Shared) (H : Hp) (C : Addr) (cl : List (Str × Addr)) (code : Value) (fp : List Addr), Room k A → PE (X.gen A s H (genEnv scope cl C code builtinsNs X.env) fp) elt te)
    (hs : ∀ v, genFold iter X.env v = pure v := by intro _; rfl)
    (hst : starEach [.GeneratorExp elt [⟨.Name x px, iter, [], 0⟩] scope gpos] X.env = (false, eval (.GeneratorExp elt [⟨.Name x px, iter, [], 0⟩] scope gpos) X.env) :: starEach [] X.env := by rfl) :
    PE X (.Call (.Name "all" p) [.GeneratorExp elt [⟨.Name x px, iter, [], 0⟩] scope gpos] [] pos) (tAllG P bm ob wi gt te (own.map (·.2))) := by
  intro pins s σ H Q I h
  have hfree : ∀ y ∈ scope.names, y.2 = .free → ∃ c, X.env.cells.lookup y.1 = some c := fun y hy e => by
    rcases ok.free y hy e with k | k
    · exact I.ok.has _ (.inl k)
    · exact I.ok.has _ (.inr k)
  have ev : wpAny (model X.prog X.w) X.A (eval (.GeneratorExp elt [⟨.Name x px, iter, [], 0⟩] scope gpos) X.env) (fun v s1 => wpAny (model X.prog X.w) X.A (call (.builtin "all") [v]) (EP X pins σ Q) X.xe s1) X.xe s := by
    refine wpAny_GeneratorExp_make hco (closure_ok hfree) hcell h0 ok.kind hr.depth (wpAny_mono (hi pins s σ H _ I h) (fun xv s1 h1 => wpAny_mono h1 (fun itv s2 h2 => ?_) fun _ _ e => e) fun _ _ e => e) hs
    obtain ⟨it, fp, tn, J, H1, rfl, I2, T, tn0, hf, hP, hbm, n, Pv, p0, step, stop⟩ := h2
    refine ⟨I2.nolimit, code_step I2 hc ck hP fun code h3 tk3 I3 hx => ?_⟩
    have tn3 : tn 0 h3 := T.keep 0 _ _ tn0 fun b hb o e => hx b o (fun z => by have := (hf b hb).1; rw [z, hP] at this; cases this) e
    have hns : h3.Ns X.env.globals X.mg := by rw [I.ok.glob]; exact I3.mod.glob.keeps I3.bk
    refine wpAny_builtinsFor (s := { s2 with heap := h3, toks := tk3 }) hns bk.nm bk.ne (I3.hok bm _ hbm).1 bk.cls bk.dict bk.data ?_
    intro h' hn' hs'
    have hfp : ∀ b ∈ fp, FpOk X pins H1 b ∧ b < h3.objs.size := fun b hb => ⟨hf b hb, by obtain ⟨o, e, _⟩ := T.obj 0 h3 tn3 b hb; exact Heap.lt_size e⟩
    have hsz : h'.objs.size = h3.objs.size + 1 := by rw [hs'.1, Heap.size_push]
    have keep' : ∀ b o, h3.get? b = some o → h'.get? b = some o := fun b o e => hs'.extBut b o (Nat.ne_of_lt (Heap.lt_size e)) (Heap.get?_push_of_some _ e)
    generalize hog : ({ cls := .type "generator", data := .fields #[.int s2.gens.size 0, .str "<genexpr>" (tk3 + 1), .str (X.env.qual ++ "<genexpr>") (tk3 + 1 + 1)] } : Obj) = og
    have kp : ∀ b o, h3.get? b = some o → (h'.push og).get? b = some o := fun b o e => Heap.get?_push_of_some _ (keep' b o e)
    have hget : (h'.push og).get? h'.objs.size = some og := by rw [← hog]; exact Heap.get?_push_size _ rfl
    have hig : (h'.push og).IsGen h'.objs.size s2.gens.size := ⟨og, _, _, hget, by rw [← hog], by rw [← hog], by rw [← hog]⟩
    have gk0 : GensOk s2.gens (s2.gens.push (.fresh (.compStart (.GeneratorExp elt [⟨.Name x px, iter, [], 0⟩] scope gpos) 0 (.ref it) .none (genEnv scope (cloFrom X.env.cells scope.names []) h3.objs.size code builtinsNs X.env)))) :=
      ⟨I3.bare.1.push rfl, fun i z e => by obtain ⟨hi, e'⟩ := Array.getElem?_eq_some_iff.mp e; rw [Array.getElem?_push_lt hi, e']⟩
    refine call_function_tree F.kind_all F.plain_all F.entry_all (F.args_all1 _) ?_
    unfold Builtin.«all»
    refine wpAny_bind (m := oneArg "all" _) (wpAny_pure ?_)
    refine wpAny_bind (wpAny_pyIter_gen hig ?_)
    refine wpAny_pure ⟨plainId_quiet F.plain_all_loop _, ?_⟩
    have G0 : GH X (X.A.in1.in1.over (gcode elt iter x px scope gpos it (genEnv scope (cloFrom X.env.cells scope.names []) h3.objs.size code builtinsNs X.env)) []) { s2 with heap := h3, toks := tk3 } H1 (genEnv scope (cloFrom X.env.cells scope.names []) h3.objs.size code builtinsNs X.env) fp h'.objs.size og (wipe σ (own.map (·.2))) H1
        { s2 with gens := s2.gens.push (.fresh (.compStart (.GeneratorExp elt [⟨.Name x px, iter, [], 0⟩] scope gpos) 0 (.ref it) .none (genEnv scope (cloFrom X.env.cells scope.names []) h3.objs.size code builtinsNs X.env))), toks := tk3 + 1 + 1 + 1, heap := h'.push og } := by
      refine ⟨gen_start (s := { s2 with heap := h3, toks := tk3 }) I3 ok hN hfp hcell (I.ok.hd hcalm) ?_ kp (hn'.push _) rfl gk0.self fun q hq => ?_, gk0⟩
      · show pushEnvs [_] (pushEnvs [] X.A.frames) = _
        rw [I.ok.frames]; rfl
      · have e : q = (h'.objs.size, og) := by simpa using hq
        rw [e]
        refine ⟨hget, ?_, fun v z => ?_⟩
        · show h3.objs.size < h'.objs.size
          omega
        · rw [← hog] at z; cases z
    refine all_loop (n := n) (Pv := Pv) (Q := Q) (tn := tn) (I.ok.hd hcalm) hr.depth (Nat.le_refl _) (by rw [← hog]) ⟨_, _, by rw [← hog]⟩ (by rw [← hog]) (fun b H5 s5 G q => ?_) (fun H5 p5 => (stop H5 p5).2) n 0 _ H1 _ (Nat.zero_add _) G0 p0 (Array.getElem?_push_size ..) fun s'' e1 e2 e3 e4 => ?_
    · refine ⟨.bl b, H5, I3.call' (s' := s5) (ch := fp) G.inv.os G.inv.base G.inv.hok G.gk fun b hb => ?_, rfl, q⟩
      exact ⟨(hf b hb).2.2.2.1, (hf b hb).2.1, (hf b hb).2.2.2.2.1, (hf b hb).2.2.2.2.2⟩
    · have G1 := G0.at e1 e2 e3
      have tn5 : tn 0 s''.heap := by
        rw [e1]
        exact T.keep 0 _ _ tn3 fun b hb o e => kp b o e
      refine ⟨rfl, seg_start T _ _ tn5 (seg_all T hco (fun H6 hn6 b hb => ?_) (fun g0 => hg _ _ _ _ _ _ _) (fun g0 => he _ _ _ _ _ _ _ hr.gen) step (fun H6 p6 => (stop H6 p6).1) n 0 s'' s'' H1 (Nat.zero_add _) G1 tn5 (fun b hb => (hf b hb).1) p0 e4)⟩
      have o := G0.inv.ok
      refine ⟨hn6 b hb, (o.exf b hb).1, o.exfs b hb, .inl hb, fun y c e => (o.exf b hb).2 y c e, fun q hq => ?_⟩
      have e : q = (h'.objs.size, og) := by simpa using hq
      rw [e]
      have q1 := (hfp b hb).2
      exact Nat.ne_of_gt (Nat.lt_of_lt_of_le q1 (by rw [hsz]; exact Nat.le_succ _))
  refine wpAny_Call_Name_kw (ld_blt I hgl hm boot_all ?_)
  refine PyProof.Rows.callWith_builtin1 ?_ hst rfl
  rw [hst]
  show wpAny _ _ (spliced ((false, eval (.GeneratorExp elt [⟨.Name x px, iter, [], 0⟩] scope gpos) X.env) :: backTo pos (starEach [] X.env))) _ _ s
  exact Calls.spliced_cons (thn ev fun v s1 q => Calls.spliced_nil q)
end
end L2
set_option Elab.async false
set_option linter.all false
set_option maxRecDepth 100000
set_option maxHeartbeats 4000000
/-! tuple(e for t in xs): a generator expression whose items are gathered in a list S that the heap tracks. -/
namespace L2
open PySem PySem.Spec PyProof.Rows
section
variable {X : Cx} {H4 : Hp} {s4 : Shared} {A2 : Around} {cenv : Env} {fp : List Addr} {it a S : Addr} {g : Nat} {og : Obj} {σ : St} {vs : List Nat} {tn : Nat → Heap → Prop} {J : It} {elt iter tg : Expr} {scope : Scope} {gpos : Pos}
  {gt : TG} {te : TE} {n : Nat} {Pv : Nat → Hp → Prop}
abbrev gcodeT (elt iter tg : Expr) (scope : Scope) (gpos : Pos) (it : Addr) (cenv : Env) : Code := .compLoop (.GeneratorExp elt [⟨tg, iter, [], 0⟩] scope gpos) 0 (.ref it) .none cenv
def gprotoT (X : Cx) (Ae : Around) (s4 : Shared) (H4 : Hp) (cenv : Env) (fp : List Addr) (a : Addr) (og : Obj) (σ0 : St) (g : Nat) (S : Addr) (tn : Nat → Heap → Prop) (n : Nat) (Pv : Nat → Hp → Prop) : Protocol := fun m _ v s kap =>
  ∃ i H z, i + m = n ∧ i < n ∧ GH X Ae s4 H4 cenv fp a og σ0 H s ∧ tn (i + 1) s.heap ∧ (∀ c ∈ fp, H c = none) ∧ s.gens[g]? = some .running ∧ RelV z v ∧ (∃ acc, H S = some (.lst acc) ∧ acc.length < sizeLine ∧ Pv (i + 1) (upd H S (.lst (acc ++ [z])))) ∧
    ∀ (s'' : Shared) (H'' : Hp), GH X Ae s4 H4 cenv fp a og σ0 H'' s'' → tn (i + 1) s''.heap → (∀ c ∈ fp, H'' c = none) → Pv (i + 1) H'' → s''.gens[g]? = some .running → kap (.send .none) s''
theorem seg_tup (T : Turn X.prog X.w X.K tg J fp it tn) (hco : cenv.scope.isCoroutine = false)
    (hsf : ∀ H, (∀ b ∈ fp, H b = none) → ∀ b ∈ fp, FpOk (gctx X (A2.over (gcodeT elt iter tg scope gpos it cenv) []) s4 H4 cenv fp s4.gens) [(a, og)] H b)
    (hg : ∀ g0, PG (gctx X (A2.over (gcodeT elt iter tg scope gpos it cenv) []) s4 H4 cenv fp g0) tg gt) (he : ∀ g0, PE (gctx X (A2.over (gcodeT elt iter tg scope gpos it cenv) []) s4 H4 cenv fp g0) elt te)
    (step : ∀ i H, i < n → Pv i H → J.go i H ∧ ∀ y H', J.yld i H y H' → gt y (wipe σ vs) H' fun σ2 H2 => wipe σ2 vs = wipe σ vs ∧ te σ2 H2 fun z H3 => ∃ acc, H3 S = some (.lst acc) ∧ acc.length < sizeLine ∧ Pv (i + 1) (upd H3 S (.lst (acc ++ [z]))))
    (stop : ∀ H, Pv n H → J.stop n H) :
    ∀ (k i : Nat) (s0 s : Shared) (H : Hp), i + k = n → GH X (A2.over (gcodeT elt iter tg scope gpos it cenv) []) s4 H4 cenv fp a og (wipe σ vs) H s → tn i s.heap → (∀ b ∈ fp, H b = none) → Pv i H → s.gens[g]? = some .running →
      Seg (model X.prog X.w) A2 (fun m s₀ r s₁ => r = .ok .next ∧ gend X (A2.over (gcodeT elt iter tg scope gpos it cenv) []) s4 H4 cenv fp a og (wipe σ vs) g n Pv m s₀ s₁)
        (gprotoT X (A2.over (gcodeT elt iter tg scope gpos it cenv) []) s4 H4 cenv fp a og (wipe σ vs) g S tn n Pv) (k + 1) s0 (gcodeT elt iter tg scope gpos it cenv) ((model X.prog X.w).den (gcodeT elt iter tg scope gpos it cenv)) [] s := by
  have sf : ∀ {g0 H}, (∀ b ∈ fp, H b = none) → ∀ b ∈ fp, FpOk (gctx X (A2.over (gcodeT elt iter tg scope gpos it cenv) []) s4 H4 cenv fp g0) [(a, og)] H b := fun {g0 H} h b hb => hsf H h b hb
  intro k
  induction k with
  | zero =>
    intro i s0 s H hk G ht hf p hr
    have hin : i = n := by omega
    subst hin
    show Seg _ A2 _ _ _ s0 _ ((compTurn (.GeneratorExp elt [⟨tg, iter, [], 0⟩] scope gpos) 0 (.ref it) .none cenv).onRaise (leaving cenv)) [] s
    rw [compTurn_gen, Sem.onRaise_eq_wrap]
    refine seg_bind_wrap (wpAny_standAt ?_)
    refine seg_bind_wrap (wpAny_mono (T.done (gctx X (A2.over (gcodeT elt iter tg scope gpos it cenv) []) s4 H4 cenv fp s.gens) rfl rfl rfl rfl i [(a, og)] s _ H _ G.inv (sf hf) ht (stop H p)) (fun r s1 h1 => ?_) fun _ _ z => z)
    obtain ⟨rfl, I1⟩ := h1
    have gk := G.gk.trans I1.bare
    exact seg_end (.ok .next) ⟨rfl, rfl, H, ⟨I1.regen rfl rfl gk.self, gk⟩, p, I1.bare.2 g _ hr⟩
  | succ k ih =>
    intro i s0 s H hk G ht hf p hr
    obtain ⟨hgo, hst⟩ := step i H (by omega) p
    show Seg _ A2 _ _ _ s0 _ ((compTurn (.GeneratorExp elt [⟨tg, iter, [], 0⟩] scope gpos) 0 (.ref it) .none cenv).onRaise (leaving cenv)) [] s
    rw [compTurn_gen, Sem.onRaise_eq_wrap]
    refine seg_bind_wrap (wpAny_standAt ?_)
    refine seg_bind_wrap (wpAny_mono (T.item (gctx X (A2.over (gcodeT elt iter tg scope gpos it cenv) []) s4 H4 cenv fp s.gens) rfl rfl rfl rfl i [(a, og)] s _ H _ G.inv (sf hf) ht hgo) (fun r s1 h1 => ?_) fun _ _ z => z)
    obtain ⟨u, rfl, h1⟩ := h1
    refine seg_bind_wrap (wpAny_mono h1 (fun _ s2 h2 => ?_) fun _ _ z => z)
    obtain ⟨y, H2, I2, r2, y2, tn2, hf2⟩ := h2
    have I2p := I2.pinned (sf hf2) (fun b hb => T.obj _ _ tn2 b hb)
    refine seg_bind_wrap (wpAny_mono (hg s.gens _ s2 _ H2 y u _ I2p r2 (hst y H2 y2)) (fun _ s3 h3 => ?_) fun _ _ z => z.elim)
    obtain ⟨σ3, H3, I3, hw, q3⟩ := h3
    refine seg_bind_wrap (wpAny_tests_nil ?_)
    simp only [if_true]
    have hy : ∀ v, yieldOut cenv v = yieldValue v := fun v => by simp only [yieldOut, hco, Bool.false_eq_true, if_false]
    simp only [hy]
    rw [Sem.bind_eq_wrap', Sem.bind_eq_wrap', Sem.wrap_wrap, Sem.wrap_wrap]
    refine seg_wrap (wpAny_mono (he s.gens _ s3 σ3 H3 _ I3 q3) (fun v s5 h5 => ?_) fun _ _ z => z.elim)
    obtain ⟨z, H5, I5, r5, q5⟩ := h5
    have pin5 : ∀ c ∈ fp, ∀ o, s2.heap.get? c = some o → s5.heap.get? c = some o ∧ H5 c = none := fun c hc o e => by
      have z := I5.pin (c, o) (by show (c, o) ∈ [] ++ ([(a, og)] ++ pinsAt fp s2.heap); exact List.mem_append_right _ (List.mem_append_right _ (mem_pinsAt hc e)))
      exact ⟨z.1, z.2.1⟩
    have tn5 : tn (i + 1) s5.heap := T.keep _ _ _ tn2 fun c hc o e => (pin5 c hc o e).1
    have hf5 : ∀ c ∈ fp, H5 c = none := fun c hc => by
      obtain ⟨o, e, _⟩ := T.obj _ _ tn2 c hc
      exact (pin5 c hc o e).2
    have gk5 := G.gk.trans I5.bare
    have I6 : Inv (gctx X (A2.over (gcodeT elt iter tg scope gpos it cenv) []) s4 H4 cenv fp s.gens) [(a, og)] (wipe σ vs) H5 s5 := by
      refine I5.unpinned.weak ?_ fun j w e => ?_
      · rw [← hw, wipe_length]
      · rw [← hw] at e
        exact (wipe_some e).1
    have G6 : GH X (A2.over (gcodeT elt iter tg scope gpos it cenv) []) s4 H4 cenv fp a og (wipe σ vs) H5 s5 := ⟨I6.regen rfl rfl gk5.self, gk5⟩
    refine seg_at (seg_yield rfl rfl rfl ⟨i, H5, z, by omega, by omega, G6, tn5, hf5, I5.bare.2 g _ hr, r5, q5, fun s'' H'' G'' tn'' hf'' p'' hr'' => ?_⟩)
    exact seg_again rfl (ih (i + 1) s'' s'' H'' (by omega) G'' tn'' hf'' p'' hr'')
theorem seg_startT (T : Turn X.prog X.w X.K tg J fp it tn) (s0 s : Shared) (ht : tn 0 s.heap) {k : Nat} {R : GenEnd} {Y : Protocol}
    (loop : Seg (model X.prog X.w) A2 R Y k s0 (gcodeT elt iter tg scope gpos it cenv) ((model X.prog X.w).den (gcodeT elt iter tg scope gpos it cenv)) [] s) :
    Seg (model X.prog X.w) A2 R Y k s0 (.compStart (.GeneratorExp elt [⟨tg, iter, [], 0⟩] scope gpos) 0 (.ref it) .none cenv)
      ((model X.prog X.w).den (.compStart (.GeneratorExp elt [⟨tg, iter, [], 0⟩] scope gpos) 0 (.ref it) .none cenv)) [] s := by
  show Seg _ A2 _ _ _ s0 _ ((compStart (.GeneratorExp elt [⟨tg, iter, [], 0⟩] scope gpos) 0 (.ref it) .none cenv).onRaise (leaving cenv)) [] s
  unfold compStart
  rw [Sem.onRaise_eq_wrap]
  show Seg _ A2 _ _ _ s0 _ ((ask >>= _).wrap _ _ _ _) [] s
  refine seg_bind_wrap (wpAny_askSetting ?_)
  split
  · exact seg_again rfl loop
  · refine seg_bind_wrap (wpAny_rule ?_)
    show Seg _ A2 _ _ _ s0 _ ((standAt iter.pos >>= _).wrap _ _ _ _) [] s
    exact seg_bind_wrap (wpAny_standAt (seg_bind_wrap (T.self _ 0 s _ _ ht (seg_again rfl loop))))
/-- the items are gathered -/
theorem tup_loop {A : Around} {R : Result → Shared → Prop} (T : Turn X.prog X.w X.K tg J fp it tn) (hh : A.handled = none) (hroom : A.depth < recursionLimit) (hgs0 : s4.gens.size ≤ g) (hog : og.cls = .type "generator") (hod : ∃ nm qn, og.data = .fields #[.int g 0, nm, qn]) (hos : og.slots = #[])
    (fin : ∀ H s, GH X (A.in1.in1.over (gcodeT elt iter tg scope gpos it cenv) []) s4 H4 cenv fp a og (wipe σ vs) H s → Pv n H → R (.ok (.ret (.ref S))) s) :
    ∀ (k i : Nat) (s : Shared) (H : Hp) (gs : GenState), i + k = n → GH X (A.in1.in1.over (gcodeT elt iter tg scope gpos it cenv) []) s4 H4 cenv fp a og (wipe σ vs) H s → Pv i H → s.gens[g]? = some gs →
      (∀ s'' : Shared, s''.heap = s.heap → s''.os = s.os → GensOk s4.gens s''.gens → s''.gens[g]? = some .running →
        gs.Goes (model X.prog X.w) A.in1.in1 (fun m s₀ r s₁ => r = .ok .next ∧ gend X (A.in1.in1.over (gcodeT elt iter tg scope gpos it cenv) []) s4 H4 cenv fp a og (wipe σ vs) g n Pv m s₀ s₁)
          (gprotoT X (A.in1.in1.over (gcodeT elt iter tg scope gpos it cenv) []) s4 H4 cenv fp a og (wipe σ vs) g S tn n Pv) (k + 1) (.send .none) s'') →
      codeAny (model X.prog X.w) A (.builtin "list.extend.loop" ⟨[.ref S, .ref a, .ref S], []⟩) R s := by
  intro k
  induction k with
  | zero =>
    intro i s H gs hk G p hgs hgo
    have hin : i = n := by omega
    subst hin
    obtain ⟨nm, qn, hod'⟩ := hod
    have hig : s.heap.IsGen a g := ⟨og, nm, qn, (G.inv.pin (a, og) (by simp)).1, hog, hod', hos⟩
    refine codeAny_builtin F.entry_extend_loop ?_
    rw [Around.under_plainId F.plain_extend_loop _]
    show wpAny _ A.in1 (pyNext (.ref a) >>= _) _ _ s
    refine wpAny_bind (wpAny_pyNext_genexpQ (A := A.in1) hh G.inv.nolimit hroom hig hgs (hgo _ rfl rfl (gens_set G.gk hgs0 rfl) (setGen_self hgs)) (fun v s1 gs' hb hv => ?_) (fun s1 hp h' hk => ?_))
    · obtain ⟨j, _, _, hj, hj2, _⟩ := hv
      omega
    · obtain ⟨_, H1, G1, p1, hr1⟩ := hp
      refine wpAny_pure ?_
      have gk2 : GensOk s4.gens ({ s1.setGen g .finished with heap := h' } : Shared).gens := gens_set G1.gk hgs0 rfl
      have I2 : Inv (gctx X (A.in1.in1.over (gcodeT elt iter tg scope gpos it cenv) []) s4 H4 cenv fp ({ s1.setGen g .finished with heap := h' } : Shared).gens) [(a, og)] (wipe σ vs) H1 { s1.setGen g .finished with heap := h' } :=
        (Inv.regen (s' := s1.setGen g .finished) G1.inv rfl rfl gk2.self).kept (t' := s1.toks) hk
      exact fin H1 _ ⟨I2, gk2⟩ p1
  | succ k ih =>
    intro i s H gs hk G p hgs hgo
    obtain ⟨nm, qn, hod'⟩ := id hod
    have hig : s.heap.IsGen a g := ⟨og, nm, qn, (G.inv.pin (a, og) (by simp)).1, hog, hod', hos⟩
    refine codeAny_builtin F.entry_extend_loop ?_
    rw [Around.under_plainId F.plain_extend_loop _]
    show wpAny _ A.in1 (pyNext (.ref a) >>= _) _ _ s
    refine wpAny_bind (wpAny_pyNext_genexpQ (A := A.in1) hh G.inv.nolimit hroom hig hgs (hgo _ rfl rfl (gens_set G.gk hgs0 rfl) (setGen_self hgs)) (fun v s1 gs' hb hv => ?_) (fun s1 hp h' hk => ?_))
    · obtain ⟨j, H1, z, hj, hj2, G1, tn1, hf1, hr1, rz, ⟨acc, hS1, hl1, p1⟩, hkap⟩ := hv
      have hij : j = i := by omega
      subst hij
      have gk2 : GensOk s4.gens (s1.setGen g gs').gens := gens_set G1.gk hgs0 hb
      have G2 : GH X (A.in1.in1.over (gcodeT elt iter tg scope gpos it cenv) []) s4 H4 cenv fp a og (wipe σ vs) H1 (s1.setGen g gs') := G1.at rfl rfl gk2
      obtain ⟨hz, its, c, hv1, hlen, e1⟩ := G2.inv.lstM hS1
      show wpAny _ A.in1 (updateSeq S (·.push v) >>= _) _ _ _
      refine wpAny_bind ?_
      have szl : its.toArray.size < sizeLine := by rw [List.size_toArray]; omega
      refine wpAny_updateSeq e1 rfl ?_ (by omega) (by show (its.toArray.push v).size ≤ sizeLine + 1; rw [Array.size_push]; omega)
      have I3 := G2.inv.lset (t' := (s1.setGen g gs').toks) (its' := its ++ [v]) (ys := acc ++ [z]) (f := fun x => x.push v) hS1 e1 (by simp) (hv1.append (.cons rz .nil)) (by rw [List.length_append]; simp; omega)
      have G3 : GH X (A.in1.in1.over (gcodeT elt iter tg scope gpos it cenv) []) s4 H4 cenv fp a og (wipe σ vs) (upd H1 S (.lst (acc ++ [z]))) { s1.setGen g gs' with heap := (s1.setGen g gs').heap.update S (Obj.mapSeq (·.push v)) } := ⟨I3, gk2⟩
      have neS : ∀ c ∈ fp, c ≠ S := fun c hc e => by have := hf1 c hc; rw [e, hS1] at this; cases this
      refine wpAny_pure ⟨plainId_quiet F.plain_extend_loop _, ih (j + 1) _ _ gs' (by omega) G3 p1 (setGen_self hr1) fun s'' e1 e2 e3 e4 => ?_⟩
      refine hkap s'' _ (G3.at e1 e2 e3) (T.keep _ _ _ tn1 fun c hc o e => ?_) (fun c hc => by rw [upd_ne (neS c hc)]; exact hf1 c hc) p1 e4
      rw [e1]
      exact (Heap.get?_update_other _ _ (Ne.symm (neS c hc))).trans e
    · obtain ⟨h0, _⟩ := hp
      omega
end
end L2
set_option Elab.async false
set_option linter.all false
set_option maxRecDepth 100000
set_option maxHeartbeats 4000000
/-! zip over two things that are lists or tuples each (b: it is a list) -/
namespace L2
open PySem PySem.Spec PyProof.Rows
def SIt (b : Bool) (h : Heap) (it l : Addr) (k : Nat) : Prop := match b with | true => h.IsListIter it l k | false => h.IsTupleIter it l k
def SSq (b : Bool) (h : Heap) (l : Addr) (xs : Array Value) : Prop := match b with | true => h.IsList l xs | false => h.IsTuple l xs
theorem SIt.extBut {b : Bool} {h h' : Heap} {i l c : Addr} {k : Nat} (x : SIt b h i l k) (e : Heap.ExtBut c h h') (n : i ≠ c) : SIt b h' i l k := by
  cases b with
  | true => exact Heap.IsListIter.extBut x e n
  | false => exact Heap.IsTupleIter.extBut x e n
theorem SIt.at {b : Bool} {h h' : Heap} {i l : Addr} {k : Nat} (x : SIt b h i l k) (e : ∀ o, h.get? i = some o → h'.get? i = some o) : SIt b h' i l k := by
  cases b with
  | true => exact Heap.IsListIter.at x e
  | false => exact Heap.IsTupleIter.at x e
theorem SSq.extBut {b : Bool} {h h' : Heap} {l c : Addr} {xs : Array Value} (x : SSq b h l xs) (e : Heap.ExtBut c h h') (n : l ≠ c) : SSq b h' l xs := by
  cases b with
  | true => exact Heap.IsList.extBut x e n
  | false => exact Heap.IsTuple.extBut x e n
theorem SIt.get {b : Bool} {h : Heap} {i l : Addr} {k : Nat} (x : SIt b h i l k) : ∃ o vs, h.get? i = some o ∧ o.data = .fields vs := by
  cases b with
  | true => obtain ⟨o, e, _, d⟩ := x; exact ⟨o, _, e, d⟩
  | false => obtain ⟨o, e, _, d⟩ := x; exact ⟨o, _, e, d⟩
section
variable {prog : Program} {w : World} {A : Around} {E : Value → Shared → Prop} {s : Shared}
theorem tup_nx {it t : Addr} {i : Nat} {items : Array Value} {x : Value} {Q : Value → Shared → Prop} (hit : s.heap.IsTupleIter it t i) (ht : s.heap.IsTuple t items) (hx : items[i]? = some x)
    (hQ : ∀ h', h'.IsTupleIter it t (i + 1) → Heap.SameBut it s.heap h' → Q x { s with heap := h' }) : wpAny (model prog w) A (Builtin.SmallTypes.nextOf (.ref it)) Q E s := by
  obtain ⟨o, ho, hc, hd⟩ := id hit
  obtain ⟨ol, hol, _, nl, hdl⟩ := ht
  unfold Builtin.SmallTypes.nextOf
  refine wpAny_bind (wpAny_callSpecial?_slot (name := Str.ofString "__next__") hit.typeIs F.slot_tuple_iterator_next (wpAny_call_entry F.slot_tuple_iterator_next hit.typeIs F.entry_tuple_iterator_next ?_ (F.args_tuple_iterator_next_1 _)))
  show wpAny _ _ (field (.ref it) 0 >>= _) _ _ s
  refine wpAny_bind (wpAny_field ho hd (x := .ref t) rfl ?_)
  rw [if_neg (show ¬ ((Value.ref t == Value.none) = true) from Bool.false_ne_true)]
  show wpAny _ _ (field (.ref it) 1 >>= _) _ _ s
  refine wpAny_bind (wpAny_field ho hd (x := .int i 0) rfl ?_)
  show wpAny _ _ (seqItems? (.ref t) >>= _) _ _ s
  refine wpAny_bind (wpAny_seqItems hol hdl ?_)
  simp only [Int.toNat_natCast, hx]
  refine wpAny_bind (wpAny_setField ho hd (by simp) (wpAny_pure ⟨x, rfl, wpAny_pure (hQ _ ⟨_, Heap.get?_update_self _ ho (Obj.isFreed_of_fields (Obj.data_mapFields hd _)), (Obj.cls_mapFields ..).trans hc, by rw [Obj.data_mapFields hd]; simp [rawInt]⟩ (Heap.SameBut.update ..))⟩))
theorem tup_nd {it t : Addr} {i : Nat} {items : Array Value} {Q : Value → Shared → Prop} (hh : A.handled = none) (hit : s.heap.IsTupleIter it t i) (ht : s.heap.IsTuple t items) (hx : items[i]? = none)
    (hE : ∀ h' e, Heap.ExtBut it s.heap h' → (∃ o, h'.get? e = some o ∧ o.cls = .type "StopIteration") → E (.ref e) { s with heap := h' }) : wpAny (model prog w) A (Builtin.SmallTypes.nextOf (.ref it)) Q E s := by
  obtain ⟨o, ho, hc, hd⟩ := id hit
  obtain ⟨ol, hol, _, nl, hdl⟩ := ht
  unfold Builtin.SmallTypes.nextOf
  refine wpAny_bind (wpAny_callSpecial?_slot (name := Str.ofString "__next__") hit.typeIs F.slot_tuple_iterator_next (wpAny_call_entry F.slot_tuple_iterator_next hit.typeIs F.entry_tuple_iterator_next ?_ (F.args_tuple_iterator_next_1 _)))
  show wpAny _ _ (field (.ref it) 0 >>= _) _ _ s
  refine wpAny_bind (wpAny_field ho hd (x := .ref t) rfl ?_)
  rw [if_neg (show ¬ ((Value.ref t == Value.none) = true) from Bool.false_ne_true)]
  show wpAny _ _ (field (.ref it) 1 >>= _) _ _ s
  refine wpAny_bind (wpAny_field ho hd (x := .int i 0) rfl ?_)
  show wpAny _ _ (seqItems? (.ref t) >>= _) _ _ s
  refine wpAny_bind (wpAny_seqItems hol hdl ?_)
  simp only [Int.toNat_natCast, hx]
  refine wpAny_bind (wpAny_rule (wpAny_bind (wpAny_setField ho hd (by simp) ?_)))
  show wpAny _ _ (newExc (.type "StopIteration") [] >>= _) _ _ _
  refine wpAny_bind ?_
  simp only [newExc, newTuple]
  refine wpAny_bind (wpAny_newObj_type ?_ (by size_fits))
  refine wpAny_bind (m := firstArgMember _ _) (wpAny_of_eq (a := Value.none) (by first | rfl | (simp only [firstArgMember]; rfl)) ?_)
  refine wpAny_newObj_type ?_ (by size_fits)
  simp only [raiseNew]
  refine wpAny_bind (wpAny_handled ?_)
  rw [show A.in1.handled = none from hh]
  refine wpAny_bind (wpAny_pure (wpAny_throw ?_))
  exact hE _ _ (((Heap.SameBut.update ..).extBut.push _).push _) ⟨_, Heap.get?_push_size _ rfl, rfl⟩
theorem sit_item {b : Bool} {it l : Addr} {k : Nat} {xs : Array Value} {x : Value} {Q : Value → Shared → Prop} (hit : SIt b s.heap it l k) (hl : SSq b s.heap l xs) (hx : xs[k]? = some x)
    (hQ : ∀ h', SIt b h' it l (k + 1) → Heap.SameBut it s.heap h' → Q x { s with heap := h' }) : wpAny (model prog w) A (Builtin.SmallTypes.nextOf (.ref it)) Q E s := by
  cases b with
  | true => exact wpAny_nextOf_list_item hit hl hx hQ
  | false => exact tup_nx hit hl hx hQ
theorem sit_end {b : Bool} {it l : Addr} {k : Nat} {xs : Array Value} {Q : Value → Shared → Prop} (hh : A.handled = none) (hit : SIt b s.heap it l k) (hl : SSq b s.heap l xs) (hx : xs[k]? = none)
    (hE : ∀ h' e, Heap.ExtBut it s.heap h' → (∃ o, h'.get? e = some o ∧ o.cls = .type "StopIteration") → E (.ref e) { s with heap := h' }) : wpAny (model prog w) A (Builtin.SmallTypes.nextOf (.ref it)) Q E s := by
  cases b with
  | true => exact wpAny_nextOf_list_end hh hit hl hx hE
  | false => exact tup_nd hh hit hl hx hE
theorem zipS_item {b1 b2 : Bool} {z TI TO i1 i2 l1 l2 : Addr} {k1 k2 : Nat} {xs ys : Array Value} {x y a b : Value} {Q : Value → Shared → Prop} (D : ZipApart z TI TO i1 i2 l1 l2)
    (hz : IsZip s.heap z TI TO .none) (hTI : IsPair s.heap TI (.ref i1) (.ref i2)) (hTO : IsPair s.heap TO a b)
    (h1 : SIt b1 s.heap i1 l1 k1) (h2 : SIt b2 s.heap i2 l2 k2) (hl1 : SSq b1 s.heap l1 xs) (hl2 : SSq b2 s.heap l2 ys) (hx : xs[k1]? = some x) (hy : ys[k2]? = some y)
    (hQ : ∀ h', IsZip h' z TI TO (rawInt s.heap.objs.size) → IsPair h' TO x y → SIt b1 h' i1 l1 (k1 + 1) → SIt b2 h' i2 l2 (k2 + 1) → IsPair h' s.heap.objs.size x y → h'.objs.size = s.heap.objs.size + 1 →
      (∀ c o, c ≠ z → c ≠ TO → c ≠ i1 → c ≠ i2 → s.heap.get? c = some o → h'.get? c = some o) → Q (.ref s.heap.objs.size) { s with heap := h' }) :
    wpAny (model prog w) A (Builtin.«zip.__next__» ⟨[.ref z], []⟩) (fun fin s' => ∃ v, fin = .done (.ret v) ∧ Q v s') E s := by
  show wpAny _ _ (field (.ref z) 2 >>= _) _ _ _
  refine wpAny_bind (wpAny_field hz rfl (x := .bool false) rfl ?_)
  show wpAny _ _ (field (.ref z) 3 >>= _) _ _ _
  refine wpAny_bind (wpAny_field hz rfl (x := .ref TI) rfl ?_)
  refine wpAny_bind (wpAny_seqItems hTI rfl ?_)
  show wpAny _ _ (Builtin.SmallTypes.ownedTupleIsFree (.ref z) >>= _) _ _ _
  refine wpAny_bind ?_
  unfold Builtin.SmallTypes.ownedTupleIsFree
  refine wpAny_bind (wpAny_field hz rfl (x := .none) rfl (wpAny_pure ?_))
  simp only [if_true]
  refine wpAny_bind (wpAny_rule ?_)
  refine wpAny_bind (wpAny_field hz rfl (x := .ref TO) rfl ?_)
  refine wpAny_bind (wpAny_setField_rec hz (by simp) fun h₁ hz₁ hs₁ => ?_)
  replace hz₁ : IsZip h₁ z TI TO .ellipsis := hz₁
  refine wpAny_bind ?_
  simp only [List.zipIdx_cons, List.zipIdx_nil, List.forIn_cons, List.forIn_nil]

  refine wpAny_bind (wpAny_bind (wpAny_onRaise ?_))
  show wpAny _ _ (Builtin.SmallTypes.nextOf (.ref i1) >>= _) _ _ _
  refine wpAny_bind (sit_item (h1.extBut hs₁.extBut D.i1z) (hl1.extBut hs₁.extBut D.l1z) hx fun h₂ h1₂ hs₂ => wpAny_pure ?_)
  have hTO₂ : IsPair h₂ TO a b := hs₂.extBut _ _ D.TOi1 (hs₁.extBut _ _ D.TOz hTO)
  refine wpAny_bind (wpAny_seqItems hTO₂ rfl ?_)
  refine wpAny_bind (wpAny_updateSeq_pair hTO₂ fun h₃ hTO₃ hs₃ => ?_)
  replace hTO₃ : IsPair h₃ TO x b := hTO₃
  refine wpAny_bind (wpAny_letGo (wpAny_pure ?_))

  refine wpAny_bind (wpAny_bind (wpAny_onRaise ?_))
  show wpAny _ _ (Builtin.SmallTypes.nextOf (.ref i2) >>= _) _ _ _
  refine wpAny_bind (sit_item (((h2.extBut hs₁.extBut D.i2z).extBut hs₂.extBut D.i12.symm).extBut hs₃.extBut D.TOi2.symm)
    (((hl2.extBut hs₁.extBut D.l2z).extBut hs₂.extBut D.l2i1).extBut hs₃.extBut D.l2TO) hy fun h₄ h2₄ hs₄ => wpAny_pure ?_)
  have hTO₄ : IsPair h₄ TO x b := hs₄.extBut _ _ D.TOi2 hTO₃
  refine wpAny_bind (wpAny_seqItems hTO₄ rfl ?_)
  refine wpAny_bind (wpAny_updateSeq_pair hTO₄ fun h₅ hTO₅ hs₅ => ?_)
  replace hTO₅ : IsPair h₅ TO x y := hTO₅
  refine wpAny_bind (wpAny_letGo (wpAny_pure (wpAny_pure ?_)))

  refine wpAny_bind (wpAny_seqItems hTO₅ rfl ?_)
  refine wpAny_bind (wpAny_newTuple ?_)
  have hsz : h₅.objs.size = s.heap.objs.size := by rw [hs₅.1, hs₄.1, hs₃.1, hs₂.1, hs₁.1]
  have hz₅ : IsZip h₅ z TI TO .ellipsis := hs₅.extBut _ _ D.TOz.symm (hs₄.extBut _ _ D.i2z.symm (hs₃.extBut _ _ D.TOz.symm (hs₂.extBut _ _ D.i1z.symm hz₁)))
  have hk₅ : ∀ c o, c ≠ z → c ≠ TO → c ≠ i1 → c ≠ i2 → s.heap.get? c = some o → h₅.get? c = some o := fun c o c1 c2 c3 c4 e =>
    hs₅.extBut _ _ c2 (hs₄.extBut _ _ c4 (hs₃.extBut _ _ c2 (hs₂.extBut _ _ c3 (hs₁.extBut _ _ c1 e))))
  have h1₅ : SIt b1 h₅ i1 l1 (k1 + 1) := ((h1₂.extBut hs₃.extBut D.TOi1.symm).extBut hs₄.extBut D.i12).extBut hs₅.extBut D.TOi1.symm
  have h2₅ : SIt b2 h₅ i2 l2 (k2 + 1) := h2₄.extBut hs₅.extBut D.TOi2.symm
  have hzlt : z < h₅.objs.size := Heap.lt_size hz₅
  have hTOlt : TO < h₅.objs.size := Heap.lt_size hTO₅
  have hi1lt : i1 < h₅.objs.size := by obtain ⟨_, _, e, _⟩ := h1₅.get; exact Heap.lt_size e
  have hi2lt : i2 < h₅.objs.size := by obtain ⟨_, _, e, _⟩ := h2₅.get; exact Heap.lt_size e
  show wpAny _ _ (Builtin.SmallTypes.ownedTupleHandOut (.ref z) (.ref h₅.objs.size) >>= _) _ _ _
  refine wpAny_bind ?_
  unfold Builtin.SmallTypes.ownedTupleHandOut
  have hz₆ : IsZip (h₅.push { cls := .type "tuple", data := .seq #[x, y] }) z TI TO .ellipsis := Heap.get?_push_of_some _ hz₅
  refine wpAny_bind (wpAny_setField_rec hz₆ (by simp) fun h₇ hz₇ hs₇ => ?_)
  replace hz₇ : IsZip h₇ z TI TO (rawInt h₅.objs.size) := hz₇
  refine wpAny_setField_rec hz₇ (by simp) fun h₈ hz₈ hs₈ => ?_
  replace hz₈ : IsZip h₈ z TI TO (rawInt h₅.objs.size) := hz₈
  have up : ∀ c o, c ≠ z → h₅.get? c = some o → h₈.get? c = some o := fun c o c1 e => hs₈.extBut _ _ c1 (hs₇.extBut _ _ c1 (Heap.get?_push_of_some _ e))
  have hT₈ : IsPair h₈ h₅.objs.size x y := hs₈.extBut _ _ (Nat.ne_of_gt hzlt) (hs₇.extBut _ _ (Nat.ne_of_gt hzlt) (Heap.get?_push_size _ rfl))
  have hz8 : h₈.objs.size = h₅.objs.size + 1 := by rw [hs₈.1, hs₇.1, Heap.size_push]
  rw [hsz] at hz₈ hT₈ hz8
  refine wpAny_pure ⟨_, rfl, ?_⟩
  show Q (.ref h₅.objs.size) _
  rw [hsz]
  exact hQ h₈ hz₈ (up _ _ D.TOz hTO₅) (h1₅.at fun o e => up _ o D.i1z e) (h2₅.at fun o e => up _ o D.i2z e) hT₈ hz8 fun c o c1 c2 c3 c4 e => up c o c1 (hk₅ c o c1 c2 c3 c4 e)
theorem zipS_end {b1 b2 : Bool} {z TI TO i1 i2 l1 l2 : Addr} {k1 k2 : Nat} {xs ys : Array Value} {a b : Value} {Q : Fin → Shared → Prop} (hh : A.handled = none) (D : ZipApart z TI TO i1 i2 l1 l2)
    (hz : IsZip s.heap z TI TO .none) (hTI : IsPair s.heap TI (.ref i1) (.ref i2)) (hTO : IsPair s.heap TO a b)
    (h1 : SIt b1 s.heap i1 l1 k1) (h2 : SIt b2 s.heap i2 l2 k2) (hl1 : SSq b1 s.heap l1 xs) (hl2 : SSq b2 s.heap l2 ys) (hend : xs[k1]? = none ∨ ys[k2]? = none)
    (hE : ∀ h' e, (∀ c o, c ≠ z → c ≠ TO → c ≠ i1 → c ≠ i2 → s.heap.get? c = some o → h'.get? c = some o) → (∃ o, h'.get? e = some o ∧ o.cls = .type "StopIteration") → E (.ref e) { s with heap := h' }) :
    wpAny (model prog w) A (Builtin.«zip.__next__» ⟨[.ref z], []⟩) Q E s := by
  show wpAny _ _ (field (.ref z) 2 >>= _) _ _ _
  refine wpAny_bind (wpAny_field hz rfl (x := .bool false) rfl ?_)
  show wpAny _ _ (field (.ref z) 3 >>= _) _ _ _
  refine wpAny_bind (wpAny_field hz rfl (x := .ref TI) rfl ?_)
  refine wpAny_bind (wpAny_seqItems hTI rfl ?_)
  show wpAny _ _ (Builtin.SmallTypes.ownedTupleIsFree (.ref z) >>= _) _ _ _
  refine wpAny_bind ?_
  unfold Builtin.SmallTypes.ownedTupleIsFree
  refine wpAny_bind (wpAny_field hz rfl (x := .none) rfl (wpAny_pure ?_))
  simp only [if_true]
  refine wpAny_bind (wpAny_rule ?_)
  refine wpAny_bind (wpAny_field hz rfl (x := .ref TO) rfl ?_)
  refine wpAny_bind (wpAny_setField_rec hz (by simp) fun h₁ hz₁ hs₁ => ?_)
  replace hz₁ : IsZip h₁ z TI TO .ellipsis := hz₁
  refine wpAny_bind ?_
  simp only [List.zipIdx_cons, List.zipIdx_nil, List.forIn_cons, List.forIn_nil]
  refine wpAny_bind (wpAny_bind (wpAny_onRaise ?_))
  show wpAny _ _ (Builtin.SmallTypes.nextOf (.ref i1) >>= _) _ _ _
  cases hx : xs[k1]? with
  | none =>
    refine wpAny_bind (sit_end hh (h1.extBut hs₁.extBut D.i1z) (hl1.extBut hs₁.extBut D.l1z) hx fun h₂ e hs₂ he => ?_)
    obtain ⟨oe, hoe, hce⟩ := he
    have hz₂ : IsZip h₂ z TI TO .ellipsis := hs₂ _ _ D.i1z.symm hz₁
    have hez : e ≠ z := fun x => by subst x; rw [hz₂] at hoe; cases hoe; simp at hce
    refine wpAny_setField_rec hz₂ (by simp) fun h₃ _ hs₃ => hE h₃ e (fun c o c1 _ c3 _ x => hs₃.extBut _ _ c1 (hs₂ _ _ c3 (hs₁.extBut _ _ c1 x))) ⟨oe, hs₃.extBut _ _ hez hoe, hce⟩
  | some x =>
    have hy : ys[k2]? = none := by rcases hend with h | h; rw [hx] at h; cases h; exact h
    refine wpAny_bind (sit_item (h1.extBut hs₁.extBut D.i1z) (hl1.extBut hs₁.extBut D.l1z) hx fun h₂ h1₂ hs₂ => wpAny_pure ?_)
    have hTO₂ : IsPair h₂ TO a b := hs₂.extBut _ _ D.TOi1 (hs₁.extBut _ _ D.TOz hTO)
    refine wpAny_bind (wpAny_seqItems hTO₂ rfl ?_)
    refine wpAny_bind (wpAny_updateSeq_pair hTO₂ fun h₃ hTO₃ hs₃ => ?_)
    refine wpAny_bind (wpAny_letGo (wpAny_pure ?_))
    refine wpAny_bind (wpAny_bind (wpAny_onRaise ?_))
    show wpAny _ _ (Builtin.SmallTypes.nextOf (.ref i2) >>= _) _ _ _
    refine wpAny_bind (sit_end hh (((h2.extBut hs₁.extBut D.i2z).extBut hs₂.extBut D.i12.symm).extBut hs₃.extBut D.TOi2.symm)
      (((hl2.extBut hs₁.extBut D.l2z).extBut hs₂.extBut D.l2i1).extBut hs₃.extBut D.l2TO) hy fun h₄ e hs₄ he => ?_)
    obtain ⟨oe, hoe, hce⟩ := he
    have hz₄ : IsZip h₄ z TI TO .ellipsis := hs₄ _ _ D.i2z.symm (hs₃.extBut _ _ D.TOz.symm (hs₂.extBut _ _ D.i1z.symm hz₁))
    have hez : e ≠ z := fun x => by subst x; rw [hz₄] at hoe; cases hoe; simp at hce
    refine wpAny_setField_rec hz₄ (by simp) fun h₅ _ hs₅ => hE h₅ e (fun c o c1 c2 c3 c4 x => hs₅.extBut _ _ c1 (hs₄ _ _ c4 (hs₃.extBut _ _ c2 (hs₂.extBut _ _ c3 (hs₁.extBut _ _ c1 x))))) ⟨oe, hs₅.extBut _ _ hez hoe, hce⟩
theorem nextS_item {b1 b2 : Bool} {z TI TO i1 i2 l1 l2 : Addr} {k1 k2 : Nat} {xs ys : Array Value} {x y a b : Value} {Q : Option Value → Shared → Prop} (D : ZipApart z TI TO i1 i2 l1 l2)
    (hz : IsZip s.heap z TI TO .none) (hTI : IsPair s.heap TI (.ref i1) (.ref i2)) (hTO : IsPair s.heap TO a b)
    (h1 : SIt b1 s.heap i1 l1 k1) (h2 : SIt b2 s.heap i2 l2 k2) (hl1 : SSq b1 s.heap l1 xs) (hl2 : SSq b2 s.heap l2 ys) (hx : xs[k1]? = some x) (hy : ys[k2]? = some y)
    (hQ : ∀ h', IsZip h' z TI TO (rawInt s.heap.objs.size) → IsPair h' TO x y → SIt b1 h' i1 l1 (k1 + 1) → SIt b2 h' i2 l2 (k2 + 1) → IsPair h' s.heap.objs.size x y → h'.objs.size = s.heap.objs.size + 1 →
      (∀ c o, c ≠ z → c ≠ TO → c ≠ i1 → c ≠ i2 → s.heap.get? c = some o → h'.get? c = some o) → Q (some (.ref s.heap.objs.size)) { s with heap := h' }) :
    wpAny (model prog w) A (pyNext (.ref z)) Q E s := by
  have hT : s.TypeIs (.ref z) "zip" := ⟨_, hz, rfl⟩
  unfold pyNext
  exact wpAny_bind (wpAny_attempt (wpAny_callSpecial?_slot (name := Str.ofString "__next__") hT F.slot_zip_next
    (wpAny_call_entry F.slot_zip_next hT F.entry_zip_next
      (zipS_item D hz hTI hTO h1 h2 hl1 hl2 hx hy fun h' a1 a2 a3 a4 a5 a6 a7 => wpAny_pure (hQ h' a1 a2 a3 a4 a5 a6 a7)) (F.args_zip_next_1 _))))
theorem nextS_end {b1 b2 : Bool} {z TI TO i1 i2 l1 l2 : Addr} {k1 k2 : Nat} {xs ys : Array Value} {a b : Value} {Q : Option Value → Shared → Prop} (hh : A.handled = none) (D : ZipApart z TI TO i1 i2 l1 l2)
    (hz : IsZip s.heap z TI TO .none) (hTI : IsPair s.heap TI (.ref i1) (.ref i2)) (hTO : IsPair s.heap TO a b)
    (h1 : SIt b1 s.heap i1 l1 k1) (h2 : SIt b2 s.heap i2 l2 k2) (hl1 : SSq b1 s.heap l1 xs) (hl2 : SSq b2 s.heap l2 ys) (hend : xs[k1]? = none ∨ ys[k2]? = none)
    (hQ : ∀ h', (∀ c o, c ≠ z → c ≠ TO → c ≠ i1 → c ≠ i2 → s.heap.get? c = some o → h'.get? c = some o) → Q none { s with heap := h' }) : wpAny (model prog w) A (pyNext (.ref z)) Q E s := by
  have hT : s.TypeIs (.ref z) "zip" := ⟨_, hz, rfl⟩
  unfold pyNext
  refine wpAny_bind (wpAny_attempt (wpAny_callSpecial?_slot (name := Str.ofString "__next__") hT F.slot_zip_next
    (wpAny_call_entry F.slot_zip_next hT F.entry_zip_next (zipS_end hh D hz hTI hTO h1 h2 hl1 hl2 hend fun h' e hk he => ?_) (F.args_zip_next_1 _))))
  obtain ⟨o, ho, hc⟩ := he
  refine wpAny_bind (wpAny_isInstance (T := "StopIteration") (b := true) ⟨o, ho, hc⟩ isSubtype_stop ?_)
  exact wpAny_pure (hQ _ hk)

theorem callS_zip {b1 b2 : Bool} {l1 l2 : Addr} {xs ys : Array Value} {Q : Value → Shared → Prop} (hl1 : SSq b1 s.heap l1 xs) (hl2 : SSq b2 s.heap l2 ys)
    (h : ∀ h', IsZip h' (s.heap.objs.size + 4) (s.heap.objs.size + 2) (s.heap.objs.size + 3) .none → IsPair h' (s.heap.objs.size + 2) (.ref s.heap.objs.size) (.ref (s.heap.objs.size + 1)) → IsPair h' (s.heap.objs.size + 3) .none .none →
      SIt b1 h' s.heap.objs.size l1 0 → SIt b2 h' (s.heap.objs.size + 1) l2 0 → h'.objs.size = s.heap.objs.size + 5 → (∀ c o, s.heap.get? c = some o → h'.get? c = some o) → Q (.ref (s.heap.objs.size + 4)) { s with heap := h' }) :
    wpAny (model prog w) A (call (.type "zip") [.ref l1, .ref l2]) Q E s := by
  refine callType_new F.called_zip (by decide) (F.typeCall_zip_2 _ _) (F.newCall_zip_2 _ _) (fun obj => F.args_object_init_3 obj _ _) F.entry_zip_new (Meets.of_wp (S := fun _ R s' => s' = s ∧ ∀ h', IsZip h' (s.heap.objs.size + 4) (s.heap.objs.size + 2) (s.heap.objs.size + 3) .none →
      IsPair h' (s.heap.objs.size + 2) (.ref s.heap.objs.size) (.ref (s.heap.objs.size + 1)) → IsPair h' (s.heap.objs.size + 3) .none .none → SIt b1 h' s.heap.objs.size l1 0 → SIt b2 h' (s.heap.objs.size + 1) l2 0 → h'.objs.size = s.heap.objs.size + 5 →
      (∀ c o, s.heap.get? c = some o → h'.get? c = some o) → R (.ok (.ret (.ref (s.heap.objs.size + 4)))) { s with heap := h' }) fun prog w A R s' hs => ?_) ⟨rfl, fun h' a1 a2 a3 a4 a5 a6 a7 => ⟨⟨_, a1, rfl⟩, h h' a1 a2 a3 a4 a5 a6 a7⟩⟩
  obtain ⟨rfl, hR⟩ := hs
  have hsub := sub_zip
  obtain ⟨hp, g, d, tk, os⟩ := s'
  have z1 : ∀ (h : Heap) (o : Obj), (h.push o).objs.size = h.objs.size + 1 := fun h o => Heap.size_push ..
  have key : ∀ (o1 o2 : Obj), (∀ h : Heap, SIt b1 (h.push o1) h.objs.size l1 0) → (∀ h : Heap, SIt b2 (h.push o2) h.objs.size l2 0) →
      R (.ok (.ret (.ref (hp.objs.size + 4)))) ⟨((((hp.push o1).push o2).push { cls := .type "tuple", data := .seq #[.ref hp.objs.size, .ref (hp.objs.size + 1)] }).push { cls := .type "tuple", data := .seq #[.none, .none] }).push { cls := .type "zip", data := .fields #[.none, .bool false, .bool false, .ref (hp.objs.size + 2), .ref (hp.objs.size + 3)] }, g, d, tk, os⟩ := fun o1 o2 i1 i2 => by
    have k1 := fun c o (x : (hp.push o1).get? c = some o) => Heap.get?_push_of_some { cls := .type "zip", data := .fields #[.none, .bool false, .bool false, .ref (hp.objs.size + 2), .ref (hp.objs.size + 3)] } (Heap.get?_push_of_some { cls := .type "tuple", data := .seq #[.none, .none] } (Heap.get?_push_of_some { cls := .type "tuple", data := .seq #[.ref hp.objs.size, .ref (hp.objs.size + 1)] } (Heap.get?_push_of_some o2 x)))
    have k2 := fun c o (x : ((hp.push o1).push o2).get? c = some o) => Heap.get?_push_of_some { cls := .type "zip", data := .fields #[.none, .bool false, .bool false, .ref (hp.objs.size + 2), .ref (hp.objs.size + 3)] } (Heap.get?_push_of_some { cls := .type "tuple", data := .seq #[.none, .none] } (Heap.get?_push_of_some { cls := .type "tuple", data := .seq #[.ref hp.objs.size, .ref (hp.objs.size + 1)] } x))
    refine hR _ ?_ ?_ ?_ ?_ ?_ ?_ ?_
    · exact Heap.get?_push_at (by simp only [z1]) rfl
    · exact Heap.get?_push_of_some _ (Heap.get?_push_of_some _ (Heap.get?_push_at (by simp only [z1]) rfl))
    · exact Heap.get?_push_of_some _ (Heap.get?_push_at (by simp only [z1]) rfl)
    · exact (i1 hp).at fun o e => k1 _ o e
    · have q := i2 (hp.push o1)
      rw [z1] at q
      exact q.at fun o e => k2 _ o e
    · simp only [z1]
    · exact fun c o x => k1 c o (Heap.get?_push_of_some _ x)
  cases b1 with
  | true =>
    have hL1 : Heap.IsList (Shared.heap ⟨hp, g, d, tk, os⟩) l1 xs := hl1
    cases b2 with
    | true =>
      have hL2 : Heap.IsList (Shared.heap ⟨hp.push { cls := .type "list_iterator", data := .fields #[.ref l1, .int 0 0] }, g, d, tk, os⟩) l2 ys := Heap.IsList.push hl2 _
      wp_walk using wpAny_pyIter_list hL1, wpAny_pyIter_list hL2
      refine ⟨_, rfl, ?_⟩; simp only [z1]; exact key _ _ (fun h => ⟨_, Heap.get?_push_size _ rfl, rfl, rfl⟩) (fun h => ⟨_, Heap.get?_push_size _ rfl, rfl, rfl⟩)
    | false =>
      have hL2 : Heap.IsTuple (Shared.heap ⟨hp.push { cls := .type "list_iterator", data := .fields #[.ref l1, .int 0 0] }, g, d, tk, os⟩) l2 ys := Heap.IsTuple.push hl2 _
      wp_walk using wpAny_pyIter_list hL1, wpAny_pyIter_tuple hL2
      refine ⟨_, rfl, ?_⟩; simp only [z1]; exact key _ _ (fun h => ⟨_, Heap.get?_push_size _ rfl, rfl, rfl⟩) (fun h => ⟨_, Heap.get?_push_size _ rfl, rfl, rfl⟩)
  | false =>
    have hL1 : Heap.IsTuple (Shared.heap ⟨hp, g, d, tk, os⟩) l1 xs := hl1
    cases b2 with
    | true =>
      have hL2 : Heap.IsList (Shared.heap ⟨hp.push { cls := .type "tuple_iterator", data := .fields #[.ref l1, .int 0 0] }, g, d, tk, os⟩) l2 ys := Heap.IsList.push hl2 _
      wp_walk using wpAny_pyIter_tuple hL1, wpAny_pyIter_list hL2
      refine ⟨_, rfl, ?_⟩; simp only [z1]; exact key _ _ (fun h => ⟨_, Heap.get?_push_size _ rfl, rfl, rfl⟩) (fun h => ⟨_, Heap.get?_push_size _ rfl, rfl, rfl⟩)
    | false =>
      have hL2 : Heap.IsTuple (Shared.heap ⟨hp.push { cls := .type "tuple_iterator", data := .fields #[.ref l1, .int 0 0] }, g, d, tk, os⟩) l2 ys := Heap.IsTuple.push hl2 _
      wp_walk using wpAny_pyIter_tuple hL1, wpAny_pyIter_tuple hL2
      refine ⟨_, rfl, ?_⟩; simp only [z1]; exact key _ _ (fun h => ⟨_, Heap.get?_push_size _ rfl, rfl, rfl⟩) (fun h => ⟨_, Heap.get?_push_size _ rfl, rfl, rfl⟩)
end

/-- a list, a tuple that is read -/
def Sq (b : Bool) (K : PySem.W.Frag) (H : Hp) (a : Addr) (xs : List V) : Prop := match b with | true => SqL K H a xs | false => SqT K H a xs
section
variable {X : Cx} {pins : List (Addr × Obj)} {σ : St} {H : Hp} {s : Shared} {a : Addr} {b : Bool} {xs ys : List V}
theorem Inv.sq (I : Inv X pins σ H s) (h : Sq b X.K H a xs) : ∃ its : List Value, Vals xs its ∧ SSq b s.heap a its.toArray ∧ xs.length ≤ sizeLine := by
  cases b with
  | true => obtain ⟨its, r, p, z⟩ := I.list h; exact ⟨its, r, p.isList, z⟩
  | false => obtain ⟨its, r, p, z⟩ := I.tuple h; exact ⟨its, r, p, z⟩
theorem Inv.sq_inj (I : Inv X pins σ H s) (h : Sq b X.K H a xs) (h' : Sq b X.K H a ys) : xs = ys := by
  cases b with
  | true => exact I.list_inj h h'
  | false => exact I.tuple_inj h h'
theorem Inv.sq_lt (I : Inv X pins σ H s) (h : Sq b X.K H a xs) : a < s.heap.objs.size := by
  cases b with
  | true => obtain ⟨its, r, p, z⟩ := I.list h; exact p.lt
  | false => obtain ⟨its, r, p, z⟩ := I.tuple h; exact p.lt
end
def ItzS (K : PySem.W.Frag) (b1 b2 : Bool) (a b : Addr) : It :=
  ⟨fun i H => ∃ (xs ys : List V) (x y : V), Sq b1 K H a xs ∧ Sq b2 K H b ys ∧ xs[i]? = some x ∧ ys[i]? = some y,
    fun i H v H' => ∃ T x y, v = .ref T ∧ H T = none ∧ H' = upd H T (.tup [x, y]) ∧ (∀ xs, Sq b1 K H a xs → xs[i]? = some x) ∧ ∀ ys, Sq b2 K H b ys → ys[i]? = some y,
    fun i H => ∃ xs ys : List V, Sq b1 K H a xs ∧ Sq b2 K H b ys ∧ (xs.length ≤ i ∨ ys.length ≤ i)⟩
theorem turnS_zip {b1 b2 : Bool} {P : Program} {w : World} {K : PySem.W.Frag} {elts : List Expr} {kk : Nat} {tpos : Pos} {a b z TI TO i1 i2 : Addr} (D : ZipApart z TI TO i1 i2 a b) :
    Turn P w K (.Tuple elts kk tpos) (ItzS K b1 b2 a b) [z, TI, TO, i1, i2] z (fun i h => IsZip h z TI TO .none ∧ IsPair h TI (.ref i1) (.ref i2) ∧ (∃ x y, IsPair h TO x y) ∧ SIt b1 h i1 a i ∧ SIt b2 h i2 b i) where
  mem := by simp
  obj := fun i h st c hc => by
    obtain ⟨hz, hTI, ⟨x, y, hTO⟩, h1, h2⟩ := st
    obtain ⟨o1, _, e1, d1⟩ := h1.get
    obtain ⟨o2, _, e2, d2⟩ := h2.get
    have e' : c = z ∨ c = TI ∨ c = TO ∨ c = i1 ∨ c = i2 := by simpa using hc
    rcases e' with q | q | q | q | q
    · rw [q]; exact ⟨_, hz, fun v q => nomatch q⟩
    · rw [q]; exact ⟨_, hTI, fun v q => nomatch q⟩
    · rw [q]; exact ⟨_, hTO, fun v q => nomatch q⟩
    · rw [q]; exact ⟨o1, e1, fun v q => by rw [d1] at q; cases q⟩
    · rw [q]; exact ⟨o2, e2, fun v q => by rw [d2] at q; cases q⟩
  keep := fun i h h' st k => by
    obtain ⟨hz, hTI, ⟨x, y, hTO⟩, h1, h2⟩ := st
    exact ⟨k z (by simp) _ hz, k TI (by simp) _ hTI, ⟨x, y, k TO (by simp) _ hTO⟩, h1.at fun o q => k i1 (by simp) o q, h2.at fun o q => k i2 (by simp) o q⟩
  item := by
    intro X hP hw hK hc i pins s σ H E I hf st hg
    subst hP hw hK
    obtain ⟨hz, hTI, ⟨x0, y0, hTO⟩, h1, h2⟩ := st
    obtain ⟨xs, ys, x, y, hqx, hqy, hx, hy⟩ := hg
    obtain ⟨its, rv, p, _⟩ := Inv.sq I hqx
    obtain ⟨its2, rv2, p2, _⟩ := Inv.sq I hqy
    obtain ⟨u, hu, ru⟩ := rv.get hx
    obtain ⟨u2, hu2, ru2⟩ := rv2.get hy
    have hzl : z < s.heap.objs.size := Heap.lt_size hz
    refine nextS_item D hz hTI hTO h1 h2 p p2 (x := u) (y := u2) (by simpa using hu) (by simpa using hu2) fun h' z' TO' h1' h2' hT hsz hk => ?_
    refine ⟨_, rfl, wpAny_letOwnedTupleGo_zip (s := { s with heap := h' }) z' fun h'' z'' sb => ?_⟩
    have hT2 : h''.get? s.heap.objs.size = some { cls := .type "tuple", data := .seq #[u, u2] } := (sb.2 _ (Nat.ne_of_gt hzl)).trans hT
    have new : ObjOk X.prog X.w (upd H s.heap.objs.size (.tup [x, y])) h'' s.heap.objs.size (.tup [x, y]) :=
      ⟨by show 2 ≤ sizeLine; decide, [u, u2], .cons ru (.cons ru2 .nil), ⟨_, hT2, rfl, _, rfl⟩⟩
    have I1 : Inv X pins σ (upd H s.heap.objs.size (.tup [x, y])) { s with heap := h'' } :=
      I.turnedNew (t' := s.toks) (ch := [z, TI, TO, i1, i2]) (fun c o hb q => (sb.2 c (fun q' => hb (by simp [q']))).trans (hk c o (fun q' => hb (by simp [q'])) (fun q' => hb (by simp [q'])) (fun q' => hb (by simp [q'])) (fun q' => hb (by simp [q'])) q)) hf (Nat.le_refl _) new
    refine ⟨.ref s.heap.objs.size, _, I1, rfl, ⟨_, x, y, rfl, I.hok.fresh (Nat.le_refl _), rfl, fun l hl => by rw [Inv.sq_inj I hl hqx]; exact hx, fun l hl => by rw [Inv.sq_inj I hl hqy]; exact hy⟩, ⟨z'', ?_, ⟨u, u2, ?_⟩, ?_, ?_⟩, fun c hcm => ?_⟩
    · exact (sb.2 _ D.TIz).trans (hk _ _ D.TIz D.TITO D.TIi1 D.TIi2 hTI)
    · exact (sb.2 _ D.TOz).trans TO'
    · exact h1'.at fun o q => (sb.2 _ D.i1z).trans q
    · exact h2'.at fun o q => (sb.2 _ D.i2z).trans q
    · have hlt : c < s.heap.objs.size := by
        have e' : c = z ∨ c = TI ∨ c = TO ∨ c = i1 ∨ c = i2 := by simpa using hcm
        rcases e' with q | q | q | q | q
        · rw [q]; exact hzl
        · rw [q]; exact Heap.lt_size hTI
        · rw [q]; exact Heap.lt_size hTO
        · rw [q]; obtain ⟨_, _, e1, _⟩ := h1.get; exact Heap.lt_size e1
        · rw [q]; obtain ⟨_, _, e2, _⟩ := h2.get; exact Heap.lt_size e2
      rw [upd_ne (Nat.ne_of_lt hlt)]
      exact (hf c hcm).1
  done := by
    intro X hP hw hK hc i pins s σ H E I hf st hg
    subst hP hw hK
    obtain ⟨hz, hTI, ⟨x0, y0, hTO⟩, h1, h2⟩ := st
    obtain ⟨xs, ys, hqx, hqy, hend⟩ := hg
    obtain ⟨its, rv, p, _⟩ := Inv.sq I hqx
    obtain ⟨its2, rv2, p2, _⟩ := Inv.sq I hqy
    have l1 := rv.length
    have l2 := rv2.length
    have he : its.toArray[i]? = none ∨ its2.toArray[i]? = none := by
      rcases hend with q | q
      · exact .inl (by simp; omega)
      · exact .inr (by simp; omega)
    exact nextS_end (I.ok.hd hc) D hz hTI hTO h1 h2 p p2 he fun h' hk => ⟨rfl, I.turnedL (t' := s.toks) (ch := [z, TI, TO, i1, i2]) (fun c o hb q =>
      hk c o (fun q' => hb (by simp [q'])) (fun q' => hb (by simp [q'])) (fun q' => hb (by simp [q'])) (fun q' => hb (by simp [q'])) q) hf⟩
  self := fun A i s Q E st h => wpAny_pyIter_zip st.1 h
def iZipS (K : PySem.W.Frag) (b1 b2 : Bool) (ta : TA) : TI := fun σ H R => ta σ H fun vs H1 => ∃ a b xs ys, vs = [.ref a, .ref b] ∧ Sq b1 K H1 a xs ∧ Sq b2 K H1 b ys ∧ R (ItzS K b1 b2 a b) H1
theorem piS_zip {b1 b2 : Bool} {X : Cx} {e e2 : Expr} {ta : TA} {p pos tpos : Pos} {elts : List Expr} {kk : Nat} (hg : Gl X "zip") (hm : X.mg "zip" = none) (ha : PA X [e, e2] ta)
    (hs : starEach [e, e2] X.env = (false, eval e X.env) :: starEach [e2] X.env := by rfl) (hpl : (backTo pos (starEach [e2] X.env)).any (·.1) = false := by rfl) :
    PI X (.Tuple elts kk tpos) (.Call (.Name "zip" p) [e, e2] [] pos) (iZipS X.K b1 b2 ta) := by
  intro pins s σ H R I h
  refine Call_ (ld_blt I hg hm boot_zip5 (PyProof.Rows.callWith_type1 (thn (ha pos pins s σ H _ I h) fun us s1 ⟨vs, H1, I1, r1, q1⟩ => ?_) hs hpl))
  obtain ⟨a, b, xs, ys, ex, hqx, hqy, q⟩ := q1
  subst ex
  cases r1 with
  | cons r rr =>
    cases rr with
    | cons r' rr =>
      cases rr
      cases r
      cases r'
      obtain ⟨its, rv, p1, _⟩ := Inv.sq I1 hqx
      obtain ⟨its2, rv2, p2, _⟩ := Inv.sq I1 hqy
      have la : a < s1.heap.objs.size := Inv.sq_lt I1 hqx
      have lb : b < s1.heap.objs.size := Inv.sq_lt I1 hqy
      refine callS_zip p1 p2 fun h' hz hTI hTO h1 h2 hsz hk => wpAny_pyIter_zip hz ?_
      have I2 : Inv X pins σ H1 { s1 with heap := h' } := I1.kept (t' := s1.toks) hk
      refine ⟨s1.heap.objs.size + 4, [s1.heap.objs.size + 4, s1.heap.objs.size + 2, s1.heap.objs.size + 3, s1.heap.objs.size, s1.heap.objs.size + 1], _, _, H1, rfl, I2, turnS_zip (PySem.W.ktu_apart s1.heap.objs.size a b la lb), ⟨hz, hTI, ⟨_, _, hTO⟩, h1, h2⟩, fun c hcm => ?_, q⟩
      have e' : c = s1.heap.objs.size + 4 ∨ c = s1.heap.objs.size + 2 ∨ c = s1.heap.objs.size + 3 ∨ c = s1.heap.objs.size ∨ c = s1.heap.objs.size + 1 := by simpa using hcm
      have hle : s1.heap.objs.size ≤ c := by
        rcases e' with z | z | z | z | z
        · rw [z]; exact Nat.le_add_right _ _
        · rw [z]; exact Nat.le_add_right _ _
        · rw [z]; exact Nat.le_add_right _ _
        · rw [z]; exact Nat.le_refl _
        · rw [z]; exact Nat.le_add_right _ _
      exact I1.fpOk hle (I1.hok.fresh hle)
end L2
set_option Elab.async false
set_option linter.all false
set_option maxRecDepth 100000
set_option maxHeartbeats 4000000
/-! Plain data over the layer, isinstance, a call of a def that a list holds, list.count. -/
namespace L2
open PySem PySem.Spec PyProof.Rows
/-- a value is plain data: its lists and tuples are tracked -/
inductive Dd (H : Hp) : V → PyData → Prop
  | non : Dd H .non .none
  | bl (b : Bool) : Dd H (.bl b) (.bool b)
  | int (i : Int) : Dd H (.int i) (.int i)
  | str (x : Str) : Dd H (.str x) (.str x)
  | lst {a : Addr} {xs : List V} {ds : List PyData} : H a = some (.lst xs) → Paired (Dd H) xs ds → Dd H (.ref a) (.list ds)
  | tup {a : Addr} {xs : List V} {ds : List PyData} : H a = some (.tup xs) → Paired (Dd H) xs ds → Dd H (.ref a) (.tuple ds)
abbrev DdL (H : Hp) : List V → List PyData → Prop := Paired (Dd H)
theorem Dd.same {H H' : Hp} (e : Same H H') : ∀ {d : PyData} {v : V}, Dd H v d → Dd H' v d := by
  intro d v h
  have all : ∀ (d : PyData), ∀ v, Dd H v d → Dd H' v d := by
    intro d
    have go : ∀ n : Nat, ∀ d : PyData, sizeOf d ≤ n → ∀ v, Dd H v d → Dd H' v d := by
      intro n
      induction n with
      | zero => intro d hd; cases d <;> simp at hd
      | succ n ih =>
        have lift : ∀ (ds : List PyData) (xs : List V), sizeOf ds ≤ n → Paired (Dd H) xs ds → Paired (Dd H') xs ds := by
          intro ds
          induction ds with
          | nil => intro xs _ p; cases p; exact .nil
          | cons d ds ihd =>
            intro xs hz p
            cases p with
            | cons r t =>
              have e : sizeOf (d :: ds) = 1 + sizeOf d + sizeOf ds := rfl
              exact .cons (ih d (by omega) _ r) (ihd _ (by omega) t)
        intro d hd v h
        cases h with
        | non => exact .non
        | bl b => exact .bl b
        | int i => exact .int i
        | str x => exact .str x
        | lst ha p =>
          rename_i a xs ds
          have e' : sizeOf (PyData.list ds) = 1 + sizeOf ds := by simp
          exact .lst (e _ _ ha) (lift ds xs (by omega) p)
        | tup ha p =>
          rename_i a xs ds
          have e' : sizeOf (PyData.tuple ds) = 1 + sizeOf ds := by simp
          exact .tup (e _ _ ha) (lift ds xs (by omega) p)
    exact go _ d (Nat.le_refl _)
  exact all d v h
theorem DdL.same {H H' : Hp} (e : Same H H') {xs : List V} {ds : List PyData} (p : DdL H xs ds) : DdL H' xs ds := Paired.imp' (fun _ _ q => q.same e) p
theorem Dd.p {K : PySem.W.Frag} {H : Hp} {d : PyData} {v : V} (h : Dd H v d) : Dp K H v d := by
  have go : ∀ n : Nat, ∀ d : PyData, sizeOf d ≤ n → ∀ v, Dd H v d → Dp K H v d := by
    intro n
    induction n with
    | zero => intro d hd; cases d <;> simp at hd
    | succ n ih =>
      have lift : ∀ (ds : List PyData) (xs : List V), sizeOf ds ≤ n → Paired (Dd H) xs ds → DpAll K H xs ds := by
        intro ds
        induction ds with
        | nil => intro xs _ p; cases p; exact .nil
        | cons d ds ihd =>
          intro xs hz p
          cases p with
          | cons r t =>
            have e : sizeOf (d :: ds) = 1 + sizeOf d + sizeOf ds := rfl
            exact .cons (ih d (by omega) _ r) (ihd _ (by omega) t)
      intro d hd v h
      cases h with
      | non => exact .non
      | bl b => exact .bl b
      | int i => exact .int i
      | str x => exact .str x
      | lst ha p =>
        rename_i a xs ds
        have e' : sizeOf (PyData.list ds) = 1 + sizeOf ds := by simp
        exact .lst (SqL.of ha) (lift ds xs (by omega) p)
      | tup ha p =>
        rename_i a xs ds
        have e' : sizeOf (PyData.tuple ds) = 1 + sizeOf ds := by simp
        exact .tup (SqT.of ha) (lift ds xs (by omega) p)
  exact go _ d (Nat.le_refl _) v h
/-- the kinds that isinstance asks for here -/
def isiD (n : String) : PyData → Bool
  | .bool _ => n == "bool" || n == "int"
  | .int _ => n == "int"
  | .str _ => n == "str"
  | .list _ => n == "list"
  | .tuple _ => n == "tuple"
  | _ => false
theorem isi_of {K : PySem.W.Frag} {H : Hp} {v : V} {d : PyData} (h : Dd H v d) {n : String} (hn : n = "bool" ∨ n = "int" ∨ n = "list" ∨ n = "tuple") : ∃ t, TyOf K H v t ∧ PySem.W.kitOne K t (.type n) = some (isiD n d) := by
  cases h with
  | non => refine ⟨_, .non, ?_⟩; rcases hn with rfl | rfl | rfl | rfl <;> kernel_rfl
  | bl b => refine ⟨_, .bl b, ?_⟩; rcases hn with rfl | rfl | rfl | rfl <;> kernel_rfl
  | int i => refine ⟨_, .int i, ?_⟩; rcases hn with rfl | rfl | rfl | rfl <;> kernel_rfl
  | str x => refine ⟨_, .str x, ?_⟩; rcases hn with rfl | rfl | rfl | rfl <;> kernel_rfl
  | lst ha _ => refine ⟨_, .lst ha, ?_⟩; rcases hn with rfl | rfl | rfl | rfl <;> kernel_rfl
  | tup ha _ => refine ⟨_, .tup ha, ?_⟩; rcases hn with rfl | rfl | rfl | rfl <;> kernel_rfl
section
variable {X : Cx}
/-- isinstance(x, T) of plain data -/
theorem call_isi {n : String} (hn : n = "bool" ∨ n = "int" ∨ n = "list" ∨ n = "tuple") : CallR X (.builtin "isinstance") (fun xs H Q => ∃ x d, xs = [x, .ty n] ∧ Dd H x d ∧ Q (.bl (isiD n d)) H) := by
  intro pins s σ H xs us Q I r h
  obtain ⟨x, d, rfl, hd, q⟩ := h
  cases r with
  | cons r1 r =>
    cases r with
    | cons r2 r =>
      cases r
      obtain ⟨t, ty, k⟩ := isi_of (K := X.K) hd hn
      cases (show _ = Value.type n from r2)
      exact isinst_ok I r1 ty k fun tk => ⟨.bl _, H, I.tok tk, rfl, q⟩
theorem boot_isi : bootBuiltins "isinstance" = some (.builtin "isinstance") := by decide +kernel
theorem boot_int : bootBuiltins "int" = some (.type "int") := by decide +kernel
theorem boot_bool : bootBuiltins "bool" = some (.type "bool") := by decide +kernel
theorem boot_tuple : bootBuiltins "tuple" = some (.type "tuple") := by decide +kernel
/-- xs.count(y) of flat things -/
theorem mt_count_list : MtR X "list.count" (fun x xs H Q => ∃ (a : Addr) (ys : List V) (y : V), x = V.ref a ∧ xs = [y] ∧ SqL X.K H a ys ∧ flatV y = true ∧ ys.all flatV = true ∧ Q (.int (ys.countP fun z => eqV z y : Nat)) H) := by
  intro pins s σ H x xs v us Q I rx rxs h
  obtain ⟨a, ys, y, rfl, rfl, hs, fy, fys, q⟩ := h
  cases rx
  cases rxs with
  | cons ry rt =>
    rename_i uy ut
    cases rt
    obtain ⟨its, rv, ⟨⟨cls, dd, data, sl⟩, n, ho, hc, hdn, hd⟩, hlen⟩ := I.list hs
    simp only at hc hd
    subst hc hd
    refine call_meets PySem.F.slot_list_count ⟨_, ho, rfl⟩ PySem.F.entry_list_count (PySem.F.args_list_count_2 _ _) (SeqAt.list_countAt a its.toArray n dd sl uy (eqU y)) ⟨ho, fun u' hu' => mem_eqAt ry fy rv fys u' (by simpa using hu'), ?_⟩
    have e : ∀ {ys : List V} {us : List Value}, Vals ys us → ys.all flatV = true → us.countP (eqU y) = ys.countP fun z => eqV z y := by
      intro ys
      induction ys with
      | nil => intro us r _; cases r; rfl
      | cons z zs ih =>
        intro us r f
        cases r with
        | cons r t =>
          rw [List.all_cons, Bool.and_eq_true] at f
          rw [List.countP_cons, List.countP_cons, ih t f.2, eqU_of r f.1]
    refine ⟨.int _, H, I.tok _, ⟨_, rfl⟩, ?_⟩
    rw [show its.toArray.toList = its from rfl, e rv fys]
    exact q
/-- g(e, ..): a def that an expression gives -/
def tCallX (Fns : Addr → Sp → Prop) (E : XK) (tf : TE) (t : TA) : TE := fun σ H Q => tf σ H fun v H1 => ∃ f sp, v = .ref f ∧ Fns f sp ∧ t σ H1 fun vs H2 => sp vs H2 Q E
theorem pe_callX {CX : CXT} {k : Nat} {func e : Expr} {es : List Expr} {pos : Pos} {E : XK} {tf : TE} {t : TA} {Fns : Addr → Sp → Prop} (hf : PE X func tf)
    (G : ∀ f sp, Fns f sp → ∃ fd ps, FnOk X.prog X.w X.K X.mg X.base CX k f fd ps sp ∧ Binds X.K fd ps [] ∧ PySem.W.keepIn X.K (.ref f) = true) (hr : Room k X.A) (hx : Passes CX X E) (ha : PA X (e :: es) t)
    (hev : eval (.Call func (e :: es) [] pos) X.env = (do callWith pos (← eval func X.env) [] (backTo pos (starEach (e :: es) X.env)) (backToKw pos (keywordEach [] X.env))) := by rfl)
    (he : starEach (e :: es) X.env = (false, eval e X.env) :: starEach es X.env := by rfl) (hpl : (backTo pos (starEach es X.env)).any (·.1) = false := by rfl) :
    PE X (.Call func (e :: es) [] pos) (tCallX Fns E tf t) := by
  intro pins s σ H Q I h
  rw [hev]
  refine wpAny_bind (thn (hf pins s σ H _ I h) fun v s1 ⟨x, H1, I1, r1, f, sp, ex, hF, q1⟩ => ?_)
  subst ex
  obtain rfl : v = Value.ref f := r1
  obtain ⟨fd, ps, F, b, kp⟩ := G f sp hF
  refine PySem.W.callWith_K (h₀ := X.base) I.ok.mod.kin kp (thn (ha pos pins s1 σ H1 _ I1 q1) fun us s2 ⟨vs, H2, I2, r2, q2⟩ => ⟨I2.kIn, ?_⟩) he hpl
  exact run_fn (dvs := []) F hr b .nil hx I2 r2 (by rw [List.append_nil]; exact q2)
end
end L2
set_option Elab.async false
set_option linter.all false
set_option maxRecDepth 100000
set_option maxHeartbeats 4000000
namespace L2
open PySem PySem.Spec PyProof.Rows
/-- tuple(e for t in xs): S the list in which the items are gathered -/
def tTupG (P bm : Addr) (ob : Obj) (wi : TI) (g : TG) (te : TE) (vs : List Nat) : TE := fun σ H Q => wi σ H fun J H1 => H1 P = some (TabE P) ∧ H1 bm = some (ObE bm ob) ∧ ∀ S, H1 S = none → ∃ (n : Nat) (Pv : Nat → Hp → Prop), Pv 0 (upd H1 S (.lst [])) ∧
  (∀ i H, i < n → Pv i H → J.go i H ∧ ∀ y H', J.yld i H y H' → g y (wipe σ vs) H' fun σ2 H2 => wipe σ2 vs = wipe σ vs ∧ te σ2 H2 fun z H3 => ∃ acc, H3 S = some (.lst acc) ∧ acc.length < sizeLine ∧ Pv (i + 1) (upd H3 S (.lst (acc ++ [z])))) ∧
  ∀ H, Pv n H → J.stop n H ∧ ∃ us, H S = some (.lst us) ∧ ∀ p, H p = none → Q (.ref p) (upd H p (.tup us))
theorem Room.gen4 {k : Nat} {A : Around} (r : Room (k + 1) A) {elt iter tg : Expr} {scope : Scope} {gpos : Pos} {it : Addr} {cenv : Env} : Room k (A.in1.in1.in1.in1.over (gcodeT elt iter tg scope gpos it cenv) []) := by
  refine ⟨r.hd, ?_, ?_⟩
  · have := r.dp
    show A.depth + 0 + 1 + 3 * k + 5 < _
    omega
  · have := r.un
    show A.units + 1 + 1 + 1 + 1 + 0 + 3 + 16 * k + 200 < _
    omega
section
variable {prog : Program} {w : World} {A : Around} {E : Value → Shared → Prop} {s : Shared} {I : Addr}
theorem code_tuple_new_by {Q₁ : Value → Shared → Prop} (hTI : s.TypeIs (.ref I) "generator")
    (hc : wpAny (model prog w) A.in1 (collect (.ref I)) (fun l s' => l.length ≤ sizeLine ∧ Q₁ (.ref s'.heap.objs.size) { s' with heap := s'.heap.push { cls := .type "tuple", data := .seq l.toArray } }) E s) :
    codeAny (model prog w) A (.call (.builtin "tuple.__new__") ⟨[.type "tuple", .ref I], []⟩) (wants Q₁ E) s := by
  refine codeAny_of_tree ?_
  show wpAny _ A.in1 (do checkBuiltinCall "tuple.__new__" ⟨[.type "tuple", .ref I], []⟩; again (.builtin "tuple.__new__" ⟨[.type "tuple", .ref I], []⟩)) _ _ s
  refine wpAny_bind (wpAny_of_eq (F.newCall_tuple_1 _) (wpAny_pure ⟨plainId_quiet F.plain_tuple_new _, codeAny_builtin F.entry_tuple_new ?_⟩))
  rw [Around.under_plainId F.plain_tuple_new _]
  have hsub := sub_tuple_self
  have hinit := init_tuple_lookup
  have hmh := madeHere_tuple
  wp_walk using wpAny_typeOf hTI, wpAny_mono hc
  · intro l s' h
    show wpAny _ _ (Builtin.Tuple.tupleExact l.toArray >>= fun v => ret v) _ _ _
    unfold Builtin.Tuple.tupleExact
    refine wpAny_bind (wpAny_newObj_type ?_ (by show l.toArray.size ≤ sizeLine; rw [List.size_toArray]; exact h.1))
    exact wpAny_pure h.2
  · exact fun _ _ e => e
theorem call_tuple_by {Q : Value → Shared → Prop} (hTI : s.TypeIs (.ref I) "generator")
    (hc : wpAny (model prog w) A.in1.in1 (collect (.ref I)) (fun l s' => l.length ≤ sizeLine ∧ Q (.ref s'.heap.objs.size) { s' with heap := s'.heap.push { cls := .type "tuple", data := .seq l.toArray } }) E s) :
    wpAny (model prog w) A (call (.type "tuple") [.ref I]) Q E s := by
  refine callType_codes (Q₁ := fun obj s₁ => s₁.TypeIs obj "tuple" ∧ Q obj s₁) F.called_tuple (F.typeCall_tuple_1 _) F.entry_object_init
    (code_tuple_new_by hTI (wpAny_mono hc (fun l s' h => ⟨h.1, ⟨_, Heap.get?_push_size _ rfl, rfl⟩, h.2⟩) fun _ _ e => e)) fun obj s₁ h₁ => ?_
  exact ⟨h₁.1, F.args_object_init_2 obj _, object_init_meets F.called_tuple.init.lookup F.called_tuple.made (by decide) prog w A.in1 _ s₁ ⟨h₁.1, rfl, h₁.2⟩⟩
/-- collect of a generator, down to the loop -/
theorem collect_gen {Q : List Value → Shared → Prop} {g : Nat} (hig : s.heap.IsGen I g) (hSI : s.heap.objs.size ≠ I)
    (h : ∀ c h', h'.get? s.heap.objs.size = some { cls := .type "list", data := .seq #[] c } → (∀ b o, s.heap.get? b = some o → h'.get? b = some o) →
      codeAny (model prog w) A (.builtin "list.extend.loop" ⟨[.ref s.heap.objs.size, .ref I, .ref s.heap.objs.size], []⟩) (fun r s' => match r with
        | .ok (.ret v) => v = .ref s.heap.objs.size ∧ ∃ its n, s'.heap.get? s.heap.objs.size = some { cls := .type "list", data := .seq its n } ∧ Q its.toList s'
        | _ => False) { s with heap := h' }) : wpAny (model prog w) A (collect (.ref I)) Q E s := by
  have hT : ∀ {h' : Heap}, (∀ b o, s.heap.get? b = some o → h'.get? b = some o) → ({ s with heap := h' } : Shared).TypeIs (.ref I) "generator" := fun {h'} k => by
    obtain ⟨o, nm, qn, h1, h2, _⟩ := hig
    exact ⟨o, k _ _ h1, h2⟩
  unfold collect
  refine wpAny_bind (wpAny_runValue (codeAny_builtin F.entry_proto_collect ?_))
  rw [Around.under_plainId F.plain_proto_collect _]
  show wpAny _ A.in1 (newList [] >>= fun l => again (.builtin "list.__iadd__" ⟨[l, .ref I], []⟩)) _ _ s
  refine wpAny_bind (wpAny_newObj_type ?_)
  refine wpAny_pure ⟨plainId_quiet F.plain_list_iadd _, codeAny_builtin F.entry_list_iadd ?_⟩
  rw [Around.under_plainId F.plain_list_iadd _]
  have k1 : ∀ b o, s.heap.get? b = some o → (s.heap.push { cls := .type "list", data := .seq ([] : List Value).toArray }).get? b = some o := fun b o e => Heap.get?_push_of_some _ e
  show wpAny _ A.in1 (Builtin.List.listExtendWith (.ref s.heap.objs.size) (.ref I) (.ref s.heap.objs.size)) _ _ _
  unfold Builtin.List.listExtendWith
  refine wpAny_bind (wpAny_typeOf (hT k1) ?_)
  have h1 : Builtin.List.listSameRef (.ref s.heap.objs.size) (.ref I) = false := by simp [Builtin.List.listSameRef, hSI]
  have h2 : (Value.type "generator" == Value.type "list") = false := by decide
  have h3 : (Value.type "generator" == Value.type "tuple") = false := by decide
  simp only [h1, h2, h3, Bool.or_false, Bool.false_eq_true, if_false]
  have hig1 : (s.heap.push { cls := .type "list", data := .seq ([] : List Value).toArray }).IsGen I g := by
    obtain ⟨o, nm, qn, q1, q2, q3, q4⟩ := hig
    exact ⟨o, nm, qn, k1 _ _ q1, q2, q3, q4⟩
  refine wpAny_bind (wpAny_pyIter_gen hig1 ?_)
  refine wpAny_bind (wpAny_holding ?_)
  unfold Builtin.List.listLengthHint
  refine wpAny_bind (wpAny_specialOf (hT k1) F.gen_no_len ?_)
  show wpAny _ A.in1 (specialOf (Value.ref I) (Str.ofString "__length_hint__") >>= _) _ _ _
  refine wpAny_bind (wpAny_specialOf (hT k1) F.gen_no_hint ?_)
  refine wpAny_pure ?_
  show wpAny _ A.in1 (rule "list.extend.makes-room" >>= fun _ => Builtin.List.listTouch (.ref s.heap.objs.size) >>= fun _ =>
    again (.builtin "list.extend.loop" ⟨[.ref s.heap.objs.size, .ref I, .ref s.heap.objs.size], []⟩)) _ _ _
  refine wpAny_bind (wpAny_rule ?_)
  have hS₁ : (s.heap.push { cls := .type "list", data := .seq ([] : List Value).toArray }).get? s.heap.objs.size = some { cls := .type "list", data := .seq ([] : List Value).toArray } := Heap.get?_push_size _ rfl
  refine wpAny_bind ?_
  show wpAny _ A.in1 (updateSeq s.heap.objs.size (·.push .none) >>= fun _ => updateSeq s.heap.objs.size (·.pop)) _ _ _
  refine wpAny_bind (wpAny_updateSeq hS₁ rfl ?_)
  have hS₂ := Heap.get?_update_self (Obj.mapSeq (·.push Value.none)) hS₁ rfl
  refine wpAny_updateSeq hS₂ rfl ?_
  have hS₃ := Heap.get?_update_self (Obj.mapSeq (·.pop)) hS₂ rfl
  have oth : ∀ b o, s.heap.get? b = some o →
      (((s.heap.push { cls := .type "list", data := .seq ([] : List Value).toArray }).update s.heap.objs.size (Obj.mapSeq (·.push Value.none))).update s.heap.objs.size (Obj.mapSeq (·.pop))).get? b = some o :=
    fun b o e => (Heap.get?_update_other _ _ (Nat.ne_of_gt (Heap.lt_size e))).trans ((Heap.get?_update_other _ _ (Nat.ne_of_gt (Heap.lt_size e))).trans (k1 b o e))
  refine wpAny_pure ⟨plainId_quiet F.plain_extend_loop _, codeAny_mono (h _ _ hS₃ oth) fun r s' hr => ?_⟩
  cases r with
  | error e => exact hr.elim
  | ok fl =>
    cases fl with
    | ret v =>
      obtain ⟨rfl, its, n, e, q⟩ := hr
      show wpAny _ A (load s.heap.objs.size >>= _) _ _ s'
      refine wpAny_bind (wpAny_load e ?_)
      exact wpAny_pure q
    | _ => exact hr.elim
end
section
variable {X : Cx}
theorem pe_tupg {elt iter tg : Expr} {scope : Scope} {own : List (Str × Nat)} {gpos p pos : Pos} {c P bm : Addr} {ob : Obj} {k : Nat} {wi : TI} {gt : TG} {te : TE} (hcalm : X.calm = true) (hN : X.N.Nodup) (hr : Room (k + 1) X.A) (hgl : Gl X "tuple") (hm : X.mg "tuple" = none)
    (hi : PI X tg iter wi) (ok : BlkOk X.N X.env.scope scope own) (hco : scope.isCoroutine = false) (hcell : ∀ y ∈ scope.names, y.2 ≠ .cell) (h0 : scope.names.lookup (".0" : Str) = some NameKind.local)
    (hc : X.env.code = .ref c) (ck : CodeK X.K c P) (bk : BmK X.mg bm ob)
    (hg : ∀ (A : Around) (s : Shared) (H : Hp) (C : Addr) (cl : List (Str × Addr)) (code : Value) (fp : List Addr), PG (X.gen A s H (genEnv scope cl C code builtinsNs X.env) fp) tg gt)
    (he : ∀ (A : Around) (s : Shared) (H : Hp) (C : Addr) (cl : List (Str × Addr)) (code : Value) (fp : List Addr), Room k A → PE (X.gen A s H (genEnv scope cl C code builtinsNs X.env) fp) elt te)
    (hs : ∀ v, genFold iter X.env v = pure v := by intro _; rfl)
    (hst : starEach [.GeneratorExp elt [⟨tg, iter, [], 0⟩] scope gpos] X.env = (false, eval (.GeneratorExp elt [⟨tg, iter, [], 0⟩] scope gpos) X.env) :: starEach [] X.env := by rfl) :
    PE X (.Call (.Name "tuple" p) [.GeneratorExp elt [⟨tg, iter, [], 0⟩] scope gpos] [] pos) (tTupG P bm ob wi gt te (own.map (·.2))) := by
  intro pins s σ H Q I h
  have hfree : ∀ y ∈ scope.names, y.2 = .free → ∃ c, X.env.cells.lookup y.1 = some c := fun y hy e => by
    rcases ok.free y hy e with k | k
    · exact I.ok.has _ (.inl k)
    · exact I.ok.has _ (.inr k)
  have ev : wpAny (model X.prog X.w) X.A (eval (.GeneratorExp elt [⟨tg, iter, [], 0⟩] scope gpos) X.env) (fun v s1 => wpAny (model X.prog X.w) X.A (call (.type "tuple") [v]) (EP X pins σ Q) X.xe s1) X.xe s := by
    refine wpAny_GeneratorExp_make hco (closure_ok hfree) hcell h0 ok.kind hr.depth (wpAny_mono (hi pins s σ H _ I h) (fun xv s1 h1 => wpAny_mono h1 (fun itv s2 h2 => ?_) fun _ _ e => e) fun _ _ e => e) hs
    obtain ⟨it, fp, tn, J, H1, rfl, I2, T, tn0, hf, hP, hbm, hSS⟩ := h2
    refine ⟨I2.nolimit, code_step I2 hc ck hP fun code h3 tk3 I3 hx => ?_⟩
    have tn3 : tn 0 h3 := T.keep 0 _ _ tn0 fun b hb o e => hx b o (fun z => by have := (hf b hb).1; rw [z, hP] at this; cases this) e
    have hns : h3.Ns X.env.globals X.mg := by rw [I.ok.glob]; exact I3.mod.glob.keeps I3.bk
    refine wpAny_builtinsFor (s := { s2 with heap := h3, toks := tk3 }) hns bk.nm bk.ne (I3.hok bm _ hbm).1 bk.cls bk.dict bk.data ?_
    intro h' hn' hs'
    have hfp : ∀ b ∈ fp, FpOk X pins H1 b ∧ b < h3.objs.size := fun b hb => ⟨hf b hb, by obtain ⟨o, e, _⟩ := T.obj 0 h3 tn3 b hb; exact Heap.lt_size e⟩
    have hsz : h'.objs.size = h3.objs.size + 1 := by rw [hs'.1, Heap.size_push]
    have keep' : ∀ b o, h3.get? b = some o → h'.get? b = some o := fun b o e => hs'.extBut b o (Nat.ne_of_lt (Heap.lt_size e)) (Heap.get?_push_of_some _ e)
    generalize hog : ({ cls := .type "generator", data := .fields #[.int s2.gens.size 0, .str "<genexpr>" (tk3 + 1), .str (X.env.qual ++ "<genexpr>") (tk3 + 1 + 1)] } : Obj) = og
    have kp : ∀ b o, h3.get? b = some o → (h'.push og).get? b = some o := fun b o e => Heap.get?_push_of_some _ (keep' b o e)
    have hget : (h'.push og).get? h'.objs.size = some og := by rw [← hog]; exact Heap.get?_push_size _ rfl
    have hig : (h'.push og).IsGen h'.objs.size s2.gens.size := ⟨og, _, _, hget, by rw [← hog], by rw [← hog], by rw [← hog]⟩
    have gk0 : GensOk s2.gens (s2.gens.push (.fresh (.compStart (.GeneratorExp elt [⟨tg, iter, [], 0⟩] scope gpos) 0 (.ref it) .none (genEnv scope (cloFrom X.env.cells scope.names []) h3.objs.size code builtinsNs X.env)))) :=
      ⟨I3.bare.1.push rfl, fun i z e => by obtain ⟨hi, e'⟩ := Array.getElem?_eq_some_iff.mp e; rw [Array.getElem?_push_lt hi, e']⟩
    have G0 : GH X (X.A.in1.in1.in1.in1.over (gcodeT elt iter tg scope gpos it (genEnv scope (cloFrom X.env.cells scope.names []) h3.objs.size code builtinsNs X.env)) []) { s2 with heap := h3, toks := tk3 } H1 (genEnv scope (cloFrom X.env.cells scope.names []) h3.objs.size code builtinsNs X.env) fp h'.objs.size og (wipe σ (own.map (·.2))) H1
        { s2 with gens := s2.gens.push (.fresh (.compStart (.GeneratorExp elt [⟨tg, iter, [], 0⟩] scope gpos) 0 (.ref it) .none (genEnv scope (cloFrom X.env.cells scope.names []) h3.objs.size code builtinsNs X.env))), toks := tk3 + 1 + 1 + 1, heap := h'.push og } := by
      refine ⟨gen_start (s := { s2 with heap := h3, toks := tk3 }) I3 ok hN hfp hcell (I.ok.hd hcalm) ?_ kp (hn'.push _) rfl gk0.self fun q hq => ?_, gk0⟩
      · show pushEnvs [_] (pushEnvs [] X.A.frames) = _
        rw [I.ok.frames]; rfl
      · have e : q = (h'.objs.size, og) := by simpa using hq
        rw [e]
        refine ⟨hget, ?_, fun v z => ?_⟩
        · show h3.objs.size < h'.objs.size
          omega
        · rw [← hog] at z; cases z
    generalize hs5 : ({ s2 with gens := s2.gens.push (.fresh (.compStart (.GeneratorExp elt [⟨tg, iter, [], 0⟩] scope gpos) 0 (.ref it) .none (genEnv scope (cloFrom X.env.cells scope.names []) h3.objs.size code builtinsNs X.env))), toks := tk3 + 1 + 1 + 1, heap := h'.push og } : Shared) = s5 at G0 ⊢
    have h5 : s5.heap = h'.push og := by rw [← hs5]
    have g5 : s5.gens = s2.gens.push (.fresh (.compStart (.GeneratorExp elt [⟨tg, iter, [], 0⟩] scope gpos) 0 (.ref it) .none (genEnv scope (cloFrom X.env.cells scope.names []) h3.objs.size code builtinsNs X.env))) := by rw [← hs5]
    have hSn : H1 s5.heap.objs.size = none := G0.inv.hok.fresh (Nat.le_refl _)
    obtain ⟨n, Pv, p0, step, stop⟩ := hSS _ hSn
    have hig5 : s5.heap.IsGen h'.objs.size s2.gens.size := by rw [h5]; exact hig
    have ne5 : s5.heap.objs.size ≠ h'.objs.size := by rw [h5, Heap.size_push]; exact Nat.succ_ne_self _
    refine call_tuple_by ⟨og, by rw [h5]; exact hget, by rw [← hog]⟩ (collect_gen (g := s2.gens.size) hig5 ne5 fun cc h6 hS6 k6 => ?_)
    have G6 : GH X (X.A.in1.in1.in1.in1.over (gcodeT elt iter tg scope gpos it (genEnv scope (cloFrom X.env.cells scope.names []) h3.objs.size code builtinsNs X.env)) []) { s2 with heap := h3, toks := tk3 } H1 (genEnv scope (cloFrom X.env.cells scope.names []) h3.objs.size code builtinsNs X.env) fp h'.objs.size og (wipe σ (own.map (·.2))) (upd H1 s5.heap.objs.size (.lst [])) { s5 with heap := h6 } :=
      ⟨G0.inv.laid (t' := s5.toks) k6 (Nat.le_refl _) ⟨by show 0 ≤ sizeLine; decide, [], cc, .nil, hS6⟩, G0.gk⟩
    have neS : ∀ b ∈ fp, b ≠ s5.heap.objs.size := fun b hb z => by
      have q := (hfp b hb).2
      have q2 : h3.objs.size ≤ s5.heap.objs.size := by rw [h5, Heap.size_push, hsz]; exact Nat.le_trans (Nat.le_succ _) (Nat.le_succ _)
      rw [z] at q
      exact Nat.lt_irrefl _ (Nat.lt_of_lt_of_le q q2)
    refine tup_loop (A := X.A.in1.in1) (g := s2.gens.size) (og := og) (s4 := { s2 with heap := h3, toks := tk3 }) (H4 := H1) (S := s5.heap.objs.size) (n := n) (Pv := Pv) (tn := tn) T (I.ok.hd hcalm) hr.depth (Nat.le_refl _) (by rw [← hog]) ⟨_, _, by rw [← hog]⟩ (by rw [← hog]) (fun H7 s7 G7 p7 => ?_) n 0 _ _ _ (Nat.zero_add _) G6 p0 (by show s5.gens[_]? = _; rw [g5]; exact Array.getElem?_push_size ..) fun s'' e1 e2 e3 e4 => ?_
    · obtain ⟨hst7, us, hS7, q7⟩ := stop H7 p7
      obtain ⟨hz, its, m, hv, hl, e⟩ := G7.inv.lstM hS7
      refine ⟨rfl, its.toArray, m, e, ?_⟩
      have el : its.toArray.toList = its := by simp
      rw [el]
      refine ⟨by omega, .ref s7.heap.objs.size, upd H7 s7.heap.objs.size (.tup us), ?_, rfl, q7 _ (G7.inv.hok.fresh (Nat.le_refl _))⟩
      have I8 : Inv X pins σ H7 s7 := I3.call' (s' := s7) (ch := fp) G7.inv.os G7.inv.base G7.inv.hok G7.gk fun b hb => ⟨(hf b hb).2.2.2.1, (hf b hb).2.1, (hf b hb).2.2.2.2.1, (hf b hb).2.2.2.2.2⟩
      exact I8.laid (t' := s7.toks) (fun _ _ q => Heap.get?_push_of_some _ q) (Nat.le_refl _) ⟨hz, its, hv, IsTup.new _ _⟩
    · have G1 := G6.at e1 e2 e3
      have tn5 : tn 0 s''.heap := by
        rw [e1]
        exact T.keep 0 _ _ tn3 fun b hb o e => k6 b o (by rw [h5]; exact kp b o e)
      refine ⟨rfl, seg_startT T _ _ tn5 (seg_tup T hco (fun H6 hn6 b hb => ?_) (fun g0 => hg _ _ _ _ _ _ _) (fun g0 => he _ _ _ _ _ _ _ hr.gen4) step (fun H6 p6 => (stop H6 p6).1) n 0 s'' s'' _ (Nat.zero_add _) G1 tn5 (fun b hb => by rw [upd_ne (neS b hb)]; exact (hf b hb).1) p0 e4)⟩
      have o := G0.inv.ok
      refine ⟨hn6 b hb, (o.exf b hb).1, o.exfs b hb, .inl hb, fun y c e => (o.exf b hb).2 y c e, fun q hq => ?_⟩
      have e : q = (h'.objs.size, og) := by simpa using hq
      rw [e]
      have q1 := (hfp b hb).2
      exact Nat.ne_of_gt (Nat.lt_of_lt_of_le q1 (by rw [hsz]; exact Nat.le_succ _))
  refine wpAny_Call_Name_kw (ld_blt I hgl hm boot_tuple ?_)
  refine PyProof.Rows.callWith_type1 ?_ hst rfl
  rw [hst]
  show wpAny _ _ (spliced ((false, eval (.GeneratorExp elt [⟨tg, iter, [], 0⟩] scope gpos) X.env) :: backTo pos (starEach [] X.env))) _ _ s
  exact Calls.spliced_cons (thn ev fun v s1 q => Calls.spliced_nil q)
end
end L2
set_option Elab.async false
set_option linter.all false
set_option maxRecDepth 100000
set_option maxHeartbeats 4000000
/-! isinstance(e, C) of an own exception that was caught -/
namespace L2
open PySem PySem.Spec PySem.W PyProof.Rows PySem.Builtin PySem.Builtin.Getset_descriptor
/-- what the deciders tell of an own class of exceptions -/
structure ExK (K : Frag) (C : Addr) : Prop where
  ga : findIn K (.ref C) "__getattribute__" = some (some (.builtin "BaseException.__getattribute__"))
  cl : findIn K (.ref C) "__class__" = some (some (.builtin "object.__class__"))
  nh : findIn K (.ref C) "__getattr__" = some none
  ob : mroIn K C (.type "object") = some true
  bx : mroIn K C (.type "BaseException") = some true
  ic : isClsIn K C = true
def ExcAt (a C : Addr) (h : Heap) : Prop := ∃ o vs, h.get? a = some o ∧ o.cls = .ref C ∧ o.data = .fields vs
section
variable {prog : Program} {w : World} {A : Around} {E : Value → Shared → Prop} {h : Heap} {g : Array GenState} {d : Drawn} {t : Nat} {os : OsState} {a C : Addr} {K : Frag}
theorem exc_ty {M : Model} (p : ExcAt a C h) : Looks M h (typeOf (.ref a)) (.ref C) := by
  obtain ⟨o, vs, h1, h2, _⟩ := p
  exact h2 ▸ (Looks.ld h1).andThen .now
theorem exc_get {R : Result → Shared → Prop} (X : K.In h) (k : ExK K C) (p : ExcAt a C h) (hq : R (.ok (.ret (.ref C))) ⟨h, g, d, t, os⟩) :
    codeAny (model prog w) A (.call (.builtin "getset_descriptor.__get__") ⟨[.builtin "object.__class__", .ref a, .ref C], []⟩) R ⟨h, g, d, t, os⟩ := by
  have L0 := exc_ty (M := model prog w) p
  have L1 := looks_mroIn (M := model prog w) X k.ob
  refine codeAny_call_builtin KF.slot_gs.plain KF.entry_gs (KF.slot_gs.check _ _ _ _ _ _ _ _ KF.type_class (KF.args_gs _ _ _) ?_)
  unfold Builtin.«getset_descriptor.__get__» descrGet
  rw [dga_obj]
  refine wpAny_bind (wpAny_pure ?_)
  unfold descrGetter descrCheckInstance descrNameAndClass isInstance
  simp only [KF.owner_class]
  repeat lk
  refine ⟨Code.quiet_builtin _ (by decide +kernel), codeAny_builtin KF.entry_class ?_⟩
  unfold Builtin.«object.__class__» shownTypeOf
  repeat lk
  exact hq
theorem exc_entry {tk : Tok} {Q : Fin → Shared → Prop} (X : K.In h) (k : ExK K C) (p : ExcAt a C h) (hq : Q (.done (.ret (.ref C))) ⟨h, g, d, t, os⟩) :
    wpAny (model prog w) A (Builtin.«object.__getattribute__» ⟨[.ref a, .str "__class__" tk], []⟩) Q E ⟨h, g, d, t, os⟩ := by
  have L0 := exc_ty (M := model prog w) p
  have L1 := looks_findIn (M := model prog w) X k.cl
  have hT5 : (⟨h, g, d, t, os⟩ : Shared).TypeIs (.builtin "object.__class__") "getset_descriptor" := F.typeOf_object_class
  have f5 := F.typeOf_object_class
  have f6 := F.slot_gs_get.lookup
  have f7 := F.slot_gs_set.lookup
  repeat (any_goals (first | assumption | with_reducible refine L0.at ?_ | with_reducible refine L1.at ?_ | wp_step))
  refine exc_get X k p ?_
  repeat (any_goals (first | assumption | wp_step))
theorem exc_check {nameV : Value} {Q : Unit → Shared → Prop} (X : K.In h) (k : ExK K C) (p : ExcAt a C h) (hq : Q () ⟨h, g, d, t, os⟩) : wpAny (model prog w) A (checkBuiltinCall "BaseException.__getattribute__" ⟨[.ref a, nameV], []⟩) Q E ⟨h, g, d, t, os⟩ := by
  have hk : builtinKind "BaseException.__getattribute__" = some .slot := by decide +kernel
  have hsplit : splitId "BaseException.__getattribute__" = some ("BaseException", "__getattribute__") := by decide +kernel
  have L0 := exc_ty (M := model prog w) p
  have L1 := looks_mroIn (M := model prog w) X k.bx
  have ha := F.args_bexc_ga (.ref a) nameV
  simp only [checkBuiltinCall, hk, hsplit]
  refine wpAny_bind ?_
  unfold isInstance
  repeat (first | with_reducible refine L0.at ?_ | with_reducible refine L1.at ?_ | wp_step)
  exact hq
theorem exc_by {tk : Tok} {Q : Value → Shared → Prop} (X : K.In h) (k : ExK K C) (p : ExcAt a C h) (hq : Q (.ref C) ⟨h, g, d, t, os⟩) : wpAny (model prog w) A (getAttrBy (.ref a) (.str "__class__" tk) false) Q E ⟨h, g, d, t, os⟩ := by
  have f3 := F.attr_ValueError.ga.bind (.ref a)
  have hx2 : (Value.builtin "BaseException.__getattribute__" == Value.builtin "object.__getattribute__") = false := by decide +kernel
  have hx1 : (onTheHeap (Value.ref C) && Value.builtin "BaseException.__getattribute__" == Value.builtin "object.__getattribute__") = false := by rw [hx2]; rfl
  have L0 := exc_ty (M := model prog w) p
  have L1 := looks_findIn (M := model prog w) X k.ga
  have L2 := looks_findIn (M := model prog w) X k.nh
  repeat (any_goals (first | assumption | with_reducible refine L0.at ?_ | with_reducible refine L1.at ?_ | with_reducible refine L2.at ?_ | wp_step))
  refine codeAny_call_builtin F.attr_ValueError.ga.plain F.entry_bexc_ga (exc_check X k p (exc_entry X k p ?_))
  repeat (any_goals (first | assumption | wp_step))
theorem exc_attr {Q : Option Value → Shared → Prop} (X : K.In h) (k : ExK K C) (p : ExcAt a C h) (hq : Q (some (.ref C)) ⟨h, g, d, t + 1, os⟩) : wpAny (model prog w) A (getAttr? (.ref a) "__class__") Q E ⟨h, g, d, t, os⟩ := by
  unfold getAttr? getAttrBy?
  repeat (any_goals (first | assumption | with_reducible apply exc_by X k p | wp_step))
end
theorem kitx_exc {K : Frag} {a C : Addr} (k : ExK K C) : KitX K (.ref a) (.ref C) (ExcAt a C) where
  ty := fun _ _ _ p => exc_ty p
  it := fun M h X p => by
    have hc := k.ic
    unfold isClsIn at hc
    obtain ⟨cd, hcd⟩ := Option.isSome_iff_exists.mp hc
    unfold clsIn at hcd
    split at hcd
    · rename_i c' d' cd' sl' ho
      intro A' Q' E' s' k q
      unfold isType loadHead
      exact wpAny_bind (wpAny_loadPart (k _ _ (X _ _ ho)) (wpAny_pure q))
    · cases hcd
  ne := fun h tp dd its n sl X htp => by
    refine Bool.eq_false_iff.mpr fun q => ?_
    have e : C = tp := Value.ref.inj (beq_iff_eq.mp q)
    subst e
    have hc := k.ic
    unfold isClsIn at hc
    obtain ⟨cd, hcd⟩ := Option.isSome_iff_exists.mp hc
    unfold clsIn at hcd
    split at hcd
    · rename_i c' d' cd' sl' ho
      have z := (X _ _ ho).symm.trans htp
      cases z
    · cases hcd
  ca := fun {prog w A E Q s} X p k' => by
    obtain ⟨h, g, d, t, os⟩ := s
    exact exc_attr X k p k'
/-- isinstance(e, C) of a caught own exception: C an own class or a built-in one -/
def clV : V → Value
  | .ty n => .type n
  | .ref a => .ref a
  | _ => .none
theorem call_isiE {X : Cx} : CallR X (.builtin "isinstance") (fun xs H Q => ∃ (ea C : Addr) (c : V) (b : Bool), xs = [.ref ea, c] ∧ (c = .ty "ValueError" ∨ ∃ D, c = .ref D) ∧ H ea = some (ExcIs ea C) ∧ ExK X.K C ∧ kitOne X.K (.ref C) (clV c) = some b ∧ Q (.bl b) H) := by
  intro pins s σ H xs us Q I r h
  obtain ⟨ea, C, c, b, rfl, hc, he, k, e, q⟩ := h
  obtain ⟨p, _, _⟩ := I.hok ea _ he
  cases r with
  | cons r1 r =>
    cases r with
    | cons r2 r =>
      cases r
      cases r1
      have e2 : ∀ {u : Value}, RelV c u → u = clV c := fun {u} ru => by
        rcases hc with rfl | ⟨D, rfl⟩
        · exact ru
        · exact ru
      rw [e2 r2]
      exact kia_one (kitx_exc k) I.kIn p e (fun z => nomatch z) fun tk => ⟨.bl b, H, I.tok tk, rfl, q⟩
end L2
set_option Elab.async false
set_option linter.all false
set_option maxRecDepth 100000
set_option maxHeartbeats 4000000
/-! The head of a law whose program has generator expressions: the tables of their code objects are tracked from the start. -/
namespace L2
open PySem PySem.Spec PyProof.Rows
/-- the ground: the tables at Ts, the module of the built-ins -/
structure Grd (Ts : List Addr) (bm : Addr) (ob : Obj) (H : Hp) : Prop where
  tabs : ∀ P ∈ Ts, H P = some (TabE P)
  bm : H bm = some (ObE bm ob)
theorem Grd.same {Ts : List Addr} {bm : Addr} {ob : Obj} {H H' : Hp} (g : Grd Ts bm ob H) (e : Same H H') : Grd Ts bm ob H' := ⟨fun P hP => e _ _ (g.tabs P hP), e _ _ g.bm⟩
theorem law_callT {P : Program} {w : World} {K : PySem.W.Frag} {mg mb : Str → Option Value} {CX : CXT} {k : Nat} {fa a bm : Addr} {ob : Obj} {Ts : List Addr} {x : Str} {sp : Sp} {s1 : Shared} {vs : List Value} {ns : List Int}
    (KX : K.In s1.heap) (hns : s1.heap.Ns mainGlobals mg) (hb : s1.heap.Ns builtinsNs mb) (hbb : ∀ x : Str, x ≠ "__name__" → mb x = bootBuiltins x) (hlim : s1.heap.NoLimit) (hg : s1.gens = #[])
    (hT : ∀ P ∈ Ts, (∃ c, s1.heap.TableAt c P #[]) ∧ K.lookup P = none) (hbm : s1.heap.get? bm = some ob ∧ K.lookup bm = none ∧ ob.data = .plain)
    (ha : s1.heap.get? a = some { cls := .type "list", data := .seq vs.toArray }) (hi : IntsAre vs ns) (hl : ns.length ≤ sizeLine) (hr : Room k callerA)
    (F : ∀ base : Heap, K.In base → base.Ns mainGlobals mg → ∃ fd, Binds K fd [x] [] ∧ FnOk P w K mg base CX k fa fd [x] sp)
    (hsp : ∀ H : Hp, Grd Ts bm ob H → SqL K H a (ns.map V.int) → sp [.ref a] H (fun v H' => v = .bl true ∧ Grd Ts bm ob H') fun _ _ _ => False)
    (hCX : ∀ H e s', CX [] H s1 (fun _ _ _ => False) e s' → False) :
    codeAny (model P w) callerA (.call (.ref fa) ⟨[.ref a], []⟩) (fun r s' => r = .ok (.ret (.bool true)) ∧ OldK s1.heap s'.heap ∧ s'.os = s1.os ∧ AllBare s'.gens) s1 := by
  have rv := vals_ints hi
  have lenV := hi.length
  have haT : a ∉ Ts := fun z => by
    obtain ⟨⟨c, t⟩, _⟩ := hT a z
    have := t.2
    rw [ha] at this; cases this
  have hab : a ≠ bm := fun z => by
    have := hbm.1
    rw [← z, ha] at this
    cases this
    cases hbm.2.2
  have hbT : bm ∉ Ts := fun z => by
    obtain ⟨⟨c, t⟩, _⟩ := hT bm z
    have := t.2
    rw [hbm.1] at this; cases this
    cases hbm.2.2
  have core : ∀ f0 : Option HO, (f0 = none ∨ ((∃ o xs, f0 = some (.frz o (.lst xs))) ∧ K.lookup a = none)) → (∀ o, f0 = some o → ObjOk P w (fun b => if b = a then f0 else if b ∈ Ts then some (TabE b) else if b = bm then some (ObE bm ob) else none) s1.heap a o) →
      SqL K (fun b => if b = a then f0 else if b ∈ Ts then some (TabE b) else if b = bm then some (ObE bm ob) else none) a (ns.map V.int) →
      codeAny (model P w) callerA (.call (.ref fa) ⟨[.ref a], []⟩) (fun r s' => r = .ok (.ret (.bool true)) ∧ OldK s1.heap s'.heap ∧ s'.os = s1.os ∧ AllBare s'.gens) s1 := by
    intro f0 hf0 hok0 hS
    generalize hH : (fun b => if b = a then f0 else if b ∈ Ts then some (TabE b) else if b = bm then some (ObE bm ob) else none : Hp) = H at *
    have Ha : H a = f0 := by rw [← hH]; exact if_pos rfl
    have Ht : ∀ b ∈ Ts, H b = some (TabE b) := fun b hb => by
      rw [← hH]
      show (if b = a then _ else if b ∈ Ts then _ else _) = _
      rw [if_neg (show ¬ b = a from fun z => by rw [z] at hb; exact haT hb), if_pos hb]
    have Hm : H bm = some (ObE bm ob) := by
      rw [← hH]
      show (if bm = a then _ else if bm ∈ Ts then _ else _) = _
      rw [if_neg (Ne.symm hab), if_neg hbT, if_pos rfl]
    have Hn : ∀ b, b ≠ a → b ∉ Ts → b ≠ bm → H b = none := fun b h1 h2 h3 => by
      rw [← hH]
      show (if b = a then _ else if b ∈ Ts then _ else _) = _
      rw [if_neg h1, if_neg h2, if_neg h3]
    have G : Grd Ts bm ob H := ⟨Ht, Hm⟩
    have hok : HOk P w H s1.heap := fun b o e => by
      by_cases h1 : b = a
      · subst h1; rw [Ha] at e; exact hok0 o e
      · by_cases h2 : b ∈ Ts
        · rw [Ht b h2] at e; cases e
          obtain ⟨⟨c, t⟩, _⟩ := hT b h2
          exact ⟨⟨#[], t.2, trivial⟩, ⟨_, t.2⟩, fun h1 h2 ⟨ps, z1, z2⟩ k => ⟨ps, k _ z1, z2⟩⟩
        · by_cases h3 : b = bm
          · subst h3; rw [Hm] at e; cases e
            exact ⟨hbm.1, ⟨_, hbm.1⟩, fun h1 h2 z k => k _ z⟩
          · rw [Hn b h1 h2 h3] at e; cases e
    have noA : ∀ {b : Addr} {o : Obj} {es : Array DictEntry} {ep : Nat}, s1.heap.get? b = some o → o.data = .dict es ep → H b = none := fun {b o es ep} e d => by
      by_cases h1 : b = a
      · subst h1; rw [ha] at e; cases e; cases d
      · by_cases h2 : b ∈ Ts
        · obtain ⟨⟨c, t⟩, _⟩ := hT b h2
          have := t.2
          rw [e] at this; cases this; cases d
        · by_cases h3 : b = bm
          · subst h3; have := hbm.1; rw [e] at this; cases this; rw [hbm.2.2] at d; cases d
          · exact Hn b h1 h2 h3
    have nsK : ∀ {b : Addr} {m : Str → Option Value}, s1.heap.Ns b m → (hidT s1.heap H).Ns b m := fun {b m} ⟨o, es, ep, e, d, r⟩ => ⟨o, es, ep, hidT_get e (noA e d), d, r⟩
    have hKb : K.In (hidT s1.heap H) := fun b o e => hidT_get (KX b o e) (by
      by_cases h1 : b = a
      · subst h1
        rw [Ha]
        rcases hf0 with z | ⟨_, z⟩
        · exact z
        · rw [z] at e; cases e
      · by_cases h2 : b ∈ Ts
        · rw [(hT b h2).2] at e; cases e
        · by_cases h3 : b = bm
          · subst h3; rw [hbm.2.1] at e; cases e
          · exact Hn b h1 h2 h3)
    have hM : Mod K mg (hidT s1.heap H) := ⟨hKb, nsK hns, ⟨mb, nsK hb, hbb⟩, let ⟨mc, h1, h2⟩ := hlim; ⟨mc, nsK h1, h2⟩⟩
    have e0 : Env0 P w K mg (hidT s1.heap H) callerA [] s1 H := ⟨rfl, hM, fun b o e => of_hidT e, Nat.le_of_eq (hidT_size _ _), trivial, fun b hb => absurd (show b ∈ ([] : List Addr) from hb) (by simp), hok, .of_eq hg⟩
    obtain ⟨fd, hbind, F'⟩ := F _ hKb (nsK hns)
    refine codeAny_mono (F'.run callerA [] s1 H ⟨[.ref a], []⟩ [.ref a] [.ref a] _ _ hr e0 (hbind s1 [.ref a] KX rfl) (.cons rfl .nil) (hsp H G hS)) fun r s' h => ?_
    cases r with
    | error e => exact (hCX H e s' h).elim
    | ok fl =>
      cases fl with
      | next => exact False.elim h
      | brk => exact False.elim h
      | cont => exact False.elim h
      | ret u =>
        obtain ⟨v, H', os, bare, un, hok', r', q⟩ := h
        obtain ⟨q', G'⟩ : v = .bl true ∧ Grd Ts bm ob H' := q
        subst q'
        obtain rfl : u = Value.bool true := r'
        have kp : ∀ b o, H b = none → s1.heap.get? b = some o → s'.heap.get? b = some o := fun b o n e => un.keep b o e n (by intro z; exact absurd (show b ∈ ([] : List Addr) from z) (by simp)) (by simp)
        have kpa : ∀ o, s1.heap.get? a = some o → s'.heap.get? a = some o := fun o e => by
          rcases hf0 with z | ⟨⟨ob', xs, z⟩, _⟩
          · exact kp a o (Ha.trans z) e
          · have z1 := Ha.trans z
            obtain ⟨e1, _⟩ := hok a _ z1
            obtain ⟨e2, _⟩ := hok' a _ (un.frzs a _ _ z1)
            rw [e] at e1; cases e1
            exact e2
        have kpt : ∀ b ∈ Ts, ∃ ps, s'.heap.get? b = some { cls := .none, data := .fields ps } := fun b hb => by
          obtain ⟨⟨ps, z, _⟩, _⟩ := hok' b _ (G'.tabs b hb)
          exact ⟨ps, z⟩
        have kpm : s'.heap.get? bm = some ob := (hok' bm _ G'.bm).1
        refine ⟨rfl, ⟨fun b o e => ?_, fun b o e => ?_⟩, os, bare.1⟩
        · by_cases h1 : b = a
          · subst h1; exact .inl (kpa o e)
          · by_cases h2 : b ∈ Ts
            · obtain ⟨⟨c, t⟩, _⟩ := hT b h2
              obtain ⟨ps, z⟩ := kpt b h2
              have e2 := t.2
              rw [e] at e2; cases e2
              exact .inr (.inl ⟨t.isCodeTable, rfl, #[], ps, rfl, by rw [z]; simp⟩)
            · by_cases h3 : b = bm
              · subst h3
                rw [hbm.1] at e; cases e
                exact .inl kpm
              · exact .inl (kp b o (Hn b h1 h2 h3) e)
        · by_cases h1 : b = a
          · subst h1; exact ⟨o, kpa o e⟩
          · by_cases h2 : b ∈ Ts
            · obtain ⟨ps, z⟩ := kpt b h2
              exact ⟨_, z⟩
            · by_cases h3 : b = bm
              · subst h3; exact ⟨_, kpm⟩
              · exact ⟨o, kp b o (Hn b h1 h2 h3) e⟩
  cases hk : K.lookup a with
  | some o =>
    have e := KX a o hk
    rw [ha] at e
    cases e
    exact core none (.inl rfl) (fun o z => by cases z) (.inr ⟨_, vs.toArray, _, hk, rfl, rfl, rfl, by rw [List.size_toArray, lenV]; exact hl, by simpa using rv⟩)
  | none =>
    exact core (some (.frz { cls := .type "list", data := .seq vs.toArray } (.lst (ns.map V.int)))) (.inr ⟨⟨_, _, rfl⟩, hk⟩) (fun o z => by cases z; exact ⟨ha, by rw [List.length_map]; exact hl, vs, _, rv, ha⟩) (.inl (.inr ⟨{ cls := .type "list", data := .seq vs.toArray }, if_pos rfl⟩))
/-- the goal that the head leaves, from the law's promise: the tables and the module of the built-ins are named by F -/
theorem walk_ofT {l : PySem.W.OpenLaw} {n k : Nat} {q : Program} {loose : List Str} {XP : (Str → Option Value) → Heap → Prop} {YP : World → Heap → Prop} {d : DefRec} {K : Params → PySem.W.Frag} {x : Str}
    (hn : l.most = some n) (hn2 : n ≤ sizeLine) (hdf : d.params.defaults = []) (hr : Room k callerA) (hY : ∀ (w : World) (h : Heap), YP w h → (K w.params).In h)
    (F : ∀ (w : World) (mg : Str → Option Value) (fa : Addr) (h : Heap), (K w.params).In h → h.Ns mainGlobals mg → mg d.name = some (.ref fa) →
      (∀ (name : Str) (dd : DefRec) (f : Addr) (o : Obj) (fd : FuncData), (recsOf q).find? (fun e => e.name == name) = some dd → mg name = some (.ref f) → h.get? f = some o → o.data = .func fd → ∃ c P, fd.code = .ref c ∧ h.IsCode c P #[] ∧ h.TableAt c P #[]) →
      (∃ bm ob, BMod h mainGlobals mg bm ob) →
      ∃ (Ts : List Addr) (bm : Addr) (ob : Obj), (∀ P ∈ Ts, (∃ c, h.TableAt c P #[]) ∧ (K w.params).lookup P = none) ∧ (h.get? bm = some ob ∧ (K w.params).lookup bm = none ∧ ob.data = .plain) ∧
        ∃ sp : Sp, (∀ (H : Hp) (a : Addr) (ns : List Int), ns.length ≤ n → Grd Ts bm ob H → SqL (K w.params) H a (ns.map V.int) → sp [.ref a] H (fun v H' => v = .bl true ∧ Grd Ts bm ob H') fun _ _ _ => False) ∧
        ∀ base : Heap, (K w.params).In base → base.Ns mainGlobals mg → ∃ fd, Binds (K w.params) fd [x] [] ∧ FnOk l.prog w (K w.params) mg base (CXM l.prog w) k fa fd [x] sp) :
    PySem.W.WalkO q loose XP YP l.row.toRowW d [] (fun f vs => PySem.call f vs) := by
  refine Att.attach_call hn hdf fun w s0 s1 mg mb fa o pm cd doc a vs ns G Y ho hd hcd hmg hobj hints hlen hg => ?_
  have KX := hY w _ Y
  obtain ⟨Ts, bm, ob, hT, hbm, sp, hsp, hF⟩ := F w mg fa _ KX G.T.g hmg (fun name dd f o' fd' h1 h2 h3 h4 => by
    obtain ⟨c, P, e, B⟩ := PySem.W.based_of_top G.T h1 h2 h3 h4
    exact ⟨c, P, e, B.code, B.tab⟩) (PySem.W.bmod_of_top G.T)
  exact law_callT KX G.T.g G.T.b G.T.builtins G.T.nolimit hg hT hbm hobj hints (Nat.le_trans hlen hn2) hr hF (fun H hO hS => hsp H a ns hlen hO hS) fun H e s' z => by
    obtain ⟨_, _, _, _, _, _, _, _, _, z⟩ := z
    exact z
end L2
set_option linter.all false
/-! The mathematics of lines: plain functions over plain data. -/
namespace Ma
open PySem
/-- the ints that a thing is, else none -/
def isWhole (lo hi : Int) : PyData → Bool
  | .int i => decide (lo ≤ i) && decide (i ≤ hi)
  | _ => false
def isValue (d : PyData) : Bool := isWhole (-999) 999 d
def isLength (d : PyData) : Bool := isWhole 1 60 d
def isPlace (n : Int) (d : PyData) : Bool := isWhole 0 (n - 1) d
def isRow (n : Int) : PyData → Bool
  | .tuple [a, b] => isPlace n a && isValue b
  | _ => false
def areRows (n : Int) : PyData → Bool
  | .list ds => decide (ds.length ≤ 60) && ds.all (isRow n)
  | _ => false
def fstI : PyData → Int
  | .tuple (.int i :: _) => i
  | _ => 0
def sndI : PyData → Int
  | .tuple (_ :: .int i :: _) => i
  | _ => 0
/-- two steps, one behind another -/
def follows (a b : PyData) : Bool := decide (fstI a < fstI b) && !decide (sndI a = sndI b)
def chain : List PyData → Bool
  | a :: b :: r => follows a b && chain (b :: r)
  | _ => true
def areSteps (n : Int) : PyData → Bool
  | .tuple ds => decide (1 ≤ ds.length) && decide ((ds.length : Int) ≤ n) && ds.all (isRow n) && decide (fstI (ds.headD .none) = 0) && chain ds
  | _ => false
def isLine : PyData → Bool
  | .tuple [.int n, b] => isLength (.int n) && areSteps n b
  | _ => false

/-- the steps of a list of values, from the place k on, behind the value p -/
def stepsFrom : Nat → Option Int → List Int → List (Nat × Int)
  | _, _, [] => []
  | k, p, x :: r => if p = some x then stepsFrom (k + 1) (some x) r else (k, x) :: stepsFrom (k + 1) (some x) r
def stepD (s : Nat × Int) : PyData := .tuple [.int (s.1 : Nat), .int s.2]
def steps (xs : List Int) : List (Nat × Int) := stepsFrom 0 none xs
def lineD (xs : List Int) : PyData := .tuple [.int (xs.length : Nat), .tuple ((steps xs).map stepD)]
structure OkV (xs : List Int) : Prop where
  pos : 1 ≤ xs.length
  len : xs.length ≤ 60
  all : ∀ x ∈ xs, -999 ≤ x ∧ x ≤ 999
/-- the values that steps make: of each up to the next one's place, of the last one up to n -/
def expand (n : Nat) : List (Nat × Int) → List Int
  | [] => []
  | [s] => List.replicate (n - s.1) s.2
  | s :: t :: r => List.replicate (t.1 - s.1) s.2 ++ expand n (t :: r)
theorem stepsFrom_snoc (x : Int) : ∀ (xs : List Int) (k : Nat) (p : Option Int), stepsFrom k p (xs ++ [x]) = stepsFrom k p xs ++ (if (xs.getLast?.or p) = some x then [] else [(k + xs.length, x)])
  | [], k, p => by by_cases h : p = some x <;> simp [stepsFrom, h]
  | y :: r, k, p => by
    have h := stepsFrom_snoc x r (k + 1) (some y)
    have e : ((y :: r).getLast?.or p) = (r.getLast?.or (some y)) := by
      cases r with
      | nil => simp
      | cons z t => rw [List.getLast?_cons_cons, List.getLast?_eq_some_getLast (List.cons_ne_nil z t)]; rfl
    have e2 : k + 1 + r.length = k + (r.length + 1) := by omega
    simp only [List.cons_append, stepsFrom, h, e, List.length_cons, e2]
    split <;> simp
theorem stepsFrom_ge : ∀ (xs : List Int) (k : Nat) (p : Option Int) (s : Nat × Int), s ∈ stepsFrom k p xs → k ≤ s.1 ∧ s.1 < k + xs.length ∧ s.2 ∈ xs
  | [], k, p, s, h => by simp [stepsFrom] at h
  | x :: r, k, p, s, h => by
    simp only [stepsFrom] at h
    split at h
    · obtain ⟨h1, h2, h3⟩ := stepsFrom_ge r (k + 1) (some x) s h
      exact ⟨by omega, by simp; omega, List.mem_cons_of_mem _ h3⟩
    · rcases List.mem_cons.mp h with rfl | h
      · exact ⟨Nat.le_refl _, by simp, List.mem_cons_self⟩
      · obtain ⟨h1, h2, h3⟩ := stepsFrom_ge r (k + 1) (some x) s h
        exact ⟨by omega, by simp; omega, List.mem_cons_of_mem _ h3⟩
theorem stepsFrom_len : ∀ (xs : List Int) (k : Nat) (p : Option Int), (stepsFrom k p xs).length ≤ xs.length
  | [], _, _ => by simp [stepsFrom]
  | x :: r, k, p => by
    simp only [stepsFrom]
    have := stepsFrom_len r (k + 1) (some x)
    split <;> simp <;> omega
/-- the next step's value is another, its place greater -/
theorem stepsFrom_head {x : Int} : ∀ (xs : List Int) (k : Nat) (s : Nat × Int), (stepsFrom k (some x) xs).head? = some s → s.2 ≠ x ∧ k ≤ s.1
  | [], _, _, h => by simp [stepsFrom] at h
  | y :: r, k, s, h => by
    simp only [stepsFrom] at h
    split at h
    · rename_i e
      cases e
      obtain ⟨h1, h2⟩ := stepsFrom_head r (k + 1) s h
      exact ⟨h1, by omega⟩
    · rename_i e
      simp only [List.head?_cons, Option.some.injEq] at h
      subst h
      exact ⟨fun z => e (by rw [← z]), Nat.le_refl _⟩
theorem follows_step (a b : Nat × Int) : follows (stepD a) (stepD b) = (decide (a.1 < b.1) && !decide (a.2 = b.2)) := by
  show (decide (((a.1 : Nat) : Int) < ((b.1 : Nat) : Int)) && !decide (a.2 = b.2)) = _
  rw [decide_eq_decide.mpr Int.ofNat_lt]
theorem chain_steps : ∀ (xs : List Int) (k : Nat) (p : Option Int), chain ((stepsFrom k p xs).map stepD) = true
  | [], _, _ => by simp [stepsFrom, chain]
  | x :: r, k, p => by
    have ih := chain_steps r (k + 1) (some x)
    simp only [stepsFrom]
    split
    · exact ih
    · cases h : stepsFrom (k + 1) (some x) r with
      | nil => simp [chain]
      | cons s t =>
        obtain ⟨h1, h2⟩ := stepsFrom_head r (k + 1) s (by rw [h]; rfl)
        rw [h] at ih
        simp only [List.map_cons] at ih ⊢
        simp only [chain, follows_step, ih, Bool.and_true, Bool.and_eq_true, decide_eq_true_eq, Bool.not_eq_true', decide_eq_false_iff_not]
        exact ⟨by omega, fun z => h1 z.symm⟩
theorem lineD_is {xs : List Int} (h : OkV xs) : isLine (lineD xs) = true := by
  have hp := h.pos
  have hl := h.len
  have len := stepsFrom_len xs 0 none
  have pos : 1 ≤ (steps xs).length := by
    cases xs with
    | nil => simp at hp
    | cons x r => simp [steps, stepsFrom]
  have fst : fstI (((steps xs).map stepD).headD .none) = 0 := by
    cases xs with
    | nil => simp at hp
    | cons x r => simp [steps, stepsFrom, fstI, stepD]
  have rows : ((steps xs).map stepD).all (isRow (xs.length : Nat)) = true := by
    rw [List.all_eq_true]
    intro d hd
    obtain ⟨s, hs, rfl⟩ := List.mem_map.mp hd
    obtain ⟨h1, h2, h3⟩ := stepsFrom_ge xs 0 none s hs
    obtain ⟨h4, h5⟩ := h.all _ h3
    simp only [isRow, stepD, isPlace, isValue, isWhole, Bool.and_eq_true, decide_eq_true_eq]
    omega
  simp only [isLine, lineD, isLength, isWhole, areSteps, Bool.and_eq_true, decide_eq_true_eq, List.length_map]
  have len' : (steps xs).length ≤ xs.length := len
  exact ⟨by omega, ⟨⟨⟨pos, by omega⟩, rows⟩, fst⟩, chain_steps xs 0 none⟩
/-- steps make their values again -/
theorem expand_steps : ∀ (xs : List Int) (k j : Nat) (v : Int), k ≤ j → expand (j + xs.length) ((k, v) :: stepsFrom j (some v) xs) = List.replicate (j - k) v ++ xs
  | [], k, j, v, h => by simp [stepsFrom, expand]
  | x :: r, k, j, v, h => by
    simp only [stepsFrom]
    have e : j + (x :: r).length = (j + 1) + r.length := by simp; omega
    rw [e]
    split
    · rename_i z
      obtain rfl : v = x := Option.some.inj z
      rw [expand_steps r k (j + 1) v (by omega)]
      rw [show j + 1 - k = (j - k) + 1 by omega, List.replicate_succ', List.append_assoc]
      rfl
    · rw [show expand (j + 1 + r.length) ((k, v) :: (j, x) :: stepsFrom (j + 1) (some x) r) = List.replicate (j - k) v ++ expand (j + 1 + r.length) ((j, x) :: stepsFrom (j + 1) (some x) r) from rfl]
      rw [expand_steps r j (j + 1) x (by omega)]
      rw [show j + 1 - j = 1 by omega]
      rfl
theorem expand_line (xs : List Int) : expand xs.length (steps xs) = xs := by
  cases xs with
  | nil => rfl
  | cons x r =>
    have := expand_steps r 0 1 x (by omega)
    simp only [steps, stepsFrom, List.length_cons]
    rw [if_neg (by simp)]
    rw [show r.length + 1 = 1 + r.length by omega, this]
    rfl
end Ma
namespace Ma
open PySem
theorem steps_snoc (ys : List Int) (x : Int) : steps (ys ++ [x]) = steps ys ++ (if ys.getLast? = some x then [] else [(ys.length, x)]) := by
  have h := stepsFrom_snoc x ys 0 none
  simp only [Option.or_none, Nat.zero_add] at h
  exact h
theorem steps_last : ∀ ys : List Int, (steps ys).getLast?.map (·.2) = ys.getLast? := by
  intro ys
  have go : ∀ n : Nat, ∀ ys : List Int, ys.length = n → (steps ys).getLast?.map (·.2) = ys.getLast? := by
    intro n
    induction n with
    | zero => intro ys h; cases ys with
      | nil => rfl
      | cons a r => simp at h
    | succ n ih =>
      intro ys h
      have hne : ys ≠ [] := by intro z; rw [z] at h; simp at h
      have e := List.dropLast_concat_getLast hne
      have ih' := ih ys.dropLast (by rw [List.length_dropLast]; omega)
      generalize ys.dropLast = zs at e ih'
      generalize ys.getLast hne = x at e
      rw [← e, steps_snoc]
      split
      · rename_i c
        rw [List.append_nil, ih', c]
        simp
      · simp
  exact go _ ys rfl
theorem take_snoc {xs : List Int} {i : Nat} {x : Int} (h : xs[i]? = some x) : xs.take (i + 1) = xs.take i ++ [x] := by
  rw [List.take_add_one, h]; rfl
/-- the pieces that steps make, one by one -/
def pieces (n : Nat) (st : List (Nat × Int)) : List (List Int) := List.zipWith (fun s e => List.replicate (e - s.1) s.2) st ((st.drop 1).map (·.1) ++ [n])
theorem expand_pieces (n : Nat) : ∀ st : List (Nat × Int), expand n st = (pieces n st).flatten
  | [] => rfl
  | [s] => by simp [expand, pieces]
  | s :: t :: r => by
    have ih := expand_pieces n (t :: r)
    simp only [expand, ih, pieces, List.drop_succ_cons, List.drop_zero, List.map_cons, List.cons_append, List.zipWith_cons_cons, List.flatten_cons]
theorem pieces_len (n : Nat) (st : List (Nat × Int)) : (pieces n st).length = st.length := by
  unfold pieces
  rw [List.length_zipWith, List.length_append, List.length_map, List.length_drop]
  simp
  omega
theorem flat_take_len (ps : List (List Int)) (i : Nat) : (ps.take i).flatten.length ≤ ps.flatten.length := by
  have h : ps.flatten = (ps.take i).flatten ++ (ps.drop i).flatten := by rw [← List.flatten_append, List.take_append_drop]
  rw [h, List.length_append]; omega
theorem flat_take_snoc {ps : List (List Int)} {i : Nat} {p : List Int} (h : ps[i]? = some p) : (ps.take (i + 1)).flatten = (ps.take i).flatten ++ p := by
  rw [List.take_add_one, h, List.flatten_append]; simp
end Ma
namespace Ma
open PySem
theorem pieces_at {n : Nat} {st : List (Nat × Int)} {i : Nat} {s : Nat × Int} {e : Nat} (h1 : st[i]? = some s) (h2 : ((st.drop 1).map (·.1) ++ [n])[i]? = some e) : (pieces n st)[i]? = some (List.replicate (e - s.1) s.2) := by
  simp only [pieces, List.getElem?_zipWith, h1, h2]
theorem piece_len {n : Nat} {st : List (Nat × Int)} {i : Nat} {p : List Int} (h : (pieces n st)[i]? = some p) : p.length ≤ (pieces n st).flatten.length := by
  have h1 := flat_take_len (pieces n st) (i + 1)
  rw [flat_take_snoc h, List.length_append] at h1
  omega
end Ma
set_option Elab.async false
set_option linter.all false
set_option maxRecDepth 100000
set_option maxHeartbeats 4000000
/-! Defs as contracts by their names. -/
namespace L2
open PySem PySem.Spec PyProof.Rows
/-- the def x keeps the promise sp, with k frames of room -/
structure Cal (P : Program) (w : World) (K : PySem.W.Frag) (mg : Str → Option Value) (base : Heap) (x : Str) (k : Nat) (ps : List Str) (sp : Sp) : Prop where
  ex : ∃ f fd, FnOk P w K mg base (CXM P w) k f fd ps sp ∧ Binds K fd ps [] ∧ mg x = some (.ref f) ∧ PySem.W.keepIn K (.ref f) = true
/-- the same, also within an except suite -/
structure CalH (P : Program) (w : World) (K : PySem.W.Frag) (mg : Str → Option Value) (base : Heap) (x : Str) (k : Nat) (ps : List Str) (sp : Sp) : Prop where
  ex : ∃ f fd, FnOkH P w K mg base (CXM P w) k f fd ps sp ∧ Binds K fd ps [] ∧ mg x = some (.ref f) ∧ PySem.W.keepIn K (.ref f) = true
/-- the def x stands at the top as the text says -/
structure Dfn (K : PySem.W.Frag) (mg : Str → Option Value) (x : Str) (st : Stmt) (cdv : Value) : Prop where
  ex : ∃ f fd, Fun K x x st f fd ∧ mg x = some (.ref f) ∧ fd.code = cdv
theorem Cal.imp {P : Program} {w : World} {K : PySem.W.Frag} {mg : Str → Option Value} {base : Heap} {x : Str} {k : Nat} {ps : List Str} {sp sp' : Sp} (C : Cal P w K mg base x k ps sp) (h : ∀ vs H Q E, sp' vs H Q E → sp vs H Q E) : Cal P w K mg base x k ps sp' := by
  obtain ⟨f, fd, F, b, m, kp⟩ := C.ex
  exact ⟨f, fd, F.imp h, b, m, kp⟩
section
variable {P : Program} {w : World} {K : PySem.W.Frag} {mg : Str → Option Value} {base : Heap} {x : Str} {st : Stmt} {N ps : List Str} {k : Nat} {sp : Sp} {c : Value}
/-- a def that may raise -/
theorem Dfn.calM (D : Dfn K mg x st c) (S : FnScope N ps (defScope st)) (len : ∀ vs H Q E, sp vs H Q E → vs.length = ps.length)
    (hb : ∀ (kV doc pm : Value) (an : Option Addr) (cdv ct : Value) (us : List Value), us.length = ps.length → bindArgs (PySem.W.fnOf x x (defArgs st) (defBody st) (defScope st) .none kV doc pm an cdv ct) ⟨us, []⟩ = pure (ps.zip us))
    (hbody : ∀ (f : Addr) (A : Around) (outer : List Env) (s : Shared) (H : Hp) (vs : List V) (Q : VK) (E : XK), Room k (A.deeper (envOfC x (defScope st) s.heap.objs.size f c)) → sp vs H Q E →
      ∃ t, PSs (cxOf (CXM P w) P w K mg base N x (defScope st) f c A outer s H E) (defBody st) t ∧ t { nx := fun _ H' => Q .non H', rt := Q } (start N vs) H) : Cal P w K mg base x (k + 1) ps sp := by
  obtain ⟨f, fd, F, m, hc⟩ := D.ex
  have b := F.binds hb
  have kp := F.kp
  obtain ⟨oc, od, kV, doc, pm, an, cdv, ct, osl, rfl, lk, hcd⟩ := F.ex
  obtain rfl : cdv = c := hc
  exact ⟨f, _, fn_of lk hcd S len fun A outer s H vs Q E hr hsp => hbody f A outer s H vs Q E hr hsp, b, m, kp⟩
/-- a def that raises nothing -/
theorem Dfn.calN (D : Dfn K mg x st c) (S : FnScope N ps (defScope st)) (len : ∀ vs H Q E, sp vs H Q E → vs.length = ps.length)
    (hb : ∀ (kV doc pm : Value) (an : Option Addr) (cdv ct : Value) (us : List Value), us.length = ps.length → bindArgs (PySem.W.fnOf x x (defArgs st) (defBody st) (defScope st) .none kV doc pm an cdv ct) ⟨us, []⟩ = pure (ps.zip us))
    (hbody : ∀ (f : Addr) (A : Around) (outer : List Env) (s : Shared) (H : Hp) (vs : List V) (Q : VK) (E : XK), Room k (A.deeper (envOfC x (defScope st) s.heap.objs.size f c)) → sp vs H Q E →
      ∃ t, PSs (cxOf (CXM P w) P w K mg base N x (defScope st) f c A outer s H E).nox (defBody st) t ∧ t { nx := fun _ H' => Q .non H', rt := Q } (start N vs) H) : Cal P w K mg base x (k + 1) ps sp :=
  D.calM S len hb fun f A outer s H vs Q E hr hsp => let ⟨t, h, q⟩ := hbody f A outer s H vs Q E hr hsp; ⟨t, h.nox, q⟩
theorem Dfn.calH (D : Dfn K mg x st c) (S : FnScope N ps (defScope st)) (len : ∀ vs H Q E, sp vs H Q E → vs.length = ps.length)
    (hb : ∀ (kV doc pm : Value) (an : Option Addr) (cdv ct : Value) (us : List Value), us.length = ps.length → bindArgs (PySem.W.fnOf x x (defArgs st) (defBody st) (defScope st) .none kV doc pm an cdv ct) ⟨us, []⟩ = pure (ps.zip us))
    (hbody : ∀ (f : Addr) (A : Around) (outer : List Env) (s : Shared) (H : Hp) (vs : List V) (Q : VK) (E : XK), RoomH k (A.deeper (envOfC x (defScope st) s.heap.objs.size f c)) → sp vs H Q E →
      ∃ t, PSs (cxOfH (CXM P w) P w K mg base N x (defScope st) f c A outer s H E).nox (defBody st) t ∧ t { nx := fun _ H' => Q .non H', rt := Q } (start N vs) H) : CalH P w K mg base x (k + 1) ps sp := by
  obtain ⟨f, fd, F, m, hc⟩ := D.ex
  have b := F.binds hb
  have kp := F.kp
  obtain ⟨oc, od, kV, doc, pm, an, cdv, ct, osl, rfl, lk, hcd⟩ := F.ex
  obtain rfl : cdv = c := hc
  exact ⟨f, _, fn_ofH lk hcd S len fun A outer s H vs Q E hr hsp => let ⟨t, h, q⟩ := hbody f A outer s H vs Q E hr hsp; ⟨t, h.nox, q⟩, b, m, kp⟩
end
section
variable {X : Cx} {x : Str} {k j : Nat} {ps : List Str} {sp : Sp} {E : XK} {e : Expr} {es : List Expr} {t : TA} {p pos : Pos}
theorem pe_callN (C : Cal X.prog X.w X.K X.mg X.base x k ps sp) (hr : Room j X.A) (hg : Gl X x) (hx : Passes (CXM X.prog X.w) X E) (ha : PA X (e :: es) t) (hk : k ≤ j := by decide) (hdb : (x == ("__debug__" : Str)) = false := by decide)
    (he : starEach (e :: es) X.env = (false, eval e X.env) :: starEach es X.env := by rfl) (hpl : (backTo pos (starEach es X.env)).any (·.1) = false := by rfl) : PE X (.Call (.Name x p) (e :: es) [] pos) (tCall sp [] E t) := by
  obtain ⟨f, fd, F, b, m, kp⟩ := C.ex
  exact pe_call F (hr.mono hk) hg m kp b .nil hx ha hdb he hpl
theorem pe_callNH (C : CalH X.prog X.w X.K X.mg X.base x k ps sp) (hr : RoomH j X.A) (hg : Gl X x) (hx : Passes (CXM X.prog X.w) X E) (ha : PA X (e :: es) t) (hk : k ≤ j := by decide) (hdb : (x == ("__debug__" : Str)) = false := by decide)
    (he : starEach (e :: es) X.env = (false, eval e X.env) :: starEach es X.env := by rfl) (hpl : (backTo pos (starEach es X.env)).any (·.1) = false := by rfl) : PE X (.Call (.Name x p) (e :: es) [] pos) (tCall sp [] E t) := by
  obtain ⟨f, fd, F, b, m, kp⟩ := C.ex
  exact pe_callH F ⟨by have := hr.dp; omega, by have := hr.un; omega⟩ hg m kp b .nil hx ha hdb he hpl
/-- a def as a value -/
def tFn (mg : Str → Option Value) (x : Str) : TE := fun _ H Q => ∀ f, mg x = some (.ref f) → Q (.ref f) H
theorem pe_fn (C : Cal X.prog X.w X.K X.mg X.base x k ps sp) (hg : Gl X x) (hdb : (x == ("__debug__" : Str)) = false := by decide) : PE X (.Name x pos) (tFn X.mg x) := by
  obtain ⟨f, fd, F, b, m, kp⟩ := C.ex
  intro pins s σ H Q I h
  exact pe_glob (v := .ref f) hg m rfl hdb pins s σ H Q I (h f m)
end
/-- names that are built-ins': the program gives none of them -/
structure Blt (mg : Str → Option Value) : Prop where
  isinstance : mg "isinstance" = none
  bool : mg "bool" = none
  int : mg "int" = none
  tuple : mg "tuple" = none
  list : mg "list" = none
  len : mg "len" = none
  all : mg "all" = none
  zip : mg "zip" = none
  enumerate : mg "enumerate" = none
  range : mg "range" = none
  min : mg "min" = none
  max : mg "max" = none
  ValueError : mg "ValueError" = none
theorem boot_VE : bootBuiltins "ValueError" = some (.type "ValueError") := by decide +kernel
theorem boot_len : bootBuiltins "len" = some (.builtin "len") := by decide +kernel
/-! heaps -/
theorem Same.new {H : Hp} {p : Addr} (h : H p = none) (o : HO) : Same H (upd H p o) := fun b u q => by rw [upd_ne (ne_of_none q h)]; exact q
theorem ite_b {b : Bool} {A B : Prop} (h1 : b = true → A) (h2 : b = false → B) : if b = true then A else B := by
  cases b with
  | true => exact iteT (h1 rfl)
  | false => exact iteF (h2 rfl)
end L2
set_option Elab.async false
set_option linter.all false
set_option maxRecDepth 100000
set_option maxHeartbeats 4000000
/-! What each def of the program promises. -/
namespace L2
open PySem
def sp_whole : Sp := fun vs H Q _ => ∃ (v : V) (d : PyData) (lo hi : Int), vs = [v, .int lo, .int hi] ∧ Dd H v d ∧ Q (.bl (Ma.isWhole lo hi d)) H
def sp_b1 (f : PyData → Bool) : Sp := fun vs H Q _ => ∃ (v : V) (d : PyData), vs = [v] ∧ Dd H v d ∧ Q (.bl (f d)) H
def sp_b2 (f : Int → PyData → Bool) : Sp := fun vs H Q _ => ∃ (v : V) (d : PyData) (n : Int), vs = [v, .int n] ∧ Dd H v d ∧ Q (.bl (f n d)) H
end L2
namespace L2
open PySem
theorem DdL.get {H : Hp} : ∀ {xs : List V} {ds : List PyData} {i : Nat} {x : V}, DdL H xs ds → xs[i]? = some x → ∃ d, ds[i]? = some d ∧ Dd H x d
  | _, _, _, _, .nil, e => by simp at e
  | _, _, 0, _, .cons r _, e => by simp at e; subst e; exact ⟨_, rfl, r⟩
  | _, _, i + 1, x, .cons _ t, e => by
    obtain ⟨d, h1, h2⟩ := DdL.get (i := i) (x := x) t (by simpa using e)
    exact ⟨d, by simpa using h1, h2⟩
theorem DdL.len {H : Hp} {xs : List V} {ds : List PyData} (p : DdL H xs ds) : xs.length = ds.length := Paired.length p
theorem dI (i j : Int) : decide (V.int i = V.int j) = decide (i = j) := by
  by_cases h : i = j
  · subst h; simp
  · rw [decide_eq_false h, decide_eq_false fun z => h (V.int.inj z)]
theorem isRow_len {n : Int} {ds : List PyData} (h : ds.length ≠ 2) : Ma.isRow n (.tuple ds) = false := by
  cases ds with
  | nil => rfl
  | cons a r =>
    cases r with
    | nil => rfl
    | cons b r =>
      cases r with
      | nil => exact absurd rfl h
      | cons c r => rfl
theorem isLine_len {ds : List PyData} (h : ds.length ≠ 2) : Ma.isLine (.tuple ds) = false := by
  cases ds with
  | nil => rfl
  | cons a r =>
    cases r with
    | nil => cases a <;> rfl
    | cons b r =>
      cases r with
      | nil => exact absurd rfl h
      | cons c r => cases a <;> rfl
theorem all_take {f : PyData → Bool} {ds : List PyData} {i : Nat} {d : PyData} (h : (ds.take i).all f = true) (e : ds[i]? = some d) (hd : f d = true) : (ds.take (i + 1)).all f = true := by
  rw [List.take_add_one, e, List.all_append, h]
  simp [hd]
theorem all_no {f : PyData → Bool} {ds : List PyData} {i : Nat} {d : PyData} (e : ds[i]? = some d) (hd : f d = false) : ds.all f = false := by
  rw [List.all_eq_false]
  exact ⟨d, List.mem_of_getElem? e, by simp [hd]⟩
/-- the ground of a law, by its addresses -/
structure Gd where
  Ts : List Addr
  bm : Addr
  ob : Obj
abbrev Gd.On (g : Gd) (H : Hp) : Prop := Grd g.Ts g.bm g.ob H
def sp_g2 (g : Gd) (f : Int → PyData → Bool) : Sp := fun vs H Q _ => ∃ (v : V) (d : PyData) (n : Int), vs = [v, .int n] ∧ Dd H v d ∧ g.On H ∧ ∀ H', Same H H' → Q (.bl (f n d)) H'
def sp_g1 (g : Gd) (f : PyData → Bool) : Sp := fun vs H Q _ => ∃ (v : V) (d : PyData), vs = [v] ∧ Dd H v d ∧ g.On H ∧ ∀ H', Same H H' → Q (.bl (f d)) H'
/-- refused with the class at C where f says no -/
def sp_need (g : Gd) (f : PyData → Bool) (C : Addr) : Sp := fun vs H Q E => ∃ (v : V) (d : PyData), vs = [v] ∧ Dd H v d ∧ g.On H ∧ ∀ H', Same H H' → (f d = true → Q .non H') ∧ (f d = false → E (.ref C) none H')
end L2
set_option Elab.async false
set_option linter.all false
set_option maxRecDepth 100000
set_option maxHeartbeats 4000000
/-! Loops by an invariant: zip, enumerate. -/
namespace L2
open PySem
theorem for_zip {K : PySem.W.Frag} {b1 b2 : Bool} {a b : Addr} {xs ys : List V} {g : TG} {tb : TS} {D : Ends} {σ : St} {H : Hp} (Pv : Nat → St → Hp → Prop) (h0 : Pv 0 σ H) (hl : ∀ i σ H, Pv i σ H → Sq b1 K H a xs ∧ Sq b2 K H b ys)
    (hs : ∀ i x y T σ H, xs[i]? = some x → ys[i]? = some y → Pv i σ H → H T = none → g (.ref T) σ (upd H T (.tup [x, y])) fun σ2 H2 => tb { D with nx := Pv (i + 1), ct := Pv (i + 1), bk := D.nx } σ2 H2)
    (hd : ∀ σ H, Pv (min xs.length ys.length) σ H → D.nx σ H) :
    ∃ W : Nat → Nat → St → Hp → Prop, (∃ m, W 0 m σ H) ∧ ∀ i m σ H, W i m σ H →
      ((ItzS K b1 b2 a b).stop i H ∧ D.nx σ H) ∨ ((ItzS K b1 b2 a b).go i H ∧ ∃ N : St → Hp → Prop, (∀ σ' H', N σ' H' → ∃ m', m' < m ∧ W (i + 1) m' σ' H') ∧ ∀ x H', (ItzS K b1 b2 a b).yld i H x H' → g x σ H' fun σ2 H2 => tb { D with nx := N, ct := N, bk := D.nx } σ2 H2) := by
  refine ⟨fun i m σ H => m = min xs.length ys.length - i ∧ i ≤ min xs.length ys.length ∧ Pv i σ H, ⟨_, rfl, Nat.zero_le _, h0⟩, ?_⟩
  rintro i m σ H ⟨rfl, hi, p⟩
  obtain ⟨q1, q2⟩ := hl i σ H p
  by_cases hlt : i < min xs.length ys.length
  · have l1 : i < xs.length := by omega
    have l2 : i < ys.length := by omega
    refine .inr ⟨⟨xs, ys, xs[i], ys[i], q1, q2, by simp [l1], by simp [l2]⟩, Pv (i + 1), fun σ' H' p' => ⟨_, by omega, rfl, hlt, p'⟩, fun v H' y => ?_⟩
    obtain ⟨T, x, z, rfl, hT, rfl, e1, e2⟩ := y
    exact hs i x z T σ H (e1 xs q1) (e2 ys q2) p hT
  · have e : i = min xs.length ys.length := by omega
    subst e
    exact .inl ⟨⟨xs, ys, q1, q2, by omega⟩, hd σ H p⟩
theorem for_enum {K : PySem.W.Frag} {a : Addr} {xs : List V} {g : TG} {tb : TS} {D : Ends} {σ : St} {H : Hp} (Pv : Nat → St → Hp → Prop) (h0 : Pv 0 σ H) (hl : ∀ i σ H, Pv i σ H → SqL K H a xs)
    (hs : ∀ i x T σ H, xs[i]? = some x → Pv i σ H → H T = none → g (.ref T) σ (upd H T (.tup [.int (i : Nat), x])) fun σ2 H2 => tb { D with nx := Pv (i + 1), ct := Pv (i + 1), bk := D.nx } σ2 H2)
    (hd : ∀ σ H, Pv xs.length σ H → D.nx σ H) :
    ∃ W : Nat → Nat → St → Hp → Prop, (∃ m, W 0 m σ H) ∧ ∀ i m σ H, W i m σ H →
      ((Ite K a).stop i H ∧ D.nx σ H) ∨ ((Ite K a).go i H ∧ ∃ N : St → Hp → Prop, (∀ σ' H', N σ' H' → ∃ m', m' < m ∧ W (i + 1) m' σ' H') ∧ ∀ x H', (Ite K a).yld i H x H' → g x σ H' fun σ2 H2 => tb { D with nx := N, ct := N, bk := D.nx } σ2 H2) := by
  refine ⟨fun i m σ H => m = xs.length - i ∧ i ≤ xs.length ∧ Pv i σ H, ⟨_, rfl, Nat.zero_le _, h0⟩, ?_⟩
  rintro i m σ H ⟨rfl, hi, p⟩
  have q1 := hl i σ H p
  by_cases hlt : i < xs.length
  · refine .inr ⟨⟨xs, xs[i], q1, by simp [hlt]⟩, Pv (i + 1), fun σ' H' p' => ⟨_, by omega, rfl, hlt, p'⟩, fun v H' y => ?_⟩
    obtain ⟨T, x, rfl, hT, rfl, e1⟩ := y
    exact hs i x T σ H (e1 xs q1) p hT
  · have e : i = xs.length := by omega
    subst e
    exact .inl ⟨⟨xs, q1, Nat.le_refl _⟩, hd σ H p⟩
/-- what a row is -/
theorem row_inv {H : Hp} {x : V} {d : PyData} {n : Int} (h : Dd H x d) (r : Ma.isRow n d = true) : ∃ a p v, x = .ref a ∧ H a = some (.tup [.int p, .int v]) ∧ d = .tuple [.int p, .int v] ∧ 0 ≤ p ∧ p ≤ n - 1 ∧ -999 ≤ v ∧ v ≤ 999 := by
  cases h with
  | @tup a xs ds ha p =>
    match xs, ds, p, ha, r with
    | _, [], _, _, r => cases r
    | _, [_], _, _, r => cases r
    | _, _ :: _ :: _ :: _, _, _, r => cases r
    | [x, y], [dx, dy], .cons px (.cons py .nil), ha, r =>
      simp only [Ma.isRow, Bool.and_eq_true] at r
      obtain ⟨r1, r2⟩ := r
      cases px with
      | int i =>
        cases py with
        | int j =>
          simp only [Ma.isPlace, Ma.isValue, Ma.isWhole, Bool.and_eq_true, decide_eq_true_eq] at r1 r2
          exact ⟨a, i, j, rfl, ha, rfl, r1.1, r1.2, r2.1, r2.2⟩
        | _ => cases r2
      | _ => cases r1
  | _ => cases r
theorem fol (p v p' v' : Int) : Ma.follows (.tuple [.int p, .int v]) (.tuple [.int p', .int v']) = (decide (p < p') && !decide (v = v')) := rfl
theorem take_ch {ds : List PyData} {i : Nat} {d1 d2 : PyData} : (∀ j, j < i → ∀ a b, ds[j]? = some a → ds[j + 1]? = some b → Ma.follows a b = true) → ds[i]? = some d1 → ds[i + 1]? = some d2 → Ma.follows d1 d2 = true →
    (∀ j, j < i + 1 → ∀ a b, ds[j]? = some a → ds[j + 1]? = some b → Ma.follows a b = true) := by
  intro h e1 e2 f j hj a b ea eb
  by_cases hji : j = i
  · subst hji
    rw [e1] at ea; rw [e2] at eb
    cases ea; cases eb
    exact f
  · exact h j (by omega) a b ea eb
theorem chain_of : ∀ {ds : List PyData}, (∀ j a b, ds[j]? = some a → ds[j + 1]? = some b → Ma.follows a b = true) → Ma.chain ds = true
  | [], _ => rfl
  | [_], _ => rfl
  | a :: b :: r, h => by
    simp only [Ma.chain, Bool.and_eq_true]
    exact ⟨h 0 a b rfl rfl, chain_of fun j x y e1 e2 => h (j + 1) x y (by simpa using e1) (by simpa using e2)⟩
theorem chain_no : ∀ {ds : List PyData} {j : Nat} {a b : PyData}, ds[j]? = some a → ds[j + 1]? = some b → Ma.follows a b = false → Ma.chain ds = false
  | [], _, _, _, e, _, _ => by simp at e
  | [_], j, _, _, _, e, _ => by simp at e
  | x :: y :: r, 0, a, b, e1, e2, f => by
    simp at e1 e2
    subst e1 e2
    simp [Ma.chain, f]
  | x :: y :: r, j + 1, a, b, e1, e2, f => by
    simp only [Ma.chain, chain_no (ds := y :: r) (j := j) (by simpa using e1) (by simpa using e2) f, Bool.and_false]
end L2
namespace L2
open PySem
theorem Same.upd {H H2 : Hp} {p : Addr} {o : HO} (s : Same H H2) (hp : H p = none) : Same H (upd H2 p o) := fun b u q => by rw [upd_ne (ne_of_none q hp)]; exact s b u q
/-- steps, as tuples that stand in the heap -/
abbrev Tups (H : Hp) : List V → List (Nat × Int) → Prop := Paired fun v s => ∃ b, v = .ref b ∧ H b = some (.tup [.int (s.1 : Nat), .int s.2])
theorem Tups.upd {H : Hp} {p : Addr} {xs : List V} {o : HO} (hp : H p = some (.lst xs)) {us : List V} {st : List (Nat × Int)} (t : Tups H us st) : Tups (L2.upd H p o) us st :=
  Paired.imp' (fun v s ⟨b, e1, e2⟩ => ⟨b, e1, by rw [upd_ne (ne_of e2 hp (by intro z; cases z))]; exact e2⟩) t
theorem Tups.same {H H' : Hp} (e : Same H H') {us : List V} {st : List (Nat × Int)} (t : Tups H us st) : Tups H' us st := Paired.imp' (fun v s ⟨b, e1, e2⟩ => ⟨b, e1, e _ _ e2⟩) t
theorem Tups.snoc {H : Hp} : ∀ {us : List V} {st : List (Nat × Int)} {b : Addr} {s : Nat × Int}, Tups H us st → H b = some (.tup [.int (s.1 : Nat), .int s.2]) → Tups H (us ++ [.ref b]) (st ++ [s])
  | _, _, b, s, .nil, h => .cons ⟨b, rfl, h⟩ .nil
  | _, _, b, s, .cons r t, h => .cons r (Tups.snoc t h)
theorem Tups.dd {H : Hp} : ∀ {us : List V} {st : List (Nat × Int)}, Tups H us st → DdL H us (st.map Ma.stepD)
  | _, _, .nil => .nil
  | _, _, .cons ⟨b, e1, e2⟩ t => .cons (by rw [e1]; exact .tup e2 (.cons (.int _) (.cons (.int _) .nil))) (Tups.dd t)
theorem Tups.of {H : Hp} : ∀ {us : List V} {st : List (Nat × Int)}, DdL H us (st.map Ma.stepD) → Tups H us st
  | _, [], .nil => .nil
  | _, s :: r, .cons x t => by
    refine .cons ?_ (Tups.of t)
    cases x with
    | @tup a xs ds ha p =>
      match xs, p, ha with
      | [_, _], .cons (.int _) (.cons (.int _) .nil), ha => exact ⟨a, rfl, ha⟩
theorem Tups.get {H : Hp} {us : List V} {st : List (Nat × Int)} {i : Nat} {x : V} : Tups H us st → us[i]? = some x → ∃ s b, st[i]? = some s ∧ x = .ref b ∧ H b = some (.tup [.int (s.1 : Nat), .int s.2]) := by
  intro t e
  induction t generalizing i with
  | nil => simp at e
  | cons r t ih =>
    cases i with
    | zero =>
      simp at e; subst e
      obtain ⟨b, e1, e2⟩ := r
      exact ⟨_, b, rfl, e1, e2⟩
    | succ i =>
      obtain ⟨s, b, h1, h2, h3⟩ := ih (by simpa using e)
      exact ⟨s, b, by simpa using h1, h2, h3⟩
theorem Tups.last {H : Hp} {us : List V} {st : List (Nat × Int)} (t : Tups H us st) (hne : us ≠ []) : ∃ s b, st.getLast? = some s ∧ atI us (-1) = some (.ref b) ∧ H b = some (.tup [.int (s.1 : Nat), .int s.2]) := by
  have e : us[us.length - 1]? = some (us.getLast hne) := by rw [List.getElem?_eq_getElem (by cases us with | nil => exact absurd rfl hne | cons _ _ => simp), List.getLast_eq_getElem]
  obtain ⟨s, b, h1, h2, h3⟩ := t.get e
  refine ⟨s, b, ?_, ?_, h3⟩
  · rw [List.getLast?_eq_getElem?, ← t.length]; exact h1
  · rw [← h2]
    have z := atI_last us.dropLast (us.getLast hne)
    rw [List.dropLast_concat_getLast] at z
    exact z
/-- a list of ints is handed in, the line of it comes back -/
def sp_line : Sp := fun vs H Q _ => ∃ (a : Addr) (xs : List Int), vs = [.ref a] ∧ H a = some (.lst (xs.map V.int)) ∧ xs.length ≤ 1000 ∧ ∀ v H', Same H H' → Dd H' v (Ma.lineD xs) → Q v H'
theorem ints_at {xs : List Int} {i : Nat} {v : V} (h : (xs.map V.int)[i]? = some v) : ∃ x, xs[i]? = some x ∧ v = .int x := by
  rw [List.getElem?_map] at h
  cases e : xs[i]? with
  | none => rw [e] at h; cases h
  | some x => rw [e] at h; exact ⟨x, rfl, (Option.some.inj h).symm⟩
theorem small {n : Nat} (h : n ≤ 1000000) : n ≤ sizeLine := Nat.le_trans h (by decide)
end L2
namespace L2
open PySem
theorem none_of {H H' : Hp} {p : Addr} (s : Same H H') (h : H' p = none) : H p = none := by
  cases e : H p with
  | none => rfl
  | some u => rw [s _ _ e] at h; cases h
theorem cut1 {xs : List V} (h : 1 ≤ xs.length) : cutV xs (some 1) none = xs.drop 1 := by
  unfold cutV
  rw [show HT.sIx xs.length 0 (some 1) = 1 from by simp only [HT.sIx]; rw [if_neg (by decide)]; have e : ((1 : Int).toNat) = 1 := rfl; rw [e]; omega]
  rw [show HT.sIx xs.length xs.length none = xs.length from rfl]
  exact List.take_of_length_le (by simp)
/-- a line in the heap -/
theorem line_at {H : Hp} {v : V} {xs : List Int} (h : Dd H v (Ma.lineD xs)) : ∃ a b st, v = .ref a ∧ H a = some (.tup [.int (xs.length : Nat), .ref b]) ∧ H b = some (.tup st) ∧ Tups H st (Ma.steps xs) := by
  have h : Dd H v (.tuple [.int (xs.length : Nat), .tuple ((Ma.steps xs).map Ma.stepD)]) := h
  cases h with
  | @tup a us ds ha p =>
    match us, p, ha with
    | [_, _], .cons (.int _) (.cons hs .nil), ha =>
      cases hs with
      | @tup b st ds hb p' => exact ⟨a, b, st, rfl, ha, hb, Tups.of p'⟩
def sp_plain (g : Gd) (C : Addr) : Sp := fun vs H Q E => ∃ v d, vs = [v] ∧ Dd H v d ∧ g.On H ∧
  ((Ma.isLine d = false ∧ ∀ H', Same H H' → E (.ref C) none H') ∨ ∃ xs, Ma.OkV xs ∧ d = Ma.lineD xs ∧ ∀ p H', Same H H' → H p = none → H' p = some (.lst (xs.map V.int)) → Q (.ref p) H')
end L2
namespace L2
open PySem
/-- no test: the block's element -/
theorem tYesT {σ : St} {H : Hp} {A B : Hp → Prop} (h : A H) : tYes σ H fun b H3 => if b = true then A H3 else B H3 := by
  unfold tYes
  exact iteT (B := B H) h
end L2
set_option Elab.async false
set_option linter.all false
set_option maxRecDepth 100000
set_option maxHeartbeats 4000000
namespace Ma
open PySem
end Ma
namespace L2
open PySem
end L2
set_option Elab.async false
set_option linter.all false
set_option maxRecDepth 100000
set_option maxHeartbeats 4000000
/-! A law's draws: the town at t grows, all else stands. -/
namespace L2
open PySem
/-- the heap without what stands at t -/
def wo (t : Addr) (H : Hp) : Hp := fun b => if b = t then none else H b
theorem wo_ne {t b : Addr} {H : Hp} (h : b ≠ t) : wo t H b = H b := if_neg h
theorem wo_self {t : Addr} {H : Hp} : wo t H t = none := if_pos rfl
theorem wo_le (t : Addr) (H : Hp) : Same (wo t H) H := fun b u h => by
  by_cases e : b = t
  · subst e; rw [wo_self] at h; cases h
  · rwa [wo_ne e] at h
theorem wo_same {t : Addr} {H H' : Hp} (s : Same H H') : Same (wo t H) (wo t H') := fun b u h => by
  by_cases e : b = t
  · subst e; rw [wo_self] at h; cases h
  · rw [wo_ne e] at h ⊢
    exact s b u h
theorem wo_upd {t : Addr} {H : Hp} {o : HO} : Same (wo t H) (wo t (upd H t o)) := fun b u h => by
  by_cases e : b = t
  · subst e; rw [wo_self] at h; cases h
  · rw [wo_ne e] at h ⊢
    rw [upd_ne e]; exact h
/-- the town: so many cells at most -/
def Town (t : Addr) (n : Nat) (H : Hp) : Prop := ∃ zs, H t = some (.lst zs) ∧ zs.length ≤ n
theorem Town.same {t : Addr} {n : Nat} {H H' : Hp} (s : Same H H') (h : Town t n H) : Town t n H' := let ⟨zs, h1, h2⟩ := h; ⟨zs, s _ _ h1, h2⟩
theorem Town.mono {t : Addr} {n m : Nat} {H : Hp} (h : Town t n H) (l : n ≤ m) : Town t m H := let ⟨zs, h1, h2⟩ := h; ⟨zs, h1, Nat.le_trans h2 l⟩
/-- the script, apart from the town -/
def Scr (K : PySem.W.Frag) (a t : Addr) (H : Hp) : Prop := ∃ ns : List Int, SqL K (wo t H) a (ns.map V.int)
theorem Scr.same {K : PySem.W.Frag} {a t : Addr} {H H' : Hp} (h : Scr K a t H) (s : Same (wo t H) (wo t H')) : Scr K a t H' := let ⟨ns, h⟩ := h; ⟨ns, s.seq h⟩
theorem dp_ints (K : PySem.W.Frag) (H : Hp) : ∀ ns : List Int, DpAll K H (ns.map V.int) (ns.map PyData.int)
  | [] => .nil
  | n :: r => .cons (.int n) (dp_ints K H r)
def sp_cell (K : PySem.W.Frag) : Sp := fun vs H Q _ => ∃ (a : Addr) (ns : List Int) (k : Nat), vs = [.ref a, .int (k : Nat)] ∧ SqL K H a (ns.map V.int) ∧ ∀ (r : Int) H', Same H H' → Q (.int r) H'
def sp_mixed (K : PySem.W.Frag) : Sp := fun vs H Q _ => ∃ (a : Addr) (ns : List Int) (k : Nat) (m : Int), vs = [.ref a, .int (k : Nat), .int m] ∧ SqL K H a (ns.map V.int) ∧ 0 < m ∧ ∀ (r : Int) H', 0 ≤ r → r < m → Same H H' → Q (.int r) H'
def sp_draw (K : PySem.W.Frag) : Sp := fun vs H Q _ => ∃ (a t : Addr) (m : Int) (n : Nat), vs = [.ref a, .ref t, .int m] ∧ 0 < m ∧ Scr K a t H ∧ Town t n H ∧ n ≤ 5000 ∧ ∀ (r : Int) H', 0 ≤ r → r < m → Same (wo t H) (wo t H') → Town t (n + 1) H' → Q (.int r) H'
def sp_pick (K : PySem.W.Frag) : Sp := fun vs H Q _ => ∃ (a t s : Addr) (xs : List V) (n : Nat), vs = [.ref a, .ref t, .ref s] ∧ 0 < xs.length ∧ wo t H s = some (.lst xs) ∧ Scr K a t H ∧ Town t n H ∧ n ≤ 5000 ∧ ∀ x H', x ∈ xs → Same (wo t H) (wo t H') → Town t (n + 1) H' → Q x H'
theorem lay_map {α : Type} {f : α → PyData} (h : ∀ a, (f a).canLay0 = true) : ∀ xs : List α, PyData.canLayAll0 (xs.map f) = true
  | [] => rfl
  | x :: r => by rw [List.map_cons, PyData.canLayAll0, h x, lay_map h r]; rfl
theorem dep_map {α : Type} {f : α → PyData} {n : Nat} (h : ∀ a, (f a).depth ≤ n) : ∀ xs : List α, PyData.depthAll (xs.map f) ≤ n
  | [] => Nat.zero_le _
  | x :: r => by rw [List.map_cons, PyData.depthAll]; exact Nat.max_le.mpr ⟨h x, dep_map h r⟩
theorem shaped_ints (ns : List Int) : SeqAt.shaped (.list (ns.map PyData.int)) = true := by
  have h1 := lay_map (f := PyData.int) (fun _ => rfl) ns
  have h2 := dep_map (f := PyData.int) (n := 0) (fun _ => Nat.le_refl _) ns
  have h3 : (PyData.list (ns.map PyData.int)).depth ≤ 64 := by rw [PyData.depth]; omega
  simp only [SeqAt.shaped, PyData.canLay0, h1, Bool.true_and, decide_eq_true h3]
theorem eqv_self {d : PyData} (h : SeqAt.shaped d = true) : PyData.eqv d d = true := SeqAt.eqv_refl d (SeqAt.canLay_of_shaped h)
end L2
set_option Elab.async false
set_option linter.all false
set_option maxRecDepth 100000
set_option maxHeartbeats 4000000
/-! Which refusal it is. -/
namespace L2
open PySem
def refD (j : Nat) : PyData := .tuple [.str "refused", .int (j : Nat)]
/-- the class at C is the one with the number j among Cs -/
structure Cl10 (K : PySem.W.Frag) (Cs : List Addr) (j : Nat) (C : Addr) : Prop where
  at_ : j < Cs.length ∧ Cs[j]? = some C
  ok : ∀ i D, Cs[i]? = some D → PySem.W.kitOne K (.ref C) (.ref D) = some (decide (i = j))
  ve : PySem.W.kitOne K (.ref C) (.type "ValueError") = some true
  ex : ExK K C
def sp_which (K : PySem.W.Frag) (Cs : List Addr) : Sp := fun vs H Q _ => ∃ ea C j, vs = [.ref ea] ∧ H ea = some (ExcIs ea C) ∧ Cl10 K Cs j C ∧ ∀ v H', Same H H' → Dd H' v (refD j) → Q v H'
end L2
set_option Elab.async false
set_option linter.all false
set_option maxRecDepth 100000
set_option maxHeartbeats 4000000
namespace L2
open PySem
/-- refused: what the law makes of it -/
def rfs (K : PySem.W.Frag) (LE : Addr) (Cs : List Addr) (Q : VK) : XK := fun c _ H2 => ∃ C j, c = .ref C ∧ Cl10 K Cs j C ∧ PySem.W.exmOne K (.ref C) (.ref LE) = some true ∧ ∀ v H', Same H2 H' → Dd H' v (refD j) → Q v H'
theorem fnsOf {P : Program} {w : World} {K : PySem.W.Frag} {mg : Str → Option Value} {base : Heap} {x : Str} {k j : Nat} {ps : List Str} {sp : Sp} {f : Addr} (C : Cal P w K mg base x k ps sp) (m : mg x = some (.ref f)) (hk : k ≤ j) : ∃ fd ps, FnOk P w K mg base (CXM P w) j f fd ps sp ∧ Binds K fd ps [] ∧ PySem.W.keepIn K (.ref f) = true := by
  obtain ⟨f', fd, F, b, m', kp⟩ := C.ex
  rw [m] at m'
  cases m'
  exact ⟨fd, ps, F.mono hk, b, kp⟩
end L2
set_option Elab.async false
set_option linter.all false
set_option maxRecDepth 100000
set_option maxHeartbeats 4000000
/-! Rows in the heap, and the state of a law. -/
namespace Ma
open PySem
def rowD (p : Int × Int) : PyData := .tuple [.int p.1, .int p.2]
def OkR (n : Int) (rs : List (Int × Int)) : Prop := ∀ p ∈ rs, 0 ≤ p.1 ∧ p.1 < n ∧ -999 ≤ p.2 ∧ p.2 ≤ 999
theorem OkR.snoc {n : Int} {rs : List (Int × Int)} (h : OkR n rs) {p v : Int} (h1 : 0 ≤ p) (h2 : p < n) (h3 : -999 ≤ v) (h4 : v ≤ 999) : OkR n (rs ++ [(p, v)]) := by
  intro q hq
  rcases List.mem_append.mp hq with z | z
  · exact h q z
  · obtain rfl : q = (p, v) := by simpa using z
    exact ⟨h1, h2, h3, h4⟩
end Ma
namespace L2
open PySem
abbrev Prs (H : Hp) : List V → List (Int × Int) → Prop := Paired fun v s => ∃ b, v = .ref b ∧ H b = some (.tup [.int s.1, .int s.2])
theorem Prs.same {H H' : Hp} (e : Same H H') {us : List V} {st : List (Int × Int)} (t : Prs H us st) : Prs H' us st := Paired.imp' (fun v s ⟨b, e1, e2⟩ => ⟨b, e1, e _ _ e2⟩) t
theorem Prs.upd {H : Hp} {p : Addr} {xs : List V} {o : HO} (hp : H p = some (.lst xs)) {us : List V} {st : List (Int × Int)} (t : Prs H us st) : Prs (L2.upd H p o) us st :=
  Paired.imp' (fun v s ⟨b, e1, e2⟩ => ⟨b, e1, by rw [upd_ne (ne_of e2 hp (by intro z; cases z))]; exact e2⟩) t
theorem Prs.snoc {H : Hp} : ∀ {us : List V} {st : List (Int × Int)} {b : Addr} {p v : Int}, Prs H us st → H b = some (.tup [.int p, .int v]) → Prs H (us ++ [.ref b]) (st ++ [(p, v)])
  | _, _, b, p, v, .nil, h => .cons ⟨b, rfl, h⟩ .nil
  | _, _, b, p, v, .cons r t, h => .cons r (Prs.snoc t h)
theorem Prs.dd {H : Hp} : ∀ {us : List V} {st : List (Int × Int)}, Prs H us st → DdL H us (st.map Ma.rowD)
  | _, _, .nil => .nil
  | _, _, .cons ⟨b, e1, e2⟩ t => .cons (by rw [e1]; exact .tup e2 (.cons (.int _) (.cons (.int _) .nil))) (Prs.dd t)
theorem Prs.get {H : Hp} {us : List V} {st : List (Int × Int)} {i : Nat} {x : V} : Prs H us st → us[i]? = some x → ∃ s b, st[i]? = some s ∧ x = .ref b ∧ H b = some (.tup [.int s.1, .int s.2]) := by
  intro t e
  induction t generalizing i with
  | nil => simp at e
  | cons r t ih =>
    cases i with
    | zero =>
      simp at e; subst e
      obtain ⟨b, e1, e2⟩ := r
      exact ⟨_, b, rfl, e1, e2⟩
    | succ i =>
      obtain ⟨s, b, h1, h2, h3⟩ := ih (by simpa using e)
      exact ⟨s, b, by simpa using h1, h2, h3⟩
theorem wo_new {t : Addr} {H : Hp} {o : HO} (h : H t = none) : Same H (wo t (upd H t o)) := fun b u e => by
  have : b ≠ t := ne_of_none e h
  rw [wo_ne this, upd_ne this]; exact e
theorem Town.ne {t p : Addr} {n : Nat} {H : Hp} (h : Town t n H) (hp : H p = none) : p ≠ t := fun z => by
  obtain ⟨zs, h1, _⟩ := h
  rw [z, h1] at hp; cases hp
theorem Town.new {t p : Addr} {n : Nat} {H : Hp} {o : HO} (h : Town t n H) (hp : H p = none) : Town t n (upd H p o) := h.same (Same.new hp o)
theorem wo_none {t p : Addr} {H : Hp} (hp : H p = none) : wo t H p = none := by
  by_cases e : p = t
  · subst e; exact wo_self
  · rw [wo_ne e]; exact hp
theorem wo_at {t p : Addr} {H : Hp} {o : HO} (h : wo t H p = some o) : p ≠ t ∧ H p = some o := by
  by_cases e : p = t
  · subst e; rw [wo_self] at h; cases h
  · rw [wo_ne e] at h; exact ⟨e, h⟩
theorem DdL.rep {H : Hp} {x : V} {d : PyData} (h : Dd H x d) : ∀ n : Nat, DdL H (List.replicate n x) (List.replicate n d)
  | 0 => .nil
  | n + 1 => .cons h (DdL.rep h n)
theorem DdL.app {H : Hp} : ∀ {xs ys : List V} {ds es : List PyData}, DdL H xs ds → DdL H ys es → DdL H (xs ++ ys) (ds ++ es)
  | _, _, _, _, .nil, q => q
  | _, _, _, _, .cons r t, q => .cons r (DdL.app t q)
end L2
set_option Elab.async false
set_option linter.all false
set_option maxRecDepth 100000
set_option maxHeartbeats 4000000
namespace L2
open PySem
/-- the state of a law with rows: the script at a, the town at t, the rows at r -/
structure Bs (K : PySem.W.Frag) (g : Gd) (a t : Addr) (n : Nat) (H : Hp) : Prop where
  scr : Scr K a t H
  on : g.On (wo t H)
  town : Town t n H
theorem Bs.step {K : PySem.W.Frag} {g : Gd} {a t : Addr} {n m : Nat} {H H' : Hp} (b : Bs K g a t n H) (s : Same (wo t H) (wo t H')) (T : Town t m H') : Bs K g a t m H' := ⟨b.scr.same s, b.on.same s, T⟩
theorem Bs.full {K : PySem.W.Frag} {g : Gd} {a t : Addr} {n : Nat} {H : Hp} (b : Bs K g a t n H) : g.On H := b.on.same (wo_le t H)
/-- a new object beside the town -/
theorem al {t p : Addr} {n : Nat} {H : Hp} (o : HO) (T : Town t n H) (hp : H p = none) : Same (wo t H) (wo t (upd H p o)) ∧ wo t (upd H p o) p = some o ∧ Town t n (upd H p o) :=
  ⟨wo_same (Same.new hp o), by rw [wo_ne (T.ne hp)]; exact upd_same, T.new hp⟩
/-- things that are no rows -/
def Bd (n : Int) (H : Hp) (x : V) : Prop := ∃ d, Dd H x d ∧ Ma.areRows n d = false
theorem Bd.same {n : Int} {H H' : Hp} {x : V} (b : Bd n H x) (s : Same H H') : Bd n H' x := let ⟨d, h1, h2⟩ := b; ⟨d, h1.same s, h2⟩
def BL (n : Int) (H : Hp) (xs : List V) : Prop := ∀ x ∈ xs, Bd n H x
theorem BL.same {n : Int} {H H' : Hp} {xs : List V} (b : BL n H xs) (s : Same H H') : BL n H' xs := fun x hx => (b x hx).same s
theorem BL.snoc {n : Int} {H : Hp} {xs : List V} {x : V} (b : BL n H xs) (h : Bd n H x) : BL n H (xs ++ [x]) := fun z hz => by
  rcases List.mem_append.mp hz with z1 | z1
  · exact b z z1
  · obtain rfl : z = x := by simpa using z1
    exact h
theorem BL.app {n : Int} {H : Hp} {xs ys : List V} (b : BL n H xs) (c : BL n H ys) : BL n H (xs ++ ys) := fun z hz => by
  rcases List.mem_append.mp hz with z1 | z1
  · exact b z z1
  · exact c z z1
end L2
set_option Elab.async false
set_option linter.all false
set_option maxRecDepth 100000
set_option maxHeartbeats 4000000
/-! Items of displays whose star is seen at once. -/
namespace L2
open PySem
section
variable {X : Cx} {es : List Expr} {te : TE} {t : TA} {xs : List Expr} {k : Nat} {pos : Pos} {a b : Expr} {op : Operator}
theorem star_T (env : Env) {x1} : starEach (.Tuple xs x1 pos :: es) env = (false, eval (.Tuple xs x1 pos) env) :: starEach es env := rfl
theorem star_L (env : Env) : starEach (.List xs pos :: es) env = (false, eval (.List xs pos) env) :: starEach es env := rfl
theorem star_C (env : Env) {ks} : starEach (.Call a xs ks pos :: es) env = (false, eval (.Call a xs ks pos) env) :: starEach es env := rfl
theorem pa_T {x1} (ha : PE X (.Tuple xs x1 pos) te) (hr : PA X es t) : PA X (.Tuple xs x1 pos :: es) (tCons te t) := pa_cons ha hr (star_T _)
theorem pa_L (ha : PE X (.List xs pos) te) (hr : PA X es t) : PA X (.List xs pos :: es) (tCons te t) := pa_cons ha hr (star_L _)
theorem pa_C {ks} (ha : PE X (.Call a xs ks pos) te) (hr : PA X es t) : PA X (.Call a xs ks pos :: es) (tCons te t) := pa_cons ha hr (star_C _)
end
end L2
namespace L2
open PySem
end L2
namespace L2
open PySem
/-- a line is made of tuples: the town is none of them -/
theorem line_wo {t : Addr} {n : Nat} {H : Hp} {v : V} {xs : List Int} (T : Town t n H) (h : Dd H v (Ma.lineD xs)) : Dd (wo t H) v (Ma.lineD xs) := by
  obtain ⟨zs, hz, _⟩ := T
  have tw : ∀ {p : Addr} {us : List V}, H p = some (.tup us) → wo t H p = some (.tup us) := fun {p us} e => by
    rw [wo_ne]
    · exact e
    · intro z
      rw [z, hz] at e; cases e
  obtain ⟨a, b, st, rfl, ha, hb, ts⟩ := line_at h
  have ts' : Tups (wo t H) st (Ma.steps xs) := Paired.imp' (fun v s ⟨b, e1, e2⟩ => ⟨b, e1, tw e2⟩) ts
  exact .tup (tw ha) (.cons (.int _) (.cons (.tup (tw hb) ts'.dd) .nil))
end L2
/-! The same rules over words that stay closed: a nested display is seen no deeper than it must. -/
namespace L2
open PySem
@[irreducible] def PEi (X : Cx) (e : Expr) (t : TE) : Prop := PE X e t
@[irreducible] def PAi (X : Cx) (es : List Expr) (t : TA) : Prop := PA X es t
section
variable {X : Cx} {e a b : Expr} {es xs : List Expr} {te ta : TE} {t : TA} {pos : Pos} {op : Operator}
theorem PEi.out (h : PEi X e te) : PE X e te := by unfold PEi at h; exact h
theorem PEi.mk (h : PE X e te) : PEi X e te := by unfold PEi; exact h
theorem PAi.out (h : PAi X es t) : PA X es t := by unfold PAi at h; exact h
theorem PAi.mk (h : PA X es t) : PAi X es t := by unfold PAi; exact h
theorem ie_int {i j} : PEi X (.Constant (.int i) j pos) (tC (.int i)) := .mk pe_int
theorem ie_bl {b j} : PEi X (.Constant (.bool b) j pos) (tC (.bl b)) := .mk pe_bl
theorem ie_non {j} : PEi X (.Constant .none j pos) (tC .non) := .mk pe_non
theorem ie_str {x j} : PEi X (.Constant (.str x) j pos) (tC (.str x)) := .mk pe_str
theorem ie_tup {x1} (h : PAi X es t) : PEi X (.Tuple es x1 pos) (tTup t) := .mk (pe_tup h.out)
theorem ie_lst (h : PAi X es t) : PEi X (.List es pos) (tLst t) := .mk (pe_lst h.out)
theorem ie_neg (h : PEi X a ta) : PEi X (.UnaryOp .USub a pos) (tUn (rU fun i => .int (-i)) ta) := .mk (pe_un un_neg h.out)
theorem ia_nil : PAi X [] tNil := .mk pa_nil
theorem ia_T {x1} (ha : PEi X (.Tuple xs x1 pos) te) (hr : PAi X es t) : PAi X (.Tuple xs x1 pos :: es) (tCons te t) := .mk (pa_T ha.out hr.out)
theorem ia_L (ha : PEi X (.List xs pos) te) (hr : PAi X es t) : PAi X (.List xs pos :: es) (tCons te t) := .mk (pa_L ha.out hr.out)
theorem ia_C {ks} (ha : PEi X (.Call a xs ks pos) te) (hr : PAi X es t) : PAi X (.Call a xs ks pos :: es) (tCons te t) := .mk (pa_C ha.out hr.out)
theorem ia_K {c j} (ha : PEi X (.Constant c j pos) te) (hr : PAi X es t) : PAi X (.Constant c j pos :: es) (tCons te t) := .mk (pa_cons ha.out hr.out)
theorem ia_N {x} (ha : PEi X (.Name x pos) te) (hr : PAi X es t) : PAi X (.Name x pos :: es) (tCons te t) := .mk (pa_cons ha.out hr.out)
theorem ia_U {o} (ha : PEi X (.UnaryOp o a pos) te) (hr : PAi X es t) : PAi X (.UnaryOp o a pos :: es) (tCons te t) := .mk (pa_cons ha.out hr.out)
end
end L2
set_option Elab.async false
set_option linter.all false
set_option maxRecDepth 100000
set_option maxHeartbeats 4000000
/-! list(zip(a, b)) of two lists: the tuples stay, so the iterator makes a new one each time. -/
namespace L2
open PySem PySem.Spec PyProof.Rows
/-- a zip object whose tuple was handed out and is still there -/
abbrev ZipX (h : Heap) (z TI TO T : Addr) (f : Bool) : Prop :=
  h.get? z = some { cls := .type "zip", dict := none, data := .fields #[rawInt T, .bool f, .bool false, .ref TI, .ref TO], slots := #[] }
section
variable {prog : Program} {w : World} {A : Around} {E : Value → Shared → Prop} {s : Shared}
end
end L2
set_option Elab.async false
set_option linter.all false
set_option maxRecDepth 100000
set_option maxHeartbeats 4000000
namespace L2
open PySem PySem.Spec PyProof.Rows
/-- where a zip of two lists stands, i items given -/
structure ZSt (z TI TO i1 i2 l1 l2 : Addr) (xs ys : Array Value) (S : Addr) (i : Nat) (h : Heap) : Prop where
  zz : (i = 0 ∧ IsZip h z TI TO .none ∧ ∃ a b, IsPair h TO a b) ∨ ∃ T f o, ZipX h z TI TO T f ∧ h.get? T = some o ∧ T ≠ z ∧ T ≠ TO ∧ T ≠ i1 ∧ T ≠ i2 ∧ T ≠ S
  ti : IsPair h TI (.ref i1) (.ref i2)
  it1 : h.IsListIter i1 l1 i
  it2 : h.IsListIter i2 l2 i
  li1 : h.IsList l1 xs
  li2 : h.IsList l2 ys
  tl : ∃ o, h.get? TO = some o
section
variable {prog : Program} {w : World} {A : Around} {E : Value → Shared → Prop} {s : Shared} {z TI TO i1 i2 l1 l2 S : Addr} {xs ys : Array Value} {i : Nat}
theorem ZSt.kept {h h' : Heap} (st : ZSt z TI TO i1 i2 l1 l2 xs ys S i h) (k : ∀ c o, c ≠ S → h.get? c = some o → h'.get? c = some o) (nS : S ≠ z ∧ S ≠ TI ∧ S ≠ TO ∧ S ≠ i1 ∧ S ≠ i2 ∧ S ≠ l1 ∧ S ≠ l2) : ZSt z TI TO i1 i2 l1 l2 xs ys S i h' := by
  obtain ⟨n1, n2, n3, n4, n5, n6, n7⟩ := nS
  refine ⟨?_, k _ _ (Ne.symm n2) st.ti, st.it1.at fun o e => k _ o (Ne.symm n4) e, st.it2.at fun o e => k _ o (Ne.symm n5) e, st.li1.at fun o e => k _ o (Ne.symm n6) e, st.li2.at fun o e => k _ o (Ne.symm n7) e, let ⟨o, e⟩ := st.tl; ⟨o, k _ _ (Ne.symm n3) e⟩⟩
  rcases st.zz with ⟨e, h1, a, b, h2⟩ | ⟨T, f, o, h1, h2, t1, t2, t3, t4, t5⟩
  · exact .inl ⟨e, k _ _ (Ne.symm n1) h1, a, b, k _ _ (Ne.symm n3) h2⟩
  · exact .inr ⟨T, f, o, k _ _ (Ne.symm n1) h1, k _ _ t5 h2, t1, t2, t3, t4, t5⟩
end
end L2
set_option Elab.async false
set_option linter.all false
set_option maxRecDepth 100000
set_option maxHeartbeats 4000000
namespace L2
open PySem PySem.Spec PyProof.Rows
section
variable {prog : Program} {w : World} {A : Around} {E : Value → Shared → Prop} {s : Shared} {z TI TO i1 i2 l1 l2 S : Addr} {xs ys : Array Value} {n b0 : Nat}
end
end L2
set_option Elab.async false
set_option linter.all false
set_option maxRecDepth 100000
set_option maxHeartbeats 4000000
namespace L2
open PySem PySem.Spec PyProof.Rows
section
variable {X : Cx} {pins : List (Addr × Obj)} {σ : St} {s : Shared}
end
end L2
set_option Elab.async false
set_option linter.all false
set_option maxRecDepth 100000
set_option maxHeartbeats 4000000
namespace L2
open PySem PySem.Spec PyProof.Rows
end L2
set_option Elab.async false
set_option linter.all false
set_option maxRecDepth 100000
set_option maxHeartbeats 4000000
/-! From the written heap to the defs of the text. -/
namespace L2
open PySem PySem.W PyProof.Rows
/-- the def x as the written heap has it -/
structure DfK (K : Frag) (x : Str) (st : Stmt) (a : Addr) (cdv : Value) : Prop where
  n : nsIn K mainGlobals x = some (some (.ref a))
  ex : ∃ (oc : Value) (od : Option Addr) (kV doc pm : Value) (an : Option Addr) (ct : Value) (osl : Array (Option Value)),
    K.lookup a = some ⟨oc, od, .func (fnOf x x (defArgs st) (defBody st) (defScope st) .none kV doc pm an cdv ct), osl⟩
  c : codeIn K cdv x = true
  k : keepIn K (.ref a) = true
theorem dfk_mk {K : Frag} {x : Str} {st : Stmt} {a : Addr} {oc : Value} {od an : Option Addr} {osl : Array (Option Value)} {kV doc pm cdv ct : Value} (n : nsIn K mainGlobals x = some (some (.ref a)))
    (l : K.lookup a = some ⟨oc, od, .func (fnOf x x (defArgs st) (defBody st) (defScope st) .none kV doc pm an cdv ct), osl⟩) (c : codeIn K cdv x = true) (k : keepIn K (.ref a) = true) : DfK K x st a cdv := ⟨n, ⟨oc, od, kV, doc, pm, an, ct, osl, l⟩, c, k⟩
theorem DfK.dfn {K : Frag} {x : Str} {st : Stmt} {a : Addr} {cdv : Value} {h : Heap} {mg : Str → Option Value} (d : DfK K x st a cdv) (KX : K.In h) (G : h.Ns mainGlobals mg) : Dfn K mg x st cdv := by
  obtain ⟨oc, od, kV, doc, pm, an, ct, osl, l⟩ := d.ex
  exact ⟨a, _, fun_mk l d.c d.k, mg_of KX G d.n, rfl⟩
/-- the code object of a def with a generator expression, its table -/
structure GnK (K : Frag) (c P : Addr) : Prop where
  ex : ∃ oo vs, K.lookup c = some oo ∧ oo.data = .fields vs ∧ vs[11]? = some (.ref P)
  no : K.lookup P = none
theorem gnk_mk {K : Frag} {c P : Addr} {oo : Obj} {vs : Array Value} (l : K.lookup c = some oo) (d : oo.data = .fields vs) (v : vs[11]? = some (.ref P)) (no : K.lookup P = none) : GnK K c P := ⟨⟨oo, vs, l, d, v⟩, no⟩
theorem GnK.code {K : Frag} {c P : Addr} {h : Heap} (g : GnK K c P) (KX : K.In h) {c' P' : Addr} (e : (Value.ref c) = .ref c') (ic : h.IsCode c' P' #[]) (ta : h.TableAt c' P' #[]) : CodeK K c P ∧ h.TableAt c P #[] := by
  cases e
  obtain ⟨oo, vs, l, d, v⟩ := g.ex
  have ho := KX c oo l
  obtain ⟨⟨o2, vs2, h2, cls, d2, v2⟩, tp⟩ := ta
  rw [ho] at h2; cases h2
  rw [d] at d2; cases d2
  rw [v] at v2; cases v2
  obtain ⟨o3, vs3, file, tf, flags, tg, inF, text, tt, op, h3, d3, e1, e2, e3, e4, e5, _, _, _, ne⟩ := ic
  rw [ho] at h3; cases h3
  rw [d] at d3; cases d3
  exact ⟨⟨⟨oo, vs, file, tf, flags, tg, inF, text, tt, l, cls, d, v, e1, e2, e3, e4, e5⟩, ne⟩, ⟨oo, vs, ho, cls, d, v⟩, tp⟩
theorem exk_mk {K : Frag} {C : Addr} (ga : findIn K (.ref C) "__getattribute__" = some (some (.builtin "BaseException.__getattribute__"))) (cl : findIn K (.ref C) "__class__" = some (some (.builtin "object.__class__"))) (nh : findIn K (.ref C) "__getattr__" = some none)
    (ob : mroIn K C (.type "object") = some true) (bx : mroIn K C (.type "BaseException") = some true) (ic : isClsIn K C = true) : ExK K C := ⟨ga, cl, nh, ob, bx, ic⟩
/-- what the deciders tell of the class with the number j -/
structure CjK (K : Frag) (LE : Addr) (Cs : List Addr) (j : Nat) (C : Addr) : Prop where
  ok : Cs.zipIdx.all (fun p => kitOne K (.ref C) (.ref p.1) == some (decide (p.2 = j))) = true
  ve : kitOne K (.ref C) (.type "ValueError") = some true
  ex : ExK K C
  le : exmOne K (.ref C) (.ref LE) = some true
theorem CjK.cl {K : Frag} {LE : Addr} {Cs : List Addr} {j : Nat} {C : Addr} (c : CjK K LE Cs j C) (h : j < Cs.length) (e : Cs[j]? = some C) : Cl10 K Cs j C := by
  refine ⟨⟨h, e⟩, fun i D hD => ?_, c.ve, c.ex⟩
  have z := List.all_eq_true.mp c.ok (D, i) (by
    rw [List.mem_zipIdx_iff_getElem?]
    simpa using hD)
  exact eq_of_beq z
theorem cst_mk {K : Frag} {x : Str} {v : Int} {t : Tok} (n : nsIn K mainGlobals x = some (some (.int v t))) : ∃ t, nsIn K mainGlobals x = some (some (.int v t)) := ⟨t, n⟩
theorem bm_mk {K : Frag} {bm : Addr} (n : nsIn K mainGlobals "__builtins__" = some (some (.ref bm))) (l : K.lookup bm = none) : ∃ bm, nsIn K mainGlobals "__builtins__" = some (some (.ref bm)) ∧ K.lookup bm = none := ⟨bm, n, l⟩
theorem cjk_mk {K : Frag} {LE : Addr} {Cs : List Addr} {j : Nat} {C : Addr} (ok : Cs.zipIdx.all (fun p => kitOne K (.ref C) (.ref p.1) == some (decide (p.2 = j))) = true) (ve : kitOne K (.ref C) (.type "ValueError") = some true) (ex : ExK K C) (le : exmOne K (.ref C) (.ref LE) = some true) : CjK K LE Cs j C := ⟨ok, ve, ex, le⟩
end L2
set_option Elab.async false
set_option linter.all false
set_option maxRecDepth 100000
set_option maxHeartbeats 4000000
/-! What the defs that put lines together promise, of things that are lines. -/
namespace Ma
open PySem
def fits (xs : List Int) : Bool := decide (xs.length ≤ 60) && xs.all fun x => isValue (.int x)
end Ma
namespace L2
open PySem
structure Ln (H : Hp) (v : V) (xs : List Int) : Prop where
  dd : Dd H v (Ma.lineD xs)
  ok : Ma.OkV xs
theorem Ln.same {H H' : Hp} {v : V} {xs : List Int} (h : Ln H v xs) (s : Same H H') : Ln H' v xs := ⟨h.dd.same s, h.ok⟩
def sp_fitted (g : Gd) (CT : Addr) : Sp := fun vs H Q E => ∃ (a : Addr) (xs : List Int), vs = [.ref a] ∧ H a = some (.lst (xs.map V.int)) ∧ xs.length ≤ 1000 ∧ g.On H ∧ ∀ H', Same H H' → (Ma.fits xs = true → ∀ v, Dd H' v (Ma.lineD xs) → Q v H') ∧ (Ma.fits xs = false → E (.ref CT) none H')
end L2
namespace L2
open PySem
end L2
set_option Elab.async false
set_option linter.all false
set_option maxRecDepth 100000
set_option maxHeartbeats 4000000
/-! The stretches of one thing of a list; the line of a list, told by them. -/
namespace Ma
open PySem
section
variable {α : Type} [DecidableEq α]
def levPush (acc : List (Nat × Nat × α)) (k : Nat) (x : α) : List (Nat × Nat × α) :=
  match acc.getLast? with
  | none => acc ++ [(k, k, x)]
  | some (f, _, v) => if v = x then acc.dropLast ++ [(f, k, x)] else acc ++ [(k, k, x)]
def levGo : Nat → List (Nat × Nat × α) → List α → List (Nat × Nat × α)
  | _, acc, [] => acc
  | k, acc, x :: r => levGo (k + 1) (levPush acc k x) r
def levs (xs : List α) : List (Nat × Nat × α) := levGo 0 [] xs
theorem levGo_snoc (x : α) : ∀ (xs : List α) (k : Nat) (acc : List (Nat × Nat × α)), levGo k acc (xs ++ [x]) = levPush (levGo k acc xs) (k + xs.length) x
  | [], k, acc => rfl
  | y :: r, k, acc => by
    show levGo (k + 1) (levPush acc k y) (r ++ [x]) = levPush (levGo (k + 1) (levPush acc k y) r) (k + (r.length + 1)) x
    rw [levGo_snoc x r (k + 1)]
    congr 1
    omega
theorem levs_snoc (xs : List α) (x : α) : levs (xs ++ [x]) = levPush (levs xs) xs.length x := by
  have := levGo_snoc x xs 0 []
  rw [Nat.zero_add] at this
  exact this
theorem levPush_last (acc : List (Nat × Nat × α)) (k : Nat) (x : α) : ((levPush acc k x).getLast?.map fun t => t.2.2) = some x := by
  unfold levPush
  split
  · simp
  · split <;> simp
theorem levs_last : ∀ xs : List α, ((levs xs).getLast?.map fun t => t.2.2) = xs.getLast? := by
  intro xs
  rcases List.eq_nil_or_concat xs with rfl | ⟨ys, y, rfl⟩
  · rfl
  · rw [List.concat_eq_append, levs_snoc, levPush_last]; simp
theorem levPush_len (acc : List (Nat × Nat × α)) (k : Nat) (x : α) : (levPush acc k x).length ≤ acc.length + 1 := by
  unfold levPush
  split
  · simp
  · split
    · rw [List.length_append, List.length_dropLast]; simp
    · simp
theorem levs_len : ∀ (n : Nat) (xs : List α), xs.length = n → (levs xs).length ≤ n := by
  intro n
  induction n with
  | zero => intro xs h; rw [List.length_eq_zero_iff.mp h]; exact Nat.le_refl _
  | succ n ih =>
    intro xs h
    rcases List.eq_nil_or_concat xs with rfl | ⟨ys, y, rfl⟩
    · cases h
    · rw [List.concat_eq_append] at h ⊢
      rw [levs_snoc]
      have := ih ys (by simpa using h)
      have := levPush_len (levs ys) ys.length y
      omega
theorem levPush_map {β : Type} [DecidableEq β] {f : α → β} (hf : ∀ a b, f a = f b → a = b) (acc : List (Nat × Nat × α)) (k : Nat) (x : α) : levPush (acc.map fun t => (t.1, t.2.1, f t.2.2)) k (f x) = (levPush acc k x).map fun t => (t.1, t.2.1, f t.2.2) := by
  unfold levPush
  rw [List.getLast?_map]
  cases acc.getLast? with
  | none => simp
  | some t =>
    obtain ⟨a, b, v⟩ := t
    by_cases h : v = x
    · simp [h]
    · have h' : f v ≠ f x := fun z => h (hf _ _ z)
      simp [h, h']
theorem levGo_map {β : Type} [DecidableEq β] {f : α → β} (hf : ∀ a b, f a = f b → a = b) : ∀ (xs : List α) (k : Nat) (acc : List (Nat × Nat × α)), levGo k (acc.map fun t => (t.1, t.2.1, f t.2.2)) (xs.map f) = (levGo k acc xs).map fun t => (t.1, t.2.1, f t.2.2)
  | [], _, _ => rfl
  | x :: r, k, acc => by
    show levGo (k + 1) (levPush (acc.map fun t => (t.1, t.2.1, f t.2.2)) k (f x)) (r.map f) = _
    rw [levPush_map hf]
    exact levGo_map hf r (k + 1) _
theorem levs_map {β : Type} [DecidableEq β] {f : α → β} (hf : ∀ a b, f a = f b → a = b) (xs : List α) : levs (xs.map f) = (levs xs).map fun t => (t.1, t.2.1, f t.2.2) := levGo_map hf xs 0 []
end
theorem levs_steps : ∀ (n : Nat) (xs : List Int), xs.length = n → (levs xs).map (fun t => (t.1, t.2.2)) = steps xs := by
  intro n
  induction n with
  | zero => intro xs h; rw [List.length_eq_zero_iff.mp h]; rfl
  | succ n ih =>
    intro xs h
    rcases List.eq_nil_or_concat xs with rfl | ⟨ys, y, rfl⟩
    · cases h
    · rw [List.concat_eq_append] at h ⊢
      have e := ih ys (by simpa using h)
      rw [levs_snoc, steps_snoc, ← e]
      have l := levs_last ys
      unfold levPush
      cases hl : (levs ys).getLast? with
      | none =>
        rw [hl] at l
        have : ys.getLast? ≠ some y := by rw [← l]; simp
        rw [if_neg this]
        simp
      | some t =>
        obtain ⟨f, g, v⟩ := t
        rw [hl] at l
        have l : some v = ys.getLast? := l
        have hne : levs ys ≠ [] := by intro z; rw [z] at hl; cases hl
        by_cases c : v = y
        · subst c
          rw [if_pos l.symm, List.append_nil]
          show ((if v = v then (levs ys).dropLast ++ [(f, ys.length, v)] else (levs ys ++ [(ys.length, ys.length, v)])).map fun t => (t.1, t.2.2)) = _
          rw [if_pos rfl]
          have d := List.dropLast_concat_getLast hne
          have d2 : (levs ys).getLast hne = (f, g, v) := by rw [List.getLast?_eq_some_getLast hne] at hl; exact Option.some.inj hl
          rw [d2] at d
          conv => rhs; rw [← d]
          simp
        · have : ys.getLast? ≠ some y := by rw [← l]; intro z; exact c (Option.some.inj z)
          rw [if_neg this]
          show ((if v = y then (levs ys).dropLast ++ [(f, ys.length, y)] else (levs ys ++ [(ys.length, ys.length, y)])).map fun t => (t.1, t.2.2)) = _
          rw [if_neg c]
          simp
theorem steps_of_levs (xs : List Int) : (levs xs).map (fun t => (t.1, t.2.2)) = steps xs := levs_steps _ xs rfl
end Ma
namespace L2
open PySem
/-- tuples of three that stand in the heap -/
abbrev Trips (H : Hp) : List V → List (Nat × Nat × V) → Prop := Paired fun v s => ∃ b, v = .ref b ∧ H b = some (.tup [.int (s.1 : Nat), .int (s.2.1 : Nat), s.2.2])
theorem Trips.upd {H : Hp} {p : Addr} {xs : List V} {o : HO} (hp : H p = some (.lst xs)) {us : List V} {st : List (Nat × Nat × V)} (t : Trips H us st) : Trips (L2.upd H p o) us st :=
  Paired.imp' (fun v s ⟨b, e1, e2⟩ => ⟨b, e1, by rw [upd_ne (ne_of e2 hp (by intro z; cases z))]; exact e2⟩) t
theorem Trips.same {H H' : Hp} (e : Same H H') {us : List V} {st : List (Nat × Nat × V)} (t : Trips H us st) : Trips H' us st := Paired.imp' (fun v s ⟨b, e1, e2⟩ => ⟨b, e1, e _ _ e2⟩) t
theorem Trips.snoc {H : Hp} : ∀ {us : List V} {st : List (Nat × Nat × V)} {b : Addr} {s : Nat × Nat × V}, Trips H us st → H b = some (.tup [.int (s.1 : Nat), .int (s.2.1 : Nat), s.2.2]) → Trips H (us ++ [.ref b]) (st ++ [s])
  | _, _, b, s, .nil, h => .cons ⟨b, rfl, h⟩ .nil
  | _, _, b, s, .cons r t, h => .cons r (Trips.snoc t h)
theorem Trips.get {H : Hp} {us : List V} {st : List (Nat × Nat × V)} {i : Nat} {x : V} : Trips H us st → us[i]? = some x → ∃ s b, st[i]? = some s ∧ x = .ref b ∧ H b = some (.tup [.int (s.1 : Nat), .int (s.2.1 : Nat), s.2.2]) := by
  intro t e
  induction t generalizing i with
  | nil => simp at e
  | cons r t ih =>
    cases i with
    | zero =>
      simp at e; subst e
      obtain ⟨b, e1, e2⟩ := r
      exact ⟨_, b, rfl, e1, e2⟩
    | succ i =>
      obtain ⟨s, b, h1, h2, h3⟩ := ih (by simpa using e)
      exact ⟨s, b, by simpa using h1, h2, h3⟩
theorem Trips.last {H : Hp} {us : List V} {st : List (Nat × Nat × V)} (t : Trips H us st) (hne : us ≠ []) : ∃ s b, st.getLast? = some s ∧ us.getLast? = some (.ref b) ∧ atI us (-1) = some (.ref b) ∧ H b = some (.tup [.int (s.1 : Nat), .int (s.2.1 : Nat), s.2.2]) := by
  have e : us[us.length - 1]? = some (us.getLast hne) := by rw [List.getElem?_eq_getElem (by cases us with | nil => exact absurd rfl hne | cons _ _ => simp), List.getLast_eq_getElem]
  obtain ⟨s, b, h1, h2, h3⟩ := t.get e
  refine ⟨s, b, ?_, ?_, ?_, h3⟩
  · rw [List.getLast?_eq_getElem?, ← t.length]; exact h1
  · rw [List.getLast?_eq_some_getLast hne, h2]
  · rw [← h2]
    have z := atI_last us.dropLast (us.getLast hne)
    rw [List.dropLast_concat_getLast] at z
    exact z
theorem Trips.dropLast {H : Hp} : ∀ {us : List V} {st : List (Nat × Nat × V)}, Trips H us st → Trips H us.dropLast st.dropLast
  | _, _, .nil => .nil
  | _, _, .cons r .nil => .nil
  | _, _, .cons r (.cons r2 t) => by
    have := Trips.dropLast (.cons r2 t)
    exact .cons r this
/-- things that == tells apart as data does -/
def Scals (xs : List V) : Prop := ∀ x ∈ xs, ∀ y ∈ xs, scal x y = true
theorem scals_ints (xs : List Int) : Scals (xs.map V.int) := fun x hx y hy => by
  obtain ⟨i, _, rfl⟩ := List.mem_map.mp hx
  obtain ⟨j, _, rfl⟩ := List.mem_map.mp hy
  rfl
def sp_levels : Sp := fun vs H Q _ => ∃ (a : Addr) (xs : List V), vs = [.ref a] ∧ H a = some (.lst xs) ∧ Scals xs ∧ xs.length ≤ 1000 ∧ ∀ l us H', Same H H' → H l = none → H' l = some (.lst us) → Trips H' us (Ma.levs xs) → Q (.ref l) H'
/-- the line of a list, by the program -/
def sp_lineG (g : Gd) : Sp := fun vs H Q _ => ∃ (a : Addr) (xs : List Int), vs = [.ref a] ∧ H a = some (.lst (xs.map V.int)) ∧ xs.length ≤ 1000 ∧ g.On H ∧ ∀ v H', Same H H' → Dd H' v (Ma.lineD xs) → Q v H'
theorem levs_ints (xs : List Int) : Ma.levs (xs.map V.int) = (Ma.levs xs).map fun t => (t.1, t.2.1, V.int t.2.2) := Ma.levs_map (fun a b h => V.int.inj h) xs
/-- xs[-1] = v -/
theorem ixN_last {us : List V} (h : us ≠ []) : ixN us.length (-1) = some (us.length - 1) := by
  have : 0 < us.length := List.length_pos_iff.mpr h
  unfold ixN
  simp
  omega
theorem set_last {us : List V} (h : us ≠ []) (v : V) : us.set (us.length - 1) v = us.dropLast ++ [v] := by
  have e := List.dropLast_concat_getLast h
  have l : us.length - 1 = us.dropLast.length := by rw [List.length_dropLast]
  rw [l]
  generalize us.getLast h = z at e
  generalize us.dropLast = ys at *
  rw [← e]
  simp
end L2
set_option Elab.async false
set_option linter.all false
set_option maxRecDepth 100000
set_option maxHeartbeats 4000000
namespace L2
open PySem
end L2
set_option Elab.async false
set_option linter.all false
set_option maxRecDepth 100000
set_option maxHeartbeats 4000000
/-! Comprehensions by the list that they make; t + u of any tuples; a while by a measure. -/
namespace L2
open PySem
section
variable {X : Cx}
def rCatT0 (K : PySem.W.Frag) : R2 := fun x y H Q => ∃ a b xs ys, x = .ref a ∧ y = .ref b ∧ SqT K H a xs ∧ SqT K H b ys ∧ xs.length + ys.length ≤ sizeLine ∧
  (xs = [] → Q (.ref b) H) ∧ (xs ≠ [] → ys = [] → Q (.ref a) H) ∧ (xs ≠ [] → ys ≠ [] → ∀ p, H p = none → Q (.ref p) (upd H p (.tup (xs ++ ys))))
open PyProof.Rows in
theorem op_catT0 : OpR X (binaryOp .Add) (rCatT0 X.K) := by
  intro pins s σ H x y v u Q I rx ry h
  obtain ⟨a, b, xs, ys, rfl, rfl, ha, hb, hz, q0, q1, q2⟩ := h
  by_cases hx : xs = []
  rotate_left
  · exact op_catT pins s σ H _ _ v u Q I rx ry ⟨a, b, xs, ys, rfl, rfl, ha, hb, hx, hz, q1 hx, q2 hx⟩
  cases rx
  cases ry
  obtain ⟨its, r1, p1, _⟩ := I.tuple ha
  obtain ⟨its2, r2, p2, _⟩ := I.tuple hb
  have e : its = [] := r1.nil_iff.mpr hx
  obtain ⟨⟨cls, dd, data, sl⟩, ho, hc, n, hd⟩ := id p1
  obtain ⟨⟨cls2, dd2, data2, sl2⟩, ho2, hc2, n2, hd2⟩ := id p2
  simp only at hc hd hc2 hd2
  subst hc hd hc2 hd2
  exact concat_meets ⟨_, ho, rfl⟩ ⟨_, ho2, rfl⟩ noFill_tuple_add seq_tuple_add PySem.F.slot_tuple_add PySem.F.entry_tuple_add (PySem.F.args_tuple_add_2 _ _)
    (tuple_addW0 a b its.toArray its2.toArray n n2 dd dd2 sl sl2 (by simp [e])) ⟨ho, ho2, ⟨.ref b, H, I, rfl, q0 hx⟩⟩
end
theorem fm_take {ys : List (Option V)} {i : Nat} {o : Option V} (h : ys[i]? = some o) : (ys.take (i + 1)).filterMap id = (ys.take i).filterMap id ++ o.toList := by
  rw [List.take_add_one, h, List.filterMap_append]
  cases o <;> rfl
theorem fm_some {α : Type} (f : α → V) (xs : List α) : (xs.map fun x => some (f x)).filterMap id = xs.map f := by
  induction xs with
  | nil => rfl
  | cons x r ih => rw [List.map_cons, List.filterMap_cons]; simp only [id]; rw [ih]; rfl
section
variable {J : It} {n : Nat} {g : TG} {tt : TT} {te : TE} {vs : List Nat} {σ : St} {H1 : Hp} {D : Addr} {Qd : Hp → Prop}
/-- a comprehension by what each turn gives: some y is put, none is left out -/
theorem lc_gen (ys : List (Option V)) (e : ys.length = n) (hb : n ≤ 5000) (hD : H1 D = none) (hgo : ∀ i H, Same H1 H → i < n → J.go i H) (hstop : ∀ H, Same H1 H → J.stop n H)
    (hs : ∀ i o H (Q : VK) (Q2 : Hp → Prop), ys[i]? = some o → Same H1 H → (∀ y, o = some y → ∀ H', Same H H' → Q y H') → (o = none → ∀ H', Same H H' → Q2 H') → ∀ x H', J.yld i H x H' → g x (wipe σ vs) H' fun σ2 H2 => wipe σ2 vs = wipe σ vs ∧ tt σ2 H2 fun b H3 => if b = true then te σ2 H3 Q else Q2 H3)
    (hd : ∀ H, Same H1 H → H D = some (.lst (ys.filterMap id)) → Qd H) :
    ∃ W : Nat → Nat → Hp → Prop, (∃ m, W 0 m (upd H1 D (.lst []))) ∧ ∀ i m H, W i m H →
      (J.stop i H ∧ Qd H) ∨ (J.go i H ∧ ∃ Nx : Hp → Prop, (∀ H', Nx H' → ∃ m', m' < m ∧ W (i + 1) m' H') ∧ ∀ x H', J.yld i H x H' → g x (wipe σ vs) H' fun σ2 H2 => wipe σ2 vs = wipe σ vs ∧ tt σ2 H2 fun b H3 =>
        if b = true then te σ2 H3 fun y H4 => ∃ acc, H4 D = some (.lst acc) ∧ acc.length < sizeLine ∧ Nx (upd H4 D (.lst (acc ++ [y]))) else Nx H3) := by
  refine ⟨fun i m H => m = n - i ∧ i ≤ n ∧ Same H1 H ∧ H D = some (.lst ((ys.take i).filterMap id)), ⟨n, by simp, Nat.zero_le _, Same.new hD _, upd_same⟩, ?_⟩
  rintro i m H ⟨rfl, hi, s, hd1⟩
  by_cases hlt : i < n
  · have eo : ys[i]? = some (ys[i]'(by omega)) := by simp
    have len : ((ys.take i).filterMap id).length < sizeLine := by
      have := List.length_filterMap_le id (ys.take i)
      rw [List.length_take] at this
      exact Nat.lt_of_le_of_lt (show _ ≤ 5000 by omega) (by decide)
    refine .inr ⟨hgo i H s hlt, fun H' => Same H1 H' ∧ H' D = some (.lst ((ys.take (i + 1)).filterMap id)), fun H' p' => ⟨n - (i + 1), by omega, rfl, hlt, p'.1, p'.2⟩, fun x H' y => ?_⟩
    refine hs i _ H _ _ eo s (fun y ey H'' s'' => ⟨_, s'' _ _ hd1, len, (s.trans s'').upd hD, ?_⟩) (fun en H'' s'' => ⟨s.trans s'', ?_⟩) x H' y
    · rw [upd_same, fm_take eo, ey]; rfl
    · rw [fm_take eo, en]
      show _ = some (HO.lst (_ ++ []))
      rw [List.append_nil]; exact s'' _ _ hd1
  · have ei : i = n := by omega
    subst ei
    refine .inl ⟨hstop H s, hd H s ?_⟩
    rw [List.take_of_length_le (by omega)] at hd1
    exact hd1
end
section
variable {K : PySem.W.Frag} {n : Nat} {g : TG} {tt : TT} {te : TE} {vs : List Nat} {σ : St} {H1 : Hp} {D : Addr} {Qd : Hp → Prop}
abbrev LcGoal (J : It) (g : TG) (tt : TT) (te : TE) (vs : List Nat) (σ : St) (H1 : Hp) (D : Addr) (Qd : Hp → Prop) : Prop :=
    ∃ W : Nat → Nat → Hp → Prop, (∃ m, W 0 m (upd H1 D (.lst []))) ∧ ∀ i m H, W i m H →
      (J.stop i H ∧ Qd H) ∨ (J.go i H ∧ ∃ Nx : Hp → Prop, (∀ H', Nx H' → ∃ m', m' < m ∧ W (i + 1) m' H') ∧ ∀ x H', J.yld i H x H' → g x (wipe σ vs) H' fun σ2 H2 => wipe σ2 vs = wipe σ vs ∧ tt σ2 H2 fun b H3 =>
        if b = true then te σ2 H3 fun y H4 => ∃ acc, H4 D = some (.lst acc) ∧ acc.length < sizeLine ∧ Nx (upd H4 D (.lst (acc ++ [y]))) else Nx H3)
/-- over a list -/
theorem lcL {a : Addr} {xs : List V} (ys : List (Option V)) (hl : H1 a = some (.lst xs)) (e : ys.length = xs.length) (hb : xs.length ≤ 5000) (hD : H1 D = none)
    (hs : ∀ (i : Nat) x o H (Q : VK) (Q2 : Hp → Prop), xs[i]? = some x → ys[i]? = some o → Same H1 H → (∀ y, o = some y → ∀ H', Same H H' → Q y H') → (o = none → ∀ H', Same H H' → Q2 H') → g x (wipe σ vs) H fun σ2 H2 => wipe σ2 vs = wipe σ vs ∧ tt σ2 H2 fun b H3 => if b = true then te σ2 H3 Q else Q2 H3)
    (hd : ∀ H, Same H1 H → H D = some (.lst (ys.filterMap id)) → Qd H) : LcGoal (Itl K a) g tt te vs σ H1 D Qd := by
  refine lc_gen ys e hb hD (fun i H s hi => ⟨xs, xs[i], SqL.of (s _ _ hl), by simp [hi]⟩) (fun H s => ⟨xs, SqL.of (s _ _ hl), Nat.le_refl _⟩) ?_ hd
  rintro i o H Q Q2 eo s q q2 x H' ⟨rfl, hy⟩
  exact hs i x o _ Q Q2 (hy xs (SqL.of (s _ _ hl))) eo s q q2
/-- over zip of two lists -/
theorem lcZ {a b : Addr} {xs zs : List V} (ys : List (Option V)) (hl : H1 a = some (.lst xs)) (hl2 : H1 b = some (.lst zs)) (e : ys.length = min xs.length zs.length) (hb : xs.length ≤ 5000) (hD : H1 D = none)
    (hs : ∀ (i : Nat) x z o T H (Q : VK) (Q2 : Hp → Prop), xs[i]? = some x → zs[i]? = some z → ys[i]? = some o → Same H1 H → H T = some (.tup [x, z]) → (∀ y, o = some y → ∀ H', Same H H' → Q y H') → (o = none → ∀ H', Same H H' → Q2 H') → g (.ref T) (wipe σ vs) H fun σ2 H2 => wipe σ2 vs = wipe σ vs ∧ tt σ2 H2 fun b H3 => if b = true then te σ2 H3 Q else Q2 H3)
    (hd : ∀ H, Same H1 H → H D = some (.lst (ys.filterMap id)) → Qd H) : LcGoal (ItzS K true true a b) g tt te vs σ H1 D Qd := by
  refine lc_gen (n := min xs.length zs.length) ys e (by omega) hD (fun i H s hi => ?_) (fun H s => ⟨xs, zs, SqL.of (s _ _ hl), SqL.of (s _ _ hl2), by omega⟩) ?_ hd
  · have l1 : i < xs.length := by omega
    have l2 : i < zs.length := by omega
    exact ⟨xs, zs, xs[i], zs[i], SqL.of (s _ _ hl), SqL.of (s _ _ hl2), by simp [l1], by simp [l2]⟩
  rintro i o H Q Q2 eo s q q2 x H' ⟨T, y, z, rfl, hT, rfl, h1, h2⟩
  have sT := Same.new hT (.tup [y, z])
  exact hs i y z o T _ Q Q2 (h1 xs (SqL.of (s _ _ hl))) (h2 zs (SqL.of (s _ _ hl2))) eo (s.trans sT) upd_same (fun z ez H' s' => q z ez H' (sT.trans s')) fun en H' s' => q2 en H' (sT.trans s')
end
def own12 (j : Nat) : List V := [.bl (decide (0 = j)), .bl (decide (1 = j)), .bl (decide (2 = j)), .bl (decide (3 = j)), .bl (decide (4 = j)), .bl (decide (5 = j)), .bl (decide (6 = j)), .bl (decide (7 = j)), .bl (decide (8 = j)), .bl (decide (9 = j)), .bl (decide (10 = j)), .bl (decide (11 = j))]
theorem own12_count {j : Nat} (h : j < 12) : (own12 j).countP (fun z => eqV z (.bl true)) = 1 := by
  have : ∀ j : Fin 12, (own12 j.val).countP (fun z => eqV z (.bl true)) = 1 := by decide
  exact this ⟨j, h⟩
theorem own12_at {j : Nat} (h : j < 12) : (own12 j)[j]? = some (.bl true) := by
  have : ∀ j : Fin 12, (own12 j.val)[j.val]? = some (.bl true) := by decide
  exact this ⟨j, h⟩
theorem own12_not {j : Nat} (h : j < 12) {m : Nat} {z : V} (hm : m < j) (e : (own12 j)[m]? = some z) : eqV z (.bl true) = false := by
  have : ∀ j m : Fin 12, m.val < j.val → (own12 j.val)[m.val]? = some (.bl false) := by decide
  have := this ⟨j, h⟩ ⟨m, by omega⟩ hm
  rw [this] at e
  cases e
  rfl
theorem own12_flat (j : Nat) : (own12 j).all flatV = true := rfl
theorem shaped_steps (st : List (Nat × Int)) : SeqAt.shaped (.tuple (st.map Ma.stepD)) = true := by
  have h1 := lay_map (f := Ma.stepD) (fun _ => rfl) st
  have h2 := dep_map (f := Ma.stepD) (n := 1) (fun s => by simp [Ma.stepD, PyData.depth, PyData.depthAll]) st
  have h3 : (PyData.tuple (st.map Ma.stepD)).depth ≤ 64 := by rw [PyData.depth]; omega
  simp only [SeqAt.shaped, PyData.canLay0, h1, Bool.true_and, decide_eq_true h3]
/-- the values of a law's line: so many, no further from 0 than w -/
def sp_vals (K : PySem.W.Frag) : Sp := fun vs H Q _ => ∃ (a t : Addr) (m w : Int) (n : Nat), vs = [.ref a, .ref t, .int m, .int w] ∧ 1 ≤ m ∧ m ≤ 60 ∧ 0 ≤ w ∧ w ≤ 999 ∧ Scr K a t H ∧ Town t n H ∧ n ≤ 4000 ∧
  ∀ (l : Addr) (xs : List Int) H', (xs.length : Int) = m → (∀ x ∈ xs, -w ≤ x ∧ x ≤ w) → Same (wo t H) (wo t H') → Town t (n + 120) H' → wo t H l = none → wo t H' l = some (.lst (xs.map V.int)) → Q (.ref l) H'
/-- a law's line, as the list of its values -/
def sp_lvals (K : PySem.W.Frag) : Sp := fun vs H Q _ => ∃ (a t : Addr) (n : Nat), vs = [.ref a, .ref t] ∧ Scr K a t H ∧ Town t n H ∧ n ≤ 3900 ∧
  ∀ (l : Addr) (xs : List Int) H', Ma.OkV xs → Same (wo t H) (wo t H') → Town t (n + 123) H' → wo t H l = none → wo t H' l = some (.lst (xs.map V.int)) → Q (.ref l) H'
end L2
set_option Elab.async false
set_option linter.all false
set_option maxRecDepth 100000
set_option maxHeartbeats 4000000
namespace Ma
open PySem
end Ma
namespace L2
open PySem
/-- len, its reading over a part that is named -/
def rLen (K : PySem.W.Frag) : List V → Hp → VK → Prop := fun xs H Q => ∃ p ys, xs = [V.ref p] ∧ (SqL K H p ys ∨ SqT K H p ys) ∧ Q (.int (ys.length : Nat)) H
theorem call_lenK {X : Cx} {K : PySem.W.Frag} (e : X.K = K) : CallR X (.builtin "len") (rLen K) := by
  subst e
  exact call_len_seq
end L2
set_option Elab.async false
set_option linter.all false
set_option maxRecDepth 100000
set_option maxHeartbeats 4000000
namespace Ma
open PySem
end Ma
namespace L2
open PySem
section
variable {g : Gd} {CU CP CT : Addr} {H : Hp} {Q : VK} {E : XK} {x y : V} {xs ys : List Int}
end
theorem Ln.full {t : Addr} {H : Hp} {v : V} {xs : List Int} (h : Ln (wo t H) v xs) : Ln H v xs := h.same (wo_le t H)
theorem Ln.wo {t : Addr} {n : Nat} {H : Hp} {v : V} {xs : List Int} (h : Ln H v xs) (T : Town t n H) : Ln (L2.wo t H) v xs := ⟨line_wo T h.dd, h.ok⟩
end L2
namespace L2
open PySem
end L2
set_option Elab.async false
set_option linter.all false
set_option maxRecDepth 100000
set_option maxHeartbeats 4000000
namespace L2
open PySem PyProof.Rows
/-- more names that are built-ins' -/
structure Bl2 (mg : Str → Option Value) : Prop where
  sum : mg "sum" = none
  sorted : mg "sorted" = none
  abs : mg "abs" = none
  set : mg "set" = none
end L2
namespace Ma
open PySem
end Ma
namespace Ma
open PySem
end Ma
namespace L2
open PySem
end L2
namespace Ma
open PySem
end Ma
namespace L2
open PySem
end L2
set_option Elab.async false
set_option linter.all false
set_option maxRecDepth 100000
set_option maxHeartbeats 4000000
/-! for over what a call gives that may raise; the body raises nothing. -/
namespace L2
open PySem PySem.Spec PyProof.Rows
section
variable {X : Cx}
theorem ps_forI {iter tg : Expr} {body : List Stmt} {wi : TI} {g : TG} {tb : TS} {pos : Pos} (hc : X.calm = true) (hi : PI X tg iter wi) (hg : PG X.nox tg g) (hb : PSs X.nox body tb)
    (hs : ∀ x, foldedSetIterable iter X.env x = pure x := by intro _; rfl) : PS X (.For tg iter body [] pos) (tFor wi g tb) := by
  intro pins s σ H D I h
  refine wpAny_For (thn (hi pins s σ H _ I h) fun v s1 h1 => thn h1 fun itv s2 h2 => ?_) hs
  obtain ⟨it, fp, tn, J, H2, e, I2, T, st2, f2, W, ⟨m0, w0⟩, turn⟩ := h2
  subst e
  have stat : ∀ {H' : Hp}, (∀ b ∈ fp, H' b = none) → ∀ b ∈ fp, FpOk X.nox pins H' b := fun hn b hb => ⟨hn b hb, (f2 b hb).2⟩
  refine codeAny_forLoop_any (fun n s' => ∃ i σ' H', Inv X.nox pins σ' H' s' ∧ tn i s'.heap ∧ (∀ b ∈ fp, H' b = none) ∧ W i n σ' H') ?_ m0 ⟨0, σ, H2, I2.wish _, st2, fun b hb => (f2 b hb).1, w0⟩
  rintro n s3 ⟨i, σ3, H3, I3, st3, fr3, w3⟩
  rcases turn i n σ3 H3 w3 with ⟨stop, qn⟩ | ⟨go, N, hN, step⟩
  · refine thnF (T.done X.nox rfl rfl rfl hc i pins s3 σ3 H3 (fun _ _ => False) I3 (stat fr3) st3 stop) fun r s4 ⟨hr, I4⟩ => ?_
    subst hr
    exact wpAny_execs_nil ⟨σ3, H3, I4.unwish, qn⟩
  · refine thnF (T.item X.nox rfl rfl rfl hc i pins s3 σ3 H3 (fun _ _ => False) I3 (stat fr3) st3 go) fun r s4 ⟨u, hr, h4⟩ => ?_
    subst hr
    refine thnF h4 fun _ s5 ⟨x, H5, I5, r5, y5, st5, fr5⟩ => ?_
    have I5' := I5.pinned (stat fr5) (T.obj _ _ st5)
    refine thnF (hg _ s5 σ3 H5 x u _ I5' r5 (step x H5 y5)) fun _ s6 ⟨σ6, H6, I6, q6⟩ => ?_
    refine thnF (hb _ s6 σ6 H6 _ I6 q6) fun f s7 q7 => ?_
    have again : ∀ {σ7 : St} {H7 : Hp}, Inv X.nox (pins ++ pinsAt fp s5.heap) σ7 H7 s7 → N σ7 H7 → ∃ m, m < n ∧ ∃ i σ' H', Inv X.nox pins σ' H' s7 ∧ tn i s7.heap ∧ (∀ b ∈ fp, H' b = none) ∧ W i m σ' H' := fun {σ7 H7} I7 n7 => by
      obtain ⟨m', hm, w7⟩ := hN σ7 H7 n7
      refine ⟨m', hm, i + 1, σ7, H7, I7.unpinned, T.keep _ _ _ st5 fun b hb o e => (I7.pin (b, o) (List.mem_append_right _ (List.mem_append_right _ (mem_pinsAt hb e)))).1, fun b hb => ?_, w7⟩
      obtain ⟨o, e, d⟩ := T.obj _ _ st5 b hb
      exact (I7.pin (b, o) (List.mem_append_right _ (List.mem_append_right _ (mem_pinsAt hb e)))).2.1
    cases f with
    | next => obtain ⟨σ7, H7, I7, n7⟩ := q7; exact again I7 n7
    | cont => obtain ⟨σ7, H7, I7, n7⟩ := q7; exact again I7 n7
    | brk => obtain ⟨σ7, H7, I7, q7⟩ := q7; exact ⟨σ7, H7, I7.unpinned.unwish, q7⟩
    | ret v => obtain ⟨x7, σ7, H7, I7, r7, q7⟩ := q7; exact ⟨x7, σ7, H7, I7.unpinned.unwish, r7, q7⟩
end
end L2
set_option Elab.async false
set_option linter.all false
set_option maxRecDepth 100000
set_option maxHeartbeats 4000000
/-! Rules whose readings name K, not the context: within comprehensions, too. -/
namespace L2
open PySem
section
variable {X : Cx} {K : PySem.W.Frag} {tg : Expr}
theorem ix_listK (e : X.K = K) : IxR X (rIxL K) := by subst e; exact ix_list
theorem ix_tupK (e : X.K = K) : IxR X (rIxT K) := by subst e; exact ix_tup
theorem sl_listK (e : X.K = K) : SlR X (rSlL K) := by subst e; exact sl_list
theorem sl_tupK (e : X.K = K) : SlR X (rSlT K) := by subst e; exact sl_tup
theorem op_eqDK (hu : X.A.units + 64 < cLine) (e : X.K = K) : OpR X (compareOp .Eq) (rEqD K) := by subst e; exact op_eqD hu
theorem op_neDK (hu : X.A.units + 64 < cLine) (e : X.K = K) : OpR X (compareOp .NotEq) (rNeD K) := by subst e; exact op_neD hu
theorem mt_indexK (e : X.K = K) : MtR X "list.index" (rIndex K) := by subst e; exact mt_index
theorem pi_listK (e : X.K = K) {l : Expr} {tl : TE} (hl : PE X l tl) : PI X tg l (iList K tl) := by subst e; exact pi_list hl
theorem pi_tupK (e : X.K = K) {l : Expr} {tl : TE} (hl : PE X l tl) : PI X tg l (iTup K tl) := by subst e; exact pi_tup hl
theorem pi_enumK (eK : X.K = K) {e : Expr} {ta : TA} {p pos tpos : Pos} {elts : List Expr} {kk : Nat} (hg : Gl X "enumerate") (hm : X.mg "enumerate" = none) (ha : PA X [e] ta) (hs : starEach [e] X.env = [(false, eval e X.env)] := by rfl) :
    PI X (.Tuple elts kk tpos) (.Call (.Name "enumerate" p) [e] [] pos) (iEnum K ta) := by subst eK; exact pi_enum hg hm ha hs
theorem piS_zipK (eK : X.K = K) {b1 b2 : Bool} {e e2 : Expr} {ta : TA} {p pos tpos : Pos} {elts : List Expr} {kk : Nat} (hg : Gl X "zip") (hm : X.mg "zip" = none) (ha : PA X [e, e2] ta)
    (hs : starEach [e, e2] X.env = (false, eval e X.env) :: starEach [e2] X.env := by rfl) (hpl : (backTo pos (starEach [e2] X.env)).any (·.1) = false := by rfl) :
    PI X (.Tuple elts kk tpos) (.Call (.Name "zip" p) [e, e2] [] pos) (iZipS K b1 b2 ta) := by subst eK; exact piS_zip hg hm ha hs hpl
end
end L2
set_option Elab.async false
set_option linter.all false
set_option maxRecDepth 100000
set_option maxHeartbeats 4000000
/-! Running totals, gains, lines shifted: mathematics and promises. -/
namespace Ma
open PySem
def sumsFrom (s : Int) : List Int → List Int
  | [] => []
  | x :: r => (s + x) :: sumsFrom (s + x) r
def gainsFrom (p : Int) : List Int → List Int
  | [] => []
  | x :: r => (x - p) :: gainsFrom x r
def sumsV (xs : List Int) : List Int := sumsFrom 0 xs
def gainsV (xs : List Int) : List Int := gainsFrom 0 xs
theorem sumsFrom_len : ∀ (xs : List Int) (p : Int), (sumsFrom p xs).length = xs.length
  | [], _ => rfl
  | x :: r, p => by show (sumsFrom (p + x) r).length + 1 = r.length + 1; rw [sumsFrom_len r]
theorem gainsFrom_len : ∀ (xs : List Int) (p : Int), (gainsFrom p xs).length = xs.length
  | [], _ => rfl
  | x :: r, p => by show (gainsFrom x r).length + 1 = r.length + 1; rw [gainsFrom_len r]
theorem sumsV_len (xs : List Int) : (sumsV xs).length = xs.length := sumsFrom_len xs 0
theorem gainsV_len (xs : List Int) : (gainsV xs).length = xs.length := gainsFrom_len xs 0
theorem sumsFrom_at : ∀ (xs : List Int) (p : Int) (i : Nat), i < xs.length → (sumsFrom p xs)[i]? = some (p + (xs.take (i + 1)).sum)
  | [], _, _, h => by simp at h
  | x :: r, p, 0, _ => by simp [sumsFrom]
  | x :: r, p, i + 1, h => by
    show (sumsFrom (p + x) r)[i]? = some (p + (x :: r.take (i + 1)).sum)
    rw [sumsFrom_at r (p + x) i (by simpa using h), List.sum_cons, Int.add_assoc]
theorem sumsV_at {xs : List Int} {i : Nat} (h : i < xs.length) : (sumsV xs)[i]? = some ((xs.take (i + 1)).sum) := by
  have := sumsFrom_at xs 0 i h
  rw [Int.zero_add] at this
  exact this
def risesV (xs : List Int) : List Int := List.zipWith (fun a w => w - a) xs (xs.drop 1)
theorem gainsFrom_rises : ∀ (r : List Int) (x : Int), gainsFrom x r = risesV (x :: r)
  | [], _ => rfl
  | y :: r, x => by
    show (y - x) :: gainsFrom y r = _
    rw [gainsFrom_rises r y]; rfl
theorem gainsV_rises {xs : List Int} (h : xs ≠ []) : gainsV xs = xs.take 1 ++ risesV xs := by
  cases xs with
  | nil => exact absurd rfl h
  | cons x r =>
    show (x - 0) :: gainsFrom x r = [x] ++ risesV (x :: r)
    rw [gainsFrom_rises, Int.sub_zero]; rfl
theorem fits_great {xs : List Int} (h : xs.length ≤ 60) : fits xs = decide ((xs.filter fun x => decide (999 < if x < 0 then -x else x)) = []) := by
  rw [Bool.eq_iff_iff, decide_eq_true_iff]
  simp only [fits, decide_eq_true h, Bool.true_and, List.all_eq_true, List.filter_eq_nil_iff]
  refine forall₂_congr fun x _ => ?_
  simp only [isValue, isWhole, Bool.and_eq_true, decide_eq_true_eq]
  split <;> omega
end Ma
namespace L2
open PySem
theorem fm_filter {α : Type} (p : α → Bool) (f : α → V) (xs : List α) : (xs.map fun x => if p x = true then some (f x) else none).filterMap id = (xs.filter p).map f := by
  induction xs with
  | nil => rfl
  | cons x r ih =>
    rw [List.map_cons, List.filterMap_cons, List.filter_cons]
    by_cases h : p x = true
    · simp only [h, if_true, id]; rw [ih]; rfl
    · simp only [h, if_false, id]; rw [ih]; rfl
/-- a def of one line: what is none is refused -/
def sp_un (g : Gd) (CL : Addr) (R : List Int → Hp → VK → XK → Prop) : Sp := fun vs H Q E => ∃ v d, vs = [v] ∧ Dd H v d ∧ g.On H ∧ ((Ma.isLine d = false ∧ ∀ H', Same H H' → E (.ref CL) none H') ∨ ∃ xs, Ma.OkV xs ∧ d = Ma.lineD xs ∧ R xs H Q E)
/-- the same, or TooGreat -/
abbrev RFit (CT : Addr) (f : List Int → List Int) : List Int → Hp → VK → XK → Prop := fun xs H Q E => ∀ H', Same H H' → (Ma.fits (f xs) = true → ∀ r, Dd H' r (Ma.lineD (f xs)) → Q r H') ∧ (Ma.fits (f xs) = false → E (.ref CT) none H')
/-- plain data -/
abbrev RData (f : List Int → PyData) : List Int → Hp → VK → XK → Prop := fun xs H Q _ => ∀ r H', Same H H' → Dd H' r (f xs) → Q r H'
def sp_rises : Sp := fun vs H Q _ => ∃ (a : Addr) (xs : List Int), vs = [.ref a] ∧ H a = some (.lst (xs.map V.int)) ∧ xs.length ≤ 1000 ∧ 1 ≤ xs.length ∧ ∀ l H', Same H H' → H l = none → H' l = some (.lst ((Ma.risesV xs).map V.int)) → Q (.ref l) H'
theorem cutTo {xs : List V} {m : Nat} (h : m ≤ xs.length) : cutV xs none (some ((m : Nat) : Int)) = xs.take m := by
  unfold cutV
  have e2 : HT.sIx xs.length xs.length (some (m : Nat)) = m := by
    simp only [HT.sIx]
    rw [if_neg (by omega)]
    omega
  rw [show HT.sIx xs.length 0 none = 0 from rfl, e2, List.drop_zero, Nat.sub_zero]
def sp_law (K : PySem.W.Frag) (g : Gd) : Sp := fun vs H Q _ => ∃ (a : Addr) (ns : List Int), vs = [.ref a] ∧ SqL K H a (ns.map V.int) ∧ g.On H ∧ ∀ H', g.On H' → Q (.bl true) H'
/-- the law's start: the town is laid -/
theorem law_start {K : PySem.W.Frag} {g : Gd} {a t : Addr} {ns : List Int} {H : Hp} (hs : SqL K H a (ns.map V.int)) (G : g.On H) (ht : H t = none) : Bs K g a t 0 (upd H t (.lst [])) := by
  have s0 : Same H (wo t (upd H t (.lst []))) := wo_new ht
  exact ⟨⟨ns, s0.seq hs⟩, G.same s0, ⟨[], upd_same, Nat.le_refl _⟩⟩
theorem do_lvals {K : PySem.W.Frag} {g : Gd} {a t : Addr} {n : Nat} {H : Hp} {Q : VK} {E : XK} (b : Bs K g a t n H) (hn : n ≤ 3900) (q : ∀ l xs H', Ma.OkV xs → Same (wo t H) (wo t H') → Bs K g a t (n + 123) H' → wo t H l = none → wo t H' l = some (.lst (xs.map V.int)) → Q (.ref l) H') : sp_lvals K [.ref a, .ref t] H Q E :=
  ⟨a, t, n, rfl, b.scr, b.town, hn, fun l xs H' ok s T h0 h1 => q l xs H' ok s (b.step s T) h0 h1⟩
theorem do_lof {H : Hp} {Q : VK} {E : XK} {l : Addr} {xs : List Int} (hl : H l = some (.lst (xs.map V.int))) (ok : Ma.OkV xs) (q : ∀ v H', Same H H' → Ln H' v xs → Q v H') : sp_line [.ref l] H Q E :=
  ⟨l, xs, rfl, hl, by have := ok.len; omega, fun v H' s d => q v H' s ⟨d, ok⟩⟩
theorem Ln.p {K : PySem.W.Frag} {H : Hp} {v : V} {xs : List Int} (h : Ln H v xs) : Dp K H v (Ma.lineD xs) := h.dd.p
theorem eqvN {d : PyData} (h : SeqAt.shaped d = true) : (!PyData.eqv d d) = false := by rw [eqv_self h]; rfl
structure Rf (K : PySem.W.Frag) (LE : Addr) (Cs : List Addr) (j : Nat) (C : Addr) : Prop where
  cl : Cl10 K Cs j C
  ex : PySem.W.exmOne K (.ref C) (.ref LE) = some true
theorem rf_of {K : PySem.W.Frag} {LE : Addr} {Cs : List Addr} {Q : VK} {H : Hp} {j : Nat} {C : Addr} {H2 : Hp} (R : Rf K LE Cs j C) (s : Same H H2) (q : ∀ v H', Same H H' → Dd H' v (refD j) → Q v H') : rfs K LE Cs Q (.ref C) none H2 := ⟨C, j, rfl, R.cl, R.ex, fun v H3 s3 dv => q v H3 (s.trans s3) dv⟩
theorem sh_ref (j : Nat) : SeqAt.shaped (refD j) = true := by
  simp [refD, SeqAt.shaped, PyData.canLay0, PyData.canLayAll0, PyData.depth, PyData.depthAll]
  decide +kernel
end L2
set_option Elab.async false
set_option linter.all false
set_option maxRecDepth 100000
set_option maxHeartbeats 4000000
/-! A text with two numbers in it. -/
namespace L2
open PySem PyProof.Rows
theorem log_small {i : Int} (h : i.natAbs < 10000) : i.natAbs.log2 < 1920 := by
  by_cases z : i.natAbs = 0
  · rw [z]; decide
  · exact (Nat.log2_lt z).mpr (Nat.lt_trans h (Nat.lt_of_lt_of_le (show 10000 < 2 ^ 14 by decide) (Nat.pow_le_pow_right (by decide) (by decide))))
theorem txt_small {i : Int} (h : i.natAbs < 10000) : (Str.ofString (toString i)).length ≤ 5 := by
  rw [PySem.ofString_length]
  exact int_text_length_le10 (k := 4) (by decide) h
def tF2 (x y : Str) (ta tb : TE) : TE := fun σ H Q => x.length + y.length ≤ 1000 ∧ ta σ H fun v H1 => ∃ i, v = .int i ∧ i.natAbs < 10000 ∧ tb σ H1 fun u H2 => ∃ k, u = .int k ∧ k.natAbs < 10000 ∧ ∀ z, Q (.str z) H2
theorem pe_f2 {X : Cx} {x y : Str} {a b : Expr} {ta tb : TE} {j1 j2} {p1 p2 p3 p4 pos : Pos} (ha : PE X a ta) (hb : PE X b tb) :
    PE X (.JoinedStr [.Constant (.str x) j1 p1, .FormattedValue a (-1) none p2, .Constant (.str y) j2 p3, .FormattedValue b (-1) none p4] pos) (tF2 x y ta tb) := by
  intro pins s σ H Q I h
  obtain ⟨hl, h⟩ := h
  refine wpAny_JoinedStr ?_
  have hz : 100000 ≤ sizeLine := by decide
  have e0 : (Str.empty ++ x).length = x.length := by rw [strLen_append]; show 0 + x.length = x.length; omega
  show wpAny _ _ (eval (.Constant (.str x) j1 p1) X.env) _ _ s
  refine Calls.Constant_str ⟨x, _, rfl, by omega, ?_⟩
  show wpAny _ _ (eval (.FormattedValue a (-1) none p2) X.env) _ _ _
  refine wpAny_FormattedValue_plain (thn (ha pins _ σ H _ (I.tok _) h) fun v s1 ⟨w1, H1, I1, r1, i, ei, hi, h1⟩ => ?_)
  subst ei
  obtain ⟨t1, rfl⟩ := r1
  have li := txt_small hi
  refine wpAny_formatField_int (log_small hi) ⟨_, _, rfl, by rw [strLen_append]; omega, ?_⟩
  show wpAny _ _ (eval (.Constant (.str y) j2 p3) X.env) _ _ _
  refine Calls.Constant_str ⟨y, _, rfl, by rw [strLen_append, strLen_append]; omega, ?_⟩
  show wpAny _ _ (eval (.FormattedValue b (-1) none p4) X.env) _ _ _
  refine wpAny_FormattedValue_plain (thn (hb pins _ σ H1 _ ((I1.tok _).tok _) h1) fun u s2 ⟨w2, H2, I2, r2, k, ek, hk, h2⟩ => ?_)
  subst ek
  obtain ⟨t2, rfl⟩ := r2
  have lk := txt_small hk
  have len : (Str.empty ++ x ++ Str.ofString (toString i) ++ y ++ Str.ofString (toString k)).length ≤ sizeLine := by
    rw [strLen_append, strLen_append, strLen_append]; omega
  refine wpAny_formatField_int (log_small hk) ⟨_, _, rfl, len, len, .str _, H2, (I2.tok _).tok _, ⟨_, rfl⟩, h2 _⟩
end L2
set_option Elab.async false
set_option linter.all false
set_option maxRecDepth 100000
set_option maxHeartbeats 4000000
namespace Ma
open PySem
def rises (xs : List Int) : Bool := decide (xs.Pairwise (· ≤ ·))
end Ma
namespace L2
open PySem
def sp_number (C : Addr) : Sp := fun vs H Q E => ∃ (v : V) (d : PyData) (lo hi : Int), vs = [v, .int lo, .int hi] ∧ Dd H v d ∧ lo.natAbs < 10000 ∧ hi.natAbs < 10000 ∧ (Ma.isWhole lo hi d = true → Q .non H) ∧ (Ma.isWhole lo hi d = false → E (.ref C) none H)
end L2
set_option Elab.async false
set_option linter.all false
set_option maxRecDepth 100000
set_option maxHeartbeats 4000000
/-! Lines shifted; how often they swell and sink. -/
namespace Ma
open PySem
def shiftV (m : Nat) (xs : List Int) : List Int := (List.range xs.length).map fun i => xs.getD (i - m) 0
theorem shiftV_len (m : Nat) (xs : List Int) : (shiftV m xs).length = xs.length := by simp [shiftV]
theorem shiftV_at {m : Nat} {xs : List Int} {i : Nat} (h : i < xs.length) : (shiftV m xs)[i]? = some (xs.getD (i - m) 0) := by simp [shiftV, h]
theorem shiftV_prog {m : Nat} {xs : List Int} (h : 1 ≤ xs.length) : ((List.replicate m (xs.take 1)).flatten ++ xs).take xs.length = shiftV m xs := by
  obtain ⟨x, r, rfl⟩ : ∃ x r, xs = x :: r := by
    cases xs with
    | nil => simp at h
    | cons x r => exact ⟨x, r, rfl⟩
  have e : (List.replicate m ((x :: r).take 1)).flatten = List.replicate m x := by
    show (List.replicate m [x]).flatten = _
    rw [List.flatten_replicate_singleton]
  rw [e]
  refine List.ext_getElem (by rw [shiftV_len, List.length_take, List.length_append, List.length_replicate]; omega) fun i h1 h2 => ?_
  have h3 : i < (x :: r).length := by rw [shiftV_len] at h2; exact h2
  have e2 := shiftV_at (m := m) h3
  rw [List.getElem?_eq_getElem h2] at e2
  rw [Option.some.inj e2, List.getElem_take]
  by_cases c : i < m
  · rw [List.getElem_append_left (by rw [List.length_replicate]; exact c), List.getElem_replicate, show i - m = 0 by omega]; rfl
  · rw [List.getElem_append_right (by rw [List.length_replicate]; omega), List.getD_eq_getElem?_getD]
    simp only [List.length_replicate]
    rw [List.getElem?_eq_getElem (show i - m < (x :: r).length by omega)]; rfl
def ups (xs : List Int) : Nat := ((risesV xs).filter fun x => decide (0 < x)).length
def downs (xs : List Int) : Nat := ((risesV xs).filter fun x => decide (x < 0)).length
end Ma
namespace L2
open PySem
/-- a def of a line and another thing -/
def sp_un2 (g : Gd) (CL : Addr) (R : List Int → PyData → Hp → VK → XK → Prop) : Sp := fun vs H Q E => ∃ v u d e, vs = [v, u] ∧ Dd H v d ∧ Dd H u e ∧ g.On H ∧ ((Ma.isLine d = false ∧ ∀ H', Same H H' → E (.ref CL) none H') ∨ ∃ xs, Ma.OkV xs ∧ d = Ma.lineD xs ∧ R xs e H Q E)
/-- of a number of places: a line, or NoNumber -/
abbrev RNum (CN : Addr) (lo hi : List Int → Int) (f : Nat → List Int → PyData) : List Int → PyData → Hp → VK → XK → Prop := fun xs e H Q E => ∀ H', Same H H' → (Ma.isWhole (lo xs) (hi xs) e = false → E (.ref CN) none H') ∧ (∀ m : Nat, e = .int (m : Nat) → Ma.isWhole (lo xs) (hi xs) e = true → ∀ r, Dd H' r (f m xs) → Q r H')
end L2
set_option Elab.async false
set_option linter.all false
set_option maxRecDepth 100000
set_option maxHeartbeats 4000000
/-! Two lines of one length: how far they are from one another. -/
namespace Ma
open PySem
def ab (x : Int) : Int := if x < 0 then -x else x
end Ma
namespace L2
open PySem
end L2
set_option Elab.async false
set_option linter.all false
set_option maxRecDepth 100000
set_option maxHeartbeats 4000000
namespace L2
open PySem
/-- lists of numbers, as they stand -/
abbrev Rws (H : Hp) : List V → List (List Int) → Prop := Paired fun v xs => ∃ l, v = .ref l ∧ H l = some (.lst (xs.map V.int))
theorem Rws.same {H H' : Hp} (e : Same H H') {us : List V} {rs : List (List Int)} (t : Rws H us rs) : Rws H' us rs := Paired.imp' (fun v s ⟨b, e1, e2⟩ => ⟨b, e1, e _ _ e2⟩) t
theorem Rws.snoc {H : Hp} : ∀ {us : List V} {rs : List (List Int)} {l : Addr} {xs : List Int}, Rws H us rs → H l = some (.lst (xs.map V.int)) → Rws H (us ++ [.ref l]) (rs ++ [xs])
  | _, _, l, xs, .nil, h => .cons ⟨l, rfl, h⟩ .nil
  | _, _, l, xs, .cons r t, h => .cons r (Rws.snoc t h)
theorem Rws.get {H : Hp} {us : List V} {rs : List (List Int)} {i : Nat} {x : V} : Rws H us rs → us[i]? = some x → ∃ xs l, rs[i]? = some xs ∧ x = .ref l ∧ H l = some (.lst (xs.map V.int)) := by
  intro t e
  induction t generalizing i with
  | nil => simp at e
  | cons r t ih =>
    cases i with
    | zero =>
      simp at e; subst e
      obtain ⟨b, e1, e2⟩ := r
      exact ⟨_, b, rfl, e1, e2⟩
    | succ i =>
      obtain ⟨s, b, h1, h2, h3⟩ := ih (by simpa using e)
      exact ⟨s, b, by simpa using h1, h2, h3⟩
abbrev Lns (H : Hp) : List V → List (List Int) → Prop := Paired fun v xs => Ln H v xs
theorem Lns.snoc {H : Hp} : ∀ {us : List V} {rs : List (List Int)} {v : V} {xs : List Int}, Lns H us rs → Ln H v xs → Lns H (us ++ [v]) (rs ++ [xs])
  | _, _, _, _, .nil, h => .cons h .nil
  | _, _, _, _, .cons r t, h => .cons r (Lns.snoc t h)
theorem Lns.same {H H' : Hp} (e : Same H H') {us : List V} {rs : List (List Int)} (t : Lns H us rs) : Lns H' us rs := Paired.imp' (fun _ _ k => k.same e) t
end L2
set_option Elab.async false
set_option linter.all false
set_option maxRecDepth 100000
set_option maxHeartbeats 4000000
namespace L2
open PySem
/-- things that are no lines -/
def OddL (H : Hp) (us : List V) : Prop := ∀ x ∈ us, ∃ d, Dd H x d ∧ Ma.isLine d = false
theorem OddL.same {H H' : Hp} {us : List V} (h : OddL H us) (s : Same H H') : OddL H' us := fun x hx => let ⟨d, h1, h2⟩ := h x hx; ⟨d, h1.same s, h2⟩
theorem OddL.app {H : Hp} {us ws : List V} (h1 : OddL H us) (h2 : OddL H ws) : OddL H (us ++ ws) := fun x hx => by
  rcases List.mem_append.mp hx with z | z
  · exact h1 x z
  · exact h2 x z
def sp_odd (K : PySem.W.Frag) : Sp := fun vs H Q _ => ∃ (a t : Addr) (n : Nat), vs = [.ref a, .ref t] ∧ Scr K a t H ∧ Town t n H ∧ n ≤ 3000 ∧ ∀ x d H', Same (wo t H) (wo t H') → Town t (n + 1) H' → Dd (wo t H') x d → Ma.isLine d = false → Q x H'
end L2
set_option Elab.async false
set_option linter.all false
set_option maxRecDepth 100000
set_option maxHeartbeats 4000000
/-! Windows. -/
namespace Ma
open PySem
end Ma
namespace L2
open PySem
end L2
set_option Elab.async false
set_option linter.all false
set_option maxRecDepth 100000
set_option maxHeartbeats 4000000
namespace Ma
open PySem
end Ma
namespace L2
open PySem
end L2
set_option Elab.async false
set_option linter.all false
set_option maxRecDepth 100000
set_option maxHeartbeats 4000000
namespace Ma
open PySem
end Ma
namespace L2
open PySem
end L2
namespace L2
open PySem
end L2
set_option Elab.async false
set_option linter.all false
set_option maxRecDepth 100000
set_option maxHeartbeats 4000000
namespace Ma
open PySem
end Ma
set_option Elab.async false
set_option linter.all false
set_option maxRecDepth 100000
set_option maxHeartbeats 4000000
/-! The longest stretch within a spread. -/
namespace Ma
open PySem
end Ma
namespace L2
open PySem
end L2
set_option Elab.async false
set_option linter.all false
set_option maxRecDepth 100000
set_option maxHeartbeats 4000000
/-! Written displays of any depth, as plain data. -/
namespace L2
open PySem
def litL (f : Expr → Option PyData) : List Expr → Option (List PyData)
  | [] => some []
  | e :: r => match f e, litL f r with
    | some d, some ds => some (d :: ds)
    | _, _ => none
def litE : Nat → Expr → Option PyData
  | 0, _ => none
  | n + 1, e => match e with
    | .Constant (.int i) _ _ => some (.int i)
    | .Constant (.bool b) _ _ => some (.bool b)
    | .Constant .none _ _ => some .none
    | .Constant (.str x) _ _ => some (.str x)
    | .UnaryOp .USub (.Constant (.int i) _ _) _ => some (.int (-i))
    | .Tuple es _ _ => if es.length ≤ 1000 then (litL (litE n) es).map .tuple else none
    | .List es _ => if es.length ≤ 1000 then (litL (litE n) es).map .list else none
    | _ => none
/-- what is new in H' -/
def fresh (H H' : Hp) : Hp := fun b => match H b with | none => H' b | some _ => none
theorem fresh_at {H H' : Hp} {b : Addr} (h : H b = none) : fresh H H' b = H' b := by unfold fresh; rw [h]
theorem fresh_some {H H' : Hp} {b : Addr} {o : HO} (h : fresh H H' b = some o) : H b = none ∧ H' b = some o := by
  unfold fresh at h
  cases e : H b with
  | none => rw [e] at h; exact ⟨rfl, h⟩
  | some u => rw [e] at h; cases h
theorem fresh_mono {H H1 H2 : Hp} (s : Same H1 H2) : Same (fresh H H1) (fresh H H2) := fun b o h => by
  obtain ⟨h1, h2⟩ := fresh_some h
  rw [fresh_at h1]; exact s _ _ h2
theorem fresh_more {H H1 H2 : Hp} (s : Same H H1) : Same (fresh H1 H2) (fresh H H2) := fun b o h => by
  obtain ⟨h1, h2⟩ := fresh_some h
  rw [fresh_at (none_of s h1)]; exact h2
theorem fresh_wo {H H' : Hp} {t : Addr} {o : HO} (h : H t = some o) : Same (fresh H H') (wo t H') := fun b u e => by
  obtain ⟨h1, h2⟩ := fresh_some e
  rw [wo_ne]
  · exact h2
  · intro z; rw [z, h] at h1; cases h1
def tLit (d : PyData) : TE := fun _ H Q => ∀ v H', Same H H' → Dd (fresh H H') v d → Q v H'
def tLits (ds : List PyData) : TA := fun _ H Q => ∀ vs H', Same H H' → DdL (fresh H H') vs ds → Q vs H'
section
variable {X : Cx}
theorem PE.imp {e : Expr} {t t' : TE} (h : PE X e t) (i : ∀ σ H Q, t' σ H Q → t σ H Q) : PE X e t' := fun pins s σ H Q I q => h pins s σ H Q I (i σ H Q q)
theorem PA.imp {es : List Expr} {t t' : TA} (h : PA X es t) (i : ∀ σ H Q, t' σ H Q → t σ H Q) : PA X es t' := fun pos pins s σ H Q I q => h pos pins s σ H Q I (i σ H Q q)
theorem pa_lits {f : Expr → Option PyData} (hf : ∀ e d, f e = some d → PE X e (tLit d) ∧ ∀ es, starEach (e :: es) X.env = (false, eval e X.env) :: starEach es X.env) : ∀ (es : List Expr) (ds : List PyData), litL f es = some ds → PA X es (tLits ds)
  | [], ds, h => by
    cases h
    exact PA.imp pa_nil fun σ H Q q => q [] H (Same.refl H) .nil
  | e :: r, ds, h => by
    unfold litL at h
    cases e1 : f e with
    | none => rw [e1] at h; cases h
    | some d =>
      cases e2 : litL f r with
      | none => rw [e1, e2] at h; cases h
      | some ds' =>
        rw [e1, e2] at h
        obtain rfl := Option.some.inj h
        obtain ⟨pe, st⟩ := hf e d e1
        refine PA.imp (pa_cons pe (pa_lits hf r ds' e2) (st r)) fun σ H Q q => ?_
        intro v H1 s1 d1 vs H2 s2 d2
        exact q (v :: vs) H2 (s1.trans s2) (.cons (d1.same (fresh_mono s2)) (DdL.same (fresh_more s1) d2))
theorem lit_ok : ∀ (n : Nat) (e : Expr) (d : PyData), litE n e = some d → PE X e (tLit d) ∧ ∀ es, starEach (e :: es) X.env = (false, eval e X.env) :: starEach es X.env
  | 0, _, _, h => by cases h
  | n + 1, e, d, h => by
    have len : ∀ {vs : List V} {ds : List PyData} {H : Hp} {es : List Expr}, es.length ≤ 1000 → litL (litE n) es = some ds → DdL H vs ds → vs.length ≤ sizeLine := fun {vs ds H es} l h p => by
      have l2 : ∀ (es : List Expr) (ds : List PyData), litL (litE n) es = some ds → ds.length = es.length := by
        intro es
        induction es with
        | nil => intro ds h; cases h; rfl
        | cons e r ih =>
          intro ds h
          unfold litL at h
          cases e1 : litE n e with
          | none => rw [e1] at h; cases h
          | some d =>
            cases e2 : litL (litE n) r with
            | none => rw [e1, e2] at h; cases h
            | some ds' =>
              rw [e1, e2] at h
              obtain rfl := Option.some.inj h
              rw [List.length_cons, List.length_cons, ih _ e2]
      have := p.len
      rw [l2 es ds h] at this
      exact Nat.le_trans (show vs.length ≤ 1000 by omega) (by decide)
    unfold litE at h
    split at h
    · obtain rfl := Option.some.inj h
      exact ⟨PE.imp pe_int fun σ H Q q => q _ H (Same.refl H) (.int _), fun es => rfl⟩
    · obtain rfl := Option.some.inj h
      exact ⟨PE.imp pe_bl fun σ H Q q => q _ H (Same.refl H) (.bl _), fun es => rfl⟩
    · obtain rfl := Option.some.inj h
      exact ⟨PE.imp pe_non fun σ H Q q => q _ H (Same.refl H) .non, fun es => rfl⟩
    · obtain rfl := Option.some.inj h
      exact ⟨PE.imp pe_str fun σ H Q q => q _ H (Same.refl H) (.str _), fun es => rfl⟩
    · obtain rfl := Option.some.inj h
      exact ⟨PE.imp (pe_un un_neg pe_int) fun σ H Q q => ⟨_, rfl, q _ H (Same.refl H) (.int _)⟩, fun es => rfl⟩
    · rename_i es k pos
      split at h
      · rename_i hl
        cases e2 : litL (litE n) es with
        | none => rw [e2] at h; cases h
        | some ds =>
          rw [e2] at h
          obtain rfl := Option.some.inj h
          refine ⟨PE.imp (pe_tup (pa_lits (lit_ok n) es ds e2)) fun σ H Q q => ?_, fun es => rfl⟩
          intro vs H1 s1 d1
          refine ⟨len hl e2 d1, fun p hp => ?_⟩
          have sp := Same.new hp (.tup vs)
          exact q (.ref p) _ (s1.trans sp) (.tup (by rw [fresh_at (none_of s1 hp)]; exact upd_same) (DdL.same (fresh_mono sp) d1))
      · cases h
    · rename_i es pos
      split at h
      · rename_i hl
        cases e2 : litL (litE n) es with
        | none => rw [e2] at h; cases h
        | some ds =>
          rw [e2] at h
          obtain rfl := Option.some.inj h
          refine ⟨PE.imp (pe_lst (pa_lits (lit_ok n) es ds e2)) fun σ H Q q => ?_, fun es => rfl⟩
          intro vs H1 s1 d1
          refine ⟨len hl e2 d1, fun p hp => ?_⟩
          have sp := Same.new hp (.lst vs)
          exact q (.ref p) _ (s1.trans sp) (.lst (by rw [fresh_at (none_of s1 hp)]; exact upd_same) (DdL.same (fresh_mono sp) d1))
      · cases h
    · cases h
end
/-- a list of data, by its items -/
theorem lst_inv {H : Hp} {v : V} {ds : List PyData} (h : Dd H v (.list ds)) : ∃ l us, v = .ref l ∧ H l = some (.lst us) ∧ DdL H us ds := by
  cases h with
  | @lst l us ds hl p => exact ⟨l, us, rfl, hl, p⟩
theorem odd_of {H : Hp} {us : List V} {ds : List PyData} (p : DdL H us ds) (h : ds.all (fun d => !Ma.isLine d) = true) : OddL H us := by
  intro x hx
  obtain ⟨i, hi⟩ := List.mem_iff_getElem?.mp hx
  obtain ⟨d, h1, h2⟩ := DdL.get p hi
  have := List.all_eq_true.mp h d (List.mem_of_getElem? h1)
  exact ⟨d, h2, by simpa using this⟩
end L2
namespace L2
open PySem
section
variable {X : Cx} {e a b : Expr} {es : List Expr} {te ta tb : TE} {t : TA} {pos : Pos}
end
end L2
set_option Elab.async false
set_option linter.all false
set_option maxRecDepth 100000
set_option maxHeartbeats 4000000
/-! Statements with big written displays, by their shapes: the display itself is never looked at by the elaborator. -/
namespace L2
open PySem
def stK (s : Stmt) (k : Nat) : Stmt := (defBody s).getD k (.Pass ⟨0, 0, 0, 0⟩)
/-- x = [..] -/
def shp1 (n : Nat) (st : Stmt) : Option (Str × PyData) := match st with
  | .Assign [.Name x _] (.List es lp) _ => (litE n (.List es lp)).map fun d => (x, d)
  | _ => none
/-- x = y + [..] -/
def shp2 (n : Nat) (st : Stmt) : Option (Str × Str × PyData) := match st with
  | .Assign [.Name x _] (.BinOp (.Name y _) .Add (.List es lp) _) _ => (litE n (.List es lp)).map fun d => (x, y, d)
  | _ => none
/-- return f(a, b, y + [..]) -/
def shp3 (n : Nat) (st : Stmt) : Option (Str × Str × Str × Str × PyData) := match st with
  | .Return (some (.Call (.Name f _) [.Name a _, .Name b _, .BinOp (.Name y _) .Add (.List es lp) _] [] _)) _ => (litE n (.List es lp)).map fun d => (f, a, b, y, d)
  | _ => none
section
variable {X : Cx}
theorem ps_lit1 {st : Stmt} {i : Nat} {x : Str} {d : PyData} (n : Nat) (h : shp1 n st = some (x, d)) (hN : X.N.Nodup) (hi : X.N[i]? = some x) (hx : Loc X.env.scope x) (hf : X.fn x = true ∨ X.env.scope.names.lookup x = some .local) : PS X st (tAsg (tLit d) (gName i)) := by
  unfold shp1 at h
  split at h
  · rename_i x' p es lp pos
    cases e : litE n (.List es lp) with
    | none => rw [e] at h; cases h
    | some d' =>
      rw [e] at h
      have h := Option.some.inj h
      injection h with h1 h2
      subst h1 h2
      exact ps_set hN hi hx (lit_ok n _ _ e).1 rfl hf
  · cases h
theorem ps_lit2 {st : Stmt} {i j : Nat} {x y : Str} {d : PyData} (n : Nat) (h : shp2 n st = some (x, y, d)) (hN : X.N.Nodup) (hi : X.N[i]? = some x) (hx : Loc X.env.scope x) (hf : X.fn x = true ∨ X.env.scope.names.lookup x = some .local) (hy : ∀ pos, PE X (.Name y pos) (tVar j)) : PS X st (tAsg (tOp rCat (tVar j) (tLit d)) (gName i)) := by
  unfold shp2 at h
  split at h
  · rename_i x' p y' p' es lp bp pos
    cases e : litE n (.List es lp) with
    | none => rw [e] at h; cases h
    | some d' =>
      rw [e] at h
      have h := Option.some.inj h
      injection h with h1 h2
      injection h2 with h2 h3
      subst h1 h2 h3
      exact ps_set hN hi hx (pe_op op_cat (hy _) (lit_ok n _ _ e).1) rfl hf
  · cases h
theorem ps_lit3 {st : Stmt} {i j k m l : Nat} {f a b y : Str} {d : PyData} {ps : List Str} {sp : Sp} {E : XK} (n : Nat) (h : shp3 n st = some (f, a, b, y, d)) (C : Cal X.prog X.w X.K X.mg X.base f m ps sp) (hr : Room l X.A) (hg : Gl X f) (hx : Passes (CXM X.prog X.w) X E)
    (ha : ∀ pos, PE X (.Name a pos) (tVar i)) (hb : ∀ pos, PE X (.Name b pos) (tVar j)) (hy : ∀ pos, PE X (.Name y pos) (tVar k)) (hk : m ≤ l) (hdb : (f == ("__debug__" : Str)) = false) : PS X st (tRet (tCall sp [] E (tCons (tVar i) (tCons (tVar j) (tCons (tOp rCat (tVar k) (tLit d)) tNil))))) := by
  unfold shp3 at h
  split at h
  · rename_i f' p1 a' p2 b' p3 y' p4 es lp p5 p6 p7
    cases e : litE n (.List es lp) with
    | none => rw [e] at h; cases h
    | some d' =>
      rw [e] at h
      have h := Option.some.inj h
      injection h with h1 h2
      injection h2 with h2 h3
      injection h3 with h3 h4
      injection h4 with h4 h5
      subst h1 h2 h3 h4 h5
      exact ps_ret (pe_callN C hr hg hx (pa_cons (ha _) (pa_cons (hb _) (pa_cons (pe_op op_cat (hy _) (lit_ok n _ _ e).1) pa_nil))) hk hdb)
  · cases h
end
theorem pss_four {X : Cx} {ss : List Stmt} {s0 s1 s2 s3 : Stmt} {t0 t1 t2 t3 : TS} (h : ss = [s0, s1, s2, s3]) (h0 : PS X s0 t0) (h1 : PS X s1 t1) (h2 : PS X s2 t2) (h3 : PS X s3 t3) : PSs X ss (tSeq t0 (tSeq t1 (tSeq t2 t3))) := by
  subst h
  exact pss_cons h0 (pss_cons h1 (pss_cons h2 (pss_one h3)))
end L2
set_option Elab.async false
set_option linter.all false
set_option maxRecDepth 100000
set_option maxHeartbeats 4000000
/-! Refusals told, in lists; defs of a line and another thing that refuse. -/
namespace L2
open PySem
/-- a refusal told is made of a tuple: no list is part of it -/
theorem ref_wo {D : Addr} {us : List V} {H : Hp} {v : V} {j : Nat} (hD : H D = some (.lst us)) (h : Dd H v (refD j)) : Dd (wo D H) v (refD j) := by
  have h : Dd H v (.tuple [.str "refused", .int (j : Nat)]) := h
  cases h with
  | @tup p xs ds hp q =>
    match xs, q, hp with
    | [_, _], .cons (.str _) (.cons (.int _) .nil), hp =>
      refine .tup ?_ (.cons (.str _) (.cons (.int _) .nil))
      rw [wo_ne]
      · exact hp
      · intro z
        rw [z, hD] at hp; cases hp
/-- one more refusal in the list -/
theorem ref_more {D : Addr} {us : List V} {H He Hf : Hp} {v : V} {i j : Nat} (hn : H D = none) (se : Same H He) (hD : He D = some (.lst us)) (l : us.length = i) (hi : i < 100) (du : DdL (wo D He) us (List.replicate i (refD j))) (sf : Same He Hf) (df : Dd Hf v (refD j)) :
    ∃ acc, Hf D = some (.lst acc) ∧ acc.length < sizeLine ∧ Same H (upd Hf D (.lst (acc ++ [v]))) ∧ ∃ us, upd Hf D (.lst (acc ++ [v])) D = some (.lst us) ∧ us.length = i + 1 ∧ DdL (wo D (upd Hf D (.lst (acc ++ [v])))) us (List.replicate (i + 1) (refD j)) := by
  refine ⟨us, sf _ _ hD, Nat.lt_of_le_of_lt (show us.length ≤ 100 by omega) (by decide), (se.trans sf).upd hn, _, upd_same, by rw [List.length_append, l]; rfl, ?_⟩
  rw [List.replicate_succ']
  exact DdL.app (DdL.same ((wo_same sf).trans wo_upd) du) (.cons ((ref_wo (sf _ _ hD) df).same wo_upd) .nil)
abbrev Refu (lo hi : List Int → Int) (d e : PyData) (H : Hp) (Q : VK) : Prop := (Ma.isLine d = false ∧ ∀ r H', Same H H' → Dd H' r (refD 0) → Q r H') ∨ ∃ xs, Ma.OkV xs ∧ d = Ma.lineD xs ∧ Ma.isWhole (lo xs) (hi xs) e = false ∧ ∀ r H', Same H H' → Dd H' r (refD 4) → Q r H'
theorem Refu.same {lo hi : List Int → Int} {d e : PyData} {H H1 : Hp} {Q : VK} (s : Same H H1) (h : Refu lo hi d e H Q) : Refu lo hi d e H1 Q :=
  h.imp (fun ⟨c, q⟩ => ⟨c, fun r H' s' dr => q r H' (s.trans s') dr⟩) fun ⟨xs, ok, ed, c, q⟩ => ⟨xs, ok, ed, c, fun r H' s' dr => q r H' (s.trans s') dr⟩
end L2
set_option Elab.async false
set_option linter.all false
set_option maxRecDepth 100000
set_option maxHeartbeats 4000000
/-! Defs of one line, of two lines: refusals told. -/
namespace L2
open PySem
/-- what is told of a refusal of kind j -/
abbrev Rj (j : Nat) (H : Hp) (Q : VK) : Prop := ∀ r H', Same H H' → Dd H' r (refD j) → Q r H'
theorem Rj.same {j : Nat} {H H1 : Hp} {Q : VK} (s : Same H H1) (h : Rj j H Q) : Rj j H1 Q := fun r H' s' d => h r H' (s.trans s') d
section
variable {g : Gd} {K : PySem.W.Frag} {LE CL CU CX : Addr} {Cs : List Addr} {H : Hp} {v u : V} {d e : PyData} {Q : VK} {E : XK}
theorem un_noline {R : List Int → Hp → VK → XK → Prop} (RL : Rf K LE Cs 0 CL) (hd : Dd H v d) (G : g.On H) (c : Ma.isLine d = false) (q : Rj 0 H Q) (hE : ∀ c x H', rfs K LE Cs Q c x H' → E c x H') : sp_un g CL R [v] H Q E :=
  ⟨v, d, rfl, hd, G, .inl ⟨c, fun H' s => hE _ _ _ (rf_of RL s q)⟩⟩
theorem un_unfit {CT : Addr} {f : List Int → List Int} {xs : List Int} (RT : Rf K LE Cs 7 CT) (hd : Dd H v (Ma.lineD xs)) (ok : Ma.OkV xs) (G : g.On H) (c : Ma.fits (f xs) = false) (q : Rj 7 H Q) (hE : ∀ c x H', rfs K LE Cs Q c x H' → E c x H') : sp_un g CL (RFit CT f) [v] H Q E :=
  ⟨v, _, rfl, hd, G, .inr ⟨xs, ok, rfl, fun H' s => ⟨fun c' => (by rw [c] at c'; cases c'), fun _ => hE _ _ _ (rf_of RT s q)⟩⟩⟩
theorem un2_noline {R : List Int → PyData → Hp → VK → XK → Prop} (RL : Rf K LE Cs 0 CL) (hd : Dd H v d) (he : Dd H u e) (G : g.On H) (c : Ma.isLine d = false) (q : Rj 0 H Q) (hE : ∀ c x H', rfs K LE Cs Q c x H' → E c x H') : sp_un2 g CL R [v, u] H Q E :=
  ⟨v, u, d, e, rfl, hd, he, G, .inl ⟨c, fun H' s => hE _ _ _ (rf_of RL s q)⟩⟩
theorem un2_nonum {CN : Addr} {lo hi : List Int → Int} {f : Nat → List Int → PyData} {xs : List Int} (RN : Rf K LE Cs 4 CN) (hd : Dd H v (Ma.lineD xs)) (he : Dd H u e) (ok : Ma.OkV xs) (G : g.On H) (c : Ma.isWhole (lo xs) (hi xs) e = false) (q : Rj 4 H Q) (hE : ∀ c x H', rfs K LE Cs Q c x H' → E c x H') : sp_un2 g CL (RNum CN lo hi f) [v, u] H Q E :=
  ⟨v, u, _, e, rfl, hd, he, G, .inr ⟨xs, ok, rfl, fun H' s => ⟨fun _ => hE _ _ _ (rf_of RN s q), fun m em c' => by rw [c] at c'; cases c'⟩⟩⟩
end
/-- a comprehension over a range, each turn of which is refused -/
theorem lcRefs {lo : Int} {n j : Nat} {g : TG} {tt : TT} {te : TE} {vs : List Nat} {σ : St} {H1 : Hp} {D : Addr} {Qd : Hp → Prop} (hn : n ≤ 40) (hD : H1 D = none)
    (hs : ∀ (i : Nat) H (Q : VK) (Q2 : Hp → Prop), i < n → Same H1 H → Rj j H Q → g (.int (lo + i)) (wipe σ vs) H fun σ2 H2 => wipe σ2 vs = wipe σ vs ∧ tt σ2 H2 fun b H3 => if b = true then te σ2 H3 Q else Q2 H3)
    (hd : ∀ H, Same H1 H → Dd H (.ref D) (.list (List.replicate n (refD j))) → Qd H) : LcGoal (Itr lo n) g tt te vs σ H1 D Qd := by
  refine lc_range (fun i He => Same H1 He ∧ ∃ us, He D = some (.lst us) ∧ us.length = i ∧ DdL (wo D He) us (List.replicate i (refD j))) ⟨Same.new hD _, [], upd_same, rfl, .nil⟩ ?_ ?_
  · rintro i He hi ⟨se, us, hDe, lus, dus⟩
    exact hs i He _ _ hi se fun v Hf sf df => ref_more hD se hDe lus (by omega) dus sf df
  rintro He ⟨se, us, hDe, lus, dus⟩
  exact hd He se (.lst hDe (DdL.same (wo_le D He) dus))
/-- [("refused", j)] * n -/
theorem refs_rep {σ : St} {He : Hp} {n j : Nat} {Q : VK} (hn : n ≤ 40) (q : ∀ v H', Same He H' → Dd H' v (.list (List.replicate n (refD j))) → Q v H') : tOp rRep (tLst (tCons (tTup (tCons (tC (.str "refused")) (tCons (tC (.int (j : Nat))) tNil))) tNil)) (tC (.int (n : Nat))) σ He Q := by
  refine ⟨by show 2 ≤ sizeLine; decide, fun pf hpf => ⟨by show 1 ≤ sizeLine; decide, fun pg hpg => ⟨pg, (n : Nat), _, rfl, rfl, upd_same, by omega, by omega, Nat.le_trans (show _ ≤ 40 by simp; omega) (by decide), fun ph hph => ?_⟩⟩⟩
  have sf := Same.new hpf (.tup [.str "refused", .int (j : Nat)])
  have sg := Same.new hpg (.lst [.ref pf])
  have sh := Same.new hph (.lst (List.replicate (n : Int).toNat [.ref pf]).flatten)
  refine q _ _ ((sf.trans sg).trans sh) (Dd.lst upd_same ?_)
  have e : (List.replicate (n : Int).toNat [V.ref pf]).flatten = List.replicate n (.ref pf) := by rw [List.flatten_replicate_singleton, Int.toNat_natCast]
  have z : DdL (upd (upd (upd He pf (.tup [.str "refused", .int (j : Nat)])) pg (.lst [.ref pf])) ph (.lst (List.replicate (n : Int).toNat [.ref pf]).flatten)) (List.replicate n (.ref pf)) (List.replicate n (refD j)) := DdL.rep (.tup ((sg.trans sh) _ _ upd_same) (.cons (.str _) (.cons (.int _) .nil))) n
  exact e.symm ▸ z
/-- so many refusals, as == asks of them -/
theorem sh_refs (n j : Nat) : SeqAt.shaped (.list (List.replicate n (refD j))) = true := by
  have e : List.replicate n (refD j) = (List.range n).map fun _ => refD j := by rw [List.map_const', List.length_range]
  have h0 : (refD j).canLay0 = true := by
    have := sh_ref j
    simp only [SeqAt.shaped, Bool.and_eq_true] at this
    exact this.1
  have h1 := lay_map (f := fun _ : Nat => refD j) (fun _ => h0) (List.range n)
  have h2 := dep_map (f := fun _ : Nat => refD j) (n := 1) (fun _ => by simp [refD, PyData.depth, PyData.depthAll]) (List.range n)
  have h3 : (PyData.list ((List.range n).map fun _ => refD j)).depth ≤ 64 := by rw [PyData.depth]; omega
  rw [e]
  simp only [SeqAt.shaped, PyData.canLay0, h1, Bool.true_and, decide_eq_true h3]
end L2
set_option Elab.async false
set_option linter.all false
set_option maxRecDepth 100000
set_option maxHeartbeats 4000000
namespace Lw
open PySem L2
def top (i : Nat) : Stmt := PySem.Challenge.pw_stepline_k17_adding_refused.main.body.getD i (.Pass ⟨0, 0, 0, 0⟩)
abbrev s_is_whole : Stmt := top 17
abbrev s_is_value : Stmt := top 18
abbrev s_is_length : Stmt := top 19
abbrev s_is_place : Stmt := top 20
abbrev s_is_row : Stmt := top 21
abbrev s_are_steps : Stmt := top 22
abbrev s_is_line : Stmt := top 23
abbrev s_need_line : Stmt := top 24
abbrev s_need_number : Stmt := top 25
abbrev s_level_stretches : Stmt := top 27
abbrev s_line_of : Stmt := top 28
abbrev s_fitted : Stmt := top 29
abbrev s_plain : Stmt := top 30
abbrev s_sums : Stmt := top 32
abbrev s_rises : Stmt := top 33
abbrev s_gains : Stmt := top 34
abbrev s_shifted : Stmt := top 35
abbrev s_swells : Stmt := top 36
abbrev s__law_cell_at : Stmt := top 38
abbrev s__law_mixed : Stmt := top 39
abbrev s__law_draw : Stmt := top 40
abbrev s__law_pick : Stmt := top 41
abbrev s__law_values : Stmt := top 42
abbrev s__law_of : Stmt := top 43
abbrev s__law_line : Stmt := top 44
abbrev s__law_odd : Stmt := top 45
abbrev s__law_which : Stmt := top 46
abbrev s__law_ask : Stmt := top 47
abbrev s_law : Stmt := top 48
section
variable {P : Program} {w : World} {K : PySem.W.Frag} {mg : Str → Option Value} {base : Heap} {cd : Value}
theorem sc_is_whole : FnScope ["thing", "least", "greatest"] ["thing", "least", "greatest"] (defScope s_is_whole) := ⟨rfl, rfl, rfl, by decide +kernel, rfl, by decide +kernel, by decide +kernel⟩
theorem ok_is_whole (D : Dfn K mg "is_whole" s_is_whole cd) (B : Blt mg) : Cal P w K mg base "is_whole" 1 ["thing", "least", "greatest"] sp_whole := by
  refine D.calN (k := 0) sc_is_whole (fun vs H Q E h => ?_) (fun _ _ _ _ _ _ us hl => match us, hl with | [_, _, _], _ => rfl) (fun f A outer s H vs Q E hr h => ?_)
  · obtain ⟨v, d, lo, hi, rfl, _⟩ := h
    rfl
  obtain ⟨v, d, lo, hi, rfl, hd, q⟩ := h
  refine ⟨_, (pss_cons (ps_if (PW.pt (pw_or (pt_val (pe_callB (call_isi (n := "bool") (by decide)) rfl B.isinstance boot_isi (pa_cons (pv 0) (pa_cons (pe_bltn (v := .ty "bool") rfl B.bool boot_bool rfl) pa_nil)))) (pw_or1 (pt_not (pt_val (pe_callB (call_isi (n := "int") (by decide)) rfl B.isinstance boot_isi (pa_cons (pv 0) (pa_cons (pe_bltn (v := .ty "int") rfl B.int boot_int rfl) pa_nil)))))))) (pss_one (ps_ret pe_bl)) pss_nil)
      (pss_one (ps_ret (pe_chain op_le op_le (pv 1) (pv 0) (pv 2))))), ?_⟩
  cases hd with
  | int i =>
    refine ⟨_, rfl, _, _, rfl, .int i, _, rfl, iteF ⟨_, rfl, _, _, rfl, .int i, _, rfl, iteF ?_⟩⟩
    refine ⟨_, rfl, _, rfl, _, _, rfl, rfl, _, rfl, ite_b (fun c => ⟨_, rfl, _, _, rfl, rfl, ?_⟩) fun c => ?_⟩
    · simp only [Ma.isWhole, c, Bool.true_and] at q
      exact q
    · simp only [Ma.isWhole, c, Bool.false_and] at q
      exact q
  | non => exact ⟨_, rfl, _, _, rfl, .non, _, rfl, iteF ⟨_, rfl, _, _, rfl, .non, _, rfl, iteT q⟩⟩
  | bl b => exact ⟨_, rfl, _, _, rfl, .bl b, _, rfl, iteT q⟩
  | str x => exact ⟨_, rfl, _, _, rfl, .str x, _, rfl, iteF ⟨_, rfl, _, _, rfl, .str x, _, rfl, iteT q⟩⟩
  | lst ha p => exact ⟨_, rfl, _, _, rfl, .lst ha p, _, rfl, iteF ⟨_, rfl, _, _, rfl, .lst ha p, _, rfl, iteT q⟩⟩
  | tup ha p => exact ⟨_, rfl, _, _, rfl, .tup ha p, _, rfl, iteF ⟨_, rfl, _, _, rfl, .tup ha p, _, rfl, iteT q⟩⟩
theorem sc_is_value : FnScope ["thing"] ["thing"] (defScope s_is_value) := ⟨rfl, rfl, rfl, by decide +kernel, rfl, by decide +kernel, by decide +kernel⟩
theorem ok_is_value {t : Tok} (D : Dfn K mg "is_value" s_is_value cd) (M_GREATEST_VALUE : mg "GREATEST_VALUE" = some (.int 999 t)) (C_is_whole : Cal P w K mg base "is_whole" 1 ["thing", "least", "greatest"] sp_whole) : Cal P w K mg base "is_value" 2 ["thing"] (sp_b1 Ma.isValue) := by
  refine D.calN (k := 1) sc_is_value (fun vs H Q E h => ?_) (fun _ _ _ _ _ _ us hl => match us, hl with | [_], _ => rfl) (fun f A outer s H vs Q E hr h => ?_)
  · obtain ⟨v, d, rfl, _⟩ := h
    rfl
  obtain ⟨v, d, rfl, hd, q⟩ := h
  refine ⟨_, (pss_one (ps_ret (pe_callN C_is_whole hr rfl passN (pa_cons (pv 0) (pa_cons (pe_un un_neg (pe_glob (v := .int 999) rfl M_GREATEST_VALUE ⟨_, rfl⟩)) (pa_cons (pe_glob (v := .int 999) rfl M_GREATEST_VALUE ⟨_, rfl⟩) pa_nil)))))), ?_⟩
  exact ⟨_, rfl, _, rfl, v, d, _, _, rfl, hd, q⟩
theorem sc_is_length : FnScope ["thing"] ["thing"] (defScope s_is_length) := ⟨rfl, rfl, rfl, by decide +kernel, rfl, by decide +kernel, by decide +kernel⟩
theorem ok_is_length {t : Tok} (D : Dfn K mg "is_length" s_is_length cd) (M_MOST_PLACES : mg "MOST_PLACES" = some (.int 60 t)) (C_is_whole : Cal P w K mg base "is_whole" 1 ["thing", "least", "greatest"] sp_whole) : Cal P w K mg base "is_length" 2 ["thing"] (sp_b1 Ma.isLength) := by
  refine D.calN (k := 1) sc_is_length (fun vs H Q E h => ?_) (fun _ _ _ _ _ _ us hl => match us, hl with | [_], _ => rfl) (fun f A outer s H vs Q E hr h => ?_)
  · obtain ⟨v, d, rfl, _⟩ := h
    rfl
  obtain ⟨v, d, rfl, hd, q⟩ := h
  refine ⟨_, (pss_one (ps_ret (pe_callN C_is_whole hr rfl passN (pa_cons (pv 0) (pa_cons pe_int (pa_cons (pe_glob (v := .int 60) rfl M_MOST_PLACES ⟨_, rfl⟩) pa_nil)))))), ?_⟩
  exact ⟨_, rfl, v, d, _, _, rfl, hd, q⟩
theorem sc_is_place : FnScope ["thing", "long"] ["thing", "long"] (defScope s_is_place) := ⟨rfl, rfl, rfl, by decide +kernel, rfl, by decide +kernel, by decide +kernel⟩
theorem ok_is_place (D : Dfn K mg "is_place" s_is_place cd) (C_is_whole : Cal P w K mg base "is_whole" 1 ["thing", "least", "greatest"] sp_whole) : Cal P w K mg base "is_place" 2 ["thing", "long"] (sp_b2 Ma.isPlace) := by
  refine D.calN (k := 1) sc_is_place (fun vs H Q E h => ?_) (fun _ _ _ _ _ _ us hl => match us, hl with | [_, _], _ => rfl) (fun f A outer s H vs Q E hr h => ?_)
  · obtain ⟨v, d, n, rfl, _⟩ := h
    rfl
  obtain ⟨v, d, n, rfl, hd, q⟩ := h
  refine ⟨_, (pss_one (ps_ret (pe_callN C_is_whole hr rfl passN (pa_cons (pv 0) (pa_cons pe_int (pa_cons (pe_op op_sub (pv 1) pe_int) pa_nil)))))), ?_⟩
  exact ⟨_, rfl, _, rfl, _, _, rfl, rfl, v, d, _, _, rfl, hd, q⟩
theorem sc_is_row : FnScope ["thing", "long"] ["thing", "long"] (defScope s_is_row) := ⟨rfl, rfl, rfl, by decide +kernel, rfl, by decide +kernel, by decide +kernel⟩
theorem ok_is_row (D : Dfn K mg "is_row" s_is_row cd) (B : Blt mg) (C_is_place : Cal P w K mg base "is_place" 2 ["thing", "long"] (sp_b2 Ma.isPlace)) (C_is_value : Cal P w K mg base "is_value" 2 ["thing"] (sp_b1 Ma.isValue)) : Cal P w K mg base "is_row" 3 ["thing", "long"] (sp_b2 Ma.isRow) := by
  refine D.calN (k := 2) sc_is_row (fun vs H Q E h => ?_) (fun _ _ _ _ _ _ us hl => match us, hl with | [_, _], _ => rfl) (fun f A outer s H vs Q E hr h => ?_)
  · obtain ⟨v, d, n, rfl, _⟩ := h
    rfl
  obtain ⟨v, d, n, rfl, hd, q⟩ := h
  refine ⟨_, (pss_cons (ps_if (PW.pt (pw_or (pt_not (pt_val (pe_callB (call_isi (n := "tuple") (by decide)) rfl B.isinstance boot_isi (pa_cons (pv 0) (pa_cons (pe_bltn (v := .ty "tuple") rfl B.tuple boot_tuple rfl) pa_nil))))) (pw_or1 (pt_cmpR op_ne (pe_callB (call_lenK (K := K) rfl) rfl B.len PySem.boot_len (pa_cons (pv 0) pa_nil)) pe_int (nomark _))))) (pss_one (ps_ret pe_bl)) pss_nil)
      (pss_one (ps_ret (pe_and (pe_callN C_is_place hr rfl passN (pa_cons (pe_ix (ix_tupK (K := K) rfl) (pv 0) pe_int (fun _ _ => rfl)) (pa_cons (pv 1) pa_nil))) (pe_one (pe_callN C_is_value hr rfl passN (pa_cons (pe_ix (ix_tupK (K := K) rfl) (pv 0) pe_int (fun _ _ => rfl)) pa_nil))))))), ?_⟩
  cases hd with
  | int i => exact ⟨_, rfl, _, _, rfl, .int i, _, rfl, iteT q⟩
  | non => exact ⟨_, rfl, _, _, rfl, .non, _, rfl, iteT q⟩
  | bl b => exact ⟨_, rfl, _, _, rfl, .bl b, _, rfl, iteT q⟩
  | str x => exact ⟨_, rfl, _, _, rfl, .str x, _, rfl, iteT q⟩
  | lst ha p => exact ⟨_, rfl, _, _, rfl, .lst ha p, _, rfl, iteT q⟩
  | @tup a xs ds ha p =>
    refine ⟨_, rfl, _, _, rfl, .tup ha p, _, rfl, iteF ⟨_, rfl, a, xs, rfl, .inr (SqT.of ha), rfl, _, rfl, ?_⟩⟩
    rw [dI]
    by_cases hl : xs.length = 2
    · have e2 : ds.length = 2 := p.length ▸ hl
      rw [decide_eq_true (show ((xs.length : Nat) : Int) = 2 by omega)]
      refine iteF ?_
      match xs, ds, p, ha, hl, e2, q with
      | [x, y], [dx, dy], .cons px (.cons py .nil), ha, _, _, q =>
        refine ⟨_, rfl, a, _, _, _, rfl, rfl, SqT.of ha, rfl, _, rfl, x, dx, n, rfl, px, _, rfl, ite_b (fun c => ?_) fun c => ?_⟩
        · refine ⟨_, rfl, a, _, _, _, rfl, rfl, SqT.of ha, rfl, y, dy, rfl, py, ?_⟩
          simp only [Ma.isRow, c, Bool.true_and] at q
          exact q
        · simp only [Ma.isRow, c, Bool.false_and] at q
          exact q
    · rw [decide_eq_false (show ¬ ((xs.length : Nat) : Int) = 2 by omega)]
      refine iteT ?_
      rw [isRow_len (p.length ▸ hl)] at q
      exact q
theorem sc_are_steps : FnScope ["thing", "long", "ahead", "step"] ["thing", "long"] (defScope s_are_steps) := ⟨rfl, rfl, rfl, by decide +kernel, rfl, by decide +kernel, by decide +kernel⟩
theorem ok_are_steps {g : Gd} {c Pt : Addr} (D : Dfn K mg "are_steps" s_are_steps (.ref c)) (B : Blt mg) (CK : CodeK K c Pt) (hPt : Pt ∈ g.Ts) (BK : BmK mg g.bm g.ob) (C_is_row : Cal P w K mg base "is_row" 3 ["thing", "long"] (sp_b2 Ma.isRow)) :
    Cal P w K mg base "are_steps" 5 ["thing", "long"] (sp_g2 g Ma.areSteps) := by
  refine D.calN (k := 4) sc_are_steps (fun vs H Q E h => ?_) (fun _ _ _ _ _ _ us hl => match us, hl with | [_, _], _ => rfl) (fun f A outer s H vs Q E hr h => ?_)
  · obtain ⟨v, d, n, rfl, _⟩ := h
    rfl
  obtain ⟨v, d, n, rfl, hd, G, qq⟩ := h
  have q := qq H (Same.refl H)
  refine ⟨_, (pss_cons (ps_if (PW.pt (pw_or (pt_not (pt_val (pe_callB (call_isi (n := "tuple") (by decide)) rfl B.isinstance boot_isi (pa_cons (pv 0) (pa_cons (pe_bltn (v := .ty "tuple") rfl B.tuple boot_tuple rfl) pa_nil))))) (pw_or1 (pt_not (pt_chain op_le op_le pe_int (pe_callB (call_lenK (K := K) rfl) rfl B.len PySem.boot_len (pa_cons (pv 0) pa_nil)) (pv 1)))))) (pss_one (ps_ret pe_bl)) pss_nil)
      (pss_cons (ps_if (pt_not (pt_val (pe_allg (own := [("step", 3)]) rfl sc_are_steps.nd hr rfl B.all (pi_tupK (K := K) rfl (pv 0)) (blkOk_by (N := ["thing", "long", "ahead", "step"]) (sc := defScope s_are_steps) (by decide +kernel)) rfl (by decide +kernel) rfl rfl CK BK (fun _ _ _ _ _ _ _ => (pg_name (i := 3) sc_are_steps.nd rfl (by first | exact Or.inl rfl | exact Or.inr rfl))) (fun _ _ _ _ _ _ _ hr' => (pe_callN C_is_row hr' rfl passN (pa_cons (pv 3) (pa_cons (pv 1) pa_nil))))))) (pss_one (ps_ret pe_bl)) pss_nil)
      (pss_cons (ps_if (pt_cmpR op_ne (pe_ix (ix_tupK (K := K) rfl) (pe_ix (ix_tupK (K := K) rfl) (pv 0) pe_int (fun _ _ => rfl)) pe_int (fun _ _ => rfl)) pe_int (nomark _)) (pss_one (ps_ret pe_bl)) pss_nil)
      (pss_cons (ps_for PassesOwn.never rfl (piS_zipK (K := K) rfl (b1 := false) (b2 := false) rfl B.zip (pa_cons (pv 0) (pa_cons (pe_slice (sl_tupK (K := K) rfl) (pv 0) (po_some pe_int) po_none) pa_nil))) (pg_tup rfl (pgs_cons (pg_name (i := 2) sc_are_steps.nd rfl (by first | exact Or.inl rfl | exact Or.inr rfl)) (pgs_cons (pg_name (i := 3) sc_are_steps.nd rfl (by first | exact Or.inl rfl | exact Or.inr rfl)) pgs_nil))) (pss_one (ps_if (PW.pt (pw_or (pt_cmpR op_ge (pe_ix (ix_tupK (K := K) rfl) (pv 2) pe_int (fun _ _ => rfl)) (pe_ix (ix_tupK (K := K) rfl) (pv 3) pe_int (fun _ _ => rfl)) (nomark _)) (pw_or1 (pt_cmpR op_eq (pe_ix (ix_tupK (K := K) rfl) (pv 2) pe_int (fun _ _ => rfl)) (pe_ix (ix_tupK (K := K) rfl) (pv 3) pe_int (fun _ _ => rfl)) (nomark _))))) (pss_one (ps_ret pe_bl)) pss_nil)))
      (pss_one (ps_ret pe_bl)))))), ?_⟩
  cases hd with
  | int i => exact ⟨_, rfl, _, _, rfl, .int i, _, rfl, iteT q⟩
  | non => exact ⟨_, rfl, _, _, rfl, .non, _, rfl, iteT q⟩
  | bl b => exact ⟨_, rfl, _, _, rfl, .bl b, _, rfl, iteT q⟩
  | str x => exact ⟨_, rfl, _, _, rfl, .str x, _, rfl, iteT q⟩
  | lst ha p => exact ⟨_, rfl, _, _, rfl, .lst ha p, _, rfl, iteT q⟩
  | @tup a xs ds ha p =>
    have el : xs.length = ds.length := p.length
    -- 1 <= len(thing) <= long
    refine ⟨_, rfl, _, _, rfl, .tup ha p, _, rfl, iteF ⟨_, rfl, a, xs, rfl, .inr (SqT.of ha), _, _, rfl, rfl, _, rfl, ?_⟩⟩
    refine ite_b (fun c1 => ?_) fun c1 => ⟨_, rfl, iteT (by simp only [Ma.areSteps, decide_eq_false (show ¬ 1 ≤ ds.length from fun z => by have := of_decide_eq_false c1; omega), Bool.false_and] at q; exact q)⟩
    have c1 := of_decide_eq_true c1
    refine ⟨_, rfl, _, _, rfl, rfl, _, rfl, ?_⟩
    by_cases c2 : ((xs.length : Nat) : Int) ≤ n
    rotate_left
    · rw [decide_eq_false c2]
      refine iteT ?_
      simp only [Ma.areSteps, decide_eq_false (show ¬ ((ds.length : Nat) : Int) ≤ n by omega), Bool.false_and, Bool.and_false] at q
      exact q
    rw [decide_eq_true c2]
    refine iteF ?_
    have d1 : decide (1 ≤ ds.length) = true := decide_eq_true (by omega)
    have d2 : decide (((ds.length : Nat) : Int) ≤ n) = true := decide_eq_true (by omega)
    simp only [Ma.areSteps, d1, d2, Bool.true_and] at q qq
    -- all(is_row(step, long) for step in thing)
    refine ⟨_, rfl, a, rfl, ⟨xs, SqT.of ha⟩, G.tabs Pt hPt, G.bm, xs.length, fun i H' => H' = H ∧ (ds.take i).all (Ma.isRow n) = true, ⟨rfl, rfl⟩, ?_, ?_⟩
    · rintro i H' hi ⟨rfl, hall⟩
      refine ⟨⟨xs, xs[i], SqT.of ha, by simp [hi]⟩, ?_⟩
      rintro y H2 ⟨rfl, hy⟩
      obtain ⟨dy, e1, e2⟩ := DdL.get p (hy xs (SqT.of ha))
      refine ⟨rfl, _, rfl, _, rfl, y, dy, n, rfl, e2, _, rfl, ite_b (fun c => ⟨rfl, all_take hall e1 c⟩) fun c => ⟨_, rfl, iteT ?_⟩⟩
      simp only [all_no e1 c, Bool.false_and] at q
      exact q
    rintro H' ⟨rfl, hall⟩
    refine ⟨⟨xs, SqT.of ha, Nat.le_refl _⟩, _, rfl, iteF ?_⟩
    rw [el, List.take_length] at hall
    simp only [hall, Bool.true_and] at q qq
    have rowAt : ∀ {i : Nat} {y : V}, xs[i]? = some y → ∃ dy b pl vl, ds[i]? = some dy ∧ y = .ref b ∧ H' b = some (.tup [.int pl, .int vl]) ∧ dy = .tuple [.int pl, .int vl] := fun {i y} e => by
      obtain ⟨dy, e1, e2⟩ := DdL.get p e
      obtain ⟨b, pl, vl, h1, h2, h3, _⟩ := row_inv e2 (List.all_eq_true.mp hall dy (List.mem_of_getElem? e1))
      exact ⟨dy, b, pl, vl, e1, h1, h2, h3⟩
    -- thing[0][0] != 0
    have x0 : ∃ x, xs[0]? = some x := ⟨xs[0]'(by omega), by simp⟩
    obtain ⟨x0, hx0⟩ := x0
    obtain ⟨dy, b0, p0, v0, e1, rfl, e2, rfl⟩ := rowAt hx0
    have hf : Ma.fstI (ds.headD .none) = p0 := by
      cases ds with
      | nil => simp at e1
      | cons z r => simp at e1; subst e1; rfl
    rw [hf] at q qq
    refine ⟨_, rfl, a, xs, _, _, rfl, rfl, SqT.of ha, atI_nat (j := 0) hx0, b0, _, _, _, rfl, rfl, SqT.of e2, rfl, rfl, _, rfl, ?_⟩
    rw [dI]
    by_cases c3 : p0 = 0
    rotate_left
    · rw [decide_eq_false c3]
      refine iteT ?_
      simp only [decide_eq_false c3, Bool.false_and] at q
      exact q
    rw [decide_eq_true c3]
    refine iteF ?_
    simp only [decide_eq_true c3, Bool.true_and] at q qq
    -- for ahead, step in zip(thing, thing[1:])
    refine ⟨_, rfl, _, rfl, _, rfl, a, xs, rfl, SqT.of ha, (fun z => by have z1 := z.1; simp only [HT.sIx] at z1; rw [if_neg (by decide)] at z1; have e : ((1 : Int).toNat) = 1 := rfl; rw [e] at z1; omega), fun r hr' => ?_⟩
    have e3 : Same H' (upd H' r (.tup (cutV xs (some 1) none))) := Same.new hr' _
    have ecut : cutV xs (some 1) none = xs.drop 1 := by
      unfold cutV
      rw [show HT.sIx xs.length 0 (some 1) = 1 from by simp only [HT.sIx]; rw [if_neg (by decide)]; have e : ((1 : Int).toNat) = 1 := rfl; rw [e]; omega]
      rw [show HT.sIx xs.length xs.length none = xs.length from rfl]
      exact List.take_of_length_le (by simp)
    refine ⟨a, r, xs, xs.drop 1, rfl, SqT.of (e3 _ _ ha), SqT.of (by rw [← ecut]; exact upd_same), for_zip (K := K) (b1 := false) (b2 := false) (a := a) (b := r) (xs := xs) (ys := xs.drop 1)
      (fun i σ H2 => ∃ u v, σ = [some (.ref a), some (.int n), u, v] ∧ Same (upd H' r (.tup (cutV xs (some 1) none))) H2 ∧ ∀ j, j < i → ∀ a b, ds[j]? = some a → ds[j + 1]? = some b → Ma.follows a b = true) ⟨none, none, rfl, Same.refl _, fun j hj => by omega⟩ ?_ ?_ ?_⟩
    · rintro i σ H2 ⟨u, v, rfl, s2, _⟩
      exact ⟨SqT.of (s2 _ _ (e3 _ _ ha)), SqT.of (s2 _ _ (by rw [← ecut]; exact upd_same))⟩
    · rintro i x y T σ H2 hx hy ⟨u, v, rfl, s2, hch⟩ hT
      rw [List.getElem?_drop] at hy
      obtain ⟨dx, bx, px, vx, ex1, rfl, ex2, rfl⟩ := rowAt hx
      obtain ⟨dy, by', py, vy, ey1, rfl, ey2, rfl⟩ := rowAt hy
      have s3 : Same H2 (upd H2 T (.tup [.ref bx, .ref by'])) := Same.new hT _
      have hb1 := s3 _ _ (s2 _ _ (e3 _ _ ex2))
      have hb2 := s3 _ _ (s2 _ _ (e3 _ _ ey2))
      refine ⟨T, _, rfl, SqT.of upd_same, rfl, _, _, rfl, _, _, rfl, rfl, ?_⟩
      have nxt : ∀ H3, Same H' H3 → Ma.chain ds = false → Q (.bl false) H3 := fun H3 s4 z => by
        have z1 := qq H3 s4
        rw [z] at z1
        exact z1
      have s5 : Same H' (upd H2 T (.tup [.ref bx, .ref by'])) := (e3.trans s2).trans s3
      rw [Nat.add_comm 1 i] at ey1
      refine ⟨_, rfl, bx, _, _, _, rfl, rfl, SqT.of hb1, rfl, _, rfl, by', _, _, _, rfl, rfl, SqT.of hb2, rfl, _, _, rfl, rfl, _, rfl, ite_b (fun c => ?_) fun c => ?_⟩
      · refine iteT (nxt _ s5 (chain_no ex1 ey1 ?_))
        have c := of_decide_eq_true c
        rw [fol, decide_eq_false (show ¬ px < py by omega), Bool.false_and]
      · have c := of_decide_eq_false c
        refine ⟨_, rfl, bx, _, _, _, rfl, rfl, SqT.of hb1, rfl, _, rfl, by', _, _, _, rfl, rfl, SqT.of hb2, rfl, rfl, _, rfl, ?_⟩
        rw [dI]
        refine ite_b (fun c' => ?_) fun c' => ?_
        · have c' := of_decide_eq_true c'
          refine nxt _ s5 (chain_no ex1 ey1 ?_)
          rw [fol, decide_eq_true c', Bool.not_true, Bool.and_false]
        · have c' := of_decide_eq_false c'
          refine ⟨_, _, rfl, s2.trans s3, take_ch hch ex1 ey1 ?_⟩
          rw [fol, decide_eq_true (show px < py by omega), decide_eq_false c']
          rfl
    · rintro σ H2 ⟨u, v, rfl, s2, hch⟩
      have hc : Ma.chain ds = true := chain_of fun j a' b' ea eb => by
        refine hch j ?_ a' b' ea eb
        have := (List.getElem?_eq_some_iff.mp eb).1
        simp only [List.length_drop]
        omega
      have z1 := qq H2 (e3.trans s2)
      rw [hc] at z1
      exact z1
theorem sc_is_line : FnScope ["thing"] ["thing"] (defScope s_is_line) := ⟨rfl, rfl, rfl, by decide +kernel, rfl, by decide +kernel, by decide +kernel⟩
theorem ok_is_line {g : Gd} (D : Dfn K mg "is_line" s_is_line cd) (B : Blt mg) (C_is_length : Cal P w K mg base "is_length" 2 ["thing"] (sp_b1 Ma.isLength)) (C_are_steps : Cal P w K mg base "are_steps" 5 ["thing", "long"] (sp_g2 g Ma.areSteps)) :
    Cal P w K mg base "is_line" 6 ["thing"] (sp_g1 g Ma.isLine) := by
  refine D.calN (k := 5) sc_is_line (fun vs H Q E h => ?_) (fun _ _ _ _ _ _ us hl => match us, hl with | [_], _ => rfl) (fun f A outer s H vs Q E hr h => ?_)
  · obtain ⟨v, d, rfl, _⟩ := h
    rfl
  obtain ⟨v, d, rfl, hd, G, qq⟩ := h
  have q := qq H (Same.refl H)
  refine ⟨_, (pss_cons (ps_if (PW.pt (pw_or (pt_not (pt_val (pe_callB (call_isi (n := "tuple") (by decide)) rfl B.isinstance boot_isi (pa_cons (pv 0) (pa_cons (pe_bltn (v := .ty "tuple") rfl B.tuple boot_tuple rfl) pa_nil))))) (pw_or1 (pt_cmpR op_ne (pe_callB (call_lenK (K := K) rfl) rfl B.len PySem.boot_len (pa_cons (pv 0) pa_nil)) pe_int (nomark _))))) (pss_one (ps_ret pe_bl)) pss_nil)
      (pss_one (ps_ret (pe_and (pe_callN C_is_length hr rfl passN (pa_cons (pe_ix (ix_tupK (K := K) rfl) (pv 0) pe_int (fun _ _ => rfl)) pa_nil)) (pe_one (pe_callN C_are_steps hr rfl passN (pa_cons (pe_ix (ix_tupK (K := K) rfl) (pv 0) pe_int (fun _ _ => rfl)) (pa_cons (pe_ix (ix_tupK (K := K) rfl) (pv 0) pe_int (fun _ _ => rfl)) pa_nil)))))))), ?_⟩
  cases hd with
  | int i => exact ⟨_, rfl, _, _, rfl, .int i, _, rfl, iteT q⟩
  | non => exact ⟨_, rfl, _, _, rfl, .non, _, rfl, iteT q⟩
  | bl b => exact ⟨_, rfl, _, _, rfl, .bl b, _, rfl, iteT q⟩
  | str x => exact ⟨_, rfl, _, _, rfl, .str x, _, rfl, iteT q⟩
  | lst ha p => exact ⟨_, rfl, _, _, rfl, .lst ha p, _, rfl, iteT q⟩
  | @tup a xs ds ha p =>
    refine ⟨_, rfl, _, _, rfl, .tup ha p, _, rfl, iteF ⟨_, rfl, a, xs, rfl, .inr (SqT.of ha), rfl, _, rfl, ?_⟩⟩
    rw [dI]
    by_cases hl : xs.length = 2
    rotate_left
    · rw [decide_eq_false (show ¬ ((xs.length : Nat) : Int) = 2 by omega)]
      refine iteT ?_
      rw [isLine_len (p.length ▸ hl)] at q
      exact q
    have e2 : ds.length = 2 := p.length ▸ hl
    rw [decide_eq_true (show ((xs.length : Nat) : Int) = 2 by omega)]
    refine iteF ?_
    match xs, ds, p, ha, hl, e2, q, qq with
    | [x, y], [dx, dy], .cons px (.cons py .nil), ha, _, _, q, qq =>
      refine ⟨_, rfl, a, _, _, _, rfl, rfl, SqT.of ha, rfl, x, dx, rfl, px, _, rfl, ite_b (fun c => ?_) fun c => ?_⟩
      · cases px with
        | int n =>
          refine ⟨_, rfl, a, _, _, _, rfl, rfl, SqT.of ha, rfl, _, rfl, a, _, _, _, rfl, rfl, SqT.of ha, rfl, y, dy, n, rfl, py, G, fun H' s' => ?_⟩
          have z := qq H' s'
          simp only [Ma.isLine, c, Bool.true_and] at z
          exact z
        | _ => cases c
      · have e : Ma.isLine (.tuple [dx, dy]) = false := by
          cases px <;> first | rfl | (simp only [Ma.isLine, c, Bool.false_and])
        rw [e] at q
        exact q
theorem sc_need_line : FnScope ["thing"] ["thing"] (defScope s_need_line) := ⟨rfl, rfl, rfl, by decide +kernel, rfl, by decide +kernel, by decide +kernel⟩
theorem ok_need_line {g : Gd} {C : Addr} (D : Dfn K mg "need_line" s_need_line cd) (X_NoLine : PySem.W.excIn K C [.type "ValueError", .type "Exception", .type "BaseException", .type "object"] "ValueError.__new__" = true) (K_NoLine : mg "NoLine" = some (.ref C))
    (C_is_line : Cal P w K mg base "is_line" 6 ["thing"] (sp_g1 g Ma.isLine)) : Cal P w K mg base "need_line" 7 ["thing"] (sp_need g Ma.isLine C) := by
  refine D.calM (k := 6) sc_need_line (fun vs H Q E h => ?_) (fun _ _ _ _ _ _ us hl => match us, hl with | [_], _ => rfl) (fun f A outer s H vs Q E hr h => ?_)
  · obtain ⟨v, d, rfl, _⟩ := h
    rfl
  obtain ⟨v, d, rfl, hd, G, qq⟩ := h
  refine ⟨_, (pss_one (ps_if (pt_not (pt_val (pe_callN C_is_line hr rfl passesDef (pa_cons (pv 0) pa_nil)))) (pss_one (ps_raise rfl PySem.F.excBase_ValueError rfl X_NoLine rfl K_NoLine (pa_cons pe_str pa_nil))) pss_nil)), ?_⟩
  refine ⟨_, rfl, v, d, rfl, hd, G, fun H' s' => ⟨_, rfl, ?_⟩⟩
  obtain ⟨q1, q2⟩ := qq H' s'
  cases c : Ma.isLine d with
  | true => exact iteF (q1 c)
  | false => exact iteT ⟨by show 1 ≤ sizeLine; decide, q2 c⟩
theorem sc_level_stretches : FnScope ["things", "found", "place", "thing"] ["things"] (defScope s_level_stretches) := ⟨rfl, rfl, rfl, by decide +kernel, rfl, by decide +kernel, by decide +kernel⟩
theorem ok_level_stretches (D : Dfn K mg "level_stretches" s_level_stretches cd) (B : Blt mg) : Cal P w K mg base "level_stretches" 1 ["things"] sp_levels := by
  refine D.calN (k := 0) sc_level_stretches (fun vs H Q E h => ?_) (fun _ _ _ _ _ _ us hl => match us, hl with | [_], _ => rfl) (fun f A outer s H vs Q E hr h => ?_)
  · obtain ⟨a, xs, rfl, _⟩ := h
    rfl
  obtain ⟨a, xs, rfl, ha, hsc, hl, q⟩ := h
  refine ⟨_, (pss_cons (ps_set (i := 1) sc_level_stretches.nd rfl (by first | exact Or.inl rfl | exact Or.inr rfl) (pe_lst pa_nil))
      (pss_cons (ps_for PassesOwn.never rfl (pi_enumK (K := K) rfl rfl B.enumerate (pa_cons (pv 0) pa_nil)) (pg_tup rfl (pgs_cons (pg_name (i := 2) sc_level_stretches.nd rfl (by first | exact Or.inl rfl | exact Or.inr rfl)) (pgs_cons (pg_name (i := 3) sc_level_stretches.nd rfl (by first | exact Or.inl rfl | exact Or.inr rfl)) pgs_nil))) (pss_one (ps_if (PW.pt (pw_and (pt_truth (pv 1) (by intro _; rfl)) (pw_and1 (pt_cmpR op_eq (pe_ix (ix_tupK (K := K) rfl) (pe_ix (ix_listK (K := K) rfl) (pv 1) (pe_un un_neg pe_int) (fun _ _ => rfl)) pe_int (fun _ _ => rfl)) (pv 3) (nomark _))))) (pss_one (ps_asg (pe_tup (pa_cons (pe_ix (ix_tupK (K := K) rfl) (pe_ix (ix_listK (K := K) rfl) (pv 1) (pe_un un_neg pe_int) (fun _ _ => rfl)) pe_int (fun _ _ => rfl)) (pa_cons (pv 2) (pa_cons (pv 3) pa_nil)))) (pg_sub (pv 1) (pe_un un_neg pe_int) set_list))) (pss_one (ps_expr (pe_bm PySem.F.plainAttrs_list PySem.F.slot_list_append PySem.F.type_list_append mt_append (pv 1) (pa_cons (pe_tup (pa_cons (pv 2) (pa_cons (pv 2) (pa_cons (pv 3) pa_nil)))) pa_nil)))))))
      (pss_one (ps_ret (pv 1))))), ?_⟩
  refine ⟨by show 0 ≤ sizeLine; decide, fun p hp => ?_⟩
  have ha1 : (upd H p (.lst [])) a = some (.lst xs) := Same.new hp _ _ _ ha
  refine ⟨_, rfl, a, _, rfl, SqL.of ha1, for_enum (K := K) (a := a) (xs := xs)
    (fun i σ H2 => ∃ us u v, σ = [some (.ref a), some (.ref p), u, v] ∧ Same H H2 ∧ H2 p = some (.lst us) ∧ Trips H2 us (Ma.levs (xs.take i)))
    ⟨[], none, none, rfl, Same.new hp _, upd_same, .nil⟩ (fun i σ H2 ⟨us, u, v, _, s2, _⟩ => SqL.of (s2 _ _ ha)) ?_ ?_⟩
  · rintro i x T σ H2 hx ⟨us, u, v, rfl, s2, hp2, t2⟩ hT
    have sT : Same H2 (upd H2 T (.tup [.int (i : Nat), x])) := Same.new hT _
    have hp3 := sT _ _ hp2
    have t3 := t2.same sT
    have il : i < xs.length := (List.getElem?_eq_some_iff.mp hx).1
    have et : (xs.take i).length = i := by rw [List.length_take]; omega
    have e0 : xs.take (i + 1) = xs.take i ++ [x] := by rw [List.take_add_one, hx]; rfl
    have e1 := Ma.levs_snoc (xs.take i) x
    rw [← e0, et] at e1
    have sl : us.length ≤ i := by
      have z1 := t2.length
      have z2 := Ma.levs_len i (xs.take i) et
      omega
    refine ⟨T, _, rfl, SqT.of upd_same, rfl, _, _, rfl, _, _, rfl, rfl, ?_⟩
    have app : Ma.levPush (Ma.levs (xs.take i)) i x = Ma.levs (xs.take i) ++ [(i, i, x)] → ∀ r, (upd H2 T (.tup [.int (i : Nat), x])) r = none →
        ∃ us' u' v', ([some (.ref a), some (.ref p), some (.int (i : Nat)), some x] : St) = [some (.ref a), some (.ref p), u', v'] ∧ Same H (upd (upd (upd H2 T (.tup [.int (i : Nat), x])) r (.tup [.int (i : Nat), .int (i : Nat), x])) p (.lst (us ++ [.ref r]))) ∧
          (upd (upd (upd H2 T (.tup [.int (i : Nat), x])) r (.tup [.int (i : Nat), .int (i : Nat), x])) p (.lst (us ++ [.ref r]))) p = some (.lst us') ∧ Trips (upd (upd (upd H2 T (.tup [.int (i : Nat), x])) r (.tup [.int (i : Nat), .int (i : Nat), x])) p (.lst (us ++ [.ref r]))) us' (Ma.levs (xs.take (i + 1))) := fun c r hr' => by
      have sr := Same.new hr' (.tup [.int (i : Nat), .int (i : Nat), x])
      refine ⟨_, _, _, rfl, (((s2.trans sT).trans sr)).upd hp, upd_same, ?_⟩
      rw [e1, c]
      exact Trips.upd (sr _ _ hp3) (Trips.snoc (s := (i, i, x)) (t3.same sr) upd_same)
    have put : Ma.levPush (Ma.levs (xs.take i)) i x = Ma.levs (xs.take i) ++ [(i, i, x)] → ∀ r, (upd H2 T (.tup [.int (i : Nat), x])) r = none → rAppend (.ref p) [.ref r] (upd (upd H2 T (.tup [.int (i : Nat), x])) r (.tup [.int (i : Nat), .int (i : Nat), x])) fun _ H1 => ∃ us' u' v', ([some (.ref a), some (.ref p), some (.int (i : Nat)), some x] : St) = [some (.ref a), some (.ref p), u', v'] ∧ Same H H1 ∧ H1 p = some (.lst us') ∧ Trips H1 us' (Ma.levs (xs.take (i + 1))) := fun c r hr' =>
      ⟨p, us, _, rfl, rfl, Same.new hr' _ _ _ hp3, Nat.lt_of_le_of_lt (Nat.le_trans sl (by omega : i ≤ 1000)) (by decide), app c r hr'⟩
    by_cases he : us = []
    · subst he
      have e0 : Ma.levs (xs.take i) = [] := by cases h : Ma.levs (xs.take i) with
        | nil => rfl
        | cons _ _ => rw [h] at t2; cases t2
      refine ⟨_, rfl, false, .inl ⟨[], SqL.of hp3, rfl⟩, iteF (iteF ⟨_, rfl, .inl ⟨rfl, _, SqL.of hp3⟩, _, rfl, _, rfl, _, rfl, by show 3 ≤ sizeLine; decide, fun r hr' => put (by rw [e0]; rfl) r hr'⟩)⟩
    · obtain ⟨sl', b, l1, l2, l2', l3⟩ := t3.last he
      have lm : sl'.2.2 ∈ xs := by
        have z := Ma.levs_last (xs.take i)
        rw [l1] at z
        have z : some sl'.2.2 = (xs.take i).getLast? := z
        exact List.mem_of_mem_take (List.mem_of_getLast? z.symm)
      refine ⟨_, rfl, true, .inl ⟨us, SqL.of hp3, by cases us with | nil => exact absurd rfl he | cons _ _ => rfl⟩, iteT ?_⟩
      refine ⟨_, rfl, _, rfl, p, us, _, _, rfl, rfl, SqL.of hp3, l2', b, _, _, _, rfl, rfl, SqT.of l3, rfl, _, rfl, hsc _ lm _ (List.mem_of_getElem? hx), _, rfl, ?_⟩
      by_cases c : sl'.2.2 = x
      · rw [decide_eq_true c]
        refine iteT ⟨_, rfl, _, rfl, p, us, _, _, rfl, rfl, SqL.of hp3, l2', b, _, _, _, rfl, rfl, SqT.of l3, rfl, _, rfl, _, rfl, by show 3 ≤ sizeLine; decide, fun r hr' => ?_⟩
        have sr := Same.new hr' (.tup [.int (sl'.1 : Nat), .int (i : Nat), x])
        refine ⟨_, rfl, _, rfl, p, us, _, _, rfl, rfl, sr _ _ hp3, ixN_last he, ?_⟩
        rw [set_last he]
        refine ⟨_, _, _, rfl, (((s2.trans sT).trans sr)).upd hp, upd_same, ?_⟩
        rw [e1]
        have e2 : Ma.levPush (Ma.levs (xs.take i)) i x = (Ma.levs (xs.take i)).dropLast ++ [(sl'.1, i, x)] := by
          unfold Ma.levPush
          rw [l1]
          show (if sl'.2.2 = x then _ else _) = _
          rw [if_pos c]
        rw [e2]
        exact Trips.upd (sr _ _ hp3) (Trips.snoc (s := (sl'.1, i, x)) (t3.same sr).dropLast upd_same)
      · rw [decide_eq_false c]
        refine iteF ⟨_, rfl, .inl ⟨rfl, _, SqL.of hp3⟩, _, rfl, _, rfl, _, rfl, by show 3 ≤ sizeLine; decide, fun r hr' => put ?_ r hr'⟩
        unfold Ma.levPush
        rw [l1]
        show (if sl'.2.2 = x then _ else _) = _
        rw [if_neg c]
  · rintro σ H2 ⟨us, u, v, rfl, s2, hp2, t2⟩
    rw [List.take_length] at t2
    exact ⟨_, rfl, q p us H2 s2 hp hp2 t2⟩
theorem sc_line_of : FnScope ["values", "first", "last", "worth"] ["values"] (defScope s_line_of) := ⟨rfl, rfl, rfl, by decide +kernel, rfl, by decide +kernel, by decide +kernel⟩
theorem ok_line_of {g : Gd} {c Pt : Addr} (D : Dfn K mg "line_of" s_line_of (.ref c)) (B : Blt mg) (CK : CodeK K c Pt) (hPt : Pt ∈ g.Ts) (BK : BmK mg g.bm g.ob) (C_level_stretches : Cal P w K mg base "level_stretches" 1 ["things"] sp_levels) : Cal P w K mg base "line_of" 2 ["values"] (sp_lineG g) := by
  refine D.calN (k := 1) sc_line_of (fun vs H Q E h => ?_) (fun _ _ _ _ _ _ us hl => match us, hl with | [_], _ => rfl) (fun f A outer s H vs Q E hr h => ?_)
  · obtain ⟨a, xs, rfl, _⟩ := h
    rfl
  obtain ⟨a, xs, rfl, ha, hl, G, q⟩ := h
  refine ⟨_, (pss_one (ps_ret (pe_tup (pa_cons (pe_callB (call_lenK (K := K) rfl) rfl B.len PySem.boot_len (pa_cons (pv 0) pa_nil)) (pa_cons (pe_tupg (own := [("first", 1), ("last", 2), ("worth", 3)]) (gt := (gTup K 3 (gCons (gName 1) (gCons (gName 2) (gCons (gName 3) gNil))))) rfl sc_line_of.nd hr rfl B.tuple (pi_listK (K := K) rfl (pe_callN C_level_stretches hr rfl passN (pa_cons (pv 0) pa_nil))) (blkOk_by (N := ["values", "first", "last", "worth"]) (sc := defScope s_line_of) (by decide +kernel)) rfl (by decide +kernel) rfl rfl CK BK (fun _ _ _ _ _ _ _ => (pg_tup rfl (pgs_cons (pg_name (i := 1) sc_line_of.nd rfl (by first | exact Or.inl rfl | exact Or.inr rfl)) (pgs_cons (pg_name (i := 2) sc_line_of.nd rfl (by first | exact Or.inl rfl | exact Or.inr rfl)) (pgs_cons (pg_name (i := 3) sc_line_of.nd rfl (by first | exact Or.inl rfl | exact Or.inr rfl)) pgs_nil))))) (fun _ _ _ _ _ _ _ hr' => (pe_tup (pa_cons (pv 1) (pa_cons (pv 3) pa_nil))))) pa_nil))))), ?_⟩
  refine ⟨_, rfl, a, _, rfl, .inl (SqL.of ha), _, rfl, a, _, rfl, ha, scals_ints xs, by rw [List.length_map]; exact hl, fun l us H1 s1 _ hl1 t1 => ?_⟩
  rw [levs_ints] at t1
  have G1 := G.same s1
  refine ⟨l, rfl, ⟨us, SqL.of hl1⟩, G1.tabs Pt hPt, G1.bm, fun S hS => ?_⟩
  have len := t1.length
  rw [List.length_map] at len
  have len2 := Ma.levs_len _ xs rfl
  refine ⟨us.length, fun i H2 => ∃ ws, Same H1 H2 ∧ H2 S = some (.lst ws) ∧ Tups H2 ws ((Ma.steps xs).take i), ⟨[], Same.new hS _, upd_same, .nil⟩, ?_, ?_⟩
  · rintro i H2 hi ⟨ws, s2, hS2, tw⟩
    refine ⟨⟨us, us[i], SqL.of (s2 _ _ hl1), by simp [hi]⟩, ?_⟩
    rintro y H3 ⟨rfl, hy⟩
    have ey := hy us (SqL.of (s2 _ _ hl1))
    obtain ⟨t, b, et, rfl, hb⟩ := (t1.same s2).get ey
    obtain ⟨t', et', rfl⟩ : ∃ t' : Nat × Nat × Int, (Ma.levs xs)[i]? = some t' ∧ t = (t'.1, t'.2.1, V.int t'.2.2) := by
      rw [List.getElem?_map] at et
      cases e : (Ma.levs xs)[i]? with
      | none => rw [e] at et; cases et
      | some t' => rw [e] at et; exact ⟨t', rfl, (Option.some.inj et).symm⟩
    have es : (Ma.steps xs)[i]? = some (t'.1, t'.2.2) := by rw [← Ma.steps_of_levs, List.getElem?_map, et']; rfl
    refine ⟨b, _, rfl, SqT.of hb, rfl, _, _, rfl, _, _, rfl, _, _, rfl, rfl, rfl, _, rfl, _, rfl, by show 2 ≤ sizeLine; decide, fun r hr' => ?_⟩
    have sr := Same.new hr' (.tup [.int (t'.1 : Nat), .int t'.2.2])
    refine ⟨ws, sr _ _ hS2, ?_, ws ++ [.ref r], (s2.trans sr).upd hS, upd_same, ?_⟩
    · have := tw.length
      rw [List.length_take] at this
      exact Nat.lt_of_le_of_lt (show ws.length ≤ 1000 by omega) (by decide)
    · rw [List.take_add_one, es]
      exact Tups.upd (sr _ _ hS2) (Tups.snoc (s := (t'.1, t'.2.2)) (tw.same sr) upd_same)
  · rintro H2 ⟨ws, s2, hS2, tw⟩
    refine ⟨⟨us, SqL.of (s2 _ _ hl1), Nat.le_refl _⟩, ws, hS2, fun p hp => ?_⟩
    refine ⟨by show 2 ≤ sizeLine; decide, fun t ht => ?_⟩
    have sp := Same.new hp (.tup ws)
    have st := Same.new ht (.tup [.int ((xs.map V.int).length : Nat), .ref p])
    refine q _ _ (((s1.trans s2).trans sp).trans st) ?_
    have el : (Ma.steps xs).length = us.length := by rw [← Ma.steps_of_levs, List.length_map]; omega
    rw [← el, List.take_length] at tw
    have en : (xs.map V.int).length = xs.length := List.length_map _
    have fin : Dd (upd (upd H2 p (.tup ws)) t (.tup [.int ((xs.map V.int).length : Nat), .ref p])) (.ref t) (.tuple [.int ((xs.map V.int).length : Nat), .tuple ((Ma.steps xs).map Ma.stepD)]) :=
      .tup upd_same (.cons (.int _) (.cons (.tup (st _ _ upd_same) ((tw.same (sp.trans st)).dd)) .nil))
    have ed : Ma.lineD xs = .tuple [.int ((xs.map V.int).length : Nat), .tuple ((Ma.steps xs).map Ma.stepD)] := by rw [en]; rfl
    rw [ed]
    exact fin
theorem sc_plain : FnScope ["line", "ends", "values", "long", "steps", "end", "place", "worth"] ["line"] (defScope s_plain) := ⟨rfl, rfl, rfl, by decide +kernel, rfl, by decide +kernel, by decide +kernel⟩
theorem ok_plain {g : Gd} {C : Addr} (D : Dfn K mg "plain" s_plain cd) (B : Blt mg) (C_need_line : Cal P w K mg base "need_line" 7 ["thing"] (sp_need g Ma.isLine C)) : Cal P w K mg base "plain" 8 ["line"] (sp_plain g C) := by
  refine D.calM (k := 7) sc_plain (fun vs H Q E h => ?_) (fun _ _ _ _ _ _ us hl => match us, hl with | [_], _ => rfl) (fun f A outer s H vs Q E hr h => ?_)
  · obtain ⟨v, d, rfl, _⟩ := h
    rfl
  obtain ⟨v, d, rfl, hd, G, h⟩ := h
  refine ⟨_, (pss_cons (ps_expr (pe_callN C_need_line hr rfl passesDef (pa_cons (pv 0) pa_nil)))
      (pss_cons (ps_asg (pv 0) (pg_tup rfl (pgs_cons (pg_name (i := 3) sc_plain.nd rfl (by first | exact Or.inl rfl | exact Or.inr rfl)) (pgs_cons (pg_name (i := 4) sc_plain.nd rfl (by first | exact Or.inl rfl | exact Or.inr rfl)) pgs_nil))))
      (pss_cons (ps_set (i := 1) sc_plain.nd rfl (by first | exact Or.inl rfl | exact Or.inr rfl) (pe_op op_cat (pe_lc (own := [("place", 6), ("worth", 7)]) (g := (gTup K 2 (gCons (gName 6) (gCons (gName 7) gNil)))) rfl sc_plain.nd (pi_tupK (K := K) rfl (pe_slice (sl_tupK (K := K) rfl) (pv 4) (po_some pe_int) po_none)) (blkOk_by (N := ["line", "ends", "values", "long", "steps", "end", "place", "worth"]) (sc := defScope s_plain) (by decide +kernel)) (fun _ _ _ _ _ => (pg_tup rfl (pgs_cons (pg_name (i := 6) sc_plain.nd rfl (by first | exact Or.inl rfl | exact Or.inr rfl)) (pgs_cons (pg_name (i := 7) sc_plain.nd rfl (by first | exact Or.inl rfl | exact Or.inr rfl)) pgs_nil)))) (fun _ _ _ _ _ => pts_nil) (fun _ _ _ _ _ => (pv 6))) (pe_lst (pa_cons (pv 3) pa_nil))))
      (pss_cons (ps_set (i := 2) sc_plain.nd rfl (by first | exact Or.inl rfl | exact Or.inr rfl) (pe_lst pa_nil))
      (pss_cons (ps_forI rfl (piS_zipK (K := K) rfl (b1 := false) (b2 := true) rfl B.zip (pa_cons (pv 4) (pa_cons (pv 1) pa_nil))) (pg_tup rfl (pgs_cons (pg_tup rfl (pgs_cons (pg_name (i := 6) sc_plain.nd rfl (by first | exact Or.inl rfl | exact Or.inr rfl)) (pgs_cons (pg_name (i := 7) sc_plain.nd rfl (by first | exact Or.inl rfl | exact Or.inr rfl)) pgs_nil))) (pgs_cons (pg_name (i := 5) sc_plain.nd rfl (by first | exact Or.inl rfl | exact Or.inr rfl)) pgs_nil))) (pss_one (ps_expr (pe_bm PySem.F.plainAttrs_list PySem.F.slot_list_extend PySem.F.type_list_extend mt_extend (pv 2) (pa_cons (pe_op op_rep (pe_lst (pa_cons (pv 7) pa_nil)) (pe_op op_sub (pv 5) (pv 6))) pa_nil)))))
      (pss_one (ps_ret (pv 2)))))))), ?_⟩
  refine ⟨_, rfl, v, d, rfl, hd, G, fun H1 s1 => ⟨fun c => ?_, fun c => ?_⟩⟩
  rotate_left
  · rcases h with ⟨_, q⟩ | ⟨xs, ok, rfl, _⟩
    · exact q H1 s1
    · rw [Ma.lineD_is ok] at c; cases c
  rcases h with ⟨c', _⟩ | ⟨xs, ok, rfl, q⟩
  · rw [c'] at c; cases c
  obtain ⟨a, b, st, rfl, ha, hb, t⟩ := line_at hd
  have ha1 := s1 _ _ ha
  have hb1 := s1 _ _ hb
  have t1 := t.same s1
  have lx := ok.len
  have lp := ok.pos
  have fl : (Ma.pieces xs.length (Ma.steps xs)).flatten = xs := by rw [← Ma.expand_pieces, Ma.expand_line]
  have le : st.length ≤ 60 := by
    have z1 := t.length
    have z2 : (Ma.steps xs).length ≤ xs.length := Ma.stepsFrom_len xs 0 none
    omega
  refine ⟨_, rfl, a, _, rfl, SqT.of ha1, rfl, _, _, rfl, _, _, rfl, rfl, ?_⟩
  -- ends
  have pos : 1 ≤ st.length := by
    have z1 := t.length
    have z2 : 1 ≤ (Ma.steps xs).length := by
      cases xs with
      | nil => simp at lp
      | cons x r => simp [Ma.steps, Ma.stepsFrom]
    omega
  refine ⟨_, rfl, _, rfl, b, st, rfl, SqT.of hb1, (fun z => by have z1 := z.1; simp only [HT.sIx] at z1; rw [if_neg (by decide)] at z1; have e : ((1 : Int).toNat) = 1 := rfl; rw [e] at z1; omega), fun r hr' => ?_⟩
  have ecut : cutV st (some 1) none = st.drop 1 := cut1 pos
  have sr := Same.new hr' (.tup (cutV st (some 1) none))
  refine ⟨r, rfl, ⟨_, SqT.of upd_same⟩, fun Dl hD => ?_⟩
  have hDr : Dl ≠ r := fun z => by rw [z, upd_same] at hD; cases hD
  have hD1 : H1 Dl = none := none_of sr hD
  refine lc_tup (K := K) (a := r) (xs := cutV st (some 1) none) (fun i H2 => Same H1 H2 ∧ H2 r = some (.tup (cutV st (some 1) none)) ∧ H2 Dl = some (.lst ((((Ma.steps xs).drop 1).take i).map fun s => V.int (s.1 : Nat))))
    ⟨(sr.trans (Same.new hD _)), Same.new hD _ _ _ upd_same, upd_same⟩ (fun i H2 _ h => SqT.of h.2.1) ?_ ?_
  · rintro i x H2 hx ⟨s2, hr2, hD2⟩
    rw [ecut, List.getElem?_drop] at hx
    obtain ⟨sp, bx, e1, rfl, e2⟩ := (t1.same s2).get hx
    refine ⟨bx, _, rfl, SqT.of e2, rfl, _, _, rfl, _, _, rfl, rfl, rfl, ?_⟩
    refine tYesT ⟨_, rfl, _, hD2, ?_, ?_⟩
    · rw [List.length_map, List.length_take]
      have := (List.getElem?_eq_some_iff.mp hx).1
      exact Nat.lt_of_le_of_lt (Nat.min_le_left _ _) (Nat.lt_of_lt_of_le (show i < 60 by omega) (by decide))
    · refine ⟨s2.upd hD1, by rw [upd_ne (Ne.symm hDr)]; exact hr2, ?_⟩
      rw [upd_same, List.take_add_one, List.getElem?_drop, e1, List.map_append]
      rfl
  rintro H2 ⟨s2, hr2, hD2⟩
  have lcut : (cutV st (some 1) none).length = ((Ma.steps xs).drop 1).length := by rw [ecut, List.length_drop, List.length_drop, t.length]
  rw [lcut, List.take_length] at hD2
  refine ⟨_, rfl, by show 1 ≤ sizeLine; decide, fun e he => ?_⟩
  have se := Same.new he (.lst [.int (xs.length : Nat)])
  refine ⟨Dl, e, _, _, rfl, rfl, se _ _ hD2, upd_same, ?_, fun n hn => ?_⟩
  · rw [List.length_map, List.length_drop, ← t.length]
    exact small (show st.length - 1 + 1 ≤ 1000000 by omega)
  have een : ((((Ma.steps xs).drop 1).map fun s => V.int (s.1 : Nat)) ++ [.int (xs.length : Nat)]) = ((((Ma.steps xs).drop 1).map (·.1)) ++ [xs.length]).map fun k : Nat => V.int (k : Nat) := by
    rw [List.map_append, List.map_map]; rfl
  rw [een]
  have sn := Same.new hn (.lst (((((Ma.steps xs).drop 1).map (·.1)) ++ [xs.length]).map fun k : Nat => V.int (k : Nat)))
  refine ⟨by show 0 ≤ sizeLine; decide, fun p hp => ?_⟩
  have hn4 := upd_same (H := upd H2 e (.lst [.int (xs.length : Nat)])) (a := n) (o := .lst (((((Ma.steps xs).drop 1).map (·.1)) ++ [xs.length]).map fun k : Nat => V.int (k : Nat)))
  have hnp : n ≠ p := fun z => by rw [← z, hn4] at hp; cases hp
  have s4 : Same H _ := (((s1.trans s2).trans se).trans sn)
  have hp0 : H p = none := none_of s4 hp
  have s5 := s4.upd (o := .lst []) hp0
  refine ⟨_, rfl, _, rfl, b, n, st, _, rfl, SqT.of (s5 _ _ hb), SqL.of (by rw [upd_ne hnp]; exact hn4), for_zip (K := K) (b1 := false) (b2 := true) (a := b) (b := n) (xs := st) (ys := ((((Ma.steps xs).drop 1).map (·.1)) ++ [xs.length]).map fun k : Nat => V.int (k : Nat))
    (fun i σ H5 => ∃ u v w, σ = [some (.ref a), some (.ref n), some (.ref p), some (.int (xs.length : Nat)), some (.ref b), u, v, w] ∧ Same H H5 ∧ H5 n = some (.lst (((((Ma.steps xs).drop 1).map (·.1)) ++ [xs.length]).map fun k : Nat => V.int (k : Nat))) ∧
      H5 p = some (.lst ((((Ma.pieces xs.length (Ma.steps xs)).take i).flatten).map V.int))) ⟨_, _, _, rfl, s5, by rw [upd_ne hnp]; exact hn4, upd_same⟩ ?_ ?_ ?_⟩
  · rintro i σ H5 ⟨u, v, w, _, s6, hn6, _⟩
    exact ⟨SqT.of (s6 _ _ hb), SqL.of hn6⟩
  · rintro i x y T σ H5 hx hy ⟨u, v, w, rfl, s6, hn6, hp6⟩ hT
    obtain ⟨sp, bx, e1, rfl, e2⟩ := (t.same s6).get hx
    obtain ⟨ev, e3, rfl⟩ : ∃ k : Nat, ((((Ma.steps xs).drop 1).map (·.1)) ++ [xs.length])[i]? = some k ∧ y = .int (k : Nat) := by
      rw [List.getElem?_map] at hy
      obtain ⟨k, h1, h2⟩ := Option.map_eq_some_iff.mp hy
      exact ⟨k, h1, h2.symm⟩
    have pc := Ma.pieces_at (n := xs.length) e1 e3
    have pl := Ma.piece_len pc
    rw [fl, List.length_replicate] at pl
    have sl := (Ma.stepsFrom_ge xs 0 none sp (List.mem_of_getElem? e1)).2.1
    have sT := Same.new hT (.tup [.ref bx, .int (ev : Nat)])
    have hp7 := sT _ _ hp6
    have hn7 := sT _ _ hn6
    refine ⟨T, _, rfl, SqT.of upd_same, rfl, _, _, rfl, bx, _, rfl, SqT.of (sT _ _ e2), rfl, _, _, rfl, _, _, rfl, rfl, _, _, rfl, rfl, ?_⟩
    refine ⟨_, rfl, .inl ⟨rfl, _, SqL.of hp7⟩, _, rfl, by show 1 ≤ sizeLine; decide, fun l hl => ⟨_, rfl, _, rfl, _, _, rfl, rfl, l, _, _, rfl, rfl, upd_same, by omega, by omega, ?_, fun m hm => ?_⟩⟩
    · refine small ?_
      show 1 * _ ≤ _
      omega
    have s8 := Same.new hl (.lst [.int sp.2])
    have ek : (((ev : Nat) : Int) - ((sp.1 : Nat) : Int)).toNat = ev - sp.1 := by omega
    have s9 := Same.new hm (.lst (List.replicate (((ev : Nat) : Int) - ((sp.1 : Nat) : Int)).toNat [V.int sp.2]).flatten)
    have tl := Ma.flat_take_len (Ma.pieces xs.length (Ma.steps xs)) i
    rw [fl] at tl
    refine ⟨p, m, _, _, rfl, rfl, s9 _ _ (s8 _ _ hp7), upd_same, ?_, ?_⟩
    · rw [ek, List.flatten_replicate_singleton, List.length_map, List.length_replicate]
      exact small (by omega)
    · refine ⟨_, _, _, rfl, (((s6.trans sT).trans s8).trans s9).upd hp0, by rw [upd_ne hnp]; exact s9 _ _ (s8 _ _ hn7), ?_⟩
      rw [upd_same, Ma.flat_take_snoc pc, ek, List.flatten_replicate_singleton, List.map_append, List.map_replicate]
  · rintro σ H5 ⟨u, v, w, rfl, s6, hn6, hp6⟩
    have lm : min st.length (((((Ma.steps xs).drop 1).map (·.1)) ++ [xs.length]).map fun k : Nat => V.int (k : Nat)).length = (Ma.pieces xs.length (Ma.steps xs)).length := by
      have z := t.length
      rw [Ma.pieces_len, List.length_map, List.length_append, List.length_map, List.length_drop]
      simp
      omega
    rw [lm, List.take_length, fl] at hp6
    exact ⟨_, rfl, q p H5 s6 hp0 hp6⟩
theorem sc__law_cell_at : FnScope ["_law_script", "_law_k"] ["_law_script", "_law_k"] (defScope s__law_cell_at) := ⟨rfl, rfl, rfl, by decide +kernel, rfl, by decide +kernel, by decide +kernel⟩
theorem ok__law_cell_at (D : Dfn K mg "_law_cell_at" s__law_cell_at cd) (B : Blt mg) : Cal P w K mg base "_law_cell_at" 1 ["_law_script", "_law_k"] (sp_cell K) := by
  refine D.calN (k := 0) sc__law_cell_at (fun vs H Q E h => ?_) (fun _ _ _ _ _ _ us hl => match us, hl with | [_, _], _ => rfl) (fun f A outer s H vs Q E hr h => ?_)
  · obtain ⟨a, ns, k, rfl, _⟩ := h
    rfl
  obtain ⟨a, ns, k, rfl, hs, q⟩ := h
  refine ⟨_, (pss_cons (ps_if (pt_cmpR op_lt (pv 1) (pe_callB (call_lenK (K := K) rfl) rfl B.len PySem.boot_len (pa_cons (pv 0) pa_nil)) (nomark _)) (pss_one (ps_ret (pe_ix (ix_listK (K := K) rfl) (pv 0) (pv 1) (fun _ _ => rfl)))) pss_nil)
      (pss_cons (ps_if (pt_cmpR (op_eqDK (K := K) hr.units rfl) (pv 0) (pe_lst pa_nil) (nomark _)) (pss_one (ps_ret pe_int)) pss_nil)
      (pss_one (ps_ret (pe_op op_add (pe_op op_mul (pe_ix (ix_listK (K := K) rfl) (pv 0) (pe_op op_mod (pv 1) (pe_callB (call_lenK (K := K) rfl) rfl B.len PySem.boot_len (pa_cons (pv 0) pa_nil))) (fun _ _ => rfl)) pe_int) (pv 1)))))), ?_⟩
  refine ⟨_, rfl, _, rfl, a, _, rfl, .inl hs, _, _, rfl, rfl, _, rfl, ?_⟩
  by_cases hk : k < ns.length
  · rw [decide_eq_true (show (k : Int) < (((ns.map V.int).length : Nat) : Int) by rw [List.length_map]; omega)]
    refine iteT ⟨_, rfl, _, rfl, a, _, _, .int ns[k], rfl, rfl, hs, atI_nat (j := k) (by simp [hk]), q _ _ (Same.refl H)⟩
  · rw [decide_eq_false (show ¬ (k : Int) < (((ns.map V.int).length : Nat) : Int) by rw [List.length_map]; omega)]
    refine iteF ⟨_, rfl, by show 0 ≤ sizeLine; decide, fun p hp => ⟨.list (ns.map .int), .list [], .lst ((Same.new hp _).seq hs) (dp_ints _ _ _), .lst (SqL.of upd_same) .nil, shaped_ints ns, by decide, _, rfl, ?_⟩⟩
    have sp := Same.new hp (.lst [])
    cases ns with
    | nil => exact iteT (q _ _ sp)
    | cons x r =>
      refine iteF ⟨_, rfl, _, rfl, _, rfl, a, _, rfl, .inl (sp.seq hs), _, _, rfl, rfl, by simp, a, _, _, .int ((x :: r)[k % (r.length + 1)]'(Nat.mod_lt _ (by simp))), rfl, rfl, sp.seq hs, ?_, _, _, rfl, rfl, .inr (by decide), _, rfl, _, _, rfl, rfl, q _ _ sp⟩
      have e : ((k : Nat) : Int) % ((((x :: r).map V.int).length : Nat) : Int) = ((k % (r.length + 1) : Nat) : Int) := by
        rw [List.length_map]; simp
      rw [e]
      have hlt : k % (r.length + 1) < (x :: r).length := Nat.mod_lt _ (by simp)
      exact atI_nat (by rw [List.getElem?_map, List.getElem?_eq_getElem hlt]; rfl)
theorem sc__law_mixed : FnScope ["_law_script", "_law_k", "_law_many", "_law_drawn"] ["_law_script", "_law_k", "_law_many"] (defScope s__law_mixed) := ⟨rfl, rfl, rfl, by decide +kernel, rfl, by decide +kernel, by decide +kernel⟩
theorem ok__law_mixed (D : Dfn K mg "_law_mixed" s__law_mixed cd) (C__law_cell_at : Cal P w K mg base "_law_cell_at" 1 ["_law_script", "_law_k"] (sp_cell K)) : Cal P w K mg base "_law_mixed" 2 ["_law_script", "_law_k", "_law_many"] (sp_mixed K) := by
  refine D.calN (k := 1) sc__law_mixed (fun vs H Q E h => ?_) (fun _ _ _ _ _ _ us hl => match us, hl with | [_, _, _], _ => rfl) (fun f A outer s H vs Q E hr h => ?_)
  · obtain ⟨a, ns, k, m, rfl, _⟩ := h
    rfl
  obtain ⟨a, ns, k, m, rfl, hs, hm, q⟩ := h
  refine ⟨_, (pss_cons (ps_set (i := 3) sc__law_mixed.nd rfl (by first | exact Or.inl rfl | exact Or.inr rfl) (pe_op op_mod (pe_op op_add (pe_op op_add (pe_op op_mul (pe_callN C__law_cell_at hr rfl passN (pa_cons (pv 0) (pa_cons (pv 1) pa_nil))) pe_int) (pe_op op_mul pe_int (pv 1))) pe_int) pe_int))
      (pss_one (ps_ret (pe_op op_mod (pe_op op_mod (pe_op op_mod (pe_op op_pow (pv 3) pe_int) pe_int) pe_int) (pv 2))))), ?_⟩
  refine ⟨_, rfl, _, rfl, a, ns, k, rfl, hs, fun r H1 s1 => ⟨_, _, rfl, rfl, .inr (by decide), _, rfl, _, _, rfl, rfl, .inl (by decide), _, _, rfl, rfl, _, _, rfl, rfl, _, _, rfl, rfl, (by decide : (0 : Int) < 2147483647), ?_⟩⟩
  generalize hd : ((r * 1103515245 + 7919 * (k : Int) + 12345) % 2147483647 : Int) = d
  have d1 : 0 ≤ d := by rw [← hd]; exact Int.emod_nonneg _ (by decide)
  have d2 : d < 2147483647 := by rw [← hd]; exact Int.emod_lt_of_pos _ (by decide)
  refine ⟨_, rfl, _, _, rfl, rfl, ⟨by decide, by decide, by omega⟩, _, _, rfl, rfl, (by decide : (0 : Int) < 2147483647), _, _, rfl, rfl, (by decide : (0 : Int) < 999983), _, rfl, _, _, rfl, rfl, hm, ?_⟩
  exact q _ _ (Int.emod_nonneg _ (by omega)) (Int.emod_lt_of_pos _ hm) s1
theorem sc__law_draw : FnScope ["_law_script", "_law_town", "_law_many"] ["_law_script", "_law_town", "_law_many"] (defScope s__law_draw) := ⟨rfl, rfl, rfl, by decide +kernel, rfl, by decide +kernel, by decide +kernel⟩
theorem ok__law_draw (D : Dfn K mg "_law_draw" s__law_draw cd) (B : Blt mg) (C__law_mixed : Cal P w K mg base "_law_mixed" 2 ["_law_script", "_law_k", "_law_many"] (sp_mixed K)) : Cal P w K mg base "_law_draw" 3 ["_law_script", "_law_town", "_law_many"] (sp_draw K) := by
  refine D.calN (k := 2) sc__law_draw (fun vs H Q E h => ?_) (fun _ _ _ _ _ _ us hl => match us, hl with | [_, _, _], _ => rfl) (fun f A outer s H vs Q E hr h => ?_)
  · obtain ⟨a, t, m, n, rfl, _⟩ := h
    rfl
  obtain ⟨a, t, m, n, rfl, hm, ⟨ns, hs⟩, ⟨zs, hz, lz⟩, hn, q⟩ := h
  refine ⟨_, (pss_cons (ps_expr (pe_bm PySem.F.plainAttrs_list PySem.F.slot_list_append PySem.F.type_list_append mt_append (pv 1) (pa_cons pe_int pa_nil)))
      (pss_one (ps_ret (pe_callN C__law_mixed hr rfl passN (pa_cons (pv 0) (pa_cons (pe_callB (call_lenK (K := K) rfl) rfl B.len PySem.boot_len (pa_cons (pv 1) pa_nil)) (pa_cons (pv 2) pa_nil))))))), ?_⟩
  have s1 : Same (wo t H) (wo t (upd H t (.lst (zs ++ [.int 0])))) := wo_upd
  have hs1 := (s1.trans (wo_le t _)).seq hs
  refine ⟨_, rfl, .inl ⟨rfl, _, SqL.of hz⟩, t, zs, _, rfl, rfl, hz, Nat.lt_of_le_of_lt (show zs.length ≤ 5000 by omega) (by decide), ?_⟩
  refine ⟨_, rfl, _, rfl, t, _, rfl, .inl (SqL.of upd_same), _, rfl, a, ns, _, m, rfl, hs1, hm, fun r H' r1 r2 s2 => ?_⟩
  exact q r H' r1 r2 (s1.trans (wo_same s2)) ⟨_, s2 _ _ upd_same, by rw [List.length_append]; show zs.length + 1 ≤ n + 1; omega⟩
theorem sc__law_pick : FnScope ["_law_script", "_law_town", "_law_some"] ["_law_script", "_law_town", "_law_some"] (defScope s__law_pick) := ⟨rfl, rfl, rfl, by decide +kernel, rfl, by decide +kernel, by decide +kernel⟩
theorem ok__law_pick (D : Dfn K mg "_law_pick" s__law_pick cd) (B : Blt mg) (C__law_draw : Cal P w K mg base "_law_draw" 3 ["_law_script", "_law_town", "_law_many"] (sp_draw K)) : Cal P w K mg base "_law_pick" 4 ["_law_script", "_law_town", "_law_some"] (sp_pick K) := by
  refine D.calN (k := 3) sc__law_pick (fun vs H Q E h => ?_) (fun _ _ _ _ _ _ us hl => match us, hl with | [_, _, _], _ => rfl) (fun f A outer s H vs Q E hr h => ?_)
  · obtain ⟨a, t, s', xs, n, rfl, _⟩ := h
    rfl
  obtain ⟨a, t, s', xs, n, rfl, hl, hx, hs, ht, hn, q⟩ := h
  refine ⟨_, (pss_one (ps_ret (pe_ix (ix_listK (K := K) rfl) (pv 2) (pe_callN C__law_draw hr rfl passN (pa_cons (pv 0) (pa_cons (pv 1) (pa_cons (pe_callB (call_lenK (K := K) rfl) rfl B.len PySem.boot_len (pa_cons (pv 2) pa_nil)) pa_nil)))) (fun _ _ => rfl)))), ?_⟩
  refine ⟨_, rfl, _, rfl, _, rfl, _, rfl, s', xs, rfl, .inl (SqL.of (wo_le t H _ _ hx)), a, t, _, n, rfl, by omega, hs, ht, hn, fun r H' r1 r2 s2 t2 => ?_⟩
  obtain ⟨j, rfl⟩ : ∃ j : Nat, r = j := ⟨r.toNat, by omega⟩
  have hj : j < xs.length := by omega
  exact ⟨s', xs, _, xs[j], rfl, rfl, SqL.of (wo_le t H' _ _ (s2 _ _ hx)), atI_nat (j := j) (by simp [hj]), q _ _ (List.getElem_mem hj) s2 t2⟩
theorem sc__law_values : FnScope ["_law_script", "_law_town", "_law_long", "_law_wide", "_law_made", "_law_worth"] ["_law_script", "_law_town", "_law_long", "_law_wide"] (defScope s__law_values) := ⟨rfl, rfl, rfl, by decide +kernel, rfl, by decide +kernel, by decide +kernel⟩
theorem ok__law_values (D : Dfn K mg "_law_values" s__law_values cd) (B : Blt mg) (C__law_draw : Cal P w K mg base "_law_draw" 3 ["_law_script", "_law_town", "_law_many"] (sp_draw K)) : Cal P w K mg base "_law_values" 4 ["_law_script", "_law_town", "_law_long", "_law_wide"] (sp_vals K) := by
  refine D.calN (k := 3) sc__law_values (fun vs H Q E h => ?_) (fun _ _ _ _ _ _ us hl => match us, hl with | [_, _, _, _], _ => rfl) (fun f A outer s H vs Q E hr h => ?_)
  · obtain ⟨a, t, m, w, n, rfl, _⟩ := h
    rfl
  obtain ⟨a, t, m, wd, n, rfl, m1, m2, w1, w2, sc, T0, hn, q⟩ := h
  refine ⟨_, (pss_cons (ps_set (i := 4) sc__law_values.nd rfl (by first | exact Or.inl rfl | exact Or.inr rfl) (pe_lst pa_nil))
      (pss_cons (ps_while PassesOwn.never (pt_cmpR op_lt (pe_callB (call_lenK (K := K) rfl) rfl B.len PySem.boot_len (pa_cons (pv 4) pa_nil)) (pv 2) (nomark _)) (pss_cons (ps_set (i := 5) sc__law_values.nd rfl (by first | exact Or.inl rfl | exact Or.inr rfl) (pe_op op_sub (pe_callN C__law_draw hr rfl passN (pa_cons (pv 0) (pa_cons (pv 1) (pa_cons (pe_op op_add (pe_op op_mul pe_int (pv 3)) pe_int) pa_nil)))) (pv 3)))
      (pss_one (ps_set (i := 4) sc__law_values.nd rfl (by first | exact Or.inl rfl | exact Or.inr rfl) (pe_op op_cat (pv 4) (pe_op op_rep (pe_lst (pa_cons (pv 5) pa_nil)) (pe_op op_add pe_int (pe_callN C__law_draw hr rfl passN (pa_cons (pv 0) (pa_cons (pv 1) (pa_cons pe_int pa_nil)))))))))))
      (pss_one (ps_ret (pe_slice (sl_listK (K := K) rfl) (pv 4) po_none (po_some (pv 2))))))), ?_⟩
  refine ⟨by show 0 ≤ sizeLine; decide, fun l hl => ?_⟩
  obtain ⟨s1, n1, T1⟩ := al (.lst []) T0 hl
  refine ⟨fun k σ H2 => ∃ l2 u5 xs, σ = [some (.ref a), some (.ref t), some (.int m), some (.int wd), some (.ref l2), u5] ∧ Same (wo t H) (wo t H2) ∧ Town t (n + 2 * (60 - k)) H2 ∧ wo t H l2 = none ∧ wo t H2 l2 = some (.lst (xs.map V.int)) ∧ (∀ x ∈ xs, -wd ≤ x ∧ x ≤ wd) ∧ 60 ≤ k + xs.length ∧ k ≤ 60 ∧ xs.length ≤ 1000,
    ⟨60, l, none, [], rfl, s1, T1.mono (by omega), wo_none hl, n1, fun x hx => absurd hx (by simp), by simp, Nat.le_refl _, by simp⟩, ?_⟩
  rintro k σ H2 ⟨l2, u5, xs, rfl, s2, T2, hl0, hl2, ok, hk, hk2, hx⟩
  have el : (xs.map V.int).length = xs.length := List.length_map _
  refine ⟨_, rfl, l2, _, rfl, .inl (SqL.of (wo_at hl2).2), _, rfl, _, _, rfl, rfl, _, rfl, ?_⟩
  rw [el]
  refine ite_b (fun c => ?_) fun c => ?_
  · have c : ((xs.length : Nat) : Int) < m := of_decide_eq_true c
    obtain ⟨k, rfl⟩ : ∃ j, k = j + 1 := ⟨k - 1, by omega⟩
    refine ⟨_, fun σ' H' h => h, ?_⟩
    refine ⟨_, rfl, _, rfl, _, rfl, _, _, rfl, rfl, .inl (by decide), _, _, rfl, rfl, a, t, 2 * wd + 1, _, rfl, by omega, sc.same s2, T2, by omega, fun d H3 d1 d2 s3 T3 => ⟨_, rfl, _, _, rfl, rfl, ?_⟩⟩
    have hl3 := s3 _ _ hl2
    have S3 := s2.trans s3
    refine ⟨_, rfl, _, rfl, by show 1 ≤ sizeLine; decide, fun p hp => ?_⟩
    obtain ⟨s4, n4, T4⟩ := al (.lst [.int (d - wd)]) T3 hp
    have S4 := S3.trans s4
    refine ⟨_, rfl, _, rfl, a, t, 4, _, rfl, by decide, sc.same S4, T4, by omega, fun e H5 e1 e2 s5 T5 => ⟨_, _, rfl, rfl, ?_⟩⟩
    have S5 := S4.trans s5
    have n5 := s5 _ _ n4
    refine ⟨p, _, _, rfl, rfl, (wo_at n5).2, by omega, by omega, ?_, fun p2 hp2 => ?_⟩
    · show 1 * (1 + e).toNat ≤ sizeLine
      exact small (by omega)
    obtain ⟨s6, n6, T6⟩ := al (.lst (List.replicate (1 + e).toNat [V.int (d - wd)]).flatten) T5 hp2
    have ef : (List.replicate (1 + e).toNat [V.int (d - wd)]).flatten = (List.replicate (1 + e).toNat (d - wd)).map V.int := by
      rw [List.map_replicate]
      induction (1 + e).toNat with
      | zero => rfl
      | succ j ih => rw [List.replicate_succ, List.flatten_cons, ih, List.replicate_succ]; rfl
    have n6' : wo t (upd H5 p2 (.lst (List.replicate (1 + e).toNat [V.int (d - wd)]).flatten)) p2 = some (.lst ((List.replicate (1 + e).toNat (d - wd)).map V.int)) := by rw [n6, ef]
    have hl6 := s6 _ _ (s5 _ _ (s4 _ _ hl3))
    have S6 := S5.trans s6
    refine ⟨l2, p2, _, _, rfl, rfl, (wo_at hl6).2, (wo_at n6').2, ?_, fun p3 hp3 => ?_⟩
    · rw [List.length_map, List.length_map, List.length_replicate]
      exact small (by omega)
    obtain ⟨s7, n7, T7⟩ := al (.lst (xs.map V.int ++ (List.replicate (1 + e).toNat (d - wd)).map V.int)) T6 hp3
    refine ⟨k, by omega, p3, _, xs ++ List.replicate (1 + e).toNat (d - wd), rfl, S6.trans s7, T7.mono (by omega), none_of S6 (wo_none hp3), by rw [n7, List.map_append], fun x hx => ?_, ?_, by omega, ?_⟩
    · rcases List.mem_append.mp hx with z | z
      · exact ok x z
      · obtain ⟨_, rfl⟩ := List.mem_replicate.mp z
        omega
    · rw [List.length_append, List.length_replicate]; omega
    · rw [List.length_append, List.length_replicate]; omega
  · have c : ¬ ((xs.length : Nat) : Int) < m := of_decide_eq_false c
    obtain ⟨m, rfl⟩ : ∃ k : Nat, m = k := ⟨m.toNat, by omega⟩
    refine ⟨_, rfl, _, rfl, _, rfl, l2, _, rfl, SqL.of (wo_at hl2).2, fun p hp => ?_⟩
    have ec : cutV (xs.map V.int) none (some ((m : Nat) : Int)) = (xs.take m).map V.int := by
      unfold cutV
      have e1 : HT.sIx (xs.map V.int).length 0 none = 0 := rfl
      have e2 : HT.sIx (xs.map V.int).length (xs.map V.int).length (some (m : Nat)) = m := by
        simp only [HT.sIx]
        rw [if_neg (by omega)]
        omega
      rw [e1, e2, List.drop_zero, Nat.sub_zero, List.map_take]
    rw [ec]
    obtain ⟨s3, n3, T3⟩ := al (.lst ((xs.take m).map V.int)) T2 hp
    exact q p (xs.take m) _ (by rw [List.length_take]; omega) (fun x hx => ok x (List.mem_of_mem_take hx)) (s2.trans s3) (T3.mono (by omega)) (none_of s2 (wo_none hp)) n3
theorem sc__law_of : FnScope ["_law_values_here", "_law_steps", "_law_place", "_law_one"] ["_law_values_here"] (defScope s__law_of) := ⟨rfl, rfl, rfl, by decide +kernel, rfl, by decide +kernel, by decide +kernel⟩
theorem ok__law_of (D : Dfn K mg "_law_of" s__law_of cd) (B : Blt mg) : Cal P w K mg base "_law_of" 1 ["_law_values_here"] sp_line := by
  refine D.calN (k := 0) sc__law_of (fun vs H Q E h => ?_) (fun _ _ _ _ _ _ us hl => match us, hl with | [_], _ => rfl) (fun f A outer s H vs Q E hr h => ?_)
  · obtain ⟨a, xs, rfl, _⟩ := h
    rfl
  obtain ⟨a, xs, rfl, ha, hl, q⟩ := h
  refine ⟨_, (pss_cons (ps_set (i := 1) sc__law_of.nd rfl (by first | exact Or.inl rfl | exact Or.inr rfl) (pe_tup pa_nil))
      (pss_cons (ps_for PassesOwn.never rfl (pi_enumK (K := K) rfl rfl B.enumerate (pa_cons (pv 0) pa_nil)) (pg_tup rfl (pgs_cons (pg_name (i := 2) sc__law_of.nd rfl (by first | exact Or.inl rfl | exact Or.inr rfl)) (pgs_cons (pg_name (i := 3) sc__law_of.nd rfl (by first | exact Or.inl rfl | exact Or.inr rfl)) pgs_nil))) (pss_one (ps_if (PW.pt (pw_or (pt_cmpR (op_eqDK (K := K) hr.units rfl) (pv 1) (pe_tup pa_nil) (nomark _)) (pw_or1 (pt_cmpR op_ne (pe_ix (ix_tupK (K := K) rfl) (pe_ix (ix_tupK (K := K) rfl) (pv 1) (pe_un un_neg pe_int) (fun _ _ => rfl)) pe_int (fun _ _ => rfl)) (pv 3) (nomark _))))) (pss_one (ps_set (i := 1) sc__law_of.nd rfl (by first | exact Or.inl rfl | exact Or.inr rfl) (pe_op op_catT0 (pv 1) (pe_tup (pa_cons (pe_tup (pa_cons (pv 2) (pa_cons (pv 3) pa_nil))) pa_nil))))) pss_nil)))
      (pss_one (ps_ret (pe_tup (pa_cons (pe_callB (call_lenK (K := K) rfl) rfl B.len PySem.boot_len (pa_cons (pv 0) pa_nil)) (pa_cons (pv 1) pa_nil))))))), ?_⟩
  refine ⟨by show 0 ≤ sizeLine; decide, fun p hp => ?_⟩
  have ha1 : (upd H p (.tup [])) a = some (.lst (xs.map V.int)) := Same.new hp _ _ _ ha
  refine ⟨_, rfl, a, _, rfl, SqL.of ha1, for_enum (K := K) (a := a) (xs := xs.map V.int)
    (fun i σ H2 => ∃ p us u v, σ = [some (.ref a), some (.ref p), u, v] ∧ Same H H2 ∧ H2 p = some (.tup us) ∧ Tups H2 us (Ma.steps (xs.take i)))
    ⟨p, [], none, none, rfl, Same.new hp _, upd_same, .nil⟩ (fun i σ H2 ⟨p, us, u, v, _, s2, _⟩ => SqL.of (s2 _ _ ha)) ?_ ?_⟩
  · rintro i x T σ H2 hx ⟨p, us, u, v, rfl, s2, hp2, t2⟩ hT
    obtain ⟨x, ex, rfl⟩ := ints_at hx
    have sT : Same H2 (upd H2 T (.tup [.int (i : Nat), .int x])) := Same.new hT _
    have hp3 := sT _ _ hp2
    have t3 := t2.same sT
    have e1 := Ma.steps_snoc (xs.take i) x
    rw [← Ma.take_snoc ex] at e1
    have il : i < xs.length := (List.getElem?_eq_some_iff.mp ex).1
    have et : (xs.take i).length = i := by rw [List.length_take]; omega
    have sl : us.length ≤ i := by
      have z1 := t2.length
      have z2 := Ma.stepsFrom_len (xs.take i) 0 none
      rw [et] at z2
      have z3 : (Ma.steps (xs.take i)).length ≤ i := z2
      omega
    refine ⟨T, _, rfl, SqT.of upd_same, rfl, _, _, rfl, _, _, rfl, rfl, ?_⟩
    generalize hH3 : upd H2 T (.tup [.int (i : Nat), .int x]) = H3 at sT hp3 t3
    have put : (xs.take i).getLast? ≠ some x → ∀ H4 r q, Same H3 H4 → H4 r = none → (upd H4 r (.tup [.int (i : Nat), .int x])) q = none →
        rCatT0 K (.ref p) (.ref q) (upd (upd H4 r (.tup [.int (i : Nat), .int x])) q (.tup [.ref r])) fun z H5 => ∃ p us' u' v', ([some (.ref a), some z, some (.int (i : Nat)), some (.int x)] : St) = [some (.ref a), some (.ref p), u', v'] ∧ Same H H5 ∧ H5 p = some (.tup us') ∧ Tups H5 us' (Ma.steps (xs.take (i + 1))) := fun c H4 r q s4 hr' hq => by
      have sr := Same.new hr' (.tup [.int (i : Nat), .int x])
      have sq := Same.new hq (.tup [.ref r])
      have S := ((s2.trans sT).trans s4).trans (sr.trans sq)
      have tl : Tups (upd (upd H4 r (.tup [.int (i : Nat), .int x])) q (.tup [.ref r])) (us ++ [.ref r]) (Ma.steps (xs.take (i + 1))) := by
        rw [e1, if_neg c, et]
        exact Tups.snoc (s := (i, x)) (t3.same (s4.trans (sr.trans sq))) (sq _ _ upd_same)
      refine ⟨p, q, us, [.ref r], rfl, rfl, SqT.of ((s4.trans (sr.trans sq)) _ _ hp3), SqT.of upd_same, small (by simp; omega), fun e => ?_, fun _ e => absurd e (by simp), fun _ _ o ho => ?_⟩
      · subst e
        exact ⟨q, _, _, _, rfl, S, upd_same, tl⟩
      · have so := Same.new ho (.tup (us ++ [.ref r]))
        exact ⟨o, _, _, _, rfl, S.trans so, upd_same, tl.same so⟩
    refine ⟨_, rfl, by show 0 ≤ sizeLine; decide, fun z hz => ?_⟩
    have sz := Same.new hz (.tup [])
    refine ⟨.tuple ((Ma.steps (xs.take i)).map Ma.stepD), .tuple [], (Dd.tup (sz _ _ hp3) ((t3.same sz).dd)).p, (Dd.tup upd_same .nil).p, shaped_steps _, by decide +kernel, _, rfl, ?_⟩
    by_cases he : us = []
    · subst he
      have e0 : Ma.steps (xs.take i) = [] := by cases h : Ma.steps (xs.take i) with
        | nil => rfl
        | cons _ _ => rw [h] at t2; cases t2
      rw [e0]
      refine iteT (iteT ⟨_, rfl, _, rfl, _, rfl, by show 2 ≤ sizeLine; decide, fun r hr' => ⟨by show 1 ≤ sizeLine; decide, fun q hq => put ?_ _ r q sz hr' hq⟩⟩)
      rw [← Ma.steps_last, e0]; simp
    · obtain ⟨sl', b, l1, l2, l3⟩ := (t3.same sz).last he
      have l4 : (xs.take i).getLast? = some sl'.2 := by rw [← Ma.steps_last, l1]; rfl
      have hne : PyData.eqv (.tuple ((Ma.steps (xs.take i)).map Ma.stepD)) (.tuple []) = false := by
        cases h : Ma.steps (xs.take i) with
        | nil => rw [h] at l1; cases l1
        | cons _ _ => rfl
      rw [hne]
      refine iteF ⟨_, rfl, _, rfl, p, us, _, _, rfl, rfl, SqT.of (sz _ _ hp3), l2, b, _, _, _, rfl, rfl, SqT.of l3, rfl, _, rfl, rfl, _, rfl, ?_⟩
      rw [dI]
      by_cases c : sl'.2 = x
      · rw [decide_eq_true c]
        refine iteF ⟨p, us, _, _, rfl, (s2.trans sT).trans sz, sz _ _ hp3, ?_⟩
        rw [e1, if_pos (by rw [l4, c]), List.append_nil]
        exact t3.same sz
      · rw [decide_eq_false c]
        refine iteT ⟨_, rfl, _, rfl, _, rfl, by show 2 ≤ sizeLine; decide, fun r hr' => ⟨by show 1 ≤ sizeLine; decide, fun q hq => put ?_ _ r q sz hr' hq⟩⟩
        rw [l4]; intro z; exact c (Option.some.inj z)
  · rintro σ H2 ⟨p, us, u, v, rfl, s2, hp2, t2⟩
    rw [List.length_map, List.take_length] at t2
    refine ⟨_, rfl, a, _, rfl, .inl (SqL.of (s2 _ _ ha)), _, rfl, by show 2 ≤ sizeLine; decide, fun t ht => ?_⟩
    have st := Same.new ht (.tup [.int ((xs.map V.int).length : Nat), .ref p])
    refine q _ _ (s2.trans st) ?_
    have en : (xs.map V.int).length = xs.length := List.length_map _
    have fin : Dd (upd H2 t (.tup [.int ((xs.map V.int).length : Nat), .ref p])) (.ref t) (.tuple [.int ((xs.map V.int).length : Nat), .tuple ((Ma.steps xs).map Ma.stepD)]) :=
      .tup upd_same (.cons (.int _) (.cons (.tup (st _ _ hp2) ((t2.same st).dd)) .nil))
    have ed : Ma.lineD xs = .tuple [.int ((xs.map V.int).length : Nat), .tuple ((Ma.steps xs).map Ma.stepD)] := by rw [en]; rfl
    rw [ed]
    exact fin
theorem sc__law_line : FnScope ["_law_script", "_law_town", "_law_long"] ["_law_script", "_law_town"] (defScope s__law_line) := ⟨rfl, rfl, rfl, by decide +kernel, rfl, by decide +kernel, by decide +kernel⟩
theorem ok__law_line (D : Dfn K mg "_law_line" s__law_line cd) (C__law_draw : Cal P w K mg base "_law_draw" 3 ["_law_script", "_law_town", "_law_many"] (sp_draw K)) (C__law_pick : Cal P w K mg base "_law_pick" 4 ["_law_script", "_law_town", "_law_some"] (sp_pick K)) (C__law_values : Cal P w K mg base "_law_values" 4 ["_law_script", "_law_town", "_law_long", "_law_wide"] (sp_vals K)) : Cal P w K mg base "_law_line" 5 ["_law_script", "_law_town"] (sp_lvals K) := by
  refine D.calN (k := 4) sc__law_line (fun vs H Q E h => ?_) (fun _ _ _ _ _ _ us hl => match us, hl with | [_, _], _ => rfl) (fun f A outer s H vs Q E hr h => ?_)
  · obtain ⟨a, t, n, rfl, _⟩ := h
    rfl
  obtain ⟨a, t, n, rfl, sc, T0, hn, q⟩ := h
  refine ⟨_, (pss_cons (ps_set (i := 2) sc__law_line.nd rfl (by first | exact Or.inl rfl | exact Or.inr rfl) (pe_op op_add pe_int (pe_callN C__law_draw hr rfl passN (pa_cons (pv 0) (pa_cons (pv 1) (pa_cons (pe_callN C__law_pick hr rfl passN (pa_cons (pv 0) (pa_cons (pv 1) (pa_cons (pe_lst (pa_cons pe_int (pa_cons pe_int (pa_cons pe_int (pa_cons pe_int pa_nil))))) pa_nil)))) pa_nil))))))
      (pss_one (ps_ret (pe_callN C__law_values hr rfl passN (pa_cons (pv 0) (pa_cons (pv 1) (pa_cons (pv 2) (pa_cons (pe_callN C__law_pick hr rfl passN (pa_cons (pv 0) (pa_cons (pv 1) (pa_cons (pe_lst (pa_cons pe_int (pa_cons pe_int (pa_cons pe_int (pa_cons pe_int pa_nil))))) pa_nil)))) pa_nil)))))))), ?_⟩
  refine ⟨_, rfl, _, rfl, _, rfl, _, rfl, by show 4 ≤ sizeLine; decide, fun p hp => ?_⟩
  obtain ⟨s1, n1, T1⟩ := al (.lst [.int 3, .int 12, .int 30, .int 60]) T0 hp
  refine ⟨a, t, p, _, n, rfl, by show 0 < 4; decide, n1, sc.same s1, T1, by omega, fun y H2 hy s2 T2 => ?_⟩
  obtain ⟨m', rfl, m3, m4⟩ : ∃ m' : Int, y = .int m' ∧ 0 < m' ∧ m' ≤ 60 := by
    simp only [List.mem_cons, List.not_mem_nil, or_false] at hy
    rcases hy with rfl | rfl | rfl | rfl <;> exact ⟨_, rfl, by decide, by decide⟩
  have S2 := s1.trans s2
  refine ⟨a, t, m', _, rfl, m3, sc.same S2, T2, by omega, fun r H3 r1 r2 s3 T3 => ⟨_, _, rfl, rfl, ?_⟩⟩
  have S3 := S2.trans s3
  refine ⟨_, rfl, _, rfl, _, rfl, _, rfl, _, rfl, by show 4 ≤ sizeLine; decide, fun p4 h4 => ?_⟩
  obtain ⟨s4, n4, T4⟩ := al (.lst [.int 2, .int 9, .int 99, .int 999]) T3 h4
  have S4 := S3.trans s4
  refine ⟨a, t, p4, _, _, rfl, by show 0 < 4; decide, n4, sc.same S4, T4, by omega, fun y H5 hy s5 T5 => ?_⟩
  obtain ⟨wd, rfl, w1, w2⟩ : ∃ m' : Int, y = .int m' ∧ 0 ≤ m' ∧ m' ≤ 999 := by
    simp only [List.mem_cons, List.not_mem_nil, or_false] at hy
    rcases hy with rfl | rfl | rfl | rfl <;> exact ⟨_, rfl, by decide, by decide⟩
  have S5 := S4.trans s5
  refine ⟨a, t, 1 + r, wd, _, rfl, by omega, by omega, w1, w2, sc.same S5, T5, by omega, fun l xs H6 lx ok s6 T6 hl0 hl6 => ?_⟩
  exact q l xs H6 ⟨by omega, by omega, fun x hx => by have := ok x hx; omega⟩ (S5.trans s6) (T6.mono (by omega)) (none_of S5 hl0) hl6
theorem sc__law_which : FnScope ["_law_e", "_law_own"] ["_law_e"] (defScope s__law_which) := ⟨rfl, rfl, rfl, by decide +kernel, rfl, by decide +kernel, by decide +kernel⟩
theorem ok__law_which {c0 c1 c2 c3 c4 c5 c6 c7 c8 c9 c10 c11 : Addr} (D : Dfn K mg "_law_which" s__law_which cd) (B : Blt mg) (K_NoLine : mg "NoLine" = some (.ref c0)) (K_NoRows : mg "NoRows" = some (.ref c1)) (K_NoPlace : mg "NoPlace" = some (.ref c2)) (K_NoValue : mg "NoValue" = some (.ref c3)) (K_NoNumber : mg "NoNumber" = some (.ref c4))
    (K_Unlike : mg "Unlike" = some (.ref c5)) (K_Falls : mg "Falls" = some (.ref c6)) (K_TooGreat : mg "TooGreat" = some (.ref c7)) (K_NoStep : mg "NoStep" = some (.ref c8)) (K_NoDeed : mg "NoDeed" = some (.ref c9)) (K_NoText : mg "NoText" = some (.ref c10)) (K_NoWay : mg "NoWay" = some (.ref c11)) :
    CalH P w K mg base "_law_which" 1 ["_law_e"] (sp_which K [c0, c1, c2, c3, c4, c5, c6, c7, c8, c9, c10, c11]) := by
  refine D.calH (k := 0) sc__law_which (fun vs H Q E h => ?_) (fun _ _ _ _ _ _ us hl => match us, hl with | [_], _ => rfl) (fun f A outer s H vs Q E hr h => ?_)
  · obtain ⟨ea, C, j, rfl, _⟩ := h
    rfl
  obtain ⟨ea, C, j, rfl, he, c, q⟩ := h
  have hj : j < 12 := c.at_.1
  refine ⟨_, (pss_cons (ps_set (i := 1) sc__law_which.nd rfl (by first | exact Or.inl rfl | exact Or.inr rfl) (pe_lst (pa_cons (pe_callB call_isiE rfl B.isinstance boot_isi (pa_cons (pv 0) (pa_cons (pe_glob (v := .ref _) rfl K_NoLine rfl) pa_nil))) (pa_cons (pe_callB call_isiE rfl B.isinstance boot_isi (pa_cons (pv 0) (pa_cons (pe_glob (v := .ref _) rfl K_NoRows rfl) pa_nil))) (pa_cons (pe_callB call_isiE rfl B.isinstance boot_isi (pa_cons (pv 0) (pa_cons (pe_glob (v := .ref _) rfl K_NoPlace rfl) pa_nil))) (pa_cons (pe_callB call_isiE rfl B.isinstance boot_isi (pa_cons (pv 0) (pa_cons (pe_glob (v := .ref _) rfl K_NoValue rfl) pa_nil))) pa_nil))))))
      (pss_cons (ps_expr (pe_bm PySem.F.plainAttrs_list PySem.F.slot_list_extend PySem.F.type_list_extend mt_extend (pv 1) (pa_cons (pe_lst (pa_cons (pe_callB call_isiE rfl B.isinstance boot_isi (pa_cons (pv 0) (pa_cons (pe_glob (v := .ref _) rfl K_NoNumber rfl) pa_nil))) (pa_cons (pe_callB call_isiE rfl B.isinstance boot_isi (pa_cons (pv 0) (pa_cons (pe_glob (v := .ref _) rfl K_Unlike rfl) pa_nil))) (pa_cons (pe_callB call_isiE rfl B.isinstance boot_isi (pa_cons (pv 0) (pa_cons (pe_glob (v := .ref _) rfl K_Falls rfl) pa_nil))) (pa_cons (pe_callB call_isiE rfl B.isinstance boot_isi (pa_cons (pv 0) (pa_cons (pe_glob (v := .ref _) rfl K_TooGreat rfl) pa_nil))) pa_nil))))) pa_nil)))
      (pss_cons (ps_expr (pe_bm PySem.F.plainAttrs_list PySem.F.slot_list_extend PySem.F.type_list_extend mt_extend (pv 1) (pa_cons (pe_lst (pa_cons (pe_callB call_isiE rfl B.isinstance boot_isi (pa_cons (pv 0) (pa_cons (pe_glob (v := .ref _) rfl K_NoStep rfl) pa_nil))) (pa_cons (pe_callB call_isiE rfl B.isinstance boot_isi (pa_cons (pv 0) (pa_cons (pe_glob (v := .ref _) rfl K_NoDeed rfl) pa_nil))) (pa_cons (pe_callB call_isiE rfl B.isinstance boot_isi (pa_cons (pv 0) (pa_cons (pe_glob (v := .ref _) rfl K_NoText rfl) pa_nil))) (pa_cons (pe_callB call_isiE rfl B.isinstance boot_isi (pa_cons (pv 0) (pa_cons (pe_glob (v := .ref _) rfl K_NoWay rfl) pa_nil))) pa_nil))))) pa_nil)))
      (pss_cons (ps_if (PW.pt (pw_or (pt_cmpR op_ne (pe_bm PySem.F.plainAttrs_list PySem.F.slot_list_count PySem.F.type_list_count mt_count_list (pv 1) (pa_cons pe_bl pa_nil)) pe_int (nomark _)) (pw_or1 (pt_not (pt_val (pe_callB call_isiE rfl B.isinstance boot_isi (pa_cons (pv 0) (pa_cons (pe_bltn (v := .ty "ValueError") rfl B.ValueError boot_VE rfl) pa_nil)))))))) (pss_one (ps_ret (pe_tup (pa_cons pe_str (pa_cons (pe_un un_neg pe_int) pa_nil))))) pss_nil)
      (pss_one (ps_ret (pe_tup (pa_cons pe_str (pa_cons (pe_bm PySem.F.plainAttrs_list PySem.F.slot_list_index PySem.F.type_list_index (mt_indexK (K := K) rfl) (pv 1) (pa_cons pe_bl pa_nil)) pa_nil))))))))), ?_⟩
  refine ⟨_, rfl, ea, C, _, _, rfl, .inr ⟨_, rfl⟩, he, c.ex, c.ok 0 c0 rfl, _, rfl, ea, C, _, _, rfl, .inr ⟨_, rfl⟩, he, c.ex, c.ok 1 c1 rfl, _, rfl, ea, C, _, _, rfl, .inr ⟨_, rfl⟩, he, c.ex, c.ok 2 c2 rfl, _, rfl, ea, C, _, _, rfl, .inr ⟨_, rfl⟩, he, c.ex, c.ok 3 c3 rfl, by show 4 ≤ sizeLine; decide, fun p hp => ?_⟩
  have s1 := Same.new hp (.lst [.bl (decide (0 = j)), .bl (decide (1 = j)), .bl (decide (2 = j)), .bl (decide (3 = j))])
  have he1 := s1 _ _ he
  refine ⟨_, rfl, .inl ⟨rfl, _, SqL.of upd_same⟩, _, rfl, ea, C, _, _, rfl, .inr ⟨_, rfl⟩, he1, c.ex, c.ok 4 c4 rfl, _, rfl, ea, C, _, _, rfl, .inr ⟨_, rfl⟩, he1, c.ex, c.ok 5 c5 rfl, _, rfl, ea, C, _, _, rfl, .inr ⟨_, rfl⟩, he1, c.ex, c.ok 6 c6 rfl, _, rfl, ea, C, _, _, rfl, .inr ⟨_, rfl⟩, he1, c.ex, c.ok 7 c7 rfl, by show 4 ≤ sizeLine; decide, fun p2 hp2 => ?_⟩
  have s2 := Same.new hp2 (.lst [.bl (decide (4 = j)), .bl (decide (5 = j)), .bl (decide (6 = j)), .bl (decide (7 = j))])
  refine ⟨p, p2, _, _, rfl, rfl, s2 _ _ upd_same, upd_same, by show 8 ≤ sizeLine; decide, ?_⟩
  have s3 := (s1.trans s2).upd (o := .lst ([.bl (decide (0 = j)), .bl (decide (1 = j)), .bl (decide (2 = j)), .bl (decide (3 = j))] ++ [.bl (decide (4 = j)), .bl (decide (5 = j)), .bl (decide (6 = j)), .bl (decide (7 = j))])) hp
  have he3 := s3 _ _ he
  refine ⟨_, rfl, .inl ⟨rfl, _, SqL.of upd_same⟩, _, rfl, ea, C, _, _, rfl, .inr ⟨_, rfl⟩, he3, c.ex, c.ok 8 c8 rfl, _, rfl, ea, C, _, _, rfl, .inr ⟨_, rfl⟩, he3, c.ex, c.ok 9 c9 rfl, _, rfl, ea, C, _, _, rfl, .inr ⟨_, rfl⟩, he3, c.ex, c.ok 10 c10 rfl, _, rfl, ea, C, _, _, rfl, .inr ⟨_, rfl⟩, he3, c.ex, c.ok 11 c11 rfl, by show 4 ≤ sizeLine; decide, fun p4 hp4 => ?_⟩
  have s4 := Same.new hp4 (.lst [.bl (decide (8 = j)), .bl (decide (9 = j)), .bl (decide (10 = j)), .bl (decide (11 = j))])
  refine ⟨p, p4, _, _, rfl, rfl, s4 _ _ upd_same, upd_same, by show 12 ≤ sizeLine; decide, ?_⟩
  have s5 := (s3.trans s4).upd (o := .lst (own12 j)) hp
  have he5 := s5 _ _ he
  refine ⟨_, rfl, .inl ⟨rfl, _, SqL.of upd_same⟩, p, own12 j, _, rfl, rfl, SqL.of upd_same, rfl, own12_flat j, rfl, _, rfl, ?_⟩
  rw [own12_count hj]
  refine iteF ⟨_, rfl, ea, C, _, _, rfl, .inl rfl, he5, c.ex, c.ve, _, rfl, iteF ?_⟩
  refine ⟨_, rfl, .inl ⟨rfl, _, SqL.of upd_same⟩, p, own12 j, _, j, _, rfl, rfl, SqL.of upd_same, rfl, own12_flat j, own12_at hj, rfl, fun m z hm e => own12_not hj hm e, by show 2 ≤ sizeLine; decide, fun t ht => ?_⟩
  have s6 := Same.new ht (.tup [.str "refused", .int (j : Nat)])
  exact q _ _ (s5.trans s6) (.tup upd_same (.cons (.str _) (.cons (.int _) .nil)))
end
end Lw
set_option Elab.async false
set_option linter.all false
set_option maxRecDepth 100000
set_option maxHeartbeats 4000000
namespace Lw
open PySem L2
section
variable {P : Program} {w : World} {K : PySem.W.Frag} {mg : Str → Option Value} {base : Heap} {cd : Value}
theorem sc_need_number : FnScope ["thing", "least", "greatest"] ["thing", "least", "greatest"] (defScope s_need_number) := ⟨rfl, rfl, rfl, by decide +kernel, rfl, by decide +kernel, by decide +kernel⟩
theorem ok_need_number {C : Addr} (D : Dfn K mg "need_number" s_need_number cd) (X_NoNumber : PySem.W.excIn K C [.type "ValueError", .type "Exception", .type "BaseException", .type "object"] "ValueError.__new__" = true) (K_NoNumber : mg "NoNumber" = some (.ref C))
    (C_is_whole : Cal P w K mg base "is_whole" 1 ["thing", "least", "greatest"] sp_whole) : Cal P w K mg base "need_number" 2 ["thing", "least", "greatest"] (sp_number C) := by
  refine D.calM (k := 1) sc_need_number (fun vs H Q E h => ?_) (fun _ _ _ _ _ _ us hl => match us, hl with | [_, _, _], _ => rfl) (fun f A outer s H vs Q E hr h => ?_)
  · obtain ⟨v, d, lo, hi, rfl, _⟩ := h
    rfl
  obtain ⟨v, d, lo, hi, rfl, hd, l1, l2, q1, q2⟩ := h
  refine ⟨_, (pss_one (ps_if (pt_not (pt_val (pe_callN C_is_whole hr rfl passesDef (pa_cons (pv 0) (pa_cons (pv 1) (pa_cons (pv 2) pa_nil)))))) (pss_one (ps_raise rfl PySem.F.excBase_ValueError rfl X_NoNumber rfl K_NoNumber (pa_cons (pe_f2 (pv 1) (pv 2)) pa_nil))) pss_nil)), ?_⟩
  refine ⟨_, rfl, _, rfl, _, rfl, v, d, lo, hi, rfl, hd, _, rfl, ?_⟩
  cases c : Ma.isWhole lo hi d with
  | true => exact iteF (q1 c)
  | false => exact iteT ⟨by decide, _, rfl, lo, rfl, l1, _, rfl, hi, rfl, l2, fun z => ⟨by show 1 ≤ sizeLine; decide, q2 c⟩⟩
theorem sc_fitted : FnScope ["values", "worth"] ["values"] (defScope s_fitted) := ⟨rfl, rfl, rfl, by decide +kernel, rfl, by decide +kernel, by decide +kernel⟩
theorem ok_fitted {g : Gd} {CT : Addr} {t : Tok} {c Pt : Addr} (D : Dfn K mg "fitted" s_fitted (.ref c)) (B : Blt mg) (CK : CodeK K c Pt) (hPt : Pt ∈ g.Ts) (BK : BmK mg g.bm g.ob) (M_MOST_PLACES : mg "MOST_PLACES" = some (.int 60 t))
    (X_TooGreat : PySem.W.excIn K CT [.type "ValueError", .type "Exception", .type "BaseException", .type "object"] "ValueError.__new__" = true) (K_TooGreat : mg "TooGreat" = some (.ref CT))
    (C_is_value : Cal P w K mg base "is_value" 2 ["thing"] (sp_b1 Ma.isValue)) (C_line_of : Cal P w K mg base "line_of" 2 ["values"] (sp_lineG g)) : Cal P w K mg base "fitted" 5 ["values"] (sp_fitted g CT) := by
  refine D.calM (k := 4) sc_fitted (fun vs H Q E h => ?_) (fun _ _ _ _ _ _ us hl => match us, hl with | [_], _ => rfl) (fun f A outer s H vs Q E hr h => ?_)
  · obtain ⟨a, xs, rfl, _⟩ := h
    rfl
  obtain ⟨a, xs, rfl, ha, hl, G, q⟩ := h
  have q0 := q H (Same.refl H)
  refine ⟨_, (pss_cons (ps_if (pt_cmpR op_gt (pe_callB (call_lenK (K := K) rfl) rfl B.len PySem.boot_len (pa_cons (pv 0) pa_nil)) (pe_glob (v := .int 60) rfl M_MOST_PLACES ⟨_, rfl⟩) (nomark _)) (pss_one (ps_raise rfl PySem.F.excBase_ValueError rfl X_TooGreat rfl K_TooGreat (pa_cons pe_str pa_nil))) pss_nil)
      (pss_cons (ps_if (pt_not (pt_val (pe_allg (own := [("worth", 1)]) rfl sc_fitted.nd hr rfl B.all (pi_listK (K := K) rfl (pv 0)) (blkOk_by (N := ["values", "worth"]) (sc := defScope s_fitted) (by decide +kernel)) rfl (by decide +kernel) rfl rfl CK BK (fun _ _ _ _ _ _ _ => (pg_name (i := 1) sc_fitted.nd rfl (by first | exact Or.inl rfl | exact Or.inr rfl))) (fun _ _ _ _ _ _ _ hr' => (pe_callN C_is_value hr' rfl passN (pa_cons (pv 1) pa_nil)))))) (pss_one (ps_raise rfl PySem.F.excBase_ValueError rfl X_TooGreat rfl K_TooGreat (pa_cons pe_str pa_nil))) pss_nil)
      (pss_one (ps_ret (pe_callN C_line_of hr rfl passesDef (pa_cons (pv 0) pa_nil)))))), ?_⟩
  refine ⟨_, rfl, a, _, rfl, .inl (SqL.of ha), _, _, rfl, rfl, _, rfl, ?_⟩
  have el : (xs.map V.int).length = xs.length := List.length_map _
  by_cases h60 : xs.length ≤ 60
  rotate_left
  · rw [decide_eq_true (show (60 : Int) < (((xs.map V.int).length : Nat) : Int) by omega)]
    exact iteT ⟨by show 1 ≤ sizeLine; decide, q0.2 (by simp [Ma.fits, h60])⟩
  rw [decide_eq_false (show ¬ (60 : Int) < (((xs.map V.int).length : Nat) : Int) by omega)]
  refine iteF ⟨_, rfl, a, rfl, ⟨_, SqL.of ha⟩, G.tabs Pt hPt, G.bm, xs.length, fun i H' => H' = H ∧ (xs.take i).all (fun x => Ma.isValue (.int x)) = true, ⟨rfl, rfl⟩, ?_, ?_⟩
  · rintro i H' hi ⟨rfl, hall⟩
    refine ⟨⟨_, .int xs[i], SqL.of ha, by simp [hi]⟩, ?_⟩
    rintro y H2 ⟨rfl, hy⟩
    obtain ⟨x, ex, rfl⟩ := ints_at (hy _ (SqL.of ha))
    refine ⟨rfl, _, rfl, .int x, .int x, rfl, .int x, _, rfl, ite_b (fun c => ⟨rfl, ?_⟩) fun c => ⟨_, rfl, iteT ⟨by show 1 ≤ sizeLine; decide, q0.2 ?_⟩⟩⟩
    · rw [Ma.take_snoc ex, List.all_append, hall]
      simp [c]
    · have : xs.all (fun x => Ma.isValue (.int x)) = false := List.all_eq_false.mpr ⟨x, List.mem_of_getElem? ex, by simp [c]⟩
      simp only [Ma.fits, this, Bool.and_false]
  · rintro H' ⟨rfl, hall⟩
    refine ⟨⟨_, SqL.of ha, by rw [el]; exact Nat.le_refl _⟩, _, rfl, iteF ?_⟩
    rw [List.take_length] at hall
    refine ⟨_, rfl, a, xs, rfl, ha, hl, G, fun v H2 s2 dv => (q H2 s2).1 ?_ v dv⟩
    simp only [Ma.fits, decide_eq_true h60, hall, Bool.and_self]
theorem sc_sums : FnScope ["line", "totals", "so_far", "worth"] ["line"] (defScope s_sums) := ⟨rfl, rfl, rfl, by decide +kernel, rfl, by decide +kernel, by decide +kernel⟩
theorem ok_sums {g : Gd} {CL CT : Addr} (D : Dfn K mg "sums" s_sums cd) (C_plain : Cal P w K mg base "plain" 8 ["line"] (sp_plain g CL)) (C_fitted : Cal P w K mg base "fitted" 5 ["values"] (sp_fitted g CT)) : Cal P w K mg base "sums" 9 ["line"] (sp_un g CL (RFit CT Ma.sumsV)) := by
  refine D.calM (k := 8) sc_sums (fun vs H Q E h => ?_) (fun _ _ _ _ _ _ us hl => match us, hl with | [_], _ => rfl) (fun f A outer s H vs Q E hr h => ?_)
  · obtain ⟨v, d, rfl, _⟩ := h
    rfl
  obtain ⟨v, d, rfl, hd, G, h⟩ := h
  refine ⟨_, (pss_cons (ps_set (i := 1) sc_sums.nd rfl (by first | exact Or.inl rfl | exact Or.inr rfl) (pe_lst pa_nil))
      (pss_cons (ps_set (i := 2) sc_sums.nd rfl (by first | exact Or.inl rfl | exact Or.inr rfl) pe_int)
      (pss_cons (ps_forI rfl (pi_listK (K := K) rfl (pe_callN C_plain hr rfl passesDef (pa_cons (pv 0) pa_nil))) (pg_name (i := 3) sc_sums.nd rfl (by first | exact Or.inl rfl | exact Or.inr rfl)) (pss_cons (ps_aug (i := 2) sc_sums.nd rfl (by first | exact Or.inl rfl | exact Or.inr rfl) (pv 3) iop_add)
      (pss_one (ps_expr (pe_bm PySem.F.plainAttrs_list PySem.F.slot_list_append PySem.F.type_list_append mt_append (pv 1) (pa_cons (pv 2) pa_nil))))))
      (pss_one (ps_ret (pe_callN C_fitted hr rfl passesDef (pa_cons (pv 1) pa_nil))))))), ?_⟩
  refine ⟨by show 0 ≤ sizeLine; decide, fun l hl => ?_⟩
  have s0 := Same.new hl (.lst [])
  refine ⟨_, rfl, v, d, rfl, hd.same s0, G.same s0, h.imp (fun ⟨c, e⟩ => ⟨c, fun H' s => e H' (s0.trans s)⟩) fun ⟨xs, ok, ed, q⟩ => ⟨xs, ok, ed, fun p H1 s1 _ hp => ?_⟩⟩
  have len := ok.len
  have S1 := s0.trans s1
  refine ⟨p, rfl, ⟨_, SqL.of hp⟩, for_list (K := K) (a := p) (xs := xs.map V.int)
    (fun i σ H2 => ∃ u, σ = [some v, some (.ref l), some (.int (xs.take i).sum), u] ∧ Same H H2 ∧ H2 p = some (.lst (xs.map V.int)) ∧ H2 l = some (.lst (((Ma.sumsV xs).take i).map V.int)))
    ⟨none, rfl, S1, hp, s1 _ _ upd_same⟩ (fun i σ H2 _ ⟨u, _, _, h2, _⟩ => SqL.of h2) ?_ ?_⟩
  · rintro i x σ H2 hx ⟨u, rfl, s2, hp2, hl2⟩
    obtain ⟨x, ex, rfl⟩ := ints_at hx
    have il : i < xs.length := (List.getElem?_eq_some_iff.mp ex).1
    refine ⟨_, rfl, _, rfl, _, _, rfl, rfl, _, rfl, .inl ⟨rfl, _, SqL.of hl2⟩, _, rfl, l, _, _, rfl, rfl, hl2, ?_, ?_⟩
    · rw [List.length_map, List.length_take]
      exact Nat.lt_of_le_of_lt (Nat.min_le_left _ _) (Nat.lt_of_lt_of_le (show i < 60 by omega) (by decide))
    · have pl : p ≠ l := fun z => by
        have a := hp
        rw [z, s1 _ _ upd_same] at a
        have a : ([] : List V) = xs.map V.int := by injection a with a; injection a
        have b := ok.pos
        cases xs with
        | nil => simp at b
        | cons _ _ => cases a
      refine ⟨some (.int x), ?_, s2.upd hl, by rw [upd_ne pl]; exact hp2, ?_⟩
      · rw [Ma.take_snoc ex, List.sum_append, List.sum_singleton]; rfl
      · rw [upd_same, List.take_add_one, Ma.sumsV_at il, List.map_append, Ma.take_snoc ex, List.sum_append, List.sum_singleton]; rfl
  · rintro σ H2 ⟨u, rfl, s2, hp2, hl2⟩
    rw [List.length_map, ← Ma.sumsV_len xs, List.take_length] at hl2
    refine ⟨_, rfl, l, _, rfl, hl2, by rw [Ma.sumsV_len]; omega, G.same s2, fun H3 s3 => q H3 (s2.trans s3)⟩
theorem sc_rises : FnScope ["values", "ahead", "worth"] ["values"] (defScope s_rises) := ⟨rfl, rfl, rfl, by decide +kernel, rfl, by decide +kernel, by decide +kernel⟩
theorem ok_rises (D : Dfn K mg "rises" s_rises cd) (B : Blt mg) : Cal P w K mg base "rises" 1 ["values"] sp_rises := by
  refine D.calN (k := 0) sc_rises (fun vs H Q E h => ?_) (fun _ _ _ _ _ _ us hl => match us, hl with | [_], _ => rfl) (fun f A outer s H vs Q E hr h => ?_)
  · obtain ⟨a, xs, rfl, _⟩ := h
    rfl
  obtain ⟨a, xs, rfl, ha, hl, h1, q⟩ := h
  refine ⟨_, (pss_one (ps_ret (pe_lc (own := [("ahead", 1), ("worth", 2)]) (g := (gTup K 2 (gCons (gName 1) (gCons (gName 2) gNil)))) rfl sc_rises.nd (piS_zipK (K := K) rfl (b1 := true) (b2 := true) rfl B.zip (pa_cons (pv 0) (pa_cons (pe_slice (sl_listK (K := K) rfl) (pv 0) (po_some pe_int) po_none) pa_nil))) (blkOk_by (N := ["values", "ahead", "worth"]) (sc := defScope s_rises) (by decide +kernel)) (fun _ _ _ _ _ => (pg_tup rfl (pgs_cons (pg_name (i := 1) sc_rises.nd rfl (by first | exact Or.inl rfl | exact Or.inr rfl)) (pgs_cons (pg_name (i := 2) sc_rises.nd rfl (by first | exact Or.inl rfl | exact Or.inr rfl)) pgs_nil)))) (fun _ _ _ _ _ => pts_nil) (fun _ _ _ _ _ => (pe_op op_sub (pv 2) (pv 1)))))), ?_⟩
  have el : (xs.map V.int).length = xs.length := List.length_map _
  refine ⟨_, rfl, _, rfl, _, rfl, a, _, rfl, SqL.of ha, fun p hp => ?_⟩
  rw [cut1 (by omega)]
  have s1 := Same.new hp (.lst ((xs.map V.int).drop 1))
  refine ⟨a, p, _, _, rfl, SqL.of (s1 _ _ ha), SqL.of upd_same, fun Dl hD => ?_⟩
  refine lcZ (K := K) ((Ma.risesV xs).map fun x => some (V.int x)) (s1 _ _ ha) upd_same ?_ (by omega) hD ?_ ?_
  · rw [List.length_map, List.length_map, List.length_drop, List.length_map]; unfold Ma.risesV; rw [List.length_zipWith, List.length_drop]
  · intro i x z o T H2 Q' Q2 hx hz ho s2 hT q1 q2
    obtain ⟨x, ex, rfl⟩ := ints_at hx
    rw [← List.map_drop] at hz
    obtain ⟨z, ez, rfl⟩ := ints_at hz
    refine ⟨T, _, rfl, SqT.of hT, rfl, _, _, rfl, _, _, rfl, rfl, rfl, tYesT ⟨_, rfl, _, rfl, _, _, rfl, rfl, q1 _ ?_ _ (Same.refl _)⟩⟩
    rw [List.getElem?_map] at ho
    unfold Ma.risesV at ho
    rw [List.getElem?_zipWith, ex, ez] at ho
    exact (Option.some.inj ho).symm
  · intro H2 s2 hD2
    rw [fm_some] at hD2
    exact q _ H2 (s1.trans s2) (none_of s1 hD) hD2
theorem sc_gains : FnScope ["line", "values"] ["line"] (defScope s_gains) := ⟨rfl, rfl, rfl, by decide +kernel, rfl, by decide +kernel, by decide +kernel⟩
theorem ok_gains {g : Gd} {CL CT : Addr} (D : Dfn K mg "gains" s_gains cd) (C_plain : Cal P w K mg base "plain" 8 ["line"] (sp_plain g CL)) (C_fitted : Cal P w K mg base "fitted" 5 ["values"] (sp_fitted g CT)) (C_rises : Cal P w K mg base "rises" 1 ["values"] sp_rises) : Cal P w K mg base "gains" 9 ["line"] (sp_un g CL (RFit CT Ma.gainsV)) := by
  refine D.calM (k := 8) sc_gains (fun vs H Q E h => ?_) (fun _ _ _ _ _ _ us hl => match us, hl with | [_], _ => rfl) (fun f A outer s H vs Q E hr h => ?_)
  · obtain ⟨v, d, rfl, _⟩ := h
    rfl
  obtain ⟨v, d, rfl, hd, G, h⟩ := h
  refine ⟨_, (pss_cons (ps_set (i := 1) sc_gains.nd rfl (by first | exact Or.inl rfl | exact Or.inr rfl) (pe_callN C_plain hr rfl passesDef (pa_cons (pv 0) pa_nil)))
      (pss_one (ps_ret (pe_callN C_fitted hr rfl passesDef (pa_cons (pe_op op_cat (pe_slice (sl_listK (K := K) rfl) (pv 1) po_none (po_some pe_int)) (pe_callN C_rises hr rfl passesDef (pa_cons (pv 1) pa_nil))) pa_nil))))), ?_⟩
  refine ⟨_, rfl, v, d, rfl, hd, G, h.imp (fun ⟨c, e⟩ => ⟨c, e⟩) fun ⟨xs, ok, ed, q⟩ => ⟨xs, ok, ed, fun p H1 s1 _ hp => ?_⟩⟩
  have len := ok.len
  have pos := ok.pos
  have el : (xs.map V.int).length = xs.length := List.length_map _
  refine ⟨_, rfl, _, rfl, p, _, rfl, SqL.of hp, fun p2 hp2 => ?_⟩
  have ec : cutV (xs.map V.int) none (some 1) = (xs.take 1).map V.int := by
    have := cutTo (xs := xs.map V.int) (m := 1) (by omega)
    rw [List.map_take]; exact this
  rw [ec]
  have s2 := Same.new hp2 (.lst ((xs.take 1).map V.int))
  refine ⟨_, rfl, p, xs, rfl, s2 _ _ hp, by omega, pos, fun l H3 s3 _ hl => ?_⟩
  have S3 := (s1.trans s2).trans s3
  have lr : (Ma.risesV xs).length ≤ 60 := by unfold Ma.risesV; rw [List.length_zipWith]; omega
  refine ⟨p2, l, _, _, rfl, rfl, s3 _ _ upd_same, hl, by rw [List.length_map, List.length_map, List.length_take]; exact small (by omega), fun p4 hp4 => ?_⟩
  have s4 := Same.new hp4 (.lst ((xs.take 1).map V.int ++ (Ma.risesV xs).map V.int))
  have S4 := S3.trans s4
  have eg : (xs.take 1).map V.int ++ (Ma.risesV xs).map V.int = (Ma.gainsV xs).map V.int := by rw [← List.map_append, Ma.gainsV_rises (by intro z; rw [z] at pos; simp at pos)]
  refine ⟨p4, Ma.gainsV xs, rfl, by rw [upd_same, eg], by rw [Ma.gainsV_len]; omega, G.same S4, fun H5 s5 => q H5 (S4.trans s5)⟩
theorem sc_shifted : FnScope ["line", "many", "values"] ["line", "many"] (defScope s_shifted) := ⟨rfl, rfl, rfl, by decide +kernel, rfl, by decide +kernel, by decide +kernel⟩
theorem ok_shifted {g : Gd} {CL CN : Addr} {t : Tok} (D : Dfn K mg "shifted" s_shifted cd) (B : Blt mg) (M_MOST_PLACES : mg "MOST_PLACES" = some (.int 60 t)) (C_need_line : Cal P w K mg base "need_line" 7 ["thing"] (sp_need g Ma.isLine CL)) (C_need_number : Cal P w K mg base "need_number" 2 ["thing", "least", "greatest"] (sp_number CN))
    (C_plain : Cal P w K mg base "plain" 8 ["line"] (sp_plain g CL)) (C_line_of : Cal P w K mg base "line_of" 2 ["values"] (sp_lineG g)) : Cal P w K mg base "shifted" 9 ["line", "many"] (sp_un2 g CL (RNum CN (fun _ => 0) (fun _ => 60) fun m xs => Ma.lineD (Ma.shiftV m xs))) := by
  refine D.calM (k := 8) sc_shifted (fun vs H Q E h => ?_) (fun _ _ _ _ _ _ us hl => match us, hl with | [_, _], _ => rfl) (fun f A outer s H vs Q E hr h => ?_)
  · obtain ⟨v, u, d, e, rfl, _⟩ := h
    rfl
  obtain ⟨v, u, d, e, rfl, hd, he, G, h⟩ := h
  refine ⟨_, (pss_cons (ps_expr (pe_callN C_need_line hr rfl passesDef (pa_cons (pv 0) pa_nil)))
      (pss_cons (ps_expr (pe_callN C_need_number hr rfl passesDef (pa_cons (pv 1) (pa_cons pe_int (pa_cons (pe_glob (v := .int 60) rfl M_MOST_PLACES ⟨_, rfl⟩) pa_nil)))))
      (pss_cons (ps_set (i := 2) sc_shifted.nd rfl (by first | exact Or.inl rfl | exact Or.inr rfl) (pe_callN C_plain hr rfl passesDef (pa_cons (pv 0) pa_nil)))
      (pss_one (ps_ret (pe_callN C_line_of hr rfl passesDef (pa_cons (pe_slice (sl_listK (K := K) rfl) (pe_op op_cat (pe_op op_rep (pe_slice (sl_listK (K := K) rfl) (pv 2) po_none (po_some pe_int)) (pv 1)) (pv 2)) po_none (po_some (pe_callB (call_lenK (K := K) rfl) rfl B.len PySem.boot_len (pa_cons (pv 2) pa_nil)))) pa_nil))))))), ?_⟩
  refine ⟨_, rfl, v, d, rfl, hd, G, fun H1 s1 => ⟨fun c => ?_, fun c => ?_⟩⟩
  rotate_left
  · rcases h with ⟨_, q⟩ | ⟨xs, ok, rfl, _⟩
    · exact q H1 s1
    · rw [Ma.lineD_is ok] at c; cases c
  rcases h with ⟨c', _⟩ | ⟨xs, ok, rfl, q⟩
  · rw [c'] at c; cases c
  refine ⟨_, rfl, u, e, 0, 60, rfl, he.same s1, by decide, by decide, fun c2 => ?_, fun c2 => (q H1 s1).1 c2⟩
  have he1 := he.same s1
  cases he with
  | int m =>
    have c3 := c2
    simp only [Ma.isWhole, Bool.and_eq_true, decide_eq_true_eq] at c3
    obtain ⟨m, rfl⟩ : ∃ k : Nat, m = k := ⟨m.toNat, by omega⟩
    have len := ok.len
    have pos := ok.pos
    have el : (xs.map V.int).length = xs.length := List.length_map _
    refine ⟨_, rfl, v, _, rfl, hd.same s1, G.same s1, .inr ⟨xs, ok, rfl, fun p H2 s2 _ hp => ?_⟩⟩
    refine ⟨_, rfl, _, rfl, p, _, rfl, SqL.of hp, fun p2 hp2 => ?_⟩
    have ec : cutV (xs.map V.int) none (some 1) = (xs.take 1).map V.int := by
      have := cutTo (xs := xs.map V.int) (m := 1) (by omega)
      rw [List.map_take]; exact this
    rw [ec]
    have s3 := Same.new hp2 (.lst ((xs.take 1).map V.int))
    refine ⟨_, rfl, p2, (m : Nat), _, rfl, rfl, upd_same, by omega, by omega, ?_, fun p3 hp3 => ?_⟩
    · rw [List.length_map, List.length_take, Int.toNat_natCast]
      exact small (Nat.le_trans (Nat.mul_le_mul_right m (Nat.min_le_left 1 _)) (by omega))
    have e3 : (List.replicate ((m : Nat) : Int).toNat ((xs.take 1).map V.int)).flatten = ((List.replicate m (xs.take 1)).flatten).map V.int := by
      rw [Int.toNat_natCast, List.map_flatten, List.map_replicate]
    have lr : (List.replicate m (xs.take 1)).flatten.length ≤ 60 := by
      rw [List.length_flatten, List.map_replicate, List.sum_replicate_nat, List.length_take]
      exact Nat.le_trans (Nat.mul_le_mul_left m (Nat.min_le_left 1 _)) (by omega)
    have s4 := Same.new hp3 (.lst (List.replicate ((m : Nat) : Int).toNat ((xs.take 1).map V.int)).flatten)
    refine ⟨_, rfl, p3, p, _, _, rfl, rfl, upd_same, s4 _ _ (s3 _ _ hp), ?_, fun p4 hp4 => ?_⟩
    · rw [e3, List.length_map, List.length_map]; exact small (by omega)
    have s5 := Same.new hp4 (.lst ((List.replicate ((m : Nat) : Int).toNat ((xs.take 1).map V.int)).flatten ++ xs.map V.int))
    have hp5 := s5 _ _ (s4 _ _ (s3 _ _ hp))
    refine ⟨_, rfl, p, _, rfl, .inl (SqL.of hp5), _, rfl, p4, _, rfl, SqL.of upd_same, fun p6 hp6 => ?_⟩
    have e5 : cutV ((List.replicate ((m : Nat) : Int).toNat ((xs.take 1).map V.int)).flatten ++ xs.map V.int) none (some (((xs.map V.int).length : Nat) : Int)) = (Ma.shiftV m xs).map V.int := by
      rw [cutTo (by rw [List.length_append]; omega), e3, ← List.map_append, ← List.map_take, el, Ma.shiftV_prog pos]
    rw [e5]
    have s6 := Same.new hp6 (.lst ((Ma.shiftV m xs).map V.int))
    have S6 := (((s1.trans s2).trans s3).trans s4).trans (s5.trans s6)
    exact ⟨p6, _, rfl, upd_same, by rw [Ma.shiftV_len]; omega, G.same S6, fun r H7 s7 d7 => (q H7 (S6.trans s7)).2 m rfl c2 r d7⟩
  | _ => cases c2
theorem sc_swells : FnScope ["line", "steps", "step"] ["line"] (defScope s_swells) := ⟨rfl, rfl, rfl, by decide +kernel, rfl, by decide +kernel, by decide +kernel⟩
theorem ok_swells {g : Gd} {CL : Addr} (D : Dfn K mg "swells" s_swells cd) (B : Blt mg) (C_plain : Cal P w K mg base "plain" 8 ["line"] (sp_plain g CL)) (C_rises : Cal P w K mg base "rises" 1 ["values"] sp_rises) : Cal P w K mg base "swells" 9 ["line"] (sp_un g CL (RData fun xs => .tuple [.int (Ma.ups xs : Nat), .int (Ma.downs xs : Nat)])) := by
  refine D.calM (k := 8) sc_swells (fun vs H Q E h => ?_) (fun _ _ _ _ _ _ us hl => match us, hl with | [_], _ => rfl) (fun f A outer s H vs Q E hr h => ?_)
  · obtain ⟨v, d, rfl, _⟩ := h
    rfl
  obtain ⟨v, d, rfl, hd, G, h⟩ := h
  refine ⟨_, (pss_cons (ps_set (i := 1) sc_swells.nd rfl (by first | exact Or.inl rfl | exact Or.inr rfl) (pe_callN C_rises hr rfl passesDef (pa_cons (pe_callN C_plain hr rfl passesDef (pa_cons (pv 0) pa_nil)) pa_nil)))
      (pss_one (ps_ret (pe_tup (pa_cons (pe_callB (call_lenK (K := K) rfl) rfl B.len PySem.boot_len (pa_cons (pe_lc (own := [("step", 2)]) (g := (gName 2)) rfl sc_swells.nd (pi_listK (K := K) rfl (pv 1)) (blkOk_by (N := ["line", "steps", "step"]) (sc := defScope s_swells) (by decide +kernel)) (fun _ _ _ _ _ => (pg_name (i := 2) sc_swells.nd rfl (by first | exact Or.inl rfl | exact Or.inr rfl))) (fun _ _ _ _ _ => (pts_one (pt_cmpR op_gt (pv 2) pe_int (nomark _)))) (fun _ _ _ _ _ => (pv 2))) pa_nil)) (pa_cons (pe_callB (call_lenK (K := K) rfl) rfl B.len PySem.boot_len (pa_cons (pe_lc (own := [("step", 2)]) (g := (gName 2)) rfl sc_swells.nd (pi_listK (K := K) rfl (pv 1)) (blkOk_by (N := ["line", "steps", "step"]) (sc := defScope s_swells) (by decide +kernel)) (fun _ _ _ _ _ => (pg_name (i := 2) sc_swells.nd rfl (by first | exact Or.inl rfl | exact Or.inr rfl))) (fun _ _ _ _ _ => (pts_one (pt_cmpR op_lt (pv 2) pe_int (nomark _)))) (fun _ _ _ _ _ => (pv 2))) pa_nil)) pa_nil)))))), ?_⟩
  refine ⟨_, rfl, v, d, rfl, hd, G, h.imp (fun ⟨c, e⟩ => ⟨c, e⟩) fun ⟨xs, ok, ed, q⟩ => ⟨xs, ok, ed, fun p H1 s1 _ hp => ?_⟩⟩
  have len := ok.len
  refine ⟨p, xs, rfl, hp, by omega, ok.pos, fun l H2 s2 _ hl => ?_⟩
  have lr : (Ma.risesV xs).length ≤ 60 := by unfold Ma.risesV; rw [List.length_zipWith]; omega
  refine ⟨_, rfl, l, rfl, ⟨_, SqL.of hl⟩, fun Dl hD => ?_⟩
  refine lcL (K := K) ((Ma.risesV xs).map fun x => if decide (0 < x) = true then some (V.int x) else none) hl (by rw [List.length_map, List.length_map]) (by rw [List.length_map]; omega) hD ?_ ?_
  · intro j x o H8 Q' Q2 hx ho s8 q1 q2
    obtain ⟨x, ex, rfl⟩ := ints_at hx
    rw [List.getElem?_map, ex] at ho
    have ho := Option.some.inj ho
    refine ⟨rfl, _, rfl, _, _, rfl, rfl, _, rfl, ?_⟩
    refine ite_b (fun c => ⟨_, rfl, q1 _ ?_ _ (Same.refl _)⟩) fun c => q2 ?_ _ (Same.refl _)
    · rw [← ho]; exact if_pos c
    · rw [← ho]; exact if_neg (by rw [c]; decide)
  intro H3 s3 hD3
  rw [fm_filter] at hD3
  refine ⟨Dl, _, rfl, .inl (SqL.of hD3), ?_⟩
  refine ⟨_, rfl, l, rfl, ⟨_, SqL.of (s3 _ _ hl)⟩, fun D2 hD2 => ?_⟩
  refine lcL (K := K) ((Ma.risesV xs).map fun x => if decide (x < 0) = true then some (V.int x) else none) (s3 _ _ hl) (by rw [List.length_map, List.length_map]) (by rw [List.length_map]; omega) hD2 ?_ ?_
  · intro j x o H8 Q' Q2 hx ho s8 q1 q2
    obtain ⟨x, ex, rfl⟩ := ints_at hx
    rw [List.getElem?_map, ex] at ho
    have ho := Option.some.inj ho
    refine ⟨rfl, _, rfl, _, _, rfl, rfl, _, rfl, ?_⟩
    refine ite_b (fun c => ⟨_, rfl, q1 _ ?_ _ (Same.refl _)⟩) fun c => q2 ?_ _ (Same.refl _)
    · rw [← ho]; exact if_pos c
    · rw [← ho]; exact if_neg (by rw [c]; decide)
  intro H4 s4 hD4
  rw [fm_filter] at hD4
  refine ⟨D2, _, rfl, .inl (SqL.of hD4), by show 2 ≤ sizeLine; decide, fun t ht => ?_⟩
  refine q _ _ ((((s1.trans s2).trans s3).trans s4).trans (Same.new ht _)) (.tup upd_same (.cons ?_ (.cons ?_ .nil)))
  · rw [show (List.map V.int ((Ma.risesV xs).filter fun x => decide (0 < x))).length = Ma.ups xs from List.length_map _]; exact .int _
  · rw [show (List.map V.int ((Ma.risesV xs).filter fun x => decide (x < 0))).length = Ma.downs xs from List.length_map _]; exact .int _
theorem sc__law_odd : FnScope ["_law_script", "_law_town", "_law_some"] ["_law_script", "_law_town"] (defScope s__law_odd) := ⟨rfl, rfl, rfl, by decide +kernel, rfl, by decide +kernel, by decide +kernel⟩
def dOdd0 : PyData := .list [.none, .int 5, .tuple [], .tuple [.int 0, .tuple []], .tuple [.int 3, .tuple []], .tuple [.int 3, .tuple [.tuple [.int 1, .int 5]]], .tuple [.int 3, .tuple [.tuple [.int 0, .int 5], .tuple [.int 1, .int 5]]], .tuple [.int 3, .tuple [.tuple [.int 0, .int 5], .tuple [.int 3, .int 6]]]]
def dOdd1 : PyData := .list [.tuple [.int 61, .tuple [.tuple [.int 0, .int 1]]], .tuple [.int 3, .tuple [.tuple [.int 0, .int 1000]]], .tuple [.int 3, .list [.tuple [.int 0, .int 5]]], .list [.int 3, .tuple [.tuple [.int 0, .int 5]]], .tuple [.int 3, .tuple [.tuple [.int 0, .bool true]]]]
def dOdd2 : PyData := .list [.tuple [.bool true, .tuple [.tuple [.int 0, .int 5]]], .str "3x5"]
def dOdd3 : PyData := .list [.tuple [.int 3, .tuple [.tuple [.int 0, .int 5], .tuple [.int 2, .int 6], .tuple [.int 1, .int 7]]], .tuple [.int 3, .tuple [.tuple [.int 0, .int 5, .int 6]]]]
theorem oB : defBody s__law_odd = [stK s__law_odd 0, stK s__law_odd 1, stK s__law_odd 2, stK s__law_odd 3] := by kernel_rfl
theorem oS0 : shp1 12 (stK s__law_odd 0) = some (("_law_some" : Str), dOdd0) := by kernel_rfl
theorem oS1 : shp2 12 (stK s__law_odd 1) = some (("_law_some" : Str), ("_law_some" : Str), dOdd1) := by kernel_rfl
theorem oS2 : shp2 12 (stK s__law_odd 2) = some (("_law_some" : Str), ("_law_some" : Str), dOdd2) := by kernel_rfl
theorem oS3 : shp3 12 (stK s__law_odd 3) = some (("_law_pick" : Str), ("_law_script" : Str), ("_law_town" : Str), ("_law_some" : Str), dOdd3) := by kernel_rfl
theorem oP0 {f : Addr} {A : Around} {outer : List Env} {s : Shared} {H : Hp} {E : XK} : PS ((cxOf (CXM P w) P w K mg base ["_law_script", "_law_town", "_law_some"] "_law_odd" (defScope s__law_odd) f cd A outer s H E).nox) (stK s__law_odd 0) (tAsg (tLit dOdd0) (gName 2)) := by
  have h1 : Loc (((cxOf (CXM P w) P w K mg base ["_law_script", "_law_town", "_law_some"] "_law_odd" (defScope s__law_odd) f cd A outer s H E).nox)).env.scope ("_law_some" : Str) := (by first | exact Or.inl rfl | exact Or.inr rfl)
  refine @ps_lit1 ((cxOf (CXM P w) P w K mg base ["_law_script", "_law_town", "_law_some"] "_law_odd" (defScope s__law_odd) f cd A outer s H E).nox) (stK s__law_odd 0) 2 ("_law_some" : Str) dOdd0 12 oS0 ?_ ?_ h1 ?_
  · exact sc__law_odd.nd
  · rfl
  · exact .inr rfl
theorem oP1 {f : Addr} {A : Around} {outer : List Env} {s : Shared} {H : Hp} {E : XK} : PS ((cxOf (CXM P w) P w K mg base ["_law_script", "_law_town", "_law_some"] "_law_odd" (defScope s__law_odd) f cd A outer s H E).nox) (stK s__law_odd 1) (tAsg (tOp rCat (tVar 2) (tLit dOdd1)) (gName 2)) := by
  have h1 : Loc (((cxOf (CXM P w) P w K mg base ["_law_script", "_law_town", "_law_some"] "_law_odd" (defScope s__law_odd) f cd A outer s H E).nox)).env.scope ("_law_some" : Str) := (by first | exact Or.inl rfl | exact Or.inr rfl)
  have h2 : ∀ pos, PE ((cxOf (CXM P w) P w K mg base ["_law_script", "_law_town", "_law_some"] "_law_odd" (defScope s__law_odd) f cd A outer s H E).nox) (.Name ("_law_some" : Str) pos) (tVar 2) := fun pos => pv 2
  refine @ps_lit2 ((cxOf (CXM P w) P w K mg base ["_law_script", "_law_town", "_law_some"] "_law_odd" (defScope s__law_odd) f cd A outer s H E).nox) (stK s__law_odd 1) 2 2 ("_law_some" : Str) ("_law_some" : Str) dOdd1 12 oS1 ?_ ?_ h1 ?_ h2
  · exact sc__law_odd.nd
  · rfl
  · exact .inr rfl
theorem oP2 {f : Addr} {A : Around} {outer : List Env} {s : Shared} {H : Hp} {E : XK} : PS ((cxOf (CXM P w) P w K mg base ["_law_script", "_law_town", "_law_some"] "_law_odd" (defScope s__law_odd) f cd A outer s H E).nox) (stK s__law_odd 2) (tAsg (tOp rCat (tVar 2) (tLit dOdd2)) (gName 2)) := by
  have h1 : Loc (((cxOf (CXM P w) P w K mg base ["_law_script", "_law_town", "_law_some"] "_law_odd" (defScope s__law_odd) f cd A outer s H E).nox)).env.scope ("_law_some" : Str) := (by first | exact Or.inl rfl | exact Or.inr rfl)
  have h2 : ∀ pos, PE ((cxOf (CXM P w) P w K mg base ["_law_script", "_law_town", "_law_some"] "_law_odd" (defScope s__law_odd) f cd A outer s H E).nox) (.Name ("_law_some" : Str) pos) (tVar 2) := fun pos => pv 2
  refine @ps_lit2 ((cxOf (CXM P w) P w K mg base ["_law_script", "_law_town", "_law_some"] "_law_odd" (defScope s__law_odd) f cd A outer s H E).nox) (stK s__law_odd 2) 2 2 ("_law_some" : Str) ("_law_some" : Str) dOdd2 12 oS2 ?_ ?_ h1 ?_ h2
  · exact sc__law_odd.nd
  · rfl
  · exact .inr rfl
theorem oP3 {f : Addr} {A : Around} {outer : List Env} {s : Shared} {H : Hp} {E : XK} (C__law_pick : Cal P w K mg base "_law_pick" 4 ["_law_script", "_law_town", "_law_some"] (sp_pick K)) (hr : Room 4 (A.deeper (PyProof.Rows.envOfC "_law_odd" (defScope s__law_odd) s.heap.objs.size f cd))) : PS ((cxOf (CXM P w) P w K mg base ["_law_script", "_law_town", "_law_some"] "_law_odd" (defScope s__law_odd) f cd A outer s H E).nox) (stK s__law_odd 3) (tRet (tCall (sp_pick K) [] E0 (tCons (tVar 0) (tCons (tVar 1) (tCons (tOp rCat (tVar 2) (tLit dOdd3)) tNil))))) := by
  have h0 : ∀ pos, PE ((cxOf (CXM P w) P w K mg base ["_law_script", "_law_town", "_law_some"] "_law_odd" (defScope s__law_odd) f cd A outer s H E).nox) (.Name ("_law_script" : Str) pos) (tVar 0) := fun pos => pv 0
  have h1 : ∀ pos, PE ((cxOf (CXM P w) P w K mg base ["_law_script", "_law_town", "_law_some"] "_law_odd" (defScope s__law_odd) f cd A outer s H E).nox) (.Name ("_law_town" : Str) pos) (tVar 1) := fun pos => pv 1
  have h2 : ∀ pos, PE ((cxOf (CXM P w) P w K mg base ["_law_script", "_law_town", "_law_some"] "_law_odd" (defScope s__law_odd) f cd A outer s H E).nox) (.Name ("_law_some" : Str) pos) (tVar 2) := fun pos => pv 2
  refine @ps_lit3 ((cxOf (CXM P w) P w K mg base ["_law_script", "_law_town", "_law_some"] "_law_odd" (defScope s__law_odd) f cd A outer s H E).nox) (stK s__law_odd 3) 0 1 2 4 4 ("_law_pick" : Str) ("_law_script" : Str) ("_law_town" : Str) ("_law_some" : Str) dOdd3 ["_law_script", "_law_town", "_law_some"] (sp_pick K) E0 12 oS3 C__law_pick hr ?_ ?_ h0 h1 h2 (by decide) (by decide)
  · rfl
  · exact passN
theorem oAll {f : Addr} {A : Around} {outer : List Env} {s : Shared} {H : Hp} {E : XK} (C__law_pick : Cal P w K mg base "_law_pick" 4 ["_law_script", "_law_town", "_law_some"] (sp_pick K)) (hr : Room 4 (A.deeper (PyProof.Rows.envOfC "_law_odd" (defScope s__law_odd) s.heap.objs.size f cd))) : PSs ((cxOf (CXM P w) P w K mg base ["_law_script", "_law_town", "_law_some"] "_law_odd" (defScope s__law_odd) f cd A outer s H E).nox) (defBody s__law_odd) (tSeq (tAsg (tLit dOdd0) (gName 2)) (tSeq (tAsg (tOp rCat (tVar 2) (tLit dOdd1)) (gName 2)) (tSeq (tAsg (tOp rCat (tVar 2) (tLit dOdd2)) (gName 2)) (tRet (tCall (sp_pick K) [] E0 (tCons (tVar 0) (tCons (tVar 1) (tCons (tOp rCat (tVar 2) (tLit dOdd3)) tNil)))))))) := by
  have b0 := @oP0 P w K mg base cd f A outer s H E
  have b1 := @oP1 P w K mg base cd f A outer s H E
  have b2 := @oP2 P w K mg base cd f A outer s H E
  have b3 := @oP3 P w K mg base cd f A outer s H E C__law_pick hr
  refine @pss_four _ _ _ _ _ _ _ _ _ _ oB ?_ ?_ ?_ ?_ <;> assumption
theorem ok__law_odd (D : Dfn K mg "_law_odd" s__law_odd cd) (C__law_pick : Cal P w K mg base "_law_pick" 4 ["_law_script", "_law_town", "_law_some"] (sp_pick K)) : Cal P w K mg base "_law_odd" 5 ["_law_script", "_law_town"] (sp_odd K) := by
  refine D.calN (k := 4) sc__law_odd (fun vs H Q E h => ?_) (fun _ _ _ _ _ _ us hl => match us, hl with | [_, _], _ => rfl) (fun f A outer s H vs Q E hr h => ?_)
  · obtain ⟨a, t, n, rfl, _⟩ := h
    rfl
  obtain ⟨a, t, n, rfl, sc, T0, hn, q⟩ := h
  refine ⟨_, @oAll P w K mg base cd f A outer s H E C__law_pick hr, ?_⟩
  have step : ∀ {H H' : Hp} {v : V} {ds : List PyData} {n : Nat}, Town t n H → Same H H' → Dd (fresh H H') v (.list ds) → ds.all (fun d => !Ma.isLine d) = true → ∃ l us, v = .ref l ∧ wo t H' l = some (.lst us) ∧ OddL (wo t H') us ∧ us.length = ds.length := fun {H H' v ds n} T s d c => by
    obtain ⟨zs, hz, _⟩ := T
    obtain ⟨l, us, rfl, hl, p⟩ := lst_inv (d.same (fresh_wo hz))
    exact ⟨l, us, rfl, hl, odd_of p c, p.len⟩
  intro v1 H1 s1 d1
  obtain ⟨l1, us1, rfl, hl1, b1, n1⟩ := step T0 s1 d1 (by decide +kernel)
  have T1 := T0.same s1
  refine ⟨_, rfl, ?_⟩
  intro v2 H2 s2 d2
  obtain ⟨l2, us2, rfl, hl2, b2, n2⟩ := step T1 s2 d2 (by decide +kernel)
  have T2 := T1.same s2
  have n1 : us1.length = 8 := n1
  have n2 : us2.length = 5 := n2
  refine ⟨l1, l2, us1, us2, rfl, rfl, (wo_at (wo_same s2 _ _ hl1)).2, (wo_at hl2).2, small (by omega), fun p3 hp3 => ?_⟩
  obtain ⟨s3, e3, T3⟩ := al (.lst (us1 ++ us2)) T2 hp3
  have b3 := ((b1.same (wo_same s2)).app b2).same s3
  have S3 := (wo_same (t := t) (s1.trans s2)).trans s3
  generalize upd H2 p3 (.lst (us1 ++ us2)) = H3 at *
  refine ⟨_, rfl, ?_⟩
  intro v4 H4 s4 d4
  obtain ⟨l4, us4, rfl, hl4, b4, n4⟩ := step T3 s4 d4 (by decide +kernel)
  have T4 := T3.same s4
  have n4 : us4.length = 2 := n4
  refine ⟨p3, l4, _, us4, rfl, rfl, (wo_at (wo_same s4 _ _ e3)).2, (wo_at hl4).2, small (by rw [List.length_append]; omega), fun p5 hp5 => ?_⟩
  obtain ⟨s5, e5, T5⟩ := al (.lst (us1 ++ us2 ++ us4)) T4 hp5
  have b5 := ((b3.same (wo_same s4)).app b4).same s5
  have S5 := (S3.trans (wo_same s4)).trans s5
  generalize upd H4 p5 (.lst (us1 ++ us2 ++ us4)) = H5 at *
  refine ⟨_, rfl, _, rfl, _, rfl, ?_⟩
  intro v6 H6 s6 d6
  obtain ⟨l6, us6, rfl, hl6, b6, n6⟩ := step T5 s6 d6 (by decide +kernel)
  have T6 := T5.same s6
  have n6 : us6.length = 2 := n6
  refine ⟨p5, l6, _, us6, rfl, rfl, (wo_at (wo_same s6 _ _ e5)).2, (wo_at hl6).2, small (by rw [List.length_append, List.length_append]; omega), fun p7 hp7 => ?_⟩
  obtain ⟨s7, e7, T7⟩ := al (.lst (us1 ++ us2 ++ us4 ++ us6)) T6 hp7
  have b7 := ((b5.same (wo_same s6)).app b6).same s7
  have S7 := (S5.trans (wo_same s6)).trans s7
  refine ⟨a, t, p7, _, _, rfl, by rw [List.length_append]; omega, e7, sc.same S7, T7, by omega, fun x Hz hx sz Tz => ?_⟩
  obtain ⟨d, hd, c⟩ := b7 x hx
  exact q x d Hz (S7.trans sz) Tz (hd.same sz) c
end
end Lw
set_option Elab.async false
set_option linter.all false
set_option maxRecDepth 100000
set_option maxHeartbeats 4000000
namespace Lw
open PySem L2
abbrev spSh (g : Gd) (CL CN : Addr) : Sp := sp_un2 g CL (RNum CN (fun _ => 0) (fun _ => 60) fun m xs => Ma.lineD (Ma.shiftV m xs))
abbrev spSw (g : Gd) (CL : Addr) : Sp := sp_un g CL (RData fun xs => .tuple [.int (Ma.ups xs : Nat), .int (Ma.downs xs : Nat)])
def sp_ask (g : Gd) : Sp := fun vs H Q _ => ∃ (i : Nat) (v u : V) (d e : PyData), vs = [.int (i : Nat), v, u] ∧ i < 4 ∧ Dd H v d ∧ Dd H u e ∧ g.On H ∧
  ((Ma.isLine d = false ∧ Rj 0 H Q) ∨ ∃ xs, Ma.OkV xs ∧ d = Ma.lineD xs ∧ ((i = 0 ∧ Ma.isWhole 0 60 e = false ∧ Rj 4 H Q) ∨ (i = 1 ∧ Ma.fits (Ma.sumsV xs) = false ∧ Rj 7 H Q) ∨ (i = 2 ∧ Ma.fits (Ma.gainsV xs) = false ∧ Rj 7 H Q)))
section
variable {P : Program} {w : World} {K : PySem.W.Frag} {mg : Str → Option Value} {base : Heap} {cd : Value} {g : Gd} {LE CL CN CT : Addr} {Cs : List Addr}
theorem sc__law_ask : FnScope ["_law_what", "_law_line_here", "_law_many", "_law_e"] ["_law_what", "_law_line_here", "_law_many"] (defScope s__law_ask) := ⟨rfl, rfl, rfl, by decide +kernel, rfl, by decide +kernel, by decide +kernel⟩
theorem ok__law_ask (D : Dfn K mg "_law_ask" s__law_ask cd) (RL : Rf K LE Cs 0 CL) (RN : Rf K LE Cs 4 CN) (RT : Rf K LE Cs 7 CT) (K_LineError : mg "LineError" = some (.ref LE)) (C__law_which : CalH P w K mg base "_law_which" 1 ["_law_e"] (sp_which K Cs))
    (C_shifted : Cal P w K mg base "shifted" 9 ["line", "many"] (spSh g CL CN)) (C_sums : Cal P w K mg base "sums" 9 ["line"] (sp_un g CL (RFit CT Ma.sumsV))) (C_gains : Cal P w K mg base "gains" 9 ["line"] (sp_un g CL (RFit CT Ma.gainsV))) (C_swells : Cal P w K mg base "swells" 9 ["line"] (spSw g CL)) : Cal P w K mg base "_law_ask" 10 ["_law_what", "_law_line_here", "_law_many"] (sp_ask g) := by
  let Fns : Addr → Sp → Prop := fun f sp => (mg "sums" = some (.ref f) ∧ sp = sp_un g CL (RFit CT Ma.sumsV)) ∨ (mg "gains" = some (.ref f) ∧ sp = sp_un g CL (RFit CT Ma.gainsV)) ∨ (mg "swells" = some (.ref f) ∧ sp = spSw g CL)
  have hFns : ∀ f sp, Fns f sp → ∃ fd ps, FnOk P w K mg base (CXM P w) 9 f fd ps sp ∧ Binds K fd ps [] ∧ PySem.W.keepIn K (.ref f) = true := by
    rintro f sp (⟨m, rfl⟩ | ⟨m, rfl⟩ | ⟨m, rfl⟩)
    · exact fnsOf C_sums m (by decide)
    · exact fnsOf C_gains m (by decide)
    · exact fnsOf C_swells m (by decide)
  refine D.calN (k := 9) sc__law_ask (fun vs H Q E h => ?_) (fun _ _ _ _ _ _ us hl => match us, hl with | [_, _, _], _ => rfl) (fun f A outer s H vs Q E hr h => ?_)
  · obtain ⟨i, v, u, d, e, rfl, _⟩ := h
    rfl
  obtain ⟨i, v, u, d, e, rfl, hi, hd, he, G, h⟩ := h
  refine ⟨_, (pss_one (ps_try (tb := fun Ex => (tRet (tIf (tTest (tOp (rEq) (tVar 0) (tC (.int 0)))) (tCall _ [] Ex (tCons (tVar 1) (tCons (tVar 2) tNil))) (tCallX Fns Ex (tOp (rIxL K) (tLst (tCons (tFn mg "sums") (tCons (tFn mg "gains") (tCons (tFn mg "swells") tNil)))) (tOp (rI0 fun i j => .int (i - j)) (tVar 0) (tC (.int 1)))) (tCons (tVar 1) tNil))))) (i := 3) rfl rfl rfl sc__law_ask.nd rfl rfl rfl K_LineError (fun _ _ _ hp => (pss_one (ps_ret (pe_ifExp (pt_cmpR op_eq (pv 0) pe_int (nomark _)) (pe_callN C_shifted hr rfl hp (pa_cons (pv 1) (pa_cons (pv 2) pa_nil))) (pe_callX (Fns := Fns) (pe_ix (ix_listK (K := K) rfl) (pe_lst (pa_cons (pe_fn (x := "sums") C_sums (by rfl)) (pa_cons (pe_fn (x := "gains") C_gains (by rfl)) (pa_cons (pe_fn (x := "swells") C_swells (by rfl)) pa_nil)))) (pe_op op_sub (pv 0) pe_int) (fun _ _ => rfl)) hFns hr hp (pa_cons (pv 1) pa_nil)))))) (fun _ => (pss_one (ps_ret (pe_callNH C__law_which (hr.h.mark _) rfl passN (pa_cons (pv 3) pa_nil))))))), ?_⟩
  refine ⟨_, rfl, rfl, _, rfl, ?_⟩
  match i, hi with
  | 0, _ =>
    refine iteT ⟨_, rfl, _, rfl, ?_⟩
    unfold tNil
    show spSh g CL CN [v, u] _ _ _
    rcases h with ⟨c, q⟩ | ⟨xs, ok, rfl, ⟨_, c, q⟩ | ⟨z, _⟩ | ⟨z, _⟩⟩
    · refine un2_noline RL hd he G c q ?_
      rintro c x H2 ⟨C, j, rfl, cl, ex, q⟩ ea hea
      exact ⟨C, rfl, ex, _, rfl, ea, C, j, rfl, upd_same, cl, fun v H' s' d => q v H' ((Same.new hea _).trans s') d⟩
    · refine un2_nonum RN hd he ok G c q ?_
      rintro c x H2 ⟨C, j, rfl, cl, ex, q⟩ ea hea
      exact ⟨C, rfl, ex, _, rfl, ea, C, j, rfl, upd_same, cl, fun v H' s' d => q v H' ((Same.new hea _).trans s') d⟩
    · cases z
    · cases z
  | 1, _ =>
    refine iteF ?_
    intro f1 m1 f2 m2 f3 m3
    refine ⟨by show 3 ≤ sizeLine; decide, fun p hp => ?_⟩
    have s1 := Same.new hp (.lst [.ref f1, .ref f2, .ref f3])
    refine ⟨_, rfl, _, _, rfl, rfl, p, _, 0, .ref f1, rfl, rfl, SqL.of upd_same, rfl, f1, _, rfl, .inl ⟨m1, rfl⟩, _, rfl, ?_⟩
    unfold tNil
    rcases h with ⟨c, q⟩ | ⟨xs, ok, rfl, ⟨z, _⟩ | ⟨_, c, q⟩ | ⟨z, _⟩⟩
    · refine un_noline RL (hd.same s1) (G.same s1) c (Rj.same s1 q) ?_
      rintro c x H2 ⟨C, j, rfl, cl, ex, q⟩ ea hea
      exact ⟨C, rfl, ex, _, rfl, ea, C, j, rfl, upd_same, cl, fun v H' s' d => q v H' ((Same.new hea _).trans s') d⟩
    · cases z
    · refine un_unfit RT (hd.same s1) ok (G.same s1) c (Rj.same s1 q) ?_
      rintro c x H2 ⟨C, j, rfl, cl, ex, q⟩ ea hea
      exact ⟨C, rfl, ex, _, rfl, ea, C, j, rfl, upd_same, cl, fun v H' s' d => q v H' ((Same.new hea _).trans s') d⟩
    · cases z
  | 2, _ =>
    refine iteF ?_
    intro f1 m1 f2 m2 f3 m3
    refine ⟨by show 3 ≤ sizeLine; decide, fun p hp => ?_⟩
    have s1 := Same.new hp (.lst [.ref f1, .ref f2, .ref f3])
    refine ⟨_, rfl, _, _, rfl, rfl, p, _, 1, .ref f2, rfl, rfl, SqL.of upd_same, rfl, f2, _, rfl, .inr (.inl ⟨m2, rfl⟩), _, rfl, ?_⟩
    unfold tNil
    rcases h with ⟨c, q⟩ | ⟨xs, ok, rfl, ⟨z, _⟩ | ⟨z, _⟩ | ⟨_, c, q⟩⟩
    · refine un_noline RL (hd.same s1) (G.same s1) c (Rj.same s1 q) ?_
      rintro c x H2 ⟨C, j, rfl, cl, ex, q⟩ ea hea
      exact ⟨C, rfl, ex, _, rfl, ea, C, j, rfl, upd_same, cl, fun v H' s' d => q v H' ((Same.new hea _).trans s') d⟩
    · cases z
    · cases z
    · refine un_unfit RT (hd.same s1) ok (G.same s1) c (Rj.same s1 q) ?_
      rintro c x H2 ⟨C, j, rfl, cl, ex, q⟩ ea hea
      exact ⟨C, rfl, ex, _, rfl, ea, C, j, rfl, upd_same, cl, fun v H' s' d => q v H' ((Same.new hea _).trans s') d⟩
  | 3, _ =>
    refine iteF ?_
    intro f1 m1 f2 m2 f3 m3
    refine ⟨by show 3 ≤ sizeLine; decide, fun p hp => ?_⟩
    have s1 := Same.new hp (.lst [.ref f1, .ref f2, .ref f3])
    refine ⟨_, rfl, _, _, rfl, rfl, p, _, 2, .ref f3, rfl, rfl, SqL.of upd_same, rfl, f3, _, rfl, .inr (.inr ⟨m3, rfl⟩), _, rfl, ?_⟩
    unfold tNil
    rcases h with ⟨c, q⟩ | ⟨xs, ok, rfl, ⟨z, _⟩ | ⟨z, _⟩ | ⟨z, _⟩⟩
    · refine un_noline RL (hd.same s1) (G.same s1) c (Rj.same s1 q) ?_
      rintro c x H2 ⟨C, j, rfl, cl, ex, q⟩ ea hea
      exact ⟨C, rfl, ex, _, rfl, ea, C, j, rfl, upd_same, cl, fun v H' s' d => q v H' ((Same.new hea _).trans s') d⟩
    · cases z
    · cases z
    · cases z
theorem sc_law : FnScope ["_law_script", "_law_town", "_law_bad", "_law_line_here", "_law_many", "_law_two", "_law_what"] ["_law_script"] (defScope s_law) := ⟨rfl, rfl, rfl, by decide +kernel, rfl, by decide +kernel, by decide +kernel⟩
theorem ok_law (D : Dfn K mg "law" s_law cd) (B : Blt mg) (C__law_odd : Cal P w K mg base "_law_odd" 5 ["_law_script", "_law_town"] (sp_odd K)) (C__law_pick : Cal P w K mg base "_law_pick" 4 ["_law_script", "_law_town", "_law_some"] (sp_pick K)) (C__law_line : Cal P w K mg base "_law_line" 5 ["_law_script", "_law_town"] (sp_lvals K)) (C__law_of : Cal P w K mg base "_law_of" 1 ["_law_values_here"] sp_line) (C__law_ask : Cal P w K mg base "_law_ask" 10 ["_law_what", "_law_line_here", "_law_many"] (sp_ask g)) : Cal P w K mg base "law" 11 ["_law_script"] (sp_law K g) := by
  refine D.calN (k := 10) sc_law (fun vs H Q E h => ?_) (fun _ _ _ _ _ _ us hl => match us, hl with | [_], _ => rfl) (fun f A outer s H vs Q E hr h => ?_)
  · obtain ⟨a, ns, rfl, _⟩ := h
    rfl
  obtain ⟨a, ns, rfl, hs, G, q⟩ := h
  refine ⟨_, (pss_cons (ps_set (i := 1) sc_law.nd rfl (by first | exact Or.inl rfl | exact Or.inr rfl) (PEi.out (ie_lst ia_nil)))
      (pss_cons (ps_set (i := 2) sc_law.nd rfl (by first | exact Or.inl rfl | exact Or.inr rfl) (pe_callN C__law_odd hr rfl passN (PAi.out (ia_N (PEi.mk (pv 0)) (ia_N (PEi.mk (pv 1)) ia_nil)))))
      (pss_cons (ps_if (pt_cmpR (op_neDK (K := K) hr.units rfl) (pe_lc (own := [("_law_what", 6)]) (g := (gName 6)) rfl sc_law.nd (pi_range1 rfl B.range (PAi.out (ia_K ie_int ia_nil))) (blkOk_by (N := ["_law_script", "_law_town", "_law_bad", "_law_line_here", "_law_many", "_law_two", "_law_what"]) (sc := defScope s_law) (by decide +kernel)) (fun _ _ _ _ _ => (pg_name (i := 6) sc_law.nd rfl (by first | exact Or.inl rfl | exact Or.inr rfl))) (fun _ _ _ _ _ => pts_nil) (fun _ _ _ _ _ => (pe_callN C__law_ask hr rfl passN (PAi.out (ia_N (PEi.mk (pv 6)) (ia_N (PEi.mk (pv 2)) (ia_K ie_non ia_nil))))))) (pe_op op_rep (PEi.out (ie_lst (ia_T (ie_tup (ia_K ie_str (ia_K ie_int ia_nil))) ia_nil))) pe_int) (nomark _)) (pss_one (ps_ret pe_bl)) pss_nil)
      (pss_cons (ps_set (i := 3) sc_law.nd rfl (by first | exact Or.inl rfl | exact Or.inr rfl) (pe_callN C__law_of hr rfl passN (PAi.out (ia_C (PEi.mk (pe_callN C__law_line hr rfl passN (PAi.out (ia_N (PEi.mk (pv 0)) (ia_N (PEi.mk (pv 1)) ia_nil))))) ia_nil))))
      (pss_cons (ps_set (i := 4) sc_law.nd rfl (by first | exact Or.inl rfl | exact Or.inr rfl) (pe_callN C__law_pick hr rfl passN (PAi.out (ia_N (PEi.mk (pv 0)) (ia_N (PEi.mk (pv 1)) (ia_L (ie_lst (ia_K ie_non (ia_U (ie_neg ie_int) (ia_K ie_int (ia_K ie_bl (ia_K ie_str (ia_T (ie_tup (ia_K ie_int ia_nil)) ia_nil))))))) ia_nil))))))
      (pss_cons (ps_if (pt_cmpR (op_neDK (K := K) hr.units rfl) (pe_callN C__law_ask hr rfl passN (PAi.out (ia_K ie_int (ia_N (PEi.mk (pv 3)) (ia_N (PEi.mk (pv 4)) ia_nil))))) (PEi.out (ie_tup (ia_K ie_str (ia_K ie_int ia_nil)))) (nomark _)) (pss_one (ps_ret pe_bl)) pss_nil)
      (pss_cons (ps_set (i := 5) sc_law.nd rfl (by first | exact Or.inl rfl | exact Or.inr rfl) (pe_callN C__law_of hr rfl passN (PAi.out (ia_L (ie_lst (ia_K ie_int (ia_C (PEi.mk (pe_callN C__law_pick hr rfl passN (PAi.out (ia_N (PEi.mk (pv 0)) (ia_N (PEi.mk (pv 1)) (ia_L (ie_lst (ia_K ie_int (ia_K ie_int (ia_K ie_int ia_nil)))) ia_nil)))))) ia_nil))) ia_nil))))
      (pss_one (ps_ret (pe_and (pe_cmpR (op_eqDK (K := K) hr.units rfl) (pe_callN C__law_ask hr rfl passN (PAi.out (ia_K ie_int (ia_N (PEi.mk (pv 5)) (ia_K ie_non ia_nil))))) (PEi.out (ie_tup (ia_K ie_str (ia_K ie_int ia_nil)))) (nomark _)) (pe_one (pe_cmpR (op_eqDK (K := K) hr.units rfl) (pe_callN C__law_ask hr rfl passN (PAi.out (ia_K ie_int (ia_C (PEi.mk (pe_callN C__law_of hr rfl passN (PAi.out (ia_L (ie_lst (ia_K ie_int (ia_U (ie_neg ie_int) ia_nil))) ia_nil)))) (ia_K ie_non ia_nil))))) (PEi.out (ie_tup (ia_K ie_str (ia_K ie_int ia_nil)))) (nomark _))))))))))))), ?_⟩
  refine ⟨by show 0 ≤ sizeLine; decide, fun t ht => ?_⟩
  have bs0 := law_start hs G ht
  refine ⟨_, rfl, _, rfl, ?_⟩
  unfold tNil
  show sp_odd K [.ref a, .ref t] _ _ _
  refine ⟨a, t, 0, rfl, bs0.scr, bs0.town, by decide, fun b d H1 s1 T1 db cb => ?_⟩
  have bs1 := bs0.step s1 T1
  have db1 := db.same (wo_le t H1)
  refine ⟨4, rfl, by decide, by decide, fun Dl hD => lcRefs (lo := 0) (n := (4 : Int).toNat) (j := 0) (by decide) hD ?_ ?_⟩
  · intro i He Q' Q2 hi se q'
    have hi : i < 4 := hi
    refine ⟨rfl, tYesT ⟨_, rfl, _, rfl, ?_⟩⟩
    exact ⟨i, b, .non, d, .none, by rw [Int.zero_add]; rfl, hi, db1.same se, .non, bs1.full.same se, .inl ⟨cb, q'⟩⟩
  intro He se dl
  refine refs_rep (n := 4) (j := 0) (by decide) fun vr H2 s2 d2 => ?_
  refine ⟨.list (List.replicate 4 (refD 0)), .list (List.replicate 4 (refD 0)), (dl.same s2).p, d2.p, sh_refs _ _, sh_refs _ _, _, rfl, ?_⟩
  rw [eqvN (sh_refs _ _)]
  refine iteF ?_
  have S2 := se.trans s2
  have bs2 := bs1.step (wo_same S2) (bs1.town.same S2)
  clear S2 dl d2 se hD db1 db s2
  refine ⟨_, rfl, _, rfl, ?_⟩
  show sp_lvals K [.ref a, .ref t] _ _ _
  refine do_lvals bs2 (by decide) fun l xs H3 ok s3 bs3 _ h3 => ?_
  have len := ok.len
  have pos := ok.pos
  show sp_line [.ref l] _ _ _
  refine do_lof (wo_at h3).2 ok fun v H4 s4 k4 => ?_
  have bs4 := bs3.step (wo_same s4) (bs3.town.same s4)
  have k4 := k4.wo bs4.town
  clear bs2 s3 bs3 h3 s4
  refine ⟨_, rfl, _, rfl, _, rfl, by show 1 ≤ sizeLine; decide, fun p8 hp8 => ?_⟩
  obtain ⟨s8, n8, T8⟩ := al (.tup [.int 1]) bs4.town hp8
  have bs8 := bs4.step s8 T8
  refine ⟨by show 6 ≤ sizeLine; decide, fun p9 hp9 => ?_⟩
  obtain ⟨s9, n9, T9⟩ := al (.lst [.non, .int (-1), .int 61, .bl true, .str "3", .ref p8]) T8 hp9
  have bs9 := bs8.step s9 T9
  refine ⟨a, t, p9, _, _, rfl, by show 0 < 6; decide, n9, bs9.scr, T9, by decide, fun y H10 hy s10 T10 => ?_⟩
  have n10 := s10 _ _ (s9 _ _ n8)
  have bx : ∃ e, Dd H10 y e ∧ Ma.isWhole 0 60 e = false := by
    simp only [List.mem_cons, List.not_mem_nil, or_false] at hy
    rcases hy with rfl | rfl | rfl | rfl | rfl | rfl
    · exact ⟨_, .non, rfl⟩
    · exact ⟨_, .int _, rfl⟩
    · exact ⟨_, .int _, rfl⟩
    · exact ⟨_, .bl _, rfl⟩
    · exact ⟨_, .str _, rfl⟩
    · exact ⟨_, .tup (wo_at n10).2 (.cons (.int _) .nil), rfl⟩
  obtain ⟨e, de, ce⟩ := bx
  have bs10 := bs9.step s10 T10
  have k10 := ((k4.same s8).same (s9.trans s10)).full
  clear s8 n8 T8 bs8 s9 n9 T9 bs9 s10 T10 n10 hy k4 bs4
  refine ⟨_, rfl, _, rfl, ?_⟩
  show sp_ask g [.int ((0 : Nat) : Int), v, y] _ _ _
  refine ⟨0, v, y, _, e, rfl, by decide, k10.dd, de, bs10.full, .inr ⟨xs, ok, rfl, .inl ⟨rfl, ce, fun r H11 s11 d11 => ?_⟩⟩⟩
  refine ⟨by show 2 ≤ sizeLine; decide, fun p12 hp12 => ?_⟩
  have s12 := Same.new hp12 (.tup [.str "refused", .int 4])
  refine ⟨refD 4, refD 4, (d11.same s12).p, (Dd.tup upd_same (.cons (.str _) (.cons (.int _) .nil))).p, sh_ref 4, sh_ref 4, _, rfl, ?_⟩
  rw [eqvN (sh_ref 4)]
  refine iteF ?_
  have S12 := s11.trans s12
  have bs12 := bs10.step (wo_same S12) (bs10.town.same S12)
  clear S12 s12 hp12 s11 d11 k10 de bs10
  generalize upd H11 p12 (.tup [.str "refused", .int 4]) = H12 at *
  refine ⟨_, rfl, _, rfl, by show 3 ≤ sizeLine; decide, fun p13 hp13 => ?_⟩
  obtain ⟨s13, n13, T13⟩ := al (.lst [.int 1, .int 5, .int 999]) bs12.town hp13
  have bs13 := bs12.step s13 T13
  refine ⟨a, t, p13, _, _, rfl, by show 0 < 3; decide, n13, bs13.scr, T13, by decide, fun y H14 hy s14 T14 => ?_⟩
  obtain ⟨z, rfl, z1, z2⟩ : ∃ z : Int, y = .int z ∧ 1 ≤ z ∧ z ≤ 999 := by
    simp only [List.mem_cons, List.not_mem_nil, or_false] at hy
    rcases hy with rfl | rfl | rfl
    · exact ⟨_, rfl, by decide, by decide⟩
    · exact ⟨_, rfl, by decide, by decide⟩
    · exact ⟨_, rfl, by decide, by decide⟩
  have bs14 := bs13.step s14 T14
  have G14 := bs14.full
  clear bs13 bs14 s13 n13 T13 s14 T14 hy bs12
  refine ⟨by show 2 ≤ sizeLine; decide, fun p15 hp15 => ?_⟩
  have s15 := Same.new hp15 (.lst [.int 999, .int z])
  show sp_line [.ref p15] _ _ _
  have ok2 : Ma.OkV [999, z] := ⟨by simp, by simp, fun x hx => by simp at hx; omega⟩
  refine do_lof (xs := [999, z]) (upd_same (o := .lst [.int 999, .int z])) ok2 fun v16 H16 s16 k16 => ?_
  have G16 := G14.same (s15.trans s16)
  clear s15 s16
  refine ⟨_, rfl, ?_⟩
  show sp_ask g [.int ((1 : Nat) : Int), v16, .non] _ _ E0
  refine ⟨1, v16, .non, _, .none, rfl, by decide, k16.dd, .non, G16, .inr ⟨_, ok2, rfl, .inr (.inl ⟨rfl, ?_, fun r H17 s17 d17 => ?_⟩)⟩⟩
  · rw [Ma.fits_great (by rw [Ma.sumsV_len]; simp)]
    simp [Ma.sumsV, Ma.sumsFrom]
    omega
  refine ⟨by show 2 ≤ sizeLine; decide, fun p18 hp18 => ?_⟩
  have s18 := Same.new hp18 (.tup [.str "refused", .int 7])
  refine ⟨refD 7, refD 7, (d17.same s18).p, (Dd.tup upd_same (.cons (.str _) (.cons (.int _) .nil))).p, sh_ref 7, sh_ref 7, ?_⟩
  rw [eqv_self (sh_ref 7)]
  have G18 := G16.same (s17.trans s18)
  refine ⟨_, rfl, ?_⟩
  refine iteT ⟨_, rfl, by show 2 ≤ sizeLine; decide, fun p19 hp19 => ?_⟩
  have s19 := Same.new hp19 (.lst [.int 999, .int (-1)])
  show sp_line [.ref p19] _ _ _
  have ok3 : Ma.OkV [999, -1] := ⟨by decide, by decide, fun x hx => by simp at hx; omega⟩
  refine do_lof (xs := [999, -1]) (upd_same (o := .lst [.int 999, .int (-1)])) ok3 fun v20 H20 s20 k20 => ?_
  have G20 := G18.same (s19.trans s20)
  show sp_ask g [.int ((2 : Nat) : Int), v20, .non] _ _ E0
  refine ⟨2, v20, .non, _, .none, rfl, by decide, k20.dd, .non, G20, .inr ⟨_, ok3, rfl, .inr (.inr ⟨rfl, by rw [Ma.fits_great (by decide)]; decide, fun r H21 s21 d21 => ?_⟩)⟩⟩
  refine ⟨by show 2 ≤ sizeLine; decide, fun p22 hp22 => ?_⟩
  have s22 := Same.new hp22 (.tup [.str "refused", .int 7])
  refine ⟨refD 7, refD 7, (d21.same s22).p, (Dd.tup upd_same (.cons (.str _) (.cons (.int _) .nil))).p, sh_ref 7, sh_ref 7, ?_⟩
  rw [eqv_self (sh_ref 7)]
  exact q _ (G20.same (s21.trans s22))
end
end Lw
set_option Elab.async false
set_option linter.all false
set_option maxRecDepth 100000
set_option maxHeartbeats 4000000
namespace Lw
open PySem PySem.W PyProof.Rows L2
/-- what the written heap says of the text -/
structure Tx (K : Frag) : Prop where
  d_is_whole : ∃ a cd, DfK K "is_whole" s_is_whole a cd
  d_is_value : ∃ a cd, DfK K "is_value" s_is_value a cd
  d_is_length : ∃ a cd, DfK K "is_length" s_is_length a cd
  d_is_place : ∃ a cd, DfK K "is_place" s_is_place a cd
  d_is_row : ∃ a cd, DfK K "is_row" s_is_row a cd
  d_is_line : ∃ a cd, DfK K "is_line" s_is_line a cd
  d_need_line : ∃ a cd, DfK K "need_line" s_need_line a cd
  d_need_number : ∃ a cd, DfK K "need_number" s_need_number a cd
  d_level_stretches : ∃ a cd, DfK K "level_stretches" s_level_stretches a cd
  d_plain : ∃ a cd, DfK K "plain" s_plain a cd
  d_sums : ∃ a cd, DfK K "sums" s_sums a cd
  d_rises : ∃ a cd, DfK K "rises" s_rises a cd
  d_gains : ∃ a cd, DfK K "gains" s_gains a cd
  d_shifted : ∃ a cd, DfK K "shifted" s_shifted a cd
  d_swells : ∃ a cd, DfK K "swells" s_swells a cd
  d__law_cell_at : ∃ a cd, DfK K "_law_cell_at" s__law_cell_at a cd
  d__law_mixed : ∃ a cd, DfK K "_law_mixed" s__law_mixed a cd
  d__law_draw : ∃ a cd, DfK K "_law_draw" s__law_draw a cd
  d__law_pick : ∃ a cd, DfK K "_law_pick" s__law_pick a cd
  d__law_values : ∃ a cd, DfK K "_law_values" s__law_values a cd
  d__law_of : ∃ a cd, DfK K "_law_of" s__law_of a cd
  d__law_line : ∃ a cd, DfK K "_law_line" s__law_line a cd
  d__law_odd : ∃ a cd, DfK K "_law_odd" s__law_odd a cd
  d__law_which : ∃ a cd, DfK K "_law_which" s__law_which a cd
  d__law_ask : ∃ a cd, DfK K "_law_ask" s__law_ask a cd
  d_law : ∃ a cd, DfK K "law" s_law a cd
  g_are_steps : ∃ a c P, DfK K "are_steps" s_are_steps a (.ref c) ∧ GnK K c P
  g_line_of : ∃ a c P, DfK K "line_of" s_line_of a (.ref c) ∧ GnK K c P
  g_fitted : ∃ a c P, DfK K "fitted" s_fitted a (.ref c) ∧ GnK K c P
  b : ∃ bm, nsIn K mainGlobals "__builtins__" = some (some (.ref bm)) ∧ K.lookup bm = none
  m_GREATEST_VALUE : ∃ t, nsIn K mainGlobals "GREATEST_VALUE" = some (some (.int 999 t))
  m_MOST_PLACES : ∃ t, nsIn K mainGlobals "MOST_PLACES" = some (some (.int 60 t))
  z_isinstance : nsIn K mainGlobals "isinstance" = some none
  z_bool : nsIn K mainGlobals "bool" = some none
  z_int : nsIn K mainGlobals "int" = some none
  z_tuple : nsIn K mainGlobals "tuple" = some none
  z_list : nsIn K mainGlobals "list" = some none
  z_len : nsIn K mainGlobals "len" = some none
  z_all : nsIn K mainGlobals "all" = some none
  z_zip : nsIn K mainGlobals "zip" = some none
  z_enumerate : nsIn K mainGlobals "enumerate" = some none
  z_range : nsIn K mainGlobals "range" = some none
  z_min : nsIn K mainGlobals "min" = some none
  z_max : nsIn K mainGlobals "max" = some none
  z_ValueError : nsIn K mainGlobals "ValueError" = some none
  z_sum : nsIn K mainGlobals "sum" = some none
  z_sorted : nsIn K mainGlobals "sorted" = some none
  z_abs : nsIn K mainGlobals "abs" = some none
  z_set : nsIn K mainGlobals "set" = some none
  x : ∃ LE c0 c1 c2 c3 c4 c5 c6 c7 c8 c9 c10 c11, nsIn K mainGlobals "LineError" = some (some (.ref LE)) ∧ nsIn K mainGlobals "NoLine" = some (some (.ref c0)) ∧ nsIn K mainGlobals "NoRows" = some (some (.ref c1)) ∧ nsIn K mainGlobals "NoPlace" = some (some (.ref c2)) ∧ nsIn K mainGlobals "NoValue" = some (some (.ref c3)) ∧ nsIn K mainGlobals "NoNumber" = some (some (.ref c4)) ∧ nsIn K mainGlobals "Unlike" = some (some (.ref c5)) ∧ nsIn K mainGlobals "Falls" = some (some (.ref c6)) ∧ nsIn K mainGlobals "TooGreat" = some (some (.ref c7)) ∧ nsIn K mainGlobals "NoStep" = some (some (.ref c8)) ∧ nsIn K mainGlobals "NoDeed" = some (some (.ref c9)) ∧ nsIn K mainGlobals "NoText" = some (some (.ref c10)) ∧ nsIn K mainGlobals "NoWay" = some (some (.ref c11)) ∧ excIn K c0 [.type "ValueError", .type "Exception", .type "BaseException", .type "object"] "ValueError.__new__" = true ∧ excIn K c4 [.type "ValueError", .type "Exception", .type "BaseException", .type "object"] "ValueError.__new__" = true ∧ excIn K c7 [.type "ValueError", .type "Exception", .type "BaseException", .type "object"] "ValueError.__new__" = true ∧ CjK K LE [c0, c1, c2, c3, c4, c5, c6, c7, c8, c9, c10, c11] 0 c0 ∧ CjK K LE [c0, c1, c2, c3, c4, c5, c6, c7, c8, c9, c10, c11] 4 c4 ∧ CjK K LE [c0, c1, c2, c3, c4, c5, c6, c7, c8, c9, c10, c11] 7 c7
theorem x_mk {K : Frag} {LE c0 c1 c2 c3 c4 c5 c6 c7 c8 c9 c10 c11 : Addr} (h0 : nsIn K mainGlobals "LineError" = some (some (.ref LE))) (h1 : nsIn K mainGlobals "NoLine" = some (some (.ref c0))) (h2 : nsIn K mainGlobals "NoRows" = some (some (.ref c1))) (h3 : nsIn K mainGlobals "NoPlace" = some (some (.ref c2))) (h4 : nsIn K mainGlobals "NoValue" = some (some (.ref c3))) (h5 : nsIn K mainGlobals "NoNumber" = some (some (.ref c4))) (h6 : nsIn K mainGlobals "Unlike" = some (some (.ref c5))) (h7 : nsIn K mainGlobals "Falls" = some (some (.ref c6))) (h8 : nsIn K mainGlobals "TooGreat" = some (some (.ref c7))) (h9 : nsIn K mainGlobals "NoStep" = some (some (.ref c8))) (h10 : nsIn K mainGlobals "NoDeed" = some (some (.ref c9))) (h11 : nsIn K mainGlobals "NoText" = some (some (.ref c10))) (h12 : nsIn K mainGlobals "NoWay" = some (some (.ref c11))) (h13 : excIn K c0 [.type "ValueError", .type "Exception", .type "BaseException", .type "object"] "ValueError.__new__" = true) (h14 : excIn K c4 [.type "ValueError", .type "Exception", .type "BaseException", .type "object"] "ValueError.__new__" = true) (h15 : excIn K c7 [.type "ValueError", .type "Exception", .type "BaseException", .type "object"] "ValueError.__new__" = true) (h16 : CjK K LE [c0, c1, c2, c3, c4, c5, c6, c7, c8, c9, c10, c11] 0 c0) (h17 : CjK K LE [c0, c1, c2, c3, c4, c5, c6, c7, c8, c9, c10, c11] 4 c4) (h18 : CjK K LE [c0, c1, c2, c3, c4, c5, c6, c7, c8, c9, c10, c11] 7 c7) : ∃ LE c0 c1 c2 c3 c4 c5 c6 c7 c8 c9 c10 c11, nsIn K mainGlobals "LineError" = some (some (.ref LE)) ∧ nsIn K mainGlobals "NoLine" = some (some (.ref c0)) ∧ nsIn K mainGlobals "NoRows" = some (some (.ref c1)) ∧ nsIn K mainGlobals "NoPlace" = some (some (.ref c2)) ∧ nsIn K mainGlobals "NoValue" = some (some (.ref c3)) ∧ nsIn K mainGlobals "NoNumber" = some (some (.ref c4)) ∧ nsIn K mainGlobals "Unlike" = some (some (.ref c5)) ∧ nsIn K mainGlobals "Falls" = some (some (.ref c6)) ∧ nsIn K mainGlobals "TooGreat" = some (some (.ref c7)) ∧ nsIn K mainGlobals "NoStep" = some (some (.ref c8)) ∧ nsIn K mainGlobals "NoDeed" = some (some (.ref c9)) ∧ nsIn K mainGlobals "NoText" = some (some (.ref c10)) ∧ nsIn K mainGlobals "NoWay" = some (some (.ref c11)) ∧ excIn K c0 [.type "ValueError", .type "Exception", .type "BaseException", .type "object"] "ValueError.__new__" = true ∧ excIn K c4 [.type "ValueError", .type "Exception", .type "BaseException", .type "object"] "ValueError.__new__" = true ∧ excIn K c7 [.type "ValueError", .type "Exception", .type "BaseException", .type "object"] "ValueError.__new__" = true ∧ CjK K LE [c0, c1, c2, c3, c4, c5, c6, c7, c8, c9, c10, c11] 0 c0 ∧ CjK K LE [c0, c1, c2, c3, c4, c5, c6, c7, c8, c9, c10, c11] 4 c4 ∧ CjK K LE [c0, c1, c2, c3, c4, c5, c6, c7, c8, c9, c10, c11] 7 c7 := ⟨LE, c0, c1, c2, c3, c4, c5, c6, c7, c8, c9, c10, c11, h0, h1, h2, h3, h4, h5, h6, h7, h8, h9, h10, h11, h12, h13, h14, h15, h16, h17, h18⟩
theorem fin {q : Program} {P : Program} {w : World} {K : Frag} {mg : Str → Option Value} {fa : Addr} {h : Heap} (KX : K.In h) (G : h.Ns mainGlobals mg) (hmg : mg "law" = some (.ref fa))
    (tab : ∀ (name : Str) (dd : DefRec) (f : Addr) (o : Obj) (fd : FuncData), (recsOf q).find? (fun e => e.name == name) = some dd → mg name = some (.ref f) → h.get? f = some o → o.data = .func fd → ∃ c P, fd.code = .ref c ∧ h.IsCode c P #[] ∧ h.TableAt c P #[])
    (bmx : ∃ bm ob, BMod h mainGlobals mg bm ob) (r_are_steps : ∃ dd, (recsOf q).find? (fun e => e.name == ("are_steps" : Str)) = some dd) (r_line_of : ∃ dd, (recsOf q).find? (fun e => e.name == ("line_of" : Str)) = some dd) (r_fitted : ∃ dd, (recsOf q).find? (fun e => e.name == ("fitted" : Str)) = some dd) (T : Tx K) :
    ∃ (Ts : List Addr) (bm : Addr) (ob : Obj), (∀ P ∈ Ts, (∃ c, h.TableAt c P #[]) ∧ K.lookup P = none) ∧ (h.get? bm = some ob ∧ K.lookup bm = none ∧ ob.data = .plain) ∧
        ∃ sp : Sp, (∀ (H : Hp) (a : Addr) (ns : List Int), ns.length ≤ 63 → Grd Ts bm ob H → SqL K H a (ns.map V.int) → sp [.ref a] H (fun v H' => v = .bl true ∧ Grd Ts bm ob H') fun _ _ _ => False) ∧
        ∀ base : Heap, K.In base → base.Ns mainGlobals mg → ∃ fd, Binds K fd ["_law_script"] [] ∧ FnOk P w K mg base (CXM P w) 11 fa fd ["_law_script"] sp := by
  obtain ⟨a_is_whole, cd_is_whole, k_is_whole⟩ := T.d_is_whole
  have D_is_whole := k_is_whole.dfn KX G
  obtain ⟨a_is_value, cd_is_value, k_is_value⟩ := T.d_is_value
  have D_is_value := k_is_value.dfn KX G
  obtain ⟨a_is_length, cd_is_length, k_is_length⟩ := T.d_is_length
  have D_is_length := k_is_length.dfn KX G
  obtain ⟨a_is_place, cd_is_place, k_is_place⟩ := T.d_is_place
  have D_is_place := k_is_place.dfn KX G
  obtain ⟨a_is_row, cd_is_row, k_is_row⟩ := T.d_is_row
  have D_is_row := k_is_row.dfn KX G
  obtain ⟨a_is_line, cd_is_line, k_is_line⟩ := T.d_is_line
  have D_is_line := k_is_line.dfn KX G
  obtain ⟨a_need_line, cd_need_line, k_need_line⟩ := T.d_need_line
  have D_need_line := k_need_line.dfn KX G
  obtain ⟨a_need_number, cd_need_number, k_need_number⟩ := T.d_need_number
  have D_need_number := k_need_number.dfn KX G
  obtain ⟨a_level_stretches, cd_level_stretches, k_level_stretches⟩ := T.d_level_stretches
  have D_level_stretches := k_level_stretches.dfn KX G
  obtain ⟨a_plain, cd_plain, k_plain⟩ := T.d_plain
  have D_plain := k_plain.dfn KX G
  obtain ⟨a_sums, cd_sums, k_sums⟩ := T.d_sums
  have D_sums := k_sums.dfn KX G
  obtain ⟨a_rises, cd_rises, k_rises⟩ := T.d_rises
  have D_rises := k_rises.dfn KX G
  obtain ⟨a_gains, cd_gains, k_gains⟩ := T.d_gains
  have D_gains := k_gains.dfn KX G
  obtain ⟨a_shifted, cd_shifted, k_shifted⟩ := T.d_shifted
  have D_shifted := k_shifted.dfn KX G
  obtain ⟨a_swells, cd_swells, k_swells⟩ := T.d_swells
  have D_swells := k_swells.dfn KX G
  obtain ⟨a__law_cell_at, cd__law_cell_at, k__law_cell_at⟩ := T.d__law_cell_at
  have D__law_cell_at := k__law_cell_at.dfn KX G
  obtain ⟨a__law_mixed, cd__law_mixed, k__law_mixed⟩ := T.d__law_mixed
  have D__law_mixed := k__law_mixed.dfn KX G
  obtain ⟨a__law_draw, cd__law_draw, k__law_draw⟩ := T.d__law_draw
  have D__law_draw := k__law_draw.dfn KX G
  obtain ⟨a__law_pick, cd__law_pick, k__law_pick⟩ := T.d__law_pick
  have D__law_pick := k__law_pick.dfn KX G
  obtain ⟨a__law_values, cd__law_values, k__law_values⟩ := T.d__law_values
  have D__law_values := k__law_values.dfn KX G
  obtain ⟨a__law_of, cd__law_of, k__law_of⟩ := T.d__law_of
  have D__law_of := k__law_of.dfn KX G
  obtain ⟨a__law_line, cd__law_line, k__law_line⟩ := T.d__law_line
  have D__law_line := k__law_line.dfn KX G
  obtain ⟨a__law_odd, cd__law_odd, k__law_odd⟩ := T.d__law_odd
  have D__law_odd := k__law_odd.dfn KX G
  obtain ⟨a__law_which, cd__law_which, k__law_which⟩ := T.d__law_which
  have D__law_which := k__law_which.dfn KX G
  obtain ⟨a__law_ask, cd__law_ask, k__law_ask⟩ := T.d__law_ask
  have D__law_ask := k__law_ask.dfn KX G
  obtain ⟨a_law, cd_law, k_law⟩ := T.d_law
  have D_law := k_law.dfn KX G
  obtain ⟨a_are_steps, c_are_steps, P_are_steps, k_are_steps, gn_are_steps⟩ := T.g_are_steps
  have D_are_steps := k_are_steps.dfn KX G
  have TC_are_steps : CodeK K c_are_steps P_are_steps ∧ h.TableAt c_are_steps P_are_steps #[] := by
    obtain ⟨oc, od, kV, doc, pm, an, ct, osl, l⟩ := k_are_steps.ex
    obtain ⟨dd, hdd⟩ := r_are_steps
    obtain ⟨c', P', e, ic, ta⟩ := tab _ dd _ _ _ hdd (mg_of KX G k_are_steps.n) (KX _ _ l) rfl
    exact gn_are_steps.code KX e ic ta
  have CK_are_steps := TC_are_steps.1
  obtain ⟨a_line_of, c_line_of, P_line_of, k_line_of, gn_line_of⟩ := T.g_line_of
  have D_line_of := k_line_of.dfn KX G
  have TC_line_of : CodeK K c_line_of P_line_of ∧ h.TableAt c_line_of P_line_of #[] := by
    obtain ⟨oc, od, kV, doc, pm, an, ct, osl, l⟩ := k_line_of.ex
    obtain ⟨dd, hdd⟩ := r_line_of
    obtain ⟨c', P', e, ic, ta⟩ := tab _ dd _ _ _ hdd (mg_of KX G k_line_of.n) (KX _ _ l) rfl
    exact gn_line_of.code KX e ic ta
  have CK_line_of := TC_line_of.1
  obtain ⟨a_fitted, c_fitted, P_fitted, k_fitted, gn_fitted⟩ := T.g_fitted
  have D_fitted := k_fitted.dfn KX G
  have TC_fitted : CodeK K c_fitted P_fitted ∧ h.TableAt c_fitted P_fitted #[] := by
    obtain ⟨oc, od, kV, doc, pm, an, ct, osl, l⟩ := k_fitted.ex
    obtain ⟨dd, hdd⟩ := r_fitted
    obtain ⟨c', P', e, ic, ta⟩ := tab _ dd _ _ _ hdd (mg_of KX G k_fitted.n) (KX _ _ l) rfl
    exact gn_fitted.code KX e ic ta
  have CK_fitted := TC_fitted.1
  obtain ⟨t_GREATEST_VALUE, n_GREATEST_VALUE⟩ := T.m_GREATEST_VALUE
  have M_GREATEST_VALUE := mg_of KX G n_GREATEST_VALUE
  obtain ⟨t_MOST_PLACES, n_MOST_PLACES⟩ := T.m_MOST_PLACES
  have M_MOST_PLACES := mg_of KX G n_MOST_PLACES
  have B : Blt mg := ⟨mg_none_of KX G T.z_isinstance, mg_none_of KX G T.z_bool, mg_none_of KX G T.z_int, mg_none_of KX G T.z_tuple, mg_none_of KX G T.z_list, mg_none_of KX G T.z_len, mg_none_of KX G T.z_all, mg_none_of KX G T.z_zip, mg_none_of KX G T.z_enumerate, mg_none_of KX G T.z_range, mg_none_of KX G T.z_min, mg_none_of KX G T.z_max, mg_none_of KX G T.z_ValueError⟩
  have B2 : Bl2 mg := ⟨mg_none_of KX G T.z_sum, mg_none_of KX G T.z_sorted, mg_none_of KX G T.z_abs, mg_none_of KX G T.z_set⟩
  obtain ⟨LE, c0, c1, c2, c3, c4, c5, c6, c7, c8, c9, c10, c11, n_LE, n0, n1, n2, n3, n4, n5, n6, n7, n8, n9, n10, n11, X_NoLine, X_NoNumber, X_TooGreat, J0, J4, J7⟩ := T.x
  have K_LineError := mg_of KX G n_LE
  have K_NoLine := mg_of KX G n0
  have K_NoRows := mg_of KX G n1
  have K_NoPlace := mg_of KX G n2
  have K_NoValue := mg_of KX G n3
  have K_NoNumber := mg_of KX G n4
  have K_Unlike := mg_of KX G n5
  have K_Falls := mg_of KX G n6
  have K_TooGreat := mg_of KX G n7
  have K_NoStep := mg_of KX G n8
  have K_NoDeed := mg_of KX G n9
  have K_NoText := mg_of KX G n10
  have K_NoWay := mg_of KX G n11
  obtain ⟨bm, ob, BM⟩ := bmx
  obtain ⟨bm', nb, lb⟩ := T.b
  have eb := BM.name.symm.trans (mg_of KX G nb)
  cases eb
  have BK : BmK mg bm ob := ⟨BM.name, BM.ne, BM.cls, BM.dict, BM.data⟩
  let g : Gd := ⟨[P_are_steps, P_line_of, P_fitted], bm, ob⟩
  refine ⟨g.Ts, bm, ob, fun Pt hP => ?_, ⟨BM.obj, lb, BM.data⟩, sp_law K g, fun H a ns _ hG hS => ⟨a, ns, rfl, hS, hG, fun H' hG' => ⟨rfl, hG'⟩⟩, fun base KB NB => ?_⟩
  · have hP : Pt = P_are_steps ∨ Pt = P_line_of ∨ Pt = P_fitted := by simpa [g] using hP
    rcases hP with rfl | rfl | rfl
    · exact ⟨⟨_, TC_are_steps.2⟩, gn_are_steps.no⟩
    · exact ⟨⟨_, TC_line_of.2⟩, gn_line_of.no⟩
    · exact ⟨⟨_, TC_fitted.2⟩, gn_fitted.no⟩
  · have C_is_whole := ok_is_whole (P := P) (w := w) (base := base) D_is_whole B
    have C_is_value := ok_is_value D_is_value M_GREATEST_VALUE C_is_whole
    have C_is_length := ok_is_length D_is_length M_MOST_PLACES C_is_whole
    have C_is_place := ok_is_place D_is_place C_is_whole
    have C_is_row := ok_is_row D_is_row B C_is_place C_is_value
    have C_are_steps := ok_are_steps (g := g) D_are_steps B CK_are_steps (by simp [g]) BK C_is_row
    have C_is_line := ok_is_line D_is_line B C_is_length C_are_steps
    have C_need_line := ok_need_line D_need_line X_NoLine K_NoLine C_is_line
    have C_need_number := ok_need_number D_need_number X_NoNumber K_NoNumber C_is_whole
    have C_level_stretches := ok_level_stretches (P := P) (w := w) (base := base) D_level_stretches B
    have C_line_of := ok_line_of (g := g) D_line_of B CK_line_of (by simp [g]) BK C_level_stretches
    have C_fitted := ok_fitted (g := g) D_fitted B CK_fitted (by simp [g]) BK M_MOST_PLACES X_TooGreat K_TooGreat C_is_value C_line_of
    have C_plain := ok_plain D_plain B C_need_line
    have C_sums := ok_sums D_sums C_plain C_fitted
    have C_rises := ok_rises (P := P) (w := w) (base := base) D_rises B
    have C_gains := ok_gains D_gains C_plain C_fitted C_rises
    have C_shifted := ok_shifted D_shifted B M_MOST_PLACES C_need_line C_need_number C_plain C_line_of
    have C_swells := ok_swells D_swells B C_plain C_rises
    have C__law_cell_at := ok__law_cell_at (P := P) (w := w) (base := base) D__law_cell_at B
    have C__law_mixed := ok__law_mixed D__law_mixed C__law_cell_at
    have C__law_draw := ok__law_draw D__law_draw B C__law_mixed
    have C__law_pick := ok__law_pick D__law_pick B C__law_draw
    have C__law_values := ok__law_values D__law_values B C__law_draw
    have C__law_of := ok__law_of (P := P) (w := w) (base := base) D__law_of B
    have C__law_line := ok__law_line D__law_line C__law_draw C__law_pick C__law_values
    have C__law_odd := ok__law_odd D__law_odd C__law_pick
    have C__law_which := ok__law_which (P := P) (w := w) (base := base) D__law_which B K_NoLine K_NoRows K_NoPlace K_NoValue K_NoNumber K_Unlike K_Falls K_TooGreat K_NoStep K_NoDeed K_NoText K_NoWay
    have C__law_ask := ok__law_ask D__law_ask ⟨J0.cl (by simp) rfl, J0.le⟩ ⟨J4.cl (by simp) rfl, J4.le⟩ ⟨J7.cl (by simp) rfl, J7.le⟩ K_LineError C__law_which C_shifted C_sums C_gains C_swells
    have C_law := ok_law D_law B C__law_odd C__law_pick C__law_line C__law_of C__law_ask
    obtain ⟨f', fd, F, b, m, kp⟩ := C_law.ex
    rw [hmg] at m
    cases m
    exact ⟨fd, b, F⟩
end Lw
open PySem PySem.W PyProof.Rows L2 in
set_option maxRecDepth 100000 in
set_option maxHeartbeats 0 in
theorem PySem.Challenge.cw_stepline_k17_adding_refused_holds : PySem.Challenge.rw_stepline_k17_adding_refused.Holds := by
  w_on; o_law; k_head; (case hw => w_witness2)
  k_fill
  refine L2.walk_ofT (l := PySem.Challenge.rw_stepline_k17_adding_refused) (n := 63) (k := 11) (x := "_law_script") rfl (by decide) rfl ⟨rfl, by decide, by decide⟩ (fun w h Y => PySem.W.kIn_of Y) ?F
  case F =>
    intro w mg fa h KX G hmg tab bmx
    have T : Lw.Tx (L2.KOf KX) := by
      dsimp only [L2.KOf]
      constructor
      · refine' ⟨_, _, L2.dfk_mk ?n ?l ?c ?k⟩
        (case n => k_is)
        (case l => k_is)
        (case c => k_is)
        (case k => k_is)
      · refine' ⟨_, _, L2.dfk_mk ?n ?l ?c ?k⟩
        (case n => k_is)
        (case l => k_is)
        (case c => k_is)
        (case k => k_is)
      · refine' ⟨_, _, L2.dfk_mk ?n ?l ?c ?k⟩
        (case n => k_is)
        (case l => k_is)
        (case c => k_is)
        (case k => k_is)
      · refine' ⟨_, _, L2.dfk_mk ?n ?l ?c ?k⟩
        (case n => k_is)
        (case l => k_is)
        (case c => k_is)
        (case k => k_is)
      · refine' ⟨_, _, L2.dfk_mk ?n ?l ?c ?k⟩
        (case n => k_is)
        (case l => k_is)
        (case c => k_is)
        (case k => k_is)
      · refine' ⟨_, _, L2.dfk_mk ?n ?l ?c ?k⟩
        (case n => k_is)
        (case l => k_is)
        (case c => k_is)
        (case k => k_is)
      · refine' ⟨_, _, L2.dfk_mk ?n ?l ?c ?k⟩
        (case n => k_is)
        (case l => k_is)
        (case c => k_is)
        (case k => k_is)
      · refine' ⟨_, _, L2.dfk_mk ?n ?l ?c ?k⟩
        (case n => k_is)
        (case l => k_is)
        (case c => k_is)
        (case k => k_is)
      · refine' ⟨_, _, L2.dfk_mk ?n ?l ?c ?k⟩
        (case n => k_is)
        (case l => k_is)
        (case c => k_is)
        (case k => k_is)
      · refine' ⟨_, _, L2.dfk_mk ?n ?l ?c ?k⟩
        (case n => k_is)
        (case l => k_is)
        (case c => k_is)
        (case k => k_is)
      · refine' ⟨_, _, L2.dfk_mk ?n ?l ?c ?k⟩
        (case n => k_is)
        (case l => k_is)
        (case c => k_is)
        (case k => k_is)
      · refine' ⟨_, _, L2.dfk_mk ?n ?l ?c ?k⟩
        (case n => k_is)
        (case l => k_is)
        (case c => k_is)
        (case k => k_is)
      · refine' ⟨_, _, L2.dfk_mk ?n ?l ?c ?k⟩
        (case n => k_is)
        (case l => k_is)
        (case c => k_is)
        (case k => k_is)
      · refine' ⟨_, _, L2.dfk_mk ?n ?l ?c ?k⟩
        (case n => k_is)
        (case l => k_is)
        (case c => k_is)
        (case k => k_is)
      · refine' ⟨_, _, L2.dfk_mk ?n ?l ?c ?k⟩
        (case n => k_is)
        (case l => k_is)
        (case c => k_is)
        (case k => k_is)
      · refine' ⟨_, _, L2.dfk_mk ?n ?l ?c ?k⟩
        (case n => k_is)
        (case l => k_is)
        (case c => k_is)
        (case k => k_is)
      · refine' ⟨_, _, L2.dfk_mk ?n ?l ?c ?k⟩
        (case n => k_is)
        (case l => k_is)
        (case c => k_is)
        (case k => k_is)
      · refine' ⟨_, _, L2.dfk_mk ?n ?l ?c ?k⟩
        (case n => k_is)
        (case l => k_is)
        (case c => k_is)
        (case k => k_is)
      · refine' ⟨_, _, L2.dfk_mk ?n ?l ?c ?k⟩
        (case n => k_is)
        (case l => k_is)
        (case c => k_is)
        (case k => k_is)
      · refine' ⟨_, _, L2.dfk_mk ?n ?l ?c ?k⟩
        (case n => k_is)
        (case l => k_is)
        (case c => k_is)
        (case k => k_is)
      · refine' ⟨_, _, L2.dfk_mk ?n ?l ?c ?k⟩
        (case n => k_is)
        (case l => k_is)
        (case c => k_is)
        (case k => k_is)
      · refine' ⟨_, _, L2.dfk_mk ?n ?l ?c ?k⟩
        (case n => k_is)
        (case l => k_is)
        (case c => k_is)
        (case k => k_is)
      · refine' ⟨_, _, L2.dfk_mk ?n ?l ?c ?k⟩
        (case n => k_is)
        (case l => k_is)
        (case c => k_is)
        (case k => k_is)
      · refine' ⟨_, _, L2.dfk_mk ?n ?l ?c ?k⟩
        (case n => k_is)
        (case l => k_is)
        (case c => k_is)
        (case k => k_is)
      · refine' ⟨_, _, L2.dfk_mk ?n ?l ?c ?k⟩
        (case n => k_is)
        (case l => k_is)
        (case c => k_is)
        (case k => k_is)
      · refine' ⟨_, _, L2.dfk_mk ?n ?l ?c ?k⟩
        (case n => k_is)
        (case l => k_is)
        (case c => k_is)
        (case k => k_is)
      · refine' ⟨_, _, _, L2.dfk_mk ?n ?l ?c ?k, L2.gnk_mk ?l1 ?d1 ?v1 ?z1⟩
        (case n => k_is)
        (case l => k_is)
        (case c => k_is)
        (case k => k_is)
        (case l1 => k_is)
        (case d1 => rfl)
        (case v1 => rfl)
        (case z1 => kernel_rfl)
      · refine' ⟨_, _, _, L2.dfk_mk ?n ?l ?c ?k, L2.gnk_mk ?l1 ?d1 ?v1 ?z1⟩
        (case n => k_is)
        (case l => k_is)
        (case c => k_is)
        (case k => k_is)
        (case l1 => k_is)
        (case d1 => rfl)
        (case v1 => rfl)
        (case z1 => kernel_rfl)
      · refine' ⟨_, _, _, L2.dfk_mk ?n ?l ?c ?k, L2.gnk_mk ?l1 ?d1 ?v1 ?z1⟩
        (case n => k_is)
        (case l => k_is)
        (case c => k_is)
        (case k => k_is)
        (case l1 => k_is)
        (case d1 => rfl)
        (case v1 => rfl)
        (case z1 => kernel_rfl)
      · refine' L2.bm_mk ?n ?l
        (case n => k_is)
        (case l => kernel_rfl)
      · refine' L2.cst_mk ?n
        (case n => k_is)
      · refine' L2.cst_mk ?n
        (case n => k_is)
      · k_is
      · k_is
      · k_is
      · k_is
      · k_is
      · k_is
      · k_is
      · k_is
      · k_is
      · k_is
      · k_is
      · k_is
      · k_is
      · k_is
      · k_is
      · k_is
      · k_is
      · refine' Lw.x_mk ?e0 ?e1 ?e2 ?e3 ?e4 ?e5 ?e6 ?e7 ?e8 ?e9 ?e10 ?e11 ?e12 ?x0 ?x4 ?x7 (L2.cjk_mk ?o0 ?v0 (L2.exk_mk ?ga0 ?gb0 ?gc0 ?gd0 ?ge0 ?gf0) ?le0) (L2.cjk_mk ?o4 ?v4 (L2.exk_mk ?ga4 ?gb4 ?gc4 ?gd4 ?ge4 ?gf4) ?le4) (L2.cjk_mk ?o7 ?v7 (L2.exk_mk ?ga7 ?gb7 ?gc7 ?gd7 ?ge7 ?gf7) ?le7)
        (case e0 => k_is)
        (case e1 => k_is)
        (case e2 => k_is)
        (case e3 => k_is)
        (case e4 => k_is)
        (case e5 => k_is)
        (case e6 => k_is)
        (case e7 => k_is)
        (case e8 => k_is)
        (case e9 => k_is)
        (case e10 => k_is)
        (case e11 => k_is)
        (case e12 => k_is)
        (case x0 => first | k_exc | kernel_rfl)
        (case x4 => first | k_exc | kernel_rfl)
        (case x7 => first | k_exc | kernel_rfl)
        (case o0 => first | kernel_rfl | k_is)
        (case v0 => first | kernel_rfl | k_is)
        (case ga0 => k_is)
        (case gb0 => k_is)
        (case gc0 => k_is)
        (case gd0 => k_is)
        (case ge0 => k_is)
        (case gf0 => k_is)
        (case le0 => first | kernel_rfl | k_is)
        (case o4 => first | kernel_rfl | k_is)
        (case v4 => first | kernel_rfl | k_is)
        (case ga4 => k_is)
        (case gb4 => k_is)
        (case gc4 => k_is)
        (case gd4 => k_is)
        (case ge4 => k_is)
        (case gf4 => k_is)
        (case le4 => first | kernel_rfl | k_is)
        (case o7 => first | kernel_rfl | k_is)
        (case v7 => first | kernel_rfl | k_is)
        (case ga7 => k_is)
        (case gb7 => k_is)
        (case gc7 => k_is)
        (case gd7 => k_is)
        (case ge7 => k_is)
        (case gf7 => k_is)
        (case le7 => first | kernel_rfl | k_is)
    exact Lw.fin KX G hmg tab bmx ⟨_, rfl⟩ ⟨_, rfl⟩ ⟨_, rfl⟩ T
