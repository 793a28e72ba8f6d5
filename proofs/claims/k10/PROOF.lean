import PyProof.Rows.All
import Wide.All
import OpenK.AllK
import Wide.FinOn
import Lean
import PyProof.EqAt
import PyProof.EqKinds
import PyProof.TupleCall
import PyProof.CompFree
import PyProof.StrWalks
import PyProof.ReprRoads
import PyProof.ReprLen
import PyProof.ToksMono
import KE.IntTextLaws
import PyProof.NeKinds
import PyProof.CallFns
import PyProof.NoPylong
import PyProof.FitsBits
import KE.KIsAll
import PyProof.Rows.RuleB_bool
import PyProof.Rows.BitMore
import PySem.Challenge.RW_grassnake_k10_signs
set_option Elab.async false
set_option linter.all false
set_option maxRecDepth 100000
/-! THE HAND LAYER, for ints, bools, texts, own classes, LISTS and tuples (index, slices, in, append, pop ..), calls, loops. Paste it whole ahead of your own text; what your proof does not reach may be deleted. -/
namespace L2
open PySem PySem.Spec PyProof.Rows

/-- a key: an int or a str -/
abbrev Key := Sum Int Str
def keyIs : Key → Value → Bool
  | .inl k, v => Value.isInt k v
  | .inr x, v => Value.isStrOf x v
def keyH (w : World) : Key → Int
  | .inl k => hashInt k
  | .inr x => hashStr w x
theorem keyIs_shape : ∀ {k : Key} {v : Value}, keyIs k v = true → (∃ i t, k = Sum.inl i ∧ v = Value.int i t) ∨ (∃ x t, k = Sum.inr x ∧ v = Value.str x t)
  | .inl i, v, h => by
    obtain ⟨t, e⟩ := Value.isInt_shape (k := i) (v := v) h
    exact .inl ⟨i, t, rfl, e⟩
  | .inr x, v, h => by
    obtain ⟨t, e⟩ := Value.isStrOf_shape (x := x) (v := v) h
    exact .inr ⟨x, t, rfl, e⟩
theorem keyIs_int (i : Int) (t : Tok) : keyIs (.inl i) (.int i t) = true := by simp [keyIs, Value.isInt]
theorem keyIs_str (x : Str) (t : Tok) : keyIs (.inr x) (.str x t) = true := by simp [keyIs, Value.isStrOf]
theorem key_ll (a b : Int) : decide ((Sum.inl a : Key) = Sum.inl b) = (a == b) := by
  by_cases e : a = b
  · subst e; simp
  · have h : ¬ (Sum.inl a : Key) = Sum.inl b := fun q => e (Sum.inl.inj q)
    rw [decide_eq_false h]
    exact (beq_eq_false_iff_ne.mpr e).symm
theorem key_rr (a b : Str) : decide ((Sum.inr a : Key) = Sum.inr b) = decide (a = b) := by
  by_cases e : a = b
  · subst e; simp
  · have h : ¬ (Sum.inr a : Key) = Sum.inr b := fun q => e (Sum.inr.inj q)
    rw [decide_eq_false h, decide_eq_false e]
theorem key_lr (a : Int) (b : Str) : decide ((Sum.inl a : Key) = Sum.inr b) = false := decide_eq_false (fun q => nomatch q)
theorem key_rl (a : Str) (b : Int) : decide ((Sum.inr a : Key) = Sum.inl b) = false := decide_eq_false (fun q => nomatch q)

def mixKind (prog : Program) (w : World) : PySem.KeyKind prog w Key where
  is := keyIs
  hash := keyH w
  inj := fun v a b ha hb => by
    rcases keyIs_shape ha with ⟨i, t, rfl, rfl⟩ | ⟨x, t, rfl, rfl⟩
    · rcases keyIs_shape hb with ⟨j, u, rfl, e⟩ | ⟨y, u, rfl, e⟩
      · injection e with e1 _; rw [e1]
      · exact nomatch e
    · rcases keyIs_shape hb with ⟨j, u, rfl, e⟩ | ⟨y, u, rfl, e⟩
      · exact nomatch e
      · injection e with e1 _; rw [e1]
  byValue := fun k v h => by
    rcases keyIs_shape h with ⟨i, t, rfl, rfl⟩ | ⟨x, t, rfl, rfl⟩ <;> rfl
  pyHash := fun hv h => by
    rcases keyIs_shape hv with ⟨i, t, rfl, rfl⟩ | ⟨x, t, rfl, rfl⟩
    · exact wpAny_pyHash_int h
    · exact wpAny_pyHash_str h
  eqBool := fun hu hv h => by
    rcases keyIs_shape hu with ⟨i, t, rfl, rfl⟩ | ⟨x, t, rfl, rfl⟩
    · rcases keyIs_shape hv with ⟨j, u, rfl, rfl⟩ | ⟨y, u, rfl, rfl⟩
      · rw [key_ll] at h; exact wpAny_eqBool_int h
      · rw [key_lr] at h; exact SeqAt.EqAt.int_str i t y u _ _ _ _ h
    · rcases keyIs_shape hv with ⟨j, u, rfl, rfl⟩ | ⟨y, u, rfl, rfl⟩
      · rw [key_rl] at h; exact SeqAt.EqAt.str_int x t j u _ _ _ _ h
      · rw [key_rr] at h; exact wpAny_eqBool_str h
  «strs» := fun k x t v h => by
    rcases keyIs_shape h with ⟨i, u, rfl, e⟩ | ⟨y, u, rfl, e⟩
    · exact nomatch e
    · injection e with e1 _
      subst e1
      cases v <;> rfl

theorem mixKind_is (prog : Program) (w : World) (k : Key) (v : Value) : (mixKind prog w).is k v = keyIs k v := rfl
theorem mixKind_int (prog : Program) (w : World) (i : Int) (t : Tok) : (mixKind prog w).is (.inl i) (.int i t) = true := keyIs_int i t
theorem mixKind_str (prog : Program) (w : World) (x : Str) (t : Tok) : (mixKind prog w).is (.inr x) (.str x t) = true := keyIs_str x t
end L2

namespace L2
open PySem PySem.Spec PyProof.Rows

/-- a value, without the heap -/
inductive V where
  | non | bl (b : Bool) | int (i : Int) | str (x : Str) | byt (b : Array UInt8) | flt (b : UInt64) | ref (a : Addr) | ty (n : String)
  deriving DecidableEq

def RelV : V → Value → Prop
  | .non, u => u = Value.none
  | .bl b, u => u = Value.bool b
  | .int i, u => ∃ t, u = Value.int i t
  | .str x, u => ∃ t, u = Value.str x t
  | .byt b, u => ∃ t, u = Value.bytes b t
  | .flt b, u => ∃ t, u = Value.float b t
  | .ref a, u => u = Value.ref a
  | .ty n, u => u = Value.type n

abbrev Vals : List V → List Value → Prop := Paired RelV
theorem Vals.length {xs : List V} {us : List Value} (r : Vals xs us) : xs.length = us.length := Paired.length r
theorem Vals.get : ∀ {xs : List V} {us : List Value} {i : Nat} {x : V}, Vals xs us → xs[i]? = some x → ∃ u, us[i]? = some u ∧ RelV x u
  | _, _, _, _, .nil, e => by simp at e
  | _, _, 0, _, .cons r _, e => by simp at e; subst e; exact ⟨_, rfl, r⟩
  | _, _, i + 1, x, .cons _ t, e => by
    obtain ⟨u, h1, h2⟩ := Vals.get (i := i) (x := x) t (by simpa using e)
    exact ⟨u, by simpa using h1, h2⟩
theorem Vals.set {x : V} {u : Value} (r : RelV x u) : ∀ {xs : List V} {us : List Value} (i : Nat), Vals xs us → Vals (xs.set i x) (us.set i u)
  | _, _, _, .nil => .nil
  | _, _, 0, .cons _ t => .cons r t
  | _, _, i + 1, .cons q t => .cons q (Vals.set r i t)
theorem Vals.append : ∀ {xs ys : List V} {us ws : List Value}, Vals xs us → Vals ys ws → Vals (xs ++ ys) (us ++ ws)
  | _, _, _, _, .nil, s => s
  | _, _, _, _, .cons r t, s => .cons r (Vals.append t s)
theorem Vals.take : ∀ {xs : List V} {us : List Value} (n : Nat), Vals xs us → Vals (xs.take n) (us.take n)
  | _, _, 0, _ => .nil
  | _, _, _ + 1, .nil => .nil
  | _, _, n + 1, .cons r t => .cons r (Vals.take n t)
theorem Vals.drop : ∀ {xs : List V} {us : List Value} (n : Nat), Vals xs us → Vals (xs.drop n) (us.drop n)
  | _, _, 0, r => r
  | _, _, _ + 1, .nil => .nil
  | _, _, n + 1, .cons _ t => Vals.drop n t
theorem Vals.none_of : ∀ {xs : List V} {us : List Value} {i : Nat}, Vals xs us → xs[i]? = none → us[i]? = none := fun {xs us i} r e => by
  have h1 := r.length
  have h2 : xs.length ≤ i := List.getElem?_eq_none_iff.mp e
  exact List.getElem?_eq_none_iff.mpr (by omega)

def RelO : Option V → Option Value → Prop
  | some v, some u => RelV v u
  | none, none => True
  | _, _ => False
def KV {κ : Type} : List (κ × V) → List (κ × Value) → Prop := Paired fun (p : κ × V) (q : κ × Value) => p.1 = q.1 ∧ RelV p.2 q.2

/-- a key of a dict (00_mix): an int or a text -/
def kV : Key → V
  | .inl i => .int i
  | .inr x => .str x

/-- what stands at a tracked address -/
inductive HO where
  /-- a list -/
  | lst (xs : List V)
  /-- a tuple (never changes) -/
  | tup (xs : List V)
  /-- a dict whose keys are ints and texts; one whose keys are tuples of ints and texts (the empty one is both) -/
  | dK (kvs : List (Key × V)) | dT (kvs : List (List Key × V))
  /-- a set of ints: its members, its size -/
  | set (S : Int → Bool) (n : Nat)
  /-- an instance of the class at C, its dict at dx, its attributes -/
  | ins (C dx : Addr) (fs : List (Str × V))
  /-- the dict of the instance at x -/
  | own (x : Addr)
  /-- the dict of an exception -/
  | xd (fs : List (Str × V))
  /-- a bound method, f of x -/
  | met (f x : Addr)
  /-- a range object lo, lo + 1, .. below hi -/
  | rng (lo hi : Int)
  /-- a thing that is known to the object (the script; a dict while a loop walks it): read, never written while it is so -/
  | frz (o : Obj) (u : HO)
  /-- a code object's table -/
  | tbl (ps : Array Value)
  /-- any other thing, by what is true of its one object (a def of one's own: SetO a S n := HO.ext fun h => ..) -/
  | ext (φ : Heap → Prop)

abbrev Hp := Addr → Option HO
def upd (H : Hp) (a : Addr) (o : HO) : Hp := fun b => if b = a then some o else H b
theorem upd_same {H : Hp} {a : Addr} {o : HO} : upd H a o a = some o := by unfold upd; rw [if_pos rfl]
theorem upd_ne {H : Hp} {a b : Addr} {o : HO} (h : b ≠ a) : upd H a o b = H b := by unfold upd; rw [if_neg h]
theorem upd_upd {H : Hp} {a : Addr} {o u : HO} : upd (upd H a o) a u = upd H a u := by
  funext b; unfold upd; split <;> rfl
/-- two objects of different content stand apart -/
theorem ne_of {H : Hp} {a b : Addr} {o u : HO} (h : H a = some o) (h' : H b = some u) (d : o ≠ u) : a ≠ b := by
  intro e; subst e; rw [h] at h'; exact d (Option.some.inj h')
theorem ne_of_none {H : Hp} {a b : Addr} {o : HO} (h : H a = some o) (h' : H b = none) : a ≠ b := by
  intro e; subst e; rw [h] at h'; cases h'

section
variable (P : Program) (w : World)
def ObjOk (H : Hp) (h : Heap) (a : Addr) : HO → Prop
  | .lst xs => xs.length ≤ sizeLine ∧ ∃ (its : List Value) (n : Nat), Vals xs its ∧ h.get? a = some { cls := .type "list", data := .seq its.toArray n }
  | .tup xs => xs.length ≤ sizeLine ∧ ∃ its : List Value, Vals xs its ∧ IsTup h a its.toArray
  | .dK kvs => kvs.length ≤ sizeLine ∧ (a == sysModules) = false ∧ ∃ vs, KV kvs vs ∧ h.DictOf (mixKind P w) a vs
  | .dT kvs => kvs.length ≤ sizeLine ∧ (a == sysModules) = false ∧ ∃ xs : List (List Key × Addr × Value),
      Paired (fun (p : List Key × V) (q : List Key × Addr × Value) => p.1 = q.1 ∧ H q.2.1 = some (.tup (p.1.map kV)) ∧ RelV p.2 q.2.2) kvs xs ∧
      ∃ o es ep, h.get? a = some o ∧ o.ExactDict ∧ o.data = .dict es ep ∧ es.toList = xs.map (entryOfKey (tupleKind (mixKind P w))) ∧ (xs.map (·.1)).Nodup
  | .set S n => h.SetOf (intKind P w) a S n
  | .ins C dx fs => H dx = some (.own a) ∧ fs.length ≤ 1000 ∧ dx ≠ a ∧ h.get? a = some (PySem.W.instObj C dx) ∧
      ∃ mA, h.Ns1 dx mA ∧ (∀ f, RelO (fs.lookup f) (mA f)) ∧ PySem.Within mA (fs.map (·.1))
  | .own _ => ∃ o, h.get? a = some o
  | .xd fs => ∃ mA, h.Ns1 a mA ∧ ∀ f, RelO (fs.lookup f) (mA f)
  | .rng lo hi => ∃ t u v, h.get? a = some { cls := .type "range", data := .fields #[.int lo t, .int hi u, .int 1 v] }
  | .frz o u => h.get? a = some o ∧ ObjOk H h a u
  | .tbl ps => h.get? a = some { cls := .none, data := .fields ps }
  | .met f x => h.get? a = some (PySem.W.methodObj (.ref f) (.ref x))
  | .ext φ => φ h ∧ (∃ o, h.get? a = some o) ∧ ∀ h1 h2 : Heap, φ h1 → (∀ o, h1.get? a = some o → h2.get? a = some o) → φ h2
/-- the abstract heap is held -/
def HOk (H : Hp) (h : Heap) : Prop := ∀ a o, H a = some o → ObjOk P w H h a o
end

section
variable {P : Program} {w : World} {H H' : Hp} {h h' : Heap} {a : Addr} {o : HO}
theorem ObjOk.lt (x : ObjOk P w H h a o) : a < h.objs.size := by
  cases o with
  | lst xs => obtain ⟨_, _, _, _, e⟩ := x; exact Heap.lt_size e
  | tup xs => obtain ⟨_, _, _, p⟩ := x; exact p.lt
  | dK kvs => obtain ⟨_, _, _, _, o, _, _, e, _⟩ := x; exact Heap.lt_size e
  | dT kvs => obtain ⟨_, _, _, _, o, _, _, e, _⟩ := x; exact Heap.lt_size e
  | set S n => obtain ⟨o, _, _, _, e, _⟩ := x; exact Heap.lt_size e
  | ins C dx fs => obtain ⟨_, _, _, e, _⟩ := x; exact Heap.lt_size e
  | own y => obtain ⟨_, e⟩ := x; exact Heap.lt_size e
  | xd fs => obtain ⟨_, ⟨_, _, _, e, _⟩, _⟩ := x; exact Heap.lt_size e
  | rng lo hi => obtain ⟨_, _, _, e⟩ := x; exact Heap.lt_size e
  | frz ob u => obtain ⟨e, _⟩ := x; exact Heap.lt_size e
  | tbl ps => exact Heap.lt_size (show h.get? a = some _ from x)
  | met f y => exact Heap.lt_size (show h.get? a = some _ from x)
  | ext φ => obtain ⟨_, ⟨_, e⟩, _⟩ := x; exact Heap.lt_size e
theorem Paired.mapP {α β : Type} {F G : α → β → Prop} : ∀ {l₁ : List α} {l₂ : List β}, Paired F l₁ l₂ → (∀ a b, F a b → G a b) → Paired G l₁ l₂
  | _, _, .nil, _ => .nil
  | _, _, .cons r t, f => .cons (f _ _ r) (Paired.mapP t f)
theorem Paired.imp' {α β : Type} {F G : α → β → Prop} (f : ∀ a b, F a b → G a b) {l₁ : List α} {l₂ : List β} (r : Paired F l₁ l₂) : Paired G l₁ l₂ := Paired.mapP r f
/-- what an object's description leans on: its own object, its own dict, the tuples -/
theorem ObjOk.stay (x : ObjOk P w H h a o) (k : ∀ b u, (b = a ∨ H b = some (.own a)) → h.get? b = some u → h'.get? b = some u)
    (ho : ∀ b, H b = some (.own a) → H' b = some (.own a)) (ht : ∀ b xs, H b = some (.tup xs) → H' b = some (.tup xs)) : ObjOk P w H' h' a o := by
  induction o with
  | lst xs => obtain ⟨z, its, n, r, e⟩ := x; exact ⟨z, its, n, r, k _ _ (.inl rfl) e⟩
  | tup xs => obtain ⟨z, its, r, ob, e, c⟩ := x; exact ⟨z, its, r, ob, k _ _ (.inl rfl) e, c⟩
  | dK kvs => obtain ⟨z, y, vs, r, ob, es, ep, e, c⟩ := x; exact ⟨z, y, vs, r, ob, es, ep, k _ _ (.inl rfl) e, c⟩
  | dT kvs =>
    obtain ⟨z, y, xs, r, ob, es, ep, e, c⟩ := x
    exact ⟨z, y, xs, Paired.mapP r fun p q z => ⟨z.1, ht _ _ z.2.1, z.2.2⟩, ob, es, ep, k _ _ (.inl rfl) e, c⟩
  | set S n => obtain ⟨ob, es, ep, t, e, c⟩ := x; exact ⟨ob, es, ep, t, k _ _ (.inl rfl) e, c⟩
  | ins C dx fs =>
    obtain ⟨d, z, ne, e, mA, ⟨od, es, ep, e2, c⟩, r⟩ := x
    exact ⟨ho _ d, z, ne, k _ _ (.inl rfl) e, mA, ⟨od, es, ep, k _ _ (.inr d) e2, c⟩, r⟩
  | own y => obtain ⟨ob, e⟩ := x; exact ⟨ob, k _ _ (.inl rfl) e⟩
  | xd fs => obtain ⟨mA, ⟨od, es, ep, e, c⟩, r⟩ := x; exact ⟨mA, ⟨od, es, ep, k _ _ (.inl rfl) e, c⟩, r⟩
  | rng lo hi => obtain ⟨t, u, v, e⟩ := x; exact ⟨t, u, v, k _ _ (.inl rfl) e⟩
  | frz ob u ih => obtain ⟨e, q⟩ := x; exact ⟨k _ _ (.inl rfl) e, ih q⟩
  | tbl ps =>
    have e : h.get? a = some { cls := .none, data := .fields ps } := x
    show h'.get? a = some { cls := .none, data := .fields ps }
    exact k a _ (.inl rfl) e
  | met f y =>
    have e : h.get? a = some (PySem.W.methodObj (.ref f) (.ref y)) := x
    show h'.get? a = some (PySem.W.methodObj (.ref f) (.ref y))
    exact k a _ (.inl rfl) e
  | ext φ => obtain ⟨p, ⟨o, e⟩, st⟩ := x; exact ⟨st _ _ p fun o q => k _ _ (.inl rfl) q, ⟨o, k _ _ (.inl rfl) e⟩, st⟩
theorem HOk.lt (x : HOk P w H h) (e : H a = some o) : a < h.objs.size := (x a o e).lt
theorem HOk.fresh (x : HOk P w H h) (e : h.objs.size ≤ a) : H a = none := by
  cases q : H a with
  | none => rfl
  | some u => exact absurd (Nat.lt_of_lt_of_le (x.lt q) e) (Nat.lt_irrefl _)
/-- every object of the heap is kept -/
theorem HOk.kept (x : HOk P w H h) (k : ∀ b u, h.get? b = some u → h'.get? b = some u) : HOk P w H h' := fun a o e =>
  (x a o e).stay (fun b u _ q => k b u q) (fun _ q => q) fun _ _ q => q
/-- a new object is laid and tracked -/
theorem HOk.laid (x : HOk P w H h) (k : ∀ b u, h.get? b = some u → h'.get? b = some u) (hp : h.objs.size ≤ a) (new : ObjOk P w (upd H a o) h' a o) : HOk P w (upd H a o) h' := fun b u e => by
  have hn := x.fresh hp
  by_cases hb : b = a
  · subst hb; rw [upd_same] at e; cases e; exact new
  · rw [upd_ne hb] at e
    exact (x b u e).stay (fun c v _ q => k c v q) (fun c q => by rw [upd_ne (ne_of_none q hn)]; exact q) fun c xs q => by rw [upd_ne (ne_of_none q hn)]; exact q
end

/-- what may be read as u: it is u, or a known u -/
def Rd (H : Hp) (a : Addr) (u : HO) : Prop := H a = some u ∨ ∃ o, H a = some (.frz o u)
theorem Rd.of {H : Hp} {a : Addr} {u : HO} (h : H a = some u) : Rd H a u := .inl h
theorem Rd.ok {P : Program} {w : World} {H : Hp} {h : Heap} {a : Addr} {u : HO} (r : Rd H a u) (x : HOk P w H h) : ObjOk P w H h a u := by
  rcases r with r | ⟨o, r⟩
  · exact x a u r
  · obtain ⟨_, q⟩ := x a _ r
    exact q
/-- what may be written -/
def Mut : Option HO → Prop
  | some (.lst _) => True
  | some (.dK _) => True
  | some (.dT _) => True
  | some (.set _ _) => True
  | some (.ins _ _ _) => True
  | some (.ext _) => True
  | _ => False
section
variable {P : Program} {w : World} {H : Hp} {h h' : Heap} {x e : Addr} {o' : HO}
/-- the object at e is changed: x itself, or the dict of the instance x -/
theorem HOk.write (ok : HOk P w H h) (mu : Mut (H x)) (he : e = x ∨ H e = some (.own x)) (k : ∀ b u, b ≠ e → h.get? b = some u → h'.get? b = some u) (heo : ∃ u, h'.get? e = some u)
    (new : ObjOk P w (upd H x o') h' x o') : HOk P w (upd H x o') h' := fun b u q => by
  have nown : ∀ c y, H c = some (.own y) → c ≠ x := fun c y r z => by subst z; rw [r] at mu; exact mu
  have ntup : ∀ c xs, H c = some (.tup xs) → c ≠ x := fun c xs r z => by subst z; rw [r] at mu; exact mu
  by_cases hb : b = x
  · subst hb; rw [upd_same] at q; cases q; exact new
  · rw [upd_ne hb] at q
    by_cases hbe : b = e
    · have q' : H b = some (.own x) := by
        rcases he with z | z
        · exact absurd (hbe.trans z) hb
        · rw [hbe]; exact z
      rw [q] at q'; cases q'
      obtain ⟨v, hv⟩ := heo
      exact ⟨v, by rw [hbe]; exact hv⟩
    · refine (ok b u q).stay (fun c v hc r => k c v ?_ r) (fun c r => by rw [upd_ne (nown c b r)]; exact r) fun c xs r => by rw [upd_ne (ntup c xs r)]; exact r
      rcases hc with rfl | hc
      · exact hbe
      · rintro rfl
        rcases he with z | z
        · exact nown c b hc z
        · rw [hc] at z; cases z; exact hb rfl
end

/-! ### kept unless tracked; of the frames at fs (the callers') the slots may change (an exception that passes writes there); of the records at ex (iterators) nothing is said -/
structure Un (fs ex : List Addr) (H H' : Hp) (h h' : Heap) : Prop where
  keep : ∀ b o, h.get? b = some o → H b = none → b ∉ fs → b ∉ ex → h'.get? b = some o
  slot : ∀ b o, h.get? b = some o → H b = none → b ∈ fs → b ∉ ex → ∃ sl, h'.get? b = some { o with slots := sl }
  free : ∀ b o, h.get? b = some o → H b = none → b ∉ ex → H' b = none
  there : ∀ b o, h.get? b = some o → b ∉ ex → ∃ o', h'.get? b = some o'
  tups : ∀ b xs, H b = some (.tup xs) → H' b = some (.tup xs)
  frzs : ∀ b o u, H b = some (.frz o u) → H' b = some (.frz o u)
  tbls : ∀ b ps, H b = some (.tbl ps) → ∃ more, H' b = some (.tbl (ps ++ more))
section
variable {fs fs' ex ex' : List Addr} {H H1 H2 : Hp} {h h1 h2 h' : Heap} {a x e : Addr} {o : HO}
theorem Un.any (u : Un fs ex H H1 h h1) {b : Addr} {ob : Obj} (q : h.get? b = some ob) (n : H b = none) (hx : b ∉ ex) : ∃ sl, h1.get? b = some { ob with slots := sl } := by
  by_cases hb : b ∈ fs
  · exact u.slot b ob q n hb hx
  · exact ⟨ob.slots, u.keep b ob q n hb hx⟩
theorem Un.trans (a : Un fs ex H H1 h h1) (b : Un fs ex H1 H2 h1 h2) : Un fs ex H H2 h h2 where
  keep := fun c ob q n hc hx => b.keep c ob (a.keep c ob q n hc hx) (a.free c ob q n hx) hc hx
  slot := fun c ob q n hc hx => by
    obtain ⟨sl, e1⟩ := a.slot c ob q n hc hx
    obtain ⟨sl', e2⟩ := b.slot c _ e1 (a.free c ob q n hx) hc hx
    exact ⟨sl', e2⟩
  free := fun c ob q n hx => by
    obtain ⟨o', e1⟩ := a.there c ob q hx
    exact b.free c o' e1 (a.free c ob q n hx) hx
  there := fun c ob q hx => by
    obtain ⟨o', e1⟩ := a.there c ob q hx
    exact b.there c o' e1 hx
  tups := fun c xs q => b.tups c xs (a.tups c xs q)
  frzs := fun c ob xs q => b.frzs c ob xs (a.frzs c ob xs q)
  tbls := fun c ps q => by
    obtain ⟨m1, e1⟩ := a.tbls c ps q
    obtain ⟨m2, e2⟩ := b.tbls c _ e1
    exact ⟨m1 ++ m2, by rw [e2, Array.append_assoc]⟩
theorem Un.kept (k : ∀ b u, h.get? b = some u → h'.get? b = some u) : Un fs ex H H h h' :=
  ⟨fun b ob q _ _ _ => k b ob q, fun b ob q _ _ _ => ⟨ob.slots, k b ob q⟩, fun _ _ _ n _ => n, fun b ob q _ => ⟨ob, k b ob q⟩, fun _ _ q => q, fun _ _ _ q => q, fun _ ps q => ⟨#[], by rw [q]; simp⟩⟩
theorem Un.refl : Un fs ex H H h h := Un.kept fun _ _ q => q
theorem Un.laid (k : ∀ b u, h.get? b = some u → h'.get? b = some u) (hp : h.objs.size ≤ a) (hn : H a = none) : Un fs ex H (upd H a o) h h' where
  keep := fun b u q _ _ _ => k b u q
  slot := fun b u q _ _ _ => ⟨u.slots, k b u q⟩
  free := fun b u q n _ => by rw [upd_ne (Nat.ne_of_lt (Nat.lt_of_lt_of_le (Heap.lt_size q) hp))]; exact n
  there := fun b u q _ => ⟨u, k b u q⟩
  tups := fun b xs q => by rw [upd_ne (ne_of_none q hn)]; exact q
  frzs := fun b u xs q => by rw [upd_ne (ne_of_none q hn)]; exact q
  tbls := fun b ps q => ⟨#[], by rw [upd_ne (ne_of_none q hn), q]; simp⟩
theorem Un.write (mu : Mut (H x)) (he : e = x ∨ H e = some (.own x)) (k : ∀ b u, b ≠ e → h.get? b = some u → h'.get? b = some u) (heo : ∃ u, h'.get? e = some u) : Un fs ex H (upd H x o) h h' := by
  have hx : ∀ b, H b = none → b ≠ x := fun b n z => by subst z; rw [n] at mu; exact mu
  have hb : ∀ b, H b = none → b ≠ e := fun b n z => by
    subst z
    rcases he with r | r
    · exact hx b n r
    · rw [n] at r; cases r
  have hm : ∀ b u, H b = some u → ¬ Mut (some u) → b ≠ x := fun b u q nm z => by subst z; rw [q] at mu; exact nm mu
  refine ⟨fun b u q n _ _ => k b u (hb b n) q, fun b u q n _ _ => ⟨u.slots, k b u (hb b n) q⟩, fun b u q n _ => by rw [upd_ne (hx b n)]; exact n, fun b u q _ => ?_,
    fun b xs q => by rw [upd_ne (hm b _ q fun z => z)]; exact q, fun b u xs q => by rw [upd_ne (hm b _ q fun z => z)]; exact q, fun b ps q => ⟨#[], by rw [upd_ne (hm b _ q fun z => z), q]; simp⟩⟩
  by_cases hbe : b = e
  · subst hbe; exact heo
  · exact ⟨u, k b u hbe q⟩
theorem Un.mono (u : Un fs ex H H1 h h1) (hs : ∀ b ∈ fs, b ∈ fs') (hx : ∀ b ∈ ex, b ∈ ex') : Un fs' ex' H H1 h h1 :=
  ⟨fun b ob q n hb he => u.keep b ob q n (fun z => hb (hs b z)) fun z => he (hx b z), fun _ _ q n _ he => u.any q n fun z => he (hx _ z), fun b ob q n he => u.free b ob q n fun z => he (hx b z), fun b ob q he => u.there b ob q fun z => he (hx b z), u.tups, u.frzs, u.tbls⟩
end

/-! ### the heap without what is tracked -/
def trk (h : Heap) (H : Hp) : List Addr := (List.range h.objs.size).filter fun a => (H a).isSome
def hidT (h : Heap) (H : Hp) : Heap := PySem.W.hideAll h (trk h H)
theorem hidT_size (h : Heap) (H : Hp) : (hidT h H).objs.size = h.objs.size := PySem.W.hideAll_size _ _
theorem hidT_get {h : Heap} {H : Hp} {b : Addr} {o : Obj} (e : h.get? b = some o) (n : H b = none) : (hidT h H).get? b = some o :=
  PySem.W.hideAll_get _ e fun hm => by
    have q : (H b).isSome = true := (List.mem_filter.mp hm).2
    rw [n] at q; simp at q
theorem of_hidT {h : Heap} {H : Hp} {b : Addr} {o : Obj} (e : (hidT h H).get? b = some o) : h.get? b = some o ∧ H b = none := by
  have e' : h.get? b = some o := PySem.W.of_hideAll (trk h H) e
  refine ⟨e', ?_⟩
  cases q : H b with
  | none => rfl
  | some x =>
    have hm : b ∈ trk h H := List.mem_filter.mpr ⟨List.mem_range.mpr (Heap.lt_size e'), by simp [q]⟩
    have z : (hidT h H).get? b = none := PySem.W.hideAll_none (trk h H) hm
    rw [z] at e; cases e

/-! ### OpenK's ledger, filled with every new object but one -/
def allNews (g h : Heap) (L : Addr) : List (Addr × Obj) := (List.range h.objs.size).filterMap fun a => if a = L ∨ (g.get? a).isSome = true then none else (h.get? a).map fun o => (a, o)
theorem mem_allNews {g h : Heap} {L a : Addr} {o : Obj} (h1 : a ≠ L) (h2 : g.get? a = none) (h3 : h.get? a = some o) : (a, o) ∈ allNews g h L :=
  List.mem_filterMap.mpr ⟨a, List.mem_range.mpr (Heap.lt_size h3), by simp [h1, h2, h3]⟩
theorem of_mem_allNews {g h : Heap} {L : Addr} {p : Addr × Obj} (hp : p ∈ allNews g h L) : p.1 ≠ L ∧ g.get? p.1 = none ∧ h.get? p.1 = some p.2 := by
  obtain ⟨b, _, e⟩ := List.mem_filterMap.mp hp
  split at e
  · cases e
  · rename_i hn
    cases q : h.get? b with
    | none => rw [q] at e; simp at e
    | some u =>
      rw [q] at e
      simp only [Option.map_some, Option.some.injEq] at e
      subst e
      refine ⟨fun z => hn (.inl z), ?_, q⟩
      show g.get? b = none
      cases r : g.get? b with
      | none => rfl
      | some v => exact (hn (.inr (by simp [r]))).elim
def rest (g h : Heap) (L d : Addr) : List (Addr × Obj) := (allNews g h L).filter fun p => decide (p.1 ≠ d)
theorem rest_ne {g h : Heap} {L d : Addr} : ∀ p ∈ rest g h L d, p.1 ≠ d := fun p hp => of_decide_eq_true (List.mem_filter.mp hp).2
theorem mem_rest {g h : Heap} {L d a : Addr} {o : Obj} (h1 : a ≠ L) (h2 : g.get? a = none) (h3 : h.get? a = some o) (h4 : a ≠ d) : (a, o) ∈ rest g h L d :=
  List.mem_filter.mpr ⟨mem_allNews h1 h2 h3, decide_eq_true h4⟩
theorem news_all {g h : Heap} {L : Addr} : News g L h (allNews g h L) := fun p hp => let ⟨a, b, c⟩ := of_mem_allNews hp; ⟨c, a, b⟩
theorem news_at {g h : Heap} {L d : Addr} {o : Obj} (h1 : d ≠ L) (h2 : g.get? d = none) (h3 : h.get? d = some o) : News g L h ((d, o) :: rest g h L d) := fun p hp => by
  rcases List.mem_cons.mp hp with rfl | hp
  · exact ⟨h3, h1, h2⟩
  · exact news_all p (List.mem_filter.mp hp).1
/-- behind a rule that changed d alone: all else but the frame is kept -/
theorem kept_of_news {g h h' : Heap} {L d : Addr} {m : Str → Option Value} (k : ∀ b o, g.get? b = some o → h.get? b = some o) (F : Fr g L h' m) (N : News g L h' (rest g h L d)) :
    ∀ b o, b ≠ L → b ≠ d → h.get? b = some o → h'.get? b = some o := fun b o h1 h2 e => by
  cases q : g.get? b with
  | some u =>
    have := k b u q
    rw [e] at this; cases this
    exact F.keep b _ q
  | none => exact (N (b, o) (mem_rest h1 q e h2)).1
end L2

namespace L2
open PySem PySem.Spec PyProof.Rows

/-- the module's facts, over the base: the heap at the law's entry without what is tracked there -/
structure Mod (K : PySem.W.Frag) (mg : Str → Option Value) (base : Heap) : Prop where
  kin : K.In base
  glob : base.Ns mainGlobals mg
  blt : ∃ mb, base.Ns builtinsNs mb ∧ ∀ x : Str, x ≠ "__name__" → mb x = bootBuiltins x
  nolimit : base.NoLimit

/-- the context: a def's body (or a comprehension's block) running. base: fixed through the whole law; s₀, H₀: the entry; outer: the frames whose slots others may change (a def's callers); stack: all frames that run;
   ex: iterators that were made ahead of the entry and are walked here (a comprehension's); fn: the names whose cells were made at the entry (a def: all; a comprehension's block: its own); calm: not within an except suite; pn: pins that every state bears; xe: what is wanted of an exception that leaves the code -/
structure Cx where
  prog : Program
  w : World
  K : PySem.W.Frag
  mg : Str → Option Value
  base : Heap
  A : Around
  N : List Str
  s₀ : Shared
  H₀ : Hp
  env : Env
  outer : List Env
  stack : List Env
  ex : List Addr
  fn : Str → Bool
  calm : Bool
  pn : List (Addr × Obj)
  xe : Value → Shared → Prop
/-- the callers' frames -/
def frs (l : List Env) : List Addr := l.filterMap (·.frame)
abbrev Cx.fs (X : Cx) : List Addr := frs X.outer

def Vis (sc : Scope) (x : Str) : Prop := sc.names.lookup x = some .local ∨ sc.names.lookup x = some .cell ∨ sc.names.lookup x = some .free
def Loc (sc : Scope) (x : Str) : Prop := sc.names.lookup x = some .local ∨ sc.names.lookup x = some .cell
def Look (env : Env) (h : Heap) (m : Str → Option Value) (x : Str) (u : Value) : Prop :=
  (env.kindOf x = some .local ∧ m x = some u) ∨ ((env.kindOf x = some .cell ∨ env.kindOf x = some .free) ∧ ∃ c, env.cells.lookup x = some c ∧ h.IsCell c (some u))

structure Cx.Ok (X : Cx) : Prop where
  mod : Mod X.K X.mg X.base
  kind : X.env.scope.kind = .function
  glob : X.env.globals = mainGlobals
  blt : X.env.builtins = builtinsNs
  above : X.s₀.heap.objs.size ≤ X.env.locals
  inj : ∀ x y c, X.env.cells.lookup x = some c → X.env.cells.lookup y = some c → x = y
  has : ∀ x, (X.env.kindOf x = some .cell ∨ X.env.kindOf x = some .free) → ∃ c, X.env.cells.lookup x = some c
  cab : ∀ x c, X.fn x = true → X.env.cells.lookup x = some c → X.s₀.heap.objs.size ≤ c
  hd : X.calm = true → X.A.handled = none
  frames : X.A.frames = some X.stack
  stk : X.stack = X.outer ∨ (X.stack = X.env :: X.outer ∧ X.env.frame = some X.env.locals)
  exf : ∀ b ∈ X.ex, b ≠ X.env.locals ∧ ∀ x c, X.env.cells.lookup x = some c → c ≠ b
  bs : ∀ b o, X.base.get? b = some o → X.s₀.heap.get? b = some o ∧ X.H₀ b = none
  bsz : X.base.objs.size ≤ X.s₀.heap.objs.size
  noex : ∀ b o, X.base.get? b = some o → b ∉ X.ex
  exfs : ∀ b ∈ X.ex, b ∉ X.fs
  funs : X.s₀.heap.FunFrames X.base X.outer
  frf : ∀ b ∈ X.fs, X.H₀ b = none

structure Inv (X : Cx) (pins : List (Addr × Obj)) (σ : List (Option V)) (H : Hp) (s : Shared) : Prop where
  ok : X.Ok
  os : s.os = X.s₀.os
  bare : AllBare s.gens
  base : Un X.fs X.ex X.H₀ H X.s₀.heap s.heap
  loc : ∃ m, s.heap.Ns X.env.locals m ∧ ∀ (i : Nat) (x : Str) (v : V), X.N[i]? = some x → σ[i]? = some (some v) → Vis X.env.scope x → ∃ u, RelV v u ∧ Look X.env s.heap m x u
  cell : ∀ x c, X.env.cells.lookup x = some c → ∃ v, s.heap.IsCell c v
  free : H X.env.locals = none
  freeC : ∀ x c, X.env.cells.lookup x = some c → H c = none
  pin : ∀ p ∈ X.pn ++ pins, s.heap.get? p.1 = some p.2 ∧ H p.1 = none ∧ p.1 ≠ X.env.locals ∧ p.1 ∉ X.fs ∧ ∀ v, p.2.data ≠ .cell v
  hok : HOk X.prog X.w H s.heap
  len : σ.length = X.N.length

section
variable {X : Cx} {pins : List (Addr × Obj)} {σ : List (Option V)} {H H' : Hp} {s : Shared} {h' : Heap}

theorem Cx.Ok.nofr (ok : X.Ok) {b : Addr} {o : Obj} (e : X.base.get? b = some o) : b ∉ X.fs := fun hb => by
  have := (ok.funs.mem hb).1
  rw [e] at this; cases this
theorem Inv.bs (I : Inv X pins σ H s) : ∀ b o, X.base.get? b = some o → s.heap.get? b = some o ∧ H b = none := fun b o e =>
  ⟨I.base.keep b o (I.ok.bs b o e).1 (I.ok.bs b o e).2 (I.ok.nofr e) (I.ok.noex b o e), I.base.free b o (I.ok.bs b o e).1 (I.ok.bs b o e).2 (I.ok.noex b o e)⟩
theorem Inv.bk (I : Inv X pins σ H s) : ∀ b o, X.base.get? b = some o → s.heap.get? b = some o := fun b o e => (I.bs b o e).1
theorem Inv.mod (I : Inv X pins σ H s) : Mod X.K X.mg X.base := I.ok.mod
theorem Inv.kIn (I : Inv X pins σ H s) : X.K.In s.heap := I.ok.mod.kin.keeps I.bk
theorem Inv.nolimit (I : Inv X pins σ H s) : s.heap.NoLimit := I.ok.mod.nolimit.keeps I.bk
/-- the frame over the base: for OpenK's rules (K.In X.base is I.mod.kin) -/
theorem Inv.fr (I : Inv X pins σ H s) : ∃ m, Fr X.base X.env.locals s.heap m :=
  let ⟨m, hn, _⟩ := I.loc
  ⟨m, hn, I.bk, Nat.le_trans I.ok.bsz I.ok.above⟩
theorem Inv.lt (I : Inv X pins σ H s) : X.env.locals < s.heap.objs.size := let ⟨_, hn, _⟩ := I.loc; hn.lt
theorem Inv.sz (I : Inv X pins σ H s) : X.s₀.heap.objs.size ≤ s.heap.objs.size := Nat.le_trans I.ok.above (Nat.le_of_lt I.lt)
theorem Inv.nofs (I : Inv X pins σ H s) {a : Addr} (h : s.heap.objs.size ≤ a) : a ∉ X.fs := fun hb => by
  obtain ⟨_, o, ho, _⟩ := I.ok.funs.mem hb
  exact absurd (Nat.lt_of_lt_of_le (Heap.lt_size ho) (Nat.le_trans I.sz h)) (Nat.lt_irrefl _)
theorem Inv.cne (I : Inv X pins σ H s) : ∀ x c, X.env.cells.lookup x = some c → c ≠ X.env.locals := fun x c e z => by
  obtain ⟨v, o, ho, hd⟩ := I.cell x c e
  obtain ⟨m, ⟨o', es, ep, ho', hd', _⟩, _⟩ := I.loc
  rw [z, ho'] at ho; cases ho; rw [hd'] at hd; cases hd
theorem Inv.funs (I : Inv X pins σ H s) : s.heap.FunFrames X.base X.outer := by
  have all : ∀ (l : List Env), (∀ b ∈ frs l, b ∈ X.fs) → X.s₀.heap.FunFrames X.base l → s.heap.FunFrames X.base l := by
    intro l
    induction l with
    | nil => intro _ _; trivial
    | cons env r ih =>
      intro hs hl
      obtain ⟨hk, ⟨L, o, hf, hn, ho, hd⟩, hr⟩ := hl
      have hL : L ∈ X.fs := hs L (by unfold frs; rw [List.filterMap_cons, hf]; exact List.mem_cons_self)
      obtain ⟨sl, e⟩ := I.base.slot L o ho (I.ok.frf L hL) hL fun z => I.ok.exfs L z hL
      exact ⟨hk, ⟨L, _, hf, hn, e, hd⟩, ih (fun b hb => hs b (by unfold frs; rw [List.filterMap_cons, hf]; exact List.mem_cons_of_mem _ hb)) hr⟩
  exact all X.outer (fun _ hb => hb) I.ok.funs

/-- the frames that run, for a call -/
theorem Inv.stack (I : Inv X pins σ H s) : s.heap.FunFrames X.base X.stack := by
  rcases I.ok.stk with e | ⟨e, hf⟩
  · rw [e]; exact I.funs
  · rw [e]
    obtain ⟨m, hn, _⟩ := I.loc
    refine .cons (by rw [I.ok.kind]; decide) hf hn ?_ I.funs
    exact Heap.get?_none_of_le (Nat.le_trans I.ok.bsz I.ok.above)
theorem Inv.stkSub (I : Inv X pins σ H s) : ∀ b ∈ frs X.stack, b ∈ X.env.locals :: X.fs := fun b hb => by
  rcases I.ok.stk with e | ⟨e, hf⟩
  · rw [e] at hb; exact List.mem_cons_of_mem _ hb
  · rw [e] at hb
    unfold frs at hb
    rw [List.filterMap_cons, hf] at hb
    exact hb
theorem Inv.stkFree (I : Inv X pins σ H s) : ∀ b ∈ frs X.stack, H b = none := fun b hb => by
  rcases List.mem_cons.mp (I.stkSub b hb) with e | hb
  · rw [e]; exact I.free
  · obtain ⟨_, o, ho, _⟩ := I.ok.funs.mem hb
    exact I.base.free b o ho (I.ok.frf b hb) fun z => I.ok.exfs b z hb

/-- THE STEP: the untracked objects but the frame and the records at ch are kept (the callers' frames up to slots), the frame's map is kept, the new abstract heap is held -/
theorem Inv.step {g' : Array GenState} {t' : Nat} {d' : Drawn} {ch : List Addr} (I : Inv X pins σ H s)
    (hch : ∀ b ∈ ch, (b ∈ X.ex ∨ X.s₀.heap.objs.size ≤ b) ∧ b ≠ X.env.locals ∧ (∀ x c, X.env.cells.lookup x = some c → c ≠ b) ∧ ∀ p ∈ X.pn ++ pins, p.1 ≠ b)
    (keep : ∀ b o, b ≠ X.env.locals → b ∉ X.fs → b ∉ ch → s.heap.get? b = some o → H b = none → h'.get? b = some o)
    (slot : ∀ b o, b ≠ X.env.locals → b ∈ X.fs → b ∉ ch → s.heap.get? b = some o → H b = none → ∃ sl, h'.get? b = some { o with slots := sl }) (free : ∀ b o, b ∉ ch → s.heap.get? b = some o → H b = none → H' b = none)
    (there : ∀ b o, b ∉ ch → s.heap.get? b = some o → ∃ o', h'.get? b = some o')
    (tups : ∀ b xs, H b = some (.tup xs) → H' b = some (.tup xs)) (frzs : ∀ b o u, H b = some (.frz o u) → H' b = some (.frz o u)) (tbls : ∀ b ps, H b = some (.tbl ps) → ∃ more, H' b = some (.tbl (ps ++ more)))
    (ns : ∀ m, s.heap.Ns X.env.locals m → h'.Ns X.env.locals m) (hok : HOk X.prog X.w H' h') (hg : AllBare g') :
    Inv X pins σ H' { s with heap := h', gens := g', drawn := d', toks := t' } := by
  have neL : ∀ b o, X.s₀.heap.get? b = some o → b ≠ X.env.locals := fun b o e => Nat.ne_of_lt (Nat.lt_of_lt_of_le (Heap.lt_size e) I.ok.above)
  have neC : ∀ b o, X.s₀.heap.get? b = some o → b ∉ X.ex → b ∉ ch := fun b o e hx hb => by
    rcases (hch b hb).1 with z | z
    · exact hx z
    · exact absurd (Nat.lt_of_lt_of_le (Heap.lt_size e) z) (Nat.lt_irrefl _)
  have cellK : ∀ x c, X.env.cells.lookup x = some c → ∀ v, s.heap.IsCell c v → h'.IsCell c v := fun x c e v ⟨o, ho, hd⟩ => by
    have nch : c ∉ ch := fun z => (hch c z).2.2.1 x c e rfl
    by_cases hc : c ∈ X.fs
    · obtain ⟨sl, q⟩ := slot c o (I.cne x c e) hc nch ho (I.freeC x c e)
      exact ⟨_, q, hd⟩
    · exact ⟨o, keep c o (I.cne x c e) hc nch ho (I.freeC x c e), hd⟩
  refine ⟨I.ok, I.os, hg, ⟨fun b o e n hb hx => ?_, fun b o e n hb hx => ?_, fun b o e n hx => ?_, fun b o e hx => ?_, fun b xs e => tups b xs (I.base.tups b xs e), fun b o xs e => frzs b o xs (I.base.frzs b o xs e), fun b ps e => ?_⟩, ?_, fun x c e => ?_, ?_, fun x c e => ?_, fun p hp => ?_, hok, I.len⟩
  · exact keep b o (neL b o e) hb (neC b o e hx) (I.base.keep b o e n hb hx) (I.base.free b o e n hx)
  · obtain ⟨sl, e1⟩ := I.base.slot b o e n hb hx
    obtain ⟨sl', e2⟩ := slot b _ (neL b o e) hb (neC b o e hx) e1 (I.base.free b o e n hx)
    exact ⟨sl', e2⟩
  · obtain ⟨o', e1⟩ := I.base.there b o e hx
    exact free b o' (neC b o e hx) e1 (I.base.free b o e n hx)
  · obtain ⟨o', e1⟩ := I.base.there b o e hx
    exact there b o' (neC b o e hx) e1
  · obtain ⟨m1, e1⟩ := I.base.tbls b ps e
    obtain ⟨m2, e2⟩ := tbls b _ e1
    exact ⟨m1 ++ m2, by rw [e2, Array.append_assoc]⟩
  · obtain ⟨m, hn, hl⟩ := I.loc
    refine ⟨m, ns m hn, fun i x v e1 e2 e3 => ?_⟩
    obtain ⟨u, r, l⟩ := hl i x v e1 e2 e3
    refine ⟨u, r, ?_⟩
    rcases l with l | ⟨k, c, e, z⟩
    · exact .inl l
    · exact .inr ⟨k, c, e, cellK x c e _ z⟩
  · obtain ⟨v, z⟩ := I.cell x c e
    exact ⟨v, cellK x c e v z⟩
  · obtain ⟨m, ⟨o, _, _, ho, _⟩, _⟩ := I.loc
    exact free _ o (fun z => (hch _ z).2.1 rfl) ho I.free
  · obtain ⟨v, o, ho, hd⟩ := I.cell x c e
    exact free c o (fun z => (hch c z).2.2.1 x c e rfl) ho (I.freeC x c e)
  · obtain ⟨e, n, ne, nf, d⟩ := I.pin p hp
    have nch : p.1 ∉ ch := fun z => (hch p.1 z).2.2.2 p hp rfl
    exact ⟨keep p.1 p.2 ne nf nch e n, free p.1 p.2 nch e n, ne, nf, d⟩
/-- .. where the frame's own object is kept too -/
theorem Inv.un {t' : Nat} (I : Inv X pins σ H s) (u : Un X.fs [] H H' s.heap h') (hok : HOk X.prog X.w H' h') : Inv X pins σ H' { s with heap := h', toks := t' } := by
  obtain ⟨m, ⟨o, es, ep, ho, r⟩, _⟩ := id I.loc
  obtain ⟨sl, hL⟩ := u.any ho I.free (by simp)
  exact I.step (g' := s.gens) (d' := s.drawn) (ch := []) (fun _ z => nomatch z) (fun b o _ hb _ e n => u.keep b o e n hb (by simp)) (fun b o _ hb _ e n => u.slot b o e n hb (by simp)) (fun b o _ e n => u.free b o e n (by simp)) (fun b o _ e => u.there b o e (by simp)) u.tups u.frzs u.tbls (fun m' hm => by
    obtain ⟨o', es', ep', ho', r'⟩ := hm
    rw [ho] at ho'; cases ho'
    exact ⟨_, es', ep', hL, r'⟩) hok I.bare
/-- behind a call (or a comprehension's block): the slots of this frame may have changed too, the records at ch may have turned -/
theorem Inv.call {g' : Array GenState} {t' : Nat} {d' : Drawn} {ch : List Addr} (I : Inv X pins σ H s) (u : Un (frs X.stack) ch H H' s.heap h') (hok : HOk X.prog X.w H' h') (hg : AllBare g')
    (hch : ∀ b ∈ ch, (b ∈ X.ex ∨ X.s₀.heap.objs.size ≤ b) ∧ b ≠ X.env.locals ∧ (∀ x c, X.env.cells.lookup x = some c → c ≠ b) ∧ ∀ p ∈ X.pn ++ pins, p.1 ≠ b) :
    Inv X pins σ H' { s with heap := h', gens := g', drawn := d', toks := t' } := by
  obtain ⟨m, ⟨o, es, ep, ho, r⟩, _⟩ := id I.loc
  obtain ⟨sl, hL⟩ := u.any ho I.free fun z => (hch _ z).2.1 rfl
  exact I.step (ch := ch) hch (fun b o hL hb hc e n => u.keep b o e n (fun z => (List.mem_cons.mp (I.stkSub b z)).elim hL hb) hc) (fun b o _ _ hc e n => u.any e n hc) (fun b o hc e n => u.free b o e n hc) (fun b o hc e => u.there b o e hc) u.tups u.frzs u.tbls (fun m' hm => by
    obtain ⟨o', es', ep', ho', r'⟩ := hm
    rw [ho] at ho'; cases ho'
    exact ⟨_, es', ep', hL, r'⟩) hok hg
/-- an untracked record of ours (an iterator) has turned -/
theorem Inv.turned {t' : Nat} {it : Addr} (I : Inv X pins σ H s) (k : ∀ b o, b ≠ it → s.heap.get? b = some o → h'.get? b = some o) (hn : H it = none) (hL : it ≠ X.env.locals)
    (h1 : it ∈ X.ex ∨ X.s₀.heap.objs.size ≤ it) (h2 : ∀ x c, X.env.cells.lookup x = some c → c ≠ it) (h3 : ∀ p ∈ X.pn ++ pins, p.1 ≠ it) : Inv X pins σ H { s with heap := h', toks := t' } := by
  have nit : ∀ b u, H b = some u → b ≠ it := fun b u e z => by rw [z, hn] at e; cases e
  refine I.step (g' := s.gens) (d' := s.drawn) (ch := [it]) (fun b hb => ?_) (fun b o _ _ hc e _ => k b o (fun z => hc (by simp [z])) e) (fun b o _ _ hc e _ => ⟨o.slots, k b o (fun z => hc (by simp [z])) e⟩) (fun _ _ _ _ n => n)
    (fun b o hc e => ⟨o, k b o (fun z => hc (by simp [z])) e⟩) (fun _ _ e => e) (fun _ _ _ e => e) (fun b ps e => ⟨#[], by rw [e]; simp⟩) (fun m hm => ?_) (fun b u e => ?_) I.bare
  · have e : b = it := by simpa using hb
    subst e
    exact ⟨h1, hL, h2, h3⟩
  · obtain ⟨o, es, ep, ho, r⟩ := hm
    exact ⟨o, es, ep, k _ o (Ne.symm hL) ho, r⟩
  · refine (I.hok b u e).stay (fun c v hc q => k c v ?_ q) (fun _ q => q) fun _ _ q => q
    rcases hc with z | z
    · rw [z]; exact nit b u e
    · exact nit c _ z
theorem Inv.tok (I : Inv X pins σ H s) (t : Nat) : Inv X pins σ H { s with toks := t } := I.un (h' := s.heap) (t' := t) Un.refl I.hok
/-- all objects kept -/
theorem Inv.kept {t' : Nat} (I : Inv X pins σ H s) (k : ∀ b u, s.heap.get? b = some u → h'.get? b = some u) : Inv X pins σ H { s with heap := h', toks := t' } := I.un (Un.kept k) (I.hok.kept k)
/-- a new object laid and tracked -/
theorem Inv.laid {a : Addr} {o : HO} {t' : Nat} (I : Inv X pins σ H s) (k : ∀ b u, s.heap.get? b = some u → h'.get? b = some u) (hp : s.heap.objs.size ≤ a) (new : ObjOk X.prog X.w (upd H a o) h' a o) :
    Inv X pins σ (upd H a o) { s with heap := h', toks := t' } := I.un (Un.laid k hp (I.hok.fresh hp)) (I.hok.laid k hp new)
/-- an object written -/
theorem Inv.write {x e : Addr} {o : HO} {t' : Nat} (I : Inv X pins σ H s) (mu : Mut (H x)) (he : e = x ∨ H e = some (.own x)) (k : ∀ b u, b ≠ e → s.heap.get? b = some u → h'.get? b = some u) (heo : ∃ u, h'.get? e = some u)
    (new : ObjOk X.prog X.w (upd H x o) h' x o) : Inv X pins σ (upd H x o) { s with heap := h', toks := t' } := I.un (Un.write mu he k heo) (I.hok.write mu he k heo new)
/-- forgetting slots, pins -/
theorem Inv.weak {σ' : List (Option V)} (I : Inv X pins σ H s) (hl : σ'.length = σ.length) (w : ∀ (i : Nat) v, σ'[i]? = some (some v) → σ[i]? = some (some v)) : Inv X pins σ' H s :=
  ⟨I.ok, I.os, I.bare, I.base, let ⟨m, hn, hl'⟩ := I.loc; ⟨m, hn, fun i x v e1 e2 e3 => hl' i x v e1 (w i v e2) e3⟩, I.cell, I.free, I.freeC, I.pin, I.hok, hl.trans I.len⟩
theorem Inv.pins_of {pins' : List (Addr × Obj)} (I : Inv X pins σ H s) (h : ∀ p ∈ pins', s.heap.get? p.1 = some p.2 ∧ H p.1 = none ∧ p.1 ≠ X.env.locals ∧ p.1 ∉ X.fs ∧ ∀ v, p.2.data ≠ .cell v) : Inv X pins' σ H s :=
  ⟨I.ok, I.os, I.bare, I.base, I.loc, I.cell, I.free, I.freeC, fun p hp => (List.mem_append.mp hp).elim (fun z => I.pin p (List.mem_append_left _ z)) (h p), I.hok, I.len⟩

theorem nodup_ix {N : List Str} (hN : N.Nodup) {i j : Nat} {x : Str} (a : N[i]? = some x) (b : N[j]? = some x) : i = j := by
  obtain ⟨h1, e1⟩ := List.getElem?_eq_some_iff.mp a
  obtain ⟨h2, e2⟩ := List.getElem?_eq_some_iff.mp b
  exact (List.getElem_inj hN).mp (e1.trans e2.symm)

/-- a name is stored; what changed -/
theorem store_ok2 {M : Model} {A : Around} {E : Value → Shared → Prop} {i : Nat} {x : Str} {v : V} {u : Value} {Q : Unit → Shared → Prop} (I : Inv X pins σ H s) (hN : X.N.Nodup) (hi : X.N[i]? = some x) (hx : Loc X.env.scope x) (r : RelV v u)
    (h : ∀ s', Inv X pins (σ.set i (some v)) H s' → (∃ a, Heap.SameBut a s.heap s'.heap ∧ (a = X.env.locals ∨ X.env.cells.lookup x = some a)) → Q () s') (hf : X.fn x = true ∨ X.env.scope.names.lookup x = some .local := by first | exact .inl rfl | exact .inr rfl | assumption) : wpAny M A (storeName X.env x u) Q E s := by
  obtain ⟨m, hn, hl⟩ := id I.loc
  have hcls : (X.env.scope.kind == .class || (X.env.scope.kind == .module && X.env.locals != X.env.globals)) = false := by rw [I.ok.kind]; rfl
  have hiσ : i < σ.length := by rw [I.len]; exact (List.getElem?_eq_some_iff.mp hi).1
  have cne := I.cne
  have tracked : ∀ {a : Addr} {h' : Heap}, (∃ o, s.heap.get? a = some o ∧ H a = none) → Heap.SameBut a s.heap h' → HOk X.prog X.w H h' := fun {a h'} ha hs b ob e => by
    obtain ⟨_, _, hfree⟩ := ha
    refine (I.hok b ob e).stay (fun c w' hc q => (hs.2 c ?_).trans q) (fun _ q => q) fun _ _ q => q
    rintro rfl
    rcases hc with rfl | hc
    · rw [hfree] at e; cases e
    · rw [hfree] at hc; cases hc
  rcases hx with hk | hk
  · refine wpAny_storeName_local hk hn (fun h' hn' hs => ?_) hcls
    obtain ⟨oL, _, _, hoL, _⟩ := id hn
    refine h _ ⟨I.ok, I.os, I.bare, ⟨fun b o e n hb hx => ?_, fun b o e n hb hx => ?_, I.base.free, fun b o e hx => ?_, I.base.tups, I.base.frzs, I.base.tbls⟩, ⟨_, hn', fun j y v' e1 e2 e3 => ?_⟩, fun y c e => ?_, I.free, I.freeC, fun p hp => ?_, tracked ⟨oL, hoL, I.free⟩ hs, by simpa using I.len⟩ ⟨_, hs, .inl rfl⟩
    · exact (hs.2 b (Nat.ne_of_lt (Nat.lt_of_lt_of_le (Heap.lt_size e) I.ok.above))).trans (I.base.keep b o e n hb hx)
    · obtain ⟨sl, e1⟩ := I.base.slot b o e n hb hx
      exact ⟨sl, (hs.2 b (Nat.ne_of_lt (Nat.lt_of_lt_of_le (Heap.lt_size e) I.ok.above))).trans e1⟩
    · obtain ⟨o', e1⟩ := I.base.there b o e hx
      exact ⟨o', (hs.2 b (Nat.ne_of_lt (Nat.lt_of_lt_of_le (Heap.lt_size e) I.ok.above))).trans e1⟩
    · by_cases hj : j = i
      · subst hj
        rw [hi] at e1; cases e1
        rw [List.getElem?_set_self hiσ] at e2
        cases e2
        exact ⟨u, r, .inl ⟨hk, by simp⟩⟩
      · rw [List.getElem?_set_ne (Ne.symm hj)] at e2
        obtain ⟨u', r', q⟩ := hl j y v' e1 e2 e3
        refine ⟨u', r', ?_⟩
        rcases q with ⟨k, e⟩ | ⟨k, c, e, z⟩
        · refine .inl ⟨k, ?_⟩
          have : y ≠ x := fun e => hj (nodup_ix hN e1 (e ▸ hi))
          simp [this, e]
        · exact .inr ⟨k, c, e, z.sameBut hs (cne y c e)⟩
    · obtain ⟨w', z⟩ := I.cell y c e
      exact ⟨w', z.sameBut hs (cne y c e)⟩
    · obtain ⟨e, n, ne, nf, d⟩ := I.pin p hp
      exact ⟨(hs.2 p.1 ne).trans e, n, ne, nf, d⟩
  · have hfn : X.fn x = true := by
      rcases hf with z | z
      · exact z
      · rw [z] at hk; cases hk
    obtain ⟨c, hc⟩ := I.ok.has x (.inl hk)
    obtain ⟨w', z⟩ := I.cell x c hc
    refine wpAny_storeName_cell I.ok.kind hk hc z (fun h' hc' hs => ?_)
    obtain ⟨oc, hoc, hocd⟩ := id z
    refine h { s with heap := h' } ⟨I.ok, I.os, I.bare, ⟨fun b o e n hb hx => ?_, fun b o e n hb hx => ?_, I.base.free, fun b o e hx => ?_, I.base.tups, I.base.frzs, I.base.tbls⟩, ⟨m, hn.sameBut hs (Ne.symm (cne x c hc)), fun j y v' e1 e2 e3 => ?_⟩, fun y c' e => ?_, I.free, I.freeC, fun p hp => ?_, tracked ⟨oc, hoc, I.freeC x c hc⟩ hs, by simpa using I.len⟩ ⟨c, hs, .inr hc⟩
    · exact (hs.2 b (Nat.ne_of_lt (Nat.lt_of_lt_of_le (Heap.lt_size e) (I.ok.cab x c hfn hc)))).trans (I.base.keep b o e n hb hx)
    · obtain ⟨sl, e1⟩ := I.base.slot b o e n hb hx
      exact ⟨sl, (hs.2 b (Nat.ne_of_lt (Nat.lt_of_lt_of_le (Heap.lt_size e) (I.ok.cab x c hfn hc)))).trans e1⟩
    · obtain ⟨o', e1⟩ := I.base.there b o e hx
      exact ⟨o', (hs.2 b (Nat.ne_of_lt (Nat.lt_of_lt_of_le (Heap.lt_size e) (I.ok.cab x c hfn hc)))).trans e1⟩
    · by_cases hj : j = i
      · subst hj
        rw [hi] at e1; cases e1
        rw [List.getElem?_set_self hiσ] at e2
        cases e2
        exact ⟨u, r, .inr ⟨.inl hk, c, hc, hc'⟩⟩
      · rw [List.getElem?_set_ne (Ne.symm hj)] at e2
        obtain ⟨u', r', q⟩ := hl j y v' e1 e2 e3
        refine ⟨u', r', ?_⟩
        rcases q with q | ⟨k, c', e, z'⟩
        · exact .inl q
        · refine .inr ⟨k, c', e, z'.sameBut hs ?_⟩
          rintro rfl
          exact hj (nodup_ix hN e1 (I.ok.inj _ _ _ e hc ▸ hi))
    · by_cases hcc : c' = c
      · subst hcc; exact ⟨_, hc'⟩
      · obtain ⟨w2, z2⟩ := I.cell y c' e
        exact ⟨w2, z2.sameBut hs hcc⟩
    · obtain ⟨e, n, ne, nf, d⟩ := I.pin p hp
      refine ⟨(hs.2 p.1 ?_).trans e, n, ne, nf, d⟩
      intro q
      rw [q, hoc] at e
      have q' : oc = p.2 := Option.some.inj e
      exact d w' (by rw [← q']; exact hocd)
theorem store_ok {M : Model} {A : Around} {E : Value → Shared → Prop} {i : Nat} {x : Str} {v : V} {u : Value} {Q : Unit → Shared → Prop} (I : Inv X pins σ H s) (hN : X.N.Nodup) (hi : X.N[i]? = some x) (hx : Loc X.env.scope x) (r : RelV v u)
    (h : ∀ s', Inv X pins (σ.set i (some v)) H s' → Q () s') (hf : X.fn x = true ∨ X.env.scope.names.lookup x = some .local := by first | exact .inl rfl | exact .inr rfl | assumption) : wpAny M A (storeName X.env x u) Q E s :=
  store_ok2 I hN hi hx r (fun s' I' _ => h s' I') hf
/-- behind a call or a block, the state as it is -/
theorem Inv.call' {s' : Shared} {ch : List Addr} (I : Inv X pins σ H s) (ho : s'.os = s.os) (u : Un (frs X.stack) ch H H' s.heap s'.heap) (hok : HOk X.prog X.w H' s'.heap) (hg : AllBare s'.gens)
    (hch : ∀ b ∈ ch, (b ∈ X.ex ∨ X.s₀.heap.objs.size ≤ b) ∧ b ≠ X.env.locals ∧ (∀ x c, X.env.cells.lookup x = some c → c ≠ b) ∧ ∀ p ∈ X.pn ++ pins, p.1 ≠ b) : Inv X pins σ H' s' := by
  obtain ⟨h', g', d', t', o'⟩ := s'
  have e : o' = s.os := ho
  subst e
  exact I.call (g' := g') (t' := t') (d' := d') u hok hg hch
end

/-! ### the judgements -/
/-- an exception: its class, its own dict's address (where it has one), the abstract heap behind it -/
abbrev XK := Value → Option Addr → Hp → Prop
abbrev St := List (Option V)
abbrev VK := V → Hp → Prop
/-- an expression's reading; a test's; an argument list's -/
abbrev TE := St → Hp → VK → Prop
abbrev TT := St → Hp → (Bool → Hp → Prop) → Prop
abbrev TA := St → Hp → (List V → Hp → Prop) → Prop
/-- what is wanted behind a statement -/
structure Ends where
  nx : St → Hp → Prop
  rt : VK
  bk : St → Hp → Prop := fun _ _ => False
  ct : St → Hp → Prop := fun _ _ => False
abbrev TS := Ends → St → Hp → Prop

def EP (X : Cx) (pins : List (Addr × Obj)) (σ : St) (Q : VK) (u : Value) (s' : Shared) : Prop := ∃ v H', Inv X pins σ H' s' ∧ RelV v u ∧ Q v H'
def TP (X : Cx) (pins : List (Addr × Obj)) (σ : St) (Q : Bool → Hp → Prop) (b : Bool) (s' : Shared) : Prop := ∃ H', Inv X pins σ H' s' ∧ Q b H'
def AP (X : Cx) (pins : List (Addr × Obj)) (σ : St) (Q : List V → Hp → Prop) (us : List Value) (s' : Shared) : Prop := ∃ vs H', Inv X pins σ H' s' ∧ Vals vs us ∧ Q vs H'
def SP (X : Cx) (pins : List (Addr × Obj)) (D : Ends) (f : Flow) (s' : Shared) : Prop :=
  match f with
  | .next => ∃ σ' H', Inv X pins σ' H' s' ∧ D.nx σ' H'
  | .brk => ∃ σ' H', Inv X pins σ' H' s' ∧ D.bk σ' H'
  | .cont => ∃ σ' H', Inv X pins σ' H' s' ∧ D.ct σ' H'
  | .ret u => ∃ v σ' H', Inv X pins σ' H' s' ∧ RelV v u ∧ D.rt v H'

def PE (X : Cx) (e : Expr) (t : TE) : Prop :=
  ∀ (pins : List (Addr × Obj)) (s : Shared) (σ : St) (H : Hp) (Q : VK), Inv X pins σ H s → t σ H Q → wpAny (model X.prog X.w) X.A (eval e X.env) (EP X pins σ Q) X.xe s
def PT (X : Cx) (e : Expr) (t : TT) : Prop :=
  ∀ (pins : List (Addr × Obj)) (s : Shared) (σ : St) (H : Hp) (Q : Bool → Hp → Prop), Inv X pins σ H s → t σ H Q → wpAny (model X.prog X.w) X.A (isTrue e X.env (eval e X.env)) (TP X pins σ Q) X.xe s
/-- a test whatever its 'whole' is (and, or) -/
def PW (X : Cx) (e : Expr) (t : TT) : Prop :=
  ∀ (whole : Sem Value) (pins : List (Addr × Obj)) (s : Shared) (σ : St) (H : Hp) (Q : Bool → Hp → Prop), Inv X pins σ H s → t σ H Q → wpAny (model X.prog X.w) X.A (isTrue e X.env whole) (TP X pins σ Q) X.xe s
theorem PW.pt {X : Cx} {e : Expr} {t : TT} (h : PW X e t) : PT X e t := h _
/-- an argument list (no star), from the left -/
def PA (X : Cx) (es : List Expr) (t : TA) : Prop :=
  ∀ (pos : Pos) (pins : List (Addr × Obj)) (s : Shared) (σ : St) (H : Hp) (Q : List V → Hp → Prop), Inv X pins σ H s → t σ H Q → wpAny (model X.prog X.w) X.A (spliced (backTo pos (starEach es X.env))) (AP X pins σ Q) X.xe s
def PS (X : Cx) (st : Stmt) (t : TS) : Prop :=
  ∀ (pins : List (Addr × Obj)) (s : Shared) (σ : St) (H : Hp) (D : Ends), Inv X pins σ H s → t D σ H → wpAny (model X.prog X.w) X.A (exec st X.env) (SP X pins D) X.xe s
def PSs (X : Cx) (st : List Stmt) (t : TS) : Prop :=
  ∀ (pins : List (Addr × Obj)) (s : Shared) (σ : St) (H : Hp) (D : Ends), Inv X pins σ H s → t D σ H → wpAny (model X.prog X.w) X.A (execs st X.env) (SP X pins D) X.xe s
/-- weaken the end -/
theorem thn {α : Type} {t : Sem α} {Q Q' : α → Shared → Prop} {M : Model} {A : Around} {E : Value → Shared → Prop} {s : Shared} (h : wpAny M A t Q E s) (hQ : ∀ a s, Q a s → Q' a s) : wpAny M A t Q' E s := wpAny_mono h hQ fun _ _ x => x
end L2

namespace L2
open PySem PySem.Spec PyProof.Rows
section
variable {X : Cx}

/-- two expressions in a row -/
theorem bin {a b : Expr} {ta tb : TE} (ha : PE X a ta) (hb : PE X b tb) {pins : List (Addr × Obj)} {s : Shared} {σ : St} {H : Hp} {R : V → V → Hp → Prop} (I : Inv X pins σ H s) (h : ta σ H fun x H1 => tb σ H1 fun y H2 => R x y H2)
    {α : Type} {Q : α → Shared → Prop} {f : Value → Value → Sem α}
    (hf : ∀ v u s2 x y H2, Inv X pins σ H2 s2 → RelV x v → RelV y u → R x y H2 → wpAny (model X.prog X.w) X.A (f v u) Q X.xe s2) :
    wpAny (model X.prog X.w) X.A (eval a X.env) (fun v s₁ => wpAny (model X.prog X.w) X.A (eval b X.env) (fun u s₂ => wpAny (model X.prog X.w) X.A (f v u) Q X.xe s₂) X.xe s₁) X.xe s := by
  refine thn (ha pins s σ H _ I h) fun v s1 ⟨x, H1, I1, r1, q1⟩ => ?_
  refine thn (hb pins s1 σ H1 _ I1 q1) fun u s2 ⟨y, H2, I2, r2, q2⟩ => ?_
  exact hf v u s2 x y H2 I2 r1 r2 q2

/-! ### names and constants -/
def tVar (i : Nat) : TE := fun σ H Q => ∃ v, σ[i]? = some (some v) ∧ Q v H
def tC (v : V) : TE := fun _ H Q => Q v H
theorem pe_var {i : Nat} {x : Str} {pos : Pos} (hN : X.N[i]? = some x) (hv : Vis X.env.scope x) (hd : (x == ("__debug__" : Str)) = false := by decide) (hcd : (x == ("__classdict__" : Str)) = false := by decide) : PE X (.Name x pos) (tVar i) := by
  intro pins s σ H Q I h
  obtain ⟨v, e, h⟩ := h
  obtain ⟨m, hn, hl⟩ := I.loc
  obtain ⟨u, r, l⟩ := hl i x v hN e hv
  have fin : EP X pins σ Q u s := ⟨v, H, I, r, h⟩
  rcases l with ⟨hk, hm⟩ | ⟨hk, c, hc, hcell⟩
  · exact wpAny_Name (wpAny_loadName_local I.ok.kind hk hn hm fin) hd
  · rcases hk with hk | hk
    · exact wpAny_Name (wpAny_loadName_cell I.ok.kind hk hc hcell fin) hd
    · exact wpAny_Name (wpAny_loadName_free I.ok.kind hk hc hcell fin hcd) hd
theorem pe_int {i j pos} : PE X (.Constant (.int i) j pos) (tC (.int i)) := fun _ _ _ H _ I h => wpAny_Constant_int ⟨.int i, H, I.tok _, ⟨_, rfl⟩, h⟩
theorem pe_bl {b j pos} : PE X (.Constant (.bool b) j pos) (tC (.bl b)) := fun _ _ _ H _ I h => Constant_bool ⟨.bl b, H, I, rfl, h⟩
theorem pe_non {j pos} : PE X (.Constant .none j pos) (tC .non) := fun _ _ _ H _ I h => Constant_none ⟨.non, H, I, rfl, h⟩
theorem pe_str {x j pos} : PE X (.Constant (.str x) j pos) (tC (.str x)) := fun _ _ _ H _ I h => Calls.Constant_str ⟨.str x, H, I.tok _, ⟨_, rfl⟩, h⟩

/-- a global name of the def -/
def Gl (X : Cx) (x : Str) : Prop := X.env.kindOf x = some .globalImplicit
theorem ld_glob {E : Value → Shared → Prop} {pins : List (Addr × Obj)} {s : Shared} {σ : St} {H : Hp} {x : Str} {u : Value} {pos : Pos} {Q : Value → Shared → Prop} (I : Inv X pins σ H s) (hg : Gl X x) (hm : X.mg x = some u) (h : Q u s)
    (hd : (x == ("__debug__" : Str)) = false := by decide) : wpAny (model X.prog X.w) X.A (eval (.Name x pos) X.env) Q E s :=
  Calls.Name_function_global I.ok.kind hg (Calls.loadGlobal_global (by rw [I.ok.glob]; exact I.mod.glob.keeps I.bk) hm h) hd
theorem ld_blt {E : Value → Shared → Prop} {pins : List (Addr × Obj)} {s : Shared} {σ : St} {H : Hp} {x : Str} {u : Value} {pos : Pos} {Q : Value → Shared → Prop} (I : Inv X pins σ H s) (hg : Gl X x) (hm : X.mg x = none) (hv : bootBuiltins x = some u) (h : Q u s)
    (hn : x ≠ "__name__" := by decide) (hd : (x == ("__debug__" : Str)) = false := by decide) : wpAny (model X.prog X.w) X.A (eval (.Name x pos) X.env) Q E s := by
  obtain ⟨mb, h1, h2⟩ := I.mod.blt
  exact Calls.Name_function_global I.ok.kind hg (Calls.loadGlobal_builtin (by rw [I.ok.glob]; exact I.mod.glob.keeps I.bk) hm (by rw [I.ok.blt]; exact h1.keeps I.bk) ((h2 x hn).trans hv) h) hd
/-- a module's constant, a class, a function, as a value -/
theorem pe_glob {x : Str} {v : V} {u : Value} {pos : Pos} (hg : Gl X x) (hm : X.mg x = some u) (r : RelV v u) (hd : (x == ("__debug__" : Str)) = false := by decide) : PE X (.Name x pos) (tC v) :=
  fun _ _ _ H _ I h => ld_glob I hg hm ⟨v, H, I, r, h⟩ hd
theorem pe_bltn {x : Str} {v : V} {u : Value} {pos : Pos} (hg : Gl X x) (hm : X.mg x = none) (hv : bootBuiltins x = some u) (r : RelV v u) (hn : x ≠ "__name__" := by decide) (hd : (x == ("__debug__" : Str)) = false := by decide) : PE X (.Name x pos) (tC v) :=
  fun _ _ _ H _ I h => ld_blt I hg hm hv ⟨v, H, I, r, h⟩ hn hd

/-! ### arithmetic -/
/-- two ints -/
def t2I (ta tb : TE) (k : Int → Int → Hp → Prop) : St → Hp → Prop := fun σ H => ta σ H fun x H1 => tb σ H1 fun y H2 => ∃ i j, x = .int i ∧ y = .int j ∧ k i j H2
def tAdd (ta tb : TE) : TE := fun σ H Q => t2I ta tb (fun i j H2 => Q (.int (i + j)) H2) σ H
def tSub (ta tb : TE) : TE := fun σ H Q => t2I ta tb (fun i j H2 => Q (.int (i - j)) H2) σ H
/-- the left factor below 2^64 -/
def tMul (ta tb : TE) : TE := fun σ H Q => t2I ta tb (fun i j H2 => (-(2 ^ 64) < i ∧ i < 2 ^ 64) ∧ Q (.int (i * j)) H2) σ H
variable {a b : Expr} {ta tb : TE} {pos : Pos}
theorem pe_add (ha : PE X a ta) (hb : PE X b tb) : PE X (.BinOp a .Add b pos) (tAdd ta tb) := by
  intro pins s σ H Q I h
  refine wpAny_BinOp (bin ha hb I h fun v u s2 x y H2 I2 rx ry q => ?_)
  obtain ⟨i, j, rfl, rfl, q⟩ := q
  obtain ⟨t, rfl⟩ := rx
  obtain ⟨t', rfl⟩ := ry
  exact add_int ⟨.int _, H2, I2.tok _, ⟨_, rfl⟩, q⟩
theorem pe_sub (ha : PE X a ta) (hb : PE X b tb) : PE X (.BinOp a .Sub b pos) (tSub ta tb) := by
  intro pins s σ H Q I h
  refine wpAny_BinOp (bin ha hb I h fun v u s2 x y H2 I2 rx ry q => ?_)
  obtain ⟨i, j, rfl, rfl, q⟩ := q
  obtain ⟨t, rfl⟩ := rx
  obtain ⟨t', rfl⟩ := ry
  exact sub_int ⟨.int _, H2, I2.tok _, ⟨_, rfl⟩, q⟩
theorem pe_mul (ha : PE X a ta) (hb : PE X b tb) : PE X (.BinOp a .Mult b pos) (tMul ta tb) := by
  intro pins s σ H Q I h
  refine wpAny_BinOp (bin ha hb I h fun v u s2 x y H2 I2 rx ry q => ?_)
  obtain ⟨i, j, rfl, rfl, ⟨q1, q2⟩, q⟩ := q
  obtain ⟨t, rfl⟩ := rx
  obtain ⟨t', rfl⟩ := ry
  exact mul_int ⟨.int _, H2, I2.tok _, ⟨_, rfl⟩, q⟩ (.of_left (intBits_le_64 q1 q2))

/-! ### comparisons -/
def PC (X : Cx) (op : CmpOp) (a b : Expr) (t : TE) : Prop :=
  ∀ (pins : List (Addr × Obj)) (s : Shared) (σ : St) (H : Hp) (Q : VK), Inv X pins σ H s → t σ H Q →
    wpAny (model X.prog X.w) X.A (eval a X.env) (fun v s₁ => wpAny (model X.prog X.w) X.A (eval b X.env) (fun u s₂ => wpAny (model X.prog X.w) X.A (compareOp op v u) (EP X pins σ Q) X.xe s₂) X.xe s₁) X.xe s
theorem nobehind (b : Expr) {op : CmpOp} (h : op ≠ .In) (h2 : op ≠ .NotIn) : behindInMarks op b = false := by
  have e1 : (op == CmpOp.In) = false := by cases op <;> first | rfl | exact absurd rfl h
  have e2 : (op == CmpOp.NotIn) = false := by cases op <;> first | rfl | exact absurd rfl h2
  cases b <;> simp [behindInMarks, e1, e2]
def tCmp (p : Int → Int → Bool) (ta tb : TE) : TE := fun σ H Q => t2I ta tb (fun i j H2 => Q (.bl (p i j)) H2) σ H
abbrev tLt : TE → TE → TE := tCmp fun i j => decide (i < j)
abbrev tLe : TE → TE → TE := tCmp fun i j => decide (i ≤ j)
abbrev tGt : TE → TE → TE := tCmp fun i j => decide (j < i)
abbrev tGe : TE → TE → TE := tCmp fun i j => decide (j ≤ i)
abbrev tEqI : TE → TE → TE := tCmp fun i j => decide (i = j)
abbrev tNeI : TE → TE → TE := tCmp fun i j => !decide (i = j)
/-- a comparison of two ints, by its rule -/
theorem pc_int {op : CmpOp} {p : Int → Int → Bool} (ha : PE X a ta) (hb : PE X b tb)
    (rule : ∀ (i j : Int) (t u : Tok) (Q : Value → Shared → Prop) (s : Shared), Q (.bool (p i j)) s → wpAny (model X.prog X.w) X.A (compareOp op (.int i t) (.int j u)) Q X.xe s) : PC X op a b (tCmp p ta tb) := by
  intro pins s σ H Q I h
  refine bin ha hb I h fun v u s2 x y H2 I2 rx ry q => ?_
  obtain ⟨i, j, rfl, rfl, q⟩ := q
  obtain ⟨t, rfl⟩ := rx
  obtain ⟨t', rfl⟩ := ry
  exact rule i j t t' _ s2 ⟨.bl _, H2, I2, rfl, q⟩
theorem pc_lt (ha : PE X a ta) (hb : PE X b tb) : PC X .Lt a b (tLt ta tb) := pc_int ha hb fun _ _ _ _ _ _ h => lt_int h
theorem pc_le (ha : PE X a ta) (hb : PE X b tb) : PC X .LtE a b (tLe ta tb) := pc_int ha hb fun _ _ _ _ _ _ h => le_int h
theorem pc_gt (ha : PE X a ta) (hb : PE X b tb) : PC X .Gt a b (tGt ta tb) := pc_int ha hb fun _ _ _ _ _ _ h => gt_int h
theorem pc_ge (ha : PE X a ta) (hb : PE X b tb) : PC X .GtE a b (tGe ta tb) := pc_int ha hb fun _ _ _ _ _ _ h => ge_int h
theorem pc_eqI (ha : PE X a ta) (hb : PE X b tb) : PC X .Eq a b (tEqI ta tb) := pc_int ha hb fun _ _ _ _ _ _ h => eq_int (by rw [Bool.beq_eq_decide_eq]; exact h)
theorem pc_neI (ha : PE X a ta) (hb : PE X b tb) : PC X .NotEq a b (tNeI ta tb) := pc_int ha hb fun _ _ _ _ _ _ h => ne_int (by rw [bne, Bool.beq_eq_decide_eq]; exact h)
/-- is None -/
def tIsN (ta : TE) : TE := fun σ H Q => ta σ H fun x H1 => Q (.bl (decide (x = .non))) H1
def tNotN (ta : TE) : TE := fun σ H Q => ta σ H fun x H1 => Q (.bl (!decide (x = .non))) H1
theorem RelV.none_iff {x : V} {v : Value} (r : RelV x v) : (v == Value.none) = decide (x = .non) := by
  cases x with
  | non => cases r; rfl
  | bl _ => cases r; rfl
  | int _ => obtain ⟨t, rfl⟩ := r; rfl
  | str _ => obtain ⟨t, rfl⟩ := r; rfl
  | byt _ => obtain ⟨t, rfl⟩ := r; rfl
  | flt _ => obtain ⟨t, rfl⟩ := r; rfl
  | ref _ => cases r; rfl
  | ty _ => cases r; rfl
theorem pc_isN {j pos'} (ha : PE X a ta) : PC X .Is a (.Constant .none j pos') (tIsN ta) := by
  intro pins s σ H Q I h
  refine thn (ha pins s σ H _ I h) fun v s1 ⟨x, H1, I1, r1, q1⟩ => ?_
  exact Constant_none (is_none_gen ⟨.bl _, H1, I1, by rw [r1.none_iff]; rfl, q1⟩)
theorem pc_notN {j pos'} (ha : PE X a ta) : PC X .IsNot a (.Constant .none j pos') (tNotN ta) := by
  intro pins s σ H Q I h
  refine thn (ha pins s σ H _ I h) fun v s1 ⟨x, H1, I1, r1, q1⟩ => ?_
  exact Constant_none (isnot_none_gen ⟨.bl _, H1, I1, by rw [r1.none_iff]; rfl, q1⟩)
/-- a comparison as a value, as a test -/
def tB (t : TE) : TT := fun σ H Q => t σ H fun x H1 => ∃ c, x = .bl c ∧ Q c H1
theorem pe_cmp {op : CmpOp} {t : TE} (h : PC X op a b t) (h1 : behindInMarks op b = false := by first | exact nobehind _ (by decide) (by decide) | rfl) : PE X (.Compare a [op] [b] pos) t := fun pins s σ H Q I hw => wpAny_Compare1 (h pins s σ H Q I hw) h1
theorem pt_cmp {op : CmpOp} {t : TE} (h : PC X op a b t) (h1 : behindInMarks op b = false := by first | exact nobehind _ (by decide) (by decide) | rfl) : PT X (.Compare a [op] [b] pos) (tB t) := by
  intro pins s σ H Q I hw
  refine wpAny_isTrue_Compare1 (thn (h pins s σ H _ I hw) fun v s1 h1 => thn h1 fun u s2 h2 => thn h2 fun c s3 ⟨x, H1, I1, r1, q1⟩ => ?_) h1
  obtain ⟨d, rfl, q⟩ := q1
  cases r1
  exact wpAny_truthy_bool ⟨H1, I1, q⟩
/-- an expression whose value is a bool, as a test -/
theorem pt_val {e : Expr} {t : TE} (h : PE X e t) (he : ∀ whole, isTrue e X.env whole = (do let v ← whole; standAt e.pos; holding [v] (truthy v)) := by intro _; rfl) : PT X e (tB t) := by
  intro pins s σ H Q I hw
  refine isTrue_plain (thn (h pins s σ H _ I hw) fun v s1 ⟨x, H1, I1, r1, q1⟩ => ?_) (he _)
  obtain ⟨d, rfl, q⟩ := q1
  cases r1
  exact wpAny_truthy_bool ⟨H1, I1, q⟩

/-! ### and, or, not -/
variable {tA tB' : TT} {rest : List Expr}
def tAnd (t u : TT) : TT := fun σ H Q => t σ H fun c H1 => if c = true then u σ H1 Q else Q false H1
def tOr (t u : TT) : TT := fun σ H Q => t σ H fun c H1 => if c = true then Q true H1 else u σ H1 Q
def tNot (t : TT) : TT := fun σ H Q => t σ H fun c H1 => Q (!c) H1
theorem pw_and1 (ha : PT X a tA) : PW X (.BoolOp .And [a] pos) tA := by
  intro wh pins s σ H Q I h
  refine isTrue_and (thn (ha pins s σ H Q I h) fun c s1 e => ?_)
  cases c with
  | true => exact isTrue_and_nil e
  | false => exact e
theorem pw_or1 (ha : PT X a tA) : PW X (.BoolOp .Or [a] pos) tA := by
  intro wh pins s σ H Q I h
  refine isTrue_or (thn (ha pins s σ H Q I h) fun c s1 e => ?_)
  cases c with
  | false => exact isTrue_or_nil e
  | true => exact e
theorem pw_and (ha : PT X a tA) (hb : PW X (.BoolOp .And (b :: rest) pos) tB') : PW X (.BoolOp .And (a :: b :: rest) pos) (tAnd tA tB') := by
  intro wh pins s σ H Q I h
  refine isTrue_and (thn (ha pins s σ H _ I h) fun c s1 ⟨H1, I1, q1⟩ => ?_)
  cases c with
  | true => exact hb wh pins s1 σ H1 Q I1 q1
  | false => exact ⟨H1, I1, q1⟩
theorem pw_or (ha : PT X a tA) (hb : PW X (.BoolOp .Or (b :: rest) pos) tB') : PW X (.BoolOp .Or (a :: b :: rest) pos) (tOr tA tB') := by
  intro wh pins s σ H Q I h
  refine isTrue_or (thn (ha pins s σ H _ I h) fun c s1 ⟨H1, I1, q1⟩ => ?_)
  cases c with
  | true => exact ⟨H1, I1, q1⟩
  | false => exact hb wh pins s1 σ H1 Q I1 q1
theorem pt_not (ha : PT X a tA) : PT X (.UnaryOp .Not a pos) (tNot tA) := by
  intro pins s σ H Q I h
  exact isTrue_not (ha pins s σ H (fun c H1 => Q (!c) H1) I h)
/-- .. as values (bools) -/
def tAndV (ta tb : TE) : TE := fun σ H Q => ta σ H fun x H1 => ∃ c, x = .bl c ∧ if c = true then tb σ H1 Q else Q (.bl false) H1
def tOrV (ta tb : TE) : TE := fun σ H Q => ta σ H fun x H1 => ∃ c, x = .bl c ∧ if c = true then Q (.bl true) H1 else tb σ H1 Q
def tNotV (ta : TE) : TE := fun σ H Q => ta σ H fun x H1 => ∃ c, x = .bl c ∧ Q (.bl (!c)) H1
theorem pe_one {op} {t : TE} (h : PE X a t) : PE X (.BoolOp op [a] pos) t := fun pins s σ H Q I hw => BoolOp_one (h pins s σ H Q I hw)
theorem pe_and (ha : PE X a ta) (hb : PE X (.BoolOp .And (b :: rest) pos) tb) : PE X (.BoolOp .And (a :: b :: rest) pos) (tAndV ta tb) := by
  intro pins s σ H Q I h
  refine BoolOp_and (thn (ha pins s σ H _ I h) fun v s1 ⟨x, H1, I1, r1, q1⟩ => ?_)
  obtain ⟨c, rfl, q1⟩ := q1
  cases r1
  refine wpAny_truthy_bool ?_
  cases c with
  | true => exact hb pins s1 σ H1 Q I1 q1
  | false => exact ⟨.bl false, H1, I1, rfl, q1⟩
theorem pe_or (ha : PE X a ta) (hb : PE X (.BoolOp .Or (b :: rest) pos) tb) : PE X (.BoolOp .Or (a :: b :: rest) pos) (tOrV ta tb) := by
  intro pins s σ H Q I h
  refine BoolOp_or (thn (ha pins s σ H _ I h) fun v s1 ⟨x, H1, I1, r1, q1⟩ => ?_)
  obtain ⟨c, rfl, q1⟩ := q1
  cases r1
  refine wpAny_truthy_bool ?_
  cases c with
  | false => exact hb pins s1 σ H1 Q I1 q1
  | true => exact ⟨.bl true, H1, I1, rfl, q1⟩
theorem pe_not (ha : PE X a ta) : PE X (.UnaryOp .Not a pos) (tNotV ta) := by
  intro pins s σ H Q I h
  refine UnaryOp_ (thn (ha pins s σ H _ I h) fun v s1 ⟨x, H1, I1, r1, q1⟩ => ?_)
  obtain ⟨c, rfl, q1⟩ := q1
  cases r1
  exact not_of (wpAny_truthy_bool ⟨.bl (!c), H1, I1, rfl, q1⟩)
/-- a if t else b -/
def tIf (t : TT) (ta tb : TE) : TE := fun σ H Q => t σ H fun c H1 => if c = true then ta σ H1 Q else tb σ H1 Q
theorem pe_ifExp {c : Expr} (hc : PT X c tA) (ha : PE X a ta) (hb : PE X b tb) : PE X (.IfExp c a b pos) (tIf tA ta tb) := by
  intro pins s σ H Q I h
  refine wpAny_IfExp (thn (hc pins s σ H _ I h) fun d s1 ⟨H1, I1, q1⟩ => ?_)
  cases d with
  | true => exact ha pins s1 σ H1 Q I1 q1
  | false => exact hb pins s1 σ H1 Q I1 q1
end
end L2

namespace L2
open PySem PySem.Spec PyProof.Rows

/-! ### a list, a tuple that is read: tracked, frozen, or an object of the module -/
def SqL (K : PySem.W.Frag) (H : Hp) (a : Addr) (xs : List V) : Prop :=
  Rd H a (.lst xs) ∨
    ∃ (o : Obj) (its : Array Value) (n : Nat), K.lookup a = some o ∧ o.cls = .type "list" ∧ o.dict = none ∧ o.data = .seq its n ∧ its.size ≤ sizeLine ∧ Vals xs its.toList
def SqT (K : PySem.W.Frag) (H : Hp) (a : Addr) (xs : List V) : Prop :=
  Rd H a (.tup xs) ∨
    ∃ (o : Obj) (its : Array Value) (n : Nat), K.lookup a = some o ∧ o.cls = .type "tuple" ∧ o.data = .seq its n ∧ its.size ≤ sizeLine ∧ Vals xs its.toList
def absV : Value → Option V
  | .none => some .non
  | .bool b => some (.bl b)
  | .int i _ => some (.int i)
  | .str x _ => some (.str x)
  | .bytes b _ => some (.byt b)
  | .float b _ => some (.flt b)
  | .ref a => some (.ref a)
  | .type n => some (.ty n)
  | _ => none
theorem RelV.abs {x : V} {u : Value} (r : RelV x u) : absV u = some x := by
  cases x with
  | non => cases r; rfl
  | bl _ => cases r; rfl
  | int _ => obtain ⟨t, rfl⟩ := r; rfl
  | str _ => obtain ⟨t, rfl⟩ := r; rfl
  | byt _ => obtain ⟨t, rfl⟩ := r; rfl
  | flt _ => obtain ⟨t, rfl⟩ := r; rfl
  | ref _ => cases r; rfl
  | ty _ => cases r; rfl
theorem RelV.inj {x y : V} {u : Value} (r : RelV x u) (q : RelV y u) : x = y := Option.some.inj (r.abs.symm.trans q.abs)
theorem Vals.inj : ∀ {xs ys : List V} {us : List Value}, Vals xs us → Vals ys us → xs = ys
  | _, _, _, .nil, .nil => rfl
  | _, _, _, .cons r t, .cons r' t' => by rw [r.inj r', Vals.inj t t']
section
variable {X : Cx} {pins : List (Addr × Obj)} {σ : St} {H : Hp} {s : Shared} {a : Addr} {xs ys : List V}
theorem SqL.of {K : PySem.W.Frag} (h : H a = some (.lst xs)) : SqL K H a xs := .inl (.inl h)
theorem SqT.of {K : PySem.W.Frag} (h : H a = some (.tup xs)) : SqT K H a xs := .inl (.inl h)
theorem Inv.list (I : Inv X pins σ H s) (h : SqL X.K H a xs) : ∃ its : List Value, Vals xs its ∧ PlainL s.heap a its.toArray ∧ xs.length ≤ sizeLine := by
  rcases h with h | ⟨o, its, n, hk, hc, hd, hs, hz, r⟩
  · obtain ⟨z, its, n, r, e⟩ := h.ok I.hok
    exact ⟨its, r, ⟨_, n, e, rfl, rfl, rfl⟩, z⟩
  · refine ⟨its.toList, r, ⟨o, n, I.kIn a o hk, hc, hd, by simpa using hs⟩, ?_⟩
    have e := r.length
    simp only [Array.length_toList] at e
    omega
theorem Inv.tuple (I : Inv X pins σ H s) (h : SqT X.K H a xs) : ∃ its : List Value, Vals xs its ∧ IsTup s.heap a its.toArray ∧ xs.length ≤ sizeLine := by
  rcases h with h | ⟨o, its, n, hk, hc, hs, hz, r⟩
  · obtain ⟨z, its, r, p⟩ := h.ok I.hok
    exact ⟨its, r, p, z⟩
  · refine ⟨its.toList, r, ⟨o, I.kIn a o hk, hc, n, by simpa using hs⟩, ?_⟩
    have e := r.length
    simp only [Array.length_toList] at e
    omega
theorem Inv.list_inj (I : Inv X pins σ H s) (h : SqL X.K H a xs) (h' : SqL X.K H a ys) : xs = ys := by
  obtain ⟨its, r, ⟨o, n, e, _, _, d⟩, _⟩ := I.list h
  obtain ⟨its', r', ⟨o', n', e', _, _, d'⟩, _⟩ := I.list h'
  rw [e] at e'; cases e'
  rw [d] at d'
  injection d' with d1 _
  have : its = its' := by simpa using congrArg Array.toList d1
  subst this
  exact r.inj r'
theorem Inv.tuple_inj (I : Inv X pins σ H s) (h : SqT X.K H a xs) (h' : SqT X.K H a ys) : xs = ys := by
  obtain ⟨its, r, ⟨o, e, _, n, d⟩, _⟩ := I.tuple h
  obtain ⟨its', r', ⟨o', e', _, n', d'⟩, _⟩ := I.tuple h'
  rw [e] at e'; cases e'
  rw [d] at d'
  injection d' with d1 _
  have : its = its' := by simpa using congrArg Array.toList d1
  subst this
  exact r.inj r'
end

/-! ### another wish about exceptions -/
abbrev Cx.wish (X : Cx) (E : Value → Shared → Prop) : Cx := { X with xe := E }
/-- no exception leaves -/
abbrev Cx.nox (X : Cx) : Cx := X.wish fun _ _ => False
theorem Cx.Ok.wish {X : Cx} (ok : X.Ok) (E : Value → Shared → Prop) : (X.wish E).Ok :=
  ⟨ok.mod, ok.kind, ok.glob, ok.blt, ok.above, ok.inj, ok.has, ok.cab, ok.hd, ok.frames, ok.stk, ok.exf, ok.bs, ok.bsz, ok.noex, ok.exfs, ok.funs, ok.frf⟩
theorem Cx.Ok.unwish {X : Cx} {E : Value → Shared → Prop} (ok : (X.wish E).Ok) : X.Ok :=
  ⟨ok.mod, ok.kind, ok.glob, ok.blt, ok.above, ok.inj, ok.has, ok.cab, ok.hd, ok.frames, ok.stk, ok.exf, ok.bs, ok.bsz, ok.noex, ok.exfs, ok.funs, ok.frf⟩
section
variable {X : Cx} {pins : List (Addr × Obj)} {σ : St} {H : Hp} {s : Shared} {E : Value → Shared → Prop}
theorem Inv.wish (I : Inv X pins σ H s) (E : Value → Shared → Prop) : Inv (X.wish E) pins σ H s := ⟨I.ok.wish E, I.os, I.bare, I.base, I.loc, I.cell, I.free, I.freeC, I.pin, I.hok, I.len⟩
theorem Inv.unwish (I : Inv (X.wish E) pins σ H s) : Inv X pins σ H s := ⟨I.ok.unwish, I.os, I.bare, I.base, I.loc, I.cell, I.free, I.freeC, I.pin, I.hok, I.len⟩
theorem SP.unwish {D : Ends} {f : Flow} {s' : Shared} (h : SP (X.wish E) pins D f s') : SP X pins D f s' := by
  cases f with
  | next => obtain ⟨σ', H', I, q⟩ := h; exact ⟨σ', H', I.unwish, q⟩
  | brk => obtain ⟨σ', H', I, q⟩ := h; exact ⟨σ', H', I.unwish, q⟩
  | cont => obtain ⟨σ', H', I, q⟩ := h; exact ⟨σ', H', I.unwish, q⟩
  | ret u => obtain ⟨v, σ', H', I, r, q⟩ := h; exact ⟨v, σ', H', I.unwish, r, q⟩
theorem PE.nox {e : Expr} {t : TE} (h : PE X.nox e t) : PE X e t := fun pins s σ H Q I hw =>
  wpAny_mono (h pins s σ H Q (I.wish _) hw) (fun _ _ ⟨v, H', I', r, q⟩ => ⟨v, H', I'.unwish, r, q⟩) fun _ _ z => False.elim z
theorem PT.nox {e : Expr} {t : TT} (h : PT X.nox e t) : PT X e t := fun pins s σ H Q I hw =>
  wpAny_mono (h pins s σ H Q (I.wish _) hw) (fun _ _ ⟨H', I', q⟩ => ⟨H', I'.unwish, q⟩) fun _ _ z => False.elim z
theorem PSs.nox {st : List Stmt} {t : TS} (h : PSs X.nox st t) : PSs X st t := fun pins s σ H D I hw =>
  wpAny_mono (h pins s σ H D (I.wish _) hw) (fun _ _ q => q.unwish) fun _ _ z => False.elim z
end

/-! ### blocks and small statements -/
section
variable {X : Cx} {st : Stmt} {rest : List Stmt} {t u : TS} {e : Expr} {te : TE} {pos : Pos}
def tNext : TS := fun D σ H => D.nx σ H
def tSeq (t u : TS) : TS := fun D σ H => t { D with nx := u D } σ H
theorem pss_nil : PSs X [] tNext := fun _ _ σ H _ I h => wpAny_execs_nil ⟨σ, H, I, h⟩
theorem pss_cons (h1 : PS X st t) (h2 : PSs X rest u) : PSs X (st :: rest) (tSeq t u) := by
  intro pins s σ H D I h
  refine wpAny_execs_cons (thn (h1 pins s σ H { D with nx := u D } I h) fun f s1 q => ?_)
  cases f with
  | next =>
    obtain ⟨σ', H', I', q⟩ := q
    exact h2 pins s1 σ' H' D I' q
  | ret v => exact q
  | brk => exact q
  | cont => exact q
theorem pss_one (h1 : PS X st t) : PSs X [st] t := by
  intro pins s σ H D I h
  refine wpAny_execs_cons (thn (h1 pins s σ H D I h) fun f s1 q => ?_)
  cases f with
  | next => exact wpAny_execs_nil q
  | ret v => exact q
  | brk => exact q
  | cont => exact q
def tBreak : TS := fun D σ H => D.bk σ H
def tCont : TS := fun D σ H => D.ct σ H
theorem ps_pass : PS X (.Pass pos) tNext := fun _ _ σ H _ I h => wpAny_Pass ⟨σ, H, I, h⟩
theorem ps_break : PS X (.Break pos) tBreak := fun _ _ σ H _ I h => wpAny_Break ⟨σ, H, I, h⟩
theorem ps_continue : PS X (.Continue pos) tCont := fun _ _ σ H _ I h => wpAny_Continue ⟨σ, H, I, h⟩
/-- in a def's body nothing is shown -/
theorem Inv.quiet {pins : List (Addr × Obj)} {σ : St} {H : Hp} {s : Shared} (I : Inv X pins σ H s) : interactive X.env = false := by simp [interactive, I.ok.kind]
/-- a docstring -/
theorem ps_doc {x j pos pos'} : PS X (.Expr (.Constant (.str x) j pos) pos') tNext := fun _ s σ H _ I h => wpAny_Expr (Calls.Constant_str (show SP X _ _ .next { s with toks := s.toks + 1 } from ⟨σ, H, I.tok _, h⟩)) I.quiet
/-- an expression whose value is dropped -/
def tDrop (te : TE) : TS := fun D σ H => te σ H fun _ H1 => D.nx σ H1
theorem ps_expr (he : PE X e te) (hs : swapsWith e none pos.line X.env = pure false := by rfl) : PS X (.Expr e pos) (tDrop te) := by
  intro pins s σ H D I h
  exact wpAny_Expr_any (thn (he pins s σ H _ I h) fun v s1 ⟨x, H1, I1, r1, q1⟩ => ⟨σ, H1, I1, q1⟩) I.quiet hs
def tRet (te : TE) : TS := fun D σ H => te σ H D.rt
theorem ps_ret (he : PE X e te) : PS X (.Return (some e) pos) (tRet te) := by
  intro pins s σ H D I h
  exact wpAny_Return_some (thn (he pins s σ H _ I h) fun v s1 ⟨x, H1, I1, r1, q1⟩ => ⟨x, σ, H1, I1, r1, q1⟩)
def tRetN : TS := fun D _ H => D.rt .non H
theorem ps_retN : PS X (.Return none pos) tRetN := fun _ _ σ H _ I h => wpAny_Return_none ⟨.non, σ, H, I, rfl, h⟩
def tIfS (c : TT) (t u : TS) : TS := fun D σ H => c σ H fun b H1 => if b = true then t D σ H1 else u D σ H1
theorem ps_if {c : Expr} {a b : List Stmt} {tc : TT} (hc : PT X c tc) (ha : PSs X a t) (hb : PSs X b u) : PS X (.If c a b pos) (tIfS tc t u) := by
  intro pins s σ H D I h
  refine wpAny_If (thn (hc pins s σ H _ I h) fun d s1 ⟨H1, I1, q1⟩ => ?_)
  cases d with
  | true => exact ha pins s1 σ H1 D I1 q1
  | false => exact hb pins s1 σ H1 D I1 q1
/-- code that the proof never comes to -/
def tNever : TS := fun _ _ _ => False
theorem ps_never : PS X st tNever := fun _ _ _ _ _ _ h => h.elim
theorem pss_never {sts : List Stmt} : PSs X sts tNever := fun _ _ _ _ _ _ h => h.elim
end

/-! ### targets -/
abbrev TG := V → St → Hp → (St → Hp → Prop) → Prop
abbrev TGs := List V → St → Hp → (St → Hp → Prop) → Prop
def PG (X : Cx) (target : Expr) (t : TG) : Prop :=
  ∀ (pins : List (Addr × Obj)) (s : Shared) (σ : St) (H : Hp) (v : V) (u : Value) (Q : St → Hp → Prop), Inv X pins σ H s → RelV v u → t v σ H Q →
    wpAny (model X.prog X.w) X.A (assign target X.env u) (fun _ s' => ∃ σ' H', Inv X pins σ' H' s' ∧ Q σ' H') X.xe s
/-- several targets, one after another -/
def PGs (X : Cx) (ts : List Expr) (t : TGs) : Prop :=
  ∀ (pins : List (Addr × Obj)) (s : Shared) (σ : St) (H : Hp) (vs : List V) (us : List Value) (Q : St → Hp → Prop), Inv X pins σ H s → Vals vs us → t vs σ H Q →
    wpAny (model X.prog X.w) X.A (assignInOrder ((assignEach ts X.env).map (·.2)) us) (fun _ s' => ∃ σ' H', Inv X pins σ' H' s' ∧ Q σ' H') X.xe s
/-- o[i] = v, by values -/
abbrev TSet := V → V → V → Hp → (Hp → Prop) → Prop
def PSet (X : Cx) (t : TSet) : Prop :=
  ∀ (pins : List (Addr × Obj)) (s : Shared) (σ : St) (H : Hp) (o i v : V) (ov iv u : Value) (Q : Hp → Prop), Inv X pins σ H s → RelV o ov → RelV i iv → RelV v u → t o i v H Q →
    wpAny (model X.prog X.w) X.A (setItem ov iv u) (fun _ s' => ∃ H', Inv X pins σ H' s' ∧ Q H') X.xe s
/-- a op= b, by values -/
abbrev TIp := V → V → Hp → VK → Prop
def PIp (X : Cx) (op : Operator) (t : TIp) : Prop :=
  ∀ (pins : List (Addr × Obj)) (s : Shared) (σ : St) (H : Hp) (x y : V) (v u : Value) (Q : VK), Inv X pins σ H s → RelV x v → RelV y u → t x y H Q →
    wpAny (model X.prog X.w) X.A (inplaceOp op v u) (EP X pins σ Q) X.xe s
section
variable {X : Cx} {pos : Pos}
def gName (i : Nat) : TG := fun v σ H Q => Q (σ.set i (some v)) H
theorem pg_name {i : Nat} {x : Str} (hN : X.N.Nodup) (hi : X.N[i]? = some x) (hx : Loc X.env.scope x) (hf : X.fn x = true ∨ X.env.scope.names.lookup x = some .local := by first | exact .inl rfl | exact .inr rfl | assumption) : PG X (.Name x pos) (gName i) := by
  intro pins s σ H v u Q I r h
  exact wpAny_assign_Name (store_ok I hN hi hx r (fun s' I' => ⟨_, H, I', h⟩) hf)
def gNil : TGs := fun vs σ H Q => vs = [] ∧ Q σ H
def gCons (t : TG) (u : TGs) : TGs := fun vs σ H Q => ∃ v r, vs = v :: r ∧ t v σ H fun σ' H' => u r σ' H' Q
theorem pgs_nil : PGs X [] gNil := by
  intro pins s σ H vs us Q I r h
  obtain ⟨e, h⟩ := h
  subst e
  cases r
  exact assignInOrder_nil ⟨σ, H, I, h⟩
theorem pgs_cons {e : Expr} {es : List Expr} {t : TG} {u : TGs} (h1 : PG X e t) (h2 : PGs X es u)
    (hs : (assignEach (e :: es) X.env).map (·.2) = assign e X.env :: (assignEach es X.env).map (·.2) := by rfl) : PGs X (e :: es) (gCons t u) := by
  intro pins s σ H vs us Q I r h
  obtain ⟨v, vr, e1, h⟩ := h
  subst e1
  cases r with
  | cons r rr =>
    rw [hs]
    refine assignInOrder_cons (thn (h1 pins s σ H _ _ _ I r h) fun _ s1 ⟨σ1, H1, I1, q1⟩ => ?_)
    exact h2 pins s1 σ1 H1 _ _ Q I1 rr q1
/-- (a, b, ..) = a tuple of that length -/
def gTup (K : PySem.W.Frag) (n : Nat) (t : TGs) : TG := fun v σ H Q => ∃ a xs, v = .ref a ∧ SqT K H a xs ∧ xs.length = n ∧ t xs σ H Q
theorem pg_tup {es : List Expr} {k : Nat} {t : TGs} {n : Nat} (hc : X.calm = true) (h : PGs X es t)
    (hn : (assignEach es X.env).length = n := by rfl) (hst : (assignEach es X.env).findIdx? (·.1) = none := by rfl) : PG X (.Tuple es k pos) (gTup X.K n t) := by
  intro pins s σ H v u Q I r hw
  obtain ⟨a, xs, e1, hq, hl, hw⟩ := hw
  subst e1
  cases r
  obtain ⟨its, rv, ht, hz⟩ := I.tuple hq
  refine assign_Tuple_tuple (I.ok.hd hc) ht (by simp [hn, ← hl, rv.length]) hst fun h' hx => ?_
  have I1 : Inv X pins σ H { s with heap := h' } := I.kept (t' := s.toks) fun b o e => hx b o (Nat.ne_of_lt (Heap.lt_size e)) e
  exact h pins _ σ H xs _ Q I1 (by simpa using rv) hw
/-- o[i] = .. -/
def gSub (to ti : TE) (t : TSet) : TG := fun v σ H Q => to σ H fun o H1 => ti σ H1 fun i H2 => t o i v H2 fun H3 => Q σ H3
theorem pg_sub {o i : Expr} {to ti : TE} {t : TSet} (ho : PE X o to) (hi : PE X i ti) (hs : PSet X t)
    (ha : ∀ v, assign (.Subscript o i pos) X.env v = (do
      let ov ← holding [v] (eval o X.env)
      let iv ← holding [v, ov] (eval i X.env)
      standAt pos
      holding [v, ov, iv] (setItem ov iv v)
      release [v, ov, iv] []) := by intro _; rfl) : PG X (.Subscript o i pos) (gSub to ti t) := by
  intro pins s σ H v u Q I r h
  rw [ha]
  refine wpAny_bind (wpAny_holding (thn (ho pins s σ H _ I h) fun ov s1 ⟨x, H1, I1, r1, q1⟩ => ?_))
  refine wpAny_bind (wpAny_holding (thn (hi pins s1 σ H1 _ I1 q1) fun iv s2 ⟨y, H2, I2, r2, q2⟩ => ?_))
  refine wpAny_bind (wpAny_standAt (wpAny_bind (wpAny_holding (thn (hs pins s2 σ H2 x y v ov iv u _ I2 r1 r2 r q2) fun _ s3 ⟨H3, I3, q3⟩ => ?_))))
  exact wpAny_release ⟨σ, H3, I3, q3⟩
/-- target = value -/
def tAsg (te : TE) (g : TG) : TS := fun D σ H => te σ H fun x H1 => g x σ H1 D.nx
theorem ps_asg {tg e : Expr} {te : TE} {g : TG} (he : PE X e te) (hg : PG X tg g) (hs : swapsWithSole [tg] e pos.line X.env = pure false := by rfl) (hw : swappedStores [tg] e X.env = pure none := by rfl)
    (h1 : (assignEach [tg] X.env).map (·.2) = [assign tg X.env] := by rfl) : PS X (.Assign [tg] e pos) (tAsg te g) := by
  intro pins s σ H D I h
  refine wpAny_Assign_stores (thn (he pins s σ H _ I h) fun v s1 ⟨x, H1, I1, r1, q1⟩ => ?_) hs hw
  rw [h1]
  exact thn (hg pins s1 σ H1 x v _ I1 r1 q1) fun _ s2 q => q
/-- name = value -/
theorem ps_set {i : Nat} {x : Str} {e : Expr} {te : TE} {pos' : Pos} (hN : X.N.Nodup) (hi : X.N[i]? = some x) (hx : Loc X.env.scope x) (he : PE X e te) (hs : swapsWith e (some (.Name x pos')) pos.line X.env = pure false := by rfl) (hf : X.fn x = true ∨ X.env.scope.names.lookup x = some .local := by first | exact .inl rfl | exact .inr rfl | assumption) :
    PS X (.Assign [.Name x pos'] e pos) (tAsg te (gName i)) := by
  intro pins s σ H D I h
  refine wpAny_Assign_Name (thn (he pins s σ H _ I h) fun v s1 ⟨y, H1, I1, r1, q1⟩ => ?_) hs
  exact store_ok I1 hN hi hx r1 (fun s2 I2 => ⟨_, H1, I2, q1⟩) hf
/-- a, b = x, y with plain local names: stored from the right; the pair itself is not tracked (the opening rows as in PyProof/Rows/TupAssign.lean:23) -/
def tPar (i j : Nat) (ta : TA) : TS := fun D σ H => ta σ H fun vs H1 => ∃ v w, vs = [v, w] ∧ D.nx ((σ.set i (some v)).set j (some w)) H1
theorem ps_par {i j : Nat} {x y : Str} {a b : Expr} {ta : TA} {px py pt : Pos} {kt k2 pt2} (hc : X.calm = true) (hN : X.N.Nodup) (hi : X.N[i]? = some x) (hj : X.N[j]? = some y) (hij : i ≠ j)
    (hx : X.env.scope.names.lookup x = some .local) (hy : X.env.scope.names.lookup y = some .local) (ha : PA X [a, b] ta)
    (hw : swappedStores [.Tuple [.Name x px, .Name y py] kt pt] (.Tuple [a, b] k2 pt2) X.env = pure (some [x, y]))
    (hs : swapsWithSole [.Tuple [.Name x px, .Name y py] kt pt] (.Tuple [a, b] k2 pt2) pos.line X.env = pure false := by rfl) :
    PS X (.Assign [.Tuple [.Name x px, .Name y py] kt pt] (.Tuple [a, b] k2 pt2) pos) (tPar i j ta) := by
  intro pins s σ H D I h
  rw [exec_Assign_arm]
  refine wpAny_bind (wpAny_standAt ?_)
  rw [hs]
  refine wpAny_bind (wpAny_pure ?_)
  rw [if_neg (by decide)]
  refine wpAny_bind (Tuple_ (thn (ha _ pins s σ H _ I h) fun us s1 ⟨vs, H1, I1, r1, q1⟩ => ?_))
  obtain ⟨v, w, e1, q1⟩ := q1
  subst e1
  obtain ⟨u1, u2, rfl, rv, rw'⟩ : ∃ u1 u2, us = [u1, u2] ∧ RelV v u1 ∧ RelV w u2 := by
    cases r1 with
    | cons p q =>
      cases q with
      | cons p' q' =>
        cases q'
        exact ⟨_, _, rfl, p, p'⟩
  refine wpAny_newObj_type ?_ (by show 2 ≤ sizeLine; decide)
  have I2 : Inv X pins σ H1 { s1 with heap := s1.heap.push { cls := .type "tuple", data := .seq [u1, u2].toArray } } := I1.kept (t' := s1.toks) fun b o e => Heap.get?_push_of_some _ e
  rw [hw]
  refine wpAny_bind (wpAny_pure ?_)
  show wpAny (model X.prog X.w) X.A (do rule "assign.swapped-stores"; let items ← unpackItems (.ref s1.heap.objs.size) 2 none; assignInOrder [fun v => bindName X.env y v, fun v => bindName X.env x v] items.reverse; pure Flow.next) _ _ _
  refine wpAny_bind (wpAny_rule (wpAny_bind (unpackItems_tuple (items := #[u1, u2]) (I.ok.hd hc) (IsTup.new s1.heap _) fun h' hx' => ?_)))
  have I3 := I2.kept (h' := h') (t' := s1.toks) fun b o e => hx' b o (Nat.ne_of_lt (Heap.lt_size e)) e
  show wpAny _ _ (assignInOrder [fun v => bindName X.env y v, fun v => bindName X.env x v] [u2, u1] >>= fun _ => pure Flow.next) _ _ _
  refine wpAny_bind (assignInOrder_cons (wpAny_bindName (store_ok I3 hN hj (.inl hy) rw' (fun s2 I4 => ?_) (.inr hy))))
  refine assignInOrder_cons (wpAny_bindName (store_ok I4 hN hi (.inl hx) rv (fun s3 I5 => assignInOrder_nil (wpAny_pure ?_)) (.inr hx)))
  rw [List.set_comm _ _ (Ne.symm hij)] at I5
  exact ⟨_, H1, I5, q1⟩
/-- name op= e -/
def tAug (i : Nat) (te : TE) (ti : TIp) : TS := fun D σ H => ∃ x, σ[i]? = some (some x) ∧ te σ H fun y H1 => ti x y H1 fun z H2 => D.nx (σ.set i (some z)) H2
theorem ps_aug {i : Nat} {x : Str} {e : Expr} {te : TE} {op : Operator} {ti : TIp} {pos' : Pos} (hN : X.N.Nodup) (hi : X.N[i]? = some x) (hx : Loc X.env.scope x) (he : PE X e te) (ho : PIp X op ti) (hf : X.fn x = true ∨ X.env.scope.names.lookup x = some .local := by first | exact .inl rfl | exact .inr rfl | assumption) :
    PS X (.AugAssign (.Name x pos') op e pos) (tAug i te ti) := by
  intro pins s σ H D I h
  obtain ⟨v, e1, h⟩ := h
  obtain ⟨m, hn, hl⟩ := I.loc
  have vis : Vis X.env.scope x := by rcases hx with k | k; exact .inl k; exact .inr (.inl k)
  obtain ⟨u, r, l⟩ := hl i x v hi e1 vis
  refine wpAny_AugAssign_Name ?_
  have go : wpAny (model X.prog X.w) X.A (eval e X.env) (fun w s₂ => wpAny (model X.prog X.w) X.A (inplaceOp op u w) (fun r s₃ => wpAny (model X.prog X.w) X.A (storeName X.env x r) (fun _ => SP X pins D .next) X.xe s₃) X.xe s₂) X.xe s := by
    refine thn (he pins s σ H _ I h) fun w s1 ⟨y, H1, I1, r1, q1⟩ => ?_
    refine thn (ho pins s1 σ H1 v y u w _ I1 r r1 q1) fun z s2 ⟨zv, H2, I2, r2, q2⟩ => ?_
    exact store_ok I2 hN hi hx r2 (fun s3 I3 => ⟨_, H2, I3, q2⟩) hf
  rcases l with ⟨hk, hm⟩ | ⟨hk, c, hc, hcell⟩
  · exact wpAny_loadName_local I.ok.kind hk hn hm go
  · rcases hk with hk | hk
    · exact wpAny_loadName_cell I.ok.kind hk hc hcell go
    · rcases hx with k | k
      · have : X.env.scope.names.lookup x = some .free := hk
        rw [k] at this; cases this
      · have : X.env.scope.names.lookup x = some .free := hk
        rw [k] at this; cases this
/-- o[i] op= e -/
def tAugS (to ti te : TE) (tget : V → V → Hp → VK → Prop) (tip : TIp) (tset : TSet) : TS := fun D σ H => to σ H fun o H1 => ti σ H1 fun i H2 => tget o i H2 fun x H3 => te σ H3 fun y H4 => tip x y H4 fun z H5 => tset o i z H5 fun H6 => D.nx σ H6
/-- o[i], by values -/
def PGet (X : Cx) (t : V → V → Hp → VK → Prop) : Prop :=
  ∀ (pins : List (Addr × Obj)) (s : Shared) (σ : St) (H : Hp) (o i : V) (ov iv : Value) (Q : VK), Inv X pins σ H s → RelV o ov → RelV i iv → t o i H Q →
    wpAny (model X.prog X.w) X.A (getItem ov iv) (EP X pins σ Q) X.xe s
theorem ps_augS {o i e : Expr} {to ti te : TE} {tget : V → V → Hp → VK → Prop} {tip : TIp} {tset : TSet} {op : Operator} {tpos : Pos} (ho : PE X o to) (hi : PE X i ti) (hg : PGet X tget) (he : PE X e te) (hp : PIp X op tip) (hs : PSet X tset)
    (ha : ∀ ov iv new, augStore i ov iv new = (do holding [new, ov, iv] (setItem ov iv new); release [new, ov, iv] []; pure .next) := by intros; rfl) : PS X (.AugAssign (.Subscript o i tpos) op e pos) (tAugS to ti te tget tip tset) := by
  intro pins s σ H D I h
  refine wpAny_AugAssign_SubscriptAny (thn (ho pins s σ H _ I h) fun ov s1 ⟨x1, H1, I1, r1, q1⟩ => ?_) ha
  refine thn (hi pins s1 σ H1 _ I1 q1) fun iv s2 ⟨x2, H2, I2, r2, q2⟩ => ?_
  refine thn (hg pins s2 σ H2 x1 x2 ov iv _ I2 r1 r2 q2) fun old s3 ⟨x3, H3, I3, r3, q3⟩ => ?_
  refine thn (he pins s3 σ H3 _ I3 q3) fun v s4 ⟨x4, H4, I4, r4, q4⟩ => ?_
  refine thn (hp pins s4 σ H4 x3 x4 old v _ I4 r3 r4 q4) fun new s5 ⟨x5, H5, I5, r5, q5⟩ => ?_
  exact thn (hs pins s5 σ H5 x1 x2 x5 ov iv new _ I5 r1 r2 r5 q5) fun _ s6 ⟨H6, I6, q6⟩ => ⟨σ, H6, I6, q6⟩
/-- ints -/
def ipI (f : Int → Int → Int) : TIp := fun x y H Q => ∃ i j, x = .int i ∧ y = .int j ∧ Q (.int (f i j)) H
theorem ip_add : PIp X .Add (ipI fun i j => i + j) := by
  intro pins s σ H x y v u Q I r1 r2 h
  obtain ⟨i, j, e1, e2, q⟩ := h
  subst e1; subst e2
  obtain ⟨t, rfl⟩ := r1
  obtain ⟨t', rfl⟩ := r2
  exact iadd_int ⟨.int _, H, I.tok _, ⟨_, rfl⟩, q⟩
theorem ip_sub : PIp X .Sub (ipI fun i j => i - j) := by
  intro pins s σ H x y v u Q I r1 r2 h
  obtain ⟨i, j, e1, e2, q⟩ := h
  subst e1; subst e2
  obtain ⟨t, rfl⟩ := r1
  obtain ⟨t', rfl⟩ := r2
  exact isub_int ⟨.int _, H, I.tok _, ⟨_, rfl⟩, q⟩
end

/-! ### while -/
section
variable {X : Cx} {pos : Pos}
/-- the invariant W with its measure -/
def tWhile (c : TT) (tb : TS) : TS := fun D σ H => ∃ W : Nat → St → Hp → Prop, (∃ m, W m σ H) ∧ ∀ m σ H, W m σ H →
  c σ H fun b H1 => if b = true then ∃ N : St → Hp → Prop, (∀ σ' H', N σ' H' → ∃ m', m' < m ∧ W m' σ' H') ∧ tb { D with nx := N, ct := N, bk := D.nx } σ H1 else D.nx σ H1
theorem ps_while {c : Expr} {body : List Stmt} {tc : TT} {tb : TS} (hp : PassesOwn (model X.prog X.w) X.A X.env X.xe) (hc : PT X c tc) (hb : PSs X body tb) : PS X (.While c body [] pos) (tWhile tc tb) := by
  intro pins s σ H D I h
  obtain ⟨W, ⟨m0, w0⟩, turn⟩ := h
  refine wpAny_While (codeAny_whileLoop (fun n s' => ∃ σ' H', Inv X pins σ' H' s' ∧ W n σ' H') ?_ m0 ⟨σ, H, I, w0⟩)
  rintro n s1 ⟨σ1, H1, I1, w1⟩
  refine wpAny_passesOwn hp (thn (hc pins s1 σ1 H1 _ I1 (turn n σ1 H1 w1)) fun b s2 ⟨H2, I2, q2⟩ => ?_)
  cases b with
  | true =>
    obtain ⟨N, hN, q2⟩ := q2
    rw [if_pos rfl]
    refine wpAny_passesOwn hp (thn (hb pins s2 σ1 H2 _ I2 q2) fun f s3 q3 => ?_)
    cases f with
    | next =>
      obtain ⟨σ3, H3, I3, n3⟩ := q3
      obtain ⟨m', hm, w3⟩ := hN σ3 H3 n3
      exact ⟨m', hm, σ3, H3, I3, w3⟩
    | cont =>
      obtain ⟨σ3, H3, I3, n3⟩ := q3
      obtain ⟨m', hm, w3⟩ := hN σ3 H3 n3
      exact ⟨m', hm, σ3, H3, I3, w3⟩
    | brk => exact q3
    | ret v => exact q3
  | false =>
    rw [if_neg Bool.false_ne_true]
    exact wpAny_execs_nil ⟨σ1, H2, I2, q2⟩
end

/-! ### what a loop or a comprehension walks -/
/-- at turn i: it yields x (the heap may grow), or it stops -/
structure It where
  go : Nat → Hp → Prop
  yld : Nat → Hp → V → Hp → Prop
  stop : Nat → Hp → Prop
/-- the iterator's own objects may turn: they are not the frame's, not pinned, younger than the entry (or a comprehension's own) -/
def FpOk (X : Cx) (pins : List (Addr × Obj)) (H : Hp) (b : Addr) : Prop :=
  H b = none ∧ b ≠ X.env.locals ∧ b ∉ X.fs ∧ (b ∈ X.ex ∨ X.s₀.heap.objs.size ≤ b) ∧ (∀ x c, X.env.cells.lookup x = some c → c ≠ b) ∧ ∀ p ∈ X.pn ++ pins, p.1 ≠ b
theorem Inv.fpOk {X : Cx} {pins : List (Addr × Obj)} {σ : St} {H H' : Hp} {s : Shared} {b : Addr} (I : Inv X pins σ H s) (hb : s.heap.objs.size ≤ b) (hn : H' b = none) : FpOk X pins H' b := by
  refine ⟨hn, Nat.ne_of_gt (Nat.lt_of_lt_of_le I.lt hb), I.nofs hb, .inr (Nat.le_trans I.sz hb), fun x c e z => ?_, fun p hp z => ?_⟩
  · obtain ⟨v, q⟩ := I.cell x c e
    exact absurd (Nat.lt_of_lt_of_le q.lt (by rw [z]; exact hb)) (Nat.lt_irrefl _)
  · exact absurd (Nat.lt_of_lt_of_le (Heap.lt_size (I.pin p hp).1) (by rw [z]; exact hb)) (Nat.lt_irrefl _)
structure Turn (P : Program) (w : World) (K : PySem.W.Frag) (tg : Expr) (J : It) (fp : List Addr) (it : Addr) (tn : Nat → Heap → Prop) : Prop where
  mem : it ∈ fp
  obj : ∀ i h, tn i h → ∀ b ∈ fp, ∃ o, h.get? b = some o ∧ ∀ v, o.data ≠ .cell v
  keep : ∀ i h h', tn i h → (∀ b ∈ fp, ∀ o, h.get? b = some o → h'.get? b = some o) → tn i h'
  item : ∀ (X : Cx), X.prog = P → X.w = w → X.K = K → X.calm = true → ∀ (i : Nat) (pins : List (Addr × Obj)) (s : Shared) (σ : St) (H : Hp) (E : Value → Shared → Prop), Inv X pins σ H s → (∀ b ∈ fp, FpOk X pins H b) → tn i s.heap → J.go i H →
    wpAny (model P w) X.A (pyNext (.ref it)) (fun r s1 => ∃ u, r = some u ∧
      wpAny (model P w) X.A (letOwnedTupleGo tg (.ref it) u) (fun _ s2 => ∃ x H', Inv X pins σ H' s2 ∧ RelV x u ∧ J.yld i H x H' ∧ tn (i + 1) s2.heap ∧ ∀ b ∈ fp, H' b = none) E s1) E s
  done : ∀ (X : Cx), X.prog = P → X.w = w → X.K = K → X.calm = true → ∀ (i : Nat) (pins : List (Addr × Obj)) (s : Shared) (σ : St) (H : Hp) (E : Value → Shared → Prop), Inv X pins σ H s → (∀ b ∈ fp, FpOk X pins H b) → tn i s.heap → J.stop i H →
    wpAny (model P w) X.A (pyNext (.ref it)) (fun r s1 => r = none ∧ Inv X pins σ H s1) E s
  self : ∀ (A : Around) (i : Nat) (s : Shared) (Q : Value → Shared → Prop) (E : Value → Shared → Prop), tn i s.heap → Q (.ref it) s → wpAny (model P w) A (pyIter (.ref it)) Q E s
abbrev TI := St → Hp → (It → Hp → Prop) → Prop
/-- an iterator has come -/
def PIE (X : Cx) (pins : List (Addr × Obj)) (σ : St) (tg : Expr) (R : It → Hp → Prop) (itv : Value) (s2 : Shared) : Prop :=
  ∃ (it : Addr) (fp : List Addr) (tn : Nat → Heap → Prop) (J : It) (H' : Hp), itv = .ref it ∧ Inv X pins σ H' s2 ∧ Turn X.prog X.w X.K tg J fp it tn ∧ tn 0 s2.heap ∧ (∀ b ∈ fp, FpOk X pins H' b) ∧ R J H'
def PI (X : Cx) (tg iter : Expr) (wi : TI) : Prop :=
  ∀ (pins : List (Addr × Obj)) (s : Shared) (σ : St) (H : Hp) (R : It → Hp → Prop), Inv X pins σ H s → wi σ H R →
    wpAny (model X.prog X.w) X.A (eval iter X.env) (fun v s1 => wpAny (model X.prog X.w) X.A (pyIter v) (PIE X pins σ tg R) X.xe s1) X.xe s

/-- the step ahead of the store is nothing for an iterator that keeps no tuple -/
theorem go_of {M : Model} {A : Around} {E : Value → Shared → Prop} {s : Shared} {tg : Expr} {it : Addr} {u : Value} {o : Obj} {n : String} {vs : Array Value} {Q : Unit → Shared → Prop} (ho : s.heap.get? it = some o) (hc : o.cls = .type n) (hd : o.data = .fields vs)
    (hn : ["enumerate", "zip", "dict_itemiterator", "dict_reverseitemiterator", "odict_iterator", "itertools.zip_longest", "itertools.pairwise"].contains n = false) (hQ : Q () s) : wpAny M A (letOwnedTupleGo tg (.ref it) u) Q E s := by
  unfold letOwnedTupleGo
  cases tg <;> first
    | exact wpAny_pure hQ
    | (cases u <;> first
        | exact wpAny_pure hQ
        | (refine wpAny_bind (wpAny_load ho ?_)
           rw [hc, hd]
           show wpAny M A (if (["enumerate", "zip", "dict_itemiterator", "dict_reverseitemiterator", "odict_iterator", "itertools.zip_longest", "itertools.pairwise"].contains n && vs[0]? == some (rawInt _)) = true then _ else _) Q E s
           rw [if_neg (by intro h; rw [hn, Bool.false_and] at h; cases h)]
           exact wpAny_pure hQ))

/-- the list at a, as it stands at each turn (a loop may append to it) -/
def Itl (K : PySem.W.Frag) (a : Addr) : It :=
  ⟨fun i H => ∃ xs x, SqL K H a xs ∧ xs[i]? = some x, fun i H x H' => H' = H ∧ ∀ xs, SqL K H a xs → xs[i]? = some x, fun i H => ∃ xs, SqL K H a xs ∧ xs.length ≤ i⟩
def Itt (K : PySem.W.Frag) (a : Addr) : It :=
  ⟨fun i H => ∃ xs x, SqT K H a xs ∧ xs[i]? = some x, fun i H x H' => H' = H ∧ ∀ xs, SqT K H a xs → xs[i]? = some x, fun i H => ∃ xs, SqT K H a xs ∧ xs.length ≤ i⟩
/-- lo, lo + 1, .. (n of them) -/
def Itr (lo : Int) (n : Nat) : It := ⟨fun i _ => i < n, fun i H x H' => H' = H ∧ x = .int (lo + i), fun i _ => n ≤ i⟩
theorem turn_list {P : Program} {w : World} {K : PySem.W.Frag} {tg : Expr} (a it : Addr) : Turn P w K tg (Itl K a) [it] it (fun i h => h.IsListIter it a i) where
  mem := by simp
  obj := fun i h st b hb => by
    have e : b = it := by simpa using hb
    subst e
    obtain ⟨o, e, c, d⟩ := st
    exact ⟨o, e, fun v z => by rw [d] at z; cases z⟩
  keep := fun i h h' st k => st.at fun o e => k it (by simp) o e
  item := by
    intro X hP hw hK hc i pins s σ H E I hf st hg
    subst hP hw hK
    obtain ⟨xs, x, hq, hx⟩ := hg
    obtain ⟨its, rv, p, hz⟩ := I.list hq
    obtain ⟨u, hu, ru⟩ := rv.get hx
    obtain ⟨f0, f1, f2, f3, f4, f5⟩ := hf it (by simp)
    refine wpAny_pyNext_list_item st p.isList (x := u) (by simpa using hu) fun h' st' sb => ?_
    have I1 : Inv X pins σ H { s with heap := h' } := I.turned (t' := s.toks) (fun b o hb e => (sb.2 b hb).trans e) f0 f1 f3 f4 f5
    obtain ⟨o, e, c, d⟩ := id st'
    exact ⟨u, rfl, go_of (s := { s with heap := h' }) e c d (by decide) ⟨x, H, I1, ru, ⟨rfl, fun ys hy => by rw [I.list_inj hy hq]; exact hx⟩, st', fun b hb => (hf b hb).1⟩⟩
  done := by
    intro X hP hw hK hc i pins s σ H E I hf st hg
    subst hP hw hK
    obtain ⟨xs, hq, hx⟩ := hg
    obtain ⟨its, rv, p, hz⟩ := I.list hq
    obtain ⟨f0, f1, f2, f3, f4, f5⟩ := hf it (by simp)
    have hl := rv.length
    exact wpAny_pyNext_list_end (I.ok.hd hc) st p.isList (by simp; omega) fun h' eb => ⟨rfl, I.turned (t' := s.toks) (fun b o hb e => eb b o hb e) f0 f1 f3 f4 f5⟩
  self := fun _ _ _ _ _ st h => wpAny_pyIter_listiter st h
theorem turn_tuple {P : Program} {w : World} {K : PySem.W.Frag} {tg : Expr} (a it : Addr) : Turn P w K tg (Itt K a) [it] it (fun i h => h.IsTupleIter it a i) where
  mem := by simp
  obj := fun i h st b hb => by
    have e : b = it := by simpa using hb
    subst e
    obtain ⟨o, e, c, d⟩ := st
    exact ⟨o, e, fun v z => by rw [d] at z; cases z⟩
  keep := fun i h h' st k => st.at fun o e => k it (by simp) o e
  item := by
    intro X hP hw hK hc i pins s σ H E I hf st hg
    subst hP hw hK
    obtain ⟨xs, x, hq, hx⟩ := hg
    obtain ⟨its, rv, p, hz⟩ := I.tuple hq
    obtain ⟨u, hu, ru⟩ := rv.get hx
    obtain ⟨f0, f1, f2, f3, f4, f5⟩ := hf it (by simp)
    refine wpAny_pyNext_tuple_item st (show s.heap.IsTuple a its.toArray from p) (x := u) (by simpa using hu) fun h' st' sb => ?_
    have I1 : Inv X pins σ H { s with heap := h' } := I.turned (t' := s.toks) (fun b o hb e => (sb.2 b hb).trans e) f0 f1 f3 f4 f5
    obtain ⟨o, e, c, d⟩ := id st'
    exact ⟨u, rfl, go_of (s := { s with heap := h' }) e c d (by decide) ⟨x, H, I1, ru, ⟨rfl, fun ys hy => by rw [I.tuple_inj hy hq]; exact hx⟩, st', fun b hb => (hf b hb).1⟩⟩
  done := by
    intro X hP hw hK hc i pins s σ H E I hf st hg
    subst hP hw hK
    obtain ⟨xs, hq, hx⟩ := hg
    obtain ⟨its, rv, p, hz⟩ := I.tuple hq
    obtain ⟨f0, f1, f2, f3, f4, f5⟩ := hf it (by simp)
    have hl := rv.length
    exact wpAny_pyNext_tuple_end (I.ok.hd hc) st (show s.heap.IsTuple a its.toArray from p) (by simp; omega) fun h' eb => ⟨rfl, I.turned (t' := s.toks) (fun b o hb e => eb b o hb e) f0 f1 f3 f4 f5⟩
  self := fun _ _ _ _ _ st h => wpAny_pyIter_tupleiter st h
theorem turn_range {P : Program} {w : World} {K : PySem.W.Frag} {tg : Expr} (it : Addr) (lo : Int) (n : Nat) : Turn P w K tg (Itr lo n) [it] it (fun i h => IsRangeIter h it (lo + (i : Nat) * 1) ((n : Int) - (i : Nat)) 1) where
  mem := by simp
  obj := fun i h st b hb => by
    have e : b = it := by simpa using hb
    subst e
    exact ⟨_, st, fun v z => by
      have z' : Data.fields _ = Data.cell v := z
      cases z'⟩
  keep := fun i h h' st k => k it (by simp) _ st
  item := by
    intro X hP hw hK hc i pins s σ H E I hf st hg
    subst hP hw hK
    obtain ⟨f0, f1, f2, f3, f4, f5⟩ := hf it (by simp)
    have W := Walks.range (prog := X.prog) (w := X.w) (I.ok.hd hc) it lo 1 n
    refine W.item i s _ _ hg st fun v h' tk hv st' kk => ?_
    obtain ⟨t, rfl⟩ := hv
    have I1 : Inv X pins σ H { s with heap := h', toks := tk } := I.turned (fun b o hb e => kk b o (by simpa using hb) e) f0 f1 f3 f4 f5
    refine ⟨_, rfl, go_of (s := { s with heap := h', toks := tk }) (n := "range_iterator") st' rfl rfl (by decide) ⟨.int (lo + i), H, I1, ⟨t, ?_⟩, ⟨rfl, rfl⟩, st', fun b hb => (hf b hb).1⟩⟩
    rw [Int.mul_one]
  done := by
    intro X hP hw hK hc i pins s σ H E I hf st hg
    subst hP hw hK
    obtain ⟨f0, f1, f2, f3, f4, f5⟩ := hf it (by simp)
    exact wpAny_pyNext_range_end (I.ok.hd hc) st (by have : n ≤ i := hg; omega) fun h' eb => ⟨rfl, I.turned (t' := s.toks) (fun b o hb e => eb b o hb e) f0 f1 f3 f4 f5⟩
  self := fun _ _ _ _ _ st h => wpAny_pyIter_rangeiter st h
end L2

namespace L2
open PySem PySem.Spec PyProof.Rows
section
variable {X : Cx} {tg : Expr}
def iList (K : PySem.W.Frag) (tl : TE) : TI := fun σ H R => tl σ H fun x H1 => ∃ a, x = .ref a ∧ (∃ xs, SqL K H1 a xs) ∧ R (Itl K a) H1
def iTup (K : PySem.W.Frag) (tl : TE) : TI := fun σ H R => tl σ H fun x H1 => ∃ a, x = .ref a ∧ (∃ xs, SqT K H1 a xs) ∧ R (Itt K a) H1
theorem pi_list {l : Expr} {tl : TE} (hl : PE X l tl) : PI X tg l (iList X.K tl) := by
  intro pins s σ H R I h
  refine thn (hl pins s σ H _ I h) fun v s1 ⟨x, H1, I1, r1, q1⟩ => ?_
  obtain ⟨a, e, ⟨xs, hq⟩, q⟩ := q1
  subst e
  cases r1
  obtain ⟨its, rv, p, hz⟩ := I1.list hq
  refine wpAny_pyIter_list p.isList ?_
  refine ⟨s1.heap.objs.size, [s1.heap.objs.size], _, _, H1, rfl, I1.kept (t' := s1.toks) fun b o e => Heap.get?_push_of_some _ e, turn_list a _, ⟨_, Heap.get?_push_size _ rfl, rfl, rfl⟩, fun b hb => ?_, q⟩
  have e : b = s1.heap.objs.size := by simpa using hb
  subst e
  exact I1.fpOk (Nat.le_refl _) (I1.hok.fresh (Nat.le_refl _))
theorem pi_tup {l : Expr} {tl : TE} (hl : PE X l tl) : PI X tg l (iTup X.K tl) := by
  intro pins s σ H R I h
  refine thn (hl pins s σ H _ I h) fun v s1 ⟨x, H1, I1, r1, q1⟩ => ?_
  obtain ⟨a, e, ⟨xs, hq⟩, q⟩ := q1
  subst e
  cases r1
  obtain ⟨its, rv, p, hz⟩ := I1.tuple hq
  refine wpAny_pyIter_tuple (show s1.heap.IsTuple a its.toArray from p) ?_
  refine ⟨s1.heap.objs.size, [s1.heap.objs.size], _, _, H1, rfl, I1.kept (t' := s1.toks) fun b o e => Heap.get?_push_of_some _ e, turn_tuple a _, ⟨_, Heap.get?_push_size _ rfl, rfl, rfl⟩, fun b hb => ?_, q⟩
  have e : b = s1.heap.objs.size := by simpa using hb
  subst e
  exact I1.fpOk (Nat.le_refl _) (I1.hok.fresh (Nat.le_refl _))
/-- a range object just made, walked -/
theorem range_it {pins : List (Addr × Obj)} {σ : St} {H : Hp} {s : Shared} {R : It → Hp → Prop} {E : Value → Shared → Prop} {lo hi : Int} {t u v : Tok} {tk : Nat} (I : Inv X pins σ H s) (h1 : -(2 ^ 62) ≤ lo) (h2 : lo < 2 ^ 62) (h3 : -(2 ^ 62) ≤ hi) (h4 : hi < 2 ^ 62)
    (q : R (Itr lo (hi - lo).toNat) H) : wpAny (model X.prog X.w) X.A (pyIter (.ref s.heap.objs.size)) (PIE X pins σ tg R) E { s with heap := s.heap.push { cls := .type "range", data := .fields #[.int lo t, .int hi u, .int 1 v] }, toks := tk } := by
  refine wpAny_pyIter_range (IsRange.new ..) (small_one h1 h2 h3 h4) ?_
  have I1 : Inv X pins σ H { s with heap := s.heap.push { cls := .type "range", data := .fields #[.int lo t, .int hi u, .int 1 v] }, toks := tk } := I.kept fun b o e => Heap.get?_push_of_some _ e
  refine ⟨(s.heap.push { cls := .type "range", data := .fields #[.int lo t, .int hi u, .int 1 v] }).objs.size, [(s.heap.push { cls := .type "range", data := .fields #[.int lo t, .int hi u, .int 1 v] }).objs.size], _, _, H, rfl,
    I1.kept (t' := tk) fun b o e => Heap.get?_push_of_some _ e, turn_range _ lo (hi - lo).toNat, ?_, fun b hb => ?_, q⟩
  · have e1 : lo + ((0 : Nat) : Int) * 1 = lo := by simp
    have e2 : (((hi - lo).toNat : Nat) : Int) - ((0 : Nat) : Int) = Builtin.Range.rangeSize lo hi 1 := by rw [rangeSize_one]; split <;> omega
    show IsRangeIter _ _ (lo + ((0 : Nat) : Int) * 1) ((((hi - lo).toNat : Nat) : Int) - ((0 : Nat) : Int)) 1
    rw [e1, e2]
    exact Heap.get?_push_size _ rfl
  · have e : b = (s.heap.push { cls := .type "range", data := .fields #[.int lo t, .int hi u, .int 1 v] }).objs.size := by simpa using hb
    subst e
    exact I1.fpOk (Nat.le_refl _) (I1.hok.fresh (Nat.le_refl _))
def iRng1 (ta : TA) : TI := fun σ H R => ta σ H fun vs H1 => ∃ j : Int, vs = [.int j] ∧ -(2 ^ 62) ≤ j ∧ j < 2 ^ 62 ∧ R (Itr 0 j.toNat) H1
def iRng2 (ta : TA) : TI := fun σ H R => ta σ H fun vs H1 => ∃ i j : Int, vs = [.int i, .int j] ∧ (-(2 ^ 62) ≤ i ∧ i < 2 ^ 62 ∧ -(2 ^ 62) ≤ j ∧ j < 2 ^ 62) ∧ R (Itr i (j - i).toNat) H1
theorem pi_range1 {a : Expr} {ta : TA} {p pos : Pos} (hg : Gl X "range") (hm : X.mg "range" = none) (ha : PA X [a] ta) (hs : starEach [a] X.env = [(false, eval a X.env)] := by rfl) : PI X tg (.Call (.Name "range" p) [a] [] pos) (iRng1 ta) := by
  intro pins s σ H R I h
  refine Call_ (ld_blt I hg hm boot_range (PyProof.Rows.callWith_type1 (thn (ha pos pins s σ H _ I h) fun us s1 ⟨vs, H1, I1, r1, q1⟩ => ?_) hs rfl))
  obtain ⟨j, e, q1, q2, q⟩ := q1
  subst e
  cases r1 with
  | cons r rr =>
    cases rr
    obtain ⟨t, rfl⟩ := r
    exact call_range_1 (range_it I1 (by omega) (by omega) q1 q2 (by simpa using q))
theorem pi_range2 {a b : Expr} {ta : TA} {p pos : Pos} (hg : Gl X "range") (hm : X.mg "range" = none) (ha : PA X [a, b] ta) (hs : starEach [a, b] X.env = [(false, eval a X.env), (false, eval b X.env)] := by rfl) (hs2 : starEach [b] X.env = [(false, eval b X.env)] := by rfl) :
    PI X tg (.Call (.Name "range" p) [a, b] [] pos) (iRng2 ta) := by
  intro pins s σ H R I h
  refine Call_ (ld_blt I hg hm boot_range (PyProof.Rows.callWith_type1 (thn (ha pos pins s σ H _ I h) fun us s1 ⟨vs, H1, I1, r1, q1⟩ => ?_) (by rw [hs, hs2]) (by rw [hs2]; rfl)))
  obtain ⟨i, j, e, ⟨q1, q2, q3, q4⟩, q⟩ := q1
  subst e
  cases r1 with
  | cons r rr =>
    cases rr with
    | cons r' rr =>
      cases rr
      obtain ⟨t, rfl⟩ := r
      obtain ⟨t', rfl⟩ := r'
      exact call_range_2 (range_it I1 q1 q2 q3 q4 q)

/-! ### for -/
/-- W: the invariant by the turn and a measure; N: what the body is to reach -/
def tFor (wi : TI) (g : TG) (tb : TS) : TS := fun D σ H => wi σ H fun J H1 => ∃ W : Nat → Nat → St → Hp → Prop, (∃ m, W 0 m σ H1) ∧ ∀ i m σ H, W i m σ H →
  (J.stop i H ∧ D.nx σ H) ∨ (J.go i H ∧ ∃ N : St → Hp → Prop, (∀ σ' H', N σ' H' → ∃ m', m' < m ∧ W (i + 1) m' σ' H') ∧ ∀ x H', J.yld i H x H' → g x σ H' fun σ2 H2 => tb { D with nx := N, ct := N, bk := D.nx } σ2 H2)
/-- the records at fp as they stand -/
def pinsAt (fp : List Addr) (h : Heap) : List (Addr × Obj) := fp.filterMap fun b => (h.get? b).map fun o => (b, o)
theorem mem_pinsAt {fp : List Addr} {h : Heap} {b : Addr} {o : Obj} (hb : b ∈ fp) (e : h.get? b = some o) : (b, o) ∈ pinsAt fp h := List.mem_filterMap.mpr ⟨b, hb, by rw [e]; rfl⟩
theorem of_pinsAt {fp : List Addr} {h : Heap} {p : Addr × Obj} (hp : p ∈ pinsAt fp h) : p.1 ∈ fp ∧ h.get? p.1 = some p.2 := by
  obtain ⟨b, hb, e⟩ := List.mem_filterMap.mp hp
  cases q : h.get? b with
  | none => rw [q] at e; cases e
  | some o =>
    rw [q] at e
    have e' : (b, o) = p := Option.some.inj e
    subst e'
    exact ⟨hb, q⟩
theorem Inv.pinned {pins : List (Addr × Obj)} {σ : St} {H : Hp} {s : Shared} {fp : List Addr} (I : Inv X pins σ H s) (hf : ∀ b ∈ fp, FpOk X pins H b) (ho : ∀ b ∈ fp, ∃ o, s.heap.get? b = some o ∧ ∀ v, o.data ≠ .cell v) : Inv X (pins ++ pinsAt fp s.heap) σ H s :=
  I.pins_of fun p hp => (List.mem_append.mp hp).elim (fun z => I.pin p (List.mem_append_right _ z)) fun z => by
    obtain ⟨hb, e⟩ := of_pinsAt z
    obtain ⟨f0, f1, f2, _⟩ := hf p.1 hb
    obtain ⟨o, e', d⟩ := ho p.1 hb
    rw [e] at e'; cases e'
    exact ⟨e, f0, f1, f2, d⟩
theorem Inv.unpinned {pins pl : List (Addr × Obj)} {σ : St} {H : Hp} {s : Shared} (I : Inv X (pins ++ pl) σ H s) : Inv X pins σ H s := I.pins_of fun p hp => I.pin p (List.mem_append_right _ (List.mem_append_left _ hp))
theorem ps_for {iter : Expr} {body : List Stmt} {wi : TI} {g : TG} {tb : TS} {pos : Pos} (hp : PassesOwn (model X.prog X.w) X.A X.env X.xe) (hc : X.calm = true) (hi : PI X tg iter wi) (hg : PG X tg g) (hb : PSs X body tb)
    (hs : ∀ x, foldedSetIterable iter X.env x = pure x := by intro _; rfl) : PS X (.For tg iter body [] pos) (tFor wi g tb) := by
  intro pins s σ H D I h
  refine wpAny_For (thn (hi pins s σ H _ I h) fun v s1 h1 => thn h1 fun itv s2 h2 => ?_) hs
  obtain ⟨it, fp, tn, J, H2, e, I2, T, st2, f2, W, ⟨m0, w0⟩, turn⟩ := h2
  subst e
  -- what stays true of the iterator's objects through the loop
  have stat : ∀ {H' : Hp}, (∀ b ∈ fp, H' b = none) → ∀ b ∈ fp, FpOk X pins H' b := fun hn b hb => ⟨hn b hb, (f2 b hb).2⟩
  refine codeAny_forLoop_any (fun n s' => ∃ i σ' H', Inv X pins σ' H' s' ∧ tn i s'.heap ∧ (∀ b ∈ fp, H' b = none) ∧ W i n σ' H') ?_ m0 ⟨0, σ, H2, I2, st2, fun b hb => (f2 b hb).1, w0⟩
  rintro n s3 ⟨i, σ3, H3, I3, st3, fr3, w3⟩
  rcases turn i n σ3 H3 w3 with ⟨stop, qn⟩ | ⟨go, N, hN, step⟩
  · refine wpAny_passesOwn hp (thn (T.done X rfl rfl rfl hc i pins s3 σ3 H3 X.xe I3 (stat fr3) st3 stop) fun r s4 ⟨hr, I4⟩ => ?_)
    subst hr
    exact wpAny_execs_nil ⟨σ3, H3, I4, qn⟩
  · refine wpAny_passesOwn hp (thn (T.item X rfl rfl rfl hc i pins s3 σ3 H3 X.xe I3 (stat fr3) st3 go) fun r s4 ⟨u, hr, h4⟩ => ?_)
    subst hr
    refine wpAny_passesOwn hp (thn h4 fun _ s5 ⟨x, H5, I5, r5, y5, st5, fr5⟩ => ?_)
    have I5' := I5.pinned (stat fr5) (T.obj _ _ st5)
    refine wpAny_passesOwn hp (thn (hg _ s5 σ3 H5 x u _ I5' r5 (step x H5 y5)) fun _ s6 ⟨σ6, H6, I6, q6⟩ => ?_)
    refine wpAny_passesOwn hp (thn (hb _ s6 σ6 H6 _ I6 q6) fun f s7 q7 => ?_)
    have again : ∀ {σ7 : St} {H7 : Hp}, Inv X (pins ++ pinsAt fp s5.heap) σ7 H7 s7 → N σ7 H7 → ∃ m, m < n ∧ ∃ i σ' H', Inv X pins σ' H' s7 ∧ tn i s7.heap ∧ (∀ b ∈ fp, H' b = none) ∧ W i m σ' H' := fun {σ7 H7} I7 n7 => by
      obtain ⟨m', hm, w7⟩ := hN σ7 H7 n7
      refine ⟨m', hm, i + 1, σ7, H7, I7.unpinned, T.keep _ _ _ st5 fun b hb o e => (I7.pin (b, o) (List.mem_append_right _ (List.mem_append_right _ (mem_pinsAt hb e)))).1, fun b hb => ?_, w7⟩
      obtain ⟨o, e, d⟩ := T.obj _ _ st5 b hb
      exact (I7.pin (b, o) (List.mem_append_right _ (List.mem_append_right _ (mem_pinsAt hb e)))).2.1
    cases f with
    | next => obtain ⟨σ7, H7, I7, n7⟩ := q7; exact again I7 n7
    | cont => obtain ⟨σ7, H7, I7, n7⟩ := q7; exact again I7 n7
    | brk => obtain ⟨σ7, H7, I7, q7⟩ := q7; exact ⟨σ7, H7, I7.unpinned, q7⟩
    | ret v => obtain ⟨x7, σ7, H7, I7, r7, q7⟩ := q7; exact ⟨x7, σ7, H7, I7.unpinned, r7, q7⟩
end

/-! ### the forms one uses -/
/-- over a list that the body leaves as it is -/
theorem for_list {K : PySem.W.Frag} {a : Addr} {xs : List V} {g : TG} {tb : TS} {D : Ends} {σ : St} {H : Hp} (Pv : Nat → St → Hp → Prop) (h0 : Pv 0 σ H) (hl : ∀ i σ H, i ≤ xs.length → Pv i σ H → SqL K H a xs)
    (hs : ∀ i x σ H, xs[i]? = some x → Pv i σ H → g x σ H fun σ2 H2 => tb { D with nx := Pv (i + 1), ct := Pv (i + 1), bk := D.nx } σ2 H2) (hd : ∀ σ H, Pv xs.length σ H → D.nx σ H) :
    ∃ W : Nat → Nat → St → Hp → Prop, (∃ m, W 0 m σ H) ∧ ∀ i m σ H, W i m σ H →
      ((Itl K a).stop i H ∧ D.nx σ H) ∨ ((Itl K a).go i H ∧ ∃ N : St → Hp → Prop, (∀ σ' H', N σ' H' → ∃ m', m' < m ∧ W (i + 1) m' σ' H') ∧ ∀ x H', (Itl K a).yld i H x H' → g x σ H' fun σ2 H2 => tb { D with nx := N, ct := N, bk := D.nx } σ2 H2) := by
  refine ⟨fun i m σ H => m = xs.length - i ∧ i ≤ xs.length ∧ Pv i σ H, ⟨xs.length, by simp, Nat.zero_le _, h0⟩, ?_⟩
  rintro i m σ H ⟨rfl, hi, p⟩
  have q := hl i σ H hi p
  by_cases hlt : i < xs.length
  · refine .inr ⟨⟨xs, xs[i], q, by simp [hlt]⟩, Pv (i + 1), fun σ' H' p' => ⟨xs.length - (i + 1), by omega, rfl, hlt, p'⟩, fun x H' y => ?_⟩
    obtain ⟨e, y⟩ := y
    subst e
    exact hs i x σ _ (y xs q) p
  · have e : i = xs.length := by omega
    subst e
    exact .inl ⟨⟨xs, q, Nat.le_refl _⟩, hd σ H p⟩
theorem for_tup {K : PySem.W.Frag} {a : Addr} {xs : List V} {g : TG} {tb : TS} {D : Ends} {σ : St} {H : Hp} (Pv : Nat → St → Hp → Prop) (h0 : Pv 0 σ H) (hl : ∀ i σ H, i ≤ xs.length → Pv i σ H → SqT K H a xs)
    (hs : ∀ i x σ H, xs[i]? = some x → Pv i σ H → g x σ H fun σ2 H2 => tb { D with nx := Pv (i + 1), ct := Pv (i + 1), bk := D.nx } σ2 H2) (hd : ∀ σ H, Pv xs.length σ H → D.nx σ H) :
    ∃ W : Nat → Nat → St → Hp → Prop, (∃ m, W 0 m σ H) ∧ ∀ i m σ H, W i m σ H →
      ((Itt K a).stop i H ∧ D.nx σ H) ∨ ((Itt K a).go i H ∧ ∃ N : St → Hp → Prop, (∀ σ' H', N σ' H' → ∃ m', m' < m ∧ W (i + 1) m' σ' H') ∧ ∀ x H', (Itt K a).yld i H x H' → g x σ H' fun σ2 H2 => tb { D with nx := N, ct := N, bk := D.nx } σ2 H2) := by
  refine ⟨fun i m σ H => m = xs.length - i ∧ i ≤ xs.length ∧ Pv i σ H, ⟨xs.length, by simp, Nat.zero_le _, h0⟩, ?_⟩
  rintro i m σ H ⟨rfl, hi, p⟩
  have q := hl i σ H hi p
  by_cases hlt : i < xs.length
  · refine .inr ⟨⟨xs, xs[i], q, by simp [hlt]⟩, Pv (i + 1), fun σ' H' p' => ⟨xs.length - (i + 1), by omega, rfl, hlt, p'⟩, fun x H' y => ?_⟩
    obtain ⟨e, y⟩ := y
    subst e
    exact hs i x σ _ (y xs q) p
  · have e : i = xs.length := by omega
    subst e
    exact .inl ⟨⟨xs, q, Nat.le_refl _⟩, hd σ H p⟩
theorem for_range {lo : Int} {n : Nat} {g : TG} {tb : TS} {D : Ends} {σ : St} {H : Hp} (Pv : Nat → St → Hp → Prop) (h0 : Pv 0 σ H)
    (hs : ∀ i σ H, i < n → Pv i σ H → g (.int (lo + i)) σ H fun σ2 H2 => tb { D with nx := Pv (i + 1), ct := Pv (i + 1), bk := D.nx } σ2 H2) (hd : ∀ σ H, Pv n σ H → D.nx σ H) :
    ∃ W : Nat → Nat → St → Hp → Prop, (∃ m, W 0 m σ H) ∧ ∀ i m σ H, W i m σ H →
      ((Itr lo n).stop i H ∧ D.nx σ H) ∨ ((Itr lo n).go i H ∧ ∃ N : St → Hp → Prop, (∀ σ' H', N σ' H' → ∃ m', m' < m ∧ W (i + 1) m' σ' H') ∧ ∀ x H', (Itr lo n).yld i H x H' → g x σ H' fun σ2 H2 => tb { D with nx := N, ct := N, bk := D.nx } σ2 H2) := by
  refine ⟨fun i m σ H => m = n - i ∧ i ≤ n ∧ Pv i σ H, ⟨n, by simp, Nat.zero_le _, h0⟩, ?_⟩
  rintro i m σ H ⟨rfl, hi, p⟩
  by_cases hlt : i < n
  · refine .inr ⟨hlt, Pv (i + 1), fun σ' H' p' => ⟨n - (i + 1), by omega, rfl, hlt, p'⟩, fun x H' y => ?_⟩
    obtain ⟨e, y⟩ := y
    subst e y
    exact hs i σ _ hlt p
  · have e : i = n := by omega
    subst e
    exact .inl ⟨Nat.le_refl _, hd σ H p⟩
/-- while, by a word and a measure of the state -/
theorem while_by {c : TT} {tb : TS} {D : Ends} {σ : St} {H : Hp} (Pv : St → Hp → Prop) (μ : St → Hp → Nat) (h0 : Pv σ H)
    (hs : ∀ σ H, Pv σ H → c σ H fun b H1 => if b = true then tb { D with nx := fun σ' H' => Pv σ' H' ∧ μ σ' H' < μ σ H, ct := fun σ' H' => Pv σ' H' ∧ μ σ' H' < μ σ H, bk := D.nx } σ H1 else D.nx σ H1)
    (mono : ∀ σ H Q Q', (∀ b H1, Q b H1 → Q' b H1) → c σ H Q → c σ H Q') : tWhile c tb D σ H := by
  refine ⟨fun m σ H => m = μ σ H ∧ Pv σ H, ⟨_, rfl, h0⟩, ?_⟩
  rintro m σ H ⟨rfl, p⟩
  refine mono σ H _ _ (fun b H1 q => ?_) (hs σ H p)
  cases b with
  | true => exact ⟨_, fun σ' H' ⟨p', l⟩ => ⟨_, l, rfl, p'⟩, q⟩
  | false => exact q
end L2

namespace L2
open PySem PySem.Spec PyProof.Rows

abbrev R2 := V → V → Hp → VK → Prop
/-- a two-place operation on values: f is binaryOp op, inplaceOp op or compareOp op -/
def OpR (X : Cx) (f : Value → Value → Sem Value) (r : R2) : Prop :=
  ∀ (pins : List (Addr × Obj)) (s : Shared) (σ : St) (H : Hp) (x y : V) (v u : Value) (Q : VK), Inv X pins σ H s → RelV x v → RelV y u → r x y H Q →
    wpAny (model X.prog X.w) X.A (f v u) (EP X pins σ Q) X.xe s
/-- a one-place operation -/
def UnR (X : Cx) (f : Value → Sem Value) (r : V → Hp → VK → Prop) : Prop :=
  ∀ (pins : List (Addr × Obj)) (s : Shared) (σ : St) (H : Hp) (x : V) (v : Value) (Q : VK), Inv X pins σ H s → RelV x v → r x H Q →
    wpAny (model X.prog X.w) X.A (f v) (EP X pins σ Q) X.xe s
/-- a call of a value that is known (a builtin, a type) with values -/
def CallR (X : Cx) (f : Value) (r : List V → Hp → VK → Prop) : Prop :=
  ∀ (pins : List (Addr × Obj)) (s : Shared) (σ : St) (H : Hp) (xs : List V) (us : List Value) (Q : VK), Inv X pins σ H s → Vals xs us → r xs H Q →
    wpAny (model X.prog X.w) X.A (call f us) (EP X pins σ Q) X.xe s
/-- a value's truth -/
def TruR (X : Cx) (r : V → Hp → (Bool → Hp → Prop) → Prop) : Prop :=
  ∀ (pins : List (Addr × Obj)) (s : Shared) (σ : St) (H : Hp) (x : V) (v : Value) (Q : Bool → Hp → Prop), Inv X pins σ H s → RelV x v → r x H Q →
    wpAny (model X.prog X.w) X.A (truthy v) (TP X pins σ Q) X.xe s

def tOp (r : R2) (ta tb : TE) : TE := fun σ H Q => ta σ H fun x H1 => tb σ H1 fun y H2 => r x y H2 Q
def tUn (r : V → Hp → VK → Prop) (ta : TE) : TE := fun σ H Q => ta σ H fun x H1 => r x H1 Q
/-- ints in, under C, and a value out -/
def rI (C : Int → Int → Prop) (g : Int → Int → V) : R2 := fun x y H Q => ∃ i j, x = .int i ∧ y = .int j ∧ C i j ∧ Q (g i j) H
def rI0 (g : Int → Int → V) : R2 := fun x y H Q => ∃ i j, x = .int i ∧ y = .int j ∧ Q (g i j) H
def rU (g : Int → V) : V → Hp → VK → Prop := fun x H Q => ∃ i, x = .int i ∧ Q (g i) H

section
variable {X : Cx} {a b c : Expr} {ta tb tc : TE} {pos : Pos}

theorem binT (ha : PE X a ta) (hb : PE X b tb) {pins : List (Addr × Obj)} {s : Shared} {σ : St} {H : Hp} {R : V → V → Hp → Prop} (I : Inv X pins σ H s)
    (h : ta σ H fun x H1 => tb σ H1 fun y H2 => R x y H2) {Q : Value → Shared → Prop} {f : Value → Value → Sem Value}
    (hf : ∀ v u s2 x y H2, Inv X pins σ H2 s2 → RelV x v → RelV y u → R x y H2 → wpAny (model X.prog X.w) X.A (f v u) Q X.xe s2) :
    wpAny (model X.prog X.w) X.A (eval a X.env) (fun v s₁ => wpAny (model X.prog X.w) X.A (eval b X.env) (fun u s₂ => wpAny (model X.prog X.w) X.A (f v u) Q X.xe s₂) X.xe s₁) X.xe s := by
  refine thn (ha pins s σ H _ I h) fun v s1 ⟨x, H1, I1, r1, q1⟩ => ?_
  refine thn (hb pins s1 σ H1 _ I1 q1) fun u s2 ⟨y, H2, I2, r2, q2⟩ => ?_
  exact hf v u s2 x y H2 I2 r1 r2 q2

theorem pe_op {op : Operator} {r : R2} (ho : OpR X (binaryOp op) r) (ha : PE X a ta) (hb : PE X b tb) : PE X (.BinOp a op b pos) (tOp r ta tb) := by
  intro pins s σ H Q I h
  exact wpAny_BinOp (binT ha hb I h fun v u s2 x y H2 I2 rx ry q => ho pins s2 σ H2 x y v u Q I2 rx ry q)
theorem pe_un {op : UnaryOp} {r : V → Hp → VK → Prop} (ho : UnR X (unaryOp op) r) (ha : PE X a ta) : PE X (.UnaryOp op a pos) (tUn r ta) := by
  intro pins s σ H Q I h
  exact UnaryOp_ (thn (ha pins s σ H _ I h) fun v s1 ⟨x, H1, I1, r1, q1⟩ => ho pins s1 σ H1 x v Q I1 r1 q1)
/-- a op= e at a name: the name's slot i -/
theorem augR {op : Operator} {r : R2} (ho : OpR X (inplaceOp op) r) {pins : List (Addr × Obj)} {s : Shared} {σ : St} {H : Hp} {x y : V} {v u : Value} {Q : VK} (I : Inv X pins σ H s)
    (rx : RelV x v) (ry : RelV y u) (q : r x y H Q) : wpAny (model X.prog X.w) X.A (inplaceOp op v u) (EP X pins σ Q) X.xe s := ho pins s σ H x y v u Q I rx ry q

/-! ### ints -/
theorem opI {f : Value → Value → Sem Value} {C : Int → Int → Prop} {g : Int → Int → Int}
    (rule : ∀ (i j : Int) (t u : Tok) (s : Shared) (Q : Value → Shared → Prop) (E : Value → Shared → Prop), C i j → Q (.int (g i j) s.toks) { s with toks := s.toks + 1 } → wpAny (model X.prog X.w) X.A (f (.int i t) (.int j u)) Q E s) :
    OpR X f (rI C fun i j => .int (g i j)) := by
  intro pins s σ H x y v u Q I rx ry h
  obtain ⟨i, j, rfl, rfl, hc, q⟩ := h
  obtain ⟨t, rfl⟩ := rx
  obtain ⟨t', rfl⟩ := ry
  exact rule i j t t' s _ _ hc ⟨.int (g i j), H, I.tok _, ⟨_, rfl⟩, q⟩
theorem opI0 {f : Value → Value → Sem Value} {g : Int → Int → Int}
    (rule : ∀ (i j : Int) (t u : Tok) (s : Shared) (Q : Value → Shared → Prop) (E : Value → Shared → Prop), Q (.int (g i j) s.toks) { s with toks := s.toks + 1 } → wpAny (model X.prog X.w) X.A (f (.int i t) (.int j u)) Q E s) :
    OpR X f (rI0 fun i j => .int (g i j)) := by
  intro pins s σ H x y v u Q I rx ry h
  obtain ⟨i, j, rfl, rfl, q⟩ := h
  obtain ⟨t, rfl⟩ := rx
  obtain ⟨t', rfl⟩ := ry
  exact rule i j t t' s _ _ ⟨.int (g i j), H, I.tok _, ⟨_, rfl⟩, q⟩
theorem opB0 {f : Value → Value → Sem Value} {g : Int → Int → Bool}
    (rule : ∀ (i j : Int) (t u : Tok) (s : Shared) (Q : Value → Shared → Prop) (E : Value → Shared → Prop), Q (.bool (g i j)) s → wpAny (model X.prog X.w) X.A (f (.int i t) (.int j u)) Q E s) :
    OpR X f (rI0 fun i j => .bl (g i j)) := by
  intro pins s σ H x y v u Q I rx ry h
  obtain ⟨i, j, rfl, rfl, q⟩ := h
  obtain ⟨t, rfl⟩ := rx
  obtain ⟨t', rfl⟩ := ry
  exact rule i j t t' s _ _ ⟨.bl (g i j), H, I, rfl, q⟩

def CDiv (i j : Int) : Prop := 0 < j ∧ j < 1073741824
def CDivN (i j : Int) : Prop := j ≠ 0 ∧ j.natAbs < 1073741824
def CPow (i j : Int) : Prop := 0 ≤ j ∧ j ≤ 1000000 ∧ i.natAbs < 2 ^ 64
def CMul (i j : Int) : Prop := (-(2 ^ 64) < i ∧ i < 2 ^ 64) ∨ (-(2 ^ 64) < j ∧ j < 2 ^ 64)
theorem CMul.ok {i j : Int} (h : CMul i j) : IntMulOk i j := by
  rcases h with ⟨h1, h2⟩ | ⟨h1, h2⟩
  · exact .of_left (intBits_le_64 h1 h2)
  · exact .of_right (intBits_le_64 h1 h2)
theorem two_pow_nn (k : Nat) : (0 : Int) ≤ 2 ^ k := by
  rw [two_pow_cast]
  exact Int.natCast_nonneg _

theorem op_add : OpR X (binaryOp .Add) (rI0 fun i j => .int (i + j)) := opI0 fun _ _ _ _ _ _ _ q => add_int q
theorem op_sub : OpR X (binaryOp .Sub) (rI0 fun i j => .int (i - j)) := opI0 fun _ _ _ _ _ _ _ q => sub_int q
theorem op_mul : OpR X (binaryOp .Mult) (rI CMul fun i j => .int (i * j)) := opI fun _ _ _ _ _ _ _ hc q => mul_int q hc.ok
/-- // by a positive divisor -/
theorem op_fdiv : OpR X (binaryOp .FloorDiv) (rI CDiv fun i j => .int (i / j)) := opI fun i j _ _ _ _ _ hc q => by
  have h1 : (0 : Int) < j := hc.1
  have h2 : j < 1073741824 := hc.2
  exact floordiv_int (by omega) (by rw [Int.fdiv_eq_ediv_of_nonneg i (by omega)]; exact q) (.inl (PyProof.noPylong_small (by omega)))
theorem op_fdivN : OpR X (binaryOp .FloorDiv) (rI CDivN fun i j => .int (i.fdiv j)) := opI fun _ _ _ _ _ _ _ hc q => floordiv_int hc.1 q (.inl (PyProof.noPylong_small hc.2))
/-- % by a positive divisor of any size -/
theorem op_mod : OpR X (binaryOp .Mod) (rI (fun _ j => 0 < j) fun i j => .int (i % j)) := opI fun i j _ _ _ _ _ hc q => by
  have h1 : (0 : Int) < j := hc
  exact mod_int' (by omega) (by rw [Int.fmod_eq_emod_of_nonneg i (by omega)]; exact q)
theorem op_modN : OpR X (binaryOp .Mod) (rI (fun _ j => j ≠ 0) fun i j => .int (i.fmod j)) := opI fun _ _ _ _ _ _ _ hc q => mod_int' hc q
theorem op_pow : OpR X (binaryOp .Pow) (rI CPow fun i j => .int (i ^ j.toNat)) := opI fun _ _ _ _ _ _ _ hc q => pow_int_small hc.1 hc.2.1 hc.2.2 q
theorem op_shl : OpR X (binaryOp .LShift) (rI CPow fun i j => .int (i * 2 ^ j.toNat)) := opI fun _ _ _ _ _ _ _ hc q => lshift_int_small hc.1 hc.2.1 hc.2.2 q
theorem op_shr : OpR X (binaryOp .RShift) (rI (fun _ j => 0 ≤ j) fun i j => .int (i / 2 ^ j.toNat)) := opI fun i j _ _ _ _ _ hc q =>
  rshift_int hc (by rw [Int.fdiv_eq_ediv_of_nonneg i (two_pow_nn _)]; exact q)
theorem op_and : OpR X (binaryOp .BitAnd) (rI0 fun i j => .int (Builtin.bitAnd i j)) := opI0 fun _ _ _ _ _ _ _ q => and_int q
theorem op_or : OpR X (binaryOp .BitOr) (rI0 fun i j => .int (Builtin.bitOr i j)) := opI0 fun _ _ _ _ _ _ _ q => or_int q
theorem op_xor : OpR X (binaryOp .BitXor) (rI0 fun i j => .int (Builtin.bitXor i j)) := opI0 fun _ _ _ _ _ _ _ q => xor_int q

theorem iop_add : OpR X (inplaceOp .Add) (rI0 fun i j => .int (i + j)) := opI0 fun _ _ _ _ _ _ _ q => iadd_int q
theorem iop_sub : OpR X (inplaceOp .Sub) (rI0 fun i j => .int (i - j)) := opI0 fun _ _ _ _ _ _ _ q => isub_int q
theorem iop_mul : OpR X (inplaceOp .Mult) (rI CMul fun i j => .int (i * j)) := opI fun _ _ _ _ _ _ _ hc q => imul_int q hc.ok
theorem iop_fdiv : OpR X (inplaceOp .FloorDiv) (rI CDiv fun i j => .int (i / j)) := opI fun i j _ _ _ _ _ hc q => by
  have h1 : (0 : Int) < j := hc.1
  have h2 : j < 1073741824 := hc.2
  exact ifloordiv_int (by omega) (by rw [Int.fdiv_eq_ediv_of_nonneg i (by omega)]; exact q) (.inl (PyProof.noPylong_small (by omega)))
theorem iop_mod : OpR X (inplaceOp .Mod) (rI (fun _ j => 0 < j) fun i j => .int (i % j)) := opI fun i j _ _ _ _ _ hc q => by
  have h1 : (0 : Int) < j := hc
  exact imod_int (by omega) (by rw [Int.fmod_eq_emod_of_nonneg i (by omega)]; exact q)
theorem iop_shl : OpR X (inplaceOp .LShift) (rI CPow fun i j => .int (i * 2 ^ j.toNat)) := opI fun _ _ _ _ _ _ _ hc q => ilshift_int_small hc.1 hc.2.1 hc.2.2 q
theorem iop_shr : OpR X (inplaceOp .RShift) (rI (fun _ j => 0 ≤ j) fun i j => .int (i / 2 ^ j.toNat)) := opI fun i j _ _ _ _ _ hc q =>
  irshift_int hc (by rw [Int.fdiv_eq_ediv_of_nonneg i (two_pow_nn _)]; exact q)
theorem iop_and : OpR X (inplaceOp .BitAnd) (rI0 fun i j => .int (Builtin.bitAnd i j)) := opI0 fun _ _ _ _ _ _ _ q => iand_int q
theorem iop_or : OpR X (inplaceOp .BitOr) (rI0 fun i j => .int (Builtin.bitOr i j)) := opI0 fun _ _ _ _ _ _ _ q => ior_int q
theorem iop_xor : OpR X (inplaceOp .BitXor) (rI0 fun i j => .int (Builtin.bitXor i j)) := opI0 fun _ _ _ _ _ _ _ q => ixor_int q

theorem unI {f : Value → Sem Value} {g : Int → Int}
    (rule : ∀ (i : Int) (t : Tok) (s : Shared) (Q : Value → Shared → Prop) (E : Value → Shared → Prop), Q (.int (g i) s.toks) { s with toks := s.toks + 1 } → wpAny (model X.prog X.w) X.A (f (.int i t)) Q E s) :
    UnR X f (rU fun i => .int (g i)) := by
  intro pins s σ H x v Q I rx h
  obtain ⟨i, rfl, q⟩ := h
  obtain ⟨t, rfl⟩ := rx
  exact rule i t s _ _ ⟨.int (g i), H, I.tok _, ⟨_, rfl⟩, q⟩
theorem un_neg : UnR X (unaryOp .USub) (rU fun i => .int (-i)) := unI fun _ _ _ _ _ q => neg_int q
theorem un_inv : UnR X (unaryOp .Invert) (rU fun i => .int (Builtin.bitNot i)) := unI fun _ _ _ _ _ q => invert_int q

/-! ### bools among ints: n += (a < b) -/
theorem op_add_ib : OpR X (binaryOp .Add) (fun x y H Q => ∃ i k, x = .int i ∧ y = .bl k ∧ Q (.int (i + b2i k)) H) := by
  intro pins s σ H x y v u Q I rx ry h
  obtain ⟨i, k, rfl, rfl, q⟩ := h
  obtain ⟨t, rfl⟩ := rx
  cases ry
  exact add_int_bool ⟨.int (i + b2i k), H, I.tok _, ⟨_, rfl⟩, q⟩
end

/-! ### comparisons -/
/-- the scalars that == tells apart as data does -/
def scal : V → V → Bool
  | .non, .non => true | .non, .int _ => true | .int _, .non => true | .non, .bl _ => true | .bl _, .non => true | .non, .str _ => true | .str _, .non => true
  | .int _, .int _ => true | .bl _, .bl _ => true | .str _, .str _ => true | .byt _, .byt _ => true
  | .int _, .str _ => true | .str _, .int _ => true | .bl _, .str _ => true | .str _, .bl _ => true
  | _, _ => false
def rEq : R2 := fun x y H Q => scal x y = true ∧ Q (.bl (decide (x = y))) H
def rNe : R2 := fun x y H Q => scal x y = true ∧ Q (.bl (!decide (x = y))) H

theorem dec_int {i j : Int} : decide (V.int i = V.int j) = (i == j) := by
  rw [Bool.eq_iff_iff]
  simp
theorem dec_bl {i j : Bool} : decide (V.bl i = V.bl j) = (i == j) := by
  rw [Bool.eq_iff_iff]
  simp
theorem dec_str {i j : Str} : decide (V.str i = V.str j) = (i == j) := by
  rw [Bool.eq_iff_iff]
  simp
theorem dec_byt {i j : Array UInt8} : decide (V.byt i = V.byt j) = (i.toList == j.toList) := by
  rw [Bool.eq_iff_iff]
  cases i
  cases j
  simp

section
variable {X : Cx} {a b c : Expr} {ta tb tc : TE} {pos : Pos}
theorem fin_bl {pins : List (Addr × Obj)} {σ : St} {H : Hp} {s : Shared} {Q : VK} {k k' : Bool} (I : Inv X pins σ H s) (q : Q (.bl k) H) (e : k = k') : EP X pins σ Q (.bool k') s := by
  subst e
  exact ⟨.bl k, H, I, rfl, q⟩
theorem op_eq : OpR X (compareOp .Eq) rEq := by
  intro pins s σ H x y v u Q I rx ry h
  obtain ⟨hs, q⟩ := h
  cases x with
  | non =>
    cases rx
    cases y with
    | non => cases ry; exact PySem.EqNone.eq_none_none (fin_bl I q (by simp))
    | bl j => cases ry; exact PySem.EqNone.eq_none_bool (fin_bl I q (by simp))
    | int j => obtain ⟨t', rfl⟩ := ry; exact PySem.EqNone.eq_none_int (fin_bl I q (by simp))
    | str j => obtain ⟨t', rfl⟩ := ry; exact PySem.EqNone.eq_none_str (fin_bl I q (by simp))
    | _ => exact absurd (show false = true from hs) Bool.false_ne_true
  | bl i =>
    cases rx
    cases y with
    | non => cases ry; exact PySem.EqNone.eq_bool_none (fin_bl I q (by simp))
    | bl j => cases ry; exact eq_bool (fin_bl I q dec_bl)
    | str j => obtain ⟨t', rfl⟩ := ry; exact PySem.EqMixed.eq_bool_str (fin_bl I q (by simp))
    | _ => exact absurd (show false = true from hs) Bool.false_ne_true
  | int i =>
    obtain ⟨t, rfl⟩ := rx
    cases y with
    | non => cases ry; exact PySem.EqNone.eq_int_none (fin_bl I q (by simp))
    | int j => obtain ⟨t', rfl⟩ := ry; exact eq_int (fin_bl I q dec_int)
    | str j => obtain ⟨t', rfl⟩ := ry; exact PySem.EqMixed.eq_int_str (fin_bl I q (by simp))
    | _ => exact absurd (show false = true from hs) Bool.false_ne_true
  | str i =>
    obtain ⟨t, rfl⟩ := rx
    cases y with
    | non => cases ry; exact PySem.EqNone.eq_str_none (fin_bl I q (by simp))
    | bl j => cases ry; exact PySem.EqMixed.eq_str_bool (fin_bl I q (by simp))
    | int j => obtain ⟨t', rfl⟩ := ry; exact PySem.EqMixed.eq_str_int (fin_bl I q (by simp))
    | str j => obtain ⟨t', rfl⟩ := ry; exact eq_str (fin_bl I q dec_str)
    | _ => exact absurd (show false = true from hs) Bool.false_ne_true
  | byt i =>
    obtain ⟨t, rfl⟩ := rx
    cases y with
    | byt j => obtain ⟨t', rfl⟩ := ry; exact PySem.W.eq_bytes (fin_bl I q dec_byt)
    | _ => exact absurd (show false = true from hs) Bool.false_ne_true
  | _ => cases y <;> exact absurd (show false = true from hs) Bool.false_ne_true
theorem op_ne : OpR X (compareOp .NotEq) rNe := by
  intro pins s σ H x y v u Q I rx ry h
  obtain ⟨hs, q⟩ := h
  cases x with
  | non =>
    cases rx
    cases y with
    | non => cases ry; exact PySem.EqNone.ne_none_none (fin_bl I q (by simp))
    | bl j => cases ry; exact PySem.EqNone.ne_none_bool (fin_bl I q (by simp))
    | int j => obtain ⟨t', rfl⟩ := ry; exact PySem.EqNone.ne_none_int (fin_bl I q (by simp))
    | str j => obtain ⟨t', rfl⟩ := ry; exact PySem.EqNone.ne_none_str (fin_bl I q (by simp))
    | _ => exact absurd (show false = true from hs) Bool.false_ne_true
  | bl i =>
    cases rx
    cases y with
    | non => cases ry; exact PySem.EqNone.ne_bool_none (fin_bl I q (by simp))
    | bl j => cases ry; exact ne_bool (fin_bl I q (congrArg not dec_bl))
    | str j => obtain ⟨t', rfl⟩ := ry; exact PySem.EqMixed.ne_bool_str (fin_bl I q (by simp))
    | _ => exact absurd (show false = true from hs) Bool.false_ne_true
  | int i =>
    obtain ⟨t, rfl⟩ := rx
    cases y with
    | non => cases ry; exact PySem.EqNone.ne_int_none (fin_bl I q (by simp))
    | int j => obtain ⟨t', rfl⟩ := ry; exact ne_int (fin_bl I q (congrArg not dec_int))
    | str j => obtain ⟨t', rfl⟩ := ry; exact PySem.EqMixed.ne_int_str (fin_bl I q (by simp))
    | _ => exact absurd (show false = true from hs) Bool.false_ne_true
  | str i =>
    obtain ⟨t, rfl⟩ := rx
    cases y with
    | non => cases ry; exact PySem.EqNone.ne_str_none (fin_bl I q (by simp))
    | bl j => cases ry; exact PySem.EqMixed.ne_str_bool (fin_bl I q (by simp))
    | int j => obtain ⟨t', rfl⟩ := ry; exact PySem.EqMixed.ne_str_int (fin_bl I q (by simp))
    | str j => obtain ⟨t', rfl⟩ := ry; exact ne_str (fin_bl I q (congrArg not dec_str))
    | _ => exact absurd (show false = true from hs) Bool.false_ne_true
  | byt i =>
    obtain ⟨t, rfl⟩ := rx
    cases y with
    | byt j => obtain ⟨t', rfl⟩ := ry; exact PySem.W.ne_bytes (fin_bl I q (congrArg not dec_byt))
    | _ => exact absurd (show false = true from hs) Bool.false_ne_true
  | _ => cases y <;> exact absurd (show false = true from hs) Bool.false_ne_true

theorem op_lt : OpR X (compareOp .Lt) (rI0 fun i j => .bl (decide (i < j))) := opB0 fun _ _ _ _ _ _ _ q => lt_int q
theorem op_le : OpR X (compareOp .LtE) (rI0 fun i j => .bl (decide (i ≤ j))) := opB0 fun _ _ _ _ _ _ _ q => le_int q
theorem op_gt : OpR X (compareOp .Gt) (rI0 fun i j => .bl (decide (j < i))) := opB0 fun _ _ _ _ _ _ _ q => gt_int q
theorem op_ge : OpR X (compareOp .GtE) (rI0 fun i j => .bl (decide (j ≤ i))) := opB0 fun _ _ _ _ _ _ _ q => ge_int q
theorem op_lt_str : OpR X (compareOp .Lt) (fun x y H Q => ∃ i j, x = .str i ∧ y = .str j ∧ Q (.bl (decide (i.cps.toList < j.cps.toList))) H) := by
  intro pins s σ H x y v u Q I rx ry h
  obtain ⟨i, j, rfl, rfl, q⟩ := h
  obtain ⟨t, rfl⟩ := rx
  obtain ⟨t', rfl⟩ := ry
  exact lt_str (fin_bl I q rfl)
/-- the one string within the other -/
theorem op_in_str : OpR X (compareOp .In) (fun x y H Q => ∃ i j, x = .str i ∧ y = .str j ∧ Q (.bl (!(Builtin.Str.occurrences j i 0 j.length 1).isEmpty)) H) := by
  intro pins s σ H x y v u Q I rx ry h
  obtain ⟨i, j, rfl, rfl, q⟩ := h
  obtain ⟨t, rfl⟩ := rx
  obtain ⟨t', rfl⟩ := ry
  exact in_str (fin_bl I q rfl)

/-- is None, is not None: the right side a value none -/
theorem op_isN : OpR X (compareOp .Is) (fun x y H Q => y = .non ∧ Q (.bl (decide (x = .non))) H) := by
  intro pins s σ H x y v u Q I rx ry h
  obtain ⟨rfl, q⟩ := h
  cases ry
  refine is_none_gen (fin_bl I q ?_)
  cases x <;> first
    | (cases rx; rfl)
    | (obtain ⟨t, rfl⟩ := rx; rfl)
theorem op_notN : OpR X (compareOp .IsNot) (fun x y H Q => y = .non ∧ Q (.bl (!decide (x = .non))) H) := by
  intro pins s σ H x y v u Q I rx ry h
  obtain ⟨rfl, q⟩ := h
  cases ry
  refine isnot_none_gen (fin_bl I q ?_)
  cases x <;> first
    | (cases rx; rfl)
    | (obtain ⟨t, rfl⟩ := rx; rfl)

theorem op_notin_str : OpR X (compareOp .NotIn) (fun x y H Q => ∃ i j, x = .str i ∧ y = .str j ∧ Q (.bl (!(!(Builtin.Str.occurrences j i 0 j.length 1).isEmpty))) H) := by
  intro pins s σ H x y v u Q I rx ry h
  obtain ⟨i, j, rfl, rfl, q⟩ := h
  obtain ⟨t, rfl⟩ := rx
  obtain ⟨t', rfl⟩ := ry
  exact notIn_str (fin_bl I q rfl)
/-- is, is not of two objects that are tracked lists or instances -/
def isObj : HO → Bool
  | .lst _ => true
  | .ins _ _ _ => true
  | _ => false
theorem obj_there {pins : List (Addr × Obj)} {s : Shared} {σ : St} {H : Hp} {a : Addr} {o : HO} (I : Inv X pins σ H s) (h : H a = some o) (p : isObj o = true) : ∃ ob, s.heap.get? a = some ob ∧ ob.cls ≠ .type "tuple" := by
  cases o with
  | lst xs =>
    obtain ⟨_, its, n, _, e⟩ : xs.length ≤ sizeLine ∧ ∃ (its : List Value) (n : Nat), Vals xs its ∧ s.heap.get? a = some { cls := .type "list", data := .seq its.toArray n } := I.hok a _ h
    exact ⟨_, e, (by show Value.type "list" ≠ .type "tuple"; decide +kernel)⟩
  | ins C dx fs =>
    have x := I.hok a _ h
    obtain ⟨_, _, _, e, _⟩ := x
    exact ⟨_, e, (by show Value.ref C ≠ .type "tuple"; exact fun z => by cases z)⟩
  | _ => exact absurd (show false = true from p) Bool.false_ne_true
theorem op_is_ref : OpR X (compareOp .Is) (fun x y H Q => ∃ a b oa ob, x = .ref a ∧ y = .ref b ∧ H a = some oa ∧ isObj oa = true ∧ H b = some ob ∧ isObj ob = true ∧ Q (.bl (decide (a = b))) H) := by
  intro pins s σ H x y v u Q I rx ry h
  obtain ⟨a, b, oa, ob, rfl, rfl, ha, pa, hb, pb, q⟩ := h
  cases rx
  cases ry
  obtain ⟨o1, e1, n1⟩ := obj_there I ha pa
  obtain ⟨o2, e2, _⟩ := obj_there I hb pb
  by_cases z : a = b
  · subst z
    exact wpAny_is_ref_self (fin_bl I q (by simp))
  · exact wpAny_is_ref_other z e1 e2 n1 (fin_bl I q (by simp [z]))
theorem op_isnot_ref : OpR X (compareOp .IsNot) (fun x y H Q => ∃ a b oa ob, x = .ref a ∧ y = .ref b ∧ H a = some oa ∧ isObj oa = true ∧ H b = some ob ∧ isObj ob = true ∧ Q (.bl (!decide (a = b))) H) := by
  intro pins s σ H x y v u Q I rx ry h
  obtain ⟨a, b, oa, ob, rfl, rfl, ha, pa, hb, pb, q⟩ := h
  cases rx
  cases ry
  obtain ⟨o1, e1, n1⟩ := obj_there I ha pa
  obtain ⟨o2, e2, _⟩ := obj_there I hb pb
  by_cases z : a = b
  · subst z
    exact wpAny_isNot_ref_self (fin_bl I q (by simp))
  · exact wpAny_isNot_ref_other z e1 e2 n1 (fin_bl I q (by simp [z]))

/-- two rules for one operation: by cases -/
theorem OpR.or {f : Value → Value → Sem Value} {r r' : R2} (h : OpR X f r) (h' : OpR X f r') : OpR X f (fun x y H Q => r x y H Q ∨ r' x y H Q) := by
  intro pins s σ H x y v u Q I rx ry q
  rcases q with q | q
  · exact h pins s σ H x y v u Q I rx ry q
  · exact h' pins s σ H x y v u Q I rx ry q

theorem nomark (b : Expr) {op : CmpOp} (h : op ≠ .In := by decide) (h2 : op ≠ .NotIn := by decide) : behindInMarks op b = false := by
  have e1 : (op == CmpOp.In) = false := by cases op <;> first | rfl | exact absurd rfl h
  have e2 : (op == CmpOp.NotIn) = false := by cases op <;> first | rfl | exact absurd rfl h2
  cases b <;> simp [behindInMarks, e1, e2]
/-- a comparison as a value; hm: nomark b, or (for in, not in) by with_unfolding_all rfl -/
theorem pe_cmpR {op : CmpOp} {r : R2} (ho : OpR X (compareOp op) r) (ha : PE X a ta) (hb : PE X b tb) (hm : behindInMarks op b = false) : PE X (.Compare a [op] [b] pos) (tOp r ta tb) := by
  intro pins s σ H Q I h
  exact wpAny_Compare1 (binT ha hb I h fun v u s2 x y H2 I2 rx ry q => ho pins s2 σ H2 x y v u Q I2 rx ry q) hm
/-- a reading of a value as a test -/
def tTest (t : TE) : TT := fun σ H Q => t σ H fun x H' => ∃ k, x = .bl k ∧ Q k H'
theorem pt_cmpR {op : CmpOp} {r : R2} (ho : OpR X (compareOp op) r) (ha : PE X a ta) (hb : PE X b tb) (hm : behindInMarks op b = false) : PT X (.Compare a [op] [b] pos) (tTest (tOp r ta tb)) := by
  intro pins s σ H Q I h
  refine wpAny_isTrue_Compare1 (thn (ha pins s σ H _ I h) fun v s1 ⟨x, H1, I1, r1, q1⟩ => thn (hb pins s1 σ H1 _ I1 q1) fun u s2 ⟨y, H2, I2, r2, q2⟩ =>
    thn (ho pins s2 σ H2 x y v u _ I2 r1 r2 q2) fun c s3 ⟨z, H3, I3, r3, k, e, q3⟩ => ?_) hm
  subst e
  cases r3
  exact wpAny_truthy_bool ⟨H3, I3, q3⟩
/-- a op1 b op2 c -/
def tChain (r r' : R2) (ta tb tc : TE) : TE := fun σ H Q => ta σ H fun x H1 => tb σ H1 fun y H2 => r x y H2 fun z H3 => ∃ k, z = .bl k ∧
  (if k = true then tc σ H3 fun w' H4 => r' y w' H4 Q else Q (.bl false) H3)
theorem pe_chain {op op' : CmpOp} {r r' : R2} (ho : OpR X (compareOp op) r) (ho' : OpR X (compareOp op') r') (ha : PE X a ta) (hb : PE X b tb) (hc : PE X c tc)
    (hm : lastMarks [op, op'] [b, c] = false := by with_unfolding_all rfl) : PE X (.Compare a [op, op'] [b, c] pos) (tChain r r' ta tb tc) := by
  intro pins s σ H Q I h
  refine Compare_chain (thn (ha pins s σ H _ I h) fun v s1 ⟨x, H1, I1, r1, q1⟩ => chain_link (thn (hb pins s1 σ H1 _ I1 q1) fun u s2 ⟨y, H2, I2, r2, q2⟩ =>
    thn (ho pins s2 σ H2 x y v u _ I2 r1 r2 q2) fun d s3 ⟨z, H3, I3, r3, k, e, q3⟩ => ?_)) hm
  subst e
  cases r3
  refine wpAny_truthy_bool ?_
  cases k with
  | false => exact ite_ff ⟨.bl false, H3, I3, rfl, q3⟩
  | true => exact ite_tt (chain_last (thn (hc pins s3 σ H3 _ I3 q3) fun w' s4 ⟨z', H4, I4, r4, q4⟩ => ho' pins s4 σ H4 y z' u w' Q I4 r2 r4 q4))
theorem pt_chain {op op' : CmpOp} {r r' : R2} (ho : OpR X (compareOp op) r) (ho' : OpR X (compareOp op') r') (ha : PE X a ta) (hb : PE X b tb) (hc : PE X c tc)
    (hm : lastMarks [op, op'] [b, c] = false := by with_unfolding_all rfl) : PT X (.Compare a [op, op'] [b, c] pos) (tTest (tChain r r' ta tb tc)) := by
  intro pins s σ H Q I h
  refine isTrue_chain (thn (ha pins s σ H _ I h) fun v s1 ⟨x, H1, I1, r1, q1⟩ => test_link (thn (hb pins s1 σ H1 _ I1 q1) fun u s2 ⟨y, H2, I2, r2, q2⟩ =>
    thn (ho pins s2 σ H2 x y v u _ I2 r1 r2 q2) fun d s3 ⟨z, H3, I3, r3, k, e, q3⟩ => ?_)) hm
  subst e
  cases r3
  refine wpAny_truthy_bool ?_
  cases k with
  | false =>
    obtain ⟨k', e', q'⟩ := q3
    cases e'
    exact ite_ff ⟨H3, I3, q'⟩
  | true =>
    refine ite_tt (test_last (thn (hc pins s3 σ H3 _ I3 q3) fun w' s4 ⟨z', H4, I4, r4, q4⟩ => thn (ho' pins s4 σ H4 y z' u w' _ I4 r2 r4 q4) fun d' s5 ⟨z2, H5, I5, r5, k2, e2, q5⟩ => ?_))
    subst e2
    cases r5
    exact wpAny_truthy_bool ⟨H5, I5, q5⟩

/-! ### truth -/
/-- a value's truth by the abstract heap -/
def TruV (K : PySem.W.Frag) (x : V) (H : Hp) (k : Bool) : Prop :=
  match x with
  | .non => k = false
  | .bl b => k = b
  | .int i => k = (i != 0)
  | .str y => y.length ≤ sizeLine ∧ k = ((y.length : Int) != 0)
  | .byt y => y.size ≤ sizeLine ∧ k = ((y.size : Int) != 0)
  | .ref p => (∃ xs, SqL K H p xs ∧ k = !xs.isEmpty) ∨ (∃ xs, SqT K H p xs ∧ k = !xs.isEmpty) ∨ ∃ kvs, H p = some (.dK kvs) ∧ k = !kvs.isEmpty
  | _ => False
theorem isEmpty_kv {κ : Type} {kvs : List (κ × V)} {vs : List (κ × Value)} (r : KV kvs vs) : (!vs.isEmpty) = !kvs.isEmpty := by
  cases r <;> rfl
theorem isEmpty_of {xs : List V} {its : List Value} (r : Vals xs its) : (!its.toArray.isEmpty) = !xs.isEmpty := by
  cases r <;> simp
theorem line63 : (sizeLine : Nat) < 2 ^ 63 := by rw [sizeLine_eq]; decide
theorem tru_ok : TruR X (fun x H Q => ∃ k, TruV X.K x H k ∧ Q k H) := by
  intro pins s σ H x v Q I rx h
  obtain ⟨k, e, q⟩ := h
  have hl := line63
  have hs : sizeLine = 16777216 := sizeLine_eq
  cases x with
  | non =>
    cases rx
    have e' : k = false := e
    subst e'
    exact truthy_none ⟨H, I, q⟩
  | bl b =>
    cases rx
    have e' : k = b := e
    subst e'
    exact wpAny_truthy_bool ⟨H, I, q⟩
  | int i =>
    obtain ⟨t, rfl⟩ := rx
    have e' : k = (i != 0) := e
    subst e'
    exact PySem.P.truthy_int ⟨H, I, q⟩
  | str y =>
    obtain ⟨t, rfl⟩ := rx
    obtain ⟨hy, e'⟩ : y.length ≤ sizeLine ∧ k = ((y.length : Int) != 0) := e
    subst e'
    exact PySem.P.truthy_str (by omega) ⟨H, I.tok _, q⟩
  | byt y =>
    obtain ⟨t, rfl⟩ := rx
    obtain ⟨hy, e'⟩ : y.size ≤ sizeLine ∧ k = ((y.size : Int) != 0) := e
    subst e'
    exact PySem.W.truthy_bytes (by omega) ⟨H, I.tok _, q⟩
  | ref p =>
    cases rx
    have e' : (∃ xs, SqL X.K H p xs ∧ k = !xs.isEmpty) ∨ (∃ xs, SqT X.K H p xs ∧ k = !xs.isEmpty) ∨ ∃ kvs, H p = some (.dK kvs) ∧ k = !kvs.isEmpty := e
    rcases e' with ⟨xs, hx, e'⟩ | ⟨xs, hx, e'⟩ | ⟨kvs, hx, e'⟩
    · subst e'
      obtain ⟨its, r, pl, hz⟩ := I.list hx
      have hlen := r.length
      exact wpAny_truthy_list pl.isList (by simp only [List.size_toArray]; omega) ⟨H, I.tok _, by rw [isEmpty_of r]; exact q⟩
    · subst e'
      obtain ⟨its, r, pl, hz⟩ := I.tuple hx
      have hlen := r.length
      exact truthy_tuple pl (by simp only [List.size_toArray]; omega) ⟨H, I.tok _, by rw [isEmpty_of r]; exact q⟩
    · subst e'
      obtain ⟨hz, hS, vs, r, m⟩ : kvs.length ≤ sizeLine ∧ (p == sysModules) = false ∧ ∃ vs, KV kvs vs ∧ s.heap.DictOf (mixKind X.prog X.w) p vs := I.hok p _ hx
      have hlen : kvs.length = vs.length := Paired.length r
      exact wpAny_truthy_dict hS m (by omega) ⟨H, I.tok _, by rw [isEmpty_kv r]; exact q⟩
  | _ => exact (show False from e).elim
/-- any expression whose test is its value's truth (a name, a call, a subscript, a field ..: he by fun _ => rfl) -/
theorem pt_truth (ha : PE X a ta) (he : ∀ whole, isTrue a X.env whole = (do let v ← whole; standAt a.pos; holding [v] (truthy v))) :
    PT X a (fun σ H Q => ta σ H fun x H' => ∃ k, TruV X.K x H' k ∧ Q k H') := by
  intro pins s σ H Q I h
  exact isTrue_plain (thn (ha pins s σ H _ I h) fun v s1 ⟨x, H1, I1, r1, q1⟩ => tru_ok pins s1 σ H1 x v Q I1 r1 q1) (he _)

/-! ### strs and bytes -/
theorem pe_byt {x : List UInt8} {k : Nat} : PE X (.Constant (.bytes x) k pos) (fun _ H Q => Q (.byt x.toArray) H) := fun _ _ _ H _ I h => PySem.W.Constant_bytes ⟨.byt x.toArray, H, I.tok _, ⟨_, rfl⟩, h⟩
theorem op_add_str : OpR X (binaryOp .Add) (fun x y H Q => ∃ i j, x = .str i ∧ y = .str j ∧ i.length + j.length ≤ sizeLine ∧ Q (.str (i ++ j)) H) := by
  intro pins s σ H x y v u Q I rx ry h
  obtain ⟨i, j, rfl, rfl, hz, q⟩ := h
  obtain ⟨t, rfl⟩ := rx
  obtain ⟨t', rfl⟩ := ry
  exact add_str (fun t' tk => ⟨.str (i ++ j), H, I.tok _, ⟨_, rfl⟩, q⟩) hz
theorem iop_add_str : OpR X (inplaceOp .Add) (fun x y H Q => ∃ i j, x = .str i ∧ y = .str j ∧ i.length + j.length ≤ sizeLine ∧ Q (.str (i ++ j)) H) := by
  intro pins s σ H x y v u Q I rx ry h
  obtain ⟨i, j, rfl, rfl, hz, q⟩ := h
  obtain ⟨t, rfl⟩ := rx
  obtain ⟨t', rfl⟩ := ry
  exact iadd_str (fun t' tk => ⟨.str (i ++ j), H, I.tok _, ⟨_, rfl⟩, q⟩) hz
theorem op_add_byt : OpR X (binaryOp .Add) (fun x y H Q => ∃ i j, x = .byt i ∧ y = .byt j ∧ i.size + j.size ≤ 16777216 ∧ Q (.byt (i ++ j)) H) := by
  intro pins s σ H x y v u Q I rx ry h
  obtain ⟨i, j, rfl, rfl, hz, q⟩ := h
  obtain ⟨t, rfl⟩ := rx
  obtain ⟨t', rfl⟩ := ry
  exact PySem.W.KBy.add_bytes hz (fun t' tk => ⟨.byt (i ++ j), H, I.tok _, ⟨_, rfl⟩, q⟩)

def PlainIxT (b : Expr) : Prop := ∀ o i, subscripted b false o i = operate [o, i] (getItem o i)
/-- s[i], 0 ≤ i < len -/
theorem pe_item_str (ha : PE X a ta) (hb : PE X b tb) (hs : PlainIxT b) :
    PE X (.Subscript a b pos) (tOp (fun x y H Q => ∃ z i c, x = .str z ∧ y = .int i ∧ 0 ≤ i ∧ i < 2 ^ 63 ∧ i < z.length ∧ z.cps[i.toNat]? = some c ∧ Q (.str ⟨#[c]⟩) H) ta tb) := by
  intro pins s σ H Q I h
  refine Subscript_ (binT ha hb I h fun v u s2 x y H2 I2 rx ry q => ?_)
  obtain ⟨z, i, c, rfl, rfl, h0, h63, h1, hc, q⟩ := q
  obtain ⟨t, rfl⟩ := rx
  obtain ⟨t', rfl⟩ := ry
  have e : seqIndex? i z.length = some i.toNat := PySem.StrLaws.seqIndex_nonneg h0 h1
  exact tail_any (typeIs_str s2 z t) slot_str_getitem.lookup (getItem_str (c := c) (by
    have e1 : decide (i < -(2 ^ 63 : Int)) = false := decide_eq_false (by omega)
    have e2 : decide (i ≥ 2 ^ 63) = false := decide_eq_false (by omega)
    rw [e1, e2] <;> rfl) (by rw [e]; exact hc) ⟨.str ⟨#[c]⟩, H2, I2.tok _, ⟨_, rfl⟩, q⟩) (hs _ _)
/-- b[i], 0 ≤ i < len -/
theorem pe_item_byt (ha : PE X a ta) (hb : PE X b tb) (hs : PlainIxT b) :
    PE X (.Subscript a b pos) (tOp (fun x y H Q => ∃ (z : List UInt8) (i : Int), x = .byt z.toArray ∧ y = .int i ∧ z.length ≤ sizeLine ∧ 0 ≤ i ∧ i < z.length ∧ Q (.int ((z.getD i.toNat 0).toNat : Nat)) H) ta tb) := by
  intro pins s σ H Q I h
  refine Subscript_ (binT ha hb I h fun v u s2 x y H2 I2 rx ry q => ?_)
  obtain ⟨z, i, rfl, rfl, hz, h0, h1, q⟩ := q
  obtain ⟨t, rfl⟩ := rx
  obtain ⟨t', rfl⟩ := ry
  have hl : sizeLine = 16777216 := sizeLine_eq
  exact tail_any (PySem.W.typeIs_bytes s2 z.toArray t) PySem.W.FB.slot_bytes_getitem.lookup (PySem.W.getItem_bytes (by omega) h0 h1 ⟨.int ((z.getD i.toNat 0).toNat : Nat), H2, I2.tok _, ⟨_, rfl⟩, q⟩) (hs _ _)

/-! ### scalar builtins, by CallR -/
theorem vals1 {x : V} {us : List Value} (r : Vals [x] us) : ∃ u, us = [u] ∧ RelV x u := by
  cases r with
  | cons r1 r2 => cases r2; exact ⟨_, rfl, r1⟩
theorem vals2 {x y : V} {us : List Value} (r : Vals [x, y] us) : ∃ u w', us = [u, w'] ∧ RelV x u ∧ RelV y w' := by
  cases r with
  | cons r1 r2 =>
    cases r2 with
    | cons r3 r4 => cases r4; exact ⟨_, _, rfl, r1, r3⟩
theorem call_abs : CallR X (.builtin "abs") (fun xs H Q => ∃ i, xs = [.int i] ∧ Q (.int (if i < 0 then -i else i)) H) := by
  intro pins s σ H xs us Q I r h
  obtain ⟨i, rfl, q⟩ := h
  obtain ⟨u, rfl, t, rfl⟩ := vals1 r
  exact call_abs_int fun u tk => ⟨.int (if i < 0 then -i else i), H, I.tok _, ⟨_, rfl⟩, q⟩
theorem call_max2 (hc : X.calm = true) : CallR X (.builtin "max") (fun xs H Q => ∃ i j, xs = [.int i, .int j] ∧ Q (.int (if j > i then j else i)) H) := by
  intro pins s σ H xs us Q I r h
  obtain ⟨i, j, rfl, q⟩ := h
  obtain ⟨u, w', rfl, ⟨t, rfl⟩, ⟨t', rfl⟩⟩ := vals2 r
  refine max_two_ints (I.ok.hd hc) fun h' tk k => ⟨_, H, I.kept k, ?_, q⟩
  by_cases hj : j > i
  · rw [if_pos hj, if_pos hj]; exact ⟨_, rfl⟩
  · rw [if_neg hj, if_neg hj]; exact ⟨_, rfl⟩
theorem call_min2 (hc : X.calm = true) : CallR X (.builtin "min") (fun xs H Q => ∃ i j, xs = [.int i, .int j] ∧ Q (.int (if j < i then j else i)) H) := by
  intro pins s σ H xs us Q I r h
  obtain ⟨i, j, rfl, q⟩ := h
  obtain ⟨u, w', rfl, ⟨t, rfl⟩, ⟨t', rfl⟩⟩ := vals2 r
  refine min_two_ints (I.ok.hd hc) fun h' tk k => ⟨_, H, I.kept k, ?_, q⟩
  by_cases hj : j < i
  · rw [if_pos hj, if_pos hj]; exact ⟨_, rfl⟩
  · rw [if_neg hj, if_neg hj]; exact ⟨_, rfl⟩
theorem call_int1 : CallR X (.type "int") (fun xs H Q => (∃ i, xs = [.int i] ∧ Q (.int i) H) ∨ ∃ k, xs = [.bl k] ∧ Q (.int (if k then 1 else 0)) H) := by
  intro pins s σ H xs us Q I r h
  rcases h with ⟨i, rfl, q⟩ | ⟨k, rfl, q⟩
  · obtain ⟨u, rfl, t, rfl⟩ := vals1 r
    exact call_int_int ⟨.int i, H, I, ⟨_, rfl⟩, q⟩
  · obtain ⟨u, rfl, r1⟩ := vals1 r
    cases r1
    exact call_int_bool ⟨.int (if k then 1 else 0), H, I.tok _, ⟨_, rfl⟩, q⟩
theorem call_bool1 : CallR X (.type "bool") (fun xs H Q => (∃ i, xs = [.int i] ∧ Q (.bl (i != 0)) H) ∨ ∃ k, xs = [.bl k] ∧ Q (.bl k) H) := by
  intro pins s σ H xs us Q I r h
  rcases h with ⟨i, rfl, q⟩ | ⟨k, rfl, q⟩
  · obtain ⟨u, rfl, t, rfl⟩ := vals1 r
    exact call_bool_int ⟨.bl (i != 0), H, I, rfl, q⟩
  · obtain ⟨u, rfl, r1⟩ := vals1 r
    cases r1
    exact call_bool_bool ⟨.bl k, H, I, rfl, q⟩
theorem call_str_int : CallR X (.type "str") (fun xs H Q => ∃ i, xs = [.int i] ∧ i.natAbs.log2 < 1920 ∧ Q (.str (toString i)) H) := by
  intro pins s σ H xs us Q I r h
  obtain ⟨i, rfl, hz, q⟩ := h
  obtain ⟨u, rfl, t, rfl⟩ := vals1 r
  exact PySem.P.str_of_int hz ⟨.str _, H, I.tok _, ⟨_, rfl⟩, q⟩
theorem call_ord : CallR X (.builtin "ord") (fun xs H Q => ∃ x, xs = [.str x] ∧ x.length = 1 ∧ Q (.int (x.cps.getD 0 0 : Nat)) H) := by
  intro pins s σ H xs us Q I r h
  obtain ⟨x, rfl, hz, q⟩ := h
  obtain ⟨u, rfl, t, rfl⟩ := vals1 r
  exact ord_of_one hz ⟨.int _, H, I.tok _, ⟨_, rfl⟩, q⟩
theorem call_chr : CallR X (.builtin "chr") (fun xs H Q => ∃ i, xs = [.int i] ∧ 0 ≤ i ∧ i ≤ 1114111 ∧ Q (.str ⟨#[i.toNat]⟩) H) := by
  intro pins s σ H xs us Q I r h
  obtain ⟨i, rfl, h0, h1, q⟩ := h
  obtain ⟨u, rfl, t, rfl⟩ := vals1 r
  exact chr_of_range h0 h1 ⟨.str _, H, I.tok _, ⟨_, rfl⟩, q⟩
/-- len of a str, a bytes, a list, a tuple -/
def LenV (K : PySem.W.Frag) (x : V) (H : Hp) (n : Nat) : Prop :=
  match x with
  | .str y => y.length ≤ sizeLine ∧ n = y.length
  | .byt y => y.size ≤ sizeLine ∧ n = y.size
  | .ref p => (∃ xs, SqL K H p xs ∧ n = xs.length) ∨ ∃ xs, SqT K H p xs ∧ n = xs.length
  | _ => False
theorem call_len : CallR X (.builtin "len") (fun xs H Q => ∃ x n, xs = [x] ∧ LenV X.K x H n ∧ Q (.int n) H) := by
  intro pins s σ H xs us Q I r h
  obtain ⟨x, n, rfl, e, q⟩ := h
  obtain ⟨u, rfl, rx⟩ := vals1 r
  have hl := line63
  have hs : sizeLine = 16777216 := sizeLine_eq
  cases x with
  | str y =>
    obtain ⟨t, rfl⟩ := rx
    obtain ⟨hy, e'⟩ : y.length ≤ sizeLine ∧ n = y.length := e
    subst e'
    exact len_str (by omega) ⟨.int _, H, I.tok _, ⟨_, rfl⟩, q⟩
  | byt y =>
    obtain ⟨t, rfl⟩ := rx
    obtain ⟨hy, e'⟩ : y.size ≤ sizeLine ∧ n = y.size := e
    subst e'
    exact PySem.W.len_bytes (by omega) ⟨.int _, H, I.tok _, ⟨_, rfl⟩, q⟩
  | ref p =>
    cases rx
    have e' : (∃ xs, SqL X.K H p xs ∧ n = xs.length) ∨ ∃ xs, SqT X.K H p xs ∧ n = xs.length := e
    rcases e' with ⟨xs, hx, e'⟩ | ⟨xs, hx, e'⟩
    · subst e'
      obtain ⟨its, r', pl, hz⟩ := I.list hx
      have hlen := r'.length
      exact Calls.call_len_list pl.isList (by simp only [List.size_toArray]; omega) ⟨.int xs.length, H, I.tok _, ⟨_, by simp only [List.size_toArray]; rw [hlen]⟩, q⟩
    · subst e'
      obtain ⟨its, r', pl, hz⟩ := I.tuple hx
      have hlen := r'.length
      exact len_tuple pl (by simp only [List.size_toArray]; omega) ⟨.int xs.length, H, I.tok _, ⟨_, by simp only [List.size_toArray]; rw [hlen]⟩, q⟩
  | _ => exact (show False from e).elim
/-- divmod: a new tuple -/
theorem call_divmod : CallR X (.builtin "divmod") (fun xs H Q => ∃ i j, xs = [.int i, .int j] ∧ CDiv i j ∧ ∀ p, H p = none → Q (.ref p) (upd H p (.tup [.int (i / j), .int (i % j)]))) := by
  intro pins s σ H xs us Q I r h
  obtain ⟨i, j, rfl, ⟨h1, h2⟩, q⟩ := h
  obtain ⟨u, w', rfl, ⟨t, rfl⟩, ⟨t', rfl⟩⟩ := vals2 r
  refine divmod_int (by omega) ?_ (.inl (PyProof.noPylong_small (by omega)))
  rw [Int.fdiv_eq_ediv_of_nonneg i (by omega), Int.fmod_eq_emod_of_nonneg i (by omega)]
  have hn : H s.heap.objs.size = none := I.hok.fresh (Nat.le_refl _)
  refine ⟨.ref s.heap.objs.size, _, ?_, rfl, q _ hn⟩
  refine I.laid (fun b o e => Heap.get?_push_of_some _ e) (Nat.le_refl _) ⟨by simp only [List.length_cons, List.length_nil]; rw [sizeLine_eq]; decide, [.int (i / j) s.toks, .int (i % j) (s.toks + 1)], .cons ⟨_, rfl⟩ (.cons ⟨_, rfl⟩ .nil), ?_⟩
  exact ⟨_, Heap.get?_push_size s.heap rfl, rfl, 0, rfl⟩
end
end L2

namespace L2
open PySem PySem.Spec PyProof.Rows

/-! ### an instance, its attributes a map -/
structure ObjM (h : Heap) (x dx C : Addr) (mA : Str → Option Value) : Prop where
  obj : h.get? x = some (PySem.W.instObj C dx)
  ns : h.Ns1 dx mA
  ne : dx ≠ x

theorem lookIn_ns {h : Heap} {dx : Addr} {mA : Str → Option Value} (n : h.Ns1 dx mA) : ∃ od, h.get? dx = some od ∧ ∀ name, PySem.W.lookIn name od = some (mA name) := by
  obtain ⟨o, es, ep, ho, hd, hk, _, hm⟩ := n
  refine ⟨o, ho, fun name => ?_⟩
  have e := hm name
  unfold nsFind findBy at e
  rw [← Array.find?_toList] at e
  unfold PySem.W.lookIn
  rw [hd]
  dsimp only
  split
  · rename_i y q
    rw [q] at e
    exact congrArg some e
  · rename_i q
    rw [q] at e
    have a : es.toList.any (·.refKey) = false := by
      rw [List.any_eq_false]
      intro y hy
      obtain ⟨z, t, hkey⟩ := hk y (Array.mem_toList_iff.mp hy)
      simp [DictEntry.refKey, hkey]
    have a' : ¬ es.toList.any (·.refKey) = true := by rw [a]; exact Bool.false_ne_true
    rw [if_neg a']
    exact congrArg some e

theorem ObjM.look {h : Heap} {x dx C : Addr} {mA : Str → Option Value} (I : ObjM h x dx C mA) : ∃ od, PySem.W.InstAt h x (PySem.W.instObj C dx) C (some od) ∧ ∀ name, PySem.W.lookIn name od = some (mA name) :=
  let ⟨od, ho, hl⟩ := lookIn_ns I.ns
  ⟨od, ⟨I.obj, rfl, rfl, ho⟩, hl⟩

section
variable {prog : Program} {w : World} {A : Around} {E : Value → Shared → Prop} {s : Shared} {K : PySem.W.Frag} {x dx C f : Addr} {mA : Str → Option Value} {name : Str} {v : Value}

theorem get_map {expr : Bool} {Q : Value → Shared → Prop} (X : K.In s.heap) (I : ObjM s.heap x dx C mA) (hg : PySem.W.plainGet K C name = true) (hh : PySem.W.hasDictIn K C = true)
    (ha : PySem.W.findIn K (.ref C) name = some none) (hv : mA name = some v) (hv' : PySem.W.handedIn v = true) (h : Q v { s with toks := s.toks + 1 }) :
    wpAny (model prog w) A (getAttr (.ref x) name expr) Q E s := by
  obtain ⟨od, J, hl⟩ := I.look
  exact PySem.W.get_value X J (PySem.W.plainGet_of hg).1 (PySem.W.findObj_own hh ha rfl (by rw [hl, hv])) hv' h

theorem get_const {expr : Bool} {a : Value} {Q : Value → Shared → Prop} (X : K.In s.heap) (I : ObjM s.heap x dx C mA) (hg : PySem.W.plainGet K C name = true) (hh : PySem.W.hasDictIn K C = true)
    (ha : PySem.W.findIn K (.ref C) name = some (some a)) (hn : PySem.W.specialIn K a "__get__" = some none) (hc : PySem.W.copiedNames.contains name = false) (hv : mA name = none) (hv' : PySem.W.handedIn a = true)
    (h : Q a { s with toks := s.toks + 1 }) : wpAny (model prog w) A (getAttr (.ref x) name expr) Q E s := by
  obtain ⟨od, J, hl⟩ := I.look
  exact PySem.W.get_value X J (PySem.W.plainGet_of hg).1 (PySem.W.findObj_cls hh ha hn hv' hc (by rw [hl, hv])) hv' h

theorem get_meth {pl : Sem Bool} {Q : Value × List Value → Shared → Prop} (X : K.In s.heap) (I : ObjM s.heap x dx C mA) (hg : PySem.W.plainGet K C name = true)
    (hf : PySem.W.findIn K (.ref C) name = some (some (.ref f))) (ht : PySem.W.isFn K (.ref f) = true) (hv : mA name = none) (h : Q (.ref f, [.ref x]) s) :
    wpAny (model prog w) A (getMethod (.ref x) name pl) Q E s := by
  obtain ⟨od, J, hl⟩ := I.look
  exact PySem.W.method_fn X J (PySem.W.plainGet_of hg).1 (PySem.W.plainGet_of hg).2 hf (beq_iff_eq.mp ht) (by show (PySem.W.lookIn name od).map (·.isSome) = some false; rw [hl, hv]; rfl) h

theorem set_map {ns : List Str} {Q : Unit → Shared → Prop} (X : K.In s.heap) (I : ObjM s.heap x dx C mA)
    (hs : PySem.W.findIn K (.ref C) "__setattr__" = some (some (.builtin "object.__setattr__"))) (hp : PySem.W.plainOver K C = true) (ht : PySem.W.takerIn K C name = some none) (hh : PySem.W.hasDictIn K C = true)
    (hw : PySem.Within mA ns) (hsz : ns.length ≤ sizeLine)
    (h : ∀ h', ObjM h' x dx C (fun y => if y = name then some v else mA y) → Heap.SameBut dx s.heap h' → Q () { s with heap := h', toks := s.toks + 2 }) :
    wpAny (model prog w) A (setAttr (.ref x) name v) Q E s := by
  obtain ⟨od, J, hl⟩ := I.look
  refine PySem.W.set_plain X J hs (PySem.W.osa_open (s := { s with toks := s.toks + 1 }) (r := none) X J hp ht fun b => ?_)
  obtain ⟨cd, hc, hd'⟩ := PySem.W.any_some hh
  have hx : s.heap.get? x = some ⟨.ref C, some dx, .plain, #[]⟩ := I.obj
  refine wpAny_bind (wpAny_pure (wpAny_bind (wpAny_bind (wpAny_loadPart hx (wpAny_bind (PySem.W.Looks.here (s := { s with toks := s.toks + 1 }) (PySem.W.looks_clsIn X hc) ?_))))))
  rw [hd']
  refine wpAny_pure (a := some dx) (wpAny_bind (wpAny_pure (wpAny_bind ?_)))
  refine wpAny_nsSet1 (s := { s with toks := s.toks + 1 }) I.ns fun h' hn2 hs2 => ?_
  obtain ⟨oD, esD, epD, hoD, hdD, hcD⟩ := hn2.count (PySem.Within.cons name v hw)
  refine wpAny_bind (wpAny_lookBehind hoD (by rw [hdD]; exact pastItsLine_dict (Nat.le_trans hcD (by rw [List.length_cons]; omega))) ?_)
  exact wpAny_pure (h _ ⟨(hs2.2 _ (Ne.symm I.ne)).trans I.obj, hn2, I.ne⟩ hs2)

/-- C(..): the dict at the heap's end, the instance behind it; then its __init__ -/
theorem make_map {R : Result → Shared → Prop} {vs : List Value} {kw : List (Str × Value)} (X : K.In s.heap) (hm : PySem.W.makesIn K C = true)
    (hi : PySem.W.findIn K (.ref C) "__init__" = some (some (.ref f))) (hf : PySem.W.typeIn K (.ref f) = some (.type "function"))
    (h : codeAny (model prog w) (A.under (.builtin "type.__call__" ⟨.ref C :: vs, kw⟩)) (.call (.ref f) ⟨.ref (s.heap.objs.size + 1) :: vs, kw⟩) (PySem.W.InitBack (s.heap.objs.size + 1) R)
      { s with heap := (s.heap.push PySem.W.emptyDict).push (PySem.W.instObj C s.heap.objs.size) }) :
    codeAny (model prog w) A (.call (.ref C) ⟨vs, kw⟩) R s := by
  obtain ⟨hh, g, d, t, os⟩ := s
  exact PySem.W.make_core (PySem.W.makes_of X hm) (PySem.W.looks_findIn X hi) (fun self => PySem.W.bind_fn X self hf) (.inl rfl) h
/-- C() where there is no __init__ but object's -/
theorem make_map0 {R : Result → Shared → Prop} (X : K.In s.heap) (hm : PySem.W.makesIn K C = true)
    (hi : PySem.W.findIn K (.ref C) "__init__" = some (some (.builtin "object.__init__")))
    (hb : ∀ self, PySem.W.Looks (model prog w) s.heap (bindSpecial (.builtin "object.__init__") self) (.builtin "object.__init__", [self]))
    (h : codeAny (model prog w) (A.under (.builtin "type.__call__" ⟨[.ref C], []⟩)) (.call (.builtin "object.__init__") ⟨[.ref (s.heap.objs.size + 1)], []⟩) (PySem.W.InitBack (s.heap.objs.size + 1) R)
      { s with heap := (s.heap.push PySem.W.emptyDict).push (PySem.W.instObj C s.heap.objs.size) }) :
    codeAny (model prog w) A (.call (.ref C) ⟨[], []⟩) R s := by
  obtain ⟨hh, g, d, t, os⟩ := s
  exact PySem.W.make_core (PySem.W.makes_of X hm) (PySem.W.looks_findIn X hi) hb (.inr ⟨rfl, rfl⟩) h
end

/-! ### the attributes as a list of pairs -/
def putF (f : Str) (v : V) : List (Str × V) → List (Str × V)
  | [] => [(f, v)]
  | (g, x) :: r => if g = f then (g, v) :: r else (g, x) :: putF f v r
theorem lookup_putF (f g : Str) (v : V) : ∀ fs : List (Str × V), (putF f v fs).lookup g = if g = f then some v else fs.lookup g
  | [] => by
    show List.lookup g [(f, v)] = _
    by_cases h : g = f
    · have hb : (g == f) = true := beq_iff_eq.mpr h
      simp only [List.lookup, hb, if_pos h]
    · have hb : (g == f) = false := beq_eq_false_iff_ne.mpr h
      simp only [List.lookup, hb, if_neg h]
  | (k, x) :: r => by
    have ih := lookup_putF f g v r
    rw [show putF f v ((k, x) :: r) = (if k = f then (k, v) :: r else (k, x) :: putF f v r) from rfl]
    by_cases hk : k = f
    · rw [if_pos hk]
      by_cases h : g = k
      · have hb : (g == k) = true := beq_iff_eq.mpr h
        simp only [List.lookup, hb, if_pos (h.trans hk)]
      · have hb : (g == k) = false := beq_eq_false_iff_ne.mpr h
        simp only [List.lookup, hb, if_neg (fun e : g = f => h (e.trans hk.symm))]
    · rw [if_neg hk]
      by_cases h : g = k
      · have hb : (g == k) = true := beq_iff_eq.mpr h
        simp only [List.lookup, hb, if_neg (fun e : g = f => hk (h.symm.trans e))]
      · have hb : (g == k) = false := beq_eq_false_iff_ne.mpr h
        simp only [List.lookup, hb]
        exact ih
theorem keys_putF (f : Str) (v : V) : ∀ fs : List (Str × V), f ∈ (putF f v fs).map (·.1) ∧ ∀ g, g ∈ fs.map (·.1) → g ∈ (putF f v fs).map (·.1)
  | [] => ⟨by simp [putF], fun g h => by simp at h⟩
  | (k, x) :: r => by
    obtain ⟨i1, i2⟩ := keys_putF f v r
    rw [show putF f v ((k, x) :: r) = (if k = f then (k, v) :: r else (k, x) :: putF f v r) from rfl]
    by_cases hk : k = f
    · rw [if_pos hk]
      subst hk
      exact ⟨by simp, fun g h => by simpa using h⟩
    · rw [if_neg hk]
      refine ⟨?_, fun g h => ?_⟩
      · rw [List.map_cons]
        exact List.mem_cons_of_mem _ i1
      · rw [List.map_cons] at h ⊢
        rcases List.mem_cons.mp h with e | e
        · exact List.mem_cons.mpr (.inl e)
        · exact List.mem_cons_of_mem _ (i2 g e)
theorem length_putF (f : Str) (v : V) : ∀ fs : List (Str × V), (putF f v fs).length ≤ fs.length + 1
  | [] => by simp [putF]
  | (k, x) :: r => by
    have ih := length_putF f v r
    rw [show putF f v ((k, x) :: r) = (if k = f then (k, v) :: r else (k, x) :: putF f v r) from rfl]
    by_cases hk : k = f
    · rw [if_pos hk, List.length_cons, List.length_cons]; omega
    · rw [if_neg hk, List.length_cons, List.length_cons]; omega

theorem RelO.some_of {v : V} {o : Option Value} (r : RelO (some v) o) : ∃ u, o = some u ∧ RelV v u := by
  cases o with
  | none => exact (show False from r).elim
  | some u => exact ⟨u, rfl, r⟩
theorem RelO.none_of {o : Option Value} (r : RelO none o) : o = none := by
  cases o with
  | none => rfl
  | some u => exact (show False from r).elim
theorem handed_of {v : V} {u : Value} (r : RelV v u) : PySem.W.handedIn u = true := by
  cases v with
  | non => cases (show u = Value.none from r); rfl
  | bl b => cases (show u = Value.bool b from r); rfl
  | int i => obtain ⟨t, e⟩ := (show ∃ t, u = Value.int i t from r); cases e; rfl
  | str x => obtain ⟨t, e⟩ := (show ∃ t, u = Value.str x t from r); cases e; rfl
  | byt b => obtain ⟨t, e⟩ := (show ∃ t, u = Value.bytes b t from r); cases e; rfl
  | flt b => obtain ⟨t, e⟩ := (show ∃ t, u = Value.float b t from r); cases e; rfl
  | ref a => cases (show u = Value.ref a from r); rfl
  | ty n => cases (show u = Value.type n from r); rfl

section
variable {P : Program} {w : World} {H H' : Hp} {h h' : Heap} {a C dx : Addr} {fs fs' : List (Str × V)}
theorem ins_get (hok : HOk P w H h) (e : H a = some (.ins C dx fs)) : ∃ mA, ObjM h a dx C mA ∧ (∀ f, RelO (fs.lookup f) (mA f)) ∧ PySem.Within mA (fs.map (·.1)) ∧ fs.length ≤ 1000 ∧ H dx = some (.own a) := by
  obtain ⟨d, z, ne, ob, mA, n, r, q⟩ := (show ObjOk P w H h a (.ins C dx fs) from hok a _ e)
  exact ⟨mA, ⟨ob, n, ne⟩, r, q, z, d⟩
end

/-! ### what of the text a class must have -/
structure Cls (K : PySem.W.Frag) (C : Addr) : Prop where
  pg : PySem.W.plainGet K C Str.empty = true
  hd : PySem.W.hasDictIn K C = true
  po : PySem.W.plainOver K C = true
  sa : PySem.W.findIn K (.ref C) "__setattr__" = some (some (.builtin "object.__setattr__"))
theorem Cls.get {K : PySem.W.Frag} {C : Addr} (c : Cls K C) (f : Str) : PySem.W.plainGet K C f = true := c.pg
/-- no class of it has the name -/
def NoAttr (K : PySem.W.Frag) (C : Addr) (f : Str) : Prop := PySem.W.findIn K (.ref C) f = some none
theorem NoAttr.taker {K : PySem.W.Frag} {C : Addr} {f : Str} (n : NoAttr K C f) : PySem.W.takerIn K C f = some none := by
  unfold PySem.W.takerIn
  rw [show PySem.W.findIn K (.ref C) f = some none from n]
  rfl
/-- a constant of the class -/
structure Con (K : PySem.W.Frag) (C : Addr) (f : Str) (v : V) (u : Value) : Prop where
  at_ : PySem.W.findIn K (.ref C) f = some (some u)
  rel : RelV v u
  get : PySem.W.specialIn K u "__get__" = some none
  cp : PySem.W.copiedNames.contains f = false
/-- a method: a plain def of the class or of one above it -/
structure Meth (K : PySem.W.Frag) (C : Addr) (m : Str) (f : Addr) : Prop where
  at_ : PySem.W.findIn K (.ref C) m = some (some (.ref f))
  fn : PySem.W.isFn K (.ref f) = true
  kp : PySem.W.keepIn K (.ref f) = true

section
variable {X : Cx} {pins : List (Addr × Obj)} {σ : St} {H : Hp} {s : Shared} {a C dx : Addr} {fs : List (Str × V)} {f : Str} {v : V} {A : Around} {E : Value → Shared → Prop}

theorem getattr_ok {b : Bool} {Q : Value → Shared → Prop} (I : Inv X pins σ H s) (e : H a = some (.ins C dx fs)) (c : Cls X.K C) (n : NoAttr X.K C f) (l : fs.lookup f = some v)
    (h : ∀ u s', Inv X pins σ H s' → RelV v u → Q u s') : wpAny (model X.prog X.w) A (getAttr (.ref a) f b) Q E s := by
  obtain ⟨mA, O, r, _, _, _⟩ := ins_get I.hok e
  obtain ⟨u, hu, ru⟩ := RelO.some_of (v := v) (o := mA f) (by rw [← l]; exact r f)
  exact get_map I.kIn O (c.get f) c.hd n hu (handed_of ru) (h u _ (I.tok _) ru)

theorem getcon_ok {b : Bool} {u : Value} {Q : Value → Shared → Prop} (I : Inv X pins σ H s) (e : H a = some (.ins C dx fs)) (c : Cls X.K C) (k : Con X.K C f v u) (l : fs.lookup f = none)
    (h : ∀ s', Inv X pins σ H s' → Q u s') : wpAny (model X.prog X.w) A (getAttr (.ref a) f b) Q E s := by
  obtain ⟨mA, O, r, _, _, _⟩ := ins_get I.hok e
  have hn : mA f = none := RelO.none_of (by rw [← l]; exact r f)
  exact get_const I.kIn O (c.get f) c.hd k.at_ k.get k.cp hn (handed_of k.rel) (h _ (I.tok _))

theorem getmeth_ok {m : Str} {g : Addr} {pl : Sem Bool} {Q : Value × List Value → Shared → Prop} (I : Inv X pins σ H s) (e : H a = some (.ins C dx fs)) (c : Cls X.K C) (k : Meth X.K C m g) (l : fs.lookup m = none)
    (h : Q (.ref g, [.ref a]) s) : wpAny (model X.prog X.w) A (getMethod (.ref a) m pl) Q E s := by
  obtain ⟨mA, O, r, _, _, _⟩ := ins_get I.hok e
  have hn : mA m = none := RelO.none_of (by rw [← l]; exact r m)
  exact get_meth I.kIn O (c.get m) k.at_ k.fn hn h

theorem setattr_ok {y : V} {u : Value} {Q : Unit → Shared → Prop} (I : Inv X pins σ H s) (e : H a = some (.ins C dx fs)) (c : Cls X.K C) (n : NoAttr X.K C f) (hl : fs.length < 1000) (ry : RelV y u)
    (h : ∀ s', Inv X pins σ (upd H a (.ins C dx (putF f y fs))) s' → Q () s') : wpAny (model X.prog X.w) A (setAttr (.ref a) f u) Q E s := by
  obtain ⟨mA, O, r, wi, _, ho⟩ := ins_get I.hok e
  have hz : (fs.map (·.1)).length ≤ sizeLine := by rw [List.length_map, sizeLine_eq]; omega
  refine set_map I.kIn O c.sa c.po n.taker c.hd wi hz fun h' O' sb => h _ ?_
  have hd : ∃ o, h'.get? dx = some o := let ⟨o, _, _, e', _⟩ := O'.ns; ⟨o, e'⟩
  refine I.write (x := a) (e := dx) (by rw [e]; exact True.intro) (.inr ho) (fun b q hb z => (sb.2 b hb).trans z) hd ?_
  refine ⟨by rw [upd_ne O.ne]; exact ho, ?_, O.ne, O'.obj, _, O'.ns, fun g => ?_, fun g hg => ?_⟩
  · have := length_putF f y fs; omega
  · show RelO ((putF f y fs).lookup g) (if g = f then some u else mA g)
    rw [lookup_putF]
    by_cases q : g = f
    · rw [if_pos q, if_pos q]; exact ry
    · rw [if_neg q, if_neg q]; exact r g
  · by_cases q : g = f
    · rw [q]; exact (keys_putF f y fs).1
    · refine (keys_putF f y fs).2 g (wi g fun z => hg ?_)
      show (if g = f then some u else mA g) = none
      rw [if_neg q]; exact z

/-- a new instance, tracked, without attributes -/
theorem Inv.made (I : Inv X pins σ H s) : Inv X pins σ (upd (upd H s.heap.objs.size (.own (s.heap.objs.size + 1))) (s.heap.objs.size + 1) (.ins C s.heap.objs.size []))
    { s with heap := (s.heap.push PySem.W.emptyDict).push (PySem.W.instObj C s.heap.objs.size) } := by
  have e1 : (s.heap.push PySem.W.emptyDict).get? s.heap.objs.size = some PySem.W.emptyDict := Heap.get?_push_size s.heap rfl
  have e2 : ((s.heap.push PySem.W.emptyDict).push (PySem.W.instObj C s.heap.objs.size)).get? (s.heap.objs.size + 1) = some (PySem.W.instObj C s.heap.objs.size) := by
    have := Heap.get?_push_size (s.heap.push PySem.W.emptyDict) (o := PySem.W.instObj C s.heap.objs.size) rfl
    rwa [Heap.size_push] at this
  have e3 : (s.heap.push PySem.W.emptyDict).Ns s.heap.objs.size (fun _ => none) := ⟨PySem.W.emptyDict, #[], _, e1, rfl, (fun e he => absurd he (by simp)), fun _ => rfl⟩
  have I1 := I.laid (a := s.heap.objs.size) (o := .own (s.heap.objs.size + 1)) (h' := s.heap.push PySem.W.emptyDict) (t' := s.toks) (fun b u q => Heap.get?_push_of_some _ q) (Nat.le_refl _) ⟨_, e1⟩
  refine I1.laid (a := s.heap.objs.size + 1) (o := .ins C s.heap.objs.size []) (t' := s.toks) (fun b u q => Heap.get?_push_of_some _ q) (Nat.le_of_eq (Heap.size_push _ _)) ?_
  have ne : s.heap.objs.size ≠ s.heap.objs.size + 1 := Nat.ne_of_lt (Nat.lt_succ_self _)
  refine ⟨by rw [upd_ne ne, upd_same], Nat.zero_le _, ne, e2, fun _ => none, (Heap.Ns1.of_empty e3).at fun o q => Heap.get?_push_of_some _ q, fun _ => True.intro, fun y hy => absurd rfl hy⟩

/-- e.f where nothing but the object is asked: through attributeBase (super) and the last hold -/
theorem attr_of {prog : Program} {w : World} {env : Env} {e : Expr} {f : Str} {pos : Pos} {s : Shared} {Q : Value → Shared → Prop} (hb : attributeBase e f env (eval e env) = eval e env)
    (h : wpAny (model prog w) A (eval e env) (fun o s₁ => wpAny (model prog w) A (getAttr o f true) Q E s₁) E s) : wpAny (model prog w) A (eval (.Attribute e f pos) env) Q E s :=
  Attribute_any_ h (by rw [arm_eval_Attribute, hb])
end

/-! ### readings and rules -/
/-- e.f, an attribute of the instance -/
def tFld (K : PySem.W.Frag) (ta : TE) (f : Str) : TE := fun σ H Q => ta σ H fun x H1 => ∃ a C dx fs v, x = .ref a ∧ H1 a = some (.ins C dx fs) ∧ Cls K C ∧ NoAttr K C f ∧ fs.lookup f = some v ∧ Q v H1
/-- e.f, a constant of the class -/
def tCon (K : PySem.W.Frag) (ta : TE) (f : Str) : TE := fun σ H Q => ta σ H fun x H1 => ∃ a C dx fs v u, x = .ref a ∧ H1 a = some (.ins C dx fs) ∧ Cls K C ∧ Con K C f v u ∧ fs.lookup f = none ∧ Q v H1
/-- e.f = value -/
def sFld (K : PySem.W.Frag) (ta tv : TE) (f : Str) : TS := fun D σ H => tv σ H fun y H1 => ta σ H1 fun x H2 => ∃ a C dx fs, x = .ref a ∧ H2 a = some (.ins C dx fs) ∧ Cls K C ∧ NoAttr K C f ∧ fs.length < 1000 ∧
  D.nx σ (upd H2 a (.ins C dx (putF f y fs)))
/-- an augmented operator on two values -/
def InOp (X : Cx) (op : Operator) (rd : V → V → Hp → VK → Prop) : Prop :=
  ∀ (pins : List (Addr × Obj)) (s : Shared) (σ : St) (H : Hp) (x y : V) (u v : Value) (Q : VK), Inv X pins σ H s → RelV x u → RelV y v → rd x y H Q → wpAny (model X.prog X.w) X.A (inplaceOp op u v) (EP X pins σ Q) X.xe s
/-- e.f op= value -/
def sFldAug (K : PySem.W.Frag) (ta tv : TE) (rd : V → V → Hp → VK → Prop) (f : Str) : TS := fun D σ H => ta σ H fun x H1 => ∃ a C dx fs v, x = .ref a ∧ H1 a = some (.ins C dx fs) ∧ Cls K C ∧ NoAttr K C f ∧ fs.lookup f = some v ∧
  tv σ H1 fun y H2 => rd v y H2 fun z H3 => ∃ dx' fs', H3 a = some (.ins C dx' fs') ∧ fs'.length < 1000 ∧ D.nx σ (upd H3 a (.ins C dx' (putF f z fs')))

section
variable {X : Cx} {o e value : Expr} {f : Str} {pos pos' tpos : Pos} {ta tv : TE}
theorem pe_fld (he : PE X e ta) (hb : attributeBase e f X.env (eval e X.env) = eval e X.env) : PE X (.Attribute e f pos) (tFld X.K ta f) := by
  intro pins s σ H Q I h
  refine attr_of hb (thn (he pins s σ H _ I h) fun u s1 ⟨x, H1, I1, rx, a, C, dx, fs, v, ex, ea, c, n, l, q⟩ => ?_)
  subst ex
  obtain rfl : u = Value.ref a := rx
  exact getattr_ok I1 ea c n l fun u' s2 I2 ru => ⟨v, H1, I2, ru, q⟩
theorem pe_con (he : PE X e ta) (hb : attributeBase e f X.env (eval e X.env) = eval e X.env) : PE X (.Attribute e f pos) (tCon X.K ta f) := by
  intro pins s σ H Q I h
  refine attr_of hb (thn (he pins s σ H _ I h) fun u s1 ⟨x, H1, I1, rx, a, C, dx, fs, v, u0, ex, ea, c, k, l, q⟩ => ?_)
  subst ex
  obtain rfl : u = Value.ref a := rx
  exact getcon_ok I1 ea c k l fun s2 I2 => ⟨v, H1, I2, k.rel, q⟩
theorem ps_fld (ha : PE X o ta) (hv : PE X value tv) (hs : swapsWith value (some (.Attribute o f pos')) pos.line X.env = pure false) : PS X (.Assign [.Attribute o f pos'] value pos) (sFld X.K ta tv f) := by
  intro pins s σ H D I h
  refine plainObj_wpAny_Assign_Attribute (thn (hv pins s σ H _ I h) fun u s1 ⟨y, H1, I1, ry, q⟩ => thn (ha pins s1 σ H1 _ I1 q) fun ov s2 ⟨x, H2, I2, rx, a, C, dx, fs, ex, ea, c, n, l, q2⟩ => ?_) hs
  subst ex
  obtain rfl : ov = Value.ref a := rx
  exact setattr_ok I2 ea c n l ry fun s3 I3 => ⟨σ, _, I3, q2⟩
theorem ps_fldaug {op : Operator} {rd : V → V → Hp → VK → Prop} (ha : PE X o ta) (hv : PE X value tv) (hop : InOp X op rd) : PS X (.AugAssign (.Attribute o f tpos) op value pos) (sFldAug X.K ta tv rd f) := by
  intro pins s σ H D I h
  refine wpAny_AugAssign_AttributeAny (thn (ha pins s σ H _ I h) fun ov s1 ⟨x, H1, I1, rx, a, C, dx, fs, v, ex, ea, c, n, l, q⟩ => ?_)
  subst ex
  obtain rfl : ov = Value.ref a := rx
  refine getattr_ok I1 ea c n l fun u s2 I2 ru => thn (hv pins s2 σ H1 _ I2 q) fun w3 s3 ⟨y, H2, I3, ry, q3⟩ => thn (hop pins s3 σ H2 v y u w3 _ I3 ru ry q3) fun w4 s4 ⟨z, H3, I4, rz, dx', fs', ea', l', q4⟩ => ?_
  exact setattr_ok I4 ea' c n l' rz fun s5 I5 => ⟨σ, _, I5, q4⟩
def rAdd : V → V → Hp → VK → Prop := fun x y H Q => ∃ i j, x = .int i ∧ y = .int j ∧ Q (.int (i + j)) H
def rSub : V → V → Hp → VK → Prop := fun x y H Q => ∃ i j, x = .int i ∧ y = .int j ∧ Q (.int (i - j)) H
theorem in_add : InOp X .Add rAdd := by
  rintro pins s σ H x y u v Q I rx ry ⟨i, j, rfl, rfl, q⟩
  obtain ⟨t, rfl⟩ := (show ∃ t, u = Value.int i t from rx)
  obtain ⟨t', rfl⟩ := (show ∃ t', v = Value.int j t' from ry)
  exact PyProof.Rows.iadd_int ⟨.int (i + j), H, I.tok _, ⟨_, rfl⟩, q⟩
theorem in_sub : InOp X .Sub rSub := by
  rintro pins s σ H x y u v Q I rx ry ⟨i, j, rfl, rfl, q⟩
  obtain ⟨t, rfl⟩ := (show ∃ t, u = Value.int i t from rx)
  obtain ⟨t', rfl⟩ := (show ∃ t', v = Value.int j t' from ry)
  exact PyProof.Rows.isub_int ⟨.int (i - j), H, I.tok _, ⟨_, rfl⟩, q⟩

/-- what is between an instance and its method: the tree of a method call -/
theorem methcall_of {pl : Sem Bool} {m : Str} {apos : Pos} {args : List Expr} {pins : List (Addr × Obj)} {s : Shared} {σ : St} {H : Hp} {Q : Value → Shared → Prop} {te : TE} (he : PE X e te) (I : Inv X pins σ H s)
    (h : te σ H fun x H1 => ∃ a C dx fs g, x = .ref a ∧ H1 a = some (.ins C dx fs) ∧ Cls X.K C ∧ Meth X.K C m g ∧ fs.lookup m = none ∧
      ∀ s1, Inv X pins σ H1 s1 → wpAny (model X.prog X.w) X.A (callWith pos (.ref g) [.ref a] (backTo pos (starEach args X.env)) (backToKw pos (keywordEach [] X.env))) Q X.xe s1)
    (ht : eval (.Call (.Attribute e m apos) args [] pos) X.env = (do
      let ov ← eval e X.env
      standAt apos.atName
      let (f, first) ← holding [ov] (getMethod ov m pl)
      callWith pos f first (backTo pos (starEach args X.env)) (backToKw pos (keywordEach [] X.env)))) :
    wpAny (model X.prog X.w) X.A (eval (.Call (.Attribute e m apos) args [] pos) X.env) Q X.xe s := by
  refine PySem.W.methodCall_KW (pl := pl) (thn (he pins s σ H _ I h) fun u s1 ⟨x, H1, I1, rx, a, C, dx, fs, g, ex, ea, c, k, l, q⟩ => ?_) ht
  subst ex
  obtain rfl : u = Value.ref a := rx
  exact getmeth_ok I1 ea c k l (q s1 I1)
end

/-! ### isinstance -/
section
variable {X : Cx} {pins : List (Addr × Obj)} {σ : St} {H : Hp} {s : Shared} {A : Around} {E : Value → Shared → Prop} {Q : Value → Shared → Prop} {c : Value} {b : Bool}
/-- the type of a value, as the fragment's deciders take it; for an instance its class -/
inductive TyOf (K : PySem.W.Frag) (H : Hp) : V → Value → Prop where
  | non : TyOf K H .non (.type "NoneType")
  | bl (x : Bool) : TyOf K H (.bl x) (.type "bool")
  | int (i : Int) : TyOf K H (.int i) (.type "int")
  | str (x : Str) : TyOf K H (.str x) (.type "str")
  | flt (x : UInt64) : TyOf K H (.flt x) (.type "float")
  | lst {a : Addr} {xs : List V} (e : H a = some (.lst xs)) : TyOf K H (.ref a) (.type "list")
  | frz {a : Addr} {o : Obj} {xs : List V} (e : H a = some (.frz o (.lst xs))) : TyOf K H (.ref a) (.type "list")
  | tup {a : Addr} {xs : List V} (e : H a = some (.tup xs)) : TyOf K H (.ref a) (.type "tuple")
  | dK {a : Addr} {kvs : List (Key × V)} (e : H a = some (.dK kvs)) : TyOf K H (.ref a) (.type "dict")
  | dT {a : Addr} {kvs : List (List Key × V)} (e : H a = some (.dT kvs)) : TyOf K H (.ref a) (.type "dict")
  | ins {a C dx : Addr} {fs : List (Str × V)} (e : H a = some (.ins C dx fs)) (cl : Cls K C) (ha : PySem.W.findIn K (.ref C) "__class__" = some (some (.builtin "object.__class__")))
      (hn : PySem.W.specialIn K (.builtin "object.__class__") "__get__" = some (some (.builtin "getset_descriptor.__get__"))) (htk : PySem.W.takesIn K (.builtin "object.__class__") = some true)
      (hm : PySem.W.mroIn K C (.type "object") = some true) : TyOf K H (.ref a) (.ref C)
/-- isinstance(x, c) for one class c, a built-in or an own one: kitOne's answer -/
theorem isinst_ok {x : V} {u t : Value} (I : Inv X pins σ H s) (rx : RelV x u) (ty : TyOf X.K H x t) (e : PySem.W.kitOne X.K t c = some b) (h : ∀ tk, Q (.bool b) { s with toks := tk }) :
    wpAny (model X.prog X.w) A (call (.builtin "isinstance") [u, c]) Q E s := by
  cases ty with
  | non => cases (show u = Value.none from rx); exact PySem.W.kia_one PySem.W.kitx_none I.kIn True.intro e (fun z => nomatch z) h
  | bl y => cases (show u = Value.bool y from rx); exact PySem.W.kia_one PySem.W.kitx_bool I.kIn True.intro e (fun z => nomatch z) h
  | int i => obtain ⟨t, q⟩ := (show ∃ t, u = Value.int i t from rx); cases q; exact PySem.W.kia_one PySem.W.kitx_int I.kIn True.intro e (fun z => nomatch z) h
  | str y => obtain ⟨t, q⟩ := (show ∃ t, u = Value.str y t from rx); cases q; exact PySem.W.kia_one PySem.W.kitx_str I.kIn True.intro e (fun z => nomatch z) h
  | flt y => obtain ⟨t, q⟩ := (show ∃ t, u = Value.float y t from rx); cases q; exact PySem.W.kia_one PySem.W.kitx_float I.kIn True.intro e (fun z => nomatch z) h
  | @lst a xs ea =>
    cases (show u = Value.ref a from rx)
    obtain ⟨_, _, n, _, h1⟩ := (show ObjOk X.prog X.w H s.heap a (.lst xs) from I.hok a _ ea)
    exact PySem.W.kia_one PySem.W.kitx_list I.kIn ⟨_, h1, rfl⟩ e (fun z => nomatch z) h
  | @frz a ob xs ea =>
    cases (show u = Value.ref a from rx)
    obtain ⟨_, _, _, n, _, h1⟩ := (show ObjOk X.prog X.w H s.heap a (.frz ob (.lst xs)) from I.hok a _ ea)
    exact PySem.W.kia_one PySem.W.kitx_list I.kIn ⟨_, h1, rfl⟩ e (fun z => nomatch z) h
  | @tup a xs ea =>
    cases (show u = Value.ref a from rx)
    obtain ⟨_, _, _, p⟩ := (show ObjOk X.prog X.w H s.heap a (.tup xs) from I.hok a _ ea)
    obtain ⟨o, h1, h2, _⟩ := p
    exact PySem.W.kia_one PySem.W.kitx_tuple I.kIn ⟨o, h1, h2⟩ e (fun z => nomatch z) h
  | @dK a kvs ea =>
    cases (show u = Value.ref a from rx)
    obtain ⟨_, _, vs, _, p⟩ := (show ObjOk X.prog X.w H s.heap a (.dK kvs) from I.hok a _ ea)
    obtain ⟨o, es, ep, h1, h2, _⟩ := p
    exact PySem.W.kia_one PySem.W.kitx_dict I.kIn ⟨o, h1, h2.1⟩ e (fun z => nomatch z) h
  | @dT a kvs ea =>
    cases (show u = Value.ref a from rx)
    obtain ⟨_, _, xs, _, o, es, ep, h1, h2, _⟩ := (show ObjOk X.prog X.w H s.heap a (.dT kvs) from I.hok a _ ea)
    exact PySem.W.kia_one PySem.W.kitx_dict I.kIn ⟨o, h1, h2.1⟩ e (fun z => nomatch z) h
  | @ins a C dx fs ea cl ha hn htk hm =>
    cases (show u = Value.ref a from rx)
    obtain ⟨mA, O, _⟩ := ins_get I.hok ea
    obtain ⟨od, J, _⟩ := O.look
    exact PySem.W.kia_one (PySem.W.kitx_own (cl.get _) cl.hd ha hn htk hm) I.kIn J e (fun z => nomatch z) h
end
end L2

namespace L2
open PySem PySem.Spec PyProof.Rows

/-! ### room -/
structure Room (k : Nat) (A : Around) : Prop where
  hd : A.handled = none
  dp : A.depth + 3 * k + 5 < recursionLimit
  un : A.units + 16 * k + 200 < cLine
  gd : A.guards = some []
theorem Room.mono {j k : Nat} {A : Around} (r : Room k A) (h : j ≤ k) : Room j A := ⟨r.hd, by have := r.dp; omega, by have := r.un; omega, r.gd⟩
theorem Room.deeper {k : Nat} {A : Around} (r : Room (k + 1) A) (env : Env) : Room k (A.deeper env) :=
  ⟨r.hd, by have := r.dp; show A.depth + 1 + 3 * k + 5 < _; omega, by have := r.un; show A.units + 3 + 16 * k + 200 < _; omega, r.gd⟩
theorem Room.in1 {k : Nat} {A : Around} (r : Room (k + 1) A) : Room k A.in1 :=
  ⟨r.hd, by have := r.dp; show A.depth + 3 * k + 5 < _; omega, by have := r.un; show A.units + 1 + 16 * k + 200 < _; omega, r.gd⟩
theorem make_depth {A : Around} {C : Addr} {us : List Value} {kw : List (Str × Value)} : (A.under (.builtin "type.__call__" ⟨.ref C :: us, kw⟩)).depth = A.depth + 1 := by
  first | rfl | simp [Around.under, Code.weight, Code.isCreation, Code.isGuard, Code.isCaller, Code.frames, Code.isFrame, guardIds]
theorem make_units {A : Around} {C : Addr} {us : List Value} {kw : List (Str × Value)} : (A.under (.builtin "type.__call__" ⟨.ref C :: us, kw⟩)).units = A.units + 1 := by
  first | rfl | simp [Around.under, Code.cUnits, Code.frames, Code.isFrame]
theorem Room.make {k : Nat} {A : Around} (r : Room (k + 1) A) (C : Addr) (us : List Value) (kw : List (Str × Value)) : Room k (A.under (.builtin "type.__call__" ⟨.ref C :: us, kw⟩)) :=
  ⟨r.hd, by have := r.dp; rw [make_depth]; omega, by have := r.un; rw [make_units]; omega, r.gd⟩
theorem Room.depth {k : Nat} {A : Around} (r : Room k A) : A.depth < recursionLimit := by have := r.dp; omega
theorem Room.units {k : Nat} {A : Around} (r : Room k A) : A.units + 64 < cLine := by have := r.un; omega
theorem Room.units0 {k : Nat} {A : Around} (r : Room k A) : A.units < cLine := by have := r.un; omega

/-! ### argument lists and displays -/
def tNil : TA := fun _ H Q => Q [] H
def tCons (ta : TE) (tr : TA) : TA := fun σ H Q => ta σ H fun x H1 => tr σ H1 fun xs H2 => Q (x :: xs) H2
section
variable {X : Cx} {e : Expr} {es : List Expr} {te : TE} {t : TA} {pos : Pos}
theorem pa_nil : PA X [] tNil := fun _ _ _ _ H Q I h => Calls.spliced_nil ⟨[], H, I, .nil, h⟩
theorem pa_cons (ha : PE X e te) (hr : PA X es t) (hs : starEach (e :: es) X.env = (false, eval e X.env) :: starEach es X.env := by rfl) : PA X (e :: es) (tCons te t) := by
  intro pos pins s σ H Q I h
  rw [hs]
  show wpAny _ _ (spliced ((false, eval e X.env) :: backTo pos (starEach es X.env))) _ _ s
  refine Calls.spliced_cons (thn (ha pins s σ H _ I h) fun u s1 ⟨x, H1, I1, r1, q1⟩ => ?_)
  exact thn (hr pos pins s1 σ H1 _ I1 q1) fun us s2 ⟨xs, H2, I2, r2, q2⟩ => ⟨x :: xs, H2, I2, .cons r1 r2, q2⟩

/-- a tuple, a list of written items -/
def tTup (t : TA) : TE := fun σ H Q => t σ H fun xs H1 => xs.length ≤ sizeLine ∧ ∀ p, H1 p = none → Q (.ref p) (upd H1 p (.tup xs))
def tLst (t : TA) : TE := fun σ H Q => t σ H fun xs H1 => xs.length ≤ sizeLine ∧ ∀ p, H1 p = none → Q (.ref p) (upd H1 p (.lst xs))
theorem pe_tup {x1} (h : PA X es t) : PE X (.Tuple es x1 pos) (tTup t) := by
  intro pins s σ H Q I hq
  refine wpAny_Tuple_spliced (thn (h pos pins s σ H _ I hq) fun us s1 ⟨xs, H1, I1, r, z, q⟩ => ⟨by rw [← r.length]; exact z, ?_⟩)
  have hf : H1 s1.heap.objs.size = none := I1.hok.fresh (Nat.le_refl _)
  refine ⟨.ref s1.heap.objs.size, upd H1 s1.heap.objs.size (.tup xs), I1.laid (t' := s1.toks) (fun b u e => Heap.get?_push_of_some _ e) (Nat.le_refl _) ?_, rfl, q _ hf⟩
  exact ⟨z, us, r, ⟨_, Heap.get?_push_size _ rfl, rfl, _, rfl⟩⟩
theorem pe_lst (h : PA X es t) : PE X (.List es pos) (tLst t) := by
  intro pins s σ H Q I hq
  refine wpAny_List_spliced (thn (h pos pins s σ H _ I hq) fun us s1 ⟨xs, H1, I1, r, z, q⟩ => ⟨by rw [← r.length]; exact z, ?_⟩)
  have hf : H1 s1.heap.objs.size = none := I1.hok.fresh (Nat.le_refl _)
  refine ⟨.ref s1.heap.objs.size, upd H1 s1.heap.objs.size (.lst xs), I1.laid (t' := s1.toks) (fun b u e => Heap.get?_push_of_some _ e) (Nat.le_refl _) ?_, rfl, q _ hf⟩
  exact ⟨z, us, 0, r, Heap.get?_push_size _ rfl⟩
end

/-! ### what a def promises -/
/-- a def's promise: the bound arguments in the parameters' order, the heap, the wanted end, the wanted exception -/
abbrev Sp := List V → Hp → VK → XK → Prop
/-- how an exception lies behind a call (file 08 gives it): the callers' frames, abstract heap and state ahead of the call, the wish, the exception, the state -/
abbrev CXT := List Env → Hp → Shared → XK → Value → Shared → Prop

/-- the state at a call -/
structure Env0 (P : Program) (w : World) (K : PySem.W.Frag) (mg : Str → Option Value) (base : Heap) (A : Around) (outer : List Env) (s : Shared) (H : Hp) : Prop where
  frames : A.frames = some outer
  mod : Mod K mg base
  bs : ∀ b o, base.get? b = some o → s.heap.get? b = some o ∧ H b = none
  bsz : base.objs.size ≤ s.heap.objs.size
  funs : s.heap.FunFrames base outer
  frf : ∀ b ∈ frs outer, H b = none
  hok : HOk P w H s.heap
  bare : AllBare s.gens
/-- a call's end -/
def CE (outer : List Env) (P : Program) (w : World) (H : Hp) (s : Shared) (Q : VK) (u : Value) (s' : Shared) : Prop :=
  ∃ v H', s'.os = s.os ∧ AllBare s'.gens ∧ Un (frs outer) [] H H' s.heap s'.heap ∧ HOk P w H' s'.heap ∧ RelV v u ∧ Q v H'
def CR (CX : CXT) (outer : List Env) (P : Program) (w : World) (H : Hp) (s : Shared) (Q : VK) (E : XK) (r : Result) (s' : Shared) : Prop :=
  match r with
  | .ok (.ret u) => CE outer P w H s Q u s'
  | .ok _ => False
  | .error e => CX outer H s E e s'
structure FnOk (P : Program) (w : World) (K : PySem.W.Frag) (mg : Str → Option Value) (base : Heap) (CX : CXT) (k : Nat) (f : Addr) (fd : FuncData) (ps : List Str) (sp : Sp) : Prop where
  len : ∀ vs H Q E, sp vs H Q E → vs.length = ps.length
  run : ∀ (A : Around) (outer : List Env) (s : Shared) (H : Hp) (args : Args) (us : List Value) (vs : List V) (Q : VK) (E : XK), Room k A → Env0 P w K mg base A outer s H → BindsTo s fd args (ps.zip us) → Vals vs us → sp vs H Q E →
    codeAny (model P w) A (.call (.ref f) args) (CR CX outer P w H s Q E) s
theorem FnOk.mono {P : Program} {w : World} {K : PySem.W.Frag} {mg : Str → Option Value} {base : Heap} {CX : CXT} {j k : Nat} {f : Addr} {fd : FuncData} {ps : List Str} {sp : Sp} (F : FnOk P w K mg base CX j f fd ps sp) (h : j ≤ k) :
    FnOk P w K mg base CX k f fd ps sp := ⟨F.len, fun A outer s H args us vs Q E hr => F.run A outer s H args us vs Q E (hr.mono h)⟩
/-- a weaker promise -/
theorem FnOk.imp {P : Program} {w : World} {K : PySem.W.Frag} {mg : Str → Option Value} {base : Heap} {CX : CXT} {k : Nat} {f : Addr} {fd : FuncData} {ps : List Str} {sp sp' : Sp} (F : FnOk P w K mg base CX k f fd ps sp)
    (h : ∀ vs H Q E, sp' vs H Q E → sp vs H Q E) : FnOk P w K mg base CX k f fd ps sp' :=
  ⟨fun vs H Q E q => F.len vs H Q E (h _ _ _ _ q), fun A outer s H args us vs Q E hr he hb hv hs => F.run A outer s H args us vs Q E hr he hb hv (h _ _ _ _ hs)⟩

theorem Env0.make {P : Program} {w : World} {K : PySem.W.Frag} {mg : Str → Option Value} {base : Heap} {A : Around} {outer : List Env} {s : Shared} {H : Hp} (e : Env0 P w K mg base A outer s H) (C : Addr) (us : List Value) (kw : List (Str × Value)) :
    Env0 P w K mg base (A.under (.builtin "type.__call__" ⟨.ref C :: us, kw⟩)) outer s H := ⟨by first | exact e.frames | (simpa [Around.under, Code.envs, Code.isFrame, pushEnvs] using e.frames), e.mod, e.bs, e.bsz, e.funs, e.frf, e.hok, e.bare⟩
theorem Env0.in1 {P : Program} {w : World} {K : PySem.W.Frag} {mg : Str → Option Value} {base : Heap} {A : Around} {outer : List Env} {s : Shared} {H : Hp} (e : Env0 P w K mg base A outer s H) :
    Env0 P w K mg base A.in1 outer s H := ⟨e.frames, e.mod, e.bs, e.bsz, e.funs, e.frf, e.hok, e.bare⟩

section
variable {X : Cx} {pins : List (Addr × Obj)} {σ : St} {H : Hp} {s s' : Shared}
/-- from a body: what a callee wants -/
theorem Inv.env0 (I : Inv X pins σ H s) : Env0 X.prog X.w X.K X.mg X.base X.A X.stack s H :=
  ⟨I.ok.frames, I.ok.mod, I.bs, Nat.le_trans I.ok.bsz I.sz, I.stack, I.stkFree, I.hok, I.bare⟩
/-- behind a call -/
theorem Inv.after {Q : VK} {u : Value} (I : Inv X pins σ H s) (h : CE X.stack X.prog X.w H s Q u s') : EP X pins σ Q u s' := by
  obtain ⟨v, H', os, bare, un, hok, r, q⟩ := h
  obtain ⟨hh, g, d, t, os'⟩ := s'
  obtain rfl : os' = s.os := os
  exact ⟨v, H', I.call (h' := hh) (g' := g) (d' := d) (t' := t) (ch := []) un hok bare (fun b z => absurd z (by simp)), r, q⟩
end

/-! ### calls -/
/-- f(..): the written arguments, then the defaults dvs; E: what is wanted of an exception -/
def tCall (sp : Sp) (dvs : List V) (E : XK) (t : TA) : TE := fun σ H Q => t σ H fun vs H1 => sp (vs ++ dvs) H1 Q E
/-- o.m(..) of an instance of the class at C -/
def tMeth (C : Addr) (m : Str) (sp : Sp) (dvs : List V) (E : XK) (ta : TE) (t : TA) : TE := fun σ H Q => ta σ H fun x H1 => ∃ a dx fs, x = .ref a ∧ H1 a = some (.ins C dx fs) ∧ fs.lookup m = none ∧
  t σ H1 fun vs H2 => sp (x :: (vs ++ dvs)) H2 Q E
/-- C(..): a new instance and its dict, then __init__ -/
def tMake (C : Addr) (sp : Sp) (dvs : List V) (E : XK) (t : TA) : TE := fun σ H Q => t σ H fun vs H1 => ∀ x dx, H1 x = none → H1 dx = none → dx ≠ x →
  sp (.ref x :: (vs ++ dvs)) (upd (upd H1 dx (.own x)) x (.ins C dx [])) (fun v H2 => v = .non ∧ Q (.ref x) H2) E

/-- how the parameters are bound: us the positional arguments, kw the keywords' values by name, ds the defaults that fill up -/
def Binds (K : PySem.W.Frag) (fd : FuncData) (ps : List Str) (ds : List Value) : Prop :=
  ∀ (s : Shared) (us : List Value), K.In s.heap → (us ++ ds).length = ps.length → BindsTo s fd ⟨us, []⟩ (ps.zip (us ++ ds))
/-- every parameter is given -/
theorem Binds.all {K : PySem.W.Frag} {fd : FuncData} {ps : List Str} (h : ∀ us : List Value, us.length = ps.length → bindArgs fd ⟨us, []⟩ = pure (ps.zip us)) : Binds K fd ps [] := fun s us _ hl => by
  rw [List.append_nil] at hl ⊢
  exact .of_eq (h us hl)

/-- an exception of a callee reaches what this body wants of exceptions -/
def Passes (CX : CXT) (X : Cx) (E : XK) : Prop := ∀ (pins : List (Addr × Obj)) (σ : St) (H : Hp) (s : Shared) (e : Value) (s' : Shared), Inv X pins σ H s → CX X.stack H s E e s' → X.xe e s'

section
variable {X : Cx} {CX : CXT} {k : Nat} {f C : Addr} {fd : FuncData} {ps : List Str} {sp : Sp} {dvs : List V} {ds : List Value} {E : XK} {x m : Str} {p pos apos : Pos} {e o : Expr} {es : List Expr} {ta : TE} {t : TA}

/-- the callee runs -/
theorem run_fn {pins : List (Addr × Obj)} {σ : St} {H : Hp} {s : Shared} {Q : VK} {us : List Value} {vs : List V} (F : FnOk X.prog X.w X.K X.mg X.base CX k f fd ps sp) (hr : Room k X.A) (hb : Binds X.K fd ps ds) (hd : Vals dvs ds) (hx : Passes CX X E)
    (I : Inv X pins σ H s) (r : Vals vs us) (h : sp (vs ++ dvs) H Q E) : wpAny (model X.prog X.w) X.A (call (.ref f) us) (EP X pins σ Q) X.xe s := by
  have r2 : Vals (vs ++ dvs) (us ++ ds) := r.append hd
  have hl : (us ++ ds).length = ps.length := by rw [← r2.length]; exact F.len _ _ _ _ h
  refine wpAny_call (codeAny_mono (F.run X.A X.stack s H ⟨us, []⟩ (us ++ ds) (vs ++ dvs) Q E hr I.env0 (hb s us I.kIn hl) r2 h) fun r s' hq => ?_)
  cases r with
  | error e => exact hx pins σ H s e s' I hq
  | ok fl =>
    cases fl with
    | ret u => exact I.after hq
    | next => exact False.elim hq
    | brk => exact False.elim hq
    | cont => exact False.elim hq

theorem pe_call (F : FnOk X.prog X.w X.K X.mg X.base CX k f fd ps sp) (hr : Room k X.A) (hg : Gl X x) (hm : X.mg x = some (.ref f)) (hk : PySem.W.keepIn X.K (.ref f) = true) (hb : Binds X.K fd ps ds) (hd : Vals dvs ds) (hx : Passes CX X E)
    (ha : PA X (e :: es) t) (hdb : (x == ("__debug__" : Str)) = false := by decide) (he : starEach (e :: es) X.env = (false, eval e X.env) :: starEach es X.env := by rfl) (hpl : (backTo pos (starEach es X.env)).any (·.1) = false := by rfl) :
    PE X (.Call (.Name x p) (e :: es) [] pos) (tCall sp dvs E t) := by
  intro pins s σ H Q I h
  refine wpAny_Call_Name_kw (ld_glob I hg hm ?_ hdb)
  refine PySem.W.callWith_K (h₀ := X.base) I.ok.mod.kin hk (thn (ha pos pins s σ H _ I h) fun us s1 ⟨vs, H1, I1, r, q⟩ => ⟨I1.kIn, ?_⟩) he hpl
  exact run_fn F hr hb hd hx I1 r q
theorem pe_call0 (F : FnOk X.prog X.w X.K X.mg X.base CX k f fd ps sp) (hr : Room k X.A) (hg : Gl X x) (hm : X.mg x = some (.ref f)) (hk : PySem.W.keepIn X.K (.ref f) = true) (hb : Binds X.K fd ps ds) (hd : Vals dvs ds) (hx : Passes CX X E)
    (hdb : (x == ("__debug__" : Str)) = false := by decide) : PE X (.Call (.Name x p) [] [] pos) (tCall sp dvs E tNil) := by
  intro pins s σ H Q I h
  refine wpAny_Call_Name_kw (ld_glob I hg hm ?_ hdb)
  exact PySem.W.callWith_K0 I.kIn hk (run_fn (us := []) F hr hb hd hx I .nil h)

/-- o.m(e, ..) -/
theorem pe_meth {pl : Sem Bool} (he : PE X o ta) (c : Cls X.K C) (hm : Meth X.K C m f) (F : FnOk X.prog X.w X.K X.mg X.base CX k f fd ps sp) (hr : Room k X.A) (hb : Binds X.K fd ps ds) (hd : Vals dvs ds) (hx : Passes CX X E) (ha : PA X (e :: es) t)
    (hst : starEach (e :: es) X.env = (false, eval e X.env) :: starEach es X.env := by rfl) (hpl : (backTo pos (starEach es X.env)).any (·.1) = false := by rfl)
    (ht : eval (.Call (.Attribute o m apos) (e :: es) [] pos) X.env = (do
      let ov ← eval o X.env
      standAt apos.atName
      let (f, first) ← holding [ov] (getMethod ov m pl)
      callWith pos f first (backTo pos (starEach (e :: es) X.env)) (backToKw pos (keywordEach [] X.env))) := by rfl) :
    PE X (.Call (.Attribute o m apos) (e :: es) [] pos) (tMeth C m sp dvs E ta t) := by
  intro pins s σ H Q I h
  refine PySem.W.methodCall_KW (pl := pl) (thn (he pins s σ H _ I h) fun u s1 ⟨x, H1, I1, rx, a, dx, fs, ex, ea, l, q⟩ => ?_) ht
  subst ex
  obtain rfl : u = Value.ref a := rx
  refine getmeth_ok I1 ea c hm l ?_
  refine PySem.W.callWith_K (first := [.ref a]) (h₀ := X.base) I.ok.mod.kin hm.kp (thn (ha pos pins s1 σ H1 _ I1 q) fun us s2 ⟨vs, H2, I2, r, q2⟩ => ⟨I2.kIn, ?_⟩) hst hpl
  exact run_fn (us := .ref a :: us) (vs := .ref a :: vs) F hr hb hd hx I2 (.cons rfl r) q2
/-- o.m() -/
theorem pe_meth0 {pl : Sem Bool} (he : PE X o ta) (c : Cls X.K C) (hm : Meth X.K C m f) (F : FnOk X.prog X.w X.K X.mg X.base CX k f fd ps sp) (hr : Room k X.A) (hb : Binds X.K fd ps ds) (hd : Vals dvs ds) (hx : Passes CX X E)
    (ht : eval (.Call (.Attribute o m apos) [] [] pos) X.env = (do
      let ov ← eval o X.env
      standAt apos.atName
      let (f, first) ← holding [ov] (getMethod ov m pl)
      callWith pos f first (backTo pos (starEach [] X.env)) (backToKw pos (keywordEach [] X.env))) := by rfl) :
    PE X (.Call (.Attribute o m apos) [] [] pos) (tMeth C m sp dvs E ta tNil) := by
  intro pins s σ H Q I h
  refine PySem.W.methodCall_KW (pl := pl) (thn (he pins s σ H _ I h) fun u s1 ⟨x, H1, I1, rx, a, dx, fs, ex, ea, l, q⟩ => ?_) ht
  subst ex
  obtain rfl : u = Value.ref a := rx
  refine getmeth_ok I1 ea c hm l ?_
  exact PySem.W.callWith_K0 (first := [.ref a]) I1.kIn hm.kp (run_fn (us := [.ref a]) (vs := [.ref a]) F hr hb hd hx I1 (.cons rfl .nil) q)

/-- what a class must have to be made -/
structure Mk (K : PySem.W.Frag) (C f : Addr) : Prop where
  makes : PySem.W.makesIn K C = true
  init : PySem.W.findIn K (.ref C) "__init__" = some (some (.ref f))
  fn : PySem.W.isFn K (.ref f) = true
  kp : PySem.W.keepIn K (.ref C) = true

theorem run_make {pins : List (Addr × Obj)} {σ : St} {H : Hp} {s : Shared} {Q : VK} {us : List Value} {vs : List V} (M : Mk X.K C f) (F : FnOk X.prog X.w X.K X.mg X.base CX k f fd ps sp) (hr : Room (k + 1) X.A) (hb : Binds X.K fd ps ds) (hd : Vals dvs ds)
    (hx : Passes CX X E) (I : Inv X pins σ H s) (r : Vals vs us)
    (h : ∀ x dx, H x = none → H dx = none → dx ≠ x → sp (.ref x :: (vs ++ dvs)) (upd (upd H dx (.own x)) x (.ins C dx [])) (fun v H2 => v = .non ∧ Q (.ref x) H2) E) :
    wpAny (model X.prog X.w) X.A (call (.ref C) us) (EP X pins σ Q) X.xe s := by
  have hq := h (s.heap.objs.size + 1) s.heap.objs.size (I.hok.fresh (Nat.le_succ _)) (I.hok.fresh (Nat.le_refl _)) (Nat.ne_of_lt (Nat.lt_succ_self _))
  have I2 := Inv.made (C := C) I
  have r2 : Vals (V.ref (s.heap.objs.size + 1) :: (vs ++ dvs)) (Value.ref (s.heap.objs.size + 1) :: (us ++ ds)) := .cons rfl (r.append hd)
  have hl : (Value.ref (s.heap.objs.size + 1) :: us ++ ds).length = ps.length := by
    have e := r2.length
    rw [F.len _ _ _ _ hq] at e
    exact e.symm
  refine wpAny_call (make_map (f := f) I.kIn M.makes M.init (beq_iff_eq.mp M.fn) (codeAny_mono (F.run _ X.stack _ _ ⟨Value.ref (s.heap.objs.size + 1) :: us, []⟩ (Value.ref (s.heap.objs.size + 1) :: (us ++ ds)) _ _ E (hr.make C us [])
    (I2.env0.make C us []) (hb _ (Value.ref (s.heap.objs.size + 1) :: us) I2.kIn hl) r2 hq) fun r s' hq' => ?_))
  cases r with
  | error e => exact hx pins σ _ _ e s' I2 hq'
  | ok fl =>
    cases fl with
    | ret u =>
      obtain ⟨v, H', I3, rv, ev, q3⟩ := I2.after hq'
      subst ev
      exact ⟨rv, ⟨V.ref (s.heap.objs.size + 1), H', I3, rfl, q3⟩⟩
    | next => exact False.elim hq'
    | brk => exact False.elim hq'
    | cont => exact False.elim hq'
theorem pe_make (M : Mk X.K C f) (F : FnOk X.prog X.w X.K X.mg X.base CX k f fd ps sp) (hr : Room (k + 1) X.A) (hg : Gl X x) (hm : X.mg x = some (.ref C)) (hb : Binds X.K fd ps ds) (hd : Vals dvs ds) (hx : Passes CX X E)
    (ha : PA X (e :: es) t) (hdb : (x == ("__debug__" : Str)) = false := by decide) (he : starEach (e :: es) X.env = (false, eval e X.env) :: starEach es X.env := by rfl) (hpl : (backTo pos (starEach es X.env)).any (·.1) = false := by rfl) :
    PE X (.Call (.Name x p) (e :: es) [] pos) (tMake C sp dvs E t) := by
  intro pins s σ H Q I h
  refine wpAny_Call_Name_kw (ld_glob I hg hm ?_ hdb)
  refine PySem.W.callWith_K (h₀ := X.base) I.ok.mod.kin M.kp (thn (ha pos pins s σ H _ I h) fun us s1 ⟨vs, H1, I1, r, q⟩ => ⟨I1.kIn, ?_⟩) he hpl
  exact run_make M F hr hb hd hx I1 r q
theorem pe_make0 (M : Mk X.K C f) (F : FnOk X.prog X.w X.K X.mg X.base CX k f fd ps sp) (hr : Room (k + 1) X.A) (hg : Gl X x) (hm : X.mg x = some (.ref C)) (hb : Binds X.K fd ps ds) (hd : Vals dvs ds) (hx : Passes CX X E)
    (hdb : (x == ("__debug__" : Str)) = false := by decide) : PE X (.Call (.Name x p) [] [] pos) (tMake C sp dvs E tNil) := by
  intro pins s σ H Q I h
  refine wpAny_Call_Name_kw (ld_glob I hg hm ?_ hdb)
  exact PySem.W.callWith_K0 I.kIn M.kp (run_make (us := []) M F hr hb hd hx I .nil h)
end

/-! ### keywords -/
/-- the values of the keywords, from the left -/
def PK (X : Cx) (kws : List Keyword) (t : TA) : Prop :=
  ∀ (pos : Pos) (pins : List (Addr × Obj)) (s : Shared) (σ : St) (H : Hp) (Q : List V → Hp → Prop), Inv X pins σ H s → t σ H Q → wpAny (model X.prog X.w) X.A (evalAll ((backToKw pos (keywordEach kws X.env)).map (·.2))) (AP X pins σ Q) X.xe s
section
variable {X : Cx} {CX : CXT} {k : Nat} {f C : Addr} {fd : FuncData} {ps ks : List Str} {sp : Sp} {E : XK} {x m : Str} {p pos apos kpos : Pos} {e o : Expr} {es : List Expr} {kws : List Keyword} {te ta : TE} {t tk : TA} {nm : Option Str}
theorem pk_nil : PK X [] tNil := fun _ _ _ _ H Q I h => wpAny_evalAll_nil ⟨[], H, I, .nil, h⟩
theorem pk_cons (ha : PE X e te) (hr : PK X kws t) : PK X (⟨nm, e, kpos⟩ :: kws) (tCons te t) := by
  intro pos pins s σ H Q I h
  show wpAny _ _ (evalAll ((do let v ← eval e X.env; standAt pos; pure v) :: (backToKw pos (keywordEach kws X.env)).map (·.2))) _ _ s
  refine wpAny_evalAll_cons (wpAny_bind (thn (ha pins s σ H _ I h) fun u s1 ⟨x, H1, I1, r1, q1⟩ => wpAny_bind (wpAny_standAt (wpAny_pure ?_))))
  exact thn (hr pos pins s1 σ H1 _ I1 q1) fun us s2 ⟨xs, H2, I2, r2, q2⟩ => ⟨x :: xs, H2, I2, .cons r1 r2, q2⟩

/-- how a call with keywords binds: g puts the positional values us and the keywords' values ws (names ks) in the parameters' order, defaults among them -/
structure KBinds (K : PySem.W.Frag) (fd : FuncData) (ps ks : List Str) (g : List Value → List Value → List Value) (gV : List V → List V → List V) : Prop where
  to : ∀ (s : Shared) (us ws : List Value), K.In s.heap → (g us ws).length = ps.length → BindsTo s fd ⟨us, ks.zip ws⟩ (ps.zip (g us ws))
  rel : ∀ {vs : List V} {us : List Value} {zs : List V} {ws : List Value}, Vals vs us → Vals zs ws → Vals (gV vs zs) (g us ws)
def tCallK (sp : Sp) (gV : List V → List V → List V) (E : XK) (t tk : TA) : TE := fun σ H Q => t σ H fun vs H1 => tk σ H1 fun zs H2 => sp (gV vs zs) H2 Q E
variable {g : List Value → List Value → List Value} {gV : List V → List V → List V}
theorem run_fnk {pins : List (Addr × Obj)} {σ : St} {H : Hp} {s : Shared} {Q : VK} {us ws : List Value} {vs zs : List V} (F : FnOk X.prog X.w X.K X.mg X.base CX k f fd ps sp) (hr : Room k X.A) (hb : KBinds X.K fd ps ks g gV) (hx : Passes CX X E)
    (I : Inv X pins σ H s) (r : Vals vs us) (rz : Vals zs ws) (h : sp (gV vs zs) H Q E) : wpAny (model X.prog X.w) X.A (call (.ref f) us (ks.zip ws)) (EP X pins σ Q) X.xe s := by
  have r2 := hb.rel r rz
  have hl : (g us ws).length = ps.length := by rw [← r2.length]; exact F.len _ _ _ _ h
  refine wpAny_call (codeAny_mono (F.run X.A X.stack s H ⟨us, ks.zip ws⟩ (g us ws) (gV vs zs) Q E hr I.env0 (hb.to s us ws I.kIn hl) r2 h) fun r s' hq => ?_)
  cases r with
  | error e => exact hx pins σ H s e s' I hq
  | ok fl =>
    cases fl with
    | ret u => exact I.after hq
    | next => exact False.elim hq
    | brk => exact False.elim hq
    | cont => exact False.elim hq
/-- f(e, .., k = v, ..) -/
theorem pe_callK (F : FnOk X.prog X.w X.K X.mg X.base CX k f fd ps sp) (hr : Room k X.A) (hg : Gl X x) (hm : X.mg x = some (.ref f)) (hk : PySem.W.keepIn X.K (.ref f) = true) (hb : KBinds X.K fd ps ks g gV) (hx : Passes CX X E)
    (ha : PA X (e :: es) t) (hkw : PK X kws tk) (hall : (backToKw pos (keywordEach kws X.env)).all (·.1.isSome) = true := by rfl) (hks : (backToKw pos (keywordEach kws X.env)).filterMap (·.1) = ks := by rfl)
    (hdb : (x == ("__debug__" : Str)) = false := by decide) (he : starEach (e :: es) X.env = (false, eval e X.env) :: starEach es X.env := by rfl)
    (hpl : ((backTo pos (starEach (e :: es) X.env)).any (·.1) || (backToKw pos (keywordEach kws X.env)).any (·.1.isNone)) = false := by rfl) :
    PE X (.Call (.Name x p) (e :: es) kws pos) (tCallK sp gV E t tk) := by
  intro pins s σ H Q I h
  refine wpAny_Call_Name_kw (ld_glob I hg hm ?_ hdb)
  refine PySem.W.callWith_KW (h₀ := X.base) I.ok.mod.kin hk hall (thn (ha pos pins s σ H _ I h) fun us s1 ⟨vs, H1, I1, r, q⟩ => ?_) hpl he
  refine thn (hkw pos pins s1 σ H1 _ I1 q) fun ws s2 ⟨zs, H2, I2, rz, q2⟩ => ⟨I2.kIn, ?_⟩
  rw [hks]
  exact run_fnk F hr hb hx I2 r rz q2
end

/-! ### a def's body keeps its promise -/
/-- names: the parameters first -/
structure FnScope (N P : List Str) (sc : Scope) : Prop where
  kind : sc.kind = .function
  co : sc.isCoroutine = false
  gen : sc.isGenerator = false
  nd : N.Nodup
  pre : N.take P.length = P
  par : ∀ x ∈ P, sc.names.lookup x = some .local ∨ sc.names.lookup x = some .cell
  nofree : ∀ y ∈ sc.names, y.2 ≠ .free

theorem bindL_out {kindOf : Str → Option NameKind} {x : Str} : ∀ {binds : List (Str × Value)} {m : Str → Option Value}, (∀ v, (x, v) ∉ binds) → bindL kindOf binds m x = m x
  | [], _, _ => rfl
  | (n, v) :: r, m, h => by
    unfold bindL
    rw [bindL_out fun w hw => h w (List.mem_cons_of_mem _ hw)]
    split
    · have : x ≠ n := by rintro rfl; exact h v List.mem_cons_self
      simp [this]
    · rfl
theorem bindC_out {kindOf : Str → Option NameKind} {x : Str} : ∀ {binds : List (Str × Value)} {m : Str → Option Value}, (∀ v, (x, v) ∉ binds) → bindC kindOf binds m x = m x
  | [], _, _ => rfl
  | (n, v) :: r, m, h => by
    unfold bindC
    rw [bindC_out fun w hw => h w (List.mem_cons_of_mem _ hw)]
    split
    · rfl
    · have : x ≠ n := by rintro rfl; exact h v List.mem_cons_self
      simp [this]
theorem bindL_get {kindOf : Str → Option NameKind} {x : Str} {v : Value} : ∀ {P : List Str} {vs : List Value} {i : Nat} {m : Str → Option Value}, P.Nodup → P[i]? = some x → vs[i]? = some v → kindOf x = some .local →
    bindL kindOf (P.zip vs) m x = some v
  | [], _, _, _, _, h, _, _ => by simp at h
  | _ :: _, [], _, _, _, _, h, _ => by simp at h
  | p :: P, w :: vs, 0, m, nd, h1, h2, hk => by
    simp at h1 h2; subst h1; subst h2
    show bindL kindOf ((p, w) :: P.zip vs) m p = _
    unfold bindL
    rw [bindL_out fun v hv => (List.nodup_cons.mp nd).1 (List.of_mem_zip hv).1, if_pos hk]
    simp
  | p :: P, w :: vs, i + 1, m, nd, h1, h2, hk => by
    show bindL kindOf ((p, w) :: P.zip vs) m x = _
    unfold bindL
    exact bindL_get (i := i) (List.nodup_cons.mp nd).2 (by simpa using h1) (by simpa using h2) hk
theorem bindC_get {kindOf : Str → Option NameKind} {x : Str} {v : Value} : ∀ {P : List Str} {vs : List Value} {i : Nat} {m : Str → Option Value}, P.Nodup → P[i]? = some x → vs[i]? = some v → kindOf x ≠ some .local →
    bindC kindOf (P.zip vs) m x = some v
  | [], _, _, _, _, h, _, _ => by simp at h
  | _ :: _, [], _, _, _, _, h, _ => by simp at h
  | p :: P, w :: vs, 0, m, nd, h1, h2, hk => by
    simp at h1 h2; subst h1; subst h2
    show bindC kindOf ((p, w) :: P.zip vs) m p = _
    unfold bindC
    rw [bindC_out fun v hv => (List.nodup_cons.mp nd).1 (List.of_mem_zip hv).1, if_neg hk]
    simp
  | p :: P, w :: vs, i + 1, m, nd, h1, h2, hk => by
    show bindC kindOf ((p, w) :: P.zip vs) m x = _
    unfold bindC
    exact bindC_get (i := i) (List.nodup_cons.mp nd).2 (by simpa using h1) (by simpa using h2) hk

/-- the names' values at the entry -/
def start (N : List Str) (vs : List V) : St := vs.map some ++ List.replicate (N.length - vs.length) none

/-- the context of a def's body, at its entry; an exception leaves the frame, then lies as CX says -/
def cxOf (CX : CXT) (P : Program) (w : World) (K : PySem.W.Frag) (mg : Str → Option Value) (base : Heap) (N : List Str) (qual : Str) (scope : Scope) (f : Addr) (cd : Value) (A : Around) (outer : List Env) (s : Shared) (H : Hp) (E : XK) : Cx where
  prog := P
  w := w
  K := K
  mg := mg
  base := base
  A := A.deeper (envOfC qual scope s.heap.objs.size f cd)
  N := N
  s₀ := s
  H₀ := H
  env := envOfC qual scope s.heap.objs.size f cd
  outer := outer
  stack := envOfC qual scope s.heap.objs.size f cd :: outer
  ex := []
  calm := true
  fn := fun _ => true
  pn := []
  xe := fun e s' => wpAny (model P w) (A.deeper (envOfC qual scope s.heap.objs.size f cd)) (leaving (envOfC qual scope s.heap.objs.size f cd) e) (fun _ s'' => CX outer H s E e s'') (fun e' s'' => CX outer H s E e' s'') s'

theorem cell_has {sc : Scope} {n : Nat} {x : Str} (h : sc.names.lookup x = some .cell) : ∃ c, (cellsFrom n sc.names []).lookup x = some c := by
  have q := PySem.W.cellsFrom_some sc.names n [] (.inl h)
  exact Option.isSome_iff_exists.mp q

theorem inv_start {CX : CXT} {P : Program} {w : World} {K : PySem.W.Frag} {mg : Str → Option Value} {base : Heap} {N ps : List Str} {qual : Str} {scope : Scope} {f : Addr} {cd : Value} {A : Around} {outer : List Env} {s s1 : Shared} {H : Hp} {E : XK} {us : List Value} {vs : List V}
    (S : FnScope N ps scope) (hd : A.handled = none) (e0 : Env0 P w K mg base A outer s H) (hl : vs.length = ps.length) (r : Vals vs us)
    (x : InCallC s s.heap.objs.size (bindL (envOfC qual scope s.heap.objs.size f cd).kindOf (ps.zip us) fun _ => none) (cellsFrom (s.heap.objs.size + 1) scope.names []) (bindC (envOfC qual scope s.heap.objs.size f cd).kindOf (ps.zip us) fun _ => none) s1) :
    Inv (cxOf CX P w K mg base N qual scope f cd A outer s H E) [] (start N vs) H s1 := by
  have hpl : ps.length ≤ N.length := by have := congrArg List.length S.pre; rw [List.length_take] at this; omega
  obtain ⟨h1, tk, rfl, hk⟩ := x.done
  have noA : ∀ b : Addr, b ∉ (cxOf CX P w K mg base N qual scope f cd A outer s H E).ex := fun b z => absurd (show b ∈ ([] : List Addr) from z) (by simp)
  refine ⟨⟨e0.mod, S.kind, rfl, rfl, Nat.le_refl _, fun y z c h1 h2 => ?_, fun y hy => ?_, fun y c _ h => ?_, fun _ => hd, Around.frames_deeper e0.frames, .inr ⟨rfl, rfl⟩, fun b z => absurd z (noA b), e0.bs, e0.bsz, fun b _ _ => noA b, fun b z => absurd z (noA b), e0.funs, e0.frf⟩,
    rfl, e0.bare, Un.kept hk, ⟨_, x.toInCall.ns, fun i y v h1 h2 h3 => ?_⟩, fun y c h => ⟨_, x.cell y c h⟩, e0.hok.fresh (Nat.le_refl _), fun y c h => ?_, fun p hp => absurd (show p ∈ ([] : List (Addr × Obj)) from hp) (by simp), e0.hok.kept hk, ?_⟩
  · exact name_of_addr x.apart (PySem.mem_of_lookup h1) (PySem.mem_of_lookup h2)
  · have hy : scope.names.lookup y = some .cell ∨ scope.names.lookup y = some .free := hy
    rcases hy with hy | hy
    · exact cell_has hy
    · exact absurd rfl (S.nofree _ (PySem.mem_of_lookup hy))
  · exact Nat.le_of_lt (x.above y c (PySem.mem_of_lookup h))
  · have hi : i < vs.length := by
      unfold start at h2
      by_cases hi : i < vs.length
      · exact hi
      · rw [List.getElem?_append_right (by simpa using hi)] at h2
        rw [List.getElem?_replicate] at h2
        split at h2 <;> cases h2
    have ha : vs[i]? = some v := by
      unfold start at h2
      rw [List.getElem?_append_left (by simpa using hi), List.getElem?_map] at h2
      cases e : vs[i]? with
      | none => rw [e] at h2; cases h2
      | some a => rw [e] at h2; cases h2; rfl
    obtain ⟨u, hu, rv⟩ := r.get ha
    have hp : ps[i]? = some y := by
      rw [← S.pre, List.getElem?_take_of_lt (by omega)]; exact h1
    have ndP : ps.Nodup := by rw [← S.pre]; exact S.nd.sublist (List.take_sublist _ _)
    refine ⟨u, rv, ?_⟩
    rcases S.par y (List.mem_of_getElem? hp) with k | k
    · exact .inl ⟨k, bindL_get ndP hp hu k⟩
    · obtain ⟨c, e⟩ := cell_has (n := s.heap.objs.size + 1) k
      refine .inr ⟨.inl k, c, e, ?_⟩
      have q := x.cell y c e
      rw [bindC_get ndP hp hu (by show scope.names.lookup y ≠ _; rw [k]; decide)] at q
      exact q
  · exact e0.hok.fresh (Nat.le_of_lt (x.above y c (PySem.mem_of_lookup h)))
  · unfold start
    show _ = N.length
    rw [List.length_append, List.length_map, List.length_replicate]
    omega

/-- THE RULE: a def (or a method) of the text, by its body. The body's reading t is chosen for each entry; it is run at the parameters' values -/
theorem fn_of {CX : CXT} {P : Program} {w : World} {K : PySem.W.Frag} {mg : Str → Option Value} {base : Heap} {k : Nat} {f : Addr} {name qual : Str} {params : Arguments} {body : List Stmt} {scope : Scope} {dV kV doc pm cdv ct oc : Value} {an od : Option Addr}
    {osl : Array (Option Value)} {N ps : List Str} {sp : Sp} (lk : K.lookup f = some ⟨oc, od, .func (PySem.W.fnOf name qual params body scope dV kV doc pm an cdv ct), osl⟩) (hcd : PySem.W.codeIn K cdv qual = true) (S : FnScope N ps scope)
    (len : ∀ vs H Q E, sp vs H Q E → vs.length = ps.length)
    (hbody : ∀ (A : Around) (outer : List Env) (s : Shared) (H : Hp) (vs : List V) (Q : VK) (E : XK), Room k (A.deeper (envOfC qual scope s.heap.objs.size f cdv)) → sp vs H Q E →
      ∃ t, PSs (cxOf CX P w K mg base N qual scope f cdv A outer s H E) body t ∧ t { nx := fun _ H' => Q .non H', rt := Q } (start N vs) H) :
    FnOk P w K mg base CX (k + 1) f (PySem.W.fnOf name qual params body scope dV kV doc pm an cdv ct) ps sp := by
  refine ⟨len, fun A outer s H args us vs Q E hr e0 hb r hsp => ?_⟩
  have hl := len _ _ _ _ hsp
  have KX : K.In s.heap := e0.mod.kin.keeps fun b o e => (e0.bs b o e).1
  have lim : s.heap.NoLimit := e0.mod.nolimit.keeps fun b o e => (e0.bs b o e).1
  have hkind : ∀ y ∈ ps.zip us, scope.names.lookup y.1 = some .local ∨ (scope.names.lookup y.1 = some .cell ∧ ((cellsFrom (s.heap.objs.size + 1) scope.names []).lookup y.1).isSome = true) := fun ⟨n, v⟩ hy => by
    rcases S.par n (List.of_mem_zip hy).1 with q | q
    · exact .inl q
    · exact .inr ⟨q, PySem.W.cellsFrom_some _ _ _ (.inl q)⟩
  refine codeAny_call_function hr.depth (KX _ _ lk) rfl S.co S.gen rfl (PySem.W.codeRec_of KX hcd) (hb _ _ _ _ ?_)
  refine wpAny_newFunctionEnv_cells S.kind hkind fun env he s1 x => ?_
  subst he
  refine ⟨lim.keeps x.toInCall.keep, codeAny_func ?_⟩
  obtain ⟨t, ht, hq⟩ := hbody A outer s H vs Q E (hr.deeper _) hsp
  have I : Inv (cxOf CX P w K mg base N qual scope f cdv A outer s H E) [] (start N vs) H s1 := inv_start S hr.hd e0 hl r x
  refine wpAny_mono (ht [] s1 (start N vs) H _ I hq) (fun fl s' hs => ?_) fun e s' hs => hs
  have fin : ∀ {σ' : St} {H' : Hp} {v : V} {u : Value}, Inv (cxOf CX P w K mg base N qual scope f cdv A outer s H E) [] σ' H' s' → RelV v u → Q v H' → CE outer P w H s Q u s' :=
    fun {σ' H' v u} J rv q => ⟨v, H', J.os, J.bare, J.base, J.hok, rv, q⟩
  cases fl with
  | ret u =>
    obtain ⟨v, σ', H', J, rv, q⟩ := hs
    exact fin J rv q
  | next =>
    obtain ⟨σ', H', J, q⟩ := hs
    exact fin (v := V.non) (u := Value.none) J rfl q
  | brk =>
    obtain ⟨_, _, _, q⟩ := hs
    exact False.elim q
  | cont =>
    obtain ⟨_, _, _, q⟩ := hs
    exact False.elim q
end L2

namespace L2
open PySem PySem.Spec PyProof.Rows
section
variable {X : Cx} {x : Str} {p pos : Pos} {e : Expr} {es : List Expr} {t : TA} {id T : String} {r : List V → Hp → VK → Prop}

def tCB (r : List V → Hp → VK → Prop) (t : TA) : TE := fun σ H Q => t σ H fun vs H1 => r vs H1 Q
/-- f(e, ..), f a built-in function -/
theorem pe_callB (hc : CallR X (.builtin id) r) (hg : Gl X x) (hm : X.mg x = none) (hv : bootBuiltins x = some (.builtin id)) (ha : PA X (e :: es) t) (hn : x ≠ "__name__" := by decide) (hdb : (x == ("__debug__" : Str)) = false := by decide)
    (he : starEach (e :: es) X.env = (false, eval e X.env) :: starEach es X.env := by rfl) (hpl : (backTo pos (starEach es X.env)).any (·.1) = false := by rfl) : PE X (.Call (.Name x p) (e :: es) [] pos) (tCB r t) := by
  intro pins s σ H Q I h
  refine wpAny_Call_Name_kw (ld_blt I hg hm hv ?_ hn hdb)
  exact PyProof.Rows.callWith_builtin1 (thn (ha pos pins s σ H _ I h) fun us s1 ⟨vs, H1, I1, r1, q1⟩ => hc pins s1 σ H1 vs us Q I1 r1 q1) he hpl
/-- T(e, ..), T a built-in type -/
theorem pe_callTy (hc : CallR X (.type T) r) (hg : Gl X x) (hm : X.mg x = none) (hv : bootBuiltins x = some (.type T)) (ha : PA X (e :: es) t) (hn : x ≠ "__name__" := by decide) (hdb : (x == ("__debug__" : Str)) = false := by decide)
    (he : starEach (e :: es) X.env = (false, eval e X.env) :: starEach es X.env := by rfl) (hpl : (backTo pos (starEach es X.env)).any (·.1) = false := by rfl) : PE X (.Call (.Name x p) (e :: es) [] pos) (tCB r t) := by
  intro pins s σ H Q I h
  refine wpAny_Call_Name_kw (ld_blt I hg hm hv ?_ hn hdb)
  exact PyProof.Rows.callWith_type1 (thn (ha pos pins s σ H _ I h) fun us s1 ⟨vs, H1, I1, r1, q1⟩ => hc pins s1 σ H1 vs us Q I1 r1 q1) he hpl
/-- T() -/
theorem pe_callTy0 (hc : CallR X (.type T) r) (hg : Gl X x) (hm : X.mg x = none) (hv : bootBuiltins x = some (.type T)) (hn : x ≠ "__name__" := by decide) (hdb : (x == ("__debug__" : Str)) = false := by decide) :
    PE X (.Call (.Name x p) [] [] pos) (tCB r tNil) := by
  intro pins s σ H Q I h
  refine wpAny_Call_Name_kw (ld_blt I hg hm hv ?_ hn hdb)
  exact PyProof.Rows.callWith_type0 (hc pins s σ H [] [] Q I .nil h)
end
end L2

namespace HT
open PySem PyProof.Rows

/-- t < u of tuples of ints -/
def lexLt : List Int → List Int → Bool
  | [], [] => false
  | [], _ :: _ => true
  | _ :: _, [] => false
  | x :: xs, y :: ys => if x = y then lexLt xs ys else decide (x < y)
theorem lexLt_cons (x y : Int) (xs ys : List Int) : lexLt (x :: xs) (y :: ys) = if x = y then lexLt xs ys else decide (x < y) := rfl
theorem lexLt_nil_nil : lexLt [] [] = false := rfl
theorem lexLt_nil_cons (y : Int) (ys : List Int) : lexLt [] (y :: ys) = true := rfl
theorem lexLt_cons_nil (x : Int) (xs : List Int) : lexLt (x :: xs) [] = false := rfl

theorem eqAt_int (A : Around) (s : Shared) (a : Int) (t : Tok) (c : Int) (u : Tok) : ∃ e, SeqAt.EqAt A s (.int a t) (.int c u) e ∧ (e = true ↔ a = c) :=
  ⟨(a == c), SeqAt.EqAt.int_int a t c u, by simp⟩
theorem rcLt_int (A : Around) (s : Shared) (a : Int) (t : Tok) (c : Int) (u : Tok) (prog : Program) (w : World) (E : Value → Shared → Prop) (Q : Value → Shared → Prop) (h : Q (.bool (decide (a < c))) s) :
    wpAny (model prog w) A (richCompare .Lt (.int a t) (.int c u)) Q E s :=
  (PyProof.Rows.lt_int h : wpAny (model prog w) A (compareOp .Lt (.int a t) (.int c u)) Q E s)

section
open PySem.SeqAt
open PySem.AutoSeq1 (wpAny_loadPart')
open PySem.MeetsSeq PySem.MeetsSeq2 PySem.MeetsSeq3

theorem tuple_lt_ints (l b : Addr) (items items2 : Array Value) (n n2 : Nat) (dd dd2 : Option Addr) (sl sl2 : Array (Option Value)) (ns ms : List Int) (hi : IntsAre items.toList ns) (hj : IntsAre items2.toList ms) :
    Meets (Builtin.«tuple.__lt__» ⟨[.ref l, .ref b], []⟩)
      (fun _ R s => s.heap.get? l = some { cls := .type "tuple", dict := dd, data := .seq items n, slots := sl } ∧ s.heap.get? b = some { cls := .type "tuple", dict := dd2, data := .seq items2 n2, slots := sl2 } ∧
        R (.ok (.ret (.bool (lexLt ns ms)))) s) :=
  .of_wp fun prog w A R s h => by
    obtain ⟨hp, g, d, tk, os⟩ := s; obtain ⟨hl, hb, h⟩ := h
    have f2 := AutoSeq1.sub_tuple_tuple
    have z1 : items.size = ns.length := by rw [← hi.length]; simp
    have z2 : items2.size = ms.length := by rw [← hj.length]; simp
    wp_walk using wpAny_loadPart' hl, wpAny_loadPart' hb, wpAny_forIn_list _ (fun rest b s' => b.1 = none ∧ s' = ⟨hp, g, d, tk, os⟩ ∧ ∃ (vs ws : List Value) (ns' ms' : List Int), rest = vs.zip ws ∧
      IntsAre vs ns' ∧ IntsAre ws ms' ∧ ns'.length + items2.size = ms'.length + items.size ∧ R (.ok (.ret (.bool (lexLt ns' ms')))) ⟨hp, g, d, tk, os⟩) _
    case turn =>
      rintro ⟨y, x⟩ rest b s' ⟨hb', rfl, vs, ws, ns', ms', hz, hvi, hwi, hlen, hR⟩
      cases hvi with
      | nil => rw [List.zip_nil_left] at hz; cases hz
      | cons a t hvi' =>
        cases hwi with
        | nil => rw [List.zip_nil_right] at hz; cases hz
        | cons c u hwi' =>
          rw [List.zip_cons_cons] at hz
          injection hz with hyx hrest
          injection hyx with hy hx
          subst hy hx
          rw [lexLt_cons] at hR
          simp only [List.length_cons] at hlen
          obtain ⟨e, he, hiff⟩ := eqAt_int A.in1 ⟨hp, g, d, tk, os⟩ a t c u
          refine wpAny_bind (he prog w _ _ ?_)
          cases e with
          | true =>
            rw [if_pos (hiff.mp rfl)] at hR
            wp_walk
            exact ⟨rfl, rfl, _, _, _, _, hrest, hvi', hwi', by omega, hR⟩
          | false =>
            rw [if_neg (fun q => absurd (hiff.mpr q) Bool.false_ne_true)] at hR
            have hri := rcLt_int A.in1 ⟨hp, g, d, tk, os⟩ a t c u prog w
            wp_walk using hri
            exact ⟨_, rfl, by simpa using hR⟩
    case fin =>
      rintro ⟨b1, b2⟩ s' ⟨hb', rfl, vs, ws, ns', ms', hz, hvi, hwi, hlen, hR⟩
      simp only at hb'
      subst hb'
      have hv : lexLt ns' ms' = decide (items.size < items2.size) := by
        cases hvi with
        | nil =>
          cases hwi with
          | nil =>
            simp only [List.length_nil] at hlen
            rw [lexLt_nil_nil]
            exact (decide_eq_false (by omega)).symm
          | cons c u hw =>
            simp only [List.length_nil, List.length_cons] at hlen
            rw [lexLt_nil_cons]
            exact (decide_eq_true (by omega)).symm
        | cons a t hv =>
          cases hwi with
          | nil =>
            simp only [List.length_nil, List.length_cons] at hlen
            rw [lexLt_cons_nil]
            exact (decide_eq_false (by omega)).symm
          | cons c u hw =>
            rw [List.zip_cons_cons] at hz
            cases hz
      rw [hv] at hR
      wp_walk
      exact ⟨_, rfl, by simpa [Builtin.Tuple.tupleCompareSizes] using hR⟩
    case h =>
      exact ⟨rfl, rfl, items.toList, items2.toList, ns, ms, rfl, hi, hj, by omega, h⟩
end

section
variable {prog : Program} {w : World} {A : Around} {E : Value → Shared → Prop} {s : Shared}

theorem lt_tupInts {l b : Addr} {items items2 : Array Value} {ns ms : List Int} {Q : Value → Shared → Prop} (hl : IsTup s.heap l items) (hb : IsTup s.heap b items2) (hi : IntsAre items.toList ns) (hj : IntsAre items2.toList ms)
    (hu : A.units < cLine) (h : Q (.bool (lexLt ns ms)) s) : wpAny (model prog w) A (compareOp .Lt (.ref l) (.ref b)) Q E s := by
  obtain ⟨⟨cls, dd, data, sl⟩, ho, hc, n, hd⟩ := id hl
  obtain ⟨⟨cls2, dd2, data2, sl2⟩, ho2, hc2, n2, hd2⟩ := id hb
  simp only at hc hd hc2 hd2
  subst hc hd hc2 hd2
  exact richCompare_meets_room (op := .Lt) ⟨_, ho, rfl⟩ ⟨_, ho2, rfl⟩ PySem.F.slot_tuple_lt PySem.F.entry_tuple_lt (PySem.F.args_tuple_lt_2 _ _) (tuple_lt_ints l b items items2 n n2 dd dd2 sl sl2 ns ms hi hj)
    ⟨ho, ho2, show Value.bool (lexLt ns ms) ≠ Value.notImplemented ∧ Q (.bool (lexLt ns ms)) s from ⟨(fun x => nomatch x), h⟩⟩ hu

/-- t + u, t not empty -/
theorem cat_tup {t b : Addr} {vs ws : List Value} {Q : Value → Shared → Prop} (ht : IsTup s.heap t vs.toArray) (hb : IsTup s.heap b ws.toArray) (hv : vs ≠ [])
    (h1 : ws = [] → Q (.ref t) s) (h2 : ws ≠ [] → Q (.ref s.heap.objs.size) { s with heap := s.heap.push { cls := .type "tuple", data := .seq (vs ++ ws).toArray } })
    (hsz : vs.length + ws.length ≤ sizeLine) : wpAny (model prog w) A (binaryOp .Add (.ref t) (.ref b)) Q E s := by
  obtain ⟨⟨cls, dd, data, sl⟩, ho, hc, n, hd⟩ := id ht
  obtain ⟨⟨cls2, dd2, data2, sl2⟩, ho2, hc2, n2, hd2⟩ := id hb
  simp only at hc hd hc2 hd2
  subst hc hd hc2 hd2
  have e : vs.toArray ++ ws.toArray = (vs ++ ws).toArray := by simp
  by_cases hw : ws = []
  · exact concat_meets ⟨_, ho, rfl⟩ ⟨_, ho2, rfl⟩ noFill_tuple_add seq_tuple_add PySem.F.slot_tuple_add PySem.F.entry_tuple_add (PySem.F.args_tuple_add_2 _ _)
      (tuple_addW1 t b vs.toArray ws.toArray n n2 dd dd2 sl sl2 (by simpa using hv) (by simp [hw])) ⟨ho, ho2, h1 hw⟩
  · refine concat_meets ⟨_, ho, rfl⟩ ⟨_, ho2, rfl⟩ noFill_tuple_add seq_tuple_add PySem.F.slot_tuple_add PySem.F.entry_tuple_add (PySem.F.args_tuple_add_2 _ _)
      (tuple_addW2 t b vs.toArray ws.toArray n n2 dd dd2 sl sl2 (by simpa using hv) (by simpa using hw) (by rw [List.size_toArray, List.size_toArray]; exact hsz)) ⟨ho, ho2, ?_⟩
    rw [e]
    exact h2 hw

/-! ### t[a:b], not the whole -/
/-- a slice's bound as a place among n (d where it is left out) -/
def sIx (n d : Nat) : Option Int → Nat
  | none => d
  | some v => if v < 0 then (v + (n : Int)).toNat else min v.toNat n
theorem sIx_none (n d : Nat) : sIx n d none = d := rfl
theorem sIx_nat (n d k : Nat) : sIx n d (some (k : Int)) = min k n := by
  show (if (k : Int) < 0 then ((k : Int) + (n : Int)).toNat else min (k : Int).toNat n) = min k n
  rw [if_neg (by omega), Int.toNat_natCast]
theorem sIx_le (n d : Nat) (hd : d ≤ n) (o : Option Int) : sIx n d o ≤ n := by
  cases o with
  | none => exact hd
  | some v =>
    show (if v < 0 then (v + (n : Int)).toNat else min v.toNat n) ≤ n
    by_cases hv : v < 0
    · rw [if_pos hv]; omega
    · rw [if_neg hv]; exact Nat.min_le_right _ _
theorem clip_eq (v : Int) (n d : Nat) : (if v < 0 then max (v + (n : Int)) 0 else min v (n : Int)) = ((sIx n d (some v) : Nat) : Int) := by
  show (if v < 0 then max (v + (n : Int)) 0 else min v (n : Int)) = (((if v < 0 then (v + (n : Int)).toNat else min v.toNat n) : Nat) : Int)
  by_cases hv : v < 0
  · simp only [if_pos hv]; omega
  · simp only [if_neg hv]; omega
theorem adjust_gen (lo hi : Option Int) (n : Nat) : Builtin.Slice.sliceAdjust lo hi 1 (n : Int) = (((sIx n 0 lo : Nat) : Int), ((sIx n n hi : Nat) : Int)) := by
  have h1 : ¬ ((1 : Int) < 0) := by omega
  unfold Builtin.Slice.sliceAdjust
  simp only [h1, if_false]
  refine Prod.ext ?_ ?_
  · cases lo with
    | none => rfl
    | some v => exact clip_eq v n 0
  · cases hi with
    | none => rfl
    | some v => exact clip_eq v n n
theorem places_gen (i j : Nat) : Builtin.Slice.slicePlaces (i : Int) (j : Int) 1 = j - i := by
  unfold Builtin.Slice.slicePlaces
  have h1 : (1 : Int) > 0 := by omega
  simp only [h1, if_true, Int.ediv_one]
  split <;> omega
theorem slicePart_ {v : Value} {o : Option Int} {Q : Option Int → Shared → Prop} (p : IsPart v o) (h : Q o s) : wpAny (model prog w) A (Builtin.Slice.slicePartIndex v) Q E s := by
  cases p with
  | none => exact slicePart_none h
  | int i t => exact slicePart_int h
theorem sliceApplied_gen {sl : Addr} {vl vu : Value} {lo hi : Option Int} {n : Nat} {Q : Int × Int × Nat → Shared → Prop} (hs : s.heap.IsSliceOf sl vl vu .none) (pl : IsPart vl lo) (pu : IsPart vu hi)
    (h : Q (((sIx n 0 lo : Nat) : Int), 1, sIx n n hi - sIx n 0 lo) s) : wpAny (model prog w) A (Builtin.Slice.sliceApplied (.ref sl) (pure (n : Int))) Q E s := by
  obtain ⟨os, hos, hcs, hds⟩ := id hs
  unfold Builtin.Slice.sliceApplied Builtin.Slice.sliceFields
  refine wpAny_bind (wpAny_bind (wpAny_field hos hds (x := vl) rfl (wpAny_bind (wpAny_field hos hds (x := vu) rfl (wpAny_bind (wpAny_field hos hds (x := .none) rfl (wpAny_pure ?_)))))))
  refine wpAny_bind (slicePart_none ?_)
  show wpAny _ _ (if ((1 : Int) == 0) = true then _ else _) _ _ s
  rw [if_neg (by decide)]
  refine wpAny_bind (slicePart_ pl (wpAny_bind (slicePart_ pu (wpAny_bind (wpAny_pure ?_)))))
  show wpAny _ _ (match Builtin.Slice.sliceAdjust lo hi 1 (n : Int) with | (lo, hi) => pure (lo, (1 : Int), Builtin.Slice.slicePlaces lo hi 1)) _ _ s
  rw [adjust_gen lo hi n]
  show wpAny _ _ (pure (((sIx n 0 lo : Nat) : Int), (1 : Int), Builtin.Slice.slicePlaces ((sIx n 0 lo : Nat) : Int) ((sIx n n hi : Nat) : Int) 1)) _ _ s
  rw [places_gen]
  exact wpAny_pure h
theorem pick_gen (xs : Array Value) (i k : Nat) : ((List.range k).filterMap fun (m : Nat) => xs[((i : Int) + (m : Int) * 1).toNat]?).toArray = ((xs.toList.drop i).take k).toArray := by
  have e : (fun (m : Nat) => xs[((i : Int) + (m : Int) * 1).toNat]?) = fun m => xs[i + m]? := by
    funext m
    have : ((i : Int) + (m : Int) * 1).toNat = i + m := by omega
    rw [this]
  rw [e]
  have := pick_run xs i k
  rw [List.filterMap_map] at this
  have e2 : ((fun x => xs[x]?) ∘ fun x => i + x) = fun m => xs[i + m]? := rfl
  rw [e2] at this
  rw [this]

theorem getItem_tuple_cut {t sl : Addr} {items : Array Value} {vl vu : Value} {lo hi : Option Int} {Q : Value → Shared → Prop} (ht : IsTup s.heap t items) (hs : s.heap.IsSliceOf sl vl vu .none) (pl : IsPart vl lo) (pu : IsPart vu hi)
    (hw : ¬ (sIx items.size 0 lo = 0 ∧ sIx items.size items.size hi = items.size))
    (h : Q (.ref s.heap.objs.size) { s with heap := s.heap.push { cls := .type "tuple", data := .seq ((items.toList.drop (sIx items.size 0 lo)).take (sIx items.size items.size hi - sIx items.size 0 lo)).toArray } })
    (hsz : items.size ≤ sizeLine) : wpAny (model prog w) A (getItem (.ref t) (.ref sl)) Q E s := by
  have htake : sizeOk (.seq ((items.toList.drop (sIx items.size 0 lo)).take (sIx items.size items.size hi - sIx items.size 0 lo)).toArray) := by
    show ((items.toList.drop (sIx items.size 0 lo)).take (sIx items.size items.size hi - sIx items.size 0 lo)).toArray.size ≤ sizeLine
    rw [List.size_toArray, List.length_take, List.length_drop, Array.length_toList]
    omega
  have hj : sIx items.size items.size hi ≤ items.size := sIx_le _ _ (Nat.le_refl _) hi
  obtain ⟨os, hos, hcs, hds⟩ := id hs
  have hTs : s.TypeIs (.ref sl) "slice" := ⟨os, hos, hcs⟩
  unfold getItem
  try with_reducible refine wpAny_holding ?_
  first | refine wpAny_bind (wpAny_pure ?_) | skip
  refine wpAny_bind (wpAny_sequenceKey ht.typeIs (by decide) ?_)
  refine wpAny_bind (wpAny_callSpecial?_slot (name := Str.ofString "__getitem__") ht.typeIs PyProof.Rows.slot_tuple_getitem
    (wpAny_call_entry PyProof.Rows.slot_tuple_getitem ht.typeIs entry_tuple_getitem ?_ (args_tuple_getitem _ _)))
  show wpAny _ _ (Builtin.Tuple.tupleItemsOf (.ref t) >>= _) _ _ s
  refine wpAny_bind (tupleItemsOf_ ht ?_)
  refine wpAny_bind (wpAny_typeOf hTs ?_)
  rw [if_pos (by decide)]
  refine wpAny_bind (sliceApplied_gen hs pl pu ?_)
  have hno : ¬ ((((sIx items.size 0 lo : Nat) : Int) == 0 && (1 : Int) == 1 && (sIx items.size items.size hi - sIx items.size 0 lo) == items.size) = true) := by
    intro q
    rw [Bool.and_eq_true, Bool.and_eq_true] at q
    have q1 : ((sIx items.size 0 lo : Nat) : Int) = 0 := eq_of_beq q.1.1
    have q2 : sIx items.size items.size hi - sIx items.size 0 lo = items.size := eq_of_beq q.2
    exact hw ⟨by omega, by omega⟩
  show wpAny _ _ (if (((sIx items.size 0 lo : Nat) : Int) == 0 && (1 : Int) == 1 && (sIx items.size items.size hi - sIx items.size 0 lo) == items.size) = true then _ else _) _ _ s
  rw [if_neg hno, pick_gen]
  first
    | exact wpAny_bind (m := Builtin.Tuple.tupleExact _) (wpAny_newObj_type (wpAny_pure ⟨_, rfl, wpAny_pure h⟩) htake)
    | exact wpAny_bind (m := Builtin.Tuple.tupleExact _) (wpAny_newObj_type (wpAny_bind (wpAny_pure (wpAny_pure ⟨_, rfl, wpAny_pure h⟩))) htake)
    | exact wpAny_bind (wpAny_bind (m := Builtin.Tuple.tupleExact _) (wpAny_newObj_type (wpAny_pure (wpAny_pure ⟨_, rfl, wpAny_pure h⟩)) htake))
    | exact wpAny_bind (wpAny_bind (m := Builtin.Tuple.tupleExact _) (wpAny_newObj_type (wpAny_pure ⟨_, rfl, wpAny_pure h⟩) htake))
end
end HT

namespace L2
open PySem PySem.Spec PyProof.Rows

/-! ### the parts of a slice -/
abbrev TO := St → Hp → (Option Int → Hp → Prop) → Prop
/-- a slice's part (left out, or an int) -/
def PO (X : Cx) (e : Option Expr) (t : TO) : Prop :=
  ∀ (pins : List (Addr × Obj)) (s : Shared) (σ : St) (H : Hp) (Q : Option Int → Hp → Prop), Inv X pins σ H s → t σ H Q →
    wpAny (model X.prog X.w) X.A (evalPart e X.env) (fun u s' => ∃ o H', Inv X pins σ H' s' ∧ IsPart u o ∧ Q o H') X.xe s
def tNoPart : TO := fun _ H Q => Q none H
def tPart (t : TE) : TO := fun σ H Q => t σ H fun x H1 => ∃ i, x = .int i ∧ Q (some i) H1

theorem intsAre_of {ns : List Int} : ∀ {us : List Value}, Vals (ns.map V.int) us → IntsAre us ns := by
  induction ns with
  | nil => intro us r; rw [List.map_nil] at r; cases r; exact .nil
  | cons n ns ih =>
    intro us r
    rw [List.map_cons] at r
    cases r with
    | cons r1 r2 =>
      obtain ⟨t, e⟩ := r1
      subst e
      exact .cons n t (ih r2)

section
variable {X : Cx} {e : Expr} {te : TE} {lo hi : Option Expr} {tl th : TO} {pos p2 : Pos}

theorem po_none : PO X none tNoPart := by
  intro pins s σ H Q I h
  rw [evalPart_none]
  exact wpAny_pure ⟨none, H, I, .none, h⟩
theorem po_some (h : PE X e te) : PO X (some e) (tPart te) := by
  intro pins s σ H Q I hw
  rw [evalPart_some]
  refine thn (h pins s σ H _ I hw) fun u s1 ⟨x, H1, I1, r1, q1⟩ => ?_
  obtain ⟨i, rfl, q⟩ := q1
  obtain ⟨t, rfl⟩ := r1
  exact ⟨some i, H1, I1, .int i t, q⟩

/-- what a slice of a value is, by values: the slice object stands at sl -/
def SlR (X : Cx) (r : V → Option Int → Option Int → Hp → VK → Prop) : Prop :=
  ∀ (pins : List (Addr × Obj)) (s : Shared) (σ : St) (H : Hp) (x : V) (v vl vu : Value) (lo hi : Option Int) (sl : Addr) (Q : VK), Inv X pins σ H s → RelV x v → s.heap.IsSliceOf sl vl vu .none → IsPart vl lo → IsPart vu hi → r x lo hi H Q →
    ∃ T id, typeLookup (.type T) "__getitem__" = pure (some (.builtin id)) ∧ s.TypeIs v T ∧ wpAny (model X.prog X.w) X.A (getItem v (.ref sl)) (EP X pins σ Q) X.xe s
theorem SlR.or {r r' : V → Option Int → Option Int → Hp → VK → Prop} (h : SlR X r) (h' : SlR X r') : SlR X (fun x lo hi H Q => r x lo hi H Q ∨ r' x lo hi H Q) := by
  intro pins s σ H x v vl vu lo hi sl Q I rx hs pl pu q
  rcases q with q | q
  · exact h pins s σ H x v vl vu lo hi sl Q I rx hs pl pu q
  · exact h' pins s σ H x v vl vu lo hi sl Q I rx hs pl pu q
def tSl (r : V → Option Int → Option Int → Hp → VK → Prop) (te : TE) (tl th : TO) : TE := fun σ H Q => te σ H fun x H1 => tl σ H1 fun l H2 => th σ H2 fun u H3 => r x l u H3 Q
/-- a[lo:hi], any a -/
theorem pe_slice {r : V → Option Int → Option Int → Hp → VK → Prop} (hr : SlR X r) (he : PE X e te) (hl : PO X lo tl) (hu : PO X hi th) : PE X (.Subscript e (.Slice lo hi none p2) pos) (tSl r te tl th) := by
  intro pins s σ H Q I h
  refine Subscript_ (thn (he pins s σ H _ I h) fun v s1 ⟨x, H1, I1, r1, q1⟩ => ?_)
  refine wpAny_Slice (thn (hl pins s1 σ H1 _ I1 q1) fun vl s2 ⟨l, H2, I2, pl, q2⟩ => thn (hu pins s2 σ H2 _ I2 q2) fun vu s3 ⟨u, H3, I3, pu, q3⟩ => ?_)
  rw [evalPart_none]
  refine wpAny_pure ?_
  have I4 : Inv X pins σ H3 { s3 with heap := s3.heap.push { cls := .type "slice", data := .fields #[vl, vu, .none] } } := I3.kept (t' := s3.toks) fun b ob q => Heap.get?_push_of_some _ q
  obtain ⟨T, id, hT, ht, hg⟩ := hr pins { s3 with heap := s3.heap.push { cls := .type "slice", data := .fields #[vl, vu, .none] } } σ H3 x v vl vu l u s3.heap.objs.size Q I4 r1 (Heap.IsSliceOf.new ..) pl pu q3
  show wpAny (model X.prog X.w) X.A (subscriptTail e (.Slice lo hi none p2) v (.ref s3.heap.objs.size)) (EP X pins σ Q) X.xe { s3 with heap := s3.heap.push { cls := .type "slice", data := .fields #[vl, vu, .none] } }
  exact tail_any (ops := [.ref s3.heap.objs.size, v]) ht hT hg (by with_unfolding_all rfl)

/-- the items of xs[lo:hi] -/
def cutV (xs : List V) (lo hi : Option Int) : List V := (xs.drop (HT.sIx xs.length 0 lo)).take (HT.sIx xs.length xs.length hi - HT.sIx xs.length 0 lo)
theorem cutV_length (xs : List V) (lo hi : Option Int) : (cutV xs lo hi).length ≤ xs.length := by
  unfold cutV
  rw [List.length_take, List.length_drop]
  omega
/-- t[lo:hi], not the whole of it (the whole would be t itself) -/
def rSlT (K : PySem.W.Frag) : V → Option Int → Option Int → Hp → VK → Prop := fun x lo hi H Q => ∃ a xs, x = .ref a ∧ SqT K H a xs ∧
  ¬ (HT.sIx xs.length 0 lo = 0 ∧ HT.sIx xs.length xs.length hi = xs.length) ∧ ∀ p, H p = none → Q (.ref p) (upd H p (.tup (cutV xs lo hi)))
theorem sl_tup : SlR X (rSlT X.K) := by
  intro pins s σ H x v vl vu lo hi sl Q I rx hs pl pu h
  obtain ⟨a, xs, rfl, hx, hw, q⟩ := h
  cases rx
  obtain ⟨its, r, ht, hz⟩ := I.tuple hx
  have hlen : its.toArray.size = xs.length := by rw [List.size_toArray]; exact r.length.symm
  refine ⟨"tuple", _, PyProof.Rows.slot_tuple_getitem.lookup, ht.typeIs, ?_⟩
  refine HT.getItem_tuple_cut ht hs pl pu (by rw [hlen]; exact hw) ?_ (by rw [hlen]; exact hz)
  rw [hlen]
  refine ⟨.ref s.heap.objs.size, _, I.laid (t' := s.toks) (o := .tup (cutV xs lo hi)) (fun b ob q => Heap.get?_push_of_some _ q) (Nat.le_refl _) ?_, rfl, q _ (I.hok.fresh (Nat.le_refl _))⟩
  exact ⟨Nat.le_trans (cutV_length xs lo hi) hz, _, (r.drop (HT.sIx xs.length 0 lo)).take (HT.sIx xs.length xs.length hi - HT.sIx xs.length 0 lo), IsTup.new _ _⟩

/-! ### t < u, t + u -/
def rLtT (K : PySem.W.Frag) : R2 := fun x y H Q => ∃ a b ns ms, x = .ref a ∧ y = .ref b ∧ SqT K H a (ns.map V.int) ∧ SqT K H b (ms.map V.int) ∧ Q (.bl (HT.lexLt ns ms)) H
theorem op_ltT (hu : X.A.units < cLine) : OpR X (compareOp .Lt) (rLtT X.K) := by
  intro pins s σ H x y v u Q I rx ry h
  obtain ⟨a, b, ns, ms, rfl, rfl, ha, hb, q⟩ := h
  cases rx
  cases ry
  obtain ⟨its, r1, p1, _⟩ := I.tuple ha
  obtain ⟨its2, r2, p2, _⟩ := I.tuple hb
  have i1 : IntsAre its.toArray.toList ns := intsAre_of r1
  have i2 : IntsAre its2.toArray.toList ms := intsAre_of r2
  exact HT.lt_tupInts p1 p2 i1 i2 hu ⟨.bl (HT.lexLt ns ms), H, I, rfl, q⟩
/-- t + u, t not empty: u empty gives t itself -/
def rCatT (K : PySem.W.Frag) : R2 := fun x y H Q => ∃ a b xs ys, x = .ref a ∧ y = .ref b ∧ SqT K H a xs ∧ SqT K H b ys ∧ xs ≠ [] ∧ xs.length + ys.length ≤ sizeLine ∧
  (ys = [] → Q (.ref a) H) ∧ (ys ≠ [] → ∀ p, H p = none → Q (.ref p) (upd H p (.tup (xs ++ ys))))
theorem Vals.nil_iff {xs : List V} {us : List Value} (r : Vals xs us) : us = [] ↔ xs = [] := by
  cases r with
  | nil => simp
  | cons _ _ => simp
theorem op_catT : OpR X (binaryOp .Add) (rCatT X.K) := by
  intro pins s σ H x y v u Q I rx ry h
  obtain ⟨a, b, xs, ys, rfl, rfl, ha, hb, hx, hz, q1, q2⟩ := h
  cases rx
  cases ry
  obtain ⟨its, r1, p1, _⟩ := I.tuple ha
  obtain ⟨its2, r2, p2, _⟩ := I.tuple hb
  refine HT.cat_tup p1 p2 (fun z => hx (r1.nil_iff.mp z)) (fun z => ⟨.ref a, H, I, rfl, q1 (r2.nil_iff.mp z)⟩) (fun z => ?_) (by rw [← r1.length, ← r2.length]; exact hz)
  refine ⟨.ref s.heap.objs.size, _, I.laid (t' := s.toks) (o := .tup (xs ++ ys)) (fun b ob q => Heap.get?_push_of_some _ q) (Nat.le_refl _) ?_, rfl, q2 (fun w => z (r2.nil_iff.mpr w)) _ (I.hok.fresh (Nat.le_refl _))⟩
  exact ⟨by rw [List.length_append]; exact hz, _, r1.append r2, IsTup.new _ _⟩
/-- tuple(t) -/
theorem call_tupleT : CallR X (.type "tuple") (fun xs H Q => ∃ a ys, xs = [.ref a] ∧ SqT X.K H a ys ∧ Q (.ref a) H) := by
  intro pins s σ H xs us Q I r h
  obtain ⟨a, ys, rfl, ha, q⟩ := h
  obtain ⟨u, rfl, ru⟩ := vals1 r
  cases ru
  obtain ⟨its, _, p1, _⟩ := I.tuple ha
  exact call_tuple_same (items := its.toArray) p1 ⟨.ref a, H, I, rfl, q⟩
end
end L2

namespace L2
open PySem PySem.Spec PyProof.Rows

/-! ### places -/
/-- the place that an index of any sign means -/
def ixN (n : Nat) (i : Int) : Option Nat := if 0 ≤ i then (if i < n then some i.toNat else none) else if -(n : Int) ≤ i then some (i + n).toNat else none
def atI {α : Type} (xs : List α) (i : Int) : Option α := (ixN xs.length i).bind fun j => xs[j]?
theorem ixN_seq {n : Nat} {i : Int} {j : Nat} (h : ixN n i = some j) : seqIndex? i n = some j ∧ j < n ∧ -(n : Int) ≤ i ∧ i < n := by
  unfold ixN at h
  by_cases h0 : 0 ≤ i
  · rw [if_pos h0] at h
    by_cases h1 : i < n
    · rw [if_pos h1] at h
      have e : i.toNat = j := Option.some.inj h
      exact ⟨by rw [seqIndex_of h0 h1, e], by omega, by omega, h1⟩
    · rw [if_neg h1] at h; cases h
  · rw [if_neg h0] at h
    by_cases h1 : -(n : Int) ≤ i
    · rw [if_pos h1] at h
      have e : (i + n).toNat = j := Option.some.inj h
      exact ⟨by rw [seqIndex_neg (by omega) h1, e], by omega, h1, by omega⟩
    · rw [if_neg h1] at h; cases h
theorem atI_get {α : Type} {xs : List α} {i : Int} {v : α} (h : atI xs i = some v) : ∃ j, seqIndex? i xs.length = some j ∧ xs[j]? = some v ∧ j < xs.length ∧ -(xs.length : Int) ≤ i ∧ i < xs.length := by
  unfold atI at h
  cases e : ixN xs.length i with
  | none => rw [e] at h; cases h
  | some j =>
    rw [e] at h
    obtain ⟨h1, h2, h3, h4⟩ := ixN_seq e
    exact ⟨j, h1, h, h2, h3, h4⟩
theorem atI_nat {α : Type} {xs : List α} {j : Nat} {v : α} (h : xs[j]? = some v) : atI xs (j : Int) = some v := by
  have hj : j < xs.length := (List.getElem?_eq_some_iff.mp h).1
  have e : ixN xs.length (j : Int) = some j := by
    unfold ixN
    rw [if_pos (by omega), if_pos (by omega)]; simp
  unfold atI; rw [e]; exact h
theorem atI_last {α : Type} (xs : List α) (v : α) : atI (xs ++ [v]) (-1) = some v := by
  have hl : (xs ++ [v]).length = xs.length + 1 := by simp
  have e : ixN (xs ++ [v]).length (-1) = some xs.length := by
    unfold ixN
    rw [hl, if_neg (by decide), if_pos (by omega)]
    congr 1
    omega
  unfold atI
  rw [e]
  show (xs ++ [v])[xs.length]? = some v
  simp

/-! ### what may be subscripted -/
/-- what stands as an index of a plain subscript -/
def PlainIx (b : Expr) : Prop := ∀ o i, subscripted b false o i = operate [o, i] (getItem o i)
/-- a subscript by values -/
def IxR (X : Cx) (r : R2) : Prop :=
  ∀ (value slice : Expr) (pins : List (Addr × Obj)) (s : Shared) (σ : St) (H : Hp) (x y : V) (v u : Value) (Q : VK), Inv X pins σ H s → RelV x v → RelV y u → r x y H Q →
    subscripted slice false v u = operate [v, u] (getItem v u) → wpAny (model X.prog X.w) X.A (subscriptTail value slice v u) (EP X pins σ Q) X.xe s
/-- a call of a builtin's method by values: the receiver, the arguments -/
def MtR (X : Cx) (id : String) (r : V → List V → Hp → VK → Prop) : Prop :=
  ∀ (pins : List (Addr × Obj)) (s : Shared) (σ : St) (H : Hp) (x : V) (xs : List V) (v : Value) (us : List Value) (Q : VK), Inv X pins σ H s → RelV x v → Vals xs us → r x xs H Q →
    wpAny (model X.prog X.w) X.A (call (.builtin id) (v :: us)) (EP X pins σ Q) X.xe s
section
variable {X : Cx} {a b : Expr} {ta tb : TE} {pos : Pos}
theorem IxR.or {r r' : R2} (h : IxR X r) (h' : IxR X r') : IxR X (fun x y H Q => r x y H Q ∨ r' x y H Q) := by
  intro value slice pins s σ H x y v u Q I rx ry q hs
  rcases q with q | q
  · exact h value slice pins s σ H x y v u Q I rx ry q hs
  · exact h' value slice pins s σ H x y v u Q I rx ry q hs
theorem MtR.or {id : String} {r r' : V → List V → Hp → VK → Prop} (h : MtR X id r) (h' : MtR X id r') : MtR X id (fun x xs H Q => r x xs H Q ∨ r' x xs H Q) := by
  intro pins s σ H x xs v us Q I rx rs q
  rcases q with q | q
  · exact h pins s σ H x xs v us Q I rx rs q
  · exact h' pins s σ H x xs v us Q I rx rs q
/-- a[b] -/
theorem pe_ix {r : R2} (hr : IxR X r) (ha : PE X a ta) (hb : PE X b tb) (hs : PlainIx b) : PE X (.Subscript a b pos) (tOp r ta tb) := by
  intro pins s σ H Q I h
  exact Subscript_ (binT ha hb I h fun v u s2 x y H2 I2 rx ry q => hr a b pins s2 σ H2 x y v u Q I2 rx ry q (hs _ _))

def rIxL (K : PySem.W.Frag) : R2 := fun x y H Q => ∃ p xs i v, x = .ref p ∧ y = .int i ∧ SqL K H p xs ∧ atI xs i = some v ∧ Q v H
def rIxT (K : PySem.W.Frag) : R2 := fun x y H Q => ∃ p xs i v, x = .ref p ∧ y = .int i ∧ SqT K H p xs ∧ atI xs i = some v ∧ Q v H
def rIxS : R2 := fun x y H Q => ∃ z i c, x = .str z ∧ y = .int i ∧ z.length ≤ sizeLine ∧ atI z.cps.toList i = some c ∧ Q (.str ⟨#[c]⟩) H
theorem ix_list : IxR X (rIxL X.K) := by
  intro value slice pins s σ H x y v u Q I rx ry h hs
  obtain ⟨p, xs, i, z, rfl, rfl, hq, he, q⟩ := h
  cases rx
  obtain ⟨t, rfl⟩ := ry
  obtain ⟨its, r, pl, hz⟩ := I.list hq
  obtain ⟨j, h1, h2, h3, h4, h5⟩ := atI_get he
  obtain ⟨w, ew, rw'⟩ := r.get h2
  have hl := r.length
  have hn := line63
  have fin : EP X pins σ Q w s := ⟨z, H, I, rw', q⟩
  by_cases h0 : 0 ≤ i
  · have hj : i.toNat = j := by
      rw [seqIndex_of h0 h5] at h1
      exact Option.some.inj h1
    exact item_listR pl.isList h0 (by omega) (by rw [hj]; simpa using ew) fin hs
  · have hj : (i + (its.toArray.size : Int)).toNat = j := by
      rw [seqIndex_neg (by omega) h4] at h1
      rw [List.size_toArray, ← hl]
      exact Option.some.inj h1
    exact subscriptTail_builtinR (x := w) pl.isList.typeIs slot_list_getitem.lookup
      (wpAny_getItem_list_neg (Q := fun r s' => r = w ∧ EP X pins σ Q r s') pl.isList (by omega) (by rw [List.size_toArray] <;> omega) (by omega) (by rw [hj]; simpa using ew) ⟨rfl, fin⟩) hs
theorem ix_tup : IxR X (rIxT X.K) := by
  intro value slice pins s σ H x y v u Q I rx ry h hs
  obtain ⟨p, xs, i, z, rfl, rfl, hq, he, q⟩ := h
  cases rx
  obtain ⟨t, rfl⟩ := ry
  obtain ⟨its, r, pl, hz⟩ := I.tuple hq
  obtain ⟨j, h1, h2, h3, h4, h5⟩ := atI_get he
  obtain ⟨w, ew, rw'⟩ := r.get h2
  have hl := r.length
  have hn := line63
  have fin : EP X pins σ Q w s := ⟨z, H, I, rw', q⟩
  exact subscriptTail_builtinR (x := w) pl.typeIs slot_tuple_getitem.lookup
    (getItem_tuple (j := j) (Q := fun r s' => r = w ∧ EP X pins σ Q r s') pl (by omega) (by omega) (by rw [List.size_toArray, ← hl]; exact h1) (by simpa using ew) ⟨rfl, fin⟩) hs
theorem ix_str : IxR X rIxS := by
  intro value slice pins s σ H x y v u Q I rx ry h hs
  obtain ⟨z, i, c, rfl, rfl, hz, he, q⟩ := h
  obtain ⟨t, rfl⟩ := rx
  obtain ⟨t', rfl⟩ := ry
  obtain ⟨j, h1, h2, h3, h4, h5⟩ := atI_get he
  have hl : z.cps.toList.length = z.length := by simp [Str.length]
  rw [hl] at h1 h4 h5
  have hn := line63
  exact tail_any (typeIs_str s z t) slot_str_getitem.lookup (getItem_str (c := c) (by
    have e1 : decide (i < -(2 ^ 63 : Int)) = false := decide_eq_false (by omega)
    have e2 : decide (i ≥ 2 ^ 63) = false := decide_eq_false (by omega)
    rw [e1, e2, Bool.or_false]) (by rw [h1]; simpa using h2) ⟨.str ⟨#[c]⟩, H, I.tok _, ⟨_, rfl⟩, q⟩) hs
/-- list, tuple or str -/
def rIx (K : PySem.W.Frag) : R2 := fun x y H Q => rIxL K x y H Q ∨ rIxT K x y H Q ∨ rIxS x y H Q
theorem ix_seq : IxR X (rIx X.K) := ix_list.or (ix_tup.or ix_str)

/-! ### xs[i] = v, any sign -/
/-- the list's object behind a store -/
theorem mapSeq_set (its : List Value) (n j : Nat) (u : Value) : Obj.mapSeq (·.setIfInBounds j u) { cls := .type "list", data := .seq its.toArray n } = { cls := .type "list", data := .seq (its.set j u).toArray n } := by
  simp [Obj.mapSeq]
theorem Inv.lst {pins : List (Addr × Obj)} {σ : St} {H : Hp} {s : Shared} {p : Addr} {xs : List V} (I : Inv X pins σ H s) (h : H p = some (.lst xs)) :
    ∃ (its : List Value) (n : Nat), Vals xs its ∧ s.heap.get? p = some { cls := .type "list", data := .seq its.toArray n } ∧ xs.length ≤ sizeLine := by
  obtain ⟨z, its, n, r, e⟩ := I.hok p _ h
  exact ⟨its, n, r, e, z⟩
/-- the list at p is written by an update of its object -/
theorem Inv.lstUpd {pins : List (Addr × Obj)} {σ : St} {H : Hp} {s : Shared} {p : Addr} {xs ys : List V} {its its' : List Value} {n n' : Nat} {f : Obj → Obj} (I : Inv X pins σ H s) (h : H p = some (.lst xs))
    (ho : s.heap.get? p = some { cls := .type "list", data := .seq its.toArray n }) (hf : f { cls := .type "list", data := .seq its.toArray n } = { cls := .type "list", data := .seq its'.toArray n' }) (r : Vals ys its') (hz : ys.length ≤ sizeLine) (t : Nat) :
    Inv X pins σ (upd H p (.lst ys)) { s with heap := s.heap.update p f, toks := t } := by
  have e : (s.heap.update p f).get? p = some { cls := .type "list", data := .seq its'.toArray n' } := by
    rw [Heap.get?_update_self f ho (by rw [hf] <;> rfl), hf]
  refine I.write (x := p) (e := p) (by rw [h]; trivial) (.inl rfl) (fun b u hb q => (Heap.get?_update_other _ _ (Ne.symm hb)).trans q) ⟨_, e⟩ ?_
  exact ⟨hz, its', n', r, e⟩
def rSetL : V → V → V → Hp → (Hp → Prop) → Prop := fun o i v H Q => ∃ p xs k j, o = .ref p ∧ i = .int k ∧ H p = some (.lst xs) ∧ ixN xs.length k = some j ∧ Q (upd H p (.lst (xs.set j v)))
theorem set_list : PSet X rSetL := by
  intro pins s σ H o i v ov iv u Q I ro ri rv h
  obtain ⟨p, xs, k, j, rfl, rfl, hp, hj, q⟩ := h
  cases ro
  obtain ⟨t, rfl⟩ := ri
  obtain ⟨its, n, r, ho, hz⟩ := I.lst hp
  obtain ⟨h1, h2, h3, h4⟩ := ixN_seq hj
  have hl := r.length
  have hn := line63
  have I' : Inv X pins σ (upd H p (.lst (xs.set j v))) { s with heap := s.heap.update p (Obj.mapSeq (·.setIfInBounds j u)) } :=
    I.lstUpd hp ho (mapSeq_set its n j u) (r.set rv j) (by rw [List.length_set]; exact hz) s.toks
  by_cases h0 : 0 ≤ k
  · have hk : k.toNat = j := by
      rw [seqIndex_of h0 h4] at h1
      exact Option.some.inj h1
    exact PySem.W.ki_setAt ho h0 (by omega) (by rw [List.size_toArray, ← hl]; exact h4) (by rw [hk]; exact ⟨_, I', q⟩)
  · have hk : (k + (its.toArray.size : Int)).toNat = j := by
      rw [seqIndex_neg (by omega) h3] at h1
      rw [List.size_toArray, ← hl]
      exact Option.some.inj h1
    exact PySem.W.ki_setBack ho (by omega) (by rw [List.size_toArray, ← hl]; exact h3) (by omega) (by rw [hk]; exact ⟨_, I', q⟩)

/-! ### slices -/
theorem slice_bounds (lo hi : Option Int) (n : Nat) : (sliceBounds lo hi none n).1 = ((HT.sIx n 0 lo : Nat) : Int) ∧ (sliceBounds lo hi none n).2.1 = ((HT.sIx n n hi : Nat) : Int) ∧ (sliceBounds lo hi none n).2.2 = 1 := by
  refine ⟨?_, ?_, rfl⟩
  · cases lo with
    | none => simp [sliceBounds, HT.sIx]
    | some i =>
      simp only [sliceBounds, HT.sIx, Option.getD_none, show (1 : Int) > 0 by decide, if_true]
      by_cases h : i < 0
      · simp only [h, if_true] <;> omega
      · simp only [h, if_false] <;> omega
  · cases hi with
    | none => simp [sliceBounds, HT.sIx]
    | some i =>
      simp only [sliceBounds, HT.sIx, Option.getD_none, show (1 : Int) > 0 by decide, if_true]
      by_cases h : i < 0
      · simp only [h, if_true] <;> omega
      · simp only [h, if_false] <;> omega
theorem slicePick_cut (its : List Value) (lo hi : Option Int) : slicePick its.toArray lo hi none = ((its.drop (HT.sIx its.length 0 lo)).take (HT.sIx its.length its.length hi - HT.sIx its.length 0 lo)).toArray := by
  obtain ⟨h1, h2, h3⟩ := slice_bounds lo hi its.toArray.size
  unfold slicePick
  rw [h1, h2, h3]
  simp only [sliceRange_one, pick_run, List.size_toArray] <;> rfl
/-- xs[lo:hi] of a list: a new list -/
def rSlL (K : PySem.W.Frag) : V → Option Int → Option Int → Hp → VK → Prop := fun x lo hi H Q => ∃ a xs, x = .ref a ∧ SqL K H a xs ∧ ∀ p, H p = none → Q (.ref p) (upd H p (.lst (cutV xs lo hi)))
theorem sl_list : SlR X (rSlL X.K) := by
  intro pins s σ H x v vl vu lo hi sl Q I rx hs pl pu h
  obtain ⟨a, xs, rfl, hx, q⟩ := h
  cases rx
  obtain ⟨its, r, ht, hz⟩ := I.list hx
  have hlen := r.length
  refine ⟨"list", _, slot_list_getitem.lookup, ht.isList.typeIs, ?_⟩
  refine wpAny_getItem_list_slice ht.isList hs pl pu .none (by simp) ?_ (by rw [List.size_toArray] <;> omega)
  rw [slicePick_cut, ← hlen]
  refine ⟨.ref s.heap.objs.size, _, I.laid (t' := s.toks) (o := .lst (cutV xs lo hi)) (fun b ob q => Heap.get?_push_of_some _ q) (Nat.le_refl _) ?_, rfl, q _ (I.hok.fresh (Nat.le_refl _))⟩
  exact ⟨Nat.le_trans (cutV_length xs lo hi) hz, _, 0, (r.drop (HT.sIx xs.length 0 lo)).take (HT.sIx xs.length xs.length hi - HT.sIx xs.length 0 lo), Heap.get?_push_size _ rfl⟩

/-! ### in, not in: flat items -/
def flatV : V → Bool
  | .non => true
  | .bl _ => true
  | .int _ => true
  | .str _ => true
  | _ => false
/-- == of flat values -/
def eqV : V → V → Bool
  | .non, .non => true
  | .bl a, .bl b => a == b
  | .bl a, .int b => (if a then 1 else 0) == b
  | .int a, .bl b => a == (if b then 1 else 0)
  | .int a, .int b => a == b
  | .str a, .str b => a == b
  | _, _ => false
theorem eqAt_V {A : Around} {s : Shared} {y x : V} {u v : Value} (ry : RelV y u) (rx : RelV x v) (fy : flatV y = true) (fx : flatV x = true) : SeqAt.EqAt A s u v (eqV y x) := by
  cases y with
  | non =>
    cases ry
    cases x with
    | non => cases rx; exact SeqAt.EqAt.same _
    | bl b => cases rx; exact SeqAt.EqAt.none_bool b
    | int b => obtain ⟨t, rfl⟩ := rx; exact SeqAt.EqAt.none_int b t
    | str b => obtain ⟨t, rfl⟩ := rx; exact SeqAt.EqAt.none_str b t
    | _ => exact absurd (show false = true from fx) Bool.false_ne_true
  | bl a =>
    cases ry
    cases x with
    | non => cases rx; exact SeqAt.EqAt.bool_none a
    | bl b => cases rx; exact SeqAt.EqAt.bool_bool a b
    | int b => obtain ⟨t, rfl⟩ := rx; exact SeqAt.EqAt.bool_int a b t
    | str b => obtain ⟨t, rfl⟩ := rx; exact SeqAt.EqAt.bool_str a b t
    | _ => exact absurd (show false = true from fx) Bool.false_ne_true
  | int a =>
    obtain ⟨t', rfl⟩ := ry
    cases x with
    | non => cases rx; exact SeqAt.EqAt.int_none a t'
    | bl b => cases rx; exact SeqAt.EqAt.int_bool a t' b
    | int b => obtain ⟨t, rfl⟩ := rx; exact SeqAt.EqAt.int_int a t' b t
    | str b => obtain ⟨t, rfl⟩ := rx; exact SeqAt.EqAt.int_str a t' b t
    | _ => exact absurd (show false = true from fx) Bool.false_ne_true
  | str a =>
    obtain ⟨t', rfl⟩ := ry
    cases x with
    | non => cases rx; exact SeqAt.EqAt.str_none a t'
    | bl b => cases rx; exact SeqAt.EqAt.str_bool a t' b
    | int b => obtain ⟨t, rfl⟩ := rx; exact SeqAt.EqAt.str_int a t' b t
    | str b => obtain ⟨t, rfl⟩ := rx; exact SeqAt.EqAt.str_str a t' b t
    | _ => exact absurd (show false = true from fx) Bool.false_ne_true
  | _ => exact absurd (show false = true from fy) Bool.false_ne_true
/-- the items' answers, read off the values (a value's own answer does not lean on its token) -/
def eqU (x : V) (u : Value) : Bool := match u with
  | .none => eqV .non x
  | .bool b => eqV (.bl b) x
  | .int i _ => eqV (.int i) x
  | .str z _ => eqV (.str z) x
  | _ => false
theorem eqU_of {x y : V} {u : Value} (r : RelV y u) (f : flatV y = true) : eqU x u = eqV y x := by
  cases y with
  | non => cases r; rfl
  | bl b => cases r; rfl
  | int i => obtain ⟨t, rfl⟩ := r; rfl
  | str z => obtain ⟨t, rfl⟩ := r; rfl
  | _ => exact absurd (show false = true from f) Bool.false_ne_true
theorem any_eqU {x : V} : ∀ {xs : List V} {us : List Value}, Vals xs us → xs.all flatV = true → us.any (eqU x) = xs.any fun y => eqV y x
  | _, _, .nil, _ => rfl
  | y :: xs, u :: us, .cons r t, f => by
    rw [List.all_cons, Bool.and_eq_true] at f
    rw [List.any_cons, List.any_cons, eqU_of r f.1, any_eqU t f.2]
theorem mem_eqAt {A : Around} {s : Shared} {x : V} {v : Value} (rx : RelV x v) (fx : flatV x = true) : ∀ {xs : List V} {us : List Value}, Vals xs us → xs.all flatV = true → ∀ u ∈ us, SeqAt.EqAt A s u v (eqU x u)
  | _, _, .nil, _ => fun u hu => by cases hu
  | y :: xs, u :: us, .cons r t, f => fun u' hu => by
    rw [List.all_cons, Bool.and_eq_true] at f
    rcases List.mem_cons.mp hu with rfl | hu
    · rw [eqU_of r f.1]; exact eqAt_V r rx f.1 fx
    · exact mem_eqAt rx fx t f.2 u' hu
def inV (x : V) (xs : List V) : Bool := xs.any fun y => eqV y x
/-- x in a list or tuple of flat items -/
def rIn (K : PySem.W.Frag) (neg : Bool) : R2 := fun x y H Q => ∃ p xs, y = .ref p ∧ (SqL K H p xs ∨ SqT K H p xs) ∧ flatV x = true ∧ xs.all flatV = true ∧ Q (.bl (if neg then !inV x xs else inV x xs)) H
theorem op_in_seq : OpR X (compareOp .In) (rIn X.K false) := by
  intro pins s σ H x y v u Q I rx ry h
  obtain ⟨p, xs, rfl, hq, fx, fs, q⟩ := h
  cases ry
  rcases hq with hq | hq
  · obtain ⟨its, r, pl, hz⟩ := I.list hq
    refine SeqAt.in_listAt (eqU x) pl.isList (fun w hw => mem_eqAt rx fx r fs w (by simpa using hw)) ⟨.bl _, H, I, rfl, ?_⟩
    rw [show its.toArray.any (eqU x) = its.any (eqU x) by simp, any_eqU r fs]
    exact q
  · obtain ⟨its, r, pl, hz⟩ := I.tuple hq
    refine SeqAt.in_tupleAt (eqU x) pl (fun w hw => mem_eqAt rx fx r fs w (by simpa using hw)) ⟨.bl _, H, I, rfl, ?_⟩
    rw [show its.toArray.any (eqU x) = its.any (eqU x) by simp, any_eqU r fs]
    exact q
theorem op_notIn_seq : OpR X (compareOp .NotIn) (rIn X.K true) := by
  intro pins s σ H x y v u Q I rx ry h
  obtain ⟨p, xs, rfl, hq, fx, fs, q⟩ := h
  cases ry
  rcases hq with hq | hq
  · obtain ⟨its, r, pl, hz⟩ := I.list hq
    refine SeqAt.notIn_listAt (eqU x) pl.isList (fun w hw => mem_eqAt rx fx r fs w (by simpa using hw)) ⟨.bl _, H, I, rfl, ?_⟩
    rw [show its.toArray.any (eqU x) = its.any (eqU x) by simp, any_eqU r fs]
    exact q
  · obtain ⟨its, r, pl, hz⟩ := I.tuple hq
    refine SeqAt.notIn_tupleAt (eqU x) pl (fun w hw => mem_eqAt rx fx r fs w (by simpa using hw)) ⟨.bl _, H, I, rfl, ?_⟩
    rw [show its.toArray.any (eqU x) = its.any (eqU x) by simp, any_eqU r fs]
    exact q
theorem op_notIn_str : OpR X (compareOp .NotIn) (fun x y H Q => ∃ i j, x = .str i ∧ y = .str j ∧ Q (.bl (!(!(Builtin.Str.occurrences j i 0 j.length 1).isEmpty))) H) := by
  intro pins s σ H x y v u Q I rx ry h
  obtain ⟨i, j, rfl, rfl, q⟩ := h
  obtain ⟨t, rfl⟩ := rx
  obtain ⟨t', rfl⟩ := ry
  exact notIn_str ⟨.bl _, H, I, rfl, q⟩

/-! ### len, list(x), tuple(x) of any list or tuple that is read -/
theorem call_len_seq : CallR X (.builtin "len") (fun xs H Q => ∃ p ys, xs = [.ref p] ∧ (SqL X.K H p ys ∨ SqT X.K H p ys) ∧ Q (.int ys.length) H) := by
  intro pins s σ H xs us Q I r h
  obtain ⟨p, ys, rfl, hq, q⟩ := h
  obtain ⟨u, rfl, rx⟩ := vals1 r
  cases rx
  have hn := line63
  rcases hq with hq | hq
  · obtain ⟨its, r', pl, hz⟩ := I.list hq
    have hlen := r'.length
    exact Calls.call_len_list pl.isList (by simp only [List.size_toArray] <;> omega) ⟨.int ys.length, H, I.tok _, ⟨s.toks + 1, by rw [List.size_toArray, hlen]⟩, q⟩
  · obtain ⟨its, r', pl, hz⟩ := I.tuple hq
    have hlen := r'.length
    exact len_tuple pl (by simp only [List.size_toArray] <;> omega) ⟨.int ys.length, H, I.tok _, ⟨s.toks + 1, by rw [List.size_toArray, hlen]⟩, q⟩
theorem call_len_str : CallR X (.builtin "len") (fun xs H Q => ∃ z, xs = [.str z] ∧ z.length ≤ sizeLine ∧ Q (.int z.length) H) := by
  intro pins s σ H xs us Q I r h
  obtain ⟨z, rfl, hz, q⟩ := h
  obtain ⟨u, rfl, t, rfl⟩ := vals1 r
  have hn := line63
  exact len_str (by omega) ⟨.int z.length, H, I.tok _, ⟨_, rfl⟩, q⟩
theorem CallR.or {f : Value} {r r' : List V → Hp → VK → Prop} (h : CallR X f r) (h' : CallR X f r') : CallR X f (fun xs H Q => r xs H Q ∨ r' xs H Q) := by
  intro pins s σ H xs us Q I rs q
  rcases q with q | q
  · exact h pins s σ H xs us Q I rs q
  · exact h' pins s σ H xs us Q I rs q
theorem call_list_of : CallR X (.type "list") (fun xs H Q => ∃ p ys, xs = [.ref p] ∧ (SqL X.K H p ys ∨ SqT X.K H p ys) ∧ ∀ l, H l = none → Q (.ref l) (upd H l (.lst ys))) := by
  intro pins s σ H xs us Q I r h
  obtain ⟨p, ys, rfl, hq, q⟩ := h
  obtain ⟨u, rfl, rx⟩ := vals1 r
  cases rx
  have fin : ∀ (its : List Value), Vals ys its → ys.length ≤ sizeLine → ∀ (h' : Heap) (c' : Nat), (∀ b o', s.heap.get? b = some o' → h'.get? b = some o') →
      h'.get? s.heap.objs.size = some { cls := .type "list", dict := none, data := .seq its.toArray c', slots := #[] } → EP X pins σ Q (.ref s.heap.objs.size) { s with heap := h' } := fun its r' hz h' c' kp e =>
    ⟨.ref s.heap.objs.size, _, I.laid (t' := s.toks) kp (Nat.le_refl _) (show ObjOk X.prog X.w _ h' _ (.lst ys) from ⟨hz, its, c', r', e⟩), rfl, q _ (I.hok.fresh (Nat.le_refl _))⟩
  rcases hq with hq | hq
  · obtain ⟨its, r', pl, hz⟩ := I.list hq
    have hlen := r'.length
    obtain ⟨o, ho, hc, n, hd⟩ := pl.isList
    exact call_list_seq p (.inl rfl) ho hc hd (fun h' c' kp e => fin its r' hz h' c' kp e) (by simp only [List.size_toArray] <;> omega)
  · obtain ⟨its, r', pl, hz⟩ := I.tuple hq
    have hlen := r'.length
    obtain ⟨o, ho, hc, n, hd⟩ := pl
    exact call_list_seq p (.inr rfl) ho hc hd (fun h' c' kp e => fin its r' hz h' c' kp e) (by simp only [List.size_toArray] <;> omega)
theorem call_tuple_of : CallR X (.type "tuple") (fun xs H Q => ∃ p ys, xs = [.ref p] ∧ ((SqL X.K H p ys ∧ ∀ l, H l = none → Q (.ref l) (upd H l (.tup ys))) ∨ (SqT X.K H p ys ∧ Q (.ref p) H))) := by
  intro pins s σ H xs us Q I r h
  obtain ⟨p, ys, rfl, h⟩ := h
  obtain ⟨u, rfl, rx⟩ := vals1 r
  cases rx
  rcases h with ⟨hq, q⟩ | ⟨hq, q⟩
  · obtain ⟨its, r', pl, hz⟩ := I.list hq
    have hlen := r'.length
    refine call_tuple_list pl.isList (fun h' kp => ?_) (by simp only [List.size_toArray] <;> omega)
    have I1 : Inv X pins σ H { s with heap := h' } := I.kept (t' := s.toks) kp
    have I2 : Inv X pins σ (upd H h'.objs.size (.tup ys)) { s with heap := h'.push { cls := .type "tuple", data := .seq its.toArray } } :=
      I1.laid (t' := s.toks) (fun b o e => Heap.get?_push_of_some _ e) (Nat.le_refl _) (show ObjOk X.prog X.w _ _ _ (.tup ys) from ⟨hz, its, r', IsTup.new _ _⟩)
    exact ⟨.ref h'.objs.size, _, I2, rfl, q _ (I1.hok.fresh (Nat.le_refl _))⟩
  · obtain ⟨its, r', pl, hz⟩ := I.tuple hq
    exact call_tuple_same pl ⟨.ref p, H, I, rfl, q⟩

/-! ### the call of a builtin's method: o.m(..) -/
/-- the value is of that builtin type -/
def tyV (K : PySem.W.Frag) (T : String) (x : V) (H : Hp) : Prop := match x with
  | .str _ => T = "str"
  | .int _ => T = "int"
  | .ref p => (T = "list" ∧ ∃ xs, SqL K H p xs) ∨ (T = "tuple" ∧ ∃ o, K.lookup p = some o ∧ o.cls = .type "tuple" ∧ o.dict = none) ∨
      (T = "dict" ∧ ((∃ kvs, H p = some (.dK kvs)) ∨ ∃ kvs, H p = some (.dT kvs))) ∨ (T = "set" ∧ ∃ S n, H p = some (.set S n))
  | _ => False
theorem tyV_is {pins : List (Addr × Obj)} {σ : St} {H : Hp} {s : Shared} {T : String} {x : V} {v : Value} (I : Inv X pins σ H s) (r : RelV x v) (ty : tyV X.K T x H) :
    s.TypeIs v T ∧ ∀ a, v = .ref a → ∃ ob, s.heap.get? a = some ob ∧ ob.dict = none := by
  cases x with
  | str z =>
    obtain ⟨t, rfl⟩ := r
    cases (show T = "str" from ty)
    exact ⟨typeIs_str s z t, fun _ e => nomatch e⟩
  | int i =>
    obtain ⟨t, rfl⟩ := r
    cases (show T = "int" from ty)
    exact ⟨typeIs_int s i t, fun _ e => nomatch e⟩
  | ref p =>
    cases r
    rcases ty with ⟨rfl, xs, hq⟩ | ⟨rfl, o, hk, hc, hd⟩ | ⟨rfl, hk⟩ | ⟨rfl, S, n, hk⟩
    · obtain ⟨its, _, pl, _⟩ := I.list hq
      refine ⟨pl.isList.typeIs, fun a e => ?_⟩
      cases e
      obtain ⟨o, n, e, c, hd, _⟩ := pl
      exact ⟨o, e, hd⟩
    · refine ⟨⟨o, I.kIn p o hk, hc⟩, fun a e => ?_⟩
      cases e
      exact ⟨o, I.kIn _ o hk, hd⟩
    · have z : ∃ o, s.heap.get? p = some o ∧ o.ExactDict := by
        rcases hk with ⟨kvs, hk⟩ | ⟨kvs, hk⟩
        · obtain ⟨_, _, _, _, o, _, _, e, ex, _⟩ := I.hok p _ hk
          exact ⟨o, e, ex⟩
        · obtain ⟨_, _, _, _, o, _, _, e, ex, _⟩ := I.hok p _ hk
          exact ⟨o, e, ex⟩
      obtain ⟨o, e, ex⟩ := z
      refine ⟨⟨o, e, ex.1⟩, fun a e2 => ?_⟩
      cases e2
      exact ⟨o, e, ex.2.1⟩
    · obtain ⟨o, _, _, _, e, ex, _⟩ := I.hok p _ hk
      refine ⟨⟨o, e, ex.1⟩, fun a e2 => ?_⟩
      cases e2
      exact ⟨o, e, ex.2.1⟩
  | _ => exact False.elim ty
def tBM0 (K : PySem.W.Frag) (T : String) (r : V → List V → Hp → VK → Prop) (to : TE) : TE := fun σ H Q => to σ H fun x H1 => tyV K T x H1 ∧ r x [] H1 Q
def tBM (K : PySem.W.Frag) (T : String) (r : V → List V → Hp → VK → Prop) (to : TE) (t : TA) : TE := fun σ H Q => to σ H fun x H1 => tyV K T x H1 ∧ t σ H1 fun xs H2 => r x xs H2 Q
variable {o e : Expr} {es : List Expr} {to : TE} {t : TA} {name : Str} {apos cpos : Pos} {T id : String} {r : V → List V → Hp → VK → Prop}
theorem pe_bm0 (pa : PlainAttrs T) (slot : Slot T name id) (hty : typeOf (.builtin id) = pure (.type "method_descriptor")) (hm : MtR X id r) (ho : PE X o to)
    (hbase : attributeBase o name X.env (eval o X.env) = eval o X.env := by rfl) (hline : (apos.endLine == cpos.line) = true := by rfl) : PE X (.Call (.Attribute o name apos) [] [] cpos) (tBM0 X.K T r to) := by
  intro pins s σ H Q I h
  refine wpAny_Call_method0_late hbase hline (thn (ho pins s σ H _ I h) fun v s1 ⟨x, H1, I1, r1, ty, q1⟩ => ?_)
  obtain ⟨h1, h2⟩ := tyV_is I1 r1 ty
  exact ⟨T, id, pa, slot, hty, h1, h2, Calls.callWith_builtin rfl (PySem.evalArgs_none (hm pins s1 σ H1 x [] v [] Q I1 r1 .nil q1))⟩
theorem pe_bm (pa : PlainAttrs T) (slot : Slot T name id) (hty : typeOf (.builtin id) = pure (.type "method_descriptor")) (hm : MtR X id r) (ho : PE X o to) (ha : PA X (e :: es) t)
    (hbase : attributeBase o name X.env (eval o X.env) = eval o X.env := by rfl)
    (hfew : ((backTo cpos (starEach (e :: es) X.env)).all (fun x => !x.1) && (backToKw cpos (keywordEach [] X.env)).all (fun x => x.1.isSome)
      && decide ((e :: es).length + ([] : List Keyword).length + (if ([] : List Keyword).isEmpty then 0 else 1) < 30)) = true := by rfl)
    (hline : (apos.endLine == cpos.line) = true := by rfl) (hs : starEach (e :: es) X.env = (false, eval e X.env) :: starEach es X.env := by rfl) (hplain : (backTo cpos (starEach es X.env)).any (·.1) = false := by rfl) :
    PE X (.Call (.Attribute o name apos) (e :: es) [] cpos) (tBM X.K T r to t) := by
  intro pins s σ H Q I h
  refine wpAny_Call_method_late hbase hfew hline rfl (thn (ho pins s σ H _ I h) fun v s1 ⟨x, H1, I1, r1, ty, q1⟩ => ?_)
  obtain ⟨h1, h2⟩ := tyV_is I1 r1 ty
  refine ⟨T, id, pa, slot, hty, h1, h2, ?_⟩
  have hA := ha cpos pins s1 σ H1 _ I1 q1
  rw [hs] at hA ⊢
  refine Calls.callWith_builtin (by show (false || (backTo cpos (starEach es X.env)).any (·.1)) = false; rw [hplain] <;> rfl) (Calls.evalArgs_plain ?_)
  exact thn hA fun us s2 ⟨vs, H2, I2, r2, q2⟩ => hm pins s2 σ H2 x vs v us Q I2 r1 r2 q2
/- xs.append(e), list.index on a module's tuple .. are MtR facts of 06m -/
end
end L2

namespace L2
open PySem PySem.Spec PyProof.Rows

def MtM (X : Cx) (id : String) (r : V → List V → Hp → VK → Prop) : Prop :=
  ∀ (pins : List (Addr × Obj)) (s : Shared) (σ : St) (H : Hp) (x : V) (xs : List V) (v : Value) (us : List Value) (Q : VK), Inv X pins σ H s → RelV x v → Vals xs us → r x xs H Q →
    wpAny (model X.prog X.w) X.A (call (.builtin id) (v :: us)) (EP X pins σ Q) X.xe s

/-! ### lists of values -/
theorem Vals.one : ∀ {x : V} {us : List Value}, Vals [x] us → ∃ u, us = [u] ∧ RelV x u
  | _, _, .cons r .nil => ⟨_, rfl, r⟩
theorem Vals.two : ∀ {x y : V} {us : List Value}, Vals [x, y] us → ∃ u v, us = [u, v] ∧ RelV x u ∧ RelV y v
  | _, _, _, .cons r (.cons q .nil) => ⟨_, _, rfl, r, q⟩
theorem Vals.zero : ∀ {us : List Value}, Vals [] us → us = []
  | _, .nil => rfl
theorem Vals.dropLast {xs : List V} {us : List Value} (h : Vals xs us) : Vals xs.dropLast us.dropLast := by
  induction h with
  | nil => exact .nil
  | cons r t ih =>
    cases t with
    | nil => exact .nil
    | cons q t' => exact .cons r ih
theorem Vals.eraseIdx : ∀ {xs : List V} {us : List Value} (i : Nat), Vals xs us → Vals (xs.eraseIdx i) (us.eraseIdx i)
  | _, _, _, .nil => .nil
  | _, _, 0, .cons _ t => t
  | _, _, i + 1, .cons r t => .cons r (Vals.eraseIdx i t)
theorem Vals.reverse {xs : List V} {us : List Value} (h : Vals xs us) : Vals xs.reverse us.reverse := by
  induction h with
  | nil => exact .nil
  | cons r t ih => rw [List.reverse_cons, List.reverse_cons]; exact Vals.append ih (.cons r .nil)
theorem Vals.rep {xs : List V} {us : List Value} (h : Vals xs us) : ∀ k : Nat, Vals (List.replicate k xs).flatten (List.replicate k us).flatten
  | 0 => .nil
  | k + 1 => by
    rw [List.replicate_succ, List.replicate_succ, List.flatten_cons, List.flatten_cons]
    exact Vals.append h (Vals.rep h k)
theorem erase_last {α : Type} (l : List α) : l.eraseIdx (l.length - 1) = l.dropLast := by
  induction l with
  | nil => rfl
  | cons a r ih =>
    cases r with
    | nil => rfl
    | cons b r =>
      have e : (a :: b :: r).length - 1 = ((b :: r).length - 1) + 1 := by
        have h1 : (a :: b :: r).length = r.length + 2 := rfl
        have h2 : (b :: r).length = r.length + 1 := rfl
        omega
      rw [e, List.eraseIdx_cons_succ, ih]
      all_goals rfl
theorem len_erase {α : Type} : ∀ (l : List α) (i : Nat), (l.eraseIdx i).length ≤ l.length
  | [], _ => Nat.le_refl _
  | _ :: _, 0 => Nat.le_succ _
  | _ :: r, i + 1 => Nat.succ_le_succ (len_erase r i)
theorem foldl_rep (its : List Value) : ∀ (k : Nat) (acc : List Value),
    List.foldl (fun x1 x2 => x1 ++ x2) acc.toArray (List.replicate k its.toArray) = (acc ++ (List.replicate k its).flatten).toArray
  | 0, acc => by simp
  | k + 1, acc => by
    have e : acc.toArray ++ its.toArray = (acc ++ its).toArray := by simp
    have e2 : (acc ++ its) ++ (List.replicate k its).flatten = acc ++ (List.replicate (k + 1) its).flatten := by
      rw [List.replicate_succ, List.flatten_cons, List.append_assoc]
    rw [← e2, ← foldl_rep its k (acc ++ its), ← e, List.replicate_succ, List.foldl_cons]

section
variable {X : Cx} {pins : List (Addr × Obj)} {σ : St} {H : Hp} {s : Shared} {l b : Addr} {xs ys zs : List V}

/-! ### the two steps: a tracked list is rewritten, a new list is laid -/
theorem Inv.lset {its its' : List Value} {n : Nat} {f : Array Value → Array Value} {t' : Nat} (I : Inv X pins σ H s) (hH : H l = some (.lst xs))
    (e : s.heap.get? l = some { cls := .type "list", data := .seq its.toArray n }) (hf : f its.toArray = its'.toArray) (hv : Vals ys its') (hz : ys.length ≤ sizeLine) :
    Inv X pins σ (upd H l (.lst ys)) { s with heap := s.heap.update l (Obj.mapSeq f), toks := t' } := by
  have q := PySem.IsL.update e f
  rw [hf] at q
  refine I.write (x := l) (e := l) (by rw [hH]; exact trivial) (.inl rfl) (fun b' u hb hu => (Heap.get?_update_other s.heap (Obj.mapSeq f) (Ne.symm hb)).trans hu) ⟨_, q⟩ ?_
  exact ⟨hz, its', _, hv, q⟩
theorem Inv.lnew {its : List Value} {t' : Nat} (I : Inv X pins σ H s) (hv : Vals ys its) (hz : ys.length ≤ sizeLine) :
    Inv X pins σ (upd H s.heap.objs.size (.lst ys)) { s with heap := s.heap.push { cls := .type "list", data := .seq its.toArray }, toks := t' } :=
  I.laid (fun _ _ q => Heap.get?_push_of_some _ q) (Nat.le_refl _) ⟨hz, its, 0, hv, Heap.get?_push_size _ rfl⟩
theorem Inv.fresh (I : Inv X pins σ H s) : H s.heap.objs.size = none := I.hok.fresh (Nat.le_refl _)
theorem Inv.lstM (I : Inv X pins σ H s) (hH : H l = some (.lst xs)) : xs.length ≤ sizeLine ∧ ∃ (its : List Value) (n : Nat), Vals xs its ∧ xs.length = its.length ∧ s.heap.get? l = some { cls := .type "list", data := .seq its.toArray n } := by
  obtain ⟨z, its, n, r, e⟩ := I.hok l _ hH
  exact ⟨z, its, n, r, r.length, e⟩

theorem notLongL {n : Nat} (h : n ≤ sizeLine) : Builtin.List.listTooLong n = false := by
  unfold Builtin.List.listTooLong
  exact decide_eq_false (by omega)
end

section
variable {X : Cx}

/-! ### methods -/
def rAppend : V → List V → Hp → VK → Prop := fun x vs H Q => ∃ l xs y, x = .ref l ∧ vs = [y] ∧ H l = some (.lst xs) ∧ xs.length < sizeLine ∧ Q .non (upd H l (.lst (xs ++ [y])))
theorem mt_append : MtM X "list.append" rAppend := by
  intro pins s σ H x vs v us Q I rx rv h
  obtain ⟨l, xs, y, rfl, rfl, hH, hz, q⟩ := h
  cases rx
  obtain ⟨u, rfl, ru⟩ := rv.one
  obtain ⟨z, its, n, r, hl, e⟩ := I.lstM hH
  refine call_meets F.slot_list_append ⟨_, e, rfl⟩ F.entry_list_append (F.args_list_append_2 _ _) (PySem.list_append l its.toArray n u (by rw [List.size_toArray]; omega)) ⟨e, ?_⟩
  refine ⟨.non, _, I.lset (its' := its ++ [u]) hH e (by simp) (r.append (.cons ru .nil)) ?_, rfl, q⟩
  rw [List.length_append, List.length_singleton]
  omega

def rExtend : V → List V → Hp → VK → Prop := fun x vs H Q => ∃ l b xs zs, x = .ref l ∧ vs = [.ref b] ∧ H l = some (.lst xs) ∧ H b = some (.lst zs) ∧ xs.length + zs.length ≤ sizeLine ∧ Q .non (upd H l (.lst (xs ++ zs)))
theorem mt_extend : MtM X "list.extend" rExtend := by
  intro pins s σ H x vs v us Q I rx rv h
  obtain ⟨l, b, xs, zs, rfl, rfl, hH, hB, hz, q⟩ := h
  cases rx
  obtain ⟨u, rfl, ru⟩ := rv.one
  cases ru
  obtain ⟨z, its, n, r, hl, e⟩ := I.lstM hH
  obtain ⟨z2, its2, n2, r2, hl2, e2⟩ := I.lstM hB
  have hsz : its.toArray.size + its2.toArray.size ≤ sizeLine := by rw [List.size_toArray, List.size_toArray]; omega
  have hlong : ¬ (!its.toArray.isEmpty && Builtin.List.listTooLong (its.toArray.size + its2.toArray.size)) = true := by
    rw [notLongL hsz, Bool.and_false]
    exact Bool.false_ne_true
  refine call_meets F.slot_list_extend ⟨_, e, rfl⟩ F.entry_list_extend (F.args_list_extend_2 _ _)
    (AutoSeq1.list_extend_list_list_0 l its.toArray n b its2.toArray n2 hlong (by rw [List.size_toArray]; omega) (by omega)) ⟨e, e2, ?_⟩
  refine ⟨.non, _, I.lset (its' := its ++ its2) hH e (by simp) (r.append r2) ?_, rfl, q⟩
  rw [List.length_append]
  omega

def rPop : V → List V → Hp → VK → Prop := fun x vs H Q => ∃ l xs y, x = .ref l ∧ vs = [] ∧ H l = some (.lst xs) ∧ xs[xs.length - 1]? = some y ∧ Q y (upd H l (.lst xs.dropLast))
theorem mt_pop : MtM X "list.pop" rPop := by
  intro pins s σ H x vs v us Q I rx rv h
  obtain ⟨l, xs, y, rfl, rfl, hH, hy, q⟩ := h
  cases rx
  have hus := rv.zero
  subst hus
  obtain ⟨z, its, n, r, hl, e⟩ := I.lstM hH
  obtain ⟨u, hu, ru⟩ := r.get hy
  have hy' : its.toArray[its.toArray.size - 1]? = some u := by
    show its.toArray[its.length - 1]? = some u
    rw [← Array.getElem?_toList, ← hl]
    exact hu
  refine call_meets F.slot_list_pop ⟨_, e, rfl⟩ F.entry_list_pop (F.args_list_pop_1 _) (MeetsSeq.list_pop_last l its.toArray n u hy' (by rw [List.size_toArray]; omega)) ⟨e, ?_⟩
  refine ⟨y, _, I.lset (its' := its.dropLast) hH e ?_ r.dropLast ?_, ru, q⟩
  · show its.toArray.eraseIdxIfInBounds (its.toArray.size - 1) = its.dropLast.toArray
    rw [List.size_toArray, List.eraseIdxIfInBounds_toArray, erase_last]
  · rw [List.length_dropLast]
    omega

def rPopAt : V → List V → Hp → VK → Prop := fun x vs H Q => ∃ l xs i k y, x = .ref l ∧ vs = [.int i] ∧ H l = some (.lst xs) ∧ -(2 ^ 63) ≤ i ∧ i < 2 ^ 63 ∧ seqIndex? i xs.length = some k ∧ xs[k]? = some y ∧ Q y (upd H l (.lst (xs.eraseIdx k)))
theorem mt_popAt : MtM X "list.pop" rPopAt := by
  intro pins s σ H x vs v us Q I rx rv h
  obtain ⟨l, xs, i, k, y, rfl, rfl, hH, h1, h2, hk, hy, q⟩ := h
  cases rx
  obtain ⟨u, rfl, ru⟩ := rv.one
  obtain ⟨t, rfl⟩ := ru
  obtain ⟨z, its, n, r, hl, e⟩ := I.lstM hH
  obtain ⟨w, hw, rw'⟩ := r.get hy
  refine call_meets F.slot_list_pop ⟨_, e, rfl⟩ F.entry_list_pop (F.args_list_pop_2 _ _)
    (MeetsSeq.list_pop_at l its.toArray n i t k w (fitsIndex_both h1 h2) (by rw [List.size_toArray, ← hl]; exact hk) (by rw [← Array.getElem?_toList]; exact hw) (by rw [List.size_toArray]; omega)) ⟨e, ?_⟩
  refine ⟨y, _, I.lset (its' := its.eraseIdx k) hH e ?_ (r.eraseIdx k) ?_, rw', q⟩
  · show its.toArray.eraseIdxIfInBounds k = (its.eraseIdx k).toArray
    rw [List.eraseIdxIfInBounds_toArray]
  · have := len_erase xs k
    omega

def rReverse : V → List V → Hp → VK → Prop := fun x vs H Q => ∃ l xs, x = .ref l ∧ vs = [] ∧ H l = some (.lst xs) ∧ Q .non (upd H l (.lst xs.reverse))
theorem mt_reverse : MtM X "list.reverse" rReverse := by
  intro pins s σ H x vs v us Q I rx rv h
  obtain ⟨l, xs, rfl, rfl, hH, q⟩ := h
  cases rx
  have hus := rv.zero
  subst hus
  obtain ⟨z, its, n, r, hl, e⟩ := I.lstM hH
  refine call_meets F.slot_list_reverse ⟨_, e, rfl⟩ F.entry_list_reverse (F.args_list_reverse_1 _) (AutoSeq1.list_reverse_list_0 l its.toArray n (by rw [List.size_toArray]; omega)) ⟨e, ?_⟩
  refine ⟨.non, _, I.lset (its' := its.reverse) hH e (by simp) r.reverse ?_, rfl, q⟩
  rw [List.length_reverse]
  omega

def rClear : V → List V → Hp → VK → Prop := fun x vs H Q => ∃ l xs, x = .ref l ∧ vs = [] ∧ H l = some (.lst xs) ∧ Q .non (upd H l (.lst []))
theorem mt_clear : MtM X "list.clear" rClear := by
  intro pins s σ H x vs v us Q I rx rv h
  obtain ⟨l, xs, rfl, rfl, hH, q⟩ := h
  cases rx
  have hus := rv.zero
  subst hus
  obtain ⟨z, its, n, r, hl, e⟩ := I.lstM hH
  refine call_meets F.slot_list_clear ⟨_, e, rfl⟩ F.entry_list_clear (F.args_list_clear_1 _) (AutoSeq1.list_clear_list_0 l its.toArray n (by rw [List.size_toArray]; omega)) ⟨e, ?_⟩
  exact ⟨.non, _, I.lset (its' := []) (ys := []) hH e rfl .nil (Nat.zero_le _), rfl, q⟩

/-! ### list + list, list += list, list * int -/
def rCat : R2 := fun x y H Q => ∃ l b xs zs, x = .ref l ∧ y = .ref b ∧ H l = some (.lst xs) ∧ H b = some (.lst zs) ∧ xs.length + zs.length ≤ sizeLine ∧ ∀ p, H p = none → Q (.ref p) (upd H p (.lst (xs ++ zs)))
theorem op_cat : OpR X (binaryOp .Add) rCat := by
  intro pins s σ H x y v u Q I rx ry h
  obtain ⟨l, b, xs, zs, rfl, rfl, hH, hB, hz, q⟩ := h
  cases rx
  cases ry
  obtain ⟨z, its, n, r, hl, e⟩ := I.lstM hH
  obtain ⟨z2, its2, n2, r2, hl2, e2⟩ := I.lstM hB
  refine PySem.P.add_list e e2 ?_ (by rw [List.size_toArray, List.size_toArray]; omega)
  have ea : its.toArray ++ its2.toArray = (its ++ its2).toArray := by simp
  rw [ea]
  exact ⟨.ref _, _, I.lnew (t' := s.toks) (r.append r2) (by rw [List.length_append]; omega), rfl, q _ I.fresh⟩
/-- a list times an int (a negative one is nothing) -/
def rRep : R2 := fun x y H Q => ∃ l k xs, x = .ref l ∧ y = .int k ∧ H l = some (.lst xs) ∧ -(2 ^ 63) ≤ k ∧ k < 2 ^ 63 ∧ xs.length * k.toNat ≤ sizeLine ∧
  ∀ p, H p = none → Q (.ref p) (upd H p (.lst (List.replicate k.toNat xs).flatten))
theorem len_rep {α : Type} (xs : List α) (k : Nat) : (List.replicate k xs).flatten.length = k * xs.length := by
  induction k with
  | zero => simp
  | succ k ih => rw [List.replicate_succ, List.flatten_cons, List.length_append, ih, Nat.succ_mul, Nat.add_comm]
theorem op_rep : OpR X (binaryOp .Mult) rRep := by
  intro pins s σ H x y v u Q I rx ry h
  obtain ⟨l, k, xs, rfl, rfl, hH, h1, h2, hz, q⟩ := h
  cases rx
  obtain ⟨t, rfl⟩ := ry
  obtain ⟨z, its, n, r, hl, e⟩ := I.lstM hH
  have hlen : its.toArray.size * k.toNat ≤ sizeLine := by rw [List.size_toArray, ← hl]; exact hz
  have hcap : ¬ its.toArray.size * k.toNat > (2 ^ 63 - 1) / 8 := by
    have : (sizeLine : Nat) ≤ (2 ^ 63 - 1) / 8 := by decide
    omega
  have hfit : ¬ (!Builtin.List.listFitsIndex k) = true := by
    rw [fitsIndex_both h1 h2]
    exact Bool.false_ne_true
  have hlong : ¬ Builtin.List.listTooLong (its.toArray.size * k.toNat) = true := by
    rw [notLongL hlen]
    exact Bool.false_ne_true
  have hnew : List.foldl (fun x1 x2 => x1 ++ x2) #[] (List.replicate (if its.toArray.isEmpty = true then 0 else k.toNat) its.toArray) = (List.replicate k.toNat its).flatten.toArray := by
    have f0 : ∀ m : Nat, List.foldl (fun x1 x2 => x1 ++ x2) #[] (List.replicate m its.toArray) = (List.replicate m its).flatten.toArray := fun m => by
      have := foldl_rep its m []
      rw [List.nil_append] at this
      exact this
    rw [f0]
    cases its with
    | nil => simp
    | cons a r' => rw [if_neg (by simp)]
  refine wpAny_binaryOp_repeat_ref (T := "list") (U := "int") (by decide) ⟨_, e, rfl⟩ (fun s' => typeIs_int s' k t) noFill_list_mul F.fills_int_mul F.slot_int_rmul repeat_list F.slot_int_index.lookup
    (call_meets F.slot_int_rmul (typeIs_int s k t) F.entry_int_rmul (F.args_int_rmul_2 _ _) (int___rmul___int_list k t l its.toArray n)
      ⟨e, rfl, ⟨_, e, rfl⟩, call_meets F.slot_list_mul ⟨_, e, rfl⟩ F.entry_list_mul (F.args_list_mul_2 _ _) (AutoListH.list___mul___list_int_3 l its.toArray n k t hfit hcap hlong) ⟨e, ?_⟩⟩)
  rw [hnew]
  exact ⟨.ref _, _, I.lnew (t' := s.toks) (r.rep k.toNat) (by rw [len_rep, Nat.mul_comm]; exact hz), rfl, q _ I.fresh⟩

/-! ### del xs[i] -/
theorem del_list {pins : List (Addr × Obj)} {s : Shared} {σ : St} {H : Hp} {l : Addr} {xs : List V} {i : Int} {t : Tok} {k : Nat} {Q : Unit → Shared → Prop} (I : Inv X pins σ H s) (hH : H l = some (.lst xs))
    (h1 : -(2 ^ 63) ≤ i) (h2 : i < 2 ^ 63) (hk : seqIndex? i xs.length = some k) (h : ∀ s', Inv X pins σ (upd H l (.lst (xs.eraseIdx k))) s' → Q () s') :
    wpAny (model X.prog X.w) X.A (delItem (.ref l) (.int i t)) Q X.xe s := by
  obtain ⟨z, its, n, r, hl, e⟩ := I.lstM hH
  refine PySem.P.delItem_list (k := k) e (fitsIndex_both h1 h2) (by rw [List.size_toArray, ← hl]; exact hk) (h _ ?_) (by rw [List.size_toArray]; omega)
  refine I.lset (its' := its.eraseIdx k) (t' := s.toks) hH e ?_ (r.eraseIdx k) ?_
  · show its.toArray.eraseIdxIfInBounds k = (its.eraseIdx k).toArray
    rw [List.eraseIdxIfInBounds_toArray]
  · have := len_erase xs k
    omega
end

/-! ### xs[a:b] = ys -/
section
variable {prog : Program} {w : World} {A : Around} {E : Value → Shared → Prop} {s : Shared}
theorem splice_eq (its its2 : List Value) (a c : Nat) : its.toArray.extract 0 a ++ its2.toArray ++ its.toArray.extract c its.toArray.size = (its.take a ++ its2 ++ its.drop c).toArray := by
  apply Array.toList_inj.mp
  first
    | (simp
       exact List.take_of_length_le (by simp))
    | simp [List.take_of_length_le]
    | simp
theorem bounds_run {a c n : Nat} (hac : a ≤ c) (hc : c ≤ n) : sliceBounds (some (a : Int)) (some (c : Int)) none n = ((a : Int), (c : Int), 1) := by
  simp only [sliceBounds, Option.getD_none]
  have h1 : ¬ ((a : Int) < 0) := by omega
  have h2 : ¬ ((c : Int) < 0) := by omega
  simp only [h1, h2, if_false, show (1 : Int) > 0 by decide, if_true]
  congr 1
  · omega
  · congr 1; omega
set_option maxRecDepth 100000 in
/-- list.__setitem__ with a slice of step one and another list -/
theorem setItem_slice {l b sl : Addr} {items new : Array Value} {n n2 : Nat} {vl vu : Value} {a c : Nat} {Q : Unit → Shared → Prop}
    (e : s.heap.get? l = some { cls := .type "list", data := .seq items n }) (e2 : s.heap.get? b = some { cls := .type "list", data := .seq new n2 }) (hne : l ≠ b)
    (hs : s.heap.IsSliceOf sl vl vu .none) (pl : IsPart vl (some (a : Int))) (pu : IsPart vu (some (c : Int))) (hac : a ≤ c) (hc : c ≤ items.size)
    (hsz : items.size + new.size ≤ sizeLine) (h : Q () { s with heap := s.heap.update l (Obj.mapSeq fun xs => xs.extract 0 a ++ new ++ xs.extract c xs.size) }) :
    wpAny (model prog w) A (setItem (.ref l) (.ref sl) (.ref b)) Q E s := by
  have hl : s.heap.IsList l items := PySem.IsL.isList e
  have hb : s.heap.IsList b new := PySem.IsL.isList e2
  obtain ⟨os, hos, hcs, hds⟩ := id hs
  have hTs : s.TypeIs (.ref sl) "slice" := ⟨os, hos, hcs⟩
  have hstep : ¬ ((rawPart none == rawInt 0) = true) := Bool.false_ne_true
  have hsame : Builtin.List.listSameRef (.ref l) (.ref b) = false := by
    unfold Builtin.List.listSameRef
    exact beq_eq_false_iff_ne.mpr hne
  have hmax : (max (a : Int) (c : Int)).toNat = c := by omega
  have hz' : ((fun xs : Array Value => xs.extract 0 a ++ new ++ xs.extract c xs.size) items).size ≤ sizeLine + 1 := by
    simp only [Array.size_append, Array.size_extract]
    omega
  unfold setItem
  try with_reducible refine wpAny_holding ?_
  first | refine wpAny_bind (wpAny_pure ?_) | skip
  refine wpAny_bind (wpAny_sequenceKey hl.typeIs (by decide) ?_)
  refine wpAny_bind (wpAny_callSpecial?_slot (name := Str.ofString "__setitem__") hl.typeIs slot_list_setitem
    (wpAny_call_entry slot_list_setitem hl.typeIs entry_list_setitem ?_ (args_list_setitem _ _ _)))
  show wpAny _ _ (Builtin.List.listSubscript? (.ref sl) >>= _) _ _ s
  refine wpAny_bind ?_
  unfold Builtin.List.listSubscript?
  refine wpAny_bind (wpAny_specialOf hTs slice_no_index ?_)
  simp only [Option.isNone_none, if_true]
  refine wpAny_pure ?_
  show wpAny _ _ (typeOf (.ref sl) >>= _) _ _ s
  refine wpAny_bind (wpAny_typeOf hTs ?_)
  first
    | rw [if_neg (by decide)]
    | refine PySem.W.KFB.if_not (by decide) ?_
  rw [listSliceParts_eq]
  refine wpAny_bind (wpAny_bind (wpAny_field hos hds (x := .none) rfl (wpAny_bind (wpAny_listPart .none ?_))))
  rw [if_neg hstep]
  refine wpAny_bind (wpAny_field hos hds (x := vl) rfl (wpAny_bind (wpAny_listPart pl ?_)))
  refine wpAny_bind (wpAny_field hos hds (x := vu) rfl (wpAny_bind (wpAny_listPart pu (wpAny_pure ?_))))
  first
    | simp only [hsame, Bool.false_eq_true, if_false]
    | refine PySem.W.KFB.if_not hsame ?_
    | (dsimp only
       rw [if_neg (by rw [hsame]; exact Bool.false_ne_true)])
  refine wpAny_bind (m := Builtin.List.listAllItems (.ref b) "must assign iterable to extended slice") ?_
  unfold Builtin.List.listAllItems
  refine wpAny_bind (wpAny_typeOf hb.typeIs ?_)
  first
    | refine PySem.W.KFB.if_so (by decide) ?_
    | rw [if_pos (by decide)]
    | simp only [beq_self_eq_true, Bool.true_or, if_true]
  unfold Builtin.List.listItems
  refine wpAny_bind (wpAny_seqItems e2 rfl (wpAny_pure ?_))
  refine wpAny_bind (wpAny_bind (wpAny_seqItems e rfl (wpAny_pure ?_)))
  refine wpAny_bind (wpAny_of_eq ((sliceIndices_raw (some (a : Int)) (some (c : Int)) none items.size (by simp)).trans (congrArg (pure : Int × Int × Int → Sem (Int × Int × Int)) (bounds_run hac hc))) ?_)
  show wpAny _ _ (if ((1 : Int) == 1) = true then _ else _) _ _ s
  rw [if_pos (by decide)]
  refine wpAny_bind (wpAny_rule ?_)
  first
    | simp only [notLongL hsz, Bool.false_eq_true, if_false]
    | refine PySem.W.KFB.if_not (notLongL hsz) ?_
  first | refine wpAny_bind (wpAny_pure ?_) | skip
  show wpAny _ _ (updateSeq l (fun xs => xs.extract 0 ((a : Int)).toNat ++ new ++ xs.extract (max (a : Int) (c : Int)).toNat xs.size) >>= _) _ _ s
  rw [hmax, Int.toNat_natCast]
  refine wpAny_bind (wpAny_updateSeq (hz := Nat.le_trans (Nat.le_add_right _ _) hsz) (_hz' := hz') e rfl ?_)
  refine wpAny_bind (wpAny_letGo ?_)
  first
    | exact wpAny_bind (wpAny_pure (wpAny_pure ⟨.none, rfl, wpAny_pure h⟩))
    | exact wpAny_pure ⟨.none, rfl, wpAny_pure h⟩
end

section
variable {X : Cx}
/-- xs[a:c] = ys of another list, at the value level: sl is the slice object that was just made -/
theorem set_slice {pins : List (Addr × Obj)} {s : Shared} {σ : St} {H : Hp} {l b sl : Addr} {xs ys : List V} {a c : Int} {vl vu : Value} {Q : Unit → Shared → Prop} (I : Inv X pins σ H s)
    (hH : H l = some (.lst xs)) (hB : H b = some (.lst ys)) (hne : l ≠ b) (hs : s.heap.IsSliceOf sl vl vu .none) (ra : RelV (.int a) vl) (rc : RelV (.int c) vu) (h0 : 0 ≤ a) (hac : a ≤ c) (hc : c ≤ xs.length)
    (hz : xs.length + ys.length ≤ sizeLine) (h : ∀ s', Inv X pins σ (upd H l (.lst (xs.take a.toNat ++ ys ++ xs.drop c.toNat))) s' → Q () s') :
    wpAny (model X.prog X.w) X.A (setItem (.ref l) (.ref sl) (.ref b)) Q X.xe s := by
  obtain ⟨ta, rfl⟩ := ra
  obtain ⟨tc, rfl⟩ := rc
  obtain ⟨z, its, n, r, hl, e⟩ := I.lstM hH
  obtain ⟨z2, its2, n2, r2, hl2, e2⟩ := I.lstM hB
  obtain ⟨a', rfl⟩ := Int.eq_ofNat_of_zero_le h0
  obtain ⟨c', rfl⟩ := Int.eq_ofNat_of_zero_le (Int.le_trans h0 hac)
  simp only [Int.toNat_natCast] at h
  refine setItem_slice (a := a') (c := c') e e2 hne hs (.int _ _) (.int _ _) (by omega) (by rw [List.size_toArray]; omega) (by rw [List.size_toArray, List.size_toArray]; omega) (h _ ?_)
  refine I.lset (its' := its.take a' ++ its2 ++ its.drop c') (t' := s.toks) hH e ?_ (Vals.append (Vals.append (r.take _) r2) (r.drop _)) ?_
  · exact splice_eq its its2 a' c'
  · rw [List.length_append, List.length_append, List.length_take, List.length_drop]
    omega
end
end L2

namespace Att
open PySem PySem.W PySem.Calls PyProof.Rows

/-! ### the script -/
theorem ints_of_wellAll {P : Params} {h : Heap} : ∀ (ns : List Int) (vs : List Value), WellAll P h vs (ns.map WData.int) → IntsAre vs ns := by
  intro ns
  induction ns with
  | nil =>
    intro vs w
    rw [List.map_nil] at w
    cases w
    exact .nil
  | cons n ns ih =>
    intro vs w
    rw [List.map_cons] at w
    cases w with
    | cons a b =>
      cases a
      exact .cons _ _ (ih _ b)

theorem script_of {l : OpenLaw} {n : Nat} (hn : l.most = some n) {P : Params} {h : Heap} {args : List WData} {vals : List Value}
    (hpre : l.row.toRowW.claim.pre args = true) (hwl : WellAll P h vals args) :
    ∃ a vs ns, vals = [Value.ref a] ∧ args = [WData.list (ns.map WData.int)] ∧ h.get? a = some { cls := .type "list", data := .seq vs.toArray } ∧ IntsAre vs ns ∧ ns.length ≤ n := by
  have hsh : WShape.hasAll [] args [.list .int] = true := (pre_splitW hpre).1
  have hc : l.pre.holds [] { args := args } = true := (pre_splitW hpre).2
  obtain ⟨d, r, rfl, h1, h2⟩ := hasAllW_cons hsh
  obtain rfl := hasAllW_nil h2
  obtain ⟨xs, rfl, h3⟩ := hasW_list h1
  obtain ⟨ns, rfl⟩ := items_int h3
  have hlen : ns.length ≤ n := by
    unfold OpenLaw.pre at hc
    have h4 : (WTm.not (.lt (.lit (.int (n : Int))) (.len (.arg 0)))).holds [] { args := [.list (ns.map .int)] } = true := by
      have h4 := (holds_andW hc).1
      rw [hn] at h4
      exact h4
    have h5 := condW_of h4 (w_not (w_lt w_lit (w_len_list (w_arg rfl))))
    rw [List.length_map] at h5
    refine Nat.le_of_not_lt fun q => ?_
    have q' : (n : Int) < ((ns.length : Nat) : Int) := by omega
    first
      | (rw [decide_eq_true q'] at h5; exact absurd h5 (by decide))
      | (simp at h5; omega)
  cases hwl with
  | cons w1 w2 =>
    cases w2
    cases w1 with
    | list ho hall => exact ⟨_, _, ns, rfl, rfl, ho, ints_of_wellAll ns _ hall, hlen⟩

theorem post_true (l : OpenLaw) (args : List WData) : l.row.toRowW.claim.post args (.bool true) args = true :=
  postW_of (r := l.row.toRowW) (X := (true == true))
    (show WShape.has [] (.bool true) .bool = true by first | rfl | decide | simp [WShape.has, WShape.arms, WShape.armsAll])
    (show (WTm.eq .res (.lit (.bool true))).value [] { args := args, res := some (.bool true), after := args } = some (.bool (true == true)) from w_eq_bool (w_res rfl) w_lit) rfl

/-! ### the attachment: holds_open's last premise (the goal 'hc' behind k_head) from a wpAny of the law's body -/
theorem attach {l : OpenLaw} {n : Nat} {q : Program} {loose : List Str} {XP : (Str → Option Value) → Heap → Prop} {YP : World → Heap → Prop} {d : DefRec} {x : Str}
    (hn : l.most = some n) (hdf : d.params.defaults = [])
    (hbind : ∀ pm cd doc v : Value, bindArgs (docDef d.name d.params d.body d.scope pm cd doc) ⟨[v], []⟩ = pure [(x, v)])
    (hx : d.scope.names.lookup x = some .local ∨ d.scope.names.lookup x = some .cell)
    (hk : d.scope.kind = .function) (hco : d.scope.isCoroutine = false) (hgen : d.scope.isGenerator = false)
    (body : ∀ (w : World) (s₀ s₁ s : Shared) (mg mb : Str → Option Value) (fa : Addr) (o : Obj) (pm cd doc : Value) (a : Addr) (vs : List Value) (ns : List Int),
      Ground q loose [] XP w s₀ mg mb s₁.heap → YP w s₁.heap →
      s₁.heap.get? fa = some o → o.data = .func (docDef d.name d.params d.body d.scope pm cd doc) → s₁.heap.CodeRec cd d.name → mg d.name = some (.ref fa) →
      s₁.heap.get? a = some { cls := .type "list", data := .seq vs.toArray } → IntsAre vs ns → ns.length ≤ n →
      s.gens = #[] → s.os = s₁.os →
      Fr s₁.heap s₁.heap.objs.size s.heap (bindL (envOfC d.name d.scope s₁.heap.objs.size fa cd).kindOf [(x, .ref a)] fun _ => none) →
      Cl s₁.heap.objs.size (cellsFrom (s₁.heap.objs.size + 1) d.scope.names []) s.heap (bindC (envOfC d.name d.scope s₁.heap.objs.size fa cd).kindOf [(x, .ref a)] fun _ => none) →
      wpAny (model l.prog w) (callerA.deeper (envOfC d.name d.scope s₁.heap.objs.size fa cd)) (execs d.body (envOfC d.name d.scope s₁.heap.objs.size fa cd))
        (fun f s' => f = .ret (.bool true) ∧ OldK s₁.heap s'.heap ∧ s'.os = s₁.os ∧ AllBare s'.gens) (fun _ _ => False) s) :
    WalkO q loose XP YP l.row.toRowW d [] (fun f vs => PySem.call f vs) := by
  intro w s₀ s₁ mg mb G Y fa o pm cd doc dV kV ho hd hcd hD hmg hg args vals as hpre hlay hrd hwl hlo
  obtain rfl : dV = .none := Dflts.none hD hdf
  obtain rfl : kV = .none := Dflts.noKw hD
  obtain ⟨a, vs, ns, rfl, rfl, hobj, hints, hlen⟩ := script_of hn hpre hwl
  refine enter_call ?_
  refine call_cells_ret (o := o) (by rw [depth_caller]; decide) ho (fd_plain hd) G.T.nolimit hcd (hbind pm cd doc (.ref a)) (fun y hy => ?_) (fun h₁ tk F X => ?_) hco hgen hk
  · obtain rfl : y = (x, Value.ref a) := List.mem_singleton.mp hy
    rcases hx with e | e
    · exact .inl e
    · exact .inr ⟨e, cellsFrom_some _ _ _ (.inl e)⟩
  · refine wpAny_mono (body w s₀ s₁ { s₁ with heap := h₁, toks := tk } mg mb fa o pm cd doc a vs ns G Y ho (fd_plain hd) hcd hmg hobj hints hlen hg rfl F X) (fun f s' hq => ?_) (fun _ _ hq => hq)
    obtain ⟨rfl, h2, h3, h4⟩ := hq
    exact ⟨.inl ⟨.bool true, .bool true, [], rfl, fun _ => rfl, .bool true, post_true l _, fun _ => ⟨List.Pairwise.nil, fun _ hm => (nomatch hm)⟩⟩, h2, h3, h4⟩

/-- the same from a codeAny of the CALL (for a layer whose function contracts speak of calls) -/
theorem attach_call {l : OpenLaw} {n : Nat} {q : Program} {loose : List Str} {XP : (Str → Option Value) → Heap → Prop} {YP : World → Heap → Prop} {d : DefRec}
    (hn : l.most = some n) (hdf : d.params.defaults = [])
    (call : ∀ (w : World) (s₀ s₁ : Shared) (mg mb : Str → Option Value) (fa : Addr) (o : Obj) (pm cd doc : Value) (a : Addr) (vs : List Value) (ns : List Int),
      Ground q loose [] XP w s₀ mg mb s₁.heap → YP w s₁.heap →
      s₁.heap.get? fa = some o → o.data = .func (docDef d.name d.params d.body d.scope pm cd doc) → s₁.heap.CodeRec cd d.name → mg d.name = some (.ref fa) →
      s₁.heap.get? a = some { cls := .type "list", data := .seq vs.toArray } → IntsAre vs ns → ns.length ≤ n → s₁.gens = #[] →
      codeAny (model l.prog w) callerA (.call (.ref fa) ⟨[.ref a], []⟩) (fun r s' => r = .ok (.ret (.bool true)) ∧ OldK s₁.heap s'.heap ∧ s'.os = s₁.os ∧ AllBare s'.gens) s₁) :
    WalkO q loose XP YP l.row.toRowW d [] (fun f vs => PySem.call f vs) := by
  intro w s₀ s₁ mg mb G Y fa o pm cd doc dV kV ho hd hcd hD hmg hg args vals as hpre hlay hrd hwl hlo
  obtain rfl : dV = .none := Dflts.none hD hdf
  obtain rfl : kV = .none := Dflts.noKw hD
  obtain ⟨a, vs, ns, rfl, rfl, hobj, hints, hlen⟩ := script_of hn hpre hwl
  refine enter_call (codeAny_mono (call w s₀ s₁ mg mb fa o pm cd doc a vs ns G Y ho (fd_plain hd) hcd hmg hobj hints hlen hg) fun r s' hq => ?_)
  obtain ⟨rfl, h2, h3, h4⟩ := hq
  exact ⟨.inl ⟨.bool true, .bool true, [], rfl, fun _ => rfl, .bool true, post_true l _, fun _ => ⟨List.Pairwise.nil, fun _ hm => (nomatch hm)⟩⟩, h2, h3, h4⟩

/-- the same where the top left finished generators (o_head chose holds_openN): nothing may have changed at all and no generator may be left -/
theorem attachN {l : OpenLaw} {n : Nat} {q : Program} {loose : List Str} {XP : (Str → Option Value) → Heap → Prop} {YP : World → Heap → Prop} {d : DefRec} {x : Str}
    (hn : l.most = some n) (hdf : d.params.defaults = [])
    (hbind : ∀ pm cd doc v : Value, bindArgs (docDef d.name d.params d.body d.scope pm cd doc) ⟨[v], []⟩ = pure [(x, v)])
    (hx : d.scope.names.lookup x = some .local ∨ d.scope.names.lookup x = some .cell)
    (hk : d.scope.kind = .function) (hco : d.scope.isCoroutine = false) (hgen : d.scope.isGenerator = false)
    (body : ∀ (w : World) (s₀ s₁ s : Shared) (mg mb : Str → Option Value) (fa : Addr) (o : Obj) (pm cd doc : Value) (a : Addr) (vs : List Value) (ns : List Int),
      Ground q loose [] XP w s₀ mg mb s₁.heap → YP w s₁.heap →
      s₁.heap.get? fa = some o → o.data = .func (docDef d.name d.params d.body d.scope pm cd doc) → s₁.heap.CodeRec cd d.name → mg d.name = some (.ref fa) →
      s₁.heap.get? a = some { cls := .type "list", data := .seq vs.toArray } → IntsAre vs ns → ns.length ≤ n →
      s.gens = #[] → s.os = s₁.os →
      Fr s₁.heap s₁.heap.objs.size s.heap (bindL (envOfC d.name d.scope s₁.heap.objs.size fa cd).kindOf [(x, .ref a)] fun _ => none) →
      Cl s₁.heap.objs.size (cellsFrom (s₁.heap.objs.size + 1) d.scope.names []) s.heap (bindC (envOfC d.name d.scope s₁.heap.objs.size fa cd).kindOf [(x, .ref a)] fun _ => none) →
      wpAny (model l.prog w) (callerA.deeper (envOfC d.name d.scope s₁.heap.objs.size fa cd)) (execs d.body (envOfC d.name d.scope s₁.heap.objs.size fa cd))
        (fun f s' => f = .ret (.bool true) ∧ (∀ b o, s₁.heap.get? b = some o → s'.heap.get? b = some o) ∧ s'.os = s₁.os ∧ s'.gens = #[]) (fun _ _ => False) s) :
    WalkN q loose XP YP l.row.toRowW d [] (fun f vs => PySem.call f vs) := by
  intro w s₀ s₁ mg mb G Y fa o pm cd doc dV kV ho hd hcd hD hmg hg args vals as hpre hlay hrd hwl hlo
  obtain rfl : dV = .none := Dflts.none hD hdf
  obtain rfl : kV = .none := Dflts.noKw hD
  obtain ⟨a, vs, ns, rfl, rfl, hobj, hints, hlen⟩ := script_of hn hpre hwl
  refine enter_callW ?_
  refine call_cells_ret (o := o) (by rw [depth_caller]; decide) ho (fd_plain hd) G.T.nolimit hcd (hbind pm cd doc (.ref a)) (fun y hy => ?_) (fun h₁ tk F X => ?_) hco hgen hk
  · obtain rfl : y = (x, Value.ref a) := List.mem_singleton.mp hy
    rcases hx with e | e
    · exact .inl e
    · exact .inr ⟨e, cellsFrom_some _ _ _ (.inl e)⟩
  · refine wpAny_mono (body w s₀ s₁ { s₁ with heap := h₁, toks := tk } mg mb fa o pm cd doc a vs ns G Y ho (fd_plain hd) hcd hmg hobj hints hlen hg rfl F X) (fun f s' hq => ?_) (fun _ _ hq => hq)
    obtain ⟨rfl, h2, h3, h4⟩ := hq
    exact ⟨.inl ⟨.bool true, .bool true, [], rfl, fun _ => rfl, .bool true, post_true l _, fun _ => ⟨List.Pairwise.nil, fun _ hm => (nomatch hm)⟩⟩, h2, h3, h4⟩

/-! ### rules over ANY heap (no ledger) from facts about the written part K: the library's own take a ledger (News) for what they write -/
section
variable {prog : Program} {w : World} {A : Around} {E : Value → Shared → Prop} {s : Shared} {K : Frag}

/-- a def of the module, or a method (qual 'C.m'), entered: the frame is the next address; cells behind it -/
theorem call_fn {R : Result → Shared → Prop} {name qual : Str} {params : Arguments} {body : List Stmt} {scope : Scope} {dV kV doc pm cdv ct oc : Value} {an od : Option Addr} {osl : Array (Option Value)} {f : Addr} {args : Args} {binds : List (Str × Value)}
    (X : K.In s.heap) (hlim : s.heap.NoLimit) (ho : K.lookup f = some ⟨oc, od, .func (fnOf name qual params body scope dV kV doc pm an cdv ct), osl⟩) (hcd : codeIn K cdv qual = true) (hroom : A.depth < recursionLimit)
    (hbind : BindsTo s (fnOf name qual params body scope dV kV doc pm an cdv ct) args binds)
    (hkind : (binds.all fun y => scope.names.lookup y.1 == some .local || scope.names.lookup y.1 == some .cell) = true)
    (h : ∀ s₁, InCallC s s.heap.objs.size (bindL (envOfC qual scope s.heap.objs.size f cdv).kindOf binds fun _ => none) (cellsFrom (s.heap.objs.size + 1) scope.names [])
        (bindC (envOfC qual scope s.heap.objs.size f cdv).kindOf binds fun _ => none) s₁ →
      wpAny (model prog w) (A.deeper (envOfC qual scope s.heap.objs.size f cdv)) (execs body (envOfC qual scope s.heap.objs.size f cdv))
        (fun fl s' => R (.ok (.ret (match fl with | .ret v => v | _ => .none))) s')
        (fun e s' => wpAny (model prog w) (A.deeper (envOfC qual scope s.heap.objs.size f cdv)) (leaving (envOfC qual scope s.heap.objs.size f cdv) e) (fun _ s'' => R (.error e) s'') (fun e' s'' => R (.error e') s'') s') s₁)
    (hco : scope.isCoroutine = false) (hgen : scope.isGenerator = false) (hk : scope.kind = .function) : codeAny (model prog w) A (.call (.ref f) args) R s := by
  refine codeAny_call_function hroom (X _ _ ho) rfl hco hgen rfl (codeRec_of X hcd) (hbind _ _ _ _ ?_)
  refine wpAny_newFunctionEnv_cells hk (kindsX hkind _) fun env he s₁ x => ?_
  subst he
  exact ⟨hlim.keeps x.toInCall.keep, codeAny_func (h s₁ x)⟩

/-- C(..): dict at size, instance at size + 1, then __init__ -/
theorem make_obj {R : Result → Shared → Prop} {C fI : Addr} {rest : List Value} {kw : List (Str × Value)}
    (X : K.In s.heap) (hm : makesIn K C = true) (hi : findIn K (.ref C) "__init__" = some (some (.ref fI))) (hf : isFn K (.ref fI) = true)
    (h : codeAny (model prog w) (A.under (.builtin "type.__call__" ⟨.ref C :: rest, kw⟩)) (.call (.ref fI) ⟨.ref (s.heap.objs.size + 1) :: rest, kw⟩) (InitBack (s.heap.objs.size + 1) R)
      { s with heap := (s.heap.push emptyDict).push (instObj C s.heap.objs.size) }) : codeAny (model prog w) A (.call (.ref C) ⟨rest, kw⟩) R s := by
  obtain ⟨hh, g, d, t, os⟩ := s
  exact make_core (makes_of X hm) (looks_findIn X hi) (fun self => bind_fn X self (beq_iff_eq.mp hf)) (.inl rfl) h

/-- x.name where the instance's dict holds the name and the class does not -/
theorem get_field {x C : Addr} {ox : Obj} {es : List DictEntry} {n : Nat} {name : Str} {expr : Bool} {v : Value} {Q : Value → Shared → Prop}
    (X : K.In s.heap) (I : PySem.W.InstAt s.heap x ox C (some (dictOf es n))) (hg : plainGet K C name = true) (hh : hasDictIn K C = true) (ha : findIn K (.ref C) name = some none)
    (hl : getL name es = some (some v)) (hv : handedIn v = true) (h : Q v { s with toks := s.toks + 1 }) : wpAny (model prog w) A (getAttr (.ref x) name expr) Q E s :=
  get_value X I (plainGet_of hg).1 (findObj_own hh ha rfl hl) hv h

/-- x.m(..): the method found in the class -/
theorem get_method {x C f : Addr} {ox : Obj} {es : List DictEntry} {n : Nat} {name : Str} {pl : Sem Bool} {Q : Value × List Value → Shared → Prop}
    (X : K.In s.heap) (I : PySem.W.InstAt s.heap x ox C (some (dictOf es n))) (hg : plainGet K C name = true) (hf : findIn K (.ref C) name = some (some (.ref f))) (ht : isFn K (.ref f) = true)
    (hl : getL name es = some none) (h : Q (.ref f, [.ref x]) s) : wpAny (model prog w) A (getMethod (.ref x) name pl) Q E s :=
  method_fn X I (plainGet_of hg).1 (plainGet_of hg).2 hf (beq_iff_eq.mp ht) (by show (lookIn name (dictOf es n)).map _ = _; rw [lookIn_dict, hl]; rfl) h

/-! the whole heap as the ledger: makes every rule that writes through a ledger a rule over any heap -/
def noObjs (h : Heap) : Heap := { h with objs := #[] }
theorem noObjs_get (h : Heap) (b : Addr) : (noObjs h).get? b = none := by
  cases e : (noObjs h).get? b with
  | none => rfl
  | some o => exact absurd (Heap.lt_size e) (Nat.not_lt_zero _)
def ledger (h : Heap) (L d : Addr) : List (Addr × Obj) := (List.range h.objs.size).filterMap fun a => if a = L ∨ a = d then none else (h.get? a).map fun o => (a, o)
theorem mem_ledger {h : Heap} {L d a : Addr} {o : Obj} : (a, o) ∈ ledger h L d ↔ a ≠ L ∧ a ≠ d ∧ h.get? a = some o := by
  unfold ledger
  rw [List.mem_filterMap]
  constructor
  · rintro ⟨b, _, e⟩
    split at e
    · cases e
    · rename_i hb
      obtain ⟨o', ho, e'⟩ := Option.map_eq_some_iff.mp e
      cases e'
      exact ⟨fun q => hb (.inl q), fun q => hb (.inr q), ho⟩
  · rintro ⟨n1, n2, ho⟩
    refine ⟨a, List.mem_range.mpr (Heap.lt_size ho), ?_⟩
    rw [if_neg (show ¬ (a = L ∨ a = d) from fun q => q.elim n1 n2), ho] <;> rfl
theorem news_ledger {h : Heap} {L d : Addr} {od : Obj} (hne : d ≠ L) (ho : h.get? d = some od) : News (noObjs h) L h ([] ++ (d, od) :: ledger h L d) := by
  rintro ⟨a, o⟩ hp
  rcases List.mem_cons.mp hp with e | hp
  · cases e
    exact ⟨ho, hne, noObjs_get _ _⟩
  · obtain ⟨n1, n2, e⟩ := mem_ledger.mp hp
    exact ⟨e, n1, noObjs_get _ _⟩
theorem fr_all {h : Heap} {L : Addr} {m : Str → Option Value} (n : h.Ns L m) : Fr (noObjs h) L h m :=
  ⟨n, fun b o e => (by rw [noObjs_get] at e; cases e), Nat.zero_le _⟩
/-- Upd of the head entry (for append_K, setItem_K ..) -/
theorem upd_ledger {h : Heap} {L d : Addr} {o o' : Obj} : Upd d o o' ((d, o) :: ledger h L d) ((d, o') :: ledger h L d) :=
  .head fun ⟨_, _⟩ hp => (mem_ledger.mp hp).2.1

/-- x.name = v over any heap: L is any namespace of the heap (the frame's, say): its map stays, its object is not told; all else but the dict stays -/
theorem set_field {x C dx L : Addr} {ox : Obj} {m : Str → Option Value} {es es' : List DictEntry} {n n' : Nat} {name : Str} {v : Value} {Q : Unit → Shared → Prop}
    (X : K.In s.heap) (I : PySem.W.InstAt s.heap x ox C (some (dictOf es n))) (hd : ox.dict = some dx) (hL : s.heap.Ns L m) (hne : dx ≠ L)
    (hs : findIn K (.ref C) "__setattr__" = some (some (.builtin "object.__setattr__"))) (hp : plainOver K C = true) (ht : takerIn K C name = some none) (hh : hasDictIn K C = true) (hl : (getL name es).isSome = true)
    (e : (putL name (PyData.keyHash w.params name) (.str name (s.toks + 1)) v es, putN name es n) = (es', n')) (hz : es'.length ≤ 1000)
    (h : ∀ h' : Heap, h'.Ns L m → h'.get? dx = some (dictOf es' n') → (∀ b o, b ≠ dx → b ≠ L → s.heap.get? b = some o → h'.get? b = some o) → Q () { s with heap := h', toks := s.toks + 2 }) :
    wpAny (model prog w) A (setAttr (.ref x) name v) Q E s := by
  obtain ⟨e1, e2⟩ := Prod.mk.inj e
  have hdx : s.heap.get? dx = some (dictOf es n) := by
    have := I.dict
    rw [hd] at this
    exact this
  refine set_plain X I hs (osa_dict (s := { s with toks := s.toks + 1 }) (h₀ := noObjs s.heap) (L := L) (m := m) (od := dictOf es n) (od' := dictOf es' n') (es := es') (n := n') (pre := []) (post := ledger s.heap L dx)
    (fr_all hL) (news_ledger hne hdx) X I hd hp ht hh hl (fun _ q => nomatch q) (fun ⟨_, _⟩ q => (mem_ledger.mp q).2.1) (by rw [putName_dict, e1, e2]) rfl hz fun h' F' N' => ?_)
  exact h h' F'.ns (N'.get (List.Mem.head _)) fun b o n1 n2 ho => N'.get (List.Mem.tail _ (mem_ledger.mpr ⟨n2, n1, ho⟩))
end
end Att

namespace L2
open PySem PySem.Spec PyProof.Rows

theorem vals_ints : ∀ {vs : List Value} {ns : List Int}, IntsAre vs ns → Vals (ns.map V.int) vs
  | _, _, .nil => .nil
  | _, _, .cons n t h => .cons ⟨t, rfl⟩ (vals_ints h)

/-- nothing is tracked but the script, known to the object (or it is an object of the module) -/
def Only (H : Hp) : Prop := ∀ b, H b = none ∨ ∃ o xs, H b = some (.frz o (.lst xs))

/-- THE HEAD: the law's promise, at the heap behind the top. F, the promise of the law's def, may use that base is part of the heap (so K.In base, base.Ns mainGlobals mg stand in Mod) -/
theorem law_call {P : Program} {w : World} {K : PySem.W.Frag} {mg mb : Str → Option Value} {CX : CXT} {k : Nat} {fa a : Addr} {fd : FuncData} {x : Str} {sp : Sp} {s₁ : Shared} {vs : List Value} {ns : List Int}
    (KX : K.In s₁.heap) (hns : s₁.heap.Ns mainGlobals mg) (hb : s₁.heap.Ns builtinsNs mb) (hbb : ∀ x : Str, x ≠ "__name__" → mb x = bootBuiltins x) (hlim : s₁.heap.NoLimit) (hg : s₁.gens = #[])
    (ha : s₁.heap.get? a = some { cls := .type "list", data := .seq vs.toArray }) (hi : IntsAre vs ns) (hl : ns.length ≤ sizeLine) (hr : Room k callerA)
    (F : ∀ base : Heap, K.In base → base.Ns mainGlobals mg → FnOk P w K mg base CX k fa fd [x] sp) (hbind : ∀ (s : Shared) (u : Value), BindsTo s fd ⟨[u], []⟩ [(x, u)])
    (hsp : ∀ H : Hp, Only H → SqL K H a (ns.map V.int) → sp [.ref a] H (fun v _ => v = .bl true) fun _ _ _ => False)
    (hCX : ∀ H e s', CX [] H s₁ (fun _ _ _ => False) e s' → False) :
    codeAny (model P w) callerA (.call (.ref fa) ⟨[.ref a], []⟩) (fun r s' => r = .ok (.ret (.bool true)) ∧ OldK s₁.heap s'.heap ∧ s'.os = s₁.os ∧ AllBare s'.gens) s₁ := by
  have rv := vals_ints hi
  have lenV := hi.length
  -- from an abstract heap in which nothing but the script may be tracked
  have core : ∀ H : Hp, Only H → SqL K H a (ns.map V.int) → HOk P w H s₁.heap → (∀ b, H b ≠ none → b = a) → (H a ≠ none → K.lookup a = none) →
      codeAny (model P w) callerA (.call (.ref fa) ⟨[.ref a], []⟩) (fun r s' => r = .ok (.ret (.bool true)) ∧ OldK s₁.heap s'.heap ∧ s'.os = s₁.os ∧ AllBare s'.gens) s₁ := by
    intro H hO hS hok hA hK
    have base_of : ∀ {b : Addr} {o : Obj}, s₁.heap.get? b = some o → H b = none → (hidT s₁.heap H).get? b = some o := fun e n => hidT_get e n
    have noA : ∀ {b : Addr} {o : Obj} {es : Array DictEntry} {ep : Nat}, s₁.heap.get? b = some o → o.data = .dict es ep → H b = none := fun {b o es ep} e d => by
      cases q : H b with
      | none => rfl
      | some u =>
        have e' : b = a := hA b (by rw [q]; simp)
        subst e'
        rw [ha] at e; cases e
        have d' : Data.seq vs.toArray _ = Data.dict es ep := d
        cases d'
    have nsK : ∀ {b : Addr} {m : Str → Option Value}, s₁.heap.Ns b m → (hidT s₁.heap H).Ns b m := fun {b m} ⟨o, es, ep, e, d, r⟩ => ⟨o, es, ep, base_of e (noA e d), d, r⟩
    have hKb : K.In (hidT s₁.heap H) := fun b o e => base_of (KX b o e) (by
      cases q : H b with
      | none => rfl
      | some u =>
        have e' : b = a := hA b (by rw [q]; simp)
        subst e'
        rw [hK (by rw [q]; simp)] at e; cases e)
    have hM : Mod K mg (hidT s₁.heap H) := ⟨hKb, nsK hns, ⟨mb, nsK hb, hbb⟩, let ⟨mc, h1, h2⟩ := hlim; ⟨mc, nsK h1, h2⟩⟩
    have e0 : Env0 P w K mg (hidT s₁.heap H) callerA [] s₁ H := ⟨rfl, hM, fun b o e => of_hidT e, Nat.le_of_eq (hidT_size _ _), trivial, fun b hb => absurd (show b ∈ ([] : List Addr) from hb) (by simp), hok, .of_eq hg⟩
    refine codeAny_mono ((F _ hKb (nsK hns)).run callerA [] s₁ H ⟨[.ref a], []⟩ [.ref a] [.ref a] _ _ hr e0 (hbind s₁ (.ref a)) (.cons rfl .nil) (hsp H hO hS)) fun r s' h => ?_
    cases r with
    | error e => exact (hCX H e s' h).elim
    | ok fl =>
      cases fl with
      | next => exact False.elim h
      | brk => exact False.elim h
      | cont => exact False.elim h
      | ret u =>
        obtain ⟨v, H', os, bare, un, hok', r', q⟩ := h
        have q' : v = .bl true := q
        subst q'
        obtain rfl : u = Value.bool true := r'
        refine ⟨rfl, OldK.of_keep fun b o e => ?_, os, bare⟩
        cases q : H b with
        | none => exact un.keep b o e q (by intro z; exact absurd (show b ∈ ([] : List Addr) from z) (by simp)) (by simp)
        | some u =>
          rcases hO b with z | ⟨ob, xs, z⟩
          · rw [q] at z; cases z
          · have z2 := un.frzs b ob _ z
            obtain ⟨e1, _⟩ := hok b _ z
            obtain ⟨e2, _⟩ := hok' b _ z2
            rw [e] at e1; cases e1
            exact e2
  cases hk : K.lookup a with
  | some o =>
    -- the script is one of the module's own objects
    have e := KX a o hk
    rw [ha] at e
    cases e
    refine core (fun _ => none) (fun _ => .inl rfl) (.inr ⟨_, vs.toArray, _, hk, rfl, rfl, rfl, by rw [List.size_toArray, lenV]; exact hl, by simpa using rv⟩) (fun b u z => by have z' : (none : Option HO) = some u := z; cases z') (fun b z => absurd rfl z) fun z => absurd rfl z
  | none =>
    refine core (fun b => if b = a then some (.frz { cls := .type "list", data := .seq vs.toArray } (.lst (ns.map V.int))) else none) (fun b => ?_) (.inl (.inr ⟨{ cls := .type "list", data := .seq vs.toArray }, if_pos rfl⟩)) (fun b u z => ?_) (fun b z => ?_) fun _ => hk
    · by_cases hb : b = a
      · exact .inr ⟨_, _, if_pos hb⟩
      · exact .inl (if_neg hb)
    · by_cases hb : b = a
      · have z' := (if_pos hb).symm.trans z
        cases z'
        subst hb
        exact ⟨ha, by rw [List.length_map]; exact hl, vs, _, rv, ha⟩
      · have z' := (if_neg hb).symm.trans z
        cases z'
    · by_cases hb : b = a
      · exact hb
      · exact absurd (if_neg hb) z
end L2

namespace L2
open PySem PySem.Spec PyProof.Rows

abbrev KOf {K : PySem.W.Frag} {h : Heap} (_ : K.In h) : PySem.W.Frag := K

/-- the goal that k_head leaves (case hc), from the law's promise. F gives the function object fd (K's own) once, then the promise over every base -/
theorem walk_of {l : PySem.W.OpenLaw} {n k : Nat} {q : Program} {loose : List Str} {XP : (Str → Option Value) → Heap → Prop} {YP : World → Heap → Prop} {d : DefRec} {K : Params → PySem.W.Frag} {CX : World → CXT} {sp : World → Sp} {x : Str}
    (hn : l.most = some n) (hn2 : n ≤ sizeLine) (hdf : d.params.defaults = []) (hr : Room k callerA)
    (hY : ∀ (w : World) (h : Heap), YP w h → (K w.params).In h)
    (F : ∀ (w : World) (mg : Str → Option Value) (fa : Addr) (h : Heap), (K w.params).In h → h.Ns mainGlobals mg → mg d.name = some (.ref fa) →
      ∃ fd : FuncData, (∀ (s : Shared) (u : Value), BindsTo s fd ⟨[u], []⟩ [(x, u)]) ∧
        ∀ base : Heap, (K w.params).In base → base.Ns mainGlobals mg → FnOk l.prog w (K w.params) mg base (CX w) k fa fd [x] (sp w))
    (hsp : ∀ (w : World) (H : Hp) (a : Addr) (ns : List Int), ns.length ≤ n → Only H → SqL (K w.params) H a (ns.map V.int) → sp w [.ref a] H (fun v _ => v = .bl true) fun _ _ _ => False)
    (hCX : ∀ (w : World) (H : Hp) (s : Shared) (e : Value) (s' : Shared), CX w [] H s (fun _ _ _ => False) e s' → False) :
    PySem.W.WalkO q loose XP YP l.row.toRowW d [] (fun f vs => PySem.call f vs) := by
  refine Att.attach_call hn hdf fun w s₀ s₁ mg mb fa o pm cd doc a vs ns G Y ho hd hcd hmg hobj hints hlen hg => ?_
  have KX := hY w _ Y
  obtain ⟨fd, hb, hF⟩ := F w mg fa _ KX G.T.g hmg
  exact law_call KX G.T.g G.T.b G.T.builtins G.T.nolimit hg hobj hints (Nat.le_trans hlen hn2) hr hF hb (fun H hO hS => hsp w H a ns hlen hO hS) fun H e s' => hCX w H s₁ e s'
/-- the same where the promise hangs on the written part alone: (sp := My.sp_law), no hole under a binder -/
theorem walk_ofK {l : PySem.W.OpenLaw} {n k : Nat} {q : Program} {loose : List Str} {XP : (Str → Option Value) → Heap → Prop} {YP : World → Heap → Prop} {d : DefRec} {K : Params → PySem.W.Frag} {CX : CXT} {sp : PySem.W.Frag → Sp} {x : Str}
    (hn : l.most = some n) (hn2 : n ≤ sizeLine) (hdf : d.params.defaults = []) (hr : Room k callerA)
    (hY : ∀ (w : World) (h : Heap), YP w h → (K w.params).In h)
    (F : ∀ (w : World) (mg : Str → Option Value) (fa : Addr) (h : Heap), (K w.params).In h → h.Ns mainGlobals mg → mg d.name = some (.ref fa) →
      ∃ fd : FuncData, (∀ (s : Shared) (u : Value), BindsTo s fd ⟨[u], []⟩ [(x, u)]) ∧
        ∀ base : Heap, (K w.params).In base → base.Ns mainGlobals mg → FnOk l.prog w (K w.params) mg base CX k fa fd [x] (sp (K w.params)))
    (hsp : ∀ (K : PySem.W.Frag) (H : Hp) (a : Addr) (ns : List Int), ns.length ≤ n → Only H → SqL K H a (ns.map V.int) → sp K [.ref a] H (fun v _ => v = .bl true) fun _ _ _ => False)
    (hCX : ∀ (H : Hp) (s : Shared) (e : Value) (s' : Shared), CX [] H s (fun _ _ _ => False) e s' → False) :
    PySem.W.WalkO q loose XP YP l.row.toRowW d [] (fun f vs => PySem.call f vs) :=
  walk_of (K := K) (CX := fun _ => CX) (sp := fun w => sp (K w.params)) hn hn2 hdf hr hY F (fun w H a ns h1 h2 h3 => hsp (K w.params) H a ns h1 h2 h3) fun _ H s e s' => hCX H s e s'
end L2

/- THE LAST THEOREM (shape; LID, My.* are yours):
   My.Adr: a structure of the addresses that your layer names (classes, functions); My.Txt K t: a structure (Prop) of the equations over K;
   My.txt_mk : {K} {implicit addresses ..} (e1 : nsIn K mainGlobals "law" = some (some (.ref f))) (e2 : K.lookup f = some ⟨oc, od, .func (fnOf "law" "law" params body scope dV kV doc pm an cdv ct), sl⟩) (e3 : codeIn K cdv "law" = true) .. : ∃ t, My.Txt K t

set_option maxRecDepth 100000 in
set_option maxHeartbeats 0 in
theorem PySem.Challenge.cw_LID_holds : PySem.Challenge.rw_LID.Holds := by
  w_on; o_law; k_head; (case hw => w_witness2)
  k_fill
  refine L2.walk_of (l := PySem.Challenge.rw_LID) (n := 63) (k := 40) (x := "script") (CX := fun w => ..) (sp := fun _ => My.sp_law) rfl (by decide) rfl ⟨rfl, by decide, by decide⟩ (fun w h Y => PySem.W.kIn_of Y) ?F ?S ?C
  case F =>
    intro w mg fa h KX G hmg
    have T : ∃ t, My.Txt (L2.KOf KX) t := by
      dsimp only [L2.KOf]                          -- K must stand as «<heap const> w.params» for k_is
      refine' My.txt_mk ?e1 ?e2 ?e3 ..
      (case e1 => PySem.W.k_is)                    -- in the order: a name -> its address -> its object -> its parts
      (case e2 => PySem.W.k_is)
      ..
    obtain ⟨t, T⟩ := T
    have e0 := hmg.symm.trans (PySem.W.mg_of KX G T.law)
    cases e0                                       -- fa is the law's own address
    exact ⟨_, fun s u => .of_eq rfl, fun base kb nb => My.law_fn T kb nb⟩     -- if «.of_eq rfl» comes too early: refine' ⟨_, ?b, fun base kb nb => My.law_fn T kb nb⟩; exact fun s u => .of_eq rfl
  case S => exact fun w H a ns hl hO hS => ..
  case C => exact ..
(the tactic k_is has no namespace: write k_is) -/

/-! SHORT WORDS over the layer: a def of the text, its body, what a loop and a test want. -/
namespace L2
open PySem PySem.Spec PyProof.Rows

/-! ### the text by places -/
/-- the j-th statement of a class's body -/
def inClass (s : Stmt) (j : Nat) : Stmt := match s with
  | .ClassDef _ _ _ body _ _ _ _ _ _ _ => body.getD j (.Pass ⟨0, 0, 0, 0⟩)
  | _ => .Pass ⟨0, 0, 0, 0⟩
def defArgs (s : Stmt) : Arguments := match s with
  | .FunctionDef _ a _ _ _ _ _ _ _ _ => a
  | _ => { posonlyargs := [], args := [], vararg := none, kwonlyargs := [], kw_defaults := [], kwarg := none, defaults := [] }
def defBody (s : Stmt) : List Stmt := match s with
  | .FunctionDef _ _ b _ _ _ _ _ _ _ => b
  | _ => []
def defScope (s : Stmt) : Scope := match s with
  | .FunctionDef _ _ _ _ _ _ sc _ _ _ => sc
  | _ => { kind := .function, names := [], isGenerator := false, isCoroutine := false }

/-! ### no exception leaves a def -/
abbrev CX0 : CXT := fun _ _ _ _ _ _ => False
abbrev E0 : XK := fun _ _ _ => False
theorem pass0 {X : Cx} : Passes CX0 X E0 := fun _ _ _ _ _ _ _ h => h.elim

/-! ### a def (or method) of the text as it stands behind the top -/
structure Fun (K : PySem.W.Frag) (x qual : Str) (st : Stmt) (f : Addr) (fd : FuncData) : Prop where
  ex : ∃ (oc : Value) (od : Option Addr) (kV doc pm : Value) (an : Option Addr) (cdv ct : Value) (osl : Array (Option Value)),
    fd = PySem.W.fnOf x qual (defArgs st) (defBody st) (defScope st) .none kV doc pm an cdv ct ∧ K.lookup f = some ⟨oc, od, .func fd, osl⟩ ∧ PySem.W.codeIn K cdv qual = true
  kp : PySem.W.keepIn K (.ref f) = true
section
variable {P : Program} {w : World} {K : PySem.W.Frag} {mg : Str → Option Value} {base : Heap}
/-- THE RULE for a def: its body as a term of rules, and the reading of that term -/
theorem Fun.ok {x qual : Str} {st : Stmt} {f : Addr} {fd : FuncData} {N ps : List Str} {k : Nat} {sp : Sp} (F : Fun K x qual st f fd) (S : FnScope N ps (defScope st)) (len : ∀ vs H Q E, sp vs H Q E → vs.length = ps.length)
    (hbody : ∀ (cdv : Value) (A : Around) (outer : List Env) (s : Shared) (H : Hp) (vs : List V) (Q : VK) (E : XK), Room k (A.deeper (envOfC qual (defScope st) s.heap.objs.size f cdv)) → sp vs H Q E →
      ∃ t, PSs (cxOf CX0 P w K mg base N qual (defScope st) f cdv A outer s H E).nox (defBody st) t ∧ t { nx := fun _ H' => Q .non H', rt := Q } (start N vs) H) : FnOk P w K mg base CX0 (k + 1) f fd ps sp := by
  obtain ⟨oc, od, kV, doc, pm, an, cdv, ct, osl, rfl, lk, hcd⟩ := F.ex
  refine fn_of lk hcd S len fun A outer s H vs Q E hr hsp => ?_
  obtain ⟨t, h, q⟩ := hbody cdv A outer s H vs Q E hr hsp
  exact ⟨t, h.nox, q⟩
/-- how its arguments bind (no defaults): h is «fun _ _ _ _ _ _ us hl => match us, hl with | [_, _], _ => rfl», one _ a parameter -/
theorem Fun.binds {x qual : Str} {st : Stmt} {f : Addr} {fd : FuncData} {ps : List Str} (F : Fun K x qual st f fd)
    (h : ∀ (kV doc pm : Value) (an : Option Addr) (cdv ct : Value) (us : List Value), us.length = ps.length → bindArgs (PySem.W.fnOf x qual (defArgs st) (defBody st) (defScope st) .none kV doc pm an cdv ct) ⟨us, []⟩ = pure (ps.zip us)) : Binds K fd ps [] := by
  obtain ⟨oc, od, kV, doc, pm, an, cdv, ct, osl, rfl, lk, hcd⟩ := F.ex
  exact .all (h kV doc pm an cdv ct)
theorem fun_mk {x qual : Str} {st : Stmt} {f : Addr} {oc : Value} {od an : Option Addr} {osl : Array (Option Value)} {kV doc pm cdv ct : Value} (l : K.lookup f = some ⟨oc, od, .func (PySem.W.fnOf x qual (defArgs st) (defBody st) (defScope st) .none kV doc pm an cdv ct), osl⟩)
    (c : PySem.W.codeIn K cdv qual = true) (k : PySem.W.keepIn K (.ref f) = true) : Fun K x qual st f (PySem.W.fnOf x qual (defArgs st) (defBody st) (defScope st) .none kV doc pm an cdv ct) := ⟨⟨oc, od, kV, doc, pm, an, cdv, ct, osl, rfl, l, c⟩, k⟩
end
theorem hu_of {A : Around} {k : Nat} (hr : Room k A) : A.units + 1 < cLine := Nat.lt_of_le_of_lt (Nat.add_le_add_left (by decide : 1 ≤ 64) _) hr.units
theorem small1000 {n : Nat} (h : n ≤ 1000) : n < sizeLine := Nat.lt_of_le_of_lt h (by decide)

/-! ### expressions in short: the name that stands in the i-th slot -/
section
variable {X : Cx}
theorem pv (i : Nat) {x : Str} {pos : Pos} (hN : X.N[i]? = some x := by rfl) (hv : Vis X.env.scope x := by first | exact Or.inl rfl | exact Or.inr (Or.inl rfl) | exact Or.inr (Or.inr rfl)) (hd : (x == ("__debug__" : Str)) = false := by decide)
    (hcd : (x == ("__classdict__" : Str)) = false := by decide) : PE X (.Name x pos) (tVar i) := pe_var hN hv hd hcd
end

/-! ### tests -/
theorem iteF {A B : Prop} (h : B) : if false = true then A else B := by
  rw [if_neg Bool.false_ne_true]
  exact h
theorem iteT {A B : Prop} (h : A) : if true = true then A else B := by
  rw [if_pos rfl]
  exact h
theorem ite2 {c A B : Prop} [Decidable c] (h1 : c → A) (h2 : ¬ c → B) : if c then A else B := by
  by_cases h : c
  · rw [if_pos h]
    exact h1 h
  · rw [if_neg h]
    exact h2 h
theorem iteNS {c A B : Prop} [Decidable c] (hc : c) (h : B) : if (!decide c) = true then A else B := by
  rw [decide_eq_true hc]
  exact iteF h

/-! ### heaps -/
/-- all that was tracked is as it was -/
def Same (H H' : Hp) : Prop := ∀ b o, H b = some o → H' b = some o
theorem Same.refl (H : Hp) : Same H H := fun _ _ h => h
theorem Same.trans {H H1 H2 : Hp} (a : Same H H1) (b : Same H1 H2) : Same H H2 := fun c o h => b c o (a c o h)
theorem Same.free {H H' : Hp} (e : Same H H') {l : Addr} (h : H' l = Option.none) : H l = Option.none := by
  cases q : H l with
  | none => rfl
  | some o =>
    rw [e l o q] at h
    cases h
theorem Same.seq {K : PySem.W.Frag} {H H' : Hp} {a : Addr} {xs : List V} (e : Same H H') (h : SqL K H a xs) : SqL K H' a xs := by
  rcases h with (h | ⟨o, h⟩) | h
  · exact .inl (.inl (e _ _ h))
  · exact .inl (.inr ⟨o, e _ _ h⟩)
  · exact .inr h

end L2
namespace GS
def isLet (c : Nat) : Bool := (decide (65 ≤ c) && decide (c ≤ 90)) || (decide (97 ≤ c) && decide (c ≤ 122))
def isDig (c : Nat) : Bool := decide (48 ≤ c) && decide (c ≤ 57)
def isW (c : Nat) : Bool := isLet c || isDig c || c == 95
def code (s : String) : List Nat := s.toList.map Char.toNat
def toldL : List (List Nat) := ["and", "as", "break", "class", "continue", "def", "elif", "else", "except", "False", "finally", "for", "from", "global", "if", "in", "None", "nonlocal", "not", "or", "pass", "raise", "return", "True", "try", "while", "yield"].map code
def shortL : List (List Nat) := ["+", "-", "*", "&", "|", "<", ">", "=", "(", ")", ",", ".", ":"].map code
def longL : List (List Nat) := ["//", "<=", ">=", "==", "!=", "+=", "-=", "*="].map code
def isTold (p : List Nat) : Bool := toldL.any fun y => y == p
def isShort (p : List Nat) : Bool := shortL.any fun y => y == p
def isLong (p : List Nat) : Bool := longL.any fun y => y == p
inductive Wd where
  | name (l : List Nat) | told (l : List Nat) | num (l : List Nat) | text (l : List Nat) | mark (l : List Nat)
  deriving DecidableEq
def headIs (f : Nat → Bool) (p : List Nat) : Bool := match p with | [] => false | c :: _ => f c
def isNameL (p : List Nat) : Bool := !isTold p && (decide (p.length ≤ 12) && headIs isLet p) && p.all isW
def isNumL (p : List Nat) : Bool := decide (p.length ≤ 12) && p.all isDig && (p == [48] || headIs (· != 48) p)
def inR (c : Nat) : Bool := decide (32 ≤ c) && decide (c ≤ 126)
def isTxtL (chk : Bool) (p : List Nat) : Bool := decide (2 ≤ p.length) && decide (p.length ≤ 42) && headIs (· == 34) p && (p.getLast? == some 34) && (!chk || p.all inR)
def wordOf (chk : Bool) (p : List Nat) : Option Wd :=
  if isTold p then some (.told p) else if isNameL p then some (.name p) else if isNumL p then some (.num p)
  else if isTxtL chk p then some (.text (p.tail.dropLast)) else if isShort p || isLong p then some (.mark p) else none
/-- how long the piece is that begins here -/
def pieceLen : List Nat → Nat
  | [] => 0
  | c :: t => if c = 34 then (match t.findIdx? (· == 34) with | some i => i + 2 | none => t.length + 1)
    else if isW c then ((c :: t).takeWhile isW).length else if isLong ((c :: t).take 2) then 2 else 1
theorem pieceLen_cons (c : Nat) (t : List Nat) : pieceLen (c :: t) = if c = 34 then (match t.findIdx? (· == 34) with | some i => i + 2 | none => t.length + 1)
    else if isW c then ((c :: t).takeWhile isW).length else if isLong ((c :: t).take 2) then 2 else 1 := rfl
theorem pieceLen_pos (c : Nat) (t : List Nat) : 1 ≤ pieceLen (c :: t) := by
  rw [pieceLen_cons]
  split
  · cases t.findIdx? (· == 34) with
    | none => show 1 ≤ t.length + 1; omega
    | some i => show 1 ≤ i + 2; omega
  · split
    · rename_i h; rw [List.takeWhile_cons, if_pos h]; simp
    · split <;> omega
theorem pieceLen_le : ∀ l : List Nat, pieceLen l ≤ l.length
  | [] => Nat.le_refl 0
  | c :: t => by
    rw [pieceLen_cons]
    split
    · split
      · rename_i i h
        obtain ⟨h1, _⟩ := List.findIdx?_eq_some_iff_getElem.mp h
        simp; omega
      · simp
    · split
      · exact (List.takeWhile_sublist _).length_le
      · split
        · rename_i h
          have : (c :: t).length ≠ 1 := by
            intro e
            have ht : t = [] := by cases t with | nil => rfl | cons a b => simp at e
            subst ht
            have hh : isLong [c] = false := by
              unfold isLong longL code
              simp
            have h' : isLong (List.take 2 [c]) = isLong [c] := rfl
            rw [h', hh] at h
            exact Bool.noConfusion h
          simp at this ⊢
          cases t with
          | nil => exact absurd rfl this
          | cons a b => simp
        · simp
def words (chk : Bool) (l : List Nat) : Option (List Wd) :=
  match l with
  | [] => some []
  | c :: t => if c = 35 then some [] else if c = 32 then words chk t else
    match wordOf chk ((c :: t).take (pieceLen (c :: t))) with
    | none => none
    | some w => (words chk ((c :: t).drop (pieceLen (c :: t)))).map (w :: ·)
termination_by l.length
decreasing_by
  · simp
  · have := pieceLen_pos c t
    simp; omega
theorem words_nil (chk : Bool) : words chk [] = some [] := by rw [words]
theorem words_hash (chk : Bool) (t : List Nat) : words chk (35 :: t) = some [] := by rw [words]; simp
theorem words_blank (chk : Bool) (t : List Nat) : words chk (32 :: t) = words chk t := by rw [words]; simp
theorem words_bad {chk : Bool} {c : Nat} {t : List Nat} (h1 : c ≠ 35) (h2 : c ≠ 32) (h : wordOf chk ((c :: t).take (pieceLen (c :: t))) = none) : words chk (c :: t) = none := by
  rw [words, if_neg h1, if_neg h2, h]
theorem words_good {chk : Bool} {c : Nat} {t : List Nat} {w : Wd} (h1 : c ≠ 35) (h2 : c ≠ 32) (h : wordOf chk ((c :: t).take (pieceLen (c :: t))) = some w) :
    words chk (c :: t) = (words chk ((c :: t).drop (pieceLen (c :: t)))).map (w :: ·) := by
  rw [words, if_neg h1, if_neg h2, h]
/-! the law's own going -/
def lawRun (p : List Nat) : Option Wd :=
  if isTold p then some (.told p)
  else if headIs isDig p then (if !p.all isDig || (decide (12 < p.length) || (headIs (· == 48) p && p != [48])) then none else some (.num p))
  else if headIs (· == 95) p || decide (12 < p.length) then none else some (.name p)
theorem told_let {p : List Nat} (h : isTold p = true) : headIs isLet p = true := by
  have : ∀ y ∈ toldL, headIs isLet y = true := by decide
  unfold isTold at h
  obtain ⟨y, hy, e⟩ := List.any_eq_true.mp h
  have e' := eq_of_beq e
  subst e'
  exact this y hy
theorem short_no {p : List Nat} (h : isShort p = true) : headIs isW p = false ∧ headIs (· == 34) p = false ∧ p.length = 1 := by
  have : ∀ y ∈ shortL, headIs isW y = false ∧ headIs (· == 34) y = false ∧ y.length = 1 := by decide
  unfold isShort at h
  obtain ⟨y, hy, e⟩ := List.any_eq_true.mp h
  have e' := eq_of_beq e
  subst e'
  exact this y hy
theorem long_no {p : List Nat} (h : isLong p = true) : headIs isW p = false ∧ headIs (· == 34) p = false ∧ p.length = 2 := by
  have : ∀ y ∈ longL, headIs isW y = false ∧ headIs (· == 34) y = false ∧ y.length = 2 := by decide
  unfold isLong at h
  obtain ⟨y, hy, e⟩ := List.any_eq_true.mp h
  have e' := eq_of_beq e
  subst e'
  exact this y hy
theorem let_not_dig {c : Nat} (h : isLet c = true) : isDig c = false := by
  unfold isLet at h; unfold isDig
  simp only [Bool.or_eq_true, Bool.and_eq_true, decide_eq_true_eq] at h
  simp only [Bool.and_eq_false_iff, decide_eq_false_iff_not]
  omega
theorem isW_cases {c : Nat} (h : isW c = true) : isLet c = true ∨ isDig c = true ∨ c = 95 := by
  unfold isW at h
  simp only [Bool.or_eq_true, beq_iff_eq] at h
  rcases h with (h | h) | h
  · exact .inl h
  · exact .inr (.inl h)
  · exact .inr (.inr h)
theorem not34 {c : Nat} (h : isW c = true) : (c == 34) = false := by
  rw [beq_eq_false_iff_ne]; intro e; subst e; exact absurd h (by decide)
/-- a run of letters, figures and strokes -/
theorem run_word (chk : Bool) {c : Nat} {t : List Nat} (h : (c :: t).all isW = true) : wordOf chk (c :: t) = lawRun (c :: t) := by
  have hc : isW c = true := by simp only [List.all_cons, Bool.and_eq_true] at h; exact h.1
  unfold wordOf lawRun
  cases ht : isTold (c :: t) with
  | true => rfl
  | false =>
    have n1 : isTxtL chk (c :: t) = false := by
      unfold isTxtL headIs; simp only [not34 hc]; simp
    have n2 : isShort (c :: t) = false := by
      cases e : isShort (c :: t) with
      | false => rfl
      | true => have := (short_no e).1; simp only [headIs, hc] at this; exact Bool.noConfusion this
    have n3 : isLong (c :: t) = false := by
      cases e : isLong (c :: t) with
      | false => rfl
      | true => have := (long_no e).1; simp only [headIs, hc] at this; exact Bool.noConfusion this
    simp only [n1, n2, n3, Bool.false_eq_true, if_false, Bool.or_self]
    unfold isNameL isNumL
    simp only [h, ht, headIs, Bool.not_false, Bool.true_and, Bool.and_true]
    rcases isW_cases hc with h1 | h1 | h1
    · have hd := let_not_dig h1
      have hs : (c == 95) = false := by rw [beq_eq_false_iff_ne]; intro e; subst e; exact absurd h1 (by decide)
      have hall : (c :: t).all isDig = false := by simp only [List.all_cons, hd, Bool.false_and]
      simp only [h1, hd, hs, hall, Bool.and_true, Bool.false_eq_true, if_false, Bool.false_or, Bool.and_false, Bool.false_and]
      by_cases hl : (c :: t).length ≤ 12
      · rw [decide_eq_true hl, decide_eq_false (by omega)]; simp
      · rw [decide_eq_false hl, decide_eq_true (by omega)]; simp
    · have hd : isLet c = false := by
        cases e : isLet c with
        | false => rfl
        | true => have := let_not_dig e; rw [h1] at this; exact Bool.noConfusion this
      simp only [h1, hd, Bool.and_false, Bool.false_eq_true, if_false, if_true]
      by_cases hl : (c :: t).length ≤ 12
      · rw [decide_eq_true hl, decide_eq_false (show ¬ 12 < (c :: t).length by omega)]
        cases (c :: t).all isDig with
        | false => simp
        | true =>
          simp only [Bool.true_and, Bool.not_true, Bool.false_or]
          cases e1 : ((c :: t) == [48]) with
          | true =>
            have e2 := eq_of_beq e1
            injection e2 with e3 e4
            subst e3 e4
            simp
          | false =>
            simp only [bne, e1, Bool.false_or, Bool.not_false, Bool.and_true]
            cases (c == 48) <;> simp
      · rw [decide_eq_false hl, decide_eq_true (by omega)]; simp
    · subst h1
      have hd : isLet 95 = false := by decide
      have hg : isDig 95 = false := by decide
      simp only [hd, hg, Bool.and_false, Bool.false_eq_true, if_false, List.all_cons, Bool.false_and, beq_self_eq_true, Bool.true_or, if_true]
theorem takeWhile_all (l : List Nat) : (l.takeWhile isW).all isW = true := by
  induction l with
  | nil => rfl
  | cons c t ih =>
    rw [List.takeWhile_cons]
    split
    · rename_i h; rw [List.all_cons, h, ih]; rfl
    · rfl
theorem take_takeWhile (l : List Nat) : l.take (l.takeWhile isW).length = l.takeWhile isW := by
  induction l with
  | nil => rfl
  | cons c t ih =>
    rw [List.takeWhile_cons]
    split
    · rw [List.length_cons, List.take_succ_cons, ih]
    · rfl
/-- (a) -/
theorem step_run (chk : Bool) {c : Nat} {t : List Nat} (h : isW c = true) : pieceLen (c :: t) = ((c :: t).takeWhile isW).length ∧ wordOf chk ((c :: t).take (pieceLen (c :: t))) = lawRun ((c :: t).takeWhile isW) := by
  have e : pieceLen (c :: t) = ((c :: t).takeWhile isW).length := by
    have n : ¬ c = 34 := by intro e; subst e; exact absurd h (by decide)
    rw [pieceLen_cons, if_neg n, if_pos h]
  refine ⟨e, ?_⟩
  rw [e, take_takeWhile]
  have hall := takeWhile_all (c :: t)
  rw [List.takeWhile_cons, if_pos h] at hall ⊢
  exact run_word chk hall
theorem wordOf_lit (chk : Bool) (t : List Nat) : wordOf chk (34 :: t) = if isTxtL chk (34 :: t) then some (.text t.dropLast) else none := by
  unfold wordOf
  have h1 : isTold (34 :: t) = false := by
    cases e : isTold (34 :: t) with
    | false => rfl
    | true => have := told_let e; exact absurd this (by simp only [headIs]; decide)
  have h2 : isNameL (34 :: t) = false := by
    unfold isNameL; simp only [headIs, show isLet 34 = false by decide, Bool.and_false, Bool.false_and]
  have h3 : isNumL (34 :: t) = false := by
    unfold isNumL; simp only [List.all_cons, show isDig 34 = false by decide, Bool.and_false, Bool.false_and]
  have h4 : isShort (34 :: t) = false := by
    cases e : isShort (34 :: t) with
    | false => rfl
    | true => have := (short_no e).2.1; exact absurd this (by simp only [headIs]; decide)
  have h5 : isLong (34 :: t) = false := by
    cases e : isLong (34 :: t) with
    | false => rfl
    | true => have := (long_no e).2.1; exact absurd this (by simp only [headIs]; decide)
  simp only [h1, h2, h3, h4, h5, Bool.false_eq_true, if_false, Bool.or_self, List.tail_cons]
/-- (b) an open literal -/
theorem step_open (chk : Bool) {t : List Nat} (h : t.findIdx? (· == 34) = none) : wordOf chk ((34 :: t).take (pieceLen (34 :: t))) = none := by
  have e : pieceLen (34 :: t) = t.length + 1 := by rw [pieceLen_cons, if_pos rfl, h]
  rw [e, List.take_of_length_le (by simp), wordOf_lit, if_neg]
  unfold isTxtL
  intro q
  simp only [Bool.and_eq_true, beq_iff_eq, decide_eq_true_eq] at q
  have q1 := q.1.1.1.1
  have q2 := q.1.2
  cases t with
  | nil => simp at q1
  | cons a b =>
    rw [List.getLast?_cons_cons] at q2
    have hm : 34 ∈ (a :: b) := List.mem_of_getLast? q2
    have := List.findIdx?_eq_none_iff.mp h 34 hm
    simp at this
/-- (b) a closed literal -/
theorem step_lit (chk : Bool) {t : List Nat} {i : Nat} (h : t.findIdx? (· == 34) = some i) (hr : chk = true → t.all inR = true) :
    pieceLen (34 :: t) = i + 2 ∧ wordOf chk ((34 :: t).take (pieceLen (34 :: t))) = if i < 41 then some (.text (t.take i)) else none := by
  have e : pieceLen (34 :: t) = i + 2 := by rw [pieceLen_cons, if_pos rfl, h]
  refine ⟨e, ?_⟩
  obtain ⟨hi, h1, h2⟩ := List.findIdx?_eq_some_iff_getElem.mp h
  have h1' : t[i] = 34 := by simpa using h1
  rw [e, List.take_succ_cons, wordOf_lit]
  have ht : t.take (i + 1) = t.take i ++ [34] := by
    rw [List.take_add_one, List.getElem?_eq_getElem hi, h1']; rfl
  rw [ht, List.dropLast_concat]
  have hl : (34 :: (t.take i ++ [34])).length = i + 2 := by
    simp; omega
  have hlast : (34 :: (t.take i ++ [34])).getLast? = some 34 := by
    rw [← List.cons_append, List.getLast?_concat]
  have hchk : (!chk || (34 :: (t.take i ++ [34])).all inR) = true := by
    cases chk with
    | false => rfl
    | true =>
      have := hr rfl
      rw [List.all_eq_true] at this
      simp only [Bool.not_true, Bool.false_or, List.all_cons, List.all_append, List.all_nil, Bool.and_true]
      rw [show inR 34 = true by decide]
      simp only [Bool.true_and, Bool.and_true, List.all_eq_true]
      exact fun x hx => this x (List.mem_of_mem_take hx)
  have ht' : isTxtL chk (34 :: (t.take i ++ [34])) = decide (i < 41) := by
    unfold isTxtL
    rw [hl, hlast, hchk]
    show (decide (2 ≤ i + 2) && decide (i + 2 ≤ 42) && true && true && true) = _
    rw [decide_eq_true (show 2 ≤ i + 2 by omega)]
    by_cases hlt : i < 41
    · rw [decide_eq_true hlt, decide_eq_true (show i + 2 ≤ 42 by omega)]; rfl
    · rw [decide_eq_false hlt, decide_eq_false (show ¬ i + 2 ≤ 42 by omega)]; rfl
  rw [ht']
  by_cases hlt : i < 41
  · rw [if_pos hlt, if_pos (decide_eq_true hlt)]
  · rw [if_neg hlt, if_neg (by rw [decide_eq_false hlt]; exact Bool.noConfusion)]
theorem wordOf_other (chk : Bool) {c : Nat} {t : List Nat} (h : isW c = false) (h34 : c ≠ 34) : wordOf chk (c :: t) = if isShort (c :: t) || isLong (c :: t) then some (.mark (c :: t)) else none := by
  have hl : isLet c = false := by unfold isW at h; simp only [Bool.or_eq_false_iff] at h; exact h.1.1
  have hd : isDig c = false := by unfold isW at h; simp only [Bool.or_eq_false_iff] at h; exact h.1.2
  unfold wordOf
  have h1 : isTold (c :: t) = false := by
    cases e : isTold (c :: t) with
    | false => rfl
    | true => have := told_let e; simp only [headIs, hl] at this; exact Bool.noConfusion this
  have h2 : isNameL (c :: t) = false := by
    unfold isNameL; simp only [headIs, hl, Bool.and_false, Bool.false_and]
  have h3 : isNumL (c :: t) = false := by
    unfold isNumL; simp only [List.all_cons, hd, Bool.and_false, Bool.false_and]
  have h4 : isTxtL chk (c :: t) = false := by
    unfold isTxtL; simp only [headIs, beq_eq_false_iff_ne.mpr h34, Bool.and_false, Bool.false_and]
  simp only [h1, h2, h3, h4, Bool.false_eq_true, if_false]
/-- (c) -/
theorem step_mark (chk : Bool) {c : Nat} {t : List Nat} (h : isW c = false) (h34 : c ≠ 34) :
    pieceLen (c :: t) = (if isLong ((c :: t).take 2) then 2 else 1) ∧
    wordOf chk ((c :: t).take (pieceLen (c :: t))) = if isLong ((c :: t).take 2) || isShort [c] then some (.mark ((c :: t).take (pieceLen (c :: t)))) else none := by
  have e : pieceLen (c :: t) = (if isLong ((c :: t).take 2) then 2 else 1) := by
    rw [pieceLen_cons, if_neg h34, if_neg (by rw [h]; exact Bool.noConfusion)]
  refine ⟨e, ?_⟩
  cases hl : isLong ((c :: t).take 2) with
  | true =>
    rw [e, hl, if_pos rfl]
    have : (c :: t).take 2 = c :: t.take 1 := rfl
    rw [this] at hl ⊢
    rw [wordOf_other chk h h34, hl]
    simp
  | false =>
    rw [e, hl]
    have e2 : (c :: t).take (if false = true then 2 else 1) = [c] := by simp
    rw [e2, wordOf_other chk h h34]
    have hn : isLong [c] = false := by
      cases q : isLong [c] with
      | false => rfl
      | true => have := (long_no q).2.2; simp at this
    rw [hn]
    simp
theorem drop_sub {l : List Nat} {P : Nat → Prop} (h : ∀ c ∈ l, P c) (n : Nat) : ∀ c ∈ l.drop n, P c := fun c hc => h c (List.mem_of_mem_drop hc)
theorem wordOf_chk {c : Nat} {t : List Nat} (hr : (c :: t).all inR = true) : wordOf true ((c :: t).take (pieceLen (c :: t))) = wordOf false ((c :: t).take (pieceLen (c :: t))) := by
  unfold wordOf
  have e : isTxtL true ((c :: t).take (pieceLen (c :: t))) = isTxtL false ((c :: t).take (pieceLen (c :: t))) := by
    unfold isTxtL
    have : ((c :: t).take (pieceLen (c :: t))).all inR = true := by
      rw [List.all_eq_true] at hr ⊢
      exact fun x hx => hr x (List.mem_of_mem_take hx)
    rw [this]; simp
  rw [e]
/-- both goings tell the same where each sign is one of the document's -/
theorem words_same : ∀ (n : Nat) (l : List Nat), l.length ≤ n → l.all inR = true → words true l = words false l
  | _, [], _, _ => by rw [words_nil, words_nil]
  | 0, c :: t, h, _ => by simp at h
  | n + 1, c :: t, h, hr => by
    by_cases h1 : c = 35
    · subst h1; rw [words_hash, words_hash]
    · by_cases h2 : c = 32
      · subst h2
        rw [words_blank, words_blank]
        exact words_same n t (by simpa using h) (by simp only [List.all_cons, Bool.and_eq_true] at hr; exact hr.2)
      · have e := wordOf_chk hr
        cases q : wordOf false ((c :: t).take (pieceLen (c :: t))) with
        | none => rw [words_bad h1 h2 (e.trans q), words_bad h1 h2 q]
        | some w =>
          rw [words_good h1 h2 (e.trans q), words_good h1 h2 q]
          have hp := pieceLen_pos c t
          rw [words_same n ((c :: t).drop (pieceLen (c :: t))) (by simp at h ⊢; omega) (by
            rw [List.all_eq_true] at hr ⊢
            exact fun x hx => hr x (List.mem_of_mem_drop hx))]
/-! a name is one word -/
theorem isNameL_head {c : Nat} {t : List Nat} (h : isNameL (c :: t) = true) : isLet c = true ∧ (c :: t).all isW = true ∧ (c :: t).length ≤ 12 ∧ isTold (c :: t) = false := by
  unfold isNameL at h
  simp only [Bool.and_eq_true, Bool.not_eq_true', headIs, decide_eq_true_eq] at h
  exact ⟨h.1.2.2, h.2, h.1.2.1, h.1.1⟩
theorem takeWhile_of_all : ∀ l : List Nat, l.all isW = true → l.takeWhile isW = l
  | [], _ => rfl
  | c :: t, h => by
    simp only [List.all_cons, Bool.and_eq_true] at h
    rw [List.takeWhile_cons, if_pos h.1, takeWhile_of_all t h.2]
theorem wordOf_name {chk : Bool} {p x : List Nat} (h : wordOf chk p = some (.name x)) : p = x ∧ isNameL p = true := by
  unfold wordOf at h
  split at h
  · cases h
  · split at h
    · rename_i hn; cases h; exact ⟨rfl, hn⟩
    · split at h
      · cases h
      · split at h
        · cases h
        · split at h <;> cases h
theorem name_words (chk : Bool) {x : List Nat} (h : isNameL x = true) : words chk x = some [.name x] := by
  cases x with
  | nil => unfold isNameL headIs at h; simp at h
  | cons c t =>
    obtain ⟨h1, h2, h3, h4⟩ := isNameL_head h
    have hw : isW c = true := by unfold isW; rw [h1]; rfl
    have n1 : c ≠ 35 := by intro e; subst e; exact absurd h1 (by decide)
    have n2 : c ≠ 32 := by intro e; subst e; exact absurd h1 (by decide)
    have n3 : c ≠ 34 := by intro e; subst e; exact absurd h1 (by decide)
    have e : pieceLen (c :: t) = (c :: t).length := by
      rw [(step_run chk hw).1, takeWhile_of_all _ h2]
    have hwd : wordOf chk ((c :: t).take (pieceLen (c :: t))) = some (.name (c :: t)) := by
      rw [e, List.take_length]
      unfold wordOf
      rw [h4, h]; rfl
    rw [words_good n1 n2 hwd, e, List.drop_length, words_nil]; rfl
theorem words_name {chk : Bool} : ∀ (n : Nat) (l x : List Nat) (r : List Wd), l.length ≤ n → words chk l = some (.name x :: r) → x.length ≤ l.length ∧ (x.length = l.length → isNameL l = true ∧ x = l)
  | _, [], x, r, _, h => by rw [words_nil] at h; cases h
  | 0, c :: t, x, r, hl, _ => by simp at hl
  | n + 1, c :: t, x, r, hl, h => by
    by_cases h1 : c = 35
    · subst h1; rw [words_hash] at h; cases h
    · by_cases h2 : c = 32
      · subst h2
        rw [words_blank] at h
        have := (words_name n t x r (by simpa using hl) h).1
        exact ⟨by simp; omega, fun e => by simp at e; omega⟩
      · cases q : wordOf chk ((c :: t).take (pieceLen (c :: t))) with
        | none => rw [words_bad h1 h2 q] at h; cases h
        | some w =>
          rw [words_good h1 h2 q] at h
          obtain ⟨r', _, e⟩ := Option.map_eq_some_iff.mp h
          injection e with e1 e2
          subst e1
          obtain ⟨e3, e4⟩ := wordOf_name q
          have hle := pieceLen_le (c :: t)
          have hx : x.length = min (pieceLen (c :: t)) (c :: t).length := by rw [← e3, List.length_take]
          refine ⟨by omega, fun e5 => ?_⟩
          have e6 : (c :: t).take (pieceLen (c :: t)) = c :: t := List.take_of_length_le (by omega)
          rw [e6] at e3 e4
          exact ⟨e4, e3.symm⟩
theorem name_iff (chk : Bool) (x : List Nat) : isNameL x = decide (words chk x = some [.name x]) := by
  cases h : isNameL x with
  | true => exact (decide_eq_true (name_words chk h)).symm
  | false =>
    refine (decide_eq_false fun q => ?_).symm
    have := ((words_name x.length x x [] (Nat.le_refl _) q).2 rfl).1
    rw [h] at this; cases this
end GS
set_option Elab.async false
set_option linter.all false
set_option maxRecDepth 100000
set_option maxHeartbeats 4000000
namespace L2
open PySem PySem.Spec PyProof.Rows PySem.Builtin PySem.Builtin.Str

/-! ### texts -/
section
variable {X : Cx}
def rSlS : V → Option Int → Option Int → Hp → VK → Prop := fun x lo hi H Q => ∃ z, x = .str z ∧ z.length ≤ sizeLine ∧ Q (.str (StrLaws.sliceText z lo hi)) H
theorem sliceText_le (x : Str) (l u : Option Int) : (StrLaws.sliceText x l u).length ≤ x.length := Txt.slice_le x l u
theorem sl_str : SlR X rSlS := by
  intro pins s σ H x v vl vu lo hi sl Q I rx hs pl pu h
  obtain ⟨z, rfl, hz, q⟩ := h
  obtain ⟨t, rfl⟩ := rx
  have fin : ∀ t' k, EP X pins σ Q (.str (StrLaws.sliceText z lo hi) t') { s with toks := k } := fun t' k => ⟨.str _, H, I.tok _, ⟨_, rfl⟩, q⟩
  refine ⟨"str", _, F.slot_str_getitem.lookup, typeIs_str _ _ _, ?_⟩
  cases pl with
  | none =>
    cases pu with
    | none => exact wpAny_getItem_str_slice (l := none) (u := none) (st := none) hs rfl (post_val_or_str ⟨Nat.le_trans (sliceText_le z _ _) hz, fin⟩)
    | int j uj => exact wpAny_getItem_str_slice (l := none) (u := some (j, uj)) (st := none) hs rfl (post_val_or_str ⟨Nat.le_trans (sliceText_le z _ _) hz, fin⟩)
  | int i ui =>
    cases pu with
    | none => exact wpAny_getItem_str_slice (l := some (i, ui)) (u := none) (st := none) hs rfl (post_val_or_str ⟨Nat.le_trans (sliceText_le z _ _) hz, fin⟩)
    | int j uj => exact wpAny_getItem_str_slice (l := some (i, ui)) (u := some (j, uj)) (st := none) hs rfl (post_val_or_str ⟨Nat.le_trans (sliceText_le z _ _) hz, fin⟩)

def rT1 (g : Str → V) : V → List V → Hp → VK → Prop := fun x xs H Q => ∃ z, x = .str z ∧ xs = [] ∧ Q (g z) H
theorem mt_isalnum : MtR X "str.isalnum" (rT1 fun z => .bl (Txt.isalnum z)) := by
  intro pins s σ H x xs v us Q I rx rs h
  obtain ⟨z, rfl, rfl, q⟩ := h
  obtain ⟨t, rfl⟩ := rx
  cases rs
  exact SC.isalnum ⟨.bl _, H, I, rfl, q⟩
theorem mt_isdigit : MtR X "str.isdigit" (rT1 fun z => .bl (Txt.isdigit z)) := by
  intro pins s σ H x xs v us Q I rx rs h
  obtain ⟨z, rfl, rfl, q⟩ := h
  obtain ⟨t, rfl⟩ := rx
  cases rs
  exact SC.isdigit ⟨.bl _, H, I, rfl, q⟩
theorem mt_upper : MtR X "str.upper" (fun x xs H Q => ∃ z, x = .str z ∧ xs = [] ∧ z.length ≤ 5592405 ∧ Q (.str (Txt.upper z)) H) := by
  intro pins s σ H x xs v us Q I rx rs h
  obtain ⟨z, rfl, rfl, hz, q⟩ := h
  obtain ⟨t, rfl⟩ := rx
  cases rs
  exact SCL.upper hz fun _ => ⟨.str _, H, I.tok _, ⟨_, rfl⟩, q⟩
theorem mt_find3 : MtR X "str.find" (fun x xs H Q => ∃ z y i, x = .str z ∧ xs = [.str y, .int i] ∧ Q (.int (Txt.find3 z y i)) H) := by
  intro pins s σ H x xs v us Q I rx rs h
  obtain ⟨z, y, i, rfl, rfl, q⟩ := h
  obtain ⟨t, rfl⟩ := rx
  obtain ⟨u, w', rfl, ⟨t1, rfl⟩, ⟨t2, rfl⟩⟩ := vals2 rs
  exact SC.find3 ⟨.int _, H, I.tok _, ⟨_, rfl⟩, q⟩
theorem mt_partition : MtR X "str.partition" (fun x xs H Q => ∃ z y, x = .str z ∧ xs = [.str y] ∧ (y.length == 0) = false ∧ z.length ≤ sizeLine ∧
    ∀ p, H p = none → Q (.ref p) (upd H p (.tup [.str (Txt.partition z y).1, .str (Txt.partition z y).2.1, .str (Txt.partition z y).2.2]))) := by
  intro pins s σ H x xs v us Q I rx rs h
  obtain ⟨z, y, rfl, rfl, hy, hz, q⟩ := h
  obtain ⟨t, rfl⟩ := rx
  obtain ⟨u, rfl, t1, rfl⟩ := vals1 rs
  have fin : ∀ (ta tb tc : Tok) (k : Nat), EP X pins σ Q (.ref s.heap.objs.size) { s with heap := s.heap.push { cls := .type "tuple", data := .seq [.str (Txt.partition z y).1 ta, .str (Txt.partition z y).2.1 tb, .str (Txt.partition z y).2.2 tc].toArray }, toks := k } := fun ta tb tc k => by
    refine ⟨.ref s.heap.objs.size, _, I.laid (fun b u e => Heap.get?_push_of_some _ e) (Nat.le_refl _) ?_, rfl, q _ (I.hok.fresh (Nat.le_refl _))⟩
    exact ⟨by show 3 ≤ sizeLine; decide, _, .cons ⟨_, rfl⟩ (.cons ⟨_, rfl⟩ (.cons ⟨_, rfl⟩ .nil)), ⟨_, Heap.get?_push_size _ rfl, rfl, _, rfl⟩⟩
  refine call_meets F.slot_str_partition (typeIs_str _ _ _) F.entry_str_partition (F.args_str_partition_2 _ _) (meets_str_partition z y t t1 hy hz) ?_
  unfold Txt.partition at fin
  revert fin
  cases occurrences z y 0 z.length 1 with
  | nil => intro fin; exact fin _ _ _ _
  | cons i r => intro fin; exact fin _ _ _ _
theorem vals_strs : ∀ (l : List (Str × Tok)), Vals ((l.map (·.1)).map V.str) (strValues l)
  | [] => .nil
  | (x, t) :: r => .cons ⟨t, rfl⟩ (vals_strs r)
theorem mt_split : MtR X "str.split" (fun x xs H Q => ∃ z y, x = .str z ∧ xs = [.str y] ∧ (y.length == 0) = false ∧ z.length + 2 ≤ sizeLine ∧
    ∀ p, H p = none → Q (.ref p) (upd H p (.lst ((Txt.split z y).map V.str)))) := by
  intro pins s σ H x xs v us Q I rx rs h
  obtain ⟨z, y, rfl, rfl, hy, hz, q⟩ := h
  obtain ⟨t, rfl⟩ := rx
  obtain ⟨u, rfl, t1, rfl⟩ := vals1 rs
  have hn : (partsBetween z (occurrences z y 0 z.length (z.length + 1)) y.length).length ≤ sizeLine := by
    have e1 := StrLaws.occ_length_le z y 0 z.length (z.length + 1)
    rw [length_partsBetween]; omega
  have hlen : (Txt.split z y).length ≤ sizeLine := by
    have h1 : 1 ≤ sizeLine := by decide
    unfold Txt.split
    split
    · simpa using h1
    · split
      · simpa using h1
      · exact hn
  have fin : ∀ (l : List (Str × Tok)) (k : Nat), l.map (·.1) = Txt.split z y → EP X pins σ Q (.ref s.heap.objs.size) { s with heap := s.heap.push { cls := .type "list", data := .seq (strValues l).toArray }, toks := k } := fun l k e => by
    refine ⟨.ref s.heap.objs.size, _, I.laid (fun b u e => Heap.get?_push_of_some _ e) (Nat.le_refl _) ?_, rfl, q _ (I.hok.fresh (Nat.le_refl _))⟩
    exact ⟨by rw [List.length_map]; exact hlen, _, 0, by rw [← e]; exact vals_strs l, Heap.get?_push_size _ rfl⟩
  cases h1 : (decide (z.length < y.length) || decide (strKind z < strKind y))
  · cases hf : (occurrences z y 0 z.length (z.length + 1)).isEmpty
    · refine call_meets F.slot_str_split (typeIs_str _ _ _) F.entry_str_split (F.args_str_split_2 _ _) (meets_str_split_sep z y t t1 h1 hy hf (by omega) hn) ?_
      show EP X pins σ Q _ { s with toks := _, heap := s.heap.push { cls := .type "list", data := .seq (strsFrom s.toks (partsBetween z (occurrences z y 0 z.length (z.length + 1)) y.length)).toArray } }
      rw [strsFrom_eq]
      exact fin (numbered s.toks _) _ ((numbered_texts _ _).trans ((if_neg (ne_true_of_eq_false h1)).trans (if_neg (ne_true_of_eq_false hf))).symm)
    · exact call_meets F.slot_str_split (typeIs_str _ _ _) F.entry_str_split (F.args_str_split_2 _ _) (meets_str_split_not_found z y t t1 h1 hy hf)
        (fin [(z, t)] s.toks ((if_neg (ne_true_of_eq_false h1)).trans (if_pos hf)).symm)
  · exact call_meets F.slot_str_split (typeIs_str _ _ _) F.entry_str_split (F.args_str_split_2 _ _) (meets_str_split_cannot_occur z y t t1 h1)
      (fin [(z, t)] s.toks (if_pos h1).symm)
theorem strsAre_of : ∀ {ys : List Str} {us : List Value}, Vals (ys.map V.str) us → StrsAre us ys
  | [], _, .nil => .nil
  | y :: ys, _, .cons r rr => by
    obtain ⟨t, rfl⟩ := r
    exact .cons y t (strsAre_of rr)
theorem mt_join : MtR X "str.join" (fun x xs H Q => ∃ z p ys, x = .str z ∧ xs = [.ref p] ∧ SqL X.K H p (ys.map V.str) ∧ (ys.map (·.length)).sum + ys.length * z.length ≤ 16777216 ∧ Q (.str (Txt.join z ys)) H) := by
  intro pins s σ H x xs v us Q I rx rs h
  obtain ⟨z, p, ys, rfl, rfl, hq, hok, q⟩ := h
  obtain ⟨t, rfl⟩ := rx
  obtain ⟨u, rfl, ru⟩ := vals1 rs
  cases ru
  obtain ⟨its, r, pl, hz⟩ := I.list hq
  exact join_list pl.isList (by simpa using strsAre_of r) hok fun t' k => ⟨.str _, H, I.tok _, ⟨_, rfl⟩, q⟩
theorem op_mul_str : OpR X (binaryOp .Mult) (fun x y H Q => ∃ z n, x = .str z ∧ y = .int n ∧ 0 ≤ n ∧ n ≤ 4096 ∧ z.length ≤ 4095 ∧ Q (.str (Txt.mul z n)) H) := by
  intro pins s σ H x y v u Q I rx ry h
  obtain ⟨z, n, rfl, rfl, h0, h1, h2, q⟩ := h
  obtain ⟨t, rfl⟩ := rx
  obtain ⟨t', rfl⟩ := ry
  refine SB.mul ⟨?_, fun _ _ => ?_, fun _ _ => ?_⟩ fun t' k => ⟨.str _, H, I.tok _, ⟨_, rfl⟩, q⟩
  · have e1 : decide (n < -(2 ^ 63 : Int)) = false := decide_eq_false (by omega)
    have e2 : decide (n ≥ 2 ^ 63) = false := decide_eq_false (by omega)
    rw [e1, e2]; rfl
  · by_cases hn : n = 0
    · subst hn; omega
    · have : (2 ^ 63 - 1 : Int) / n ≥ 4096 := by
        refine (Int.le_ediv_iff_mul_le (by omega)).mpr ?_
        omega
      omega
  · have hm : z.length * n.toNat ≤ 4095 * 4096 := Nat.mul_le_mul h2 (by omega)
    unfold tooLong
    exact decide_eq_false (by rw [sizeLine_eq]; omega)
theorem op_le_str : OpR X (compareOp .LtE) (fun x y H Q => ∃ i j, x = .str i ∧ y = .str j ∧ Q (.bl (!decide (j.cps.toList < i.cps.toList))) H) := by
  intro pins s σ H x y v u Q I rx ry h
  obtain ⟨i, j, rfl, rfl, q⟩ := h
  obtain ⟨t, rfl⟩ := rx
  obtain ⟨t', rfl⟩ := ry
  exact PySem.P.le_str ⟨.bl _, H, I, rfl, q⟩
theorem call_int_text : CallR X (.type "int") (fun xs H Q => ∃ z n, xs = [.str z] ∧ PySem.intText? z = some n ∧ z.length ≤ 640 ∧ Q (.int n) H) := by
  intro pins s σ H xs us Q I r h
  obtain ⟨z, n, rfl, hn, hl, q⟩ := h
  obtain ⟨u, rfl, t, rfl⟩ := vals1 r
  exact PySem.W.KIN.call_text hn hl ⟨.int _, H, I.tok _, ⟨_, rfl⟩, q⟩
end
end L2
set_option Elab.async false
set_option linter.all false
set_option maxRecDepth 100000
set_option maxHeartbeats 4000000
namespace PySem
section
variable {prog : Program} {w : World} {A : Around} {E : Value → Shared → Prop} {R : Result → Shared → Prop} {s : Shared}
theorem compLoop_go {elt target iter : Expr} {scope : Scope} {pos : Pos} {it acc : Value} {env : Env} (I : Nat → Shared → Prop)
    (turn : ∀ n s, I n s → wpAny (model prog w) A (pyNext it) (fun r s₁ => match r with
      | none => R (.ok .next) s₁
      | some v => wpAny (model prog w) A (letOwnedTupleGo target it v) (fun _ s₂ => wpAny (model prog w) A (assign target env v) (fun _ s₃ =>
          wpAny (model prog w) A (eval elt env) (fun x s₄ =>
              wpAny (model prog w) A (call (.builtin "list.append") [acc, x]) (fun _ s₅ => ∃ m, m < n ∧ I m s₅) (notedBy (model prog w) A env fun e s' => R (.error e) s') s₄) (notedBy (model prog w) A env fun e s' => R (.error e) s') s₃) (notedBy (model prog w) A env fun e s' => R (.error e) s') s₂) (notedBy (model prog w) A env fun e s' => R (.error e) s') s₁) (notedBy (model prog w) A env fun e s' => R (.error e) s') s)
    (n : Nat) (h : I n s) :
    codeAny (model prog w) A (.compLoop (.ListComp elt [⟨target, iter, [], 0⟩] scope pos) 0 it acc env) R s := by
  refine codeAny_loop rfl I (fun n s hI => ?_) n h
  show wpAny _ A ((compTurn (.ListComp elt [⟨target, iter, [], 0⟩] scope pos) 0 it acc env).onRaise (fun x => do noteFrame x env; theTreesLotGoes x)) _ _ s
  refine wpAny_noted ?_
  rw [compTurn_list]
  refine wpAny_bind (wpAny_standAt (wpAny_bind (wpAny_mono (turn n s hI) (fun r s₁ h₁ => ?_) fun _ _ h' => h')))
  cases r with
  | none => exact wpAny_pure h₁
  | some v =>
    refine wpAny_bind (wpAny_mono h₁ (fun _ s₂ h₂ => wpAny_bind (wpAny_mono h₂ (fun _ s₃ h₃ => ?_) fun _ _ h' => h')) fun _ _ h' => h')
    refine wpAny_bind (wpAny_tests_nil ?_)
    exact wpAny_bind (wpAny_bind (wpAny_mono h₃ (fun x s₄ h₄ => wpAny_bind (wpAny_mono h₄ (fun _ s₅ h₅ => wpAny_pure (wpAny_pure ⟨rfl, h₅⟩)) fun _ _ h' => h')) fun _ _ h' => h'))
end
end PySem
namespace L2
open PySem PySem.Spec PyProof.Rows PySem.Builtin PySem.Builtin.Str

/-! ### a text is walked -/
def Itx (x : Str) : It := ⟨fun i _ => i < x.cps.size, fun i H v H' => H' = H ∧ ∃ c, x.cps[i]? = some c ∧ v = .str ⟨#[c]⟩, fun i _ => x.cps.size ≤ i⟩
theorem turn_ascii {P : Program} {w : World} {K : PySem.W.Frag} {tg : Expr} (it : Addr) (x : Str) (t : Tok) : Turn P w K tg (Itx x) [it] it (fun i h => h.IsStrIter it "str_ascii_iterator" x t i) where
  mem := by simp
  obj := fun i h st b hb => by
    have e : b = it := by simpa using hb
    subst e
    obtain ⟨o, e, c, d⟩ := st
    exact ⟨o, e, fun v z => by rw [d] at z; cases z⟩
  keep := fun i h h' st k => let ⟨o, ho, r⟩ := st; ⟨o, k it (by simp) o ho, r⟩
  item := by
    intro X hP hw hK hc i pins s σ H E I hf st hg
    subst hP hw hK
    have hg' : i < x.cps.size := hg
    obtain ⟨f0, f1, f2, f3, f4, f5⟩ := hf it (by simp)
    refine wpAny_pyNext_ascii_item st (c := x.cps[i]) (by simp [hg']) fun h' st' sb => ?_
    have I1 : Inv X pins σ H { s with heap := h', toks := s.toks + 1 } := I.turned (fun b o hb e => (sb.2 b hb).trans e) f0 f1 f3 f4 f5
    obtain ⟨o, e, c, d⟩ := id st'
    exact ⟨_, rfl, go_of (s := { s with heap := h', toks := s.toks + 1 }) e c d (by decide) ⟨.str ⟨#[x.cps[i]]⟩, H, I1, ⟨_, rfl⟩, ⟨rfl, x.cps[i], by simp [hg'], rfl⟩, st', fun b hb => (hf b hb).1⟩⟩
  done := by
    intro X hP hw hK hc i pins s σ H E I hf st hg
    subst hP hw hK
    have hg' : x.cps.size ≤ i := hg
    obtain ⟨f0, f1, f2, f3, f4, f5⟩ := hf it (by simp)
    exact wpAny_pyNext_ascii_end (I.ok.hd hc) st (by simp [hg']) fun h' eb => ⟨rfl, I.turned (t' := s.toks) (fun b o hb e => eb b o hb e) f0 f1 f3 f4 f5⟩
  self := fun _ _ _ _ _ st h => wpAny_pyIter_striter_ascii st h
theorem turn_wide {P : Program} {w : World} {K : PySem.W.Frag} {tg : Expr} (it : Addr) (x : Str) (t : Tok) : Turn P w K tg (Itx x) [it] it (fun i h => h.IsStrIter it "str_iterator" x t i) where
  mem := by simp
  obj := fun i h st b hb => by
    have e : b = it := by simpa using hb
    subst e
    obtain ⟨o, e, c, d⟩ := st
    exact ⟨o, e, fun v z => by rw [d] at z; cases z⟩
  keep := fun i h h' st k => let ⟨o, ho, r⟩ := st; ⟨o, k it (by simp) o ho, r⟩
  item := by
    intro X hP hw hK hc i pins s σ H E I hf st hg
    subst hP hw hK
    have hg' : i < x.cps.size := hg
    obtain ⟨f0, f1, f2, f3, f4, f5⟩ := hf it (by simp)
    refine wpAny_pyNext_wide_item st (c := x.cps[i]) (by simp [hg']) fun h' st' sb => ?_
    have I1 : Inv X pins σ H { s with heap := h', toks := s.toks + 1 } := I.turned (fun b o hb e => (sb.2 b hb).trans e) f0 f1 f3 f4 f5
    obtain ⟨o, e, c, d⟩ := id st'
    exact ⟨_, rfl, go_of (s := { s with heap := h', toks := s.toks + 1 }) e c d (by decide) ⟨.str ⟨#[x.cps[i]]⟩, H, I1, ⟨_, rfl⟩, ⟨rfl, x.cps[i], by simp [hg'], rfl⟩, st', fun b hb => (hf b hb).1⟩⟩
  done := by
    intro X hP hw hK hc i pins s σ H E I hf st hg
    subst hP hw hK
    have hg' : x.cps.size ≤ i := hg
    obtain ⟨f0, f1, f2, f3, f4, f5⟩ := hf it (by simp)
    exact wpAny_pyNext_wide_end (I.ok.hd hc) st (by simp [hg']) fun h' eb => ⟨rfl, I.turned (t' := s.toks) (fun b o hb e => eb b o hb e) f0 f1 f3 f4 f5⟩
  self := fun _ _ _ _ _ st h => wpAny_pyIter_striter_wide st h
section
variable {X : Cx} {tg : Expr}
def iStr (tl : TE) : TI := fun σ H R => tl σ H fun x H1 => ∃ z, x = .str z ∧ R (Itx z) H1
theorem pi_str {l : Expr} {tl : TE} (hl : PE X l tl) : PI X tg l (iStr tl) := by
  intro pins s σ H R I h
  refine thn (hl pins s σ H _ I h) fun v s1 ⟨x, H1, I1, r1, q1⟩ => ?_
  obtain ⟨z, e, q⟩ := q1
  subst e
  obtain ⟨t, rfl⟩ := r1
  have fr : ∀ b ∈ [s1.heap.objs.size], FpOk X pins H1 b := fun b hb => by
    have e : b = s1.heap.objs.size := by simpa using hb
    subst e
    exact I1.fpOk (Nat.le_refl _) (I1.hok.fresh (Nat.le_refl _))
  cases ha : z.cps.all (· < 128)
  · exact wpAny_pyIter_wide ha ⟨s1.heap.objs.size, [s1.heap.objs.size], _, _, H1, rfl, I1.kept (t' := s1.toks) fun b o e => Heap.get?_push_of_some _ e, turn_wide _ z t, ⟨_, Heap.get?_push_size _ rfl, rfl, rfl⟩, fr, q⟩
  · exact wpAny_pyIter_ascii ha ⟨s1.heap.objs.size, [s1.heap.objs.size], _, _, H1, rfl, I1.kept (t' := s1.toks) fun b o e => Heap.get?_push_of_some _ e, turn_ascii _ z t, ⟨_, Heap.get?_push_size _ rfl, rfl, rfl⟩, fr, q⟩
end

/-! ### a comprehension of one clause -/
def blk (X : Cx) (scope : Scope) (cl : List (Str × Addr)) (C : Addr) (N' : List Str) (s0 : Shared) (H0 : Hp) (fp : List Addr) : Cx :=
  { X with N := N', s₀ := s0, H₀ := H0, env := compEnvC scope cl C X.env, outer := X.stack, stack := X.stack, ex := fp, fn := fun _ => false, pn := [], xe := fun _ _ => False }
def compBody (js : List Nat) (te : TE) (σ : St) (Q : VK) (J : It) (H1 : Hp) : Prop := ∃ vs : List V, (vs.length = js.length ∧ ∀ (j i : Nat), js[j]? = some i → ∃ v, vs[j]? = some v ∧ σ[i]? = some (some v)) ∧
  ∀ D, H1 D = none → ∃ W : Nat → Nat → List V → Hp → Prop, (∃ m, W 0 m [] (upd H1 D (.lst []))) ∧ ∀ i m ys H, W i m ys H →
    (J.stop i H ∧ Q (.ref D) H) ∨ (J.go i H ∧ ∀ x H', J.yld i H x H' → te (some x :: vs.map some) H' fun v H2 => H2 D = some (.lst ys) ∧ ys.length < sizeLine ∧ ∃ m', m' < m ∧ W (i + 1) m' (ys ++ [v]) (upd H2 D (.lst (ys ++ [v]))))
def tComp (js : List Nat) (wi : TI) (te : TE) : TE := fun σ H Q => wi σ H (compBody js te σ Q)
structure CompOk (X : Cx) (scope : Scope) (cl : List (Str × Addr)) (x : Str) (Nf : List Str) (js : List Nat) : Prop where
  clos : closureFor scope X.env = pure cl
  cell : ∀ y ∈ scope.names, y.2 ≠ .cell
  kind : scope.kind = .function
  names : ∀ y ∈ scope.names, y.2 = .local → scope.names.lookup y.1 = some .local
  hx : scope.names.lookup x = some .local
  sub : ∀ y c, cl.lookup y = some c → X.env.cells.lookup y = some c
  has : ∀ y, ((relabel scope X.env).names.lookup y = some .cell ∨ (relabel scope X.env).names.lookup y = some .free) → ∃ c, cl.lookup y = some c
  nd : (x :: Nf).Nodup
  len : js.length = Nf.length
  frees : ∀ (j : Nat) (y : Str), Nf[j]? = some y → ∃ i, js[j]? = some i ∧ X.N[i]? = some y ∧ X.env.scope.names.lookup y = some .cell ∧ ((relabel scope X.env).names.lookup y = some .cell ∨ (relabel scope X.env).names.lookup y = some .free)
section
variable {X : Cx}
theorem blk_start {pins : List (Addr × Obj)} {σ : St} {H : Hp} {s : Shared} {scope : Scope} {cl : List (Str × Addr)} {x : Str} {Nf : List Str} {js : List Nat} {vs : List V} {fp : List Addr} {h1 : Heap} {tk : Nat} {m : Str → Option Value}
    (K : CompOk X scope cl x Nf js) (I : Inv X pins σ H s) (hvl : vs.length = js.length) (hvs : ∀ (j i : Nat), js[j]? = some i → ∃ v, vs[j]? = some v ∧ σ[i]? = some (some v))
    (hf : ∀ b ∈ fp, FpOk X pins H b) (hlt : ∀ b ∈ fp, b < s.heap.objs.size) (ns : h1.Ns s.heap.objs.size m) (keep : ∀ b o, s.heap.get? b = some o → h1.get? b = some o) :
    Inv (blk X scope cl s.heap.objs.size (x :: Nf) s H fp) [] (none :: vs.map some) H { s with heap := h1, toks := tk } := by
  refine ⟨⟨I.ok.mod, K.kind, I.ok.glob, I.ok.blt, Nat.le_refl _, fun y z c e1 e2 => I.ok.inj y z c (K.sub y c e1) (K.sub z c e2), fun y hy => K.has y hy, fun y c e _ => (Bool.noConfusion (show false = true from e)), I.ok.hd, I.ok.frames, .inl rfl,
    fun b hb => ⟨Nat.ne_of_lt (hlt b hb), fun y c e => (hf b hb).2.2.2.2.1 y c (K.sub y c e)⟩, I.bs, Nat.le_trans I.ok.bsz I.sz, fun b o e hb => ?_, fun b hb z => ?_, I.stack, I.stkFree⟩,
    rfl, I.bare, Un.kept keep, ⟨m, ns, fun i y v e1 e2 e3 => ?_⟩, fun y c e => ?_, I.hok.fresh (Nat.le_refl _), fun y c e => I.freeC y c (K.sub y c e), fun p hp => absurd (show p ∈ ([] : List (Addr × Obj)) from hp) (by simp), I.hok.kept keep, ?_⟩
  · rcases (hf b hb).2.2.2.1 with z | z
    · exact I.ok.noex b o e z
    · exact absurd (Nat.lt_of_lt_of_le (Heap.lt_size e) (Nat.le_trans I.ok.bsz z)) (Nat.lt_irrefl _)
  · rcases List.mem_cons.mp (I.stkSub b z) with e | e
    · exact (hf b hb).2.1 e
    · exact (hf b hb).2.2.1 e
  · cases i with
    | zero => simp at e2
    | succ j =>
      have e1' : Nf[j]? = some y := e1
      obtain ⟨i0, hj, hN, hk, hr⟩ := K.frees j y e1'
      obtain ⟨v', hv1, hv2⟩ := hvs j i0 hj
      have ev : v = v' := by
        have e2' : (vs.map some)[j]? = some (some v) := e2
        rw [List.getElem?_map, hv1] at e2'
        simpa using e2'.symm
      subst ev
      obtain ⟨m0, hn0, hl⟩ := I.loc
      obtain ⟨u, r, l⟩ := hl i0 y v hN hv2 (.inr (.inl hk))
      refine ⟨u, r, ?_⟩
      rcases l with ⟨l1, _⟩ | ⟨_, c, hc, o, ho, hd⟩
      · have l1' : X.env.scope.names.lookup y = some .local := l1
        rw [hk] at l1'; cases l1'
      · obtain ⟨c', hc'⟩ := K.has y hr
        have ec := K.sub y c' hc'
        rw [hc] at ec; cases ec
        exact .inr ⟨hr, c, hc', o, keep c o ho, hd⟩
  · obtain ⟨v, o, ho, hd⟩ := I.cell y c (K.sub y c e)
    exact ⟨v, o, keep c o ho, hd⟩
  · show (none :: vs.map some).length = (x :: Nf).length
    rw [List.length_cons, List.length_cons, List.length_map, hvl, K.len]
theorem pe_comp {elt iter : Expr} {x : Str} {px pos : Pos} {scope : Scope} {cl : List (Str × Addr)} {Nf : List Str} {js : List Nat} {wi : TI} {te : TE} (K : CompOk X scope cl x Nf js) (hc : X.calm = true) (hi : PI X (.Name x px) iter wi)
    (he : ∀ C s0 H0 fp, PE (blk X scope cl C (x :: Nf) s0 H0 fp) elt te) (hs : ∀ x, foldedSetIterable iter X.env x = pure x := by intro _; rfl) :
    PE X (.ListComp elt [⟨.Name x px, iter, [], 0⟩] scope pos) (tComp js wi te) := by
  intro pins s σ H Q I h
  rw [eval_ListComp]
  refine wpAny_comprehension_free (use := none) rfl hs K.clos K.kind K.names (thn (hi pins s σ H _ I h) fun v s1 h1 => thn h1 fun itv s2 h2 => ?_)
  obtain ⟨it, fp, tn, J, H2, e, I2, T, st2, f2, vs, ⟨hvl, hvs⟩, hW⟩ := h2
  subst e
  have hD : H2 s2.heap.objs.size = none := I2.hok.fresh (Nat.le_refl _)
  obtain ⟨W, ⟨m0, w0⟩, turn⟩ := hW s2.heap.objs.size hD
  have hlt2 : ∀ b ∈ fp, b < s2.heap.objs.size := fun b hb => let ⟨o, e, _⟩ := T.obj _ _ st2 b hb; Heap.lt_size e
  refine wpAny_newObj_type (wpAny_newFunctionEnv K.cell (by intro y hy; simp at hy) (fun h₁ hns₁ hsb₁ => ?_) K.kind)
  dsimp only at hns₁ hsb₁ ⊢
  generalize hP3 : s2.heap.push { cls := .type "list", dict := none, data := .seq ([] : List Value).toArray } = P3 at hns₁ hsb₁ ⊢
  obtain ⟨s3, hs3⟩ : ∃ s3 : Shared, s3 = { s2 with heap := P3 } := ⟨_, rfl⟩
  have eP : P3 = s3.heap := by rw [hs3]
  rw [eP] at hns₁ hsb₁ ⊢
  have I3 : Inv X pins σ (upd H2 s2.heap.objs.size (.lst [])) s3 := by
    rw [hs3, ← hP3]
    exact I2.laid (t' := s2.toks) (fun b u e => Heap.get?_push_of_some _ e) (Nat.le_refl _) ⟨Nat.zero_le _, [], 0, .nil, Heap.get?_push_size _ rfl⟩
  have keep23 : ∀ b o, s2.heap.get? b = some o → s3.heap.get? b = some o := fun b o e => by rw [← eP, ← hP3]; exact Heap.get?_push_of_some _ e
  have f3 : ∀ b ∈ fp, FpOk X pins (upd H2 s2.heap.objs.size (.lst [])) b := fun b hb => ⟨by rw [upd_ne (Nat.ne_of_lt (hlt2 b hb))]; exact (f2 b hb).1, (f2 b hb).2⟩
  have st3 : tn 0 s3.heap := T.keep _ _ _ st2 fun b hb o e => keep23 b o e
  have hlt3 : ∀ b ∈ fp, b < s3.heap.objs.size := fun b hb => let ⟨o, e, _⟩ := T.obj _ _ st3 b hb; Heap.lt_size e
  have keep34 : ∀ b o, s3.heap.get? b = some o → h₁.get? b = some o := fun b o e => hsb₁.extBut b o (Nat.ne_of_lt (Heap.lt_size e)) (Heap.get?_push_of_some _ e)
  have st4 : tn 0 h₁ := T.keep _ _ _ st3 fun b hb o e => keep34 b o e
  have fr3 : ∀ b ∈ fp, upd H2 s2.heap.objs.size (.lst []) b = none := fun b hb => (f3 b hb).1
  have stat : ∀ {H' : Hp}, (∀ b ∈ fp, H' b = none) → ∀ b ∈ fp, FpOk (blk X scope cl s3.heap.objs.size (x :: Nf) s3 (upd H2 s2.heap.objs.size (.lst [])) fp) [] H' b := fun {H'} hn b hb => by
    refine ⟨hn b hb, Nat.ne_of_lt (hlt3 b hb), fun z => ?_, .inl hb, fun y c e => (f3 b hb).2.2.2.2.1 y c (K.sub y c e), fun p hp => absurd (show p ∈ ([] : List (Addr × Obj)) from hp) (by simp)⟩
    rcases List.mem_cons.mp (I3.stkSub b z) with e | e
    · exact (f3 b hb).2.1 e
    · exact (f3 b hb).2.2.1 e
  have fin : ∀ {σ' : St} {H' : Hp} {s' : Shared}, Inv (blk X scope cl s3.heap.objs.size (x :: Nf) s3 (upd H2 s2.heap.objs.size (.lst [])) fp) [] σ' H' s' → Q (.ref s2.heap.objs.size) H' →
      compPost (model X.prog X.w) X.A X.xe none (EP X pins σ Q) (.ref s2.heap.objs.size) s3.heap.objs.size (.ok .next) s' := fun {σ' H' s'} J q => by
    obtain ⟨m, hn, _⟩ := J.loc
    refine ⟨m, hn, fun h' hs' => ⟨.ref s2.heap.objs.size, H', ?_, rfl, q⟩⟩
    have ne : ∀ b o, s3.heap.get? b = some o → b ≠ s3.heap.objs.size := fun b o e => Nat.ne_of_lt (Heap.lt_size e)
    have nC : ∀ b u, H' b = some u → b ≠ s3.heap.objs.size := fun b u e z => by
      have f := J.free
      rw [z] at e
      have f' : H' s3.heap.objs.size = none := f
      rw [f'] at e; cases e
    have B := J.base
    refine I3.call' (ch := fp) (s' := { s' with heap := h' }) J.os ?_ (fun b u e => (J.hok b u e).stay (fun c v hc q => hs'.extBut c v ?_ q) (fun _ q => q) fun _ _ q => q) J.bare fun b hb => ⟨(f3 b hb).2.2.2.1, (f3 b hb).2.1, (f3 b hb).2.2.2.2.1, (f3 b hb).2.2.2.2.2⟩
    · exact ⟨fun b o e n hb hx => hs'.extBut b o (ne b o e) (B.keep b o e n hb hx), fun b o e n hb hx => let ⟨sl, z⟩ := B.slot b o e n hb hx; ⟨sl, hs'.extBut b _ (ne b o e) z⟩, fun b o e n hx => B.free b o e n hx,
        fun b o e hx => let ⟨o', z⟩ := B.there b o e hx; ⟨o', hs'.extBut b _ (ne b o e) z⟩, B.tups, B.frzs, B.tbls⟩
    · rcases hc with z | z
      · rw [z]; exact nC b u e
      · exact nC c _ z
  have loop : ∀ s4 : Shared, s4 = { s3 with heap := h₁, toks := s3.toks + ([] : List (Str × Value)).length } →
      codeAny (model X.prog X.w) X.A (.compLoop (.ListComp elt [⟨.Name x px, iter, [], 0⟩] scope pos) 0 (.ref it) (.ref s2.heap.objs.size) (compEnvC scope cl s3.heap.objs.size X.env))
        (compPost (model X.prog X.w) X.A X.xe none (EP X pins σ Q) (.ref s2.heap.objs.size) s3.heap.objs.size) s4 := by
    rintro s4 rfl
    have I4 := blk_start (x := x) (tk := s3.toks + ([] : List (Str × Value)).length) K I3 hvl hvs f3 hlt3 hns₁ keep34
    refine compLoop_go (fun n s' => ∃ i ox ys H', Inv (blk X scope cl s3.heap.objs.size (x :: Nf) s3 (upd H2 s2.heap.objs.size (.lst [])) fp) [] (ox :: vs.map some) H' s' ∧ tn i s'.heap ∧ (∀ b ∈ fp, H' b = none) ∧ W i n ys H') ?_ m0 ⟨0, none, [], _, I4, st4, fr3, w0⟩
    rintro n s5 ⟨i, ox, ys, H5, I5, st5, fr5, w5⟩
    rcases turn i n ys H5 w5 with ⟨stop, qn⟩ | ⟨go, step⟩
    · refine wpAny_mono (T.done (blk X scope cl s3.heap.objs.size (x :: Nf) s3 (upd H2 s2.heap.objs.size (.lst [])) fp) rfl rfl rfl hc i [] s5 _ H5 _ I5 (stat fr5) st5 stop) (fun r s6 ⟨hr, I6⟩ => ?_) fun _ _ z => z
      subst hr
      exact fin I6 qn
    · refine wpAny_mono (T.item (blk X scope cl s3.heap.objs.size (x :: Nf) s3 (upd H2 s2.heap.objs.size (.lst [])) fp) rfl rfl rfl hc i [] s5 _ H5 _ I5 (stat fr5) st5 go) (fun r s6 ⟨u, hr, h6⟩ => ?_) fun _ _ z => z
      subst hr
      refine wpAny_mono h6 (fun _ s7 ⟨x7, H7, I7, r7, y7, st7, fr7⟩ => ?_) fun _ _ z => z
      have I7' := I7.pinned (stat fr7) (T.obj _ _ st7)
      have hx' : (relabel scope X.env).names.lookup x = some .local := lookup_relabel_local K.hx
      refine wpAny_mono (pg_name (X := blk X scope cl s3.heap.objs.size (x :: Nf) s3 (upd H2 s2.heap.objs.size (.lst [])) fp) (pos := px) (i := 0) K.nd rfl (.inl hx') (.inr hx') _ s7 _ H7 x7 u (fun σ' H' => σ' = some x7 :: vs.map some ∧ te σ' H' _) I7' r7 ⟨rfl, step x7 H7 y7⟩)
        (fun _ s8 ⟨σ8, H8, I8, e8, q8⟩ => ?_) fun _ _ z => False.elim z
      subst e8
      refine wpAny_mono (he s3.heap.objs.size s3 _ fp _ s8 _ H8 _ I8 q8) (fun v9 s9 ⟨v, H9, I9, r9, hD9, hz9, m', hm', w9⟩ => ?_) fun _ _ z => False.elim z
      refine wpAny_mono (mt_append (X := blk X scope cl s3.heap.objs.size (x :: Nf) s3 (upd H2 s2.heap.objs.size (.lst [])) fp) _ s9 _ H9 (.ref s2.heap.objs.size) [v] (.ref s2.heap.objs.size) [v9] (fun _ H' => H' = upd H9 s2.heap.objs.size (.lst (ys ++ [v]))) I9 rfl (.cons r9 .nil) ⟨_, ys, v, rfl, rfl, hD9, hz9, rfl⟩)
        (fun _ s10 ⟨_, H10, I10, _, e10⟩ => ?_) fun _ _ z => False.elim z
      subst e10
      refine ⟨m', hm', i + 1, some x7, ys ++ [v], _, I10.unpinned, T.keep _ _ _ st7 fun b hb o e => (I10.pin (b, o) (List.mem_append_right _ (List.mem_append_right _ (mem_pinsAt hb e)))).1, fun b hb => ?_, w9⟩
      obtain ⟨o, e, d⟩ := T.obj _ _ st7 b hb
      exact (I10.pin (b, o) (List.mem_append_right _ (List.mem_append_right _ (mem_pinsAt hb e)))).2.1
  have e4 : ({ s2 with heap := h₁, toks := s2.toks + ([] : List (Str × Value)).length } : Shared) = { s3 with heap := h₁, toks := s3.toks + ([] : List (Str × Value)).length } := by rw [hs3]
  rw [e4]
  exact codeAny_compStart_list (loop _ rfl) (T.self _ 0 _ _ _ st4 (loop _ rfl))
end
end L2
set_option Elab.async false
set_option linter.all false
set_option maxRecDepth 100000
set_option maxHeartbeats 4000000
namespace L2
open PySem PySem.Spec PyProof.Rows PySem.Builtin PySem.Builtin.Str
section
variable {X : Cx}
/-! ### all of a list of truths -/
theorem vals_bools : ∀ {bs : List Bool} {us : List Value}, Vals (bs.map V.bl) us → us = bs.map Value.bool
  | [], _, .nil => rfl
  | b :: bs, _, .cons r rr => by
    have e : _ = Value.bool b := r
    rw [e, vals_bools rr]; rfl
theorem all_getD (bs : List Bool) : (List.range bs.length).all (fun j => (bs[j]?).getD true) = bs.all id := by
  rw [Bool.eq_iff_iff, List.all_eq_true, List.all_eq_true]
  constructor
  · intro h x hx
    obtain ⟨i, hi, rfl⟩ := List.mem_iff_getElem.mp hx
    have := h i (List.mem_range.mpr hi)
    simpa [hi] using this
  · intro h j hj
    have hj' := List.mem_range.mp hj
    have := h _ (List.getElem_mem hj')
    simpa [hj'] using this
theorem call_all (hc : X.calm = true) : CallR X (.builtin "all") (fun xs H Q => ∃ (p : Addr) (bs : List Bool), xs = [.ref p] ∧ SqL X.K H p (bs.map V.bl) ∧ Q (.bl (bs.all id)) H) := by
  intro pins s σ H xs us Q I r h
  obtain ⟨p, bs, rfl, hq, q⟩ := h
  obtain ⟨u, rfl, ru⟩ := vals1 r
  cases ru
  obtain ⟨its, rv, pl, hz⟩ := I.list hq
  have ei := vals_bools rv
  subst ei
  have hpl : p < s.heap.objs.size := let ⟨o, n, e, _⟩ := pl; Heap.lt_size e
  refine call_all_walk (wpAny_pyIter_list pl.isList ?_)
  refine ⟨s.heap.objs.size, [s.heap.objs.size, p], [s.heap.objs.size], (bs.map Value.bool).toArray.size, _, _, (fun j => (bs[j]?).getD true), rfl,
    Walks.list (A := X.A.in1) (I.ok.hd hc) _ p (Nat.ne_of_lt hpl) (bs.map Value.bool).toArray, ⟨⟨_, Heap.get?_push_size _ rfl, rfl, rfl⟩, ?_⟩, fun i v s' Q' E' hP hQ' => ?_, fun h' tk k => ?_⟩
  · obtain ⟨o, ho, r⟩ := pl.isList
    exact ⟨o, Heap.get?_push_of_some _ ho, r⟩
  · have hP' : (bs.map Value.bool)[i]? = some v := by simpa using hP
    rw [List.getElem?_map] at hP'
    cases e : bs[i]? with
    | none => rw [e] at hP'; cases hP'
    | some b =>
      rw [e] at hP'
      have e' : Value.bool b = v := by simpa using hP'
      subst e'
      have hQ2 : Q' b s' := by simpa [e] using hQ'
      exact wpAny_truthy_bool hQ2
  · have e1 : (bs.map Value.bool).toArray.size = bs.length := by simp
    rw [e1, all_getD bs]
    refine ⟨.bl _, H, I.kept fun b o e => k b o ?_ (Heap.get?_push_of_some _ e), rfl, q⟩
    intro hm
    exact Nat.ne_of_lt (Heap.lt_size e) (List.mem_singleton.mp hm)
/-! ### isinstance -/
theorem call_isinst : CallR X (.builtin "isinstance") (fun xs H Q => ∃ x T t b, xs = [x, .ty T] ∧ TyOf X.K H x t ∧ PySem.W.kitOne X.K t (.type T) = some b ∧ Q (.bl b) H) := by
  intro pins s σ H xs us Q I r h
  obtain ⟨x, T, t, b, rfl, ty, hk, q⟩ := h
  obtain ⟨u, w', rfl, r1, r2⟩ := vals2 r
  cases r2
  exact isinst_ok I r1 ty hk fun tk => ⟨.bl b, H, I.tok _, rfl, q⟩
/-! ### {} -/
theorem Inv.big {pins : List (Addr × Obj)} {σ : St} {H : Hp} {s : Shared} (I : Inv X pins σ H s) : sysModules < s.heap.objs.size := by
  have h : mainGlobals < s.heap.objs.size := (I.mod.glob.keeps I.bk).lt
  exact Nat.lt_trans (by decide) h
theorem dk_empty {P : Program} {w : World} {H : Hp} (h : Heap) (hb : sysModules < h.objs.size) : ObjOk P w H (h.push { cls := .type "dict", data := .dict #[] }) h.objs.size (.dK []) :=
  ⟨Nat.zero_le _, beq_eq_false_iff_ne.mpr (Ne.symm (Nat.ne_of_lt hb)), [], .nil, Heap.DictOf.new h⟩
def tDNewK : TE := fun _ H Q => ∀ p, H p = none → Q (.ref p) (upd H p (.dK []))
theorem pe_dnewK {pos : Pos} : PE X (.Dict [] [] pos) tDNewK := fun pins s σ H Q I h =>
  wpAny_Dict_empty ⟨.ref s.heap.objs.size, _, I.laid (a := s.heap.objs.size) (o := .dK []) (t' := s.toks) (fun _ _ q => Heap.get?_push_of_some _ q) (Nat.le_refl _) (dk_empty s.heap I.big), rfl, h _ (I.hok.fresh (Nat.le_refl _))⟩
/-! ### join at a written text, with the tokens that it leaves; replace of one written text by another -/
def PEk (X : Cx) (e : Expr) (t : TE) : Prop :=
  ∀ (pins : List (Addr × Obj)) (s : Shared) (σ : St) (H : Hp) (Q : VK), Inv X pins σ H s → t σ H Q → wpAny (model X.prog X.w) X.A (eval e X.env) (fun u s' => EP X pins σ Q u s' ∧ 1 ≤ s'.toks) X.xe s
theorem thk {α : Type} {t : Sem α} {Q : α → Shared → Prop} {M : Model} {A : Around} {E : Value → Shared → Prop} {s : Shared} (hn : 1 ≤ s.toks) (h : wpAny M A t Q E s) : wpAny M A t (fun a s' => Q a s' ∧ 1 ≤ s'.toks) E s :=
  wpAny_mono (wpAny_toks_of hn h) (fun _ _ x => ⟨x.2, x.1⟩) fun _ _ x => x.2
theorem pek_bmc {z : Str} {kz : Nat} {pz : Pos} {e : Expr} {es : List Expr} {t : TA} {name : Str} {apos cpos : Pos} {id : String} {r : V → List V → Hp → VK → Prop} (slot : Slot "str" name id) (hty : typeOf (.builtin id) = pure (.type "method_descriptor")) (hm : MtR X id r) (ha : PA X (e :: es) t)
    (hbase : attributeBase (.Constant (.str z) kz pz) name X.env (eval (.Constant (.str z) kz pz) X.env) = eval (.Constant (.str z) kz pz) X.env := by rfl)
    (hfew : ((backTo cpos (starEach (e :: es) X.env)).all (fun x => !x.1) && (backToKw cpos (keywordEach [] X.env)).all (fun x => x.1.isSome)
      && decide ((e :: es).length + ([] : List Keyword).length + (if ([] : List Keyword).isEmpty then 0 else 1) < 30)) = true := by rfl)
    (hline : (apos.endLine == cpos.line) = true := by rfl) (hs : starEach (e :: es) X.env = (false, eval e X.env) :: starEach es X.env := by rfl) (hplain : (backTo cpos (starEach es X.env)).any (·.1) = false := by rfl) :
    PEk X (.Call (.Attribute (.Constant (.str z) kz pz) name apos) (e :: es) [] cpos) (fun σ H Q => t σ H fun xs H2 => r (.str z) xs H2 Q) := by
  intro pins s σ H Q I h
  refine wpAny_Call_method_late hbase hfew hline rfl (Calls.Constant_str ?_)
  have I1 : Inv X pins σ H { s with toks := s.toks + 1 } := I.tok _
  refine ⟨"str", id, F.plainAttrs_str, slot, hty, typeIs_str _ _ _, (fun _ e => nomatch e), ?_⟩
  refine thk (Nat.le_add_left 1 _) ?_
  have hA := ha cpos pins _ σ H _ I1 h
  rw [hs] at hA ⊢
  refine Calls.callWith_builtin (by show (false || (backTo cpos (starEach es X.env)).any (·.1)) = false; rw [hplain] <;> rfl) (Calls.evalArgs_plain ?_)
  exact thn hA fun us s2 ⟨vs, H2, I2, r2, q2⟩ => hm pins s2 σ H2 (.str z) vs _ us Q I2 ⟨_, rfl⟩ r2 q2
theorem pe_replace {o : Expr} {to : TE} {y z : Str} {k1 k2 : Nat} {p1 p2 apos cpos : Pos} (ho : PEk X o to) (hyz : (y == z) = false)
    (hbase : attributeBase o "replace" X.env (eval o X.env) = eval o X.env := by rfl) (hline : (apos.endLine == cpos.line) = true := by rfl) :
    PE X (.Call (.Attribute o "replace" apos) [.Constant (.str y) k1 p1, .Constant (.str z) k2 p2] [] cpos) (fun σ H Q => to σ H fun v H1 => ∃ x, v = .str x ∧ x.length + (x.length + 1) * z.length ≤ 16777216 ∧ Q (.str (Txt.replace x y z)) H1) := by
  intro pins s σ H Q I h
  refine wpAny_Call_method_late hbase rfl hline rfl (thn (ho pins s σ H _ I h) fun v s1 ⟨⟨x, H1, I1, r1, q1⟩, htk⟩ => ?_)
  obtain ⟨x', e, hb, q⟩ := q1
  subst e
  obtain ⟨t, rfl⟩ := r1
  refine ⟨"str", "str.replace", F.plainAttrs_str, F.slot_str_replace, F.type_str_replace, typeIs_str _ _ _, (fun _ e => nomatch e), ?_⟩
  refine Calls.callWith_builtin rfl (Calls.evalArgs_plain ?_)
  refine Calls.spliced_cons (Calls.Constant_str (k := k1) (pos := p1) (Calls.spliced_cons (Calls.Constant_str (k := k2) (pos := p2) (Calls.spliced_nil ?_))))
  exact SC.replace (by show s1.toks ≠ 0; omega) (by show s1.toks + 1 ≠ 0; omega) (by show s1.toks ≠ s1.toks + 1; omega) hyz hb fun t' k => ⟨.str _, H1, (I1.tok _), ⟨_, rfl⟩, q⟩
end
end L2
set_option Elab.async false
set_option linter.all false
set_option maxRecDepth 100000
set_option maxHeartbeats 4000000
namespace GS
open PySem L2 PyProof.Rows
/-! ### a def that is there, with its promise -/
structure Def (P : Program) (w : World) (K : PySem.W.Frag) (mg : Str → Option Value) (base : Heap) (name : Str) (ps : List Str) (k : Nat) (sp : Sp) : Prop where
  ex : ∃ (f : Addr) (fd : FuncData), mg name = some (.ref f) ∧ PySem.W.keepIn K (.ref f) = true ∧ Binds K fd ps [] ∧ FnOk P w K mg base CX0 k f fd ps sp
theorem pe_def {X : Cx} {name : Str} {ps : List Str} {k k' : Nat} {sp : Sp} {e : Expr} {es : List Expr} {t : TA} {p pos : Pos} (F : Def X.prog X.w X.K X.mg X.base name ps k sp) (hr : Room k' X.A) (hk : k ≤ k') (hg : Gl X name) (ha : PA X (e :: es) t)
    (hdb : (name == ("__debug__" : Str)) = false := by decide) (he : starEach (e :: es) X.env = (false, eval e X.env) :: starEach es X.env := by rfl) (hpl : (backTo pos (starEach es X.env)).any (·.1) = false := by rfl) :
    PE X (.Call (.Name name p) (e :: es) [] pos) (tCall sp [] E0 t) := by
  obtain ⟨f, fd, h1, h2, h3, h4⟩ := F.ex
  exact pe_call (h4.mono hk) hr hg h1 h2 h3 .nil pass0 ha hdb he hpl
theorem pe_def0 {X : Cx} {name : Str} {ps : List Str} {k k' : Nat} {sp : Sp} {p pos : Pos} (F : Def X.prog X.w X.K X.mg X.base name ps k sp) (hr : Room k' X.A) (hk : k ≤ k') (hg : Gl X name) (hdb : (name == ("__debug__" : Str)) = false := by decide) :
    PE X (.Call (.Name name p) [] [] pos) (tCall sp [] E0 tNil) := by
  obtain ⟨f, fd, h1, h2, h3, h4⟩ := F.ex
  exact pe_call0 (h4.mono hk) hr hg h1 h2 h3 .nil pass0 hdb
theorem def_mk {P : Program} {w : World} {K : PySem.W.Frag} {mg : Str → Option Value} {base : Heap} {name : Str} {ps : List Str} {k : Nat} {sp : Sp} {st : Stmt} {f : Addr} {fd : FuncData} (F : Fun K name name st f fd) (hm : mg name = some (.ref f)) (hb : Binds K fd ps []) (h : FnOk P w K mg base CX0 k f fd ps sp) :
    Def P w K mg base name ps k sp := ⟨f, fd, hm, F.kp, hb, h⟩
/-- a text of the module -/
theorem pe_gstr {X : Cx} {x : Str} {z : Str} {pos : Pos} (hg : Gl X x) (hm : ∃ t, X.mg x = some (.str z t)) (hd : (x == ("__debug__" : Str)) = false := by decide) : PE X (.Name x pos) (tC (.str z)) := by
  obtain ⟨t, e⟩ := hm
  exact pe_glob hg e ⟨t, rfl⟩ hd
theorem pe_gint {X : Cx} {x : Str} {z : Int} {pos : Pos} (hg : Gl X x) (hm : ∃ t, X.mg x = some (.int z t)) (hd : (x == ("__debug__" : Str)) = false := by decide) : PE X (.Name x pos) (tC (.int z)) := by
  obtain ⟨t, e⟩ := hm
  exact pe_glob hg e ⟨t, rfl⟩ hd
/-- a tuple of texts of the module -/
def TupG (K : PySem.W.Frag) (mg : Str → Option Value) (x : Str) (xs : List V) : Prop := ∃ p, mg x = some (.ref p) ∧ ∀ H, SqT K H p xs
def tGT (K : PySem.W.Frag) (xs : List V) : TE := fun _ H Q => ∀ p, SqT K H p xs → Q (.ref p) H
theorem pe_gtup {X : Cx} {x : Str} {xs : List V} {pos : Pos} (hg : Gl X x) (hm : TupG X.K X.mg x xs) (hd : (x == ("__debug__" : Str)) = false := by decide) : PE X (.Name x pos) (tGT X.K xs) := by
  obtain ⟨p, e, hp⟩ := hm
  intro pins s σ H Q I h
  exact pe_glob (v := .ref p) hg e rfl hd pins s σ H Q I (h p (hp H))
/-! ### texts by their codes -/
def S (l : List Nat) : Str := ⟨l.toArray⟩
theorem S_cps (l : List Nat) : (S l).cps.toList = l := by simp [S]
theorem S_of (z : Str) : S z.cps.toList = z := by cases z; simp [S]
theorem S_inj {a b : List Nat} (h : S a = S b) : a = b := by rw [← S_cps a, ← S_cps b, h]
theorem S_len (l : List Nat) : (S l).length = l.length := by simp [S, Str.length]
theorem len_cps (z : Str) : z.length = z.cps.toList.length := by simp [Str.length]
theorem S_eq_iff (a b : List Nat) : decide (S a = S b) = (a == b) := by
  rw [Bool.eq_iff_iff]
  simp only [decide_eq_true_eq, beq_iff_eq]
  exact ⟨S_inj, fun h => by rw [h]⟩
theorem S_beq (a b : List Nat) : (S a == S b) = (a == b) := by
  rw [Bool.eq_iff_iff]
  simp only [beq_iff_eq]
  exact ⟨S_inj, fun h => by rw [h]⟩
theorem S_one (c : Nat) : S [c] = ⟨#[c]⟩ := rfl
def letters : Str := "abcdefghijklmnopqrstuvwxyzABCDEFGHIJKLMNOPQRSTUVWXYZ"
def figures : Str := "0123456789"
theorem in_letters (c : Nat) : decide (c ∈ letters.cps.toList) = isLet c := by
  by_cases h : c < 128
  · have : ∀ c, c < 128 → decide (c ∈ letters.cps.toList) = isLet c := by decide +kernel
    exact this c h
  · have e : isLet c = false := by
      unfold isLet
      simp only [Bool.or_eq_false_iff, Bool.and_eq_false_iff, decide_eq_false_iff_not]
      omega
    rw [e, decide_eq_false_iff_not]
    have : ∀ y ∈ letters.cps.toList, y < 128 := by decide +kernel
    exact fun hm => h (this c hm)
theorem in_figures (c : Nat) : decide (c ∈ figures.cps.toList) = isDig c := by
  by_cases h : c < 128
  · have : ∀ c, c < 128 → decide (c ∈ figures.cps.toList) = isDig c := by decide +kernel
    exact this c h
  · have e : isDig c = false := by
      unfold isDig
      simp only [Bool.and_eq_false_iff, decide_eq_false_iff_not]
      omega
    rw [e, decide_eq_false_iff_not]
    have : ∀ y ∈ figures.cps.toList, y < 128 := by decide +kernel
    exact fun hm => h (this c hm)
/-- «in» a tuple or list of texts -/
theorem inV_strs (l : List Nat) (xs : List (List Nat)) : inV (.str (S l)) (xs.map fun y => V.str (S y)) = xs.any fun y => y == l := by
  unfold inV
  rw [List.any_map]
  congr 1
  funext y
  exact S_beq y l
theorem flat_strs (xs : List (List Nat)) : (xs.map fun y => V.str (S y)).all flatV = true := by
  rw [List.all_map, List.all_eq_true]
  exact fun _ _ => rfl
theorem same_new {H : Hp} {p : Addr} (h : H p = none) (o : HO) : Same H (upd H p o) := fun b u q => by rw [upd_ne (ne_of_none q h)]; exact q
theorem same_upd {H H' : Hp} {p : Addr} (e : Same H H') (h : H p = none) (o : HO) : Same H (upd H' p o) := fun b u q => by rw [upd_ne (ne_of_none q h)]; exact e b u q
/-- no name of the block is taken from around -/
theorem compok0 {X : Cx} {scope : Scope} {x : Str} (hfree : ∀ y ∈ scope.names, y.2 ≠ .free) (hcell : ∀ y ∈ scope.names, y.2 ≠ .cell) (hkind : scope.kind = .function) (hnames : ∀ y ∈ scope.names, y.2 = .local → scope.names.lookup y.1 = some .local) (hx : scope.names.lookup x = some .local) :
    CompOk X scope [] x [] [] := by
  have e : (relabel scope X.env).names = scope.names := by
    show scope.names.map _ = scope.names
    refine map_eq_self fun y hy => ?_
    obtain ⟨n, k⟩ := y
    have : (k == NameKind.free) = false := by simpa using hfree _ hy
    simp [this]
  refine ⟨closureFor_none hfree, hcell, hkind, hnames, hx, (fun _ _ h => by cases h), (fun y hy => ?_), by simp, rfl, (fun j y h => by simp at h)⟩
  rw [e] at hy
  rcases hy with hy | hy
  · exact absurd rfl (hcell _ (PySem.mem_of_lookup hy))
  · exact absurd rfl (hfree _ (PySem.mem_of_lookup hy))
/-- a comprehension's turns: each makes the value g i of the i-th thing, and changes nothing that was -/
theorem comp_turns {J : It} {te : TE} {H : Hp} {Q : VK} {vs : List V} (n : Nat) (g : Nat → V) (hn : n ≤ 1000000) (hstop : ∀ H', J.stop n H') (hgo : ∀ i H', i < n → J.go i H')
    (hte : ∀ i x H1 H' Q', i < n → Same H H1 → J.yld i H1 x H' → (∀ H'', Same H1 H'' → Q' (g i) H'') → te (some x :: vs.map some) H' Q')
    (q : ∀ D H', H D = none → Same H H' → H' D = some (.lst ((List.range n).map g)) → Q (.ref D) H') (D : Addr) (hD : H D = none) :
    ∃ W : Nat → Nat → List V → Hp → Prop, (∃ m, W 0 m [] (upd H D (.lst []))) ∧ ∀ i m ys H, W i m ys H →
      (J.stop i H ∧ Q (.ref D) H) ∨ (J.go i H ∧ ∀ x H', J.yld i H x H' → te (some x :: vs.map some) H' fun v H2 => H2 D = some (.lst ys) ∧ ys.length < sizeLine ∧ ∃ m', m' < m ∧ W (i + 1) m' (ys ++ [v]) (upd H2 D (.lst (ys ++ [v])))) := by
  refine ⟨fun i m ys H' => m = n - i ∧ i ≤ n ∧ ys = (List.range i).map g ∧ H' D = some (.lst ys) ∧ Same H H', ⟨n, rfl, Nat.zero_le _, rfl, upd_same, same_new hD _⟩, ?_⟩
  rintro i m ys H1 ⟨rfl, hi, rfl, h1, h2⟩
  by_cases hlt : i < n
  · refine .inr ⟨hgo i H1 hlt, fun x H' hy => hte i x H1 H' _ hlt h2 hy fun H'' h3 => ⟨h3 D _ h1, ?_, n - (i + 1), by omega, rfl, hlt, ?_, upd_same, same_upd (h2.trans h3) hD _⟩⟩
    · rw [List.length_map, List.length_range]
      exact Nat.lt_of_lt_of_le hlt (by rw [sizeLine_eq]; omega)
    · rw [List.range_succ, List.map_append]; rfl
  · have e : i = n := by omega
    subst e
    exact .inl ⟨hstop H1, q D H1 hD h2 h1⟩
theorem map_range_get (l : List Nat) (g : Nat → V) : (List.range l.length).map (fun i => g (l.getD i 0)) = l.map g := by
  apply List.ext_getElem
  · simp
  · intro i h1 h2
    simp at h1 h2
    simp [List.getD, h2]
/-- over the signs of a text -/
theorem comp_str {te : TE} {σ : L2.St} {H : Hp} {Q : VK} {z : Str} (g : Nat → V) (hn : z.length ≤ 1000000) (hte : ∀ c H' Q', c ∈ z.cps.toList → Same H H' → (∀ H'', Same H' H'' → Q' (g c) H'') → te [some (.str ⟨#[c]⟩)] H' Q')
    (q : ∀ D H', H D = none → Same H H' → H' D = some (.lst (z.cps.toList.map g)) → Q (.ref D) H') :
    compBody [] te σ Q (Itx z) H := by
  refine ⟨[], ⟨rfl, fun j i h => by simp at h⟩, comp_turns (vs := []) z.length (fun i => g (z.cps.toList.getD i 0)) hn (fun _ => Nat.le_refl _) (fun i _ h => h) (fun i x H1 H' Q' hi hs hy hq => ?_) fun D H' hD hs hl => q D H' hD hs ?_⟩
  · obtain ⟨e, c, hc, hx⟩ := hy
    subst e hx
    have e : z.cps.toList.getD i 0 = c := by
      rw [List.getD_eq_getElem?_getD]
      have : z.cps.toList[i]? = some c := by simpa using hc
      rw [this]; rfl
    rw [e] at hq
    exact hte c _ Q' (by
      have : z.cps.toList[i]? = some c := by simpa using hc
      exact List.mem_of_getElem? this) hs hq
  · rw [hl, len_cps z]
    exact congrArg (fun x => some (HO.lst x)) (map_range_get _ g)
theorem small {n : Nat} (h : n ≤ 1000000) : n ≤ sizeLine := by rw [sizeLine_eq]; omega
end GS
set_option Elab.async false
set_option linter.all false
set_option maxRecDepth 100000
set_option maxHeartbeats 4000000
/-! THE LAYER'S RULES UNDER A LID: the same names in namespace L3, over judgements that Lean doesn't unfold (an application whose type is an open judgement costs a run of the text that it speaks of: seconds a list, minutes a list of lists). A def's proof is F.okI in the place of F.ok; an open rule's term comes in by .mk. -/
namespace L3
open PySem PySem.Spec PyProof.Rows L2
@[irreducible] def LE (X : Cx) (e : Expr) (t : TE) : Prop := PE X e t
@[irreducible] def LT (X : Cx) (e : Expr) (t : TT) : Prop := PT X e t
@[irreducible] def LW (X : Cx) (e : Expr) (t : TT) : Prop := PW X e t
@[irreducible] def LA (X : Cx) (es : List Expr) (t : TA) : Prop := PA X es t
@[irreducible] def LO (X : Cx) (e : Option Expr) (t : TO) : Prop := PO X e t
@[irreducible] def LG (X : Cx) (e : Expr) (t : TG) : Prop := PG X e t
@[irreducible] def LGs (X : Cx) (es : List Expr) (t : TGs) : Prop := PGs X es t
@[irreducible] def LI (X : Cx) (tg e : Expr) (t : TI) : Prop := PI X tg e t
@[irreducible] def LS (X : Cx) (st : Stmt) (t : TS) : Prop := PS X st t
@[irreducible] def LSs (X : Cx) (st : List Stmt) (t : TS) : Prop := PSs X st t
section
variable {X : Cx} {e a b c o tg : Expr} {es rest : List Expr} {oe lo hi : Option Expr} {st : Stmt} {sts : List Stmt} {te ta tb to : TE} {tA tB' tc : TT} {tl th : TO} {t : TA} {ts us : TS} {tg' : TG} {tgs : TGs} {wi : TI} {pos p p2 apos cpos : Pos}
theorem LE.mk (h : PE X e te) : LE X e te := by unfold LE; exact h
theorem LE.out (h : LE X e te) : PE X e te := by unfold LE at h; exact h
theorem LT.mk (h : PT X e tA) : LT X e tA := by unfold LT; exact h
theorem LT.out (h : LT X e tA) : PT X e tA := by unfold LT at h; exact h
theorem LW.mk (h : PW X e tA) : LW X e tA := by unfold LW; exact h
theorem LW.out (h : LW X e tA) : PW X e tA := by unfold LW at h; exact h
theorem LA.mk (h : PA X es t) : LA X es t := by unfold LA; exact h
theorem LA.out (h : LA X es t) : PA X es t := by unfold LA at h; exact h
theorem LO.mk (h : PO X oe tl) : LO X oe tl := by unfold LO; exact h
theorem LO.out (h : LO X oe tl) : PO X oe tl := by unfold LO at h; exact h
theorem LG.mk (h : PG X e tg') : LG X e tg' := by unfold LG; exact h
theorem LG.out (h : LG X e tg') : PG X e tg' := by unfold LG at h; exact h
theorem LGs.mk (h : PGs X es tgs) : LGs X es tgs := by unfold LGs; exact h
theorem LGs.out (h : LGs X es tgs) : PGs X es tgs := by unfold LGs at h; exact h
theorem LI.mk (h : PI X tg e wi) : LI X tg e wi := by unfold LI; exact h
theorem LI.out (h : LI X tg e wi) : PI X tg e wi := by unfold LI at h; exact h
theorem LS.mk (h : PS X st ts) : LS X st ts := by unfold LS; exact h
theorem LS.out (h : LS X st ts) : PS X st ts := by unfold LS at h; exact h
theorem LSs.mk (h : PSs X sts ts) : LSs X sts ts := by unfold LSs; exact h
theorem LSs.out (h : LSs X sts ts) : PSs X sts ts := by unfold LSs at h; exact h
/-! expressions -/
theorem pe_int {i : Int} {j : Nat} : LE X (.Constant (.int i) j pos) (tC (.int i)) := .mk L2.pe_int
theorem pe_bl {b : Bool} {j : Nat} : LE X (.Constant (.bool b) j pos) (tC (.bl b)) := .mk L2.pe_bl
theorem pe_non {j : Nat} : LE X (.Constant .none j pos) (tC .non) := .mk L2.pe_non
theorem pe_str {x : Str} {j : Nat} : LE X (.Constant (.str x) j pos) (tC (.str x)) := .mk L2.pe_str
theorem pv (i : Nat) {x : Str} (hN : X.N[i]? = some x := by rfl) (hv : Vis X.env.scope x := by first | exact Or.inl rfl | exact Or.inr (Or.inl rfl) | exact Or.inr (Or.inr rfl)) (hd : (x == ("__debug__" : Str)) = false := by decide)
    (hcd : (x == ("__classdict__" : Str)) = false := by decide) : LE X (.Name x pos) (tVar i) := .mk (L2.pv i hN hv hd hcd)
theorem pe_glob {x : Str} {v : V} {u : Value} (hg : Gl X x) (hm : X.mg x = some u) (r : RelV v u) (hd : (x == ("__debug__" : Str)) = false := by decide) : LE X (.Name x pos) (tC v) := .mk (L2.pe_glob hg hm r hd)
theorem pe_bltn {x : Str} {v : V} {u : Value} (hg : Gl X x) (hm : X.mg x = none) (hv : bootBuiltins x = some u) (r : RelV v u) (hn : x ≠ "__name__" := by decide) (hd : (x == ("__debug__" : Str)) = false := by decide) : LE X (.Name x pos) (tC v) := .mk (L2.pe_bltn hg hm hv r hn hd)
theorem pe_gstr {x z : Str} (hg : Gl X x) (hm : ∃ t, X.mg x = some (.str z t)) (hd : (x == ("__debug__" : Str)) = false := by decide) : LE X (.Name x pos) (tC (.str z)) := .mk (GS.pe_gstr hg hm hd)
theorem pe_gint {x : Str} {z : Int} (hg : Gl X x) (hm : ∃ t, X.mg x = some (.int z t)) (hd : (x == ("__debug__" : Str)) = false := by decide) : LE X (.Name x pos) (tC (.int z)) := .mk (GS.pe_gint hg hm hd)
theorem pe_gtup {x : Str} {xs : List V} (hg : Gl X x) (hm : GS.TupG X.K X.mg x xs) (hd : (x == ("__debug__" : Str)) = false := by decide) : LE X (.Name x pos) (GS.tGT X.K xs) := .mk (GS.pe_gtup hg hm hd)
theorem pe_op {op : Operator} {r : R2} (ho : OpR X (binaryOp op) r) (ha : LE X a ta) (hb : LE X b tb) : LE X (.BinOp a op b pos) (tOp r ta tb) := .mk (L2.pe_op ho ha.out hb.out)
theorem pe_un {op : UnaryOp} {r : V → Hp → VK → Prop} (ho : UnR X (unaryOp op) r) (ha : LE X a ta) : LE X (.UnaryOp op a pos) (tUn r ta) := .mk (L2.pe_un ho ha.out)
theorem pe_cmpR {op : CmpOp} {r : R2} (ho : OpR X (compareOp op) r) (ha : LE X a ta) (hb : LE X b tb) (hm : behindInMarks op b = false) : LE X (.Compare a [op] [b] pos) (tOp r ta tb) := .mk (L2.pe_cmpR ho ha.out hb.out hm)
theorem pe_one {op : BoolOp} (h : LE X a te) : LE X (.BoolOp op [a] pos) te := .mk (L2.pe_one h.out)
theorem pe_and (ha : LE X a ta) (hb : LE X (.BoolOp .And (b :: rest) pos) tb) : LE X (.BoolOp .And (a :: b :: rest) pos) (tAndV ta tb) := .mk (L2.pe_and ha.out hb.out)
theorem pe_or (ha : LE X a ta) (hb : LE X (.BoolOp .Or (b :: rest) pos) tb) : LE X (.BoolOp .Or (a :: b :: rest) pos) (tOrV ta tb) := .mk (L2.pe_or ha.out hb.out)
theorem pe_ifExp (hc : LT X c tA) (ha : LE X a ta) (hb : LE X b tb) : LE X (.IfExp c a b pos) (tIf tA ta tb) := .mk (L2.pe_ifExp hc.out ha.out hb.out)
theorem pe_ix {r : R2} (hr : IxR X r) (ha : LE X a ta) (hb : LE X b tb) (hs : PlainIx b) : LE X (.Subscript a b pos) (tOp r ta tb) := .mk (L2.pe_ix hr ha.out hb.out hs)
theorem po_none : LO X none tNoPart := .mk L2.po_none
theorem po_some (h : LE X e te) : LO X (some e) (tPart te) := .mk (L2.po_some h.out)
theorem pe_slice {r : V → Option Int → Option Int → Hp → VK → Prop} (hr : SlR X r) (he : LE X e te) (hl : LO X lo tl) (hu : LO X hi th) : LE X (.Subscript e (.Slice lo hi none p2) pos) (tSl r te tl th) := .mk (L2.pe_slice hr he.out hl.out hu.out)
theorem pa_nil : LA X [] tNil := .mk L2.pa_nil
theorem pa_cons (ha : LE X e te) (hr : LA X es t) (hs : starEach (e :: es) X.env = (false, eval e X.env) :: starEach es X.env := by rfl) : LA X (e :: es) (tCons te t) := .mk (L2.pa_cons ha.out hr.out hs)
theorem pe_lst (h : LA X es t) : LE X (.List es pos) (tLst t) := .mk (L2.pe_lst h.out)
theorem pe_tup {k : Nat} (h : LA X es t) : LE X (.Tuple es k pos) (tTup t) := .mk (L2.pe_tup h.out)
theorem pe_dnewK : LE X (.Dict [] [] pos) tDNewK := .mk L2.pe_dnewK
theorem pe_callB {x : Str} {id : String} {r : List V → Hp → VK → Prop} (hc : CallR X (.builtin id) r) (hg : Gl X x) (hm : X.mg x = none) (hv : bootBuiltins x = some (.builtin id)) (ha : LA X (e :: es) t) (hn : x ≠ "__name__" := by decide) (hdb : (x == ("__debug__" : Str)) = false := by decide)
    (he : starEach (e :: es) X.env = (false, eval e X.env) :: starEach es X.env := by rfl) (hpl : (backTo pos (starEach es X.env)).any (·.1) = false := by rfl) : LE X (.Call (.Name x p) (e :: es) [] pos) (tCB r t) := .mk (L2.pe_callB hc hg hm hv ha.out hn hdb he hpl)
theorem pe_callTy {x : Str} {T : String} {r : List V → Hp → VK → Prop} (hc : CallR X (.type T) r) (hg : Gl X x) (hm : X.mg x = none) (hv : bootBuiltins x = some (.type T)) (ha : LA X (e :: es) t) (hn : x ≠ "__name__" := by decide) (hdb : (x == ("__debug__" : Str)) = false := by decide)
    (he : starEach (e :: es) X.env = (false, eval e X.env) :: starEach es X.env := by rfl) (hpl : (backTo pos (starEach es X.env)).any (·.1) = false := by rfl) : LE X (.Call (.Name x p) (e :: es) [] pos) (tCB r t) := .mk (L2.pe_callTy hc hg hm hv ha.out hn hdb he hpl)
theorem pe_bm {T id : String} {name : Str} {r : V → List V → Hp → VK → Prop} (pa : PlainAttrs T) (slot : Slot T name id) (hty : typeOf (.builtin id) = pure (.type "method_descriptor")) (hm : MtR X id r) (ho : LE X o to) (ha : LA X (e :: es) t)
    (hbase : attributeBase o name X.env (eval o X.env) = eval o X.env := by rfl)
    (hfew : ((backTo cpos (starEach (e :: es) X.env)).all (fun x => !x.1) && (backToKw cpos (keywordEach [] X.env)).all (fun x => x.1.isSome)
      && decide ((e :: es).length + ([] : List Keyword).length + (if ([] : List Keyword).isEmpty then 0 else 1) < 30)) = true := by rfl)
    (hline : (apos.endLine == cpos.line) = true := by rfl) (hs : starEach (e :: es) X.env = (false, eval e X.env) :: starEach es X.env := by rfl) (hplain : (backTo cpos (starEach es X.env)).any (·.1) = false := by rfl) :
    LE X (.Call (.Attribute o name apos) (e :: es) [] cpos) (tBM X.K T r to t) := .mk (L2.pe_bm pa slot hty hm ho.out ha.out hbase hfew hline hs hplain)
theorem pe_bm0 {T id : String} {name : Str} {r : V → List V → Hp → VK → Prop} (pa : PlainAttrs T) (slot : Slot T name id) (hty : typeOf (.builtin id) = pure (.type "method_descriptor")) (hm : MtR X id r) (ho : LE X o to)
    (hbase : attributeBase o name X.env (eval o X.env) = eval o X.env := by rfl) (hline : (apos.endLine == cpos.line) = true := by rfl) : LE X (.Call (.Attribute o name apos) [] [] cpos) (tBM0 X.K T r to) := .mk (L2.pe_bm0 pa slot hty hm ho.out hbase hline)
theorem pe_def {name : Str} {ps : List Str} {k k' : Nat} {sp : Sp} (F : GS.Def X.prog X.w X.K X.mg X.base name ps k sp) (hr : Room k' X.A) (hk : k ≤ k') (hg : Gl X name) (ha : LA X (e :: es) t)
    (hdb : (name == ("__debug__" : Str)) = false := by decide) (he : starEach (e :: es) X.env = (false, eval e X.env) :: starEach es X.env := by rfl) (hpl : (backTo pos (starEach es X.env)).any (·.1) = false := by rfl) :
    LE X (.Call (.Name name p) (e :: es) [] pos) (tCall sp [] E0 t) := .mk (GS.pe_def F hr hk hg ha.out hdb he hpl)
theorem pe_def0 {name : Str} {ps : List Str} {k k' : Nat} {sp : Sp} (F : GS.Def X.prog X.w X.K X.mg X.base name ps k sp) (hr : Room k' X.A) (hk : k ≤ k') (hg : Gl X name) (hdb : (name == ("__debug__" : Str)) = false := by decide) :
    LE X (.Call (.Name name p) [] [] pos) (tCall sp [] E0 tNil) := .mk (GS.pe_def0 F hr hk hg hdb)
/-! tests -/
theorem pt_cmpR {op : CmpOp} {r : R2} (ho : OpR X (compareOp op) r) (ha : LE X a ta) (hb : LE X b tb) (hm : behindInMarks op b = false) : LT X (.Compare a [op] [b] pos) (tTest (tOp r ta tb)) := .mk (L2.pt_cmpR ho ha.out hb.out hm)
theorem pt_val (h : LE X e te) (he : ∀ whole, isTrue e X.env whole = (do let v ← whole; standAt e.pos; holding [v] (truthy v)) := by intro _; rfl) : LT X e (tB te) := .mk (L2.pt_val h.out he)
theorem pt_not (ha : LT X a tA) : LT X (.UnaryOp .Not a pos) (tNot tA) := .mk (L2.pt_not ha.out)
theorem pw_and1 (ha : LT X a tA) : LW X (.BoolOp .And [a] pos) tA := .mk (L2.pw_and1 ha.out)
theorem pw_or1 (ha : LT X a tA) : LW X (.BoolOp .Or [a] pos) tA := .mk (L2.pw_or1 ha.out)
theorem pw_and (ha : LT X a tA) (hb : LW X (.BoolOp .And (b :: rest) pos) tB') : LW X (.BoolOp .And (a :: b :: rest) pos) (tAnd tA tB') := .mk (L2.pw_and ha.out hb.out)
theorem pw_or (ha : LT X a tA) (hb : LW X (.BoolOp .Or (b :: rest) pos) tB') : LW X (.BoolOp .Or (a :: b :: rest) pos) (tOr tA tB') := .mk (L2.pw_or ha.out hb.out)
theorem LW.pt (h : LW X e tA) : LT X e tA := .mk (L2.PW.pt h.out)
/-! targets, walks -/
theorem pg_name {i : Nat} {x : Str} (hN : X.N.Nodup) (hi : X.N[i]? = some x) (hx : Loc X.env.scope x) (hf : X.fn x = true ∨ X.env.scope.names.lookup x = some .local := by first | exact .inl rfl | exact .inr rfl | assumption) : LG X (.Name x pos) (gName i) := .mk (L2.pg_name hN hi hx hf)
theorem pgs_nil : LGs X [] gNil := .mk L2.pgs_nil
theorem pgs_cons (h1 : LG X e tg') (h2 : LGs X es tgs) (hs : (assignEach (e :: es) X.env).map (·.2) = assign e X.env :: (assignEach es X.env).map (·.2) := by rfl) : LGs X (e :: es) (gCons tg' tgs) := .mk (L2.pgs_cons h1.out h2.out hs)
theorem pg_tup {k n : Nat} (hc : X.calm = true) (h : LGs X es tgs) (hn : (assignEach es X.env).length = n := by rfl) (hst : (assignEach es X.env).findIdx? (·.1) = none := by rfl) : LG X (.Tuple es k pos) (gTup X.K n tgs) := .mk (L2.pg_tup hc h.out hn hst)
theorem pi_list (hl : LE X e te) : LI X tg e (iList X.K te) := .mk (L2.pi_list hl.out)
theorem pi_tup (hl : LE X e te) : LI X tg e (iTup X.K te) := .mk (L2.pi_tup hl.out)
theorem pi_str (hl : LE X e te) : LI X tg e (iStr te) := .mk (L2.pi_str hl.out)
theorem pi_range1 (hg : Gl X "range") (hm : X.mg "range" = none) (ha : LA X [a] t) (hs : starEach [a] X.env = [(false, eval a X.env)] := by rfl) : LI X tg (.Call (.Name "range" p) [a] [] pos) (iRng1 t) := .mk (L2.pi_range1 hg hm ha.out hs)
theorem pi_range2 (hg : Gl X "range") (hm : X.mg "range" = none) (ha : LA X [a, b] t) (hs : starEach [a, b] X.env = [(false, eval a X.env), (false, eval b X.env)] := by rfl) (hs2 : starEach [b] X.env = [(false, eval b X.env)] := by rfl) : LI X tg (.Call (.Name "range" p) [a, b] [] pos) (iRng2 t) := .mk (L2.pi_range2 hg hm ha.out hs hs2)
theorem pe_comp {elt iter : Expr} {x : Str} {px : Pos} {scope : Scope} {cl : List (Str × Addr)} {Nf : List Str} {js : List Nat} (K : CompOk X scope cl x Nf js) (hc : X.calm = true) (hi : LI X (.Name x px) iter wi)
    (he : ∀ C s0 H0 fp, LE (blk X scope cl C (x :: Nf) s0 H0 fp) elt te) (hs : ∀ x, foldedSetIterable iter X.env x = pure x := by intro _; rfl) :
    LE X (.ListComp elt [⟨.Name x px, iter, [], 0⟩] scope pos) (tComp js wi te) := .mk (L2.pe_comp K hc hi.out (fun C s0 H0 fp => (he C s0 H0 fp).out) hs)
/-! statements -/
theorem ps_pass : LS X (.Pass pos) tNext := .mk L2.ps_pass
theorem ps_break : LS X (.Break pos) tBreak := .mk L2.ps_break
theorem ps_continue : LS X (.Continue pos) tCont := .mk L2.ps_continue
theorem ps_ret (he : LE X e te) : LS X (.Return (some e) pos) (tRet te) := .mk (L2.ps_ret he.out)
theorem ps_retN : LS X (.Return none pos) tRetN := .mk L2.ps_retN
theorem ps_expr (he : LE X e te) (hs : swapsWith e none pos.line X.env = pure false := by rfl) : LS X (.Expr e pos) (tDrop te) := .mk (L2.ps_expr he.out hs)
theorem ps_set {i : Nat} {x : Str} {pos' : Pos} (hN : X.N.Nodup) (hi : X.N[i]? = some x) (hx : Loc X.env.scope x) (he : LE X e te) (hs : swapsWith e (some (.Name x pos')) pos.line X.env = pure false := by rfl)
    (hf : X.fn x = true ∨ X.env.scope.names.lookup x = some .local := by first | exact .inl rfl | exact .inr rfl | assumption) : LS X (.Assign [.Name x pos'] e pos) (tAsg te (gName i)) := .mk (L2.ps_set hN hi hx he.out hs hf)
theorem ps_asg (he : LE X e te) (hg : LG X tg tg') (hs : swapsWithSole [tg] e pos.line X.env = pure false := by rfl) (hw : swappedStores [tg] e X.env = pure none := by rfl) (h1 : (assignEach [tg] X.env).map (·.2) = [assign tg X.env] := by rfl) :
    LS X (.Assign [tg] e pos) (tAsg te tg') := .mk (L2.ps_asg he.out hg.out hs hw h1)
theorem ps_if {a b : List Stmt} (hc : LT X c tc) (ha : LSs X a ts) (hb : LSs X b us) : LS X (.If c a b pos) (tIfS tc ts us) := .mk (L2.ps_if hc.out ha.out hb.out)
theorem ps_while {body : List Stmt} (hp : PassesOwn (model X.prog X.w) X.A X.env X.xe) (hc : LT X c tc) (hb : LSs X body ts) : LS X (.While c body [] pos) (tWhile tc ts) := .mk (L2.ps_while hp hc.out hb.out)
theorem ps_for {iter : Expr} {body : List Stmt} (hp : PassesOwn (model X.prog X.w) X.A X.env X.xe) (hc : X.calm = true) (hi : LI X tg iter wi) (hg : LG X tg tg') (hb : LSs X body ts)
    (hs : ∀ x, foldedSetIterable iter X.env x = pure x := by intro _; rfl) : LS X (.For tg iter body [] pos) (tFor wi tg' ts) := .mk (L2.ps_for hp hc hi.out hg.out hb.out hs)
theorem ps_imp {t' : TS} (h : LS X st ts) (hi : ∀ D σ H, t' D σ H → ts D σ H) : LS X st t' := .mk fun pins s σ H D I q => h.out pins s σ H D I (hi D σ H q)
theorem pss_nil : LSs X [] tNext := .mk L2.pss_nil
theorem pss_cons (h1 : LS X st ts) (h2 : LSs X sts us) : LSs X (st :: sts) (tSeq ts us) := .mk (L2.pss_cons h1.out h2.out)
theorem pss_one (h1 : LS X st ts) : LSs X [st] ts := .mk (L2.pss_one h1.out)
end
end L3
namespace L2
open PySem PySem.Spec PyProof.Rows
theorem Fun.okI {P : Program} {w : World} {K : PySem.W.Frag} {mg : Str → Option Value} {base : Heap} {x qual : Str} {st : Stmt} {f : Addr} {fd : FuncData} {N ps : List Str} {k : Nat} {sp : Sp} (F : Fun K x qual st f fd) (S : FnScope N ps (defScope st)) (len : ∀ vs H Q E, sp vs H Q E → vs.length = ps.length)
    (hbody : ∀ (cdv : Value) (A : Around) (outer : List Env) (s : Shared) (H : Hp) (vs : List V) (Q : VK) (E : XK), Room k (A.deeper (envOfC qual (defScope st) s.heap.objs.size f cdv)) → sp vs H Q E →
      ∃ t, L3.LSs (cxOf CX0 P w K mg base N qual (defScope st) f cdv A outer s H E).nox (defBody st) t ∧ t { nx := fun _ H' => Q .non H', rt := Q } (start N vs) H) : FnOk P w K mg base CX0 (k + 1) f fd ps sp :=
  F.ok S len fun cdv A outer s H vs Q E hr h => let ⟨t, h1, h2⟩ := hbody cdv A outer s H vs Q E hr h; ⟨t, h1.out, h2⟩
end L2
set_option Elab.async false
set_option linter.all false
set_option maxRecDepth 100000
set_option maxHeartbeats 4000000
namespace GS
open PySem L2 PyProof.Rows
/-! ### things without change: None, truths, numbers, texts, and tuples of such -/
inductive D where
  | non | bl (b : Bool) | int (i : Int) | str (x : Str) | tup (xs : List D)
mutual
/-- the value v is the thing d -/
def At (K : PySem.W.Frag) (H : Hp) : D → V → Prop
  | .non, v => v = .non
  | .bl b, v => v = .bl b
  | .int i, v => v = .int i
  | .str x, v => v = .str x
  | .tup ds, v => ∃ p vs, v = .ref p ∧ SqT K H p vs ∧ AtAll K H ds vs
def AtAll (K : PySem.W.Frag) (H : Hp) : List D → List V → Prop
  | [], vs => vs = []
  | d :: ds, vs => ∃ v r, vs = v :: r ∧ At K H d v ∧ AtAll K H ds r
end
section
variable {K : PySem.W.Frag} {H H' : Hp}
theorem At_tup {ds : List D} {v : V} : At K H (.tup ds) v ↔ ∃ p vs, v = .ref p ∧ SqT K H p vs ∧ AtAll K H ds vs := by rw [At]
theorem AtAll_nil {vs : List V} : AtAll K H [] vs ↔ vs = [] := by rw [AtAll]
theorem AtAll_cons {d : D} {ds : List D} {vs : List V} : AtAll K H (d :: ds) vs ↔ ∃ v r, vs = v :: r ∧ At K H d v ∧ AtAll K H ds r := by rw [AtAll]
theorem At_non {v : V} : At K H .non v ↔ v = .non := by rw [At]
theorem At_bl {b : Bool} {v : V} : At K H (.bl b) v ↔ v = .bl b := by rw [At]
theorem At_int {i : Int} {v : V} : At K H (.int i) v ↔ v = .int i := by rw [At]
theorem At_str {x : Str} {v : V} : At K H (.str x) v ↔ v = .str x := by rw [At]
theorem Same.seqT {a : Addr} {xs : List V} (e : Same H H') (h : SqT K H a xs) : SqT K H' a xs := by
  rcases h with (h | ⟨o, h⟩) | h
  · exact .inl (.inl (e _ _ h))
  · exact .inl (.inr ⟨o, e _ _ h⟩)
  · exact .inr h
mutual
theorem At.same (e : Same H H') : ∀ (d : D) (v : V), At K H d v → At K H' d v
  | .non, _, h => At_non.mpr (At_non.mp h)
  | .bl _, _, h => At_bl.mpr (At_bl.mp h)
  | .int _, _, h => At_int.mpr (At_int.mp h)
  | .str _, _, h => At_str.mpr (At_str.mp h)
  | .tup ds, _, h => by
    obtain ⟨p, vs, rfl, h1, h2⟩ := At_tup.mp h
    exact At_tup.mpr ⟨p, vs, rfl, Same.seqT e h1, AtAll.same e ds vs h2⟩
theorem AtAll.same (e : Same H H') : ∀ (ds : List D) (vs : List V), AtAll K H ds vs → AtAll K H' ds vs
  | [], _, h => AtAll_nil.mpr (AtAll_nil.mp h)
  | d :: ds, _, h => by
    obtain ⟨v, r, rfl, h1, h2⟩ := AtAll_cons.mp h
    exact AtAll_cons.mpr ⟨v, r, rfl, At.same e d v h1, AtAll.same e ds r h2⟩
end
theorem AtAll.len : ∀ {ds : List D} {vs : List V}, AtAll K H ds vs → vs.length = ds.length
  | [], _, h => by rw [AtAll_nil.mp h]; rfl
  | d :: ds, _, h => by
    obtain ⟨v, r, rfl, _, h2⟩ := AtAll_cons.mp h
    rw [List.length_cons, List.length_cons, AtAll.len h2]
theorem AtAll.get : ∀ {ds : List D} {vs : List V} {i : Nat} {d : D}, AtAll K H ds vs → ds[i]? = some d → ∃ v, vs[i]? = some v ∧ At K H d v
  | [], _, i, d, _, e => by simp at e
  | d0 :: ds, _, 0, d, h, e => by
    obtain ⟨v, r, rfl, h1, _⟩ := AtAll_cons.mp h
    have : d0 = d := by simpa using e
    subst this
    exact ⟨v, rfl, h1⟩
  | d0 :: ds, _, i + 1, d, h, e => by
    obtain ⟨v, r, rfl, _, h2⟩ := AtAll_cons.mp h
    obtain ⟨u, e1, e2⟩ := AtAll.get h2 (by simpa using e)
    exact ⟨u, by simpa using e1, e2⟩
theorem AtAll.of_get : ∀ {ds : List D} {vs : List V}, vs.length = ds.length → (∀ (i : Nat) (d : D) (v : V), ds[i]? = some d → vs[i]? = some v → At K H d v) → AtAll K H ds vs
  | [], [], _, _ => AtAll_nil.mpr rfl
  | [], _ :: _, h, _ => by simp at h
  | _ :: _, [], h, _ => by simp at h
  | d :: ds, v :: vs, h, f => AtAll_cons.mpr ⟨v, vs, rfl, f 0 d v rfl rfl, AtAll.of_get (by simpa using h) fun i d' v' h1 h2 => f (i + 1) d' v' (by simpa using h1) (by simpa using h2)⟩
theorem AtAll.append : ∀ {ds es : List D} {vs ws : List V}, AtAll K H ds vs → AtAll K H es ws → AtAll K H (ds ++ es) (vs ++ ws)
  | [], _, _, _, h, h' => by rw [AtAll_nil.mp h]; exact h'
  | d :: ds, _, _, _, h, h' => by
    obtain ⟨v, r, rfl, h1, h2⟩ := AtAll_cons.mp h
    exact AtAll_cons.mpr ⟨v, _, rfl, h1, AtAll.append h2 h'⟩
end
/-! ### one value is one thing -/
section
variable {X : Cx} {pins : List (Addr × Obj)} {σ : L2.St} {H : Hp} {s : Shared}
mutual
theorem At.one (I : Inv X pins σ H s) : ∀ (d e : D) (v : V), At X.K H d v → At X.K H e v → d = e
  | .non, e, v, h, h' => by
    rw [At_non.mp h] at h'
    cases e with
    | non => rfl
    | tup ds => obtain ⟨p, vs, z, _⟩ := At_tup.mp h'; cases z
    | bl b => cases At_bl.mp h'
    | int i => cases At_int.mp h'
    | str x => cases At_str.mp h'
  | .bl b, e, v, h, h' => by
    rw [At_bl.mp h] at h'
    cases e with
    | bl c => cases At_bl.mp h'; rfl
    | tup ds => obtain ⟨p, vs, z, _⟩ := At_tup.mp h'; cases z
    | non => cases At_non.mp h'
    | int i => cases At_int.mp h'
    | str x => cases At_str.mp h'
  | .int i, e, v, h, h' => by
    rw [At_int.mp h] at h'
    cases e with
    | int c => cases At_int.mp h'; rfl
    | tup ds => obtain ⟨p, vs, z, _⟩ := At_tup.mp h'; cases z
    | non => cases At_non.mp h'
    | bl i => cases At_bl.mp h'
    | str x => cases At_str.mp h'
  | .str x, e, v, h, h' => by
    rw [At_str.mp h] at h'
    cases e with
    | str c => cases At_str.mp h'; rfl
    | tup ds => obtain ⟨p, vs, z, _⟩ := At_tup.mp h'; cases z
    | non => cases At_non.mp h'
    | bl i => cases At_bl.mp h'
    | int x => cases At_int.mp h'
  | .tup ds, e, v, h, h' => by
    obtain ⟨p, vs, rfl, h1, h2⟩ := At_tup.mp h
    cases e with
    | tup es =>
      obtain ⟨q, ws, z, g1, g2⟩ := At_tup.mp h'
      cases z
      have e1 := I.tuple_inj h1 g1
      subst e1
      rw [AtAll.one I ds es vs h2 g2]
    | non => cases At_non.mp h'
    | bl i => cases At_bl.mp h'
    | int x => cases At_int.mp h'
    | str x => cases At_str.mp h'
theorem AtAll.one (I : Inv X pins σ H s) : ∀ (ds es : List D) (vs : List V), AtAll X.K H ds vs → AtAll X.K H es vs → ds = es
  | [], [], _, _, _ => rfl
  | [], _ :: _, _, h, h' => by
    rw [AtAll_nil.mp h] at h'
    obtain ⟨v, r, z, _⟩ := AtAll_cons.mp h'; cases z
  | d :: ds, [], _, h, h' => by
    rw [AtAll_nil.mp h'] at h
    obtain ⟨v, r, z, _⟩ := AtAll_cons.mp h; cases z
  | d :: ds, e :: es, _, h, h' => by
    obtain ⟨v, r, rfl, h1, h2⟩ := AtAll_cons.mp h
    obtain ⟨v', r', z, g1, g2⟩ := AtAll_cons.mp h'
    cases z
    rw [At.one I d e v h1 g1, AtAll.one I ds es r h2 g2]
end
end
/-! ### == -/
mutual
def eqD : D → D → Bool
  | .non, .non => true
  | .bl a, .bl b => a == b
  | .bl a, .int b => (if a then 1 else 0) == b
  | .int a, .bl b => a == (if b then 1 else 0)
  | .int a, .int b => a == b
  | .str a, .str b => a == b
  | .tup xs, .tup ys => eqDs xs ys
  | _, _ => false
def eqDs : List D → List D → Bool
  | [], [] => true
  | x :: xs, y :: ys => eqD x y && eqDs xs ys
  | _, _ => false
end
mutual
def dep : D → Nat
  | .tup xs => deps xs + 1
  | _ => 0
def deps : List D → Nat
  | [] => 0
  | x :: xs => max (dep x) (deps xs)
end
theorem eqD_non_bl (b' : Bool) : eqD .non (.bl b') = false := by rw [eqD] <;> nofun
theorem eqD_non_int (i' : Int) : eqD .non (.int i') = false := by rw [eqD] <;> nofun
theorem eqD_non_str (x' : Str) : eqD .non (.str x') = false := by rw [eqD] <;> nofun
theorem eqD_non_tup (xs' : List D) : eqD .non (.tup xs') = false := by rw [eqD] <;> nofun
theorem eqD_bl_non (b : Bool) : eqD (.bl b) .non = false := by rw [eqD] <;> nofun
theorem eqD_bl_str (b : Bool) (x' : Str) : eqD (.bl b) (.str x') = false := by rw [eqD] <;> nofun
theorem eqD_bl_tup (b : Bool) (xs' : List D) : eqD (.bl b) (.tup xs') = false := by rw [eqD] <;> nofun
theorem eqD_int_non (i : Int) : eqD (.int i) .non = false := by rw [eqD] <;> nofun
theorem eqD_int_str (i : Int) (x' : Str) : eqD (.int i) (.str x') = false := by rw [eqD] <;> nofun
theorem eqD_int_tup (i : Int) (xs' : List D) : eqD (.int i) (.tup xs') = false := by rw [eqD] <;> nofun
theorem eqD_str_non (x : Str) : eqD (.str x) .non = false := by rw [eqD] <;> nofun
theorem eqD_str_bl (x : Str) (b' : Bool) : eqD (.str x) (.bl b') = false := by rw [eqD] <;> nofun
theorem eqD_str_int (x : Str) (i' : Int) : eqD (.str x) (.int i') = false := by rw [eqD] <;> nofun
theorem eqD_str_tup (x : Str) (xs' : List D) : eqD (.str x) (.tup xs') = false := by rw [eqD] <;> nofun
theorem eqD_tup_non (xs : List D) : eqD (.tup xs) .non = false := by rw [eqD] <;> nofun
theorem eqD_tup_bl (xs : List D) (b' : Bool) : eqD (.tup xs) (.bl b') = false := by rw [eqD] <;> nofun
theorem eqD_tup_int (xs : List D) (i' : Int) : eqD (.tup xs) (.int i') = false := by rw [eqD] <;> nofun
theorem eqD_tup_str (xs : List D) (x' : Str) : eqD (.tup xs) (.str x') = false := by rw [eqD] <;> nofun
theorem dep_non : dep .non = 0 := by rw [dep] <;> nofun
theorem dep_bl (b : Bool) : dep (.bl b) = 0 := by rw [dep] <;> nofun
theorem dep_int (i : Int) : dep (.int i) = 0 := by rw [dep] <;> nofun
theorem dep_str (x : Str) : dep (.str x) = 0 := by rw [dep] <;> nofun
theorem dep_mem : ∀ {ds : List D} {i : Nat} {d : D}, ds[i]? = some d → dep d ≤ deps ds
  | [], i, d, e => by simp at e
  | x :: xs, 0, d, e => by
    have : x = d := by simpa using e
    subst this
    rw [deps]; exact Nat.le_max_left ..
  | x :: xs, i + 1, d, e => by
    have := dep_mem (ds := xs) (i := i) (d := d) (by simpa using e)
    rw [deps]; exact Nat.le_trans this (Nat.le_max_right ..)
mutual
theorem eqD_refl : ∀ d : D, eqD d d = true
  | .non => rfl
  | .bl b => by rw [eqD]; exact beq_self_eq_true b
  | .int i => by rw [eqD]; exact beq_self_eq_true i
  | .str x => by rw [eqD]; exact beq_self_eq_true x
  | .tup xs => by rw [eqD]; exact eqDs_refl xs
theorem eqDs_refl : ∀ ds : List D, eqDs ds ds = true
  | [] => by rw [eqDs]
  | d :: ds => by rw [eqDs, eqD_refl d, eqDs_refl ds]; rfl
end
theorem eqDs_iff : ∀ (ds es : List D), eqDs ds es = true ↔ ds.length = es.length ∧ ∀ (j : Nat) (d e : D), ds[j]? = some d → es[j]? = some e → eqD d e = true
  | [], [] => by rw [eqDs]; simp
  | [], e :: es => by
    have h : eqDs [] (e :: es) = false := by rw [eqDs] <;> nofun
    rw [h]; simp
  | d :: ds, [] => by
    have h : eqDs (d :: ds) [] = false := by rw [eqDs] <;> nofun
    rw [h]; simp
  | d :: ds, e :: es => by
    rw [eqDs, Bool.and_eq_true, eqDs_iff ds es]
    constructor
    · rintro ⟨h1, h2, h3⟩
      refine ⟨by simp [h2], fun j d' e' a b => ?_⟩
      cases j with
      | zero =>
        have e1 : d = d' := by simpa using a
        have e2 : e = e' := by simpa using b
        subst e1 e2; exact h1
      | succ j => exact h3 j d' e' (by simpa using a) (by simpa using b)
    · rintro ⟨h1, h2⟩
      exact ⟨h2 0 d e rfl rfl, by simpa using h1, fun j d' e' a b => h2 (j + 1) d' e' (by simpa using a) (by simpa using b)⟩
theorem eqDs_all (ds es : List D) : ((List.range (min ds.length es.length)).all (fun j => eqD (ds.getD j .non) (es.getD j .non)) && ds.length == es.length) = eqDs ds es := by
  rw [Bool.eq_iff_iff, Bool.and_eq_true, eqDs_iff, List.all_eq_true, beq_iff_eq]
  constructor
  · rintro ⟨h1, h2⟩
    refine ⟨h2, fun j d e a b => ?_⟩
    have hj : j < ds.length := (List.getElem?_eq_some_iff.mp a).1
    have := h1 j (List.mem_range.mpr (by omega))
    rw [List.getD_eq_getElem?_getD, List.getD_eq_getElem?_getD, a, b] at this
    exact this
  · rintro ⟨h1, h2⟩
    refine ⟨fun j hj => ?_, h1⟩
    have hj' := List.mem_range.mp hj
    have a : ds[j]? = some ds[j] := List.getElem?_eq_getElem (by omega)
    have b : es[j]? = some es[j] := List.getElem?_eq_getElem (by omega)
    rw [List.getD_eq_getElem?_getD, List.getD_eq_getElem?_getD, a, b]
    exact h2 j _ _ a b
section
variable {X : Cx} {pins : List (Addr × Obj)} {σ : L2.St} {H : Hp} {s : Shared}
/-- the comparison within another one -/
theorem eqAt_D (I : Inv X pins σ H s) : ∀ (n : Nat) (d e : D) (A : Around) (x y : V) (u v : Value), dep d ≤ n → RelV x u → RelV y v → At X.K H d x → At X.K H e y → A.units + n < cLine → SeqAt.EqAt A s u v (eqD d e) := by
  intro n
  induction n with
  | zero =>
    intro d e A x y u v hd rx ry hx hy hu
    cases d with
    | tup ds => rw [dep] at hd; omega
    | non =>
      have ex := At_non.mp hx; subst ex; cases rx
      cases e with
      | non => have ey := At_non.mp hy; subst ey; cases ry; rw [eqD]; exact SeqAt.EqAt.same _
      | bl b => have ey := At_bl.mp hy; subst ey; cases ry; rw [eqD_non_bl]; exact SeqAt.EqAt.none_bool b
      | int b => have ey := At_int.mp hy; subst ey; obtain ⟨t, rfl⟩ := ry; rw [eqD_non_int]; exact SeqAt.EqAt.none_int b t
      | str b => have ey := At_str.mp hy; subst ey; obtain ⟨t, rfl⟩ := ry; rw [eqD_non_str]; exact SeqAt.EqAt.none_str b t
      | tup es =>
        obtain ⟨p, vs, rfl, h1, _⟩ := At_tup.mp hy; cases ry
        obtain ⟨its, rv, ht, _⟩ := I.tuple h1
        rw [eqD_non_tup]; exact SeqAt.EqAt.none_tuple ht (by omega)
    | bl a =>
      have ex := At_bl.mp hx; subst ex; cases rx
      cases e with
      | non => have ey := At_non.mp hy; subst ey; cases ry; rw [eqD_bl_non]; exact SeqAt.EqAt.bool_none a
      | bl b => have ey := At_bl.mp hy; subst ey; cases ry; rw [eqD]; exact SeqAt.EqAt.bool_bool a b
      | int b => have ey := At_int.mp hy; subst ey; obtain ⟨t, rfl⟩ := ry; rw [eqD]; exact SeqAt.EqAt.bool_int a b t
      | str b => have ey := At_str.mp hy; subst ey; obtain ⟨t, rfl⟩ := ry; rw [eqD_bl_str]; exact SeqAt.EqAt.bool_str a b t
      | tup es =>
        obtain ⟨p, vs, rfl, h1, _⟩ := At_tup.mp hy; cases ry
        obtain ⟨its, rv, ht, _⟩ := I.tuple h1
        rw [eqD_bl_tup]; exact SeqAt.EqAt.bool_tuple a ht (by omega)
    | int a =>
      have ex := At_int.mp hx; subst ex; obtain ⟨t', rfl⟩ := rx
      cases e with
      | non => have ey := At_non.mp hy; subst ey; cases ry; rw [eqD_int_non]; exact SeqAt.EqAt.int_none a t'
      | bl b => have ey := At_bl.mp hy; subst ey; cases ry; rw [eqD]; exact SeqAt.EqAt.int_bool a t' b
      | int b => have ey := At_int.mp hy; subst ey; obtain ⟨t, rfl⟩ := ry; rw [eqD]; exact SeqAt.EqAt.int_int a t' b t
      | str b => have ey := At_str.mp hy; subst ey; obtain ⟨t, rfl⟩ := ry; rw [eqD_int_str]; exact SeqAt.EqAt.int_str a t' b t
      | tup es =>
        obtain ⟨p, vs, rfl, h1, _⟩ := At_tup.mp hy; cases ry
        obtain ⟨its, rv, ht, _⟩ := I.tuple h1
        rw [eqD_int_tup]; exact SeqAt.EqAt.int_tuple a t' ht (by omega)
    | str a =>
      have ex := At_str.mp hx; subst ex; obtain ⟨t', rfl⟩ := rx
      cases e with
      | non => have ey := At_non.mp hy; subst ey; cases ry; rw [eqD_str_non]; exact SeqAt.EqAt.str_none a t'
      | bl b => have ey := At_bl.mp hy; subst ey; cases ry; rw [eqD_str_bl]; exact SeqAt.EqAt.str_bool a t' b
      | int b => have ey := At_int.mp hy; subst ey; obtain ⟨t, rfl⟩ := ry; rw [eqD_str_int]; exact SeqAt.EqAt.str_int a t' b t
      | str b => have ey := At_str.mp hy; subst ey; obtain ⟨t, rfl⟩ := ry; rw [eqD]; exact SeqAt.EqAt.str_str a t' b t
      | tup es =>
        obtain ⟨p, vs, rfl, h1, _⟩ := At_tup.mp hy; cases ry
        obtain ⟨its, rv, ht, _⟩ := I.tuple h1
        rw [eqD_str_tup]; exact SeqAt.EqAt.str_tuple a t' ht (by omega)
  | succ n ih =>
    intro d e A x y u v hd rx ry hx hy hu
    cases d with
    | tup ds =>
      obtain ⟨p, vs, rfl, h1, h2⟩ := At_tup.mp hx
      cases rx
      obtain ⟨its, rv, ht, _⟩ := I.tuple h1
      cases e with
      | non => have ey := At_non.mp hy; subst ey; cases ry; rw [eqD_tup_non]; exact SeqAt.EqAt.tuple_none ht (by omega)
      | bl b => have ey := At_bl.mp hy; subst ey; cases ry; rw [eqD_tup_bl]; exact SeqAt.EqAt.tuple_bool b ht (by omega)
      | int b => have ey := At_int.mp hy; subst ey; obtain ⟨t, rfl⟩ := ry; rw [eqD_tup_int]; exact SeqAt.EqAt.tuple_int b t ht (by omega)
      | str b => have ey := At_str.mp hy; subst ey; obtain ⟨t, rfl⟩ := ry; rw [eqD_tup_str]; exact SeqAt.EqAt.tuple_str b t ht (by omega)
      | tup es =>
        obtain ⟨q, ws, rfl, g1, g2⟩ := At_tup.mp hy
        cases ry
        obtain ⟨jts, rw', hq, _⟩ := I.tuple g1
        rw [eqD]
        by_cases hpq : p = q
        · subst hpq
          have e1 := At.one I (.tup ds) (.tup es) (.ref p) hx hy
          injection e1 with e2
          rw [e2, eqDs_refl]
          exact SeqAt.EqAt.same _
        · have l1 : its.length = ds.length := by rw [← rv.length]; exact AtAll.len h2
          have l2 : jts.length = es.length := by rw [← rw'.length]; exact AtAll.len g2
          have R := SeqAt.RcAt.tuples (A := A) (s := s) (e := fun j => eqD (ds.getD j .non) (es.getD j .non)) (show s.heap.IsTuple p its.toArray from ht) (show s.heap.IsTuple q jts.toArray from hq) (by omega) (fun j k1 k2 => by
            have k1' : j < ds.length := by simpa [l1] using k1
            have k2' : j < es.length := by simpa [l2] using k2
            have a : ds[j]? = some ds[j] := List.getElem?_eq_getElem k1'
            have b : es[j]? = some es[j] := List.getElem?_eq_getElem k2'
            obtain ⟨x', ex, hx'⟩ := AtAll.get h2 a
            obtain ⟨y', ey, hy'⟩ := AtAll.get g2 b
            obtain ⟨u', eu, ru⟩ := rv.get ex
            obtain ⟨v', ev, rv2⟩ := rw'.get ey
            have e3 : its.toArray[j] = u' := by
              have : its[j]? = some u' := eu
              have := (List.getElem?_eq_some_iff.mp this).2
              simpa using this
            have e4 : jts.toArray[j] = v' := by
              have : jts[j]? = some v' := ev
              have := (List.getElem?_eq_some_iff.mp this).2
              simpa using this
            rw [e3, e4, List.getD_eq_getElem?_getD, List.getD_eq_getElem?_getD, a, b]
            have hdn : dep ds[j] ≤ n := by
              have := dep_mem a
              rw [dep] at hd
              omega
            exact ih ds[j] es[j] A.in1 x' y' u' v' hdn ru rv2 hx' hy' (by show A.units + 1 + n < cLine; omega))
          have e5 : ((List.range (min its.toArray.size jts.toArray.size)).all (fun j => eqD (ds.getD j .non) (es.getD j .non)) && its.toArray.size == jts.toArray.size) = eqDs ds es := by
            have a1 : its.toArray.size = ds.length := by rw [List.size_toArray, l1]
            have a2 : jts.toArray.size = es.length := by rw [List.size_toArray, l2]
            rw [a1, a2]; exact eqDs_all ds es
          rw [e5] at R
          exact SeqAt.EqAt.of_refs hpq R
    | non => exact ih .non e A x y u v (by rw [dep_non]; exact Nat.zero_le _) rx ry hx hy (by omega)
    | bl a => exact ih (.bl a) e A x y u v (by rw [dep_bl]; exact Nat.zero_le _) rx ry hx hy (by omega)
    | int a => exact ih (.int a) e A x y u v (by rw [dep_int]; exact Nat.zero_le _) rx ry hx hy (by omega)
    | str a => exact ih (.str a) e A x y u v (by rw [dep_str]; exact Nat.zero_le _) rx ry hx hy (by omega)
end
end GS
set_option Elab.async false
set_option linter.all false
set_option maxRecDepth 100000
set_option maxHeartbeats 4000000
namespace GS
open PySem L2 PyProof.Rows
/-! ### things: made, asked by a place, compared, shown -/
section
variable {K : PySem.W.Frag} {H : Hp}
theorem At.new {p : Addr} {ds : List D} {vs : List V} (hp : H p = none) (h : AtAll K H ds vs) : At K (upd H p (.tup vs)) (.tup ds) (.ref p) :=
  At_tup.mpr ⟨p, vs, rfl, SqT.of upd_same, AtAll.same (same_new hp _) ds vs h⟩
theorem At.ix {ds : List D} {v : V} {i : Nat} {d : D} (h : At K H (.tup ds) v) (hi : ds[i]? = some d) : ∃ p vs w, v = .ref p ∧ SqT K H p vs ∧ atI vs (i : Int) = some w ∧ At K H d w := by
  obtain ⟨p, vs, rfl, h1, h2⟩ := At_tup.mp h
  obtain ⟨w, e, hw⟩ := AtAll.get h2 hi
  exact ⟨p, vs, w, rfl, h1, atI_nat e, hw⟩
end
section
variable {X : Cx} {pins : List (Addr × Obj)} {σ : L2.St} {H : Hp} {s : Shared}
theorem items_eq (I : Inv X pins σ H s) {ds es : List D} {vs ws : List V} {its jts : List Value} {A : Around} {n : Nat} (rv : Vals vs its) (rw' : Vals ws jts) (h2 : AtAll X.K H ds vs) (g2 : AtAll X.K H es ws) (hd : deps ds ≤ n) (hu : A.units + n < cLine) :
    ∀ j (k1 : j < its.toArray.size) (k2 : j < jts.toArray.size), SeqAt.EqAt A s its.toArray[j] jts.toArray[j] (eqD (ds.getD j .non) (es.getD j .non)) := by
  intro j k1 k2
  have l1 : its.length = ds.length := by rw [← rv.length]; exact AtAll.len h2
  have l2 : jts.length = es.length := by rw [← rw'.length]; exact AtAll.len g2
  have k1' : j < ds.length := by simpa [l1] using k1
  have k2' : j < es.length := by simpa [l2] using k2
  have a : ds[j]? = some ds[j] := List.getElem?_eq_getElem k1'
  have b : es[j]? = some es[j] := List.getElem?_eq_getElem k2'
  obtain ⟨x', ex, hx'⟩ := AtAll.get h2 a
  obtain ⟨y', ey, hy'⟩ := AtAll.get g2 b
  obtain ⟨u', eu, ru⟩ := rv.get ex
  obtain ⟨v', ev, rv2⟩ := rw'.get ey
  have e3 : its.toArray[j] = u' := by
    have := (List.getElem?_eq_some_iff.mp eu).2
    simpa using this
  have e4 : jts.toArray[j] = v' := by
    have := (List.getElem?_eq_some_iff.mp ev).2
    simpa using this
  rw [e3, e4, List.getD_eq_getElem?_getD, List.getD_eq_getElem?_getD, a, b]
  exact eqAt_D I n ds[j] es[j] A x' y' u' v' (Nat.le_trans (dep_mem a) hd) ru rv2 hx' hy' hu
theorem sizes_eq {ds es : List D} {vs ws : List V} {its jts : List Value} (rv : Vals vs its) (rw' : Vals ws jts) (h2 : AtAll X.K H ds vs) (g2 : AtAll X.K H es ws) :
    ((List.range (min its.toArray.size jts.toArray.size)).all (fun j => eqD (ds.getD j .non) (es.getD j .non)) && its.toArray.size == jts.toArray.size) = eqDs ds es := by
  have a1 : its.toArray.size = ds.length := by rw [List.size_toArray, ← rv.length]; exact AtAll.len h2
  have a2 : jts.toArray.size = es.length := by rw [List.size_toArray, ← rw'.length]; exact AtAll.len g2
  rw [a1, a2]; exact eqDs_all ds es
/-- ==, by itself -/
theorem rcAt_D (I : Inv X pins σ H s) (d e : D) (A : Around) (x y : V) (u v : Value) (rx : RelV x u) (ry : RelV y v) (hx : At X.K H d x) (hy : At X.K H e y) (hu : A.units + dep d < cLine) : SeqAt.RcAt A s u v (eqD d e) := by
  cases d with
  | tup ds =>
    rw [dep] at hu
    obtain ⟨p, vs, rfl, h1, h2⟩ := At_tup.mp hx
    cases rx
    obtain ⟨its, rv, ht, _⟩ := I.tuple h1
    cases e with
    | non => have ey := At_non.mp hy; subst ey; cases ry; rw [eqD_tup_non]; exact SeqAt.RcAt.tuple_none ht (by omega)
    | bl b => have ey := At_bl.mp hy; subst ey; cases ry; rw [eqD_tup_bl]; exact SeqAt.RcAt.tuple_bool b ht (by omega)
    | int b => have ey := At_int.mp hy; subst ey; obtain ⟨t, rfl⟩ := ry; rw [eqD_tup_int]; exact SeqAt.RcAt.tuple_int b t ht (by omega)
    | str b => have ey := At_str.mp hy; subst ey; obtain ⟨t, rfl⟩ := ry; rw [eqD_tup_str]; exact SeqAt.RcAt.tuple_str b t ht (by omega)
    | tup es =>
      obtain ⟨q, ws, rfl, g1, g2⟩ := At_tup.mp hy
      cases ry
      obtain ⟨jts, rw', hq, _⟩ := I.tuple g1
      have R := SeqAt.RcAt.tuples (A := A) (s := s) (e := fun j => eqD (ds.getD j .non) (es.getD j .non)) (show s.heap.IsTuple p its.toArray from ht) (show s.heap.IsTuple q jts.toArray from hq) (by omega)
        (items_eq I (A := A.in1) (n := deps ds) rv rw' h2 g2 (Nat.le_refl _) (by show A.units + 1 + deps ds < cLine; omega))
      rw [sizes_eq rv rw' h2 g2] at R
      rw [eqD]; exact R
  | non =>
    rw [dep_non] at hu
    have ex := At_non.mp hx; subst ex; cases rx
    cases e with
    | non => have ey := At_non.mp hy; subst ey; cases ry; rw [eqD]; exact SeqAt.RcAt.none_none
    | bl b => have ey := At_bl.mp hy; subst ey; cases ry; rw [eqD_non_bl]; exact SeqAt.RcAt.none_bool b
    | int b => have ey := At_int.mp hy; subst ey; obtain ⟨t, rfl⟩ := ry; rw [eqD_non_int]; exact SeqAt.RcAt.none_int b t
    | str b => have ey := At_str.mp hy; subst ey; obtain ⟨t, rfl⟩ := ry; rw [eqD_non_str]; exact SeqAt.RcAt.none_str b t
    | tup es =>
      obtain ⟨p, vs, rfl, h1, _⟩ := At_tup.mp hy; cases ry
      obtain ⟨its, rv, ht, _⟩ := I.tuple h1
      rw [eqD_non_tup]; exact SeqAt.RcAt.none_tuple ht (by omega)
  | bl a =>
    rw [dep_bl] at hu
    have ex := At_bl.mp hx; subst ex; cases rx
    cases e with
    | non => have ey := At_non.mp hy; subst ey; cases ry; rw [eqD_bl_non]; exact SeqAt.RcAt.bool_none a
    | bl b => have ey := At_bl.mp hy; subst ey; cases ry; rw [eqD]; exact SeqAt.RcAt.bool_bool a b
    | int b => have ey := At_int.mp hy; subst ey; obtain ⟨t, rfl⟩ := ry; rw [eqD]; exact SeqAt.RcAt.bool_int a b t
    | str b => have ey := At_str.mp hy; subst ey; obtain ⟨t, rfl⟩ := ry; rw [eqD_bl_str]; exact SeqAt.RcAt.bool_str a b t
    | tup es =>
      obtain ⟨p, vs, rfl, h1, _⟩ := At_tup.mp hy; cases ry
      obtain ⟨its, rv, ht, _⟩ := I.tuple h1
      rw [eqD_bl_tup]; exact SeqAt.RcAt.bool_tuple a ht (by omega)
  | int a =>
    rw [dep_int] at hu
    have ex := At_int.mp hx; subst ex; obtain ⟨t', rfl⟩ := rx
    cases e with
    | non => have ey := At_non.mp hy; subst ey; cases ry; rw [eqD_int_non]; exact SeqAt.RcAt.int_none a t'
    | bl b => have ey := At_bl.mp hy; subst ey; cases ry; rw [eqD]; exact SeqAt.RcAt.int_bool a t' b
    | int b => have ey := At_int.mp hy; subst ey; obtain ⟨t, rfl⟩ := ry; rw [eqD]; exact SeqAt.RcAt.int_int a t' b t
    | str b => have ey := At_str.mp hy; subst ey; obtain ⟨t, rfl⟩ := ry; rw [eqD_int_str]; exact SeqAt.RcAt.int_str a t' b t
    | tup es =>
      obtain ⟨p, vs, rfl, h1, _⟩ := At_tup.mp hy; cases ry
      obtain ⟨its, rv, ht, _⟩ := I.tuple h1
      rw [eqD_int_tup]; exact SeqAt.RcAt.int_tuple a t' ht (by omega)
  | str a =>
    rw [dep_str] at hu
    have ex := At_str.mp hx; subst ex; obtain ⟨t', rfl⟩ := rx
    cases e with
    | non => have ey := At_non.mp hy; subst ey; cases ry; rw [eqD_str_non]; exact SeqAt.RcAt.str_none a t'
    | bl b => have ey := At_bl.mp hy; subst ey; cases ry; rw [eqD_str_bl]; exact SeqAt.RcAt.str_bool a t' b
    | int b => have ey := At_int.mp hy; subst ey; obtain ⟨t, rfl⟩ := ry; rw [eqD_str_int]; exact SeqAt.RcAt.str_int a t' b t
    | str b => have ey := At_str.mp hy; subst ey; obtain ⟨t, rfl⟩ := ry; rw [eqD]; exact SeqAt.RcAt.str_str a t' b t
    | tup es =>
      obtain ⟨p, vs, rfl, h1, _⟩ := At_tup.mp hy; cases ry
      obtain ⟨its, rv, ht, _⟩ := I.tuple h1
      rw [eqD_str_tup]; exact SeqAt.RcAt.str_tuple a t' ht (by omega)
end
section
variable {X : Cx}
def rEqD (X : Cx) : R2 := fun x y H Q => ∃ d e, At X.K H d x ∧ At X.K H e y ∧ dep d ≤ 60 ∧ Q (.bl (eqD d e)) H
theorem op_eqD {k : Nat} (hr : Room k X.A) : OpR X (compareOp .Eq) (rEqD X) := by
  intro pins s σ H x y v u Q I rx ry h
  obtain ⟨d, e, hx, hy, hd, q⟩ := h
  exact rcAt_D I d e X.A x y v u rx ry hx hy (by have := hr.units; omega) _ _ _ _ ⟨.bl _, H, I, rfl, q⟩
end
end GS
set_option Elab.async false
set_option linter.all false
set_option maxRecDepth 100000
set_option maxHeartbeats 4000000
namespace GS
open PySem L2 PyProof.Rows
section
variable {X : Cx} {pins : List (Addr × Obj)} {σ : L2.St} {H : Hp} {s : Shared}
/-- != -/
theorem rcNeAt_D (I : Inv X pins σ H s) (d e : D) (A : Around) (x y : V) (u v : Value) (rx : RelV x u) (ry : RelV y v) (hx : At X.K H d x) (hy : At X.K H e y) (hu : A.units + dep d < cLine) : SeqAt.RcNeAt A s u v (!eqD d e) := by
  cases d with
  | tup ds =>
    rw [dep] at hu
    obtain ⟨p, vs, rfl, h1, h2⟩ := At_tup.mp hx
    cases rx
    obtain ⟨its, rv, ht, _⟩ := I.tuple h1
    cases e with
    | non => have ey := At_non.mp hy; subst ey; cases ry; rw [eqD_tup_non]; exact SeqAt.RcNeAt.tuple_none ht (by omega)
    | bl b => have ey := At_bl.mp hy; subst ey; cases ry; rw [eqD_tup_bl]; exact SeqAt.RcNeAt.tuple_bool b ht (by omega)
    | int b => have ey := At_int.mp hy; subst ey; obtain ⟨t, rfl⟩ := ry; rw [eqD_tup_int]; exact SeqAt.RcNeAt.tuple_int b t ht (by omega)
    | str b => have ey := At_str.mp hy; subst ey; obtain ⟨t, rfl⟩ := ry; rw [eqD_tup_str]; exact SeqAt.RcNeAt.tuple_str b t ht (by omega)
    | tup es =>
      obtain ⟨q, ws, rfl, g1, g2⟩ := At_tup.mp hy
      cases ry
      obtain ⟨jts, rw', hq, _⟩ := I.tuple g1
      have R := SeqAt.RcNeAt.tuples (A := A) (s := s) (e := fun j => eqD (ds.getD j .non) (es.getD j .non)) (show s.heap.IsTuple p its.toArray from ht) (show s.heap.IsTuple q jts.toArray from hq) (by omega)
        (items_eq I (A := A.in1) (n := deps ds) rv rw' h2 g2 (Nat.le_refl _) (by show A.units + 1 + deps ds < cLine; omega))
      rw [sizes_eq rv rw' h2 g2] at R
      rw [eqD]; exact R
  | non =>
    rw [dep_non] at hu
    have ex := At_non.mp hx; subst ex; cases rx
    cases e with
    | non => have ey := At_non.mp hy; subst ey; cases ry; rw [eqD]; exact SeqAt.RcNeAt.none_none
    | bl b => have ey := At_bl.mp hy; subst ey; cases ry; rw [eqD_non_bl]; exact SeqAt.RcNeAt.none_bool b
    | int b => have ey := At_int.mp hy; subst ey; obtain ⟨t, rfl⟩ := ry; rw [eqD_non_int]; exact SeqAt.RcNeAt.none_int b t
    | str b => have ey := At_str.mp hy; subst ey; obtain ⟨t, rfl⟩ := ry; rw [eqD_non_str]; exact SeqAt.RcNeAt.none_str b t
    | tup es =>
      obtain ⟨p, vs, rfl, h1, _⟩ := At_tup.mp hy; cases ry
      obtain ⟨its, rv, ht, _⟩ := I.tuple h1
      rw [eqD_non_tup]; exact SeqAt.RcNeAt.none_tuple ht (by omega)
  | bl a =>
    rw [dep_bl] at hu
    have ex := At_bl.mp hx; subst ex; cases rx
    cases e with
    | non => have ey := At_non.mp hy; subst ey; cases ry; rw [eqD_bl_non]; exact SeqAt.RcNeAt.bool_none a
    | bl b => have ey := At_bl.mp hy; subst ey; cases ry; rw [eqD]; exact SeqAt.RcNeAt.bool_bool a b
    | int b => have ey := At_int.mp hy; subst ey; obtain ⟨t, rfl⟩ := ry; rw [eqD]; exact SeqAt.RcNeAt.bool_int a b t
    | str b => have ey := At_str.mp hy; subst ey; obtain ⟨t, rfl⟩ := ry; rw [eqD_bl_str]; exact SeqAt.RcNeAt.bool_str a b t
    | tup es =>
      obtain ⟨p, vs, rfl, h1, _⟩ := At_tup.mp hy; cases ry
      obtain ⟨its, rv, ht, _⟩ := I.tuple h1
      rw [eqD_bl_tup]; exact SeqAt.RcNeAt.bool_tuple a ht (by omega)
  | int a =>
    rw [dep_int] at hu
    have ex := At_int.mp hx; subst ex; obtain ⟨t', rfl⟩ := rx
    cases e with
    | non => have ey := At_non.mp hy; subst ey; cases ry; rw [eqD_int_non]; exact SeqAt.RcNeAt.int_none a t'
    | bl b => have ey := At_bl.mp hy; subst ey; cases ry; rw [eqD]; exact SeqAt.RcNeAt.int_bool a t' b
    | int b => have ey := At_int.mp hy; subst ey; obtain ⟨t, rfl⟩ := ry; rw [eqD]; exact SeqAt.RcNeAt.int_int a t' b t
    | str b => have ey := At_str.mp hy; subst ey; obtain ⟨t, rfl⟩ := ry; rw [eqD_int_str]; exact SeqAt.RcNeAt.int_str a t' b t
    | tup es =>
      obtain ⟨p, vs, rfl, h1, _⟩ := At_tup.mp hy; cases ry
      obtain ⟨its, rv, ht, _⟩ := I.tuple h1
      rw [eqD_int_tup]; exact SeqAt.RcNeAt.int_tuple a t' ht (by omega)
  | str a =>
    rw [dep_str] at hu
    have ex := At_str.mp hx; subst ex; obtain ⟨t', rfl⟩ := rx
    cases e with
    | non => have ey := At_non.mp hy; subst ey; cases ry; rw [eqD_str_non]; exact SeqAt.RcNeAt.str_none a t'
    | bl b => have ey := At_bl.mp hy; subst ey; cases ry; rw [eqD_str_bl]; exact SeqAt.RcNeAt.str_bool a t' b
    | int b => have ey := At_int.mp hy; subst ey; obtain ⟨t, rfl⟩ := ry; rw [eqD_str_int]; exact SeqAt.RcNeAt.str_int a t' b t
    | str b => have ey := At_str.mp hy; subst ey; obtain ⟨t, rfl⟩ := ry; rw [eqD]; exact SeqAt.RcNeAt.str_str a t' b t
    | tup es =>
      obtain ⟨p, vs, rfl, h1, _⟩ := At_tup.mp hy; cases ry
      obtain ⟨its, rv, ht, _⟩ := I.tuple h1
      rw [eqD_str_tup]; exact SeqAt.RcNeAt.str_tuple a t' ht (by omega)
end
section
variable {X : Cx}
def rNeD (X : Cx) : R2 := fun x y H Q => ∃ d e, At X.K H d x ∧ At X.K H e y ∧ dep d ≤ 60 ∧ Q (.bl (!eqD d e)) H
theorem op_neD {k : Nat} (hr : Room k X.A) : OpR X (compareOp .NotEq) (rNeD X) := by
  intro pins s σ H x y v u Q I rx ry h
  obtain ⟨d, e, hx, hy, hd, q⟩ := h
  exact rcNeAt_D I d e X.A x y v u rx ry hx hy (by have := hr.units; omega) _ _ _ _ ⟨.bl _, H, I, rfl, q⟩
end
/-! ### the text of a thing -/
mutual
def toPy : D → PyData
  | .non => .none
  | .bl b => .bool b
  | .int i => .int i
  | .str x => .str x
  | .tup xs => .tuple (toPys xs)
def toPys : List D → List PyData
  | [] => []
  | x :: xs => toPy x :: toPys xs
end
mutual
theorem toPy_dep : ∀ d : D, (toPy d).depth ≤ dep d + 1
  | .non => by rw [toPy, dep_non]; simp [PyData.depth]
  | .bl b => by rw [toPy, dep_bl]; simp [PyData.depth]
  | .int i => by rw [toPy, dep_int]; simp [PyData.depth]
  | .str x => by rw [toPy, dep_str]; simp [PyData.depth]
  | .tup xs => by
    have := toPys_dep xs
    rw [toPy, dep]
    show PyData.depthAll (toPys xs) + 1 ≤ _
    omega
theorem toPys_dep : ∀ ds : List D, PyData.depthAll (toPys ds) ≤ deps ds + 1
  | [] => by rw [toPys]; simp [PyData.depthAll]
  | d :: ds => by
    have h1 := toPy_dep d
    have h2 := toPys_dep ds
    rw [toPys, deps]
    show max (toPy d).depth (PyData.depthAll (toPys ds)) ≤ _
    omega
end
mutual
theorem toPy_nodict : ∀ d : D, (toPy d).hasDict = false
  | .non => by rw [toPy]; rfl
  | .bl b => by rw [toPy]; rfl
  | .int i => by rw [toPy]; rfl
  | .str x => by rw [toPy]; rfl
  | .tup xs => by
    rw [toPy]
    show PyData.hasDictAll (toPys xs) = false
    exact toPys_nodict xs
theorem toPys_nodict : ∀ ds : List D, PyData.hasDictAll (toPys ds) = false
  | [] => by rw [toPys]; rfl
  | d :: ds => by
    rw [toPys]
    show ((toPy d).hasDict || PyData.hasDictAll (toPys ds)) = false
    rw [toPy_nodict d, toPys_nodict ds]; rfl
end
section
variable {X : Cx} {pins : List (Addr × Obj)} {σ : L2.St} {H : Hp} {s : Shared}
mutual
theorem reads_D (I : Inv X pins σ H s) : ∀ (d : D) (x : V) (u : Value), RelV x u → At X.K H d x → ∃ as, Reads s.heap u (toPy d) as
  | .non, x, u, r, h => by have e := At_non.mp h; subst e; cases r; rw [toPy]; exact ⟨_, .none⟩
  | .bl b, x, u, r, h => by have e := At_bl.mp h; subst e; cases r; rw [toPy]; exact ⟨_, .bool b⟩
  | .int i, x, u, r, h => by have e := At_int.mp h; subst e; obtain ⟨t, rfl⟩ := r; rw [toPy]; exact ⟨_, .int i t⟩
  | .str y, x, u, r, h => by have e := At_str.mp h; subst e; obtain ⟨t, rfl⟩ := r; rw [toPy]; exact ⟨_, .str y t⟩
  | .tup ds, x, u, r, h => by
    obtain ⟨p, vs, rfl, h1, h2⟩ := At_tup.mp h
    cases r
    obtain ⟨its, rv, ht, _⟩ := I.tuple h1
    obtain ⟨o, e1, e2, n, e3⟩ := (show IsTup s.heap p its.toArray from ht)
    obtain ⟨as, ra⟩ := reads_Ds I ds vs its rv h2
    rw [toPy]
    exact ⟨_, .tuple e1 e2 e3 (by simpa using ra)⟩
theorem reads_Ds (I : Inv X pins σ H s) : ∀ (ds : List D) (vs : List V) (its : List Value), Vals vs its → AtAll X.K H ds vs → ∃ as, ReadsAll s.heap its (toPys ds) as
  | [], vs, its, r, h => by have e := AtAll_nil.mp h; subst e; cases r; rw [toPys]; exact ⟨_, .nil⟩
  | d :: ds, vs, its, r, h => by
    obtain ⟨v, vr, rfl, h1, h2⟩ := AtAll_cons.mp h
    cases r with
    | cons r1 r2 =>
      obtain ⟨as, x⟩ := reads_D I d v _ r1 h1
      obtain ⟨bs, y⟩ := reads_Ds I ds vr _ r2 h2
      rw [toPys]
      exact ⟨_, .cons x y⟩
end
end
section
variable {X : Cx}
/-- repr of a tuple -/
theorem call_reprT {k : Nat} (hr : Room k X.A) : CallR X (.builtin "repr") (fun xs H Q => ∃ (x : V) (ds : List D), xs = [x] ∧ At X.K H (.tup ds) x ∧ (toPy (.tup ds)).showable = true ∧ dep (.tup ds) ≤ 40 ∧ (toPy (.tup ds)).shown.length ≤ sizeLine ∧ Q (.str (toPy (.tup ds)).shown) H) := by
  intro pins s σ H xs us Q I r h
  obtain ⟨x, ds, rfl, hx, hs, hd, hz, q⟩ := h
  obtain ⟨u, rfl, ru⟩ := vals1 r
  obtain ⟨as, rd⟩ := reads_D I (.tup ds) x u ru hx
  obtain ⟨p, vs, rfl, _⟩ := At_tup.mp hx
  cases ru
  have hdep := toPy_dep (.tup ds)
  exact repr_of_reads' rd hs (fun z => by rw [toPy_nodict] at z; cases z) hr.gd (by have := hr.units; omega) (fun b o e => e) (fun h' u tk kp => ⟨.str _, H, I.kept kp, ⟨_, rfl⟩, q⟩) hz
end
end GS
set_option Elab.async false
set_option linter.all false
set_option maxRecDepth 100000
set_option maxHeartbeats 4000000
namespace GS
open PySem L2 PyProof.Rows
section
variable {X : Cx}
/-! ### «in» a tuple of such things -/
theorem mem_D {pins : List (Addr × Obj)} {σ : L2.St} {H : Hp} {s : Shared} (I : Inv X pins σ H s) {d : D} {x : V} {v : Value} (rx : RelV x v) (hx : At X.K H d x) {ds : List D} {xs : List V} {its : List Value} (ha : AtAll X.K H ds xs) (rv : Vals xs its) (A : Around) (hu : ∀ e ∈ ds, A.units + dep e < cLine) :
    ∃ f : Value → Bool, (∀ u ∈ its, SeqAt.EqAt A s u v (f u)) ∧ its.any f = ds.any fun e => eqD e d := by
  classical
  have fact : ∀ (i : Nat) (u : Value), its[i]? = some u → ∃ e y, ds[i]? = some e ∧ RelV y u ∧ At X.K H e y := fun i u hu => by
    have hi : i < its.length := (List.getElem?_eq_some_iff.mp hu).1
    have h1 := rv.length
    have h2 := ha.len
    obtain ⟨e, he⟩ : ∃ e, ds[i]? = some e := ⟨ds[i]'(by omega), by simp⟩
    obtain ⟨y, hy, hy2⟩ := ha.get he
    obtain ⟨u', hu', ru⟩ := rv.get hy
    rw [hu] at hu'
    cases hu'
    exact ⟨e, y, he, ru, hy2⟩
  have val : ∀ (i : Nat) (u : Value) (e : D), its[i]? = some u → ds[i]? = some e → (decide (∃ (j : Nat) (e' : D), its[j]? = some u ∧ ds[j]? = some e' ∧ eqD e' d = true)) = eqD e d := fun i u e hu he => by
    rw [Bool.eq_iff_iff, decide_eq_true_eq]
    constructor
    · rintro ⟨j, e', hj, hj2, h⟩
      obtain ⟨e1, y1, k1, k2, k3⟩ := fact i u hu
      obtain ⟨e2, y2, l1, l2, l3⟩ := fact j u hj
      rw [he] at k1; cases k1
      rw [hj2] at l1; cases l1
      have ey := RelV.inj k2 l2
      subst ey
      have := At.one I _ _ _ k3 l3
      rw [this]; exact h
    · exact fun h => ⟨i, e, hu, he, h⟩
  refine ⟨fun u => decide (∃ (j : Nat) (e' : D), its[j]? = some u ∧ ds[j]? = some e' ∧ eqD e' d = true), fun u hu' => ?_, ?_⟩
  · obtain ⟨i, hi⟩ := List.mem_iff_getElem?.mp hu'
    obtain ⟨e, y, he, ry, hy⟩ := fact i u hi
    dsimp only
    rw [val i u e hi he]
    exact eqAt_D I (dep e) e d A y x u v (Nat.le_refl _) ry rx hy hx (hu e (List.mem_of_getElem? he))
  · rw [Bool.eq_iff_iff, List.any_eq_true, List.any_eq_true]
    constructor
    · rintro ⟨u, hu', h⟩
      obtain ⟨i, hi⟩ := List.mem_iff_getElem?.mp hu'
      obtain ⟨e, y, he, ry, hy⟩ := fact i u hi
      rw [val i u e hi he] at h
      exact ⟨e, List.mem_of_getElem? he, h⟩
    · rintro ⟨e, he, h⟩
      obtain ⟨i, hi⟩ := List.mem_iff_getElem?.mp he
      obtain ⟨y, hy, _⟩ := ha.get hi
      obtain ⟨u, hu', _⟩ := rv.get hy
      exact ⟨u, List.mem_of_getElem? hu', by rw [val i u e hu' hi]; exact h⟩
def rInD (X : Cx) (neg : Bool) : R2 := fun x y H Q => ∃ d ds, At X.K H d x ∧ At X.K H (.tup ds) y ∧ (∀ e ∈ ds, dep e ≤ 60) ∧ Q (.bl (if neg then !(ds.any fun e => eqD e d) else ds.any fun e => eqD e d)) H
theorem op_notInD {k : Nat} (hr : Room k X.A) : OpR X (compareOp .NotIn) (rInD X true) := by
  intro pins s σ H x y v u Q I rx ry h
  obtain ⟨d, ds, hx, hy, hd, q⟩ := h
  obtain ⟨p, xs, rfl, hq, ha⟩ := At_tup.mp hy
  cases ry
  obtain ⟨its, r, pl, hz⟩ := I.tuple hq
  obtain ⟨f, f1, f2⟩ := mem_D I rx hx ha r X.A.in1 (fun e he => by have := hr.units; have := hd e he; show X.A.units + 1 + _ < _; omega)
  refine SeqAt.notIn_tupleAt f pl (fun w hw => f1 w (by simpa using hw)) ⟨.bl _, H, I, rfl, ?_⟩
  rw [show its.toArray.any f = its.any f by simp, f2]
  exact q
end
end GS
set_option Elab.async false
set_option linter.all false
set_option maxRecDepth 100000
set_option maxHeartbeats 4000000
namespace L2
open PySem PySem.Spec PyProof.Rows

/-! ### lists of pairs as tables -/
section
variable {κ : Type} [DecidableEq κ]
def valV (kvs : List (κ × V)) (k : κ) : Option V := (kvs.find? fun kv => decide (kv.1 = k)).map (·.2)
/-- in its place, or at the end -/
def putK (kvs : List (κ × V)) (k : κ) (v : V) : List (κ × V) :=
  if (kvs.any fun kv => decide (kv.1 = k)) = true then kvs.map (fun kv => if kv.1 = k then (kv.1, v) else kv) else kvs ++ [(k, v)]
def dropK (kvs : List (κ × V)) (k : κ) : List (κ × V) := kvs.filter fun kv => decide (kv.1 ≠ k)

theorem valV_nil {k : κ} : valV ([] : List (κ × V)) k = none := rfl
theorem valV_pos {p : κ × V} {r : List (κ × V)} {k : κ} (e : p.1 = k) : valV (p :: r) k = some p.2 := by simp [valV, List.find?_cons, e]
theorem valV_neg {p : κ × V} {r : List (κ × V)} {k : κ} (e : ¬ p.1 = k) : valV (p :: r) k = valV r k := by simp [valV, List.find?_cons, e]
theorem valV_any (k : κ) : ∀ kvs : List (κ × V), (kvs.any fun kv => decide (kv.1 = k)) = (valV kvs k).isSome
  | [] => rfl
  | p :: r => by
    rw [List.any_cons]
    by_cases e : p.1 = k
    · simp only [valV_pos e, decide_eq_true e, Bool.true_or, Option.isSome_some]
    · rw [valV_neg e, decide_eq_false e, Bool.false_or]; exact valV_any k r
theorem valV_map (k j : κ) (y : V) : ∀ kvs : List (κ × V), valV (kvs.map fun kv => if kv.1 = k then (kv.1, y) else kv) j = (valV kvs j).map fun x => if j = k then y else x
  | [] => rfl
  | p :: r => by
    have ih := valV_map k j y r
    rw [List.map_cons]
    by_cases h : p.1 = k
    · rw [if_pos h]
      by_cases e : p.1 = j
      · rw [valV_pos (p := (p.1, y)) e, valV_pos e, Option.map_some, if_pos (e.symm.trans h)]
      · rw [valV_neg (p := (p.1, y)) e, valV_neg e, ih]
    · rw [if_neg h]
      by_cases e : p.1 = j
      · rw [valV_pos (p := p) e, valV_pos e, Option.map_some, if_neg (fun z => h (e.trans z))]
      · rw [valV_neg (p := p) e, valV_neg e, ih]
theorem valV_snoc (k j : κ) (y : V) : ∀ kvs : List (κ × V), valV kvs k = none → valV (kvs ++ [(k, y)]) j = if j = k then some y else valV kvs j
  | [], _ => by
    by_cases e : k = j
    · rw [if_pos e.symm]; exact valV_pos (p := (k, y)) e
    · rw [if_neg (fun z => e z.symm)]; exact valV_neg (p := (k, y)) e
  | p :: r, hn => by
    rw [List.cons_append]
    have hk : ¬ p.1 = k := fun z => by rw [valV_pos z] at hn; cases hn
    rw [valV_neg hk] at hn
    have ih := valV_snoc k j y r hn
    by_cases e : p.1 = j
    · rw [valV_pos e, valV_pos e, if_neg (fun z => hk (e.trans z))]
    · rw [valV_neg e, valV_neg e, ih]
theorem valV_put (kvs : List (κ × V)) (k j : κ) (y : V) : valV (putK kvs k y) j = if j = k then some y else valV kvs j := by
  unfold putK
  by_cases a : (kvs.any fun kv => decide (kv.1 = k)) = true
  · rw [if_pos a, valV_map]
    rw [valV_any] at a
    by_cases e : j = k
    · obtain ⟨x, hx⟩ := Option.isSome_iff_exists.mp a
      rw [if_pos e, e, hx, Option.map_some, if_pos rfl]
    · rw [if_neg e]
      cases valV kvs j with
      | none => rfl
      | some x => rw [Option.map_some, if_neg e]
  · rw [if_neg a]
    refine valV_snoc k j y kvs ?_
    rw [valV_any] at a
    cases q : valV kvs k with
    | none => rfl
    | some x => rw [q] at a; exact (a rfl).elim
theorem length_putK (kvs : List (κ × V)) (k : κ) (v : V) : (putK kvs k v).length ≤ kvs.length + 1 := by
  unfold putK
  split
  · rw [List.length_map]; omega
  · rw [List.length_append, List.length_cons, List.length_nil]; omega
theorem putK_new {kvs : List (κ × V)} {k : κ} (v : V) (h : valV kvs k = none) : putK kvs k v = kvs ++ [(k, v)] := by
  unfold putK
  rw [valV_any, h]
  exact if_neg (by decide)

theorem RelO.isSome_eq {o : Option V} {u : Option Value} (r : RelO o u) : o.isSome = u.isSome := by
  cases o with
  | none => cases u with
    | none => rfl
    | some _ => exact (show False from r).elim
  | some _ => cases u with
    | none => exact (show False from r).elim
    | some _ => rfl
theorem RelO.getD {o : Option V} {u : Option Value} {d : V} {d' : Value} (r : RelO o u) (rd : RelV d d') : RelV (o.getD d) (u.getD d') := by
  cases o with
  | none => cases u with
    | none => exact rd
    | some _ => exact (show False from r).elim
  | some _ => cases u with
    | none => exact (show False from r).elim
    | some _ => exact r

/-- raw tables of the same keys -/
theorem KV.val {kvs : List (κ × V)} {vs : List (κ × Value)} (r : KV kvs vs) (k : κ) : RelO (valV kvs k) (valueAt vs k) := by
  unfold KV at r
  induction r with
  | nil => exact True.intro
  | @cons p q ps qs h t ih =>
    obtain ⟨h1, h2⟩ := h
    by_cases e : p.1 = k
    · have e' : q.1 = k := h1.symm.trans e
      have b : valueAt (q :: qs) k = some q.2 := by simp [valueAt, List.find?_cons, e']
      rw [valV_pos e, b]; exact h2
    · have e' : ¬ q.1 = k := fun z => e (h1.trans z)
      have b : valueAt (q :: qs) k = valueAt qs k := by simp [valueAt, List.find?_cons, e']
      rw [valV_neg e, b]; exact ih
theorem KV.any {kvs : List (κ × V)} {vs : List (κ × Value)} (r : KV kvs vs) (k : κ) : (kvs.any fun kv => decide (kv.1 = k)) = vs.any fun kv => decide (kv.1 = k) := by
  unfold KV at r
  induction r with
  | nil => rfl
  | cons h t ih => rw [List.any_cons, List.any_cons, ih, h.1]
theorem KV.repl {kvs : List (κ × V)} {vs : List (κ × Value)} (r : KV kvs vs) (k : κ) {y : V} {u : Value} (ry : RelV y u) :
    KV (kvs.map fun kv => if kv.1 = k then (kv.1, y) else kv) (vs.map fun kv => if kv.1 = k then (kv.1, u) else kv) := by
  unfold KV at r ⊢
  induction r with
  | nil => exact .nil
  | @cons p q ps qs h t ih =>
    rw [List.map_cons, List.map_cons]
    refine .cons ?_ ih
    obtain ⟨h1, h2⟩ := h
    by_cases e : p.1 = k
    · rw [if_pos e, if_pos (h1.symm.trans e)]; exact ⟨h1, ry⟩
    · rw [if_neg e, if_neg (fun z => e (h1.trans z))]; exact ⟨h1, h2⟩
theorem KV.put {kvs : List (κ × V)} {vs : List (κ × Value)} (r : KV kvs vs) (k : κ) {y : V} {u : Value} (ry : RelV y u) : KV (putK kvs k y) (stored vs k u) := by
  unfold putK stored
  rw [r.any k]
  by_cases e : (vs.any fun kv => decide (kv.1 = k)) = true
  · rw [if_pos e, if_pos e]; exact r.repl k ry
  · rw [if_neg e, if_neg e]; exact Paired.snoc r ⟨rfl, ry⟩
theorem KV.drop {kvs : List (κ × V)} {vs : List (κ × Value)} (r : KV kvs vs) (k : κ) : KV (dropK kvs k) (without vs k) := by
  unfold KV at r ⊢
  unfold dropK without
  induction r with
  | nil => exact .nil
  | @cons p q ps qs h t ih =>
    obtain ⟨h1, h2⟩ := h
    rw [List.filter_cons, List.filter_cons]
    by_cases e : p.1 = k
    · have a : ¬ decide (p.1 ≠ k) = true := by simp [e]
      have b : ¬ decide (q.1 ≠ k) = true := by simp [h1.symm.trans e]
      rw [if_neg a, if_neg b]; exact ih
    · have e' : ¬ q.1 = k := fun z => e (h1.trans z)
      have a : decide (p.1 ≠ k) = true := by simp [e]
      have b : decide (q.1 ≠ k) = true := by simp [e']
      rw [if_pos a, if_pos b]; exact .cons ⟨h1, h2⟩ ih
theorem KV.keys {kvs : List (κ × V)} {vs : List (κ × Value)} (r : KV kvs vs) : kvs.map (·.1) = vs.map (·.1) := by
  unfold KV at r
  induction r with
  | nil => rfl
  | cons h t ih => rw [List.map_cons, List.map_cons, ih, h.1]
theorem KV.length {kvs : List (κ × V)} {vs : List (κ × Value)} (r : KV kvs vs) : kvs.length = vs.length := Paired.length r
theorem dropK_le (kvs : List (κ × V)) (k : κ) : (dropK kvs k).length ≤ kvs.length := List.length_filter_le _ _
end


/-! ### a tracked dict, its keys ints and texts or tuples of these -/
theorem kV_is {P : Program} {w : World} {k : Key} {u : Value} (r : RelV (kV k) u) : (mixKind P w).is k u = true := by
  cases k with
  | inl i => obtain ⟨t, e⟩ := (show ∃ t, u = Value.int i t from r); subst e; exact mixKind_int P w i t
  | inr x => obtain ⟨t, e⟩ := (show ∃ t, u = Value.str x t from r); subst e; exact mixKind_str P w x t
theorem kV_inj {a b : Key} (e : kV a = kV b) : a = b := by
  cases a with
  | inl i => cases b with
    | inl j => have e' : V.int i = V.int j := e; injection e' with e'; rw [e']
    | inr y => exact nomatch (show V.int i = V.str y from e)
  | inr x => cases b with
    | inl j => exact nomatch (show V.str x = V.int j from e)
    | inr y => have e' : V.str x = V.str y := e; injection e' with e'; rw [e']
theorem kVs_inj : ∀ {a b : List Key}, a.map kV = b.map kV → a = b
  | [], [], _ => rfl
  | [], _ :: _, e => by simp at e
  | _ :: _, [], e => by simp at e
  | x :: xs, y :: ys, e => by
    rw [List.map_cons, List.map_cons] at e
    injection e with e1 e2
    rw [kV_inj e1, kVs_inj e2]
theorem items_are {P : Program} {w : World} : ∀ {ks : List Key} {us : List Value}, Vals (ks.map kV) us → ItemsAre (mixKind P w) ks us
  | [], _, r => by rw [List.map_nil] at r; cases r; exact .nil
  | k :: ks, _, r => by
    rw [List.map_cons] at r
    cases r with
    | cons h t => exact .cons (kV_is h) (items_are t)

/-- raw entries of a dict with tuple keys -/
abbrev KT (H : Hp) : List (List Key × V) → List (List Key × Addr × Value) → Prop := Paired fun p q => p.1 = q.1 ∧ H q.2.1 = some (.tup (p.1.map kV)) ∧ RelV p.2 q.2.2
theorem KT.val {H : Hp} {kvs : List (List Key × V)} {xs : List (List Key × Addr × Value)} (r : KT H kvs xs) (k : List Key) : RelO (valV kvs k) ((atKey xs k).map (·.2)) := by
  induction r with
  | nil => exact True.intro
  | @cons p q ps qs h t ih =>
    obtain ⟨h1, _, h2⟩ := h
    by_cases e : p.1 = k
    · have e' : q.1 = k := h1.symm.trans e
      have b : atKey (q :: qs) k = some q.2 := by simp [atKey, List.find?_cons, e']
      rw [valV_pos e, b]; exact h2
    · have e' : ¬ q.1 = k := fun z => e (h1.trans z)
      have b : atKey (q :: qs) k = atKey qs k := by simp [atKey, List.find?_cons, e']
      rw [valV_neg e, b]; exact ih
theorem KT.repl {H : Hp} {kvs : List (List Key × V)} {xs : List (List Key × Addr × Value)} (r : KT H kvs xs) (k : List Key) {y : V} {u : Value} (ry : RelV y u) :
    KT H (kvs.map fun kv => if kv.1 = k then (kv.1, y) else kv) (xs.map (putAt k u)) := by
  induction r with
  | nil => exact .nil
  | @cons p q ps qs h t ih =>
    rw [List.map_cons, List.map_cons]
    refine .cons ?_ ih
    obtain ⟨h1, h2, h3⟩ := h
    unfold putAt
    by_cases e : p.1 = k
    · rw [if_pos e, if_pos (h1.symm.trans e)]; exact ⟨h1, h2, ry⟩
    · rw [if_neg e, if_neg (fun z => e (h1.trans z))]; exact ⟨h1, h2, h3⟩
theorem KT.put {H : Hp} {kvs : List (List Key × V)} {xs : List (List Key × Addr × Value)} (r : KT H kvs xs) (k : List Key) {b : Addr} {y : V} {u : Value} (hb : H b = some (.tup (k.map kV))) (ry : RelV y u) :
    KT H (putK kvs k y) (storedH xs k b u) := by
  have e : (kvs.any fun kv => decide (kv.1 = k)) = (atKey xs k).isSome := by
    rw [valV_any, (r.val k).isSome_eq, Option.isSome_map]
  unfold putK storedH
  rw [e]
  by_cases q : (atKey xs k).isSome = true
  · rw [if_pos q, if_pos q]; exact r.repl k ry
  · rw [if_neg q, if_neg q]; exact Paired.snoc r ⟨rfl, hb, ry⟩
theorem KT.keeps {H H' : Hp} {kvs : List (List Key × V)} {xs : List (List Key × Addr × Value)} (r : KT H kvs xs) (ht : ∀ b ys, H b = some (.tup ys) → H' b = some (.tup ys)) : KT H' kvs xs :=
  Paired.mapP r fun _ _ z => ⟨z.1, ht _ _ z.2.1, z.2.2⟩

section
variable {P : Program} {w : World} {H : Hp} {h : Heap} {a : Addr}
theorem rd_of {u : HO} (ok : HOk P w H h) (e : Rd H a u) : ObjOk P w H h a u := e.ok ok
theorem dk_rd {kvs : List (Key × V)} (ok : HOk P w H h) (e : Rd H a (.dK kvs)) : kvs.length ≤ sizeLine ∧ (a == sysModules) = false ∧ ∃ vs, KV kvs vs ∧ h.DictOf (mixKind P w) a vs :=
  show ObjOk P w H h a (.dK kvs) from rd_of ok e
theorem dk_of {kvs : List (Key × V)} (ok : HOk P w H h) (e : H a = some (.dK kvs)) : kvs.length ≤ sizeLine ∧ (a == sysModules) = false ∧ ∃ vs, KV kvs vs ∧ h.DictOf (mixKind P w) a vs := dk_rd ok (.inl e)
/-- a tracked tuple of ints and texts is a key -/
theorem key_of {ks : List Key} (ok : HOk P w H h) (e : H a = some (.tup (ks.map kV))) : (tupleKind (mixKind P w)).is h ks a := by
  obtain ⟨_, its, r, o, h1, h2, n, h3⟩ := (show ObjOk P w H h a (.tup (ks.map kV)) from ok a _ e)
  exact ⟨o, its.toArray, n, h1, h2, h3, by simpa using items_are r⟩
theorem dt_rd {kvs : List (List Key × V)} (ok : HOk P w H h) (e : Rd H a (.dT kvs)) : kvs.length ≤ sizeLine ∧ (a == sysModules) = false ∧
    ∃ xs, KT H kvs xs ∧ h.DictOfH (tupleKind (mixKind P w)) a xs := by
  obtain ⟨z, y, xs, r, o, es, ep, h1, h2, h3, h4, h5⟩ := (show ObjOk P w H h a (.dT kvs) from rd_of ok e)
  refine ⟨z, y, xs, r, o, es, ep, h1, h2, h3, h4, fun x hx => ?_, h5⟩
  have all : ∀ {l : List (List Key × V)} {m : List (List Key × Addr × Value)}, KT H l m → ∀ x ∈ m, (tupleKind (mixKind P w)).is h x.1 x.2.1 := by
    intro l m q
    induction q with
    | nil => intro x hx; exact nomatch hx
    | @cons p q ps qs hq t ih =>
      intro x hx
      rcases List.mem_cons.mp hx with e | hx
      · subst e
        exact key_of ok (by rw [← hq.1]; exact hq.2.1)
      · exact ih x hx
  exact all r x hx
theorem dt_of {kvs : List (List Key × V)} (ok : HOk P w H h) (e : H a = some (.dT kvs)) : kvs.length ≤ sizeLine ∧ (a == sysModules) = false ∧
    ∃ xs, KT H kvs xs ∧ h.DictOfH (tupleKind (mixKind P w)) a xs := dt_rd ok (.inl e)
end

/-- what the dict at a holds at the key y -/
def DGet (H : Hp) (a : Addr) (y : V) (r : Option V) : Prop :=
  (∃ kvs k, Rd H a (.dK kvs) ∧ y = kV k ∧ r = valV kvs k) ∨ ∃ kvs k b, Rd H a (.dT kvs) ∧ y = .ref b ∧ H b = some (.tup (k.map kV)) ∧ r = valV kvs k
/-- the heap behind a[y] = v -/
def DPut (H : Hp) (a : Addr) (y v : V) (H' : Hp) : Prop :=
  (∃ kvs k, H a = some (.dK kvs) ∧ y = kV k ∧ kvs.length < sizeLine ∧ H' = upd H a (.dK (putK kvs k v))) ∨
  ∃ kvs k b, H a = some (.dT kvs) ∧ y = .ref b ∧ H b = some (.tup (k.map kV)) ∧ kvs.length < sizeLine ∧ H' = upd H a (.dT (putK kvs k v))
theorem DGet.k {H : Hp} {a : Addr} {kvs : List (Key × V)} {k : Key} (e : H a = some (.dK kvs)) : DGet H a (kV k) (valV kvs k) := .inl ⟨kvs, k, .inl e, rfl, rfl⟩
theorem DGet.t {H : Hp} {a b : Addr} {kvs : List (List Key × V)} {k : List Key} (e : H a = some (.dT kvs)) (eb : H b = some (.tup (k.map kV))) : DGet H a (.ref b) (valV kvs k) := .inr ⟨kvs, k, b, .inl e, rfl, eb, rfl⟩
theorem DPut.k {H : Hp} {a : Addr} {kvs : List (Key × V)} {k : Key} {v : V} (e : H a = some (.dK kvs)) (hl : kvs.length < sizeLine) : DPut H a (kV k) v (upd H a (.dK (putK kvs k v))) := .inl ⟨kvs, k, e, rfl, hl, rfl⟩
theorem DPut.t {H : Hp} {a b : Addr} {kvs : List (List Key × V)} {k : List Key} {v : V} (e : H a = some (.dT kvs)) (eb : H b = some (.tup (k.map kV))) (hl : kvs.length < sizeLine) :
    DPut H a (.ref b) v (upd H a (.dT (putK kvs k v))) := .inr ⟨kvs, k, b, e, rfl, eb, hl, rfl⟩


section
variable {X : Cx} {pins : List (Addr × Obj)} {σ : St} {H : Hp} {s : Shared} {a : Addr} {y v : V} {u r : Value} {o : Option V} {A : Around} {E : Value → Shared → Prop}


/-- d[y], there -/
theorem d_getItem {Q : Value → Shared → Prop} (hu : A.units + 1 < cLine) (I : Inv X pins σ H s) (g : DGet H a y (some v)) (ry : RelV y u) (h : ∀ w' s', Inv X pins σ H s' → RelV v w' → Q w' s') :
    wpAny (model X.prog X.w) A (getItem (.ref a) u) Q E s := by
  rcases g with ⟨kvs, k, e, ey, l⟩ | ⟨kvs, k, b, e, ey, eb, l⟩
  · subst ey
    obtain ⟨z, hd, vs, rel, dd⟩ := dk_rd I.hok e
    obtain ⟨w', hw, rw'⟩ := RelO.some_of (v := v) (o := valueAt vs k) (by rw [l]; exact rel.val k)
    exact wpAny_getItem_of (kV_is ry) dd.mapOf hw (h w' _ (I.tok _) rw')
  · subst ey
    cases (show u = Value.ref b from ry)
    obtain ⟨z, hd, xs, rel, dd⟩ := dt_rd I.hok e
    obtain ⟨w', hw, rw'⟩ := RelO.some_of (v := v) (o := (atKey xs k).map (·.2)) (by rw [l]; exact rel.val k)
    obtain ⟨p, hp, hp2⟩ := Option.map_eq_some_iff.mp hw
    refine wpAny_getItem_heap (tupleKind_room_in1 hu) (key_of I.hok eb) dd hp ?_
    rw [hp2]
    exact h w' _ (I.tok _) rw'
/-- y in d -/
theorem d_in {Q : Value → Shared → Prop} (hu : A.units + 1 < cLine) (I : Inv X pins σ H s) (g : DGet H a y o) (ry : RelV y u) (h : ∀ s', Inv X pins σ H s' → Q (.bool o.isSome) s') :
    wpAny (model X.prog X.w) A (compareOp .In u (.ref a)) Q E s := by
  rcases g with ⟨kvs, k, e, ey, l⟩ | ⟨kvs, k, b, e, ey, eb, l⟩
  · subst ey
    obtain ⟨z, hd, vs, rel, dd⟩ := dk_rd I.hok e
    refine wpAny_in_of (kV_is ry) hd dd.mapOf ?_
    rw [← (rel.val k).isSome_eq, ← l]
    exact h _ (I.tok _)
  · subst ey
    cases (show u = Value.ref b from ry)
    obtain ⟨z, hd, xs, rel, dd⟩ := dt_rd I.hok e
    refine wpAny_in_heap (tupleKind_room_in1 hu) (key_of I.hok eb) hd dd ?_
    have q := (rel.val k).isSome_eq
    rw [Option.isSome_map] at q
    rw [← q, ← l]
    exact h _ (I.tok _)
theorem d_notIn {Q : Value → Shared → Prop} (hu : A.units + 1 < cLine) (I : Inv X pins σ H s) (g : DGet H a y o) (ry : RelV y u) (h : ∀ s', Inv X pins σ H s' → Q (.bool (!o.isSome)) s') :
    wpAny (model X.prog X.w) A (compareOp .NotIn u (.ref a)) Q E s := by
  rcases g with ⟨kvs, k, e, ey, l⟩ | ⟨kvs, k, b, e, ey, eb, l⟩
  · subst ey
    obtain ⟨z, hd, vs, rel, dd⟩ := dk_rd I.hok e
    refine wpAny_notIn_of (kV_is ry) hd dd.mapOf ?_
    rw [← (rel.val k).isSome_eq, ← l]
    exact h _ (I.tok _)
  · subst ey
    cases (show u = Value.ref b from ry)
    obtain ⟨z, hd, xs, rel, dd⟩ := dt_rd I.hok e
    refine wpAny_notIn_heap (tupleKind_room_in1 hu) (key_of I.hok eb) hd dd ?_
    have q := (rel.val k).isSome_eq
    rw [Option.isSome_map] at q
    rw [← q, ← l]
    exact h _ (I.tok _)
/-- a dict's object is replaced -/
theorem d_write {h' : Heap} {t' : Nat} {ob : HO} (I : Inv X pins σ H s) (mu : Mut (H a)) (hs : Heap.SameBut a s.heap h') (he : ∃ q, h'.get? a = some q) (new : ObjOk X.prog X.w (upd H a ob) h' a ob) :
    Inv X pins σ (upd H a ob) { s with heap := h', toks := t' } :=
  I.write (x := a) (e := a) mu (.inl rfl) (fun b q hb z => (hs.2 b hb).trans z) he new
theorem dk_new {P : Program} {w : World} {H' : Hp} {h' : Heap} {kvs : List (Key × V)} {vs : List (Key × Value)} (z : kvs.length ≤ sizeLine) (hd : (a == sysModules) = false) (rel : KV kvs vs) (dd : h'.DictOf (mixKind P w) a vs) :
    ObjOk P w H' h' a (.dK kvs) := ⟨z, hd, vs, rel, dd⟩
/-- d[y] = v -/
theorem d_setItem {H' : Hp} {Q : Unit → Shared → Prop} (hu : A.units + 1 < cLine) (I : Inv X pins σ H s) (g : DPut H a y v H') (ry : RelV y u) (rv : RelV v r) (h : ∀ s', Inv X pins σ H' s' → Q () s') :
    wpAny (model X.prog X.w) A (setItem (.ref a) u r) Q E s := by
  rcases g with ⟨kvs, k, e, ey, l, eH⟩ | ⟨kvs, k, b, e, ey, eb, l, eH⟩
  · subst ey eH
    obtain ⟨z, hd, vs, rel, dd⟩ := dk_of I.hok e
    have hz : vs.length ≤ sizeLine := by rw [← rel.length]; exact z
    have hl : (putK kvs k v).length ≤ sizeLine := by have := length_putK kvs k v; omega
    refine wpAny_setItem_pairs (hsz := hz) (kV_is ry) dd fun h' dd' hs => h _ ?_
    have he : ∃ q, h'.get? a = some q := let ⟨q, _, _, hq, _⟩ := dd'; ⟨q, hq⟩
    exact d_write I (by rw [e]; exact True.intro) hs he (dk_new hl hd (rel.put k rv) dd')
  · subst ey eH
    cases (show u = Value.ref b from ry)
    obtain ⟨z, hd, xs, rel, dd⟩ := dt_of I.hok e
    have hz : xs.length ≤ sizeLine := by rw [← Paired.length rel]; exact z
    have hl : (putK kvs k v).length ≤ sizeLine := by have := length_putK kvs k v; omega
    refine wpAny_setItem_heap (hsz := hz) (tupleKind_room_in1 hu) (key_of I.hok eb) dd fun h' dd' hs => h _ ?_
    obtain ⟨q, es, ep, hq, h2, h3, h4, _, h5⟩ := dd'
    refine d_write I (by rw [e]; exact True.intro) hs ⟨q, hq⟩ ⟨hl, hd, _, (rel.put k eb rv).keeps fun c ys ec => ?_, q, es, ep, hq, h2, h3, h4, h5⟩
    rw [upd_ne (ne_of ec e (fun z => nomatch z))]
    exact ec
end

section
variable {X : Cx} {pins : List (Addr × Obj)} {σ : St} {H : Hp} {s : Shared} {a : Addr} {kvs : List (Key × V)} {k : Key} {u : Value} {A : Around} {E : Value → Shared → Prop}
/-- del d[k] -/
theorem d_delItem {Q : Unit → Shared → Prop} (I : Inv X pins σ H s) (e : H a = some (.dK kvs)) (ry : RelV (kV k) u) (l : (valV kvs k).isSome = true) (h : ∀ s', Inv X pins σ (upd H a (.dK (dropK kvs k))) s' → Q () s') :
    wpAny (model X.prog X.w) A (delItem (.ref a) u) Q E s := by
  obtain ⟨z, hd, vs, rel, dd⟩ := dk_of I.hok e
  refine wpAny_delItem_slot dd.typeIs (by decide) PySem.F.slot_dict_delitem
    (call_meetsIn PySem.F.slot_dict_delitem dd.typeIs PySem.F.entry_dict_delitem (PySem.F.args_dict_delitem_2 _ _) (meets_dict_delitem_pairs (mixKind X.prog X.w) a (kV_is ry)) ⟨vs, dd, by rw [← rel.length]; exact z, by rw [← (rel.val k).isSome_eq]; exact l, fun h' dd' hs => h _ ?_⟩)
  have he : ∃ q, h'.get? a = some q := let ⟨q, _, _, hq, _⟩ := dd'; ⟨q, hq⟩
  exact d_write I (by rw [e]; exact True.intro) hs he (dk_new (Nat.le_trans (dropK_le kvs k) z) hd (rel.drop k) dd')
/-- d.pop(k[, x]), there -/
theorem d_pop {v : V} {more : List Value} {Q : Value → Shared → Prop} (I : Inv X pins σ H s) (e : H a = some (.dK kvs)) (ry : RelV (kV k) u) (l : valV kvs k = some v) (hm : more = [] ∨ ∃ x, more = [x])
    (h : ∀ w' s', Inv X pins σ (upd H a (.dK (dropK kvs k))) s' → RelV v w' → Q w' s') : wpAny (model X.prog X.w) A (call (.builtin "dict.pop") (.ref a :: u :: more)) Q E s := by
  obtain ⟨z, hd, vs, rel, dd⟩ := dk_of I.hok e
  obtain ⟨w', hw, rw'⟩ := RelO.some_of (v := v) (o := valueAt vs k) (by rw [← l]; exact rel.val k)
  have hp : (keyPart u).isSome = true := by
    cases k with
    | inl i => obtain ⟨t, q⟩ := (show ∃ t, u = Value.int i t from ry); subst q; rfl
    | inr x => obtain ⟨t, q⟩ := (show ∃ t, u = Value.str x t from ry); subst q; rfl
  have ha : argsOk "dict.pop" ⟨.ref a :: u :: more, []⟩ := by
    rcases hm with q | ⟨x, q⟩
    · subst q; exact PySem.F.args_dict_pop_2 _ _
    · subst q; exact PySem.F.args_dict_pop_3 _ _ _
  refine call_meetsIn PySem.F.slot_dict_pop dd.typeIs PySem.F.entry_dict_pop ha (meets_dict_pop_there (mixKind X.prog X.w) a (kV_is ry) more hm hp)
    ⟨vs, w', dd, by rw [← rel.length]; exact z, hw, fun h' dd' hs => h w' _ ?_ rw'⟩
  have he : ∃ q, h'.get? a = some q := let ⟨q, _, _, hq, _⟩ := dd'; ⟨q, hq⟩
  exact d_write I (by rw [e]; exact True.intro) hs he (dk_new (Nat.le_trans (dropK_le kvs k) z) hd (rel.drop k) dd')
/-- d.pop(k, x), not there -/
theorem d_popD {r : Value} {Q : Value → Shared → Prop} (I : Inv X pins σ H s) (e : H a = some (.dK kvs)) (ry : RelV (kV k) u) (l : valV kvs k = none) (h : ∀ s', Inv X pins σ H s' → Q r s') :
    wpAny (model X.prog X.w) A (call (.builtin "dict.pop") [.ref a, u, r]) Q E s := by
  obtain ⟨z, hd, vs, rel, dd⟩ := dk_of I.hok e
  have hn : valueAt vs k = none := RelO.none_of (by rw [← l]; exact rel.val k)
  have hp : (keyPart u).isSome = true := by
    cases k with
    | inl i => obtain ⟨t, q⟩ := (show ∃ t, u = Value.int i t from ry); subst q; rfl
    | inr x => obtain ⟨t, q⟩ := (show ∃ t, u = Value.str x t from ry); subst q; rfl
  exact call_meetsIn PySem.F.slot_dict_pop dd.typeIs PySem.F.entry_dict_pop (PySem.F.args_dict_pop_3 _ _ _) (meets_dict_pop_default (mixKind X.prog X.w) a (kV_is ry) hd hp r) ⟨vs, dd, hn, h _ (I.tok _)⟩
/-- d.clear() -/
theorem d_clear {Q : Value → Shared → Prop} (I : Inv X pins σ H s) (e : H a = some (.dK kvs)) (h : ∀ s', Inv X pins σ (upd H a (.dK [])) s' → Q .none s') : wpAny (model X.prog X.w) A (call (.builtin "dict.clear") [.ref a]) Q E s := by
  obtain ⟨z, hd, vs, rel, dd⟩ := dk_of I.hok e
  refine call_meetsIn PySem.F.slot_dict_clear dd.typeIs PySem.F.entry_dict_clear (PySem.F.args_dict_clear_1 _) (meets_dict_clear (mixKind X.prog X.w) a) ⟨vs, dd, by rw [← rel.length]; exact z, fun h' dd' hs => h _ ?_⟩
  have he : ∃ q, h'.get? a = some q := let ⟨q, _, _, hq, _⟩ := dd'; ⟨q, hq⟩
  exact d_write (t' := s.toks) I (by rw [e]; exact True.intro) hs he (dk_new (Nat.zero_le _) hd .nil dd')
/-- len(d) -/
theorem d_len {Q : Value → Shared → Prop} (I : Inv X pins σ H s) (e : Rd H a (.dK kvs)) (h : ∀ t s', Inv X pins σ H s' → Q (.int kvs.length t) s') : wpAny (model X.prog X.w) A (call (.builtin "len") [.ref a]) Q E s := by
  obtain ⟨z, hd, vs, rel, dd⟩ := dk_rd I.hok e
  refine call_len_dict hd dd (by rw [← rel.length]; rw [sizeLine_eq] at z; omega) ?_
  rw [← rel.length]
  exact h _ _ (I.tok _)
/-- if d -/
theorem d_truth {Q : Bool → Shared → Prop} (I : Inv X pins σ H s) (e : Rd H a (.dK kvs)) (h : ∀ s', Inv X pins σ H s' → Q (!kvs.isEmpty) s') : wpAny (model X.prog X.w) A (truthy (.ref a)) Q E s := by
  obtain ⟨z, hd, vs, rel, dd⟩ := dk_rd I.hok e
  refine wpAny_truthy_dict hd dd (by rw [← rel.length]; rw [sizeLine_eq] at z; omega) ?_
  have q : kvs.isEmpty = vs.isEmpty := by cases rel <;> rfl
  rw [← q]
  exact h _ (I.tok _)
end


/-! ### readings and rules -/
/-- the element of a subscription, not a slice -/
def NoSl (i : Expr) : Prop := ∀ ov iv, subscripted i false ov iv = operate [ov, iv] (getItem ov iv)
theorem subD_of {prog : Program} {w : World} {A : Around} {E : Value → Shared → Prop} {s : Shared} {env : Env} {value slice : Expr} {pos : Pos} {T id : String} {Q : Value → Shared → Prop}
    (hl : typeLookup (.type T) "__getitem__" = pure (some (.builtin id))) (hs : NoSl slice)
    (h : wpAny (model prog w) A (eval value env) (fun o s₁ => wpAny (model prog w) A (eval slice env) (fun i s₂ => s₂.TypeIs o T ∧ wpAny (model prog w) A (getItem o i) Q E s₂) E s₁) E s) :
    wpAny (model prog w) A (eval (.Subscript value slice pos) env) Q E s := by
  refine Subscript_ (wpAny_mono h (fun o s₁ h₁ => wpAny_mono h₁ (fun i s₂ h₂ => ?_) fun _ _ x => x) fun _ _ x => x)
  obtain ⟨hT, h₂⟩ := h₂
  unfold subscriptTail
  refine wpAny_bind ?_
  rw [getitemInPython_of_ne hT.not_modules]
  refine wpAny_bind (wpAny_specialOf hT hl ?_)
  have fin : wpAny (model prog w) A (subscripted slice false o i) (fun r s₃ => wpAny (model prog w) A (letTemporaryGo value o r >>= fun _ => pure r) Q E s₃) E s₂ := by
    rw [hs o i]
    exact wpAny_operating (wpAny_mono h₂ (fun r s₃ h₃ => wpAny_bind (wpAny_letTemporaryGo (wpAny_pure h₃))) fun _ _ x => x)
  first
    | exact wpAny_pure (wpAny_bind fin)
    | exact wpAny_bind (wpAny_pure (wpAny_bind fin))
    | exact wpAny_bind fin

theorem dict_typeIs {X : Cx} {pins : List (Addr × Obj)} {σ : St} {H : Hp} {s : Shared} {a : Addr} {y : V} {o : Option V} (I : Inv X pins σ H s) (g : DGet H a y o) : s.TypeIs (.ref a) "dict" := by
  rcases g with ⟨kvs, k, e, _, _⟩ | ⟨kvs, k, b, e, _, _, _⟩
  · obtain ⟨_, _, vs, _, dd⟩ := dk_rd I.hok e
    exact dd.typeIs
  · obtain ⟨_, _, xs, _, dd⟩ := dt_rd I.hok e
    exact dd.typeIs
theorem dict_noDict {X : Cx} {pins : List (Addr × Obj)} {σ : St} {H : Hp} {s : Shared} {a : Addr} {y : V} {o : Option V} (I : Inv X pins σ H s) (g : DGet H a y o) :
    ∀ b, Value.ref a = .ref b → ∃ ob, s.heap.get? b = some ob ∧ ob.dict = none := fun b q => by
  cases q
  rcases g with ⟨kvs, k, e, _, _⟩ | ⟨kvs, k, b, e, _, _, _⟩
  · obtain ⟨_, _, vs, _, ob, _, _, h1, h2, _⟩ := dk_rd I.hok e
    exact ⟨ob, h1, h2.2.1⟩
  · obtain ⟨_, _, xs, _, ob, _, _, h1, h2, _⟩ := dt_rd I.hok e
    exact ⟨ob, h1, h2.2.1⟩

/-- d[y] -/
def tDGet (td ty : TE) : TE := fun σ H Q => td σ H fun x H1 => ty σ H1 fun y H2 => ∃ a v, x = .ref a ∧ DGet H2 a y (some v) ∧ Q v H2
/-- y in d, y not in d -/
def tDIn (ty td : TE) : TE := fun σ H Q => ty σ H fun y H1 => td σ H1 fun x H2 => ∃ a o, x = .ref a ∧ DGet H2 a y o ∧ Q (.bl o.isSome) H2
def tDNotIn (ty td : TE) : TE := fun σ H Q => ty σ H fun y H1 => td σ H1 fun x H2 => ∃ a o, x = .ref a ∧ DGet H2 a y o ∧ Q (.bl (!o.isSome)) H2
/-- d[y] = v -/
def sDPut (td ty tv : TE) : TS := fun D σ H => tv σ H fun v H1 => td σ H1 fun x H2 => ty σ H2 fun y H3 => ∃ a H4, x = .ref a ∧ DPut H3 a y v H4 ∧ D.nx σ H4
/-- d[y] op= v -/
def sDAug (td ty tv : TE) (rd : V → V → Hp → VK → Prop) : TS := fun D σ H => td σ H fun x H1 => ty σ H1 fun y H2 => ∃ a v, x = .ref a ∧ DGet H2 a y (some v) ∧
  tv σ H2 fun y2 H3 => rd v y2 H3 fun z H4 => ∃ H5, DPut H4 a y z H5 ∧ D.nx σ H5
/-- del d[y] -/
def sDDel (td ty : TE) : TS := fun D σ H => td σ H fun x H1 => ty σ H1 fun y H2 => ∃ a kvs k, x = .ref a ∧ H2 a = some (.dK kvs) ∧ y = kV k ∧ (valV kvs k).isSome = true ∧ D.nx σ (upd H2 a (.dK (dropK kvs k)))

section
variable {X : Cx} {o i e value : Expr} {pos pos' tpos : Pos} {td ty tv : TE}
theorem pe_dget (hu : X.A.units + 1 < cLine) (ho : PE X o td) (hi : PE X i ty) (hs : NoSl i) : PE X (.Subscript o i pos) (tDGet td ty) := by
  intro pins s σ H Q I h
  refine subD_of PySem.F.slot_dict_getitem.lookup hs (thn (ho pins s σ H _ I h) fun u s1 ⟨x, H1, I1, rx, q1⟩ => thn (hi pins s1 σ H1 _ I1 q1) fun iv s2 ⟨y, H2, I2, ry, a, v, ex, g, q2⟩ => ?_)
  subst ex
  obtain rfl : u = Value.ref a := rx
  exact ⟨dict_typeIs I2 g, d_getItem hu I2 g ry fun w' s3 I3 rw' => ⟨v, H2, I3, rw', q2⟩⟩
theorem pc_din (hu : X.A.units + 1 < cLine) (hi : PE X i ty) (ho : PE X o td) : PC X .In i o (tDIn ty td) := by
  intro pins s σ H Q I h
  refine thn (hi pins s σ H _ I h) fun iv s1 ⟨y, H1, I1, ry, q1⟩ => thn (ho pins s1 σ H1 _ I1 q1) fun u s2 ⟨x, H2, I2, rx, a, ov, ex, g, q2⟩ => ?_
  subst ex
  obtain rfl : u = Value.ref a := rx
  exact d_in hu I2 g ry fun s3 I3 => ⟨.bl ov.isSome, H2, I3, rfl, q2⟩
theorem pc_dnotin (hu : X.A.units + 1 < cLine) (hi : PE X i ty) (ho : PE X o td) : PC X .NotIn i o (tDNotIn ty td) := by
  intro pins s σ H Q I h
  refine thn (hi pins s σ H _ I h) fun iv s1 ⟨y, H1, I1, ry, q1⟩ => thn (ho pins s1 σ H1 _ I1 q1) fun u s2 ⟨x, H2, I2, rx, a, ov, ex, g, q2⟩ => ?_
  subst ex
  obtain rfl : u = Value.ref a := rx
  exact d_notIn hu I2 g ry fun s3 I3 => ⟨.bl (!ov.isSome), H2, I3, rfl, q2⟩
theorem ps_dput (hu : X.A.units + 1 < cLine) (ho : PE X o td) (hi : PE X i ty) (hv : PE X value tv) (hs : swapsWith value (some (.Subscript o i pos')) pos.line X.env = pure false) :
    PS X (.Assign [.Subscript o i pos'] value pos) (sDPut td ty tv) := by
  intro pins s σ H D I h
  refine wpAny_Assign_Subscript (thn (hv pins s σ H _ I h) fun r s1 ⟨v, H1, I1, rv, q1⟩ => thn (ho pins s1 σ H1 _ I1 q1) fun u s2 ⟨x, H2, I2, rx, q2⟩ => thn (hi pins s2 σ H2 _ I2 q2) fun iv s3 ⟨y, H3, I3, ry, a, H4, ex, g, q3⟩ => ?_) hs
  subst ex
  obtain rfl : u = Value.ref a := rx
  exact d_setItem hu I3 g ry rv fun s4 I4 => ⟨σ, H4, I4, q3⟩
theorem ps_daug {op : Operator} {rd : V → V → Hp → VK → Prop} (hu : X.A.units + 1 < cLine) (ho : PE X o td) (hi : PE X i ty) (hv : PE X value tv) (hop : InOp X op rd)
    (ha : ∀ ov iv new, augStore i ov iv new = (do holding [new, ov, iv] (setItem ov iv new); release [new, ov, iv] []; pure .next)) : PS X (.AugAssign (.Subscript o i tpos) op value pos) (sDAug td ty tv rd) := by
  intro pins s σ H D I h
  refine wpAny_AugAssign_SubscriptAny (thn (ho pins s σ H _ I h) fun u s1 ⟨x, H1, I1, rx, q1⟩ => thn (hi pins s1 σ H1 _ I1 q1) fun iv s2 ⟨y, H2, I2, ry, a, v, ex, g, q2⟩ => ?_) ha
  subst ex
  obtain rfl : u = Value.ref a := rx
  refine d_getItem hu I2 g ry fun w' s3 I3 rw' => thn (hv pins s3 σ H2 _ I3 q2) fun w2 s4 ⟨y2, H3, I4, ry2, q3⟩ => thn (hop pins s4 σ H3 v y2 w' w2 _ I4 rw' ry2 q3) fun w3 s5 ⟨z, H4, I5, rz, H5, g5, q4⟩ => ?_
  exact d_setItem hu I5 g5 ry rz fun s6 I6 => ⟨σ, H5, I6, q4⟩
theorem ps_ddel (ho : PE X o td) (hi : PE X i ty) : PS X (.Delete [.Subscript o i tpos] pos) (sDDel td ty) := by
  intro pins s σ H D I h
  refine wpAny_Delete (wpAny_deleteEach_cons (wpAny_delete_Subscript (thn (ho pins s σ H _ I h) fun u s1 ⟨x, H1, I1, rx, q1⟩ => thn (hi pins s1 σ H1 _ I1 q1) fun iv s2 ⟨y, H2, I2, ry, a, kvs, k, ex, e, ey, l, q2⟩ => ?_)))
  subst ex ey
  obtain rfl : u = Value.ref a := rx
  exact d_delItem I2 e ry l fun s3 I3 => wpAny_deleteEach_nil ⟨σ, _, I3, q2⟩
end


/-! ### displays -/
theorem dt_empty {P : Program} {w : World} {H : Hp} (h : Heap) (hb : sysModules < h.objs.size) : ObjOk P w H (h.push { cls := .type "dict", data := .dict #[] }) h.objs.size (.dT []) :=
  ⟨Nat.zero_le _, beq_eq_false_iff_ne.mpr (Ne.symm (Nat.ne_of_lt hb)), [], .nil, _, #[], 0, Heap.get?_push_size _ rfl, ⟨rfl, rfl, rfl⟩, rfl, rfl, List.nodup_nil⟩
def tDNewT : TE := fun _ H Q => ∀ p, H p = none → Q (.ref p) (upd H p (.dT []))
section
variable {X : Cx} {pos : Pos}
theorem pe_dnewT : PE X (.Dict [] [] pos) tDNewT := fun pins s σ H Q I h =>
  wpAny_Dict_empty ⟨.ref s.heap.objs.size, _, I.laid (a := s.heap.objs.size) (o := .dT []) (t' := s.toks) (fun _ _ q => Heap.get?_push_of_some _ q) (Nat.le_refl _) (dt_empty s.heap I.big), rfl, h _ (I.hok.fresh (Nat.le_refl _))⟩
end

/-- the pairs of a display, from the left -/
def tPairs : List (TE × TE) → St → Hp → (List (V × V) → Hp → Prop) → Prop
  | [], _, H, Q => Q [] H
  | (tk, tv) :: r, σ, H, Q => tk σ H fun x H1 => tv σ H1 fun y H2 => tPairs r σ H2 fun ps H3 => Q ((x, y) :: ps) H3
abbrev VV : List (V × V) → List (Value × Value) → Prop := Paired fun p q => RelV p.1 q.1 ∧ RelV p.2 q.2
def PPs (X : Cx) (pos : Pos) (keys : List (Option Expr)) (values : List Expr) (trs : List (TE × TE)) : Prop :=
  ∀ (pins : List (Addr × Obj)) (s : Shared) (σ : St) (H : Hp) (Q : List (V × V) → Hp → Prop), Inv X pins σ H s → tPairs trs σ H Q →
    wpAny (model X.prog X.w) X.A (evalPairs (pairTrees keys values X.env pos)) (fun vs s' => ∃ ps H', Inv X pins σ H' s' ∧ VV ps vs ∧ Q ps H') X.xe s
theorem pps_nil {X : Cx} {pos : Pos} : PPs X pos [] [] [] := fun pins s σ H Q I h => pairTrees_nil_walk ⟨[], H, I, .nil, h⟩
theorem pps_cons {X : Cx} {pos : Pos} {k v : Expr} {ks : List (Option Expr)} {vs : List Expr} {tk tv : TE} {trs : List (TE × TE)} (hk : PE X k tk) (hv : PE X v tv) (hr : PPs X pos ks vs trs) :
    PPs X pos (some k :: ks) (v :: vs) ((tk, tv) :: trs) := fun pins s σ H Q I h =>
  pairTrees_cons_walk (thn (hk pins s σ H _ I h) fun u s1 ⟨x, H1, I1, rx, q1⟩ => thn (hv pins s1 σ H1 _ I1 q1) fun w2 s2 ⟨y, H2, I2, ry, q2⟩ =>
    thn (hr pins s2 σ H2 _ I2 q2) fun ws s3 ⟨ps, H3, I3, rel, q3⟩ => ⟨(x, y) :: ps, H3, I3, .cons ⟨rx, ry⟩ rel, q3⟩)

def mergeK (kvs more : List (Key × V)) : List (Key × V) := more.foldl (fun acc kv => putK acc kv.1 kv.2) kvs
theorem KV.merge : ∀ {more : List (Key × V)} {rs : List (Key × Value)} {kvs : List (Key × V)} {vs : List (Key × Value)}, KV more rs → KV kvs vs → KV (mergeK kvs more) (merged vs rs) := by
  intro more rs kvs vs r
  unfold KV at r
  induction r generalizing kvs vs with
  | nil => intro q; exact q
  | @cons p q ps qs h t ih =>
    intro r0
    have e : KV (putK kvs p.1 p.2) (stored vs q.1 q.2) := by
      have := r0.put p.1 h.2
      rw [← h.1]; exact this
    exact ih e
theorem length_mergeK : ∀ (more kvs : List (Key × V)), (mergeK kvs more).length ≤ kvs.length + more.length
  | [], kvs => by show kvs.length ≤ kvs.length + 0; omega
  | p :: r, kvs => by
    have h1 := length_mergeK r (putK kvs p.1 p.2)
    have h2 := length_putK kvs p.1 p.2
    show (mergeK (putK kvs p.1 p.2) r).length ≤ _
    rw [List.length_cons]; omega
theorem carries_of {P : Program} {w : World} : ∀ {kvs : List (Key × V)} {ws : List (Value × Value)}, VV (kvs.map fun kv => (kV kv.1, kv.2)) ws → ∃ rs, Carries (mixKind P w) ws rs ∧ KV kvs rs
  | [], _, r => by rw [List.map_nil] at r; cases r; exact ⟨[], True.intro, .nil⟩
  | p :: kvs, _, r => by
    rw [List.map_cons] at r
    cases r with
    | @cons a b as bs h t =>
      obtain ⟨rs, c, q⟩ := carries_of (P := P) (w := w) t
      obtain ⟨b1, b2⟩ := b
      exact ⟨(p.1, b2) :: rs, ⟨kV_is h.1, rfl, c⟩, .cons ⟨rfl, h.2⟩ q⟩
/-- {k: v, ..} with keys ints and texts; the new dict stands empty while the pairs are made -/
def tDisp (trs : List (TE × TE)) : TE := fun σ H Q => ∀ p, H p = none → tPairs trs σ (upd H p (.dK [])) fun ps H2 => H2 p = some (.dK []) ∧ ∃ kvs : List (Key × V), ps = kvs.map (fun kv => (kV kv.1, kv.2)) ∧ kvs.length ≤ 15 ∧ Q (.ref p) (upd H2 p (.dK (mergeK [] kvs)))
theorem pe_disp {X : Cx} {pos : Pos} {keys : List (Option Expr)} {values : List Expr} {trs : List (TE × TE)} (h : PPs X pos keys values trs) (hall : keys.all (·.isSome) = true) (hl : keys.length = values.length) (h0 : keys ≠ [])
    (h15 : keys.length ≤ 15) : PE X (.Dict keys values pos) (tDisp trs) := by
  intro pins s σ H Q I q
  have hn := I.hok.fresh (Nat.le_refl s.heap.objs.size)
  have I1 := I.laid (a := s.heap.objs.size) (o := .dK []) (h' := s.heap.push { cls := .type "dict", data := .dict #[] }) (t' := s.toks) (fun _ _ q => Heap.get?_push_of_some _ q) (Nat.le_refl _) (dk_empty s.heap I.big)
  refine wpAny_Dict_walk (knd := mixKind X.prog X.w) hall hl h0 h15 (thn (h pins _ σ _ _ I1 (q _ hn)) fun ws s2 ⟨ps, H2, I2, rel, e, kvs, ep, lk, q2⟩ => ?_)
  subst ep
  obtain ⟨rs, c, rk⟩ := carries_of (P := X.prog) (w := X.w) rel
  obtain ⟨z, hd, vs0, r0, dd⟩ := dk_of I2.hok e
  cases r0
  refine ⟨rs, c, dd, fun h' dd' hs => ⟨.ref s.heap.objs.size, _, ?_, rfl, q2⟩⟩
  have hz : (mergeK [] kvs).length ≤ sizeLine := by
    have h1 := length_mergeK kvs []
    rw [List.length_nil] at h1
    rw [sizeLine_eq]; omega
  have he : ∃ q, h'.get? s.heap.objs.size = some q := let ⟨q, _, _, hq, _⟩ := dd'; ⟨q, hq⟩
  exact d_write I2 (by rw [e]; exact True.intro) hs he (dk_new hz hd (rk.merge .nil) dd')


/-! ### methods -/
/-- a method call o.m(e) of a built-in, with one argument: what must be seen of the text -/
structure M1 (X : Cx) (o : Expr) (m : Str) (apos : Pos) (e : Expr) (cpos : Pos) : Prop where
  base : attributeBase o m X.env (eval o X.env) = eval o X.env
  few : ((backTo cpos (starEach [e] X.env)).all (fun x => !x.1) && (backToKw cpos (keywordEach [] X.env)).all (fun x => x.1.isSome)
    && decide (([e] : List Expr).length + ([] : List Keyword).length + (if ([] : List Keyword).isEmpty then 0 else 1) < 30)) = true
  line : (apos.endLine == cpos.line) = true
  trees : backTo cpos (starEach [e] X.env) = [(false, eval e X.env)]
structure M2 (X : Cx) (o : Expr) (m : Str) (apos : Pos) (e f : Expr) (cpos : Pos) : Prop where
  base : attributeBase o m X.env (eval o X.env) = eval o X.env
  few : ((backTo cpos (starEach [e, f] X.env)).all (fun x => !x.1) && (backToKw cpos (keywordEach [] X.env)).all (fun x => x.1.isSome)
    && decide (([e, f] : List Expr).length + ([] : List Keyword).length + (if ([] : List Keyword).isEmpty then 0 else 1) < 30)) = true
  line : (apos.endLine == cpos.line) = true
  trees : backTo cpos (starEach [e, f] X.env) = [(false, eval e X.env), (false, eval f X.env)]

/-- a is a dict, whatever its keys -/
def IsD (H : Hp) (a : Addr) : Prop := (∃ kvs, Rd H a (.dK kvs)) ∨ ∃ kvs, Rd H a (.dT kvs)
theorem isD_at {X : Cx} {pins : List (Addr × Obj)} {σ : St} {H : Hp} {s : Shared} {a : Addr} (I : Inv X pins σ H s) (d : IsD H a) :
    s.TypeIs (.ref a) "dict" ∧ (∀ b, Value.ref a = .ref b → ∃ ob, s.heap.get? b = some ob ∧ ob.dict = none) ∧ (a == sysModules) = false := by
  rcases d with ⟨kvs, e⟩ | ⟨kvs, e⟩
  · obtain ⟨_, hd, vs, _, dd⟩ := dk_rd I.hok e
    refine ⟨dd.typeIs, fun b q => ?_, hd⟩
    cases q
    obtain ⟨ob, _, _, h1, h2, _⟩ := dd
    exact ⟨ob, h1, h2.2.1⟩
  · obtain ⟨_, hd, xs, _, dd⟩ := dt_rd I.hok e
    refine ⟨dd.typeIs, fun b q => ?_, hd⟩
    cases q
    obtain ⟨ob, _, _, h1, h2, _⟩ := dd
    exact ⟨ob, h1, h2.2.1⟩

section
variable {X : Cx} {pins : List (Addr × Obj)} {σ : St} {H : Hp} {s : Shared} {a : Addr} {y d : V} {u r : Value} {o : Option V} {A : Around} {E : Value → Shared → Prop}
/-- d.get(y) -/
theorem d_get1 {Q : Value → Shared → Prop} (hu : A.units + 1 < cLine) (I : Inv X pins σ H s) (g : DGet H a y o) (ry : RelV y u) (h : ∀ w' s', Inv X pins σ H s' → RelV (o.getD .non) w' → Q w' s') :
    wpAny (model X.prog X.w) A (call (.builtin "dict.get") [.ref a, u]) Q E s := by
  rcases g with ⟨kvs, k, e, ey, l⟩ | ⟨kvs, k, b, e, ey, eb, l⟩
  · subst ey
    obtain ⟨z, hd, vs, rel, dd⟩ := dk_rd I.hok e
    refine call_meetsIn PySem.F.slot_dict_get dd.typeIs PySem.F.entry_dict_get (PySem.F.args_dict_get_2 _ _) (meets_dict_get (mixKind X.prog X.w) a (kV_is ry) hd) ⟨_, dd.mapOf, h _ _ (I.tok _) ?_⟩
    rw [l]
    exact (rel.val k).getD rfl
  · subst ey
    cases (show u = Value.ref b from ry)
    obtain ⟨z, hd, xs, rel, dd⟩ := dt_rd I.hok e
    refine call_meetsIn PySem.F.slot_dict_get dd.typeIs PySem.F.entry_dict_get (PySem.F.args_dict_get_2 _ _) (meetsH_dict_get (tupleKind (mixKind X.prog X.w)) a b hd) ⟨tupleKind_room_in1 hu, k, xs, key_of I.hok eb, dd, h _ _ (I.tok _) ?_⟩
    rw [l]
    exact (rel.val k).getD rfl
/-- d.get(y, x) -/
theorem d_get2 {Q : Value → Shared → Prop} (hu : A.units + 1 < cLine) (I : Inv X pins σ H s) (g : DGet H a y o) (ry : RelV y u) (rd : RelV d r) (h : ∀ w' s', Inv X pins σ H s' → RelV (o.getD d) w' → Q w' s') :
    wpAny (model X.prog X.w) A (call (.builtin "dict.get") [.ref a, u, r]) Q E s := by
  rcases g with ⟨kvs, k, e, ey, l⟩ | ⟨kvs, k, b, e, ey, eb, l⟩
  · subst ey
    obtain ⟨z, hd, vs, rel, dd⟩ := dk_rd I.hok e
    refine call_meetsIn PySem.F.slot_dict_get dd.typeIs PySem.F.entry_dict_get (PySem.F.args_dict_get_3 _ _ _) (meets_dict_get_default (mixKind X.prog X.w) a (kV_is ry) hd r) ⟨_, dd.mapOf, h _ _ (I.tok _) ?_⟩
    rw [l]
    exact (rel.val k).getD rd
  · subst ey
    cases (show u = Value.ref b from ry)
    obtain ⟨z, hd, xs, rel, dd⟩ := dt_rd I.hok e
    refine call_meetsIn PySem.F.slot_dict_get dd.typeIs PySem.F.entry_dict_get (PySem.F.args_dict_get_3 _ _ _) (meetsH_dict_get_default (tupleKind (mixKind X.prog X.w)) a b hd r) ⟨tupleKind_room_in1 hu, k, xs, key_of I.hok eb, dd, h _ _ (I.tok _) ?_⟩
    rw [l]
    exact (rel.val k).getD rd
end

def tDGet1 (td ty : TE) : TE := fun σ H Q => td σ H fun x H1 => ∃ a, x = .ref a ∧ IsD H1 a ∧ ty σ H1 fun y H2 => ∃ o, DGet H2 a y o ∧ Q (o.getD .non) H2
def tDGet2 (td ty tx : TE) : TE := fun σ H Q => td σ H fun x H1 => ∃ a, x = .ref a ∧ IsD H1 a ∧ ty σ H1 fun y H2 => tx σ H2 fun z H3 => ∃ o, DGet H3 a y o ∧ Q (o.getD z) H3
/-- d.pop(k): there; d.pop(k, x): there or not -/
def tDPop1 (td ty : TE) : TE := fun σ H Q => td σ H fun x H1 => ∃ a, x = .ref a ∧ IsD H1 a ∧ ty σ H1 fun y H2 => ∃ kvs k v, H2 a = some (.dK kvs) ∧ y = kV k ∧ valV kvs k = some v ∧ Q v (upd H2 a (.dK (dropK kvs k)))
def tDPop2 (td ty tx : TE) : TE := fun σ H Q => td σ H fun x H1 => ∃ a, x = .ref a ∧ IsD H1 a ∧ ty σ H1 fun y H2 => tx σ H2 fun z H3 => ∃ kvs k, H3 a = some (.dK kvs) ∧ y = kV k ∧
  (∀ v, valV kvs k = some v → Q v (upd H3 a (.dK (dropK kvs k)))) ∧ (valV kvs k = none → Q z H3)
section
variable {X : Cx} {o e f : Expr} {apos cpos : Pos} {td ty tx : TE}
theorem pe_dget1 (hu : X.A.units + 1 < cLine) (ho : PE X o td) (he : PE X e ty) (m : M1 X o "get" apos e cpos) : PE X (.Call (.Attribute o "get" apos) [e] [] cpos) (tDGet1 td ty) := by
  intro pins s σ H Q I h
  refine wpAny_Call_method m.base m.few m.line PySem.F.plainAttrs_dict PySem.F.slot_dict_get PySem.F.type_dict_get (thn (ho pins s σ H _ I h) fun u s1 ⟨x, H1, I1, rx, a, ex, d, q1⟩ => ?_)
  subst ex
  obtain rfl : u = Value.ref a := rx
  obtain ⟨t1, t2, _⟩ := isD_at I1 d
  refine ⟨t1, t2, ?_⟩
  rw [m.trees]
  refine Calls.callWith_builtin rfl (Calls.evalArgs_plain (Calls.spliced_cons (thn (he pins s1 σ H1 _ I1 q1) fun iv s2 ⟨y, H2, I2, ry, ov, g, q2⟩ => Calls.spliced_nil ?_)))
  exact d_get1 hu I2 g ry fun w' s3 I3 rw' => ⟨_, H2, I3, rw', q2⟩
theorem pe_dget2 (hu : X.A.units + 1 < cLine) (ho : PE X o td) (he : PE X e ty) (hf : PE X f tx) (m : M2 X o "get" apos e f cpos) : PE X (.Call (.Attribute o "get" apos) [e, f] [] cpos) (tDGet2 td ty tx) := by
  intro pins s σ H Q I h
  refine wpAny_Call_method m.base m.few m.line PySem.F.plainAttrs_dict PySem.F.slot_dict_get PySem.F.type_dict_get (thn (ho pins s σ H _ I h) fun u s1 ⟨x, H1, I1, rx, a, ex, d, q1⟩ => ?_)
  subst ex
  obtain rfl : u = Value.ref a := rx
  obtain ⟨t1, t2, _⟩ := isD_at I1 d
  refine ⟨t1, t2, ?_⟩
  rw [m.trees]
  refine Calls.callWith_builtin rfl (Calls.evalArgs_plain (Calls.spliced_cons (thn (he pins s1 σ H1 _ I1 q1) fun iv s2 ⟨y, H2, I2, ry, q2⟩ =>
    Calls.spliced_cons (thn (hf pins s2 σ H2 _ I2 q2) fun fv s3 ⟨z, H3, I3, rz, ov, g, q3⟩ => Calls.spliced_nil ?_))))
  exact d_get2 hu I3 g ry rz fun w' s4 I4 rw' => ⟨_, H3, I4, rw', q3⟩
theorem pe_dpop1 (ho : PE X o td) (he : PE X e ty) (m : M1 X o "pop" apos e cpos) : PE X (.Call (.Attribute o "pop" apos) [e] [] cpos) (tDPop1 td ty) := by
  intro pins s σ H Q I h
  refine wpAny_Call_method m.base m.few m.line PySem.F.plainAttrs_dict PySem.F.slot_dict_pop PySem.F.type_dict_pop (thn (ho pins s σ H _ I h) fun u s1 ⟨x, H1, I1, rx, a, ex, d, q1⟩ => ?_)
  subst ex
  obtain rfl : u = Value.ref a := rx
  obtain ⟨t1, t2, _⟩ := isD_at I1 d
  refine ⟨t1, t2, ?_⟩
  rw [m.trees]
  refine Calls.callWith_builtin rfl (Calls.evalArgs_plain (Calls.spliced_cons (thn (he pins s1 σ H1 _ I1 q1) fun iv s2 ⟨y, H2, I2, ry, kvs, k, v, ea, ey, l, q2⟩ => Calls.spliced_nil ?_)))
  subst ey
  exact d_pop I2 ea ry l (.inl rfl) fun w' s3 I3 rw' => ⟨v, _, I3, rw', q2⟩
theorem pe_dpop2 (ho : PE X o td) (he : PE X e ty) (hf : PE X f tx) (m : M2 X o "pop" apos e f cpos) : PE X (.Call (.Attribute o "pop" apos) [e, f] [] cpos) (tDPop2 td ty tx) := by
  intro pins s σ H Q I h
  refine wpAny_Call_method m.base m.few m.line PySem.F.plainAttrs_dict PySem.F.slot_dict_pop PySem.F.type_dict_pop (thn (ho pins s σ H _ I h) fun u s1 ⟨x, H1, I1, rx, a, ex, d, q1⟩ => ?_)
  subst ex
  obtain rfl : u = Value.ref a := rx
  obtain ⟨t1, t2, _⟩ := isD_at I1 d
  refine ⟨t1, t2, ?_⟩
  rw [m.trees]
  refine Calls.callWith_builtin rfl (Calls.evalArgs_plain (Calls.spliced_cons (thn (he pins s1 σ H1 _ I1 q1) fun iv s2 ⟨y, H2, I2, ry, q2⟩ =>
    Calls.spliced_cons (thn (hf pins s2 σ H2 _ I2 q2) fun fv s3 ⟨z, H3, I3, rz, kvs, k, ea, ey, q3, q4⟩ => Calls.spliced_nil ?_))))
  subst ey
  cases l : valV kvs k with
  | some v => exact d_pop I3 ea ry l (.inr ⟨fv, rfl⟩) fun w' s4 I4 rw' => ⟨v, _, I4, rw', q3 v l⟩
  | none => exact d_popD I3 ea ry l fun s4 I4 => ⟨z, H3, I4, rz, q4 l⟩
end

/-! ### dict(d): a copy -/
section
variable {X : Cx} {pins : List (Addr × Obj)} {σ : St} {H : Hp} {s : Shared} {a : Addr} {kvs : List (Key × V)} {A : Around} {E : Value → Shared → Prop}
theorem d_copyOf {Q : Value → Shared → Prop} (I : Inv X pins σ H s) (e : Rd H a (.dK kvs)) (h : ∀ p s', H p = none → Inv X pins σ (upd H p (.dK kvs)) s' → Q (.ref p) s') : wpAny (model X.prog X.w) A (call (.type "dict") [.ref a]) Q E s := by
  obtain ⟨z, hd, vs, rel, dd⟩ := dk_rd I.hok e
  refine kt_call_dict hd dd (by rw [← rel.length]; exact z) fun h' dd' hs => ?_
  refine h _ _ (I.hok.fresh (Nat.le_refl _)) (I.laid (a := s.heap.objs.size) (o := .dK kvs) (t' := s.toks) (fun b q hq => ?_) (Nat.le_refl _) (dk_new z (beq_eq_false_iff_ne.mpr (Ne.symm (Nat.ne_of_lt I.big))) rel dd'))
  exact (hs.2 b (Nat.ne_of_lt (Heap.lt_size hq))).trans (Heap.get?_push_of_some _ hq)
end


section
variable {X : Cx} {pins : List (Addr × Obj)} {σ : St} {H : Hp} {s : Shared} {a : Addr} {y : V} {u : Value} {A : Around} {E : Value → Shared → Prop}
/-- d[y], not there: a KeyError -/
theorem d_missing {Q : Value → Shared → Prop} (hu : A.units + 1 < cLine) (hh : A.handled = none) (I : Inv X pins σ H s) (g : DGet H a y none) (ry : RelV y u)
    (h : ∀ h' e t', Heap.NewExc s.heap h' e "KeyError" → E (.ref e) { s with heap := h', toks := t' }) : wpAny (model X.prog X.w) A (getItem (.ref a) u) Q E s := by
  rcases g with ⟨kvs, k, e, ey, l⟩ | ⟨kvs, k, b, e, ey, eb, l⟩
  · subst ey
    obtain ⟨z, hd, vs, rel, dd⟩ := dk_rd I.hok e
    have hn : valueAt vs k = none := RelO.none_of (by rw [l]; exact rel.val k)
    exact wpAny_getItem_missing_of (kV_is ry) hd hh dd.mapOf hn fun h' ex ne => h h' ex _ ne
  · subst ey
    cases (show u = Value.ref b from ry)
    obtain ⟨z, hd, xs, rel, dd⟩ := dt_rd I.hok e
    have hn : (atKey xs k).map (·.2) = none := RelO.none_of (by rw [l]; exact rel.val k)
    exact wpAny_getItem_missing_heap (tupleKind_room_in1 hu) (key_of I.hok eb) hd hh dd (Option.map_eq_none_iff.mp hn) fun h' ex ne => h h' ex _ ne
end
end L2
namespace GS
/-! ### how often, towards minus without end: by the amounts alone -/
def lawDiv (a b : Int) : Int :=
  let q : Int := ((a.natAbs / b.natAbs : Nat) : Int)
  if decide (a < 0) = decide (b < 0) then q else 0 - q - (if q * (b.natAbs : Int) < (a.natAbs : Int) then 1 else 0)
theorem fdiv_pos_neg {n m : Nat} (hm : 0 < m) : (-(n : Int)).fdiv (m : Int) = 0 - ((n / m : Nat) : Int) - (if ((n / m : Nat) : Int) * (m : Int) < (n : Int) then 1 else 0) := by
  have hm' : (0 : Int) ≤ (m : Int) := by omega
  rw [Int.fdiv_eq_ediv_of_nonneg _ hm']
  have e := Nat.div_add_mod n m
  have hr := Nat.mod_lt n hm
  generalize hq : n / m = q at e
  generalize hr' : n % m = r at e hr
  have e2 : (n : Int) = (m : Int) * (q : Int) + (r : Int) := by
    have := congrArg (fun x : Nat => (x : Int)) e
    simp only [Int.natCast_add, Int.natCast_mul] at this
    exact this.symm
  have hc : ((q : Int) * (m : Int) < (n : Int)) ↔ 0 < r := by
    rw [e2, Int.mul_comm]
    constructor <;> intro h <;> omega
  have hmp : (0 : Int) < (m : Int) := by omega
  by_cases h0 : 0 < r
  · rw [if_pos (hc.mpr h0)]
    have hu := Int.ediv_emod_unique (a := -(n : Int)) (b := (m : Int)) (r := (m : Int) - (r : Int)) (q := 0 - (q : Int) - 1) hmp
    refine (hu.mpr ⟨?_, by omega, by omega⟩).1
    rw [e2, Int.mul_sub, Int.mul_sub, Int.mul_zero, Int.mul_one]
    omega
  · rw [if_neg (fun z => h0 (hc.mp z))]
    have hr0 : r = 0 := by omega
    have hu := Int.ediv_emod_unique (a := -(n : Int)) (b := (m : Int)) (r := 0) (q := 0 - (q : Int) - 0) hmp
    refine (hu.mpr ⟨?_, by omega, by omega⟩).1
    rw [e2, hr0, Int.mul_sub, Int.mul_sub, Int.mul_zero]
    simp
theorem fdiv_pos_pos {n m : Nat} : (n : Int).fdiv (m : Int) = ((n / m : Nat) : Int) := by
  rw [Int.fdiv_eq_ediv_of_nonneg _ (by omega)]
  exact (Int.natCast_ediv n m).symm
theorem lawDiv_eq (a b : Int) (hb : b ≠ 0) : lawDiv a b = a.fdiv b := by
  have hbn : 0 < b.natAbs := Int.natAbs_pos.mpr hb
  unfold lawDiv
  dsimp only
  by_cases ha : a < 0
  · by_cases hb' : b < 0
    · rw [if_pos (by rw [decide_eq_true ha, decide_eq_true hb'])]
      have e1 : a = -((a.natAbs : Nat) : Int) := by omega
      have e2 : b = -((b.natAbs : Nat) : Int) := by omega
      have : a.fdiv b = ((a.natAbs : Nat) : Int).fdiv ((b.natAbs : Nat) : Int) := by
        rw [e1, e2, Int.neg_fdiv_neg]
        simp
      rw [this, fdiv_pos_pos]
    · rw [if_neg (by rw [decide_eq_true ha, decide_eq_false hb']; exact Bool.noConfusion)]
      have e1 : a = -((a.natAbs : Nat) : Int) := by omega
      have e2 : b = ((b.natAbs : Nat) : Int) := by omega
      have : a.fdiv b = (-((a.natAbs : Nat) : Int)).fdiv ((b.natAbs : Nat) : Int) := by rw [← e1, ← e2]
      rw [this, fdiv_pos_neg hbn]
  · by_cases hb' : b < 0
    · rw [if_neg (by rw [decide_eq_false ha, decide_eq_true hb']; exact Bool.noConfusion)]
      have e1 : a = ((a.natAbs : Nat) : Int) := by omega
      have e2 : b = -((b.natAbs : Nat) : Int) := by omega
      have : a.fdiv b = (-((a.natAbs : Nat) : Int)).fdiv ((b.natAbs : Nat) : Int) := by
        have h := Int.neg_fdiv_neg a b
        have e3 : -b = ((b.natAbs : Nat) : Int) := by omega
        have e4 : -a = -((a.natAbs : Nat) : Int) := by omega
        rw [e3, e4] at h
        exact h.symm
      rw [this, fdiv_pos_neg hbn]
    · rw [if_pos (by rw [decide_eq_false ha, decide_eq_false hb'])]
      have e1 : a = ((a.natAbs : Nat) : Int) := by omega
      have e2 : b = ((b.natAbs : Nat) : Int) := by omega
      have : a.fdiv b = ((a.natAbs : Nat) : Int).fdiv ((b.natAbs : Nat) : Int) := by rw [← e1, ← e2]
      rw [this, fdiv_pos_pos]
/-! ### bit by bit -/
def bitOf (both : Bool) (a b : Nat) : Nat := if a % 2 + b % 2 = 2 ∨ (a % 2 + b % 2 = 1 ∧ both = true) then 1 else 0
theorem and_step (a b : Nat) : a &&& b = bitOf false a b + 2 * (a / 2 &&& b / 2) := by
  have h1 := Nat.div_add_mod (a &&& b) 2
  have h2 : (a &&& b) / 2 = a / 2 &&& b / 2 := Nat.and_div_two
  have h3 : (a &&& b) % 2 = a % 2 &&& b % 2 := Nat.and_mod_two_pow (n := 1)
  have h4 : a % 2 &&& b % 2 = bitOf false a b := by
    unfold bitOf
    rcases Nat.mod_two_eq_zero_or_one a with ha | ha <;> rcases Nat.mod_two_eq_zero_or_one b with hb | hb <;> rw [ha, hb] <;> decide
  omega
theorem or_step (a b : Nat) : a ||| b = bitOf true a b + 2 * (a / 2 ||| b / 2) := by
  have h1 := Nat.div_add_mod (a ||| b) 2
  have h2 : (a ||| b) / 2 = a / 2 ||| b / 2 := Nat.or_div_two
  have h3 : (a ||| b) % 2 = a % 2 ||| b % 2 := Nat.or_mod_two_pow (n := 1)
  have h4 : a % 2 ||| b % 2 = bitOf true a b := by
    unfold bitOf
    rcases Nat.mod_two_eq_zero_or_one a with ha | ha <;> rcases Nat.mod_two_eq_zero_or_one b with hb | hb <;> rw [ha, hb] <;> decide
  omega
/-- & where both is false, | where it is true -/
def bitsOp (both : Bool) (a b : Nat) : Nat := if both then a ||| b else a &&& b
theorem bits_step (both : Bool) (a b : Nat) : bitsOp both a b = bitOf both a b + 2 * bitsOp both (a / 2) (b / 2) := by
  cases both with
  | true => exact or_step a b
  | false => exact and_step a b
theorem bits_zero (both : Bool) : bitsOp both 0 0 = 0 := by cases both <;> rfl
/-- a turn of the law's own halving: what is found so far, and the worth of the next bit -/
theorem bits_turn (both : Bool) {a b found worth all : Nat} (h : found + worth * bitsOp both a b = all) : (found + worth * bitOf both a b) + (worth * 2) * bitsOp both (a / 2) (b / 2) = all := by
  rw [bits_step both a b, Nat.mul_add] at h
  rw [Nat.mul_assoc]
  omega
/-! ### within the bounds -/
theorem bits_le (both : Bool) {a b k : Nat} (ha : a < 2 ^ k) (hb : b < 2 ^ k) : bitsOp both a b < 2 ^ k := by
  cases both with
  | true => exact Nat.or_lt_two_pow ha hb
  | false => exact Nat.and_lt_two_pow a hb
end GS
set_option Elab.async false
set_option linter.all false
set_option maxRecDepth 100000
set_option maxHeartbeats 4000000
namespace L2
open PySem PySem.Spec PyProof.Rows
section
variable {X : Cx}
/-! ### great numbers -/
def CBig (i j : Int) : Prop := i.natAbs < 2 ^ 250 ∧ j.natAbs < 2 ^ 250
theorem bits_of {i : Int} (h : i.natAbs < 2 ^ 250) : Builtin.Int.intBits i ≤ 2 ^ 20 := by
  unfold Builtin.Int.intBits
  split
  · decide
  · rename_i hz
    have h0 : i.natAbs ≠ 0 := fun z => by
      have : i = 0 := Int.natAbs_eq_zero.mp z
      rw [this] at hz; exact hz rfl
    have : i.natAbs.log2 < 250 := (Nat.log2_lt h0).mpr h
    have e : (2 : Nat) ^ 20 = 1048576 := by decide
    omega
theorem op_mulB : OpR X (binaryOp .Mult) (rI CBig fun i j => .int (i * j)) := opI fun _ _ _ _ _ _ _ hc q => mul_int q (IntMulOk.of_bits (bits_of hc.1) (bits_of hc.2))
def CDivB (i j : Int) : Prop := j ≠ 0 ∧ j.natAbs < 2 ^ 250
theorem op_fdivB : OpR X (binaryOp .FloorDiv) (rI CDivB fun i j => .int (i.fdiv j)) := opI fun _ j _ _ _ _ _ hc q => floordiv_int hc.1 q (.inl (PyProof.noPylong_of_log2 (Nat.lt_of_le_of_lt (Nat.le_of_lt ((Nat.log2_lt (fun z => hc.1 (Int.natAbs_eq_zero.mp z))).mpr hc.2)) (by decide))))
/-! ### isinstance of a tuple of classes -/
theorem tyOf_kit {pins : List (Addr × Obj)} {σ : St} {H : Hp} {s : Shared} {x : V} {u t : Value} (I : Inv X pins σ H s) (rx : RelV x u) (ty : TyOf X.K H x t) (ht : t = .type "NoneType" ∨ t = .type "bool" ∨ t = .type "int" ∨ t = .type "str" ∨ t = .type "tuple" ∨ t = .type "list") :
    ∃ HP, PySem.W.KitX X.K u t HP ∧ HP s.heap ∧ u ≠ Value.builtin "__main__.__loader__#opaque" := by
  cases ty with
  | non => cases (show u = Value.none from rx); exact ⟨_, PySem.W.kitx_none, True.intro, (fun z => nomatch z)⟩
  | bl y => cases (show u = Value.bool y from rx); exact ⟨_, PySem.W.kitx_bool, True.intro, (fun z => nomatch z)⟩
  | int i => obtain ⟨t, q⟩ := (show ∃ t, u = Value.int i t from rx); cases q; exact ⟨_, PySem.W.kitx_int, True.intro, (fun z => nomatch z)⟩
  | str y => obtain ⟨t, q⟩ := (show ∃ t, u = Value.str y t from rx); cases q; exact ⟨_, PySem.W.kitx_str, True.intro, (fun z => nomatch z)⟩
  | flt y => simp at ht
  | @lst a xs ea =>
    cases (show u = Value.ref a from rx)
    obtain ⟨_, _, n, _, h1⟩ := (show ObjOk X.prog X.w H s.heap a (.lst xs) from I.hok a _ ea)
    exact ⟨_, PySem.W.kitx_list, ⟨_, h1, rfl⟩, (fun z => nomatch z)⟩
  | @frz a ob xs ea =>
    cases (show u = Value.ref a from rx)
    obtain ⟨_, _, _, n, _, h1⟩ := (show ObjOk X.prog X.w H s.heap a (.frz ob (.lst xs)) from I.hok a _ ea)
    exact ⟨_, PySem.W.kitx_list, ⟨_, h1, rfl⟩, (fun z => nomatch z)⟩
  | @tup a xs ea =>
    cases (show u = Value.ref a from rx)
    obtain ⟨_, _, _, p⟩ := (show ObjOk X.prog X.w H s.heap a (.tup xs) from I.hok a _ ea)
    obtain ⟨o, h1, h2, _⟩ := p
    exact ⟨_, PySem.W.kitx_tuple, ⟨o, h1, h2⟩, (fun z => nomatch z)⟩
  | dK ea => simp at ht
  | dT ea => simp at ht
  | ins ea => simp at ht
theorem tyVals : ∀ {Ts : List String} {its : List Value}, Vals (Ts.map V.ty) its → its = Ts.map Value.type
  | [], _, .nil => rfl
  | T :: Ts, _, .cons a b => by cases a; rw [tyVals b]; rfl
theorem call_isinstT : CallR X (.builtin "isinstance") (fun xs H Q => ∃ (x : V) (p : Addr) (Ts : List String) (t : Value) (b : Bool), xs = [x, .ref p] ∧ H p = some (.tup (Ts.map V.ty)) ∧ TyOf X.K H x t ∧ (t = .type "NoneType" ∨ t = .type "bool" ∨ t = .type "int" ∨ t = .type "str" ∨ t = .type "tuple" ∨ t = .type "list") ∧ PySem.W.kitAny X.K t (Ts.map Value.type) = some b ∧ Q (.bl b) H) := by
  intro pins s σ H xs us Q I r h
  obtain ⟨x, p, Ts, t, b, rfl, hp, ty, ht, hk, q⟩ := h
  obtain ⟨u, w', rfl, r1, r2⟩ := vals2 r
  cases r2
  obtain ⟨HP, kx, hh, ne⟩ := tyOf_kit I r1 ty ht
  obtain ⟨_, its, rv, o, h1, h2, n, h3⟩ := (show ObjOk X.prog X.w H s.heap p (.tup (Ts.map V.ty)) from I.hok p _ hp)
  have hits : its = Ts.map Value.type := tyVals rv
  obtain ⟨oc, od, odt, osl⟩ := o
  dsimp only at h2 h3
  subst h2 h3 hits
  exact PySem.W.kia_tup kx I.kIn hh h1 hk ne fun tk => ⟨.bl b, H, I.tok _, rfl, q⟩
/-! ### three names at once -/
def tPar3 (i j l : Nat) (ta : TA) : TS := fun D σ H => ta σ H fun vs H1 => ∃ v w z, vs = [v, w, z] ∧ D.nx (((σ.set i (some v)).set j (some w)).set l (some z)) H1
theorem ps_par3 {i j l : Nat} {x y z : Str} {a b c : Expr} {ta : TA} {px py pz pt pos : Pos} {kt k2 pt2} (hc : X.calm = true) (hN : X.N.Nodup) (hi : X.N[i]? = some x) (hj : X.N[j]? = some y) (hl : X.N[l]? = some z) (hij : i ≠ j) (hil : i ≠ l) (hjl : j ≠ l)
    (hx : X.env.scope.names.lookup x = some .local) (hy : X.env.scope.names.lookup y = some .local) (hz : X.env.scope.names.lookup z = some .local) (ha : PA X [a, b, c] ta)
    (hw : swappedStores [.Tuple [.Name x px, .Name y py, .Name z pz] kt pt] (.Tuple [a, b, c] k2 pt2) X.env = pure (some [x, y, z]))
    (hs : swapsWithSole [.Tuple [.Name x px, .Name y py, .Name z pz] kt pt] (.Tuple [a, b, c] k2 pt2) pos.line X.env = pure false := by rfl) :
    PS X (.Assign [.Tuple [.Name x px, .Name y py, .Name z pz] kt pt] (.Tuple [a, b, c] k2 pt2) pos) (tPar3 i j l ta) := by
  intro pins s σ H D I h
  rw [exec_Assign_arm]
  refine wpAny_bind (wpAny_standAt ?_)
  rw [hs]
  refine wpAny_bind (wpAny_pure ?_)
  rw [if_neg (by decide)]
  refine wpAny_bind (Tuple_ (thn (ha _ pins s σ H _ I h) fun us s1 ⟨vs, H1, I1, r1, q1⟩ => ?_))
  obtain ⟨v, w, zv, e1, q1⟩ := q1
  subst e1
  obtain ⟨u1, u2, u3, rfl, rv, rw', rz⟩ : ∃ u1 u2 u3, us = [u1, u2, u3] ∧ RelV v u1 ∧ RelV w u2 ∧ RelV zv u3 := by
    cases r1 with
    | cons p q =>
      cases q with
      | cons p' q' =>
        cases q' with
        | cons p'' q'' =>
          cases q''
          exact ⟨_, _, _, rfl, p, p', p''⟩
  refine wpAny_newObj_type ?_ (by show 3 ≤ sizeLine; decide)
  have I2 : Inv X pins σ H1 { s1 with heap := s1.heap.push { cls := .type "tuple", data := .seq [u1, u2, u3].toArray } } := I1.kept (t' := s1.toks) fun b o e => Heap.get?_push_of_some _ e
  rw [hw]
  refine wpAny_bind (wpAny_pure ?_)
  show wpAny (model X.prog X.w) X.A (do rule "assign.swapped-stores"; let items ← unpackItems (.ref s1.heap.objs.size) 3 none; assignInOrder [fun v => bindName X.env z v, fun v => bindName X.env y v, fun v => bindName X.env x v] items.reverse; pure Flow.next) _ _ _
  refine wpAny_bind (wpAny_rule (wpAny_bind (unpackItems_tuple (items := #[u1, u2, u3]) (I.ok.hd hc) (IsTup.new s1.heap _) fun h' hx' => ?_)))
  have I3 := I2.kept (h' := h') (t' := s1.toks) fun b o e => hx' b o (Nat.ne_of_lt (Heap.lt_size e)) e
  show wpAny _ _ (assignInOrder [fun v => bindName X.env z v, fun v => bindName X.env y v, fun v => bindName X.env x v] [u3, u2, u1] >>= fun _ => pure Flow.next) _ _ _
  refine wpAny_bind (assignInOrder_cons (wpAny_bindName (store_ok I3 hN hl (.inl hz) rz (fun s2 I4 => ?_) (.inr hz))))
  refine assignInOrder_cons (wpAny_bindName (store_ok I4 hN hj (.inl hy) rw' (fun s3 I5 => ?_) (.inr hy)))
  refine assignInOrder_cons (wpAny_bindName (store_ok I5 hN hi (.inl hx) rv (fun s4 I6 => assignInOrder_nil (wpAny_pure ?_)) (.inr hx)))
  have e : (((σ.set l (some zv)).set j (some w)).set i (some v)) = (((σ.set i (some v)).set j (some w)).set l (some zv)) := by
    rw [List.set_comm _ _ (Ne.symm hij), List.set_comm (some zv) (some v) (Ne.symm hil), List.set_comm (some zv) (some w) (Ne.symm hjl)]
  rw [e] at I6
  exact ⟨_, H1, I6, q1⟩
end
end L2
set_option Elab.async false
set_option linter.all false
set_option maxRecDepth 100000
set_option maxHeartbeats 4000000
namespace GS
open PySem L2 PyProof.Rows
theorem atI_mem {α : Type} {xs : List α} {k : Int} (h0 : 0 ≤ k) (h1 : k < (xs.length : Nat)) : ∃ v, v ∈ xs ∧ atI xs k = some v := by
  obtain ⟨n, rfl⟩ : ∃ n : Nat, k = (n : Int) := ⟨k.toNat, by omega⟩
  have hn : n < xs.length := by omega
  exact ⟨xs[n], List.getElem_mem hn, atI_nat (by simp [hn])⟩
/-- the document's signs -/
def Pr (l : List Nat) : Prop := ∀ c ∈ l, 32 ≤ c ∧ c ≤ 126
theorem Pr.lt {l : List Nat} (h : Pr l) : ∀ c ∈ l, c < 128 := fun c hc => by have := h c hc; omega
theorem Pr.append {a b : List Nat} (ha : Pr a) (hb : Pr b) : Pr (a ++ b) := fun c hc => (List.mem_append.mp hc).elim (ha c) (hb c)
theorem Pr.sub {a b : List Nat} (hb : Pr b) (h : ∀ c ∈ a, c ∈ b) : Pr a := fun c hc => hb c (h c hc)
theorem S_append (a b : List Nat) : S a ++ S b = S (a ++ b) := by
  show (⟨(S a).cps ++ (S b).cps⟩ : Str) = _
  simp [S]
theorem slice_mem (z : Str) (lo hi : Option Int) : ∀ c ∈ (StrLaws.sliceText z lo hi).cps.toList, c ∈ z.cps.toList := by
  unfold StrLaws.sliceText
  split
  · exact fun c hc => hc
  · intro c hc
    have hc' : c ∈ (Builtin.Str.strSliceIndices lo hi 1 z.length).filterMap (z.cps[·]?) := by simpa using hc
    obtain ⟨i, _, e⟩ := List.mem_filterMap.mp hc'
    have : z.cps.toList[i]? = some c := by simpa using e
    exact List.mem_of_getElem? this
theorem turns_rel {J : It} {te : TE} {H : Hp} {Q : VK} {vs : List V} (n : Nat) (Pv : V → Prop) (hn : n ≤ 1000000) (hstop : ∀ H', J.stop n H') (hgo : ∀ i H', i < n → J.go i H')
    (hte : ∀ i x H1 H' Q', i < n → Same H H1 → J.yld i H1 x H' → (∀ v H'', Pv v → Same H1 H'' → Q' v H'') → te (some x :: vs.map some) H' Q')
    (q : ∀ D H' ys, H D = none → Same H H' → H' D = some (.lst ys) → ys.length = n → (∀ y ∈ ys, Pv y) → Q (.ref D) H') (D : Addr) (hD : H D = none) :
    ∃ W : Nat → Nat → List V → Hp → Prop, (∃ m, W 0 m [] (upd H D (.lst []))) ∧ ∀ i m ys H, W i m ys H →
      (J.stop i H ∧ Q (.ref D) H) ∨ (J.go i H ∧ ∀ x H', J.yld i H x H' → te (some x :: vs.map some) H' fun v H2 => H2 D = some (.lst ys) ∧ ys.length < sizeLine ∧ ∃ m', m' < m ∧ W (i + 1) m' (ys ++ [v]) (upd H2 D (.lst (ys ++ [v])))) := by
  refine ⟨fun i m ys H' => m = n - i ∧ i ≤ n ∧ ys.length = i ∧ (∀ y ∈ ys, Pv y) ∧ H' D = some (.lst ys) ∧ Same H H', ⟨n, rfl, Nat.zero_le _, rfl, fun y hy => absurd hy (by simp), upd_same, same_new hD _⟩, ?_⟩
  rintro i m ys H1 ⟨rfl, hi, hy, hp, h1, h2⟩
  by_cases hlt : i < n
  · refine .inr ⟨hgo i H1 hlt, fun x H' hyl => hte i x H1 H' _ hlt h2 hyl fun v H'' hv h3 => ⟨h3 D _ h1, ?_, n - (i + 1), by omega, rfl, hlt, ?_, ?_, upd_same, same_upd (h2.trans h3) hD _⟩⟩
    · rw [hy]
      exact Nat.lt_of_lt_of_le hlt (by rw [sizeLine_eq]; omega)
    · rw [List.length_append, hy]; rfl
    · intro y hy'
      rcases List.mem_append.mp hy' with z | z
      · exact hp y z
      · rw [List.mem_singleton.mp z]; exact hv
  · have e : i = n := by omega
    subst e
    exact .inl ⟨hstop H1, q D H1 ys hD h2 h1 hy hp⟩
theorem comp_range {te : TE} {σ : L2.St} {H : Hp} {Q : VK} {js : List Nat} {vs : List V} (n : Nat) (Pv : V → Prop) (hvl : vs.length = js.length) (hvs : ∀ (j i : Nat), js[j]? = some i → ∃ v, vs[j]? = some v ∧ σ[i]? = some (some v)) (hn : n ≤ 1000000)
    (hte : ∀ i H' Q', i < n → Same H H' → (∀ v H'', Pv v → Same H' H'' → Q' v H'') → te (some (.int (0 + (i : Nat))) :: vs.map some) H' Q')
    (q : ∀ D H' ys, H D = none → Same H H' → H' D = some (.lst ys) → ys.length = n → (∀ y ∈ ys, Pv y) → Q (.ref D) H') : compBody js te σ Q (Itr 0 n) H := by
  refine ⟨vs, ⟨hvl, hvs⟩, turns_rel n Pv hn (fun _ => Nat.le_refl _) (fun i _ h => h) (fun i x H1 H' Q' hi hs hy hq => ?_) q⟩
  obtain ⟨e, hx⟩ := hy
  subst e hx
  exact hte i _ Q' hi hs hq
/-- signs, one by one, joined -/
def One (y : V) : Prop := ∃ c, y = .str (S [c]) ∧ 32 ≤ c ∧ c ≤ 126
theorem ones_of : ∀ ys : List V, (∀ y ∈ ys, One y) → ∃ cs : List Nat, ys = cs.map (fun c => V.str (S [c])) ∧ Pr cs
  | [], _ => ⟨[], rfl, fun c hc => absurd hc (by simp)⟩
  | y :: ys, h => by
    obtain ⟨c, e, h1⟩ := h y List.mem_cons_self
    obtain ⟨cs, e2, h2⟩ := ones_of ys fun z hz => h z (List.mem_cons_of_mem _ hz)
    refine ⟨c :: cs, by rw [e, e2]; rfl, fun d hd => ?_⟩
    rcases List.mem_cons.mp hd with rfl | z
    · exact h1
    · exact h2 d z
theorem join_ones : ∀ cs : List Nat, Str.join "" (cs.map fun c => S [c]) = S cs
  | [] => rfl
  | [c] => rfl
  | c :: d :: r => by
    show S [c] ++ ("" : Str) ++ Str.join "" ((d :: r).map fun c => S [c]) = _
    rw [join_ones (d :: r)]
    have : (S [c] ++ ("" : Str)) = S [c] := Str.append_empty _
    rw [this, S_append]; rfl
theorem tjoin_ones (cs : List Nat) : Txt.join "" (cs.map fun c => S [c]) = S cs := by
  show Builtin.Str.glued "" _ = _
  rw [StrLaws.glued_eq_join, join_ones]
theorem ones_sum (cs : List Nat) : ((cs.map fun c => S [c]).map (·.length)).sum = cs.length := by
  induction cs with
  | nil => rfl
  | cons c t ih => rw [List.map_cons, List.map_cons, List.sum_cons, ih, S_len, List.length_cons, List.length_cons]; simp; omega
theorem emod_in {a : Int} {b : Int} (hb : 0 < b) : 0 ≤ a % b ∧ a % b < b := ⟨Int.emod_nonneg _ (by omega), Int.emod_lt_of_pos _ hb⟩
/-- a sign of a text at a rest -/
theorem sign_at (z : Str) (hp : Pr z.cps.toList) {i : Int} (h0 : 0 ≤ i) (h1 : i < z.cps.toList.length) : ∃ c, atI z.cps.toList i = some c ∧ 32 ≤ c ∧ c ≤ 126 := by
  obtain ⟨c, hc, ha⟩ := atI_mem h0 h1
  exact ⟨c, ha, hp c hc⟩
theorem lookup2 {a b : Str} {x z c : Addr} {y : Str} (h : ([(a, x), (b, z)] : List (Str × Addr)).lookup y = some c) : (y = a ∧ c = x) ∨ (y = b ∧ c = z) := by
  simp only [List.lookup_cons, List.lookup_nil] at h
  split at h
  · rename_i e; exact .inl ⟨eq_of_beq e, (Option.some.inj h).symm⟩
  · split at h
    · rename_i e; exact .inr ⟨eq_of_beq e, (Option.some.inj h).symm⟩
    · cases h
theorem lookup1 {a : Str} {x c : Addr} {y : Str} (h : ([(a, x)] : List (Str × Addr)).lookup y = some c) : y = a ∧ c = x := by
  simp only [List.lookup_cons, List.lookup_nil] at h
  split at h
  · rename_i e; exact ⟨eq_of_beq e, (Option.some.inj h).symm⟩
  · cases h
theorem slice_to (cs : List Nat) {j : Int} (h : 0 ≤ j ∧ j ≤ cs.length) : StrLaws.sliceText (S cs) none (some j) = S (cs.take j.toNat) := by
  rw [StrLaws.sliceText_to (by rw [S_cps]; exact h), S_cps]
  show S _ = _
  rw [List.drop_zero, Int.sub_zero]
theorem slice_from (cs : List Nat) {i : Int} (h : 0 ≤ i ∧ i ≤ cs.length) : StrLaws.sliceText (S cs) (some i) none = S (cs.drop i.toNat) := by
  rw [StrLaws.sliceText_from (by rw [S_cps]; exact h), S_cps]
  show S _ = _
  rw [List.take_of_length_le (by rw [List.length_drop]; omega)]
end GS
set_option Elab.async false
set_option linter.all false
set_option maxRecDepth 100000
set_option maxHeartbeats 4000000
namespace GS
open PySem PyProof.Rows
open L2 hiding pe_int pe_bl pe_non pe_str pv pe_glob pe_bltn pe_op pe_un pe_cmpR pe_one pe_and pe_or pe_ifExp pe_ix po_none po_some pe_slice pa_nil pa_cons pe_lst pe_tup pe_dnewK pe_callB pe_callTy pe_bm pe_bm0 pt_cmpR pt_val pt_not pw_and1 pw_or1 pw_and pw_or pg_name pgs_nil pgs_cons pg_tup pi_list pi_tup pi_str pi_range1 pi_range2 pe_comp ps_pass ps_break ps_continue ps_ret ps_retN ps_expr ps_set ps_asg ps_if ps_while ps_for pss_nil pss_cons pss_one
open L3
def top (i : Nat) : Stmt := PySem.Challenge.pw_grassnake_k10_signs.main.body.getD i (.Pass ⟨0, 0, 0, 0⟩)
/-! where the law's own defs stand: behind the program's -/
def at0 : Nat := 14
abbrev sCellAt : Stmt := top (at0 + 0)
abbrev sCell : Stmt := top (at0 + 1)
abbrev sSame : Stmt := top (at0 + 2)
abbrev sFigure : Stmt := top (at0 + 3)
abbrev sText : Stmt := top (at0 + 4)
abbrev sValue : Stmt := top (at0 + 5)
abbrev sDivided : Stmt := top (at0 + 6)
abbrev sBits : Stmt := top (at0 + 7)
abbrev sNumber : Stmt := top (at0 + 8)
abbrev sNumbers : Stmt := top (at0 + 9)
abbrev sDue : Stmt := top (at0 + 10)
abbrev sRight : Stmt := top (at0 + 11)
abbrev sLaw : Stmt := top (at0 + 12)
theorem bAll : bootBuiltins "all" = some (.builtin "all") := by decide +kernel
theorem bIsi : bootBuiltins "isinstance" = some (.builtin "isinstance") := by decide +kernel
theorem bLen : bootBuiltins "len" = some (.builtin "len") := by decide +kernel
theorem bAbs : bootBuiltins "abs" = some (.builtin "abs") := by decide +kernel
theorem bInt : bootBuiltins "int" = some (.type "int") := by decide +kernel
theorem bList : bootBuiltins "list" = some (.type "list") := by decide +kernel
theorem bTuple : bootBuiltins "tuple" = some (.type "tuple") := by decide +kernel
theorem bBool : bootBuiltins "bool" = some (.type "bool") := by decide +kernel
structure Glb (mg : Str → Option Value) : Prop where
  nAll : mg "all" = none
  nIsi : mg "isinstance" = none
  nLen : mg "len" = none
  nAbs : mg "abs" = none
  nInt : mg "int" = none
  nList : mg "list" = none
  nTuple : mg "tuple" = none
  nBool : mg "bool" = none
  nRange : mg "range" = none
theorem ite_b {b : Bool} {A B : Prop} (h1 : b = true → A) (h2 : b = false → B) : if b = true then A else B := by
  cases b with
  | true => exact iteT (h1 rfl)
  | false => exact iteF (h2 rfl)
/-! ### values -/
inductive Vl where
  | num (i : Int) | txt (z : Str) | tr (b : Bool) | non | thing (k : Int)
  deriving DecidableEq
def Vl.kind : Vl → Str
  | .num _ => "number" | .txt _ => "text" | .tr _ => "truth" | .non => "none" | .thing _ => "thing"
def Vl.d : Vl → D
  | .num i => .tup [.str "number", .int i]
  | .txt z => .tup [.str "text", .str z]
  | .tr b => .tup [.str "truth", .bl b]
  | .non => .tup [.str "none"]
  | .thing k => .tup [.str "thing", .int k]
/-- within what is promised -/
def Vl.ok : Vl → Prop
  | .num i => i.natAbs ≤ 10 ^ 30
  | .txt z => z.length ≤ 200 ∧ ∀ c ∈ z.cps.toList, 32 ≤ c ∧ c ≤ 126
  | .thing k => 0 ≤ k ∧ k ≤ 2
  | _ => True
section
variable {P : Program} {w : World} {K : PySem.W.Frag} {mg : Str → Option Value} {base : Heap} {f : Addr} {fd : FuncData}
/-! ### _law_cell_at -/
def spCellAt (K : PySem.W.Frag) : Sp := fun vs H Q _ => ∃ (a : Addr) (ns : List Int) (k : Int), vs = [.ref a, .int k] ∧ SqL K H a (ns.map V.int) ∧ 0 ≤ k ∧ ∀ i, Q (.int i) H
theorem scCellAt : FnScope ["_law_script", "_law_k"] ["_law_script", "_law_k"] (defScope sCellAt) := ⟨rfl, rfl, rfl, by decide +kernel, rfl, by decide +kernel, by decide +kernel⟩
theorem ok_CellAt (g : Glb mg) (F : Fun K "_law_cell_at" "_law_cell_at" sCellAt f fd) : FnOk P w K mg base CX0 1 f fd ["_law_script", "_law_k"] (spCellAt K) := by
  refine F.okI scCellAt (fun vs H Q E h => ?_) (fun cdv A outer s H vs Q E hr h => ?_)
  · obtain ⟨a, ns, k, rfl, _⟩ := h; rfl
  obtain ⟨a, ns, k, rfl, hS, h0, q⟩ := h
  refine ⟨_, pss_cons (ps_if (pt_cmpR op_lt (pv 1) (pe_callB call_len_seq rfl g.nLen bLen (pa_cons (pv 0) pa_nil)) (nomark _)) (pss_one (ps_ret (pe_ix ix_list (pv 0) (pv 1) (fun _ _ => rfl)))) pss_nil) (pss_one (ps_ret pe_int)), ?_⟩
  refine ⟨_, rfl, _, rfl, a, _, rfl, .inl hS, _, _, rfl, rfl, _, rfl, ?_⟩
  refine ite_b (fun e => ?_) (fun e => ?_)
  · have h1 : k < ((ns.map V.int).length : Nat) := of_decide_eq_true e
    obtain ⟨v, hv, ha⟩ := atI_mem h0 h1
    obtain ⟨i, _, rfl⟩ := List.mem_map.mp hv
    exact ⟨_, rfl, _, rfl, a, _, _, _, rfl, rfl, hS, ha, q i⟩
  · exact q 0
/-! ### _law_cell: the next of a row without end -/
def spCell (K : PySem.W.Frag) : Sp := fun vs H Q _ => ∃ (a b : Addr) (ns : List Int) (n : Nat) (rest : List V), vs = [.ref a, .ref b] ∧ SqL K H a (ns.map V.int) ∧ ns.length ≤ 63 ∧ a ≠ b ∧ H b = some (.lst (.int n :: rest)) ∧ n ≤ 100000 ∧
  ∀ i, 0 ≤ i → i < 306783380 → Q (.int i) (upd H b (.lst (.int ((n + 1 : Nat) : Int) :: rest)))
theorem scCell : FnScope ["_law_cells", "_law_spot", "_law_k", "_law_base"] ["_law_cells", "_law_spot"] (defScope sCell) := ⟨rfl, rfl, rfl, by decide +kernel, rfl, by decide +kernel, by decide +kernel⟩
theorem ok_Cell (g : Glb mg) (F : Fun K "_law_cell" "_law_cell" sCell f fd) : FnOk P w K mg base CX0 1 f fd ["_law_cells", "_law_spot"] (spCell K) := by
  refine F.okI scCell (fun vs H Q E h => ?_) (fun cdv A outer s H vs Q E hr h => ?_)
  · obtain ⟨a, b, ns, n, rest, rfl, _⟩ := h; rfl
  obtain ⟨a, b, ns, n, rest, rfl, hS, h63, hab, hb, hn, q⟩ := h
  refine ⟨_, pss_cons (ps_asg (pe_op op_add (pe_ix ix_list (pv 1) pe_int (fun _ _ => rfl)) pe_int) (.mk (L2.pg_sub (L2.pv 1) L2.pe_int set_list)))
    (pss_cons (ps_set (i := 2) scCell.nd rfl (Or.inl rfl) (pe_ix ix_list (pv 1) pe_int (fun _ _ => rfl)))
    (pss_cons (ps_set (i := 3) scCell.nd rfl (Or.inl rfl) (pe_op op_add (pe_op op_mul (pe_op op_mul pe_int (pv 2)) (pv 2)) (pe_op op_mul pe_int (pv 2))))
    (pss_cons (ps_if (pt_cmpR op_gt (pe_callB call_len_seq rfl g.nLen bLen (pa_cons (pv 0) pa_nil)) pe_int (nomark _))
      (pss_one (ps_set (i := 3) scCell.nd rfl (Or.inl rfl) (pe_op op_add (pv 3) (pe_op op_mul (pe_ix ix_list (pv 0) (pe_op op_mod (pv 2) (pe_callB call_len_seq rfl g.nLen bLen (pa_cons (pv 0) pa_nil))) (fun _ _ => rfl)) (pe_op op_add pe_int (pe_op op_fdiv (pv 2) (pe_callB call_len_seq rfl g.nLen bLen (pa_cons (pv 0) pa_nil)))))))) pss_nil)
    (pss_one (ps_ret (pe_op op_fdiv (pe_op op_mod (pe_op op_mul (pv 3) pe_int) pe_int) pe_int)))))), ?_⟩
  have hS' : ∀ o, SqL K (upd H b o) a (ns.map V.int) := fun o => by
    rcases hS with (h | ⟨o', h⟩) | h
    · exact .inl (.inl (by rw [upd_ne hab]; exact h))
    · exact .inl (.inr ⟨o', by rw [upd_ne hab]; exact h⟩)
    · exact .inr h
  have hix : ixN (V.int (n : Int) :: rest).length 0 = some 0 := by
    unfold ixN
    rw [if_pos (by decide), if_pos (by rw [List.length_cons]; omega)]
    rfl
  refine ⟨_, rfl, b, _, _, _, rfl, rfl, SqL.of hb, atI_nat (j := 0) rfl, _, _, rfl, rfl, _, rfl, b, _, _, 0, rfl, rfl, hb, hix, ?_⟩
  have e1 : ((n : Int) + 1) = ((n + 1 : Nat) : Int) := by omega
  refine ⟨_, rfl, b, _, _, _, rfl, rfl, SqL.of upd_same, atI_nat (j := 0) rfl, ?_⟩
  dsimp only
  show tSeq _ _ _ _ (upd H b (.lst (V.int ((n : Int) + 1) :: rest)))
  rw [e1]
  generalize hm : n + 1 = m at q
  have hm1 : m ≤ 100001 := by omega
  have fin : ∀ B : Int, 0 ≤ B * 48271 % 2147483647 / 7 ∧ B * 48271 % 2147483647 / 7 < 306783380 := fun B => by
    have := Int.emod_nonneg (B * 48271) (b := 2147483647) (by decide)
    have := Int.emod_lt_of_pos (B * 48271) (b := 2147483647) (by decide)
    omega
  refine ⟨_, rfl, _, _, rfl, rfl, .inl ⟨by decide, by decide⟩, _, rfl, _, _, rfl, rfl, .inr ⟨by omega, by omega⟩, _, rfl, _, _, rfl, rfl, .inl ⟨by decide, by decide⟩, _, _, rfl, rfl, ?_⟩
  refine ⟨_, rfl, a, _, rfl, .inl (hS' _), _, _, rfl, rfl, _, rfl, ?_⟩
  refine ite_b (fun e => ?_) (fun e => ?_)
  · have h0 : (0 : Int) < ((ns.map V.int).length : Nat) := of_decide_eq_true e
    have hlen : ((ns.map V.int).length : Nat) ≤ 63 := by rw [List.length_map]; exact h63
    have k0 := Int.emod_nonneg (m : Int) (b := ((ns.map V.int).length : Nat)) (by omega)
    have k1 := Int.emod_lt_of_pos (m : Int) (b := ((ns.map V.int).length : Nat)) h0
    obtain ⟨v, hv, hat⟩ := atI_mem k0 k1
    obtain ⟨z, _, rfl⟩ := List.mem_map.mp hv
    have d0 : 0 ≤ (m : Int) / ((ns.map V.int).length : Nat) := Int.ediv_nonneg (by omega) (by omega)
    have d1 : (m : Int) / ((ns.map V.int).length : Nat) ≤ m := Int.ediv_le_self _ (by omega)
    refine ⟨_, rfl, _, rfl, _, rfl, _, rfl, a, _, rfl, .inl (hS' _), _, _, rfl, rfl, h0, a, _, _, _, rfl, rfl, hS' _, hat, _, rfl, _, rfl, a, _, rfl, .inl (hS' _), _, _, rfl, rfl, ⟨h0, by show _ < (1073741824 : Int); omega⟩, _, _, rfl, rfl, _, _, rfl, rfl, .inr ⟨by show _ < 1 + (m : Int) / _; omega, by show 1 + (m : Int) / _ < _; omega⟩, _, _, rfl, rfl, ?_⟩
    refine ⟨_, rfl, _, _, rfl, rfl, .inr ⟨by decide, by decide⟩, _, _, rfl, rfl, (by show (0 : Int) < 2147483647; decide), _, _, rfl, rfl, ⟨by decide, by decide⟩, ?_⟩
    exact q _ (fin _).1 (fin _).2
  · refine ⟨_, rfl, _, _, rfl, rfl, .inr ⟨by decide, by decide⟩, _, _, rfl, rfl, (by show (0 : Int) < 2147483647; decide), _, _, rfl, rfl, ⟨by decide, by decide⟩, ?_⟩
    exact q _ (fin _).1 (fin _).2
end
end GS
set_option Elab.async false
set_option linter.all false
set_option maxRecDepth 100000
set_option maxHeartbeats 4000000
namespace GS
open PySem PyProof.Rows
open L2 hiding pe_int pe_bl pe_non pe_str pv pe_glob pe_bltn pe_op pe_un pe_cmpR pe_one pe_and pe_or pe_ifExp pe_ix po_none po_some pe_slice pa_nil pa_cons pe_lst pe_tup pe_dnewK pe_callB pe_callTy pe_bm pe_bm0 pt_cmpR pt_val pt_not pw_and1 pw_or1 pw_and pw_or pg_name pgs_nil pgs_cons pg_tup pi_list pi_tup pi_str pi_range1 pi_range2 pe_comp ps_pass ps_break ps_continue ps_ret ps_retN ps_expr ps_set ps_asg ps_if ps_while ps_for pss_nil pss_cons pss_one
open L3
section
variable {P : Program} {w : World} {K : PySem.W.Frag} {mg : Str → Option Value} {base : Heap} {f : Addr} {fd : FuncData}
theorem e30 : ((10 : Int) ^ (30 : Int).toNat) = 1000000000000000000000000000000 := by decide +kernel
theorem e15 : ((10 : Int) ^ (15 : Int).toNat) = 1000000000000000 := by decide +kernel
theorem e5 : ((48271 : Int) ^ (5 : Int).toNat) = 262078551400494415750351 := by decide +kernel
/-! ### _law_figure -/
def spFigure : Sp := fun vs H Q _ => ∃ n : Int, vs = [.int n] ∧ 0 ≤ n ∧ n < 306783380 ∧ ∀ i H', i.natAbs ≤ 10 ^ 30 → Same H H' → Q (.int i) H'
theorem scFigure : FnScope ["_law_n", "_law_edge", "_law_great"] ["_law_n"] (defScope sFigure) := ⟨rfl, rfl, rfl, by decide +kernel, rfl, by decide +kernel, by decide +kernel⟩
theorem ok_Figure (F : Fun K "_law_figure" "_law_figure" sFigure f fd) : FnOk P w K mg base CX0 1 f fd ["_law_n"] spFigure := by
  refine F.okI scFigure (fun vs H Q E h => ?_) (fun cdv A outer s H vs Q E hr h => ?_)
  · obtain ⟨n, rfl, _⟩ := h; rfl
  obtain ⟨n, rfl, n0, n1, q⟩ := h
  refine ⟨_, pss_cons (ps_set (i := 1) scFigure.nd rfl (Or.inl rfl) (pe_op op_sub (pe_op op_pow pe_int pe_int) (pe_op op_mod (pe_op op_fdiv (pv 0) pe_int) pe_int)))
    (pss_cons (ps_set (i := 2) scFigure.nd rfl (Or.inl rfl) (pe_op op_mod (pe_op op_mul (pv 0) (pe_op op_pow pe_int pe_int)) (pe_op op_pow pe_int pe_int)))
    (pss_one (ps_ret (pe_ix ix_list (pe_lst
      (pa_cons (pe_op op_sub (pe_op op_mod (pe_op op_fdiv (pv 0) pe_int) pe_int) pe_int)
      (pa_cons (pe_op op_mod (pe_op op_fdiv (pv 0) pe_int) pe_int)
      (pa_cons (pv 1)
      (pa_cons (pe_op op_sub pe_int (pv 1))
      (pa_cons (pe_op op_add (pe_op op_pow pe_int pe_int) (pe_op op_mod (pe_op op_fdiv (pv 0) pe_int) pe_int))
      (pa_cons (pe_op op_sub pe_int (pe_op op_fdiv (pv 0) pe_int))
      (pa_cons pe_int
      (pa_cons (pv 2) pa_nil))))))))) (pe_op op_mod (pv 0) pe_int) (fun _ _ => rfl))))), ?_⟩
  have c8 : CDiv n 8 := ⟨by decide, by decide⟩
  refine ⟨_, _, rfl, rfl, ⟨by decide, by decide, by decide⟩, _, rfl, _, _, rfl, rfl, c8, _, _, rfl, rfl, (by show (0 : Int) < 3; decide), _, _, rfl, rfl, ?_⟩
  refine ⟨_, rfl, _, _, rfl, rfl, ⟨by decide, by decide, by decide⟩, _, _, rfl, rfl, .inl ⟨by show _ < n; omega, by show n < _; omega⟩, _, _, rfl, rfl, ⟨by decide, by decide, by decide⟩, _, _, rfl, rfl, (by show (0 : Int) < 10 ^ (30 : Int).toNat; rw [e30]; decide), ?_⟩
  rw [e30, e5]
  refine ⟨_, rfl, _, _, rfl, rfl, c8, _, _, rfl, rfl, (by show (0 : Int) < 7; decide), _, _, rfl, rfl, _, rfl, _, _, rfl, rfl, c8, _, _, rfl, rfl, (by show (0 : Int) < 100; decide), _, rfl, _, rfl, _, _, rfl, rfl, _, _, rfl, rfl, ⟨by decide, by decide, by decide⟩, _, rfl, _, _, rfl, rfl, c8, _, _, rfl, rfl, (by show (0 : Int) < 5; decide), _, _, rfl, rfl, _, rfl, _, _, rfl, rfl, c8, _, _, rfl, rfl, _, rfl, by show 8 ≤ sizeLine; decide, fun p hp => ?_⟩
  rw [e15]
  dsimp only
  generalize hG : n * 262078551400494415750351 % 1000000000000000000000000000000 = G
  have g0 : 0 ≤ G := by rw [← hG]; exact Int.emod_nonneg _ (by decide)
  have g1 : G < 1000000000000000000000000000000 := by rw [← hG]; exact Int.emod_lt_of_pos _ (by decide)
  have m0 := Int.emod_nonneg n (b := 8) (by decide)
  have m1 := Int.emod_lt_of_pos n (b := 8) (by decide)
  obtain ⟨v, hv, hat⟩ := atI_mem (xs := [V.int (n / 8 % 7 - 3), V.int (n / 8 % 100), V.int (1000000000000000000000000000000 - n / 8 % 3), V.int (0 - (1000000000000000000000000000000 - n / 8 % 3)), V.int (1000000000000000 + n / 8 % 5), V.int (0 - n / 8), V.int 2, V.int G]) m0 (by show _ < (8 : Int); omega)
  refine ⟨_, rfl, _, _, rfl, rfl, (by show (0 : Int) < 8; decide), p, _, _, v, rfl, rfl, SqL.of upd_same, hat, ?_⟩
  have lim : ∀ z : Int, -1000000000000000000000000000000 ≤ z → z ≤ 1000000000000000000000000000000 → z.natAbs ≤ 10 ^ 30 := fun z a b => by
    have : (10 : Nat) ^ 30 = 1000000000000000000000000000000 := by decide +kernel
    rw [this]; omega
  simp only [List.mem_cons, List.not_mem_nil, or_false] at hv
  rcases hv with rfl | rfl | rfl | rfl | rfl | rfl | rfl | rfl <;> exact q _ _ (lim _ (by omega) (by omega)) (same_new hp _)
/-! ### _law_text -/
def marks : Str := " !#$&'()*+,-./0123456789:;<=>?@ABCDEFGHIJKLMNOPQRSTUVWXYZ[]^_abcdefghijklmnopqrstuvwxyz{|}~"
theorem marks_len : marks.cps.toList.length = 91 := by decide +kernel
theorem marks_len' : marks.length = 91 := by decide +kernel
theorem marks_pr : Pr marks.cps.toList := by unfold Pr; decide +kernel
def spText : Sp := fun vs H Q _ => ∃ n : Int, vs = [.int n] ∧ 0 ≤ n ∧ n < 306783380 ∧ ∀ z H', Same H H' → z.length ≤ 200 → (∀ c ∈ z.cps.toList, 32 ≤ c ∧ c ≤ 126) → Q (.str z) H'
theorem scText : FnScope ["_law_n", "_law_marks", "_law_size", "_law_at", "_law_word"] ["_law_n"] (defScope sText) := ⟨rfl, rfl, rfl, by decide +kernel, rfl, by decide +kernel, by decide +kernel⟩
theorem ok_Text (g : Glb mg) (F : Fun K "_law_text" "_law_text" sText f fd) : FnOk P w K mg base CX0 1 f fd ["_law_n"] spText := by
  refine F.okI scText (fun vs H Q E h => ?_) (fun cdv A outer s H vs Q E hr h => ?_)
  · obtain ⟨n, rfl, _⟩ := h; rfl
  obtain ⟨n, rfl, n0, n1, q⟩ := h
  refine ⟨_, pss_cons (ps_set (i := 1) scText.nd rfl (Or.inr rfl) pe_str)
    (pss_cons (ps_set (i := 2) scText.nd rfl (Or.inl rfl) (pe_ix ix_list (pe_lst
      (pa_cons (pe_op op_mod (pe_op op_fdiv (pv 0) pe_int) pe_int)
      (pa_cons (pe_op op_mod (pe_op op_fdiv (pv 0) pe_int) pe_int)
      (pa_cons (pe_op op_add pe_int (pe_op op_mod (pe_op op_fdiv (pv 0) pe_int) pe_int))
      (pa_cons (pe_op op_add pe_int (pe_op op_mod (pe_op op_fdiv (pv 0) pe_int) pe_int))
      (pa_cons pe_int
      (pa_cons (pe_op op_mod (pe_op op_fdiv (pv 0) pe_int) pe_int) pa_nil))))))) (pe_op op_mod (pv 0) pe_int) (fun _ _ => rfl)))
    (pss_cons (ps_set (i := 3) scText.nd rfl (Or.inl rfl) (pe_op op_mod (pe_op op_fdiv (pv 0) pe_int) pe_int))
    (pss_cons (ps_set (i := 4) scText.nd rfl (Or.inl rfl) (pe_bm PySem.F.plainAttrs_str PySem.F.slot_str_join PySem.F.type_str_join mt_join pe_str (pa_cons (pe_comp (cl := [("_law_n", s.heap.objs.size + 1), ("_law_marks", s.heap.objs.size + 2)]) (Nf := ["_law_n", "_law_marks"]) (js := [0, 1]) ?k rfl (pi_range1 rfl g.nRange (pa_cons (pv 2) pa_nil))
          (fun C s0 H0 fp => pe_ix ix_str (pv 2) (pe_op op_mod (pe_op op_add (pe_op op_fdiv (pv 1) pe_int) (pe_op op_mul pe_int (pv 0))) (pe_callB call_len_str rfl g.nLen bLen (pa_cons (pv 2) pa_nil))) (fun _ _ => rfl))) pa_nil)))
    (pss_cons (ps_if (LW.pt (pw_and (pt_cmpR op_eq (pe_op op_mod (pe_op op_fdiv (pv 0) pe_int) pe_int) pe_int (nomark _)) (pw_and1 (pt_cmpR op_lt (pv 3) (pv 2) (nomark _)))))
        (pss_one (ps_set (i := 4) scText.nd rfl (Or.inl rfl) (pe_op op_add_str (pe_op op_add_str (pe_slice sl_str (pv 4) po_none (po_some (pv 3))) (pe_ix ix_str (pv 1) (pe_op op_mod (pe_op op_fdiv (pv 0) pe_int) (pe_callB call_len_str rfl g.nLen bLen (pa_cons (pv 1) pa_nil))) (fun _ _ => rfl))) (pe_slice sl_str (pv 4) (po_some (pe_op op_add (pv 3) pe_int)) po_none)))) pss_nil)
    (pss_one (ps_ret (pv 4))))))), ?main⟩
  case k =>
    refine ⟨rfl, by decide +kernel, rfl, by decide +kernel, rfl, fun y c h => ?_, fun y hy => ?_, by decide +kernel, rfl, fun j y h => ?_⟩
    · rcases lookup2 h with ⟨rfl, rfl⟩ | ⟨rfl, rfl⟩ <;> rfl
    · have hy' : ([(".0", .local), ("_law_k", .local), ("len", .globalImplicit), ("_law_marks", .cell), ("_law_n", .cell)] : List (Str × NameKind)).lookup y = some .cell ∨ ([(".0", .local), ("_law_k", .local), ("len", .globalImplicit), ("_law_marks", .cell), ("_law_n", .cell)] : List (Str × NameKind)).lookup y = some .free := hy
      rcases hy' with z | z
      · have m := PySem.mem_of_lookup z
        simp at m
        rcases m with rfl | rfl
        · exact ⟨_, rfl⟩
        · exact ⟨_, rfl⟩
      · have m := PySem.mem_of_lookup z
        simp at m
    · match j, h with
      | 0, h => cases h; exact ⟨0, rfl, rfl, rfl, .inl rfl⟩
      | 1, h => cases h; exact ⟨1, rfl, rfl, rfl, .inl rfl⟩
      | j + 2, h => simp at h
  case main =>
    have c6 : CDiv n 6 := ⟨by decide, by decide⟩
    refine ⟨_, rfl, _, _, rfl, rfl, c6, _, _, rfl, rfl, (by show (0 : Int) < 4; decide), _, rfl, _, _, rfl, rfl, c6, _, _, rfl, rfl, (by show (0 : Int) < 4; decide), _, rfl, _, _, rfl, rfl, c6, _, _, rfl, rfl, (by show (0 : Int) < 4; decide), _, _, rfl, rfl, _, rfl, _, _, rfl, rfl, c6, _, _, rfl, rfl, (by show (0 : Int) < 3; decide), _, _, rfl, rfl, _, rfl, _, _, rfl, rfl, c6, _, _, rfl, rfl, (by show (0 : Int) < 40; decide), by show 6 ≤ sizeLine; decide, fun p hp => ?_⟩
    dsimp only
    obtain ⟨m0, m1⟩ := emod_in (a := n) (b := 6) (by decide)
    obtain ⟨v, hv, hat⟩ := atI_mem (xs := [V.int (n / 6 % 4), V.int (n / 6 % 4), V.int (98 + n / 6 % 4), V.int (198 + n / 6 % 3), V.int 0, V.int (n / 6 % 40)]) m0 (by show _ < (6 : Int); omega)
    refine ⟨_, rfl, _, _, rfl, rfl, (by show (0 : Int) < 6; decide), p, _, _, v, rfl, rfl, SqL.of upd_same, hat, ?_⟩
    obtain ⟨sz, rfl, z0, z1⟩ : ∃ sz : Int, v = .int sz ∧ 0 ≤ sz ∧ sz ≤ 200 := by
      simp only [List.mem_cons, List.not_mem_nil, or_false] at hv
      rcases hv with rfl | rfl | rfl | rfl | rfl | rfl <;> exact ⟨_, rfl, by omega, by omega⟩
    clear hv hat
    have sp : Same H (upd H p (.lst [V.int (n / 6 % 4), V.int (n / 6 % 4), V.int (98 + n / 6 % 4), V.int (198 + n / 6 % 3), V.int 0, V.int (n / 6 % 40)])) := same_new hp _
    revert sp
    generalize upd H p (.lst [V.int (n / 6 % 4), V.int (n / 6 % 4), V.int (98 + n / 6 % 4), V.int (198 + n / 6 % 3), V.int 0, V.int (n / 6 % 40)]) = H0
    intro sp
    refine ⟨_, rfl, _, _, rfl, rfl, ⟨by decide, by decide⟩, _, _, rfl, rfl, (by show (0 : Int) < 5; decide), ?_⟩
    obtain ⟨a0, a1⟩ := emod_in (a := n / 36) (b := 5) (by decide)
    refine ⟨rfl, _, rfl, _, rfl, by omega, by omega, ?_⟩
    refine comp_range (vs := [.int n, .str marks]) _ One rfl (fun j i h => ?_) (by omega) (fun i H' Q' hi hs hq => ?_) fun D H1 ys hD hs1 hl hlen hone => ?_
    · match j, h with
      | 0, h => cases h; exact ⟨_, rfl, rfl⟩
      | 1, h => cases h; exact ⟨_, rfl, rfl⟩
      | j + 2, h => simp at h
    · obtain ⟨k0, k1⟩ := emod_in (a := n / 7000 + 7 * (0 + (i : Int))) (b := 91) (by decide)
      obtain ⟨c, ha, hc, hc'⟩ := sign_at marks marks_pr k0 (by rw [marks_len]; omega)
      refine ⟨_, rfl, _, rfl, _, _, rfl, rfl, ⟨by decide, by decide⟩, _, rfl, _, _, rfl, rfl, .inl ⟨by decide, by decide⟩, _, _, rfl, rfl, _, rfl, _, rfl, (by decide +kernel), _, _, rfl, rfl, ?_, _, _, c, rfl, rfl, (by decide +kernel), ?_, ?_⟩
      · show (0 : Int) < ((marks.length : Nat) : Int); rw [marks_len']; decide
      · show atI marks.cps.toList ((n / 7000 + 7 * (0 + (i : Int))) % ((marks.length : Nat) : Int)) = some c; rw [marks_len']; exact ha
      · exact hq _ H' ⟨c, rfl, hc, hc'⟩ (Same.refl H')
    obtain ⟨cs, rfl, hcs⟩ := ones_of ys hone
    rw [List.length_map] at hlen
    have hcl : cs.length ≤ 200 := by omega
    have el : cs.map (fun c => V.str (S [c])) = (cs.map fun c => S [c]).map V.str := by rw [List.map_map]; rfl
    rw [el] at hl
    refine ⟨_, D, _, rfl, rfl, SqL.of hl, ?_, ?_⟩
    · rw [ones_sum, List.length_map]; show cs.length + cs.length * 0 ≤ _; omega
    have ej : Txt.join ("" : Str) (cs.map fun c => S [c]) = S cs := tjoin_ones cs
    rw [ej]
    have hzw : (S cs).length ≤ sizeLine := by rw [S_len]; exact small (by omega)
    have s1 : Same H H1 := sp.trans hs1
    refine ⟨_, rfl, _, _, rfl, rfl, ⟨by decide, by decide⟩, _, _, rfl, rfl, (by show (0 : Int) < 2; decide), rfl, _, rfl, ?_⟩
    have last : ∀ z : Str, z.length ≤ 200 → Pr z.cps.toList → Q (.str z) H1 := fun z hl hp => q z H1 s1 hl hp
    refine ite_b (fun e => ?_) (fun e => ?_)
    · refine ⟨_, rfl, _, rfl, _, _, rfl, rfl, _, rfl, ?_⟩
      refine ite_b (fun e2 => ?_) (fun e2 => ?_)
      · have hlt : n / 36 % 5 < sz := of_decide_eq_true e2
        obtain ⟨k0, k1⟩ := emod_in (a := n / 360) (b := 91) (by decide)
        obtain ⟨c, ha, hc, hc'⟩ := sign_at marks marks_pr k0 (by rw [marks_len]; omega)
        have e1 := slice_to cs (j := n / 36 % 5) ⟨a0, by omega⟩
        have e2 := slice_from cs (i := n / 36 % 5 + 1) ⟨by omega, by omega⟩
        refine ⟨_, rfl, _, rfl, _, rfl, _, rfl, hzw, _, rfl, _, rfl, _, _, rfl, rfl, ⟨by decide, by decide⟩, _, rfl, _, rfl, (by decide +kernel), _, _, rfl, rfl, ?_, _, _, c, rfl, rfl, (by decide +kernel), ?_, ?_⟩
        · show (0 : Int) < ((marks.length : Nat) : Int); rw [marks_len']; decide
        · show atI marks.cps.toList ((n / 360) % ((marks.length : Nat) : Int)) = some c; rw [marks_len']; exact ha
        rw [e1]
        have l1 : (S (cs.take (n / 36 % 5).toNat)).length ≤ 200 := by rw [S_len, List.length_take]; omega
        refine ⟨_, _, rfl, rfl, ?_, ?_⟩
        · show _ + 1 ≤ _; exact small (by omega)
        refine ⟨_, rfl, _, rfl, _, _, rfl, rfl, _, rfl, _, rfl, hzw, ?_⟩
        rw [e2]
        have l2 : (S (cs.drop (n / 36 % 5 + 1).toNat)).length ≤ 200 := by rw [S_len, List.length_drop]; omega
        have ec : (S (cs.take (n / 36 % 5).toNat) ++ (⟨#[c]⟩ : Str)) = S (cs.take (n / 36 % 5).toNat ++ [c]) := S_append _ [c]
        rw [ec]
        refine ⟨_, _, rfl, rfl, ?_, ?_⟩
        · rw [S_len, S_len, List.length_append, List.length_take, List.length_drop, List.length_singleton]; exact small (by omega)
        rw [S_append]
        refine ⟨_, rfl, last _ ?_ ?_⟩
        · rw [S_len, List.length_append, List.length_append, List.length_take, List.length_drop, List.length_singleton]; omega
        · rw [S_cps]
          exact ((hcs.sub fun c hc => List.mem_of_mem_take hc).append (fun d hd => by rw [List.mem_singleton.mp hd]; exact ⟨hc, hc'⟩)).append (hcs.sub fun c hc => List.mem_of_mem_drop hc)
      · exact ⟨_, rfl, last _ (by rw [S_len]; exact hcl) (by rw [S_cps]; exact hcs)⟩
    · refine iteF ?_
      exact ⟨_, rfl, last _ (by rw [S_len]; exact hcl) (by rw [S_cps]; exact hcs)⟩
/-! ### tuples that are made -/
theorem AtAll1 {H : Hp} {a : D} {x : V} (h : At K H a x) : AtAll K H [a] [x] := AtAll_cons.mpr ⟨x, [], rfl, h, AtAll_nil.mpr rfl⟩
theorem AtAll2 {H : Hp} {a b : D} {x y : V} (h : At K H a x) (h2 : At K H b y) : AtAll K H [a, b] [x, y] := AtAll_cons.mpr ⟨x, [y], rfl, h, AtAll1 h2⟩
/-! ### _law_value -/
def spValue (K : PySem.W.Frag) : Sp := fun vs H Q _ => ∃ n k : Int, vs = [.int n, .int k] ∧ 0 ≤ n ∧ n < 306783380 ∧ ∀ (v : Vl) x H', v.ok → Same H H' → At K H' v.d x → Q x H'
theorem scValue : FnScope ["_law_n", "_law_kind"] ["_law_n", "_law_kind"] (defScope sValue) := ⟨rfl, rfl, rfl, by decide +kernel, rfl, by decide +kernel, by decide +kernel⟩
theorem ok_Value (g : Glb mg) (F : Fun K "_law_value" "_law_value" sValue f fd) (dF : Def P w K mg base "_law_figure" ["_law_n"] 1 spFigure) (dT : Def P w K mg base "_law_text" ["_law_n"] 1 spText) : FnOk P w K mg base CX0 2 f fd ["_law_n", "_law_kind"] (spValue K) := by
  refine F.okI scValue (fun vs H Q E h => ?_) (fun cdv A outer s H vs Q E hr h => ?_)
  · obtain ⟨n, k, rfl, _⟩ := h; rfl
  obtain ⟨n, k, rfl, n0, n1, q⟩ := h
  refine ⟨_, pss_cons (ps_if (pt_cmpR op_eq (pv 1) pe_int (nomark _)) (pss_one (ps_ret (pe_tup (pa_cons pe_str (pa_cons (L3.pe_def dF hr (by decide) rfl (pa_cons (pv 0) pa_nil)) pa_nil))))) pss_nil)
    (pss_cons (ps_if (pt_cmpR op_eq (pv 1) pe_int (nomark _)) (pss_one (ps_ret (pe_tup (pa_cons pe_str (pa_cons (L3.pe_def dT hr (by decide) rfl (pa_cons (pv 0) pa_nil)) pa_nil))))) pss_nil)
    (pss_cons (ps_if (pt_cmpR op_eq (pv 1) pe_int (nomark _)) (pss_one (ps_ret (pe_tup (pa_cons pe_str (pa_cons (pe_cmpR op_eq (pe_op op_mod (pv 0) pe_int) pe_int (nomark _)) pa_nil))))) pss_nil)
    (pss_cons (ps_if (pt_cmpR op_eq (pv 1) pe_int (nomark _)) (pss_one (ps_ret (pe_tup (pa_cons pe_str pa_nil)))) pss_nil)
    (pss_one (ps_ret (pe_tup (pa_cons pe_str (pa_cons (pe_op op_mod (pv 0) pe_int) pa_nil)))))))), ?_⟩
  have two : ∀ (H1 : Hp) (v : Vl) (a : Str) (b : D) (y : V), v.d = .tup [.str a, b] → v.ok → Same H H1 → At K H1 b y → (2 : Nat) ≤ sizeLine ∧ ∀ p, H1 p = none → Q (.ref p) (upd H1 p (.tup [.str a, y])) := fun H1 v a b y e ok hs hy =>
    ⟨by decide, fun p hp => q v _ _ ok (hs.trans (same_new hp _)) (by rw [e]; exact At.new hp (AtAll2 (At_str.mpr rfl) hy))⟩
  refine ⟨_, rfl, rfl, _, rfl, ?_⟩
  refine ite_b (fun e => ?_) (fun e => ?_)
  · refine ⟨_, rfl, n, rfl, n0, n1, fun i H' hi hs => ?_⟩
    exact two H' (.num i) _ (.int i) _ rfl hi hs (At_int.mpr rfl)
  refine ⟨_, rfl, rfl, _, rfl, ?_⟩
  refine ite_b (fun e => ?_) (fun e => ?_)
  · refine ⟨_, rfl, n, rfl, n0, n1, fun z H' hs hl hp => ?_⟩
    exact two H' (.txt z) _ (.str z) _ rfl ⟨hl, hp⟩ hs (At_str.mpr rfl)
  refine ⟨_, rfl, rfl, _, rfl, ?_⟩
  refine ite_b (fun e => ?_) (fun e => ?_)
  · refine ⟨_, rfl, _, _, rfl, rfl, (by show (0 : Int) < 2; decide), rfl, ?_⟩
    exact two H (.tr _) _ (.bl _) _ rfl True.intro (Same.refl H) (At_bl.mpr rfl)
  refine ⟨_, rfl, rfl, _, rfl, ?_⟩
  refine ite_b (fun e => ?_) (fun e => ?_)
  · exact ⟨by show 1 ≤ sizeLine; decide, fun p hp => q .non _ _ True.intro (same_new hp _) (At.new hp (AtAll1 (At_str.mpr rfl)))⟩
  · obtain ⟨m0, m1⟩ := emod_in (a := n) (b := 3) (by decide)
    refine ⟨_, rfl, _, _, rfl, rfl, (by show (0 : Int) < 3; decide), ?_⟩
    exact two H (.thing (n % 3)) _ (.int _) _ rfl ⟨m0, by omega⟩ (Same.refl H) (At_int.mpr rfl)
end
end GS
set_option Elab.async false
set_option linter.all false
set_option maxRecDepth 100000
set_option maxHeartbeats 4000000
namespace GS
open PySem PyProof.Rows
open L2 hiding pe_int pe_bl pe_non pe_str pv pe_glob pe_bltn pe_op pe_un pe_cmpR pe_one pe_and pe_or pe_ifExp pe_ix po_none po_some pe_slice pa_nil pa_cons pe_lst pe_tup pe_dnewK pe_callB pe_callTy pe_bm pe_bm0 pt_cmpR pt_val pt_not pw_and1 pw_or1 pw_and pw_or pg_name pgs_nil pgs_cons pg_tup pi_list pi_tup pi_str pi_range1 pi_range2 pe_comp ps_pass ps_break ps_continue ps_ret ps_retN ps_expr ps_set ps_asg ps_if ps_while ps_for pss_nil pss_cons pss_one
open L3
section
variable {P : Program} {w : World} {K : PySem.W.Frag} {mg : Str → Option Value} {base : Heap} {f : Addr} {fd : FuncData}
theorem absI (i : Int) : (if i < 0 then -i else i) = (i.natAbs : Int) := by split <;> omega
/-! ### _law_divided -/
def spDivided : Sp := fun vs H Q _ => ∃ a b : Int, vs = [.int a, .int b] ∧ b ≠ 0 ∧ a.natAbs < 2 ^ 150 ∧ b.natAbs < 2 ^ 150 ∧ Q (.int (a.fdiv b)) H
theorem scDivided : FnScope ["_law_one", "_law_other", "_law_many"] ["_law_one", "_law_other"] (defScope sDivided) := ⟨rfl, rfl, rfl, by decide +kernel, rfl, by decide +kernel, by decide +kernel⟩
theorem ok_Divided (g : Glb mg) (F : Fun K "_law_divided" "_law_divided" sDivided f fd) : FnOk P w K mg base CX0 1 f fd ["_law_one", "_law_other"] spDivided := by
  refine F.okI scDivided (fun vs H Q E h => ?_) (fun cdv A outer s H vs Q E hr h => ?_)
  · obtain ⟨a, b, rfl, _⟩ := h; rfl
  obtain ⟨a, b, rfl, hb, ha1, hb1, q⟩ := h
  refine ⟨_, pss_cons (ps_set (i := 2) scDivided.nd rfl (Or.inl rfl) (pe_op op_fdivB (pe_callB call_abs rfl g.nAbs bAbs (pa_cons (pv 0) pa_nil)) (pe_callB call_abs rfl g.nAbs bAbs (pa_cons (pv 1) pa_nil))))
    (pss_cons (ps_if (pt_cmpR op_eq (pe_cmpR op_lt (pv 0) pe_int (nomark _)) (pe_cmpR op_lt (pv 1) pe_int (nomark _)) (nomark _)) (pss_one (ps_ret (pv 2))) pss_nil)
    (pss_one (ps_ret (pe_op op_sub (pe_op op_sub pe_int (pv 2)) (pe_callTy call_int1 rfl g.nInt bInt (pa_cons (pe_cmpR op_lt (pe_op op_mulB (pv 2) (pe_callB call_abs rfl g.nAbs bAbs (pa_cons (pv 1) pa_nil))) (pe_callB call_abs rfl g.nAbs bAbs (pa_cons (pv 0) pa_nil)) (nomark _)) pa_nil)))))), ?_⟩
  rw [← lawDiv_eq a b hb] at q
  have hp : (2 : Nat) ^ 150 < 2 ^ 250 := Nat.pow_lt_pow_right (by decide) (by decide)
  have hqm : (a.natAbs / b.natAbs) ≤ a.natAbs := Nat.div_le_self _ _
  have hab : (b.natAbs : Int) ≠ 0 := by omega
  refine ⟨_, rfl, _, rfl, ?_⟩
  rw [absI]
  refine ⟨_, rfl, _, rfl, ?_⟩
  rw [absI]
  refine ⟨_, _, rfl, rfl, ⟨hab, by rw [Int.natAbs_natCast]; exact Nat.lt_trans hb1 hp⟩, ?_⟩
  dsimp only
  rw [fdiv_pos_pos]
  refine ⟨_, rfl, _, _, rfl, rfl, _, rfl, _, _, rfl, rfl, rfl, _, rfl, ?_⟩
  unfold lawDiv at q
  dsimp only at q
  refine ite_b (fun e => ?_) (fun e => ?_)
  · have e' : decide (a < 0) = decide (b < 0) := by
      have := of_decide_eq_true e
      exact V.bl.inj this
    rw [if_pos e'] at q
    exact ⟨_, rfl, q⟩
  · have e' : ¬ decide (a < 0) = decide (b < 0) := fun z => by
      have := of_decide_eq_false e
      exact this (by dsimp only; rw [z])
    rw [if_neg e'] at q
    refine ⟨_, rfl, _, _, rfl, rfl, _, rfl, _, rfl, _, rfl, ?_⟩
    rw [absI]
    refine ⟨_, _, rfl, rfl, ⟨?_, ?_⟩, _, rfl, _, rfl, ?_⟩
    · rw [Int.natAbs_natCast]; exact Nat.lt_of_le_of_lt hqm (Nat.lt_trans ha1 hp)
    · rw [Int.natAbs_natCast]; exact Nat.lt_trans hb1 hp
    rw [absI]
    refine ⟨_, _, rfl, rfl, .inr ⟨_, rfl, _, _, rfl, rfl, ?_⟩⟩
    dsimp only
    have ei : (if decide (((a.natAbs / b.natAbs : Nat) : Int) * (b.natAbs : Int) < (a.natAbs : Int)) = true then (1 : Int) else 0) = (if ((a.natAbs / b.natAbs : Nat) : Int) * (b.natAbs : Int) < (a.natAbs : Int) then 1 else 0) := by
      simp only [decide_eq_true_eq]
    rw [ei]
    exact q
/-! ### _law_bits -/
def spBits : Sp := fun vs H Q _ => ∃ (z : Str) (a b : Nat), vs = [.str z, .int a, .int b] ∧ ∀ H', Same H H' → Q (.int (bitsOp (decide (z = "|")) a b : Nat)) H'
theorem scBits : FnScope ["_law_sign", "_law_one", "_law_other", "_law_found", "_law_worth", "_law_both"] ["_law_sign", "_law_one", "_law_other"] (defScope sBits) := ⟨rfl, rfl, rfl, by decide +kernel, rfl, by decide +kernel, by decide +kernel⟩
theorem ok_Bits (F : Fun K "_law_bits" "_law_bits" sBits f fd) : FnOk P w K mg base CX0 1 f fd ["_law_sign", "_law_one", "_law_other"] spBits := by
  refine F.okI scBits (fun vs H Q E h => ?_) (fun cdv A outer s H vs Q E hr h => ?_)
  · obtain ⟨z, a, b, rfl, _⟩ := h; rfl
  obtain ⟨z, a, b, rfl, q⟩ := h
  refine ⟨_, pss_cons (ps_asg (pe_tup (pa_cons pe_int (pa_cons pe_int pa_nil))) (pg_tup rfl (pgs_cons (pg_name (i := 3) scBits.nd rfl (Or.inl rfl)) (pgs_cons (pg_name (i := 4) scBits.nd rfl (Or.inl rfl)) pgs_nil))))
    (pss_cons (ps_while PassesOwn.never (LW.pt (pw_or (pt_cmpR op_gt (pv 1) pe_int (nomark _)) (pw_or1 (pt_cmpR op_gt (pv 2) pe_int (nomark _)))))
      (pss_cons (ps_set (i := 5) scBits.nd rfl (Or.inl rfl) (pe_op op_add (pe_op op_mod (pv 1) pe_int) (pe_op op_mod (pv 2) pe_int)))
      (pss_cons (ps_if (LW.pt (pw_or (pt_cmpR op_eq (pv 5) pe_int (nomark _)) (pw_or1 (LW.pt (pw_and (pt_cmpR op_eq (pv 5) pe_int (nomark _)) (pw_and1 (pt_cmpR op_eq (pv 0) pe_str (nomark _)))))))) (pss_one (ps_set (i := 3) scBits.nd rfl (Or.inl rfl) (pe_op op_add (pv 3) (pv 4)))) pss_nil)
      (pss_one (.mk (L2.ps_par3 (i := 1) (j := 2) (l := 4) rfl scBits.nd rfl rfl rfl (by decide) (by decide) (by decide) rfl rfl rfl (LA.out (pa_cons (pe_op op_fdiv (pv 1) pe_int) (pa_cons (pe_op op_fdiv (pv 2) pe_int) (pa_cons (pe_op op_mul (pv 4) pe_int) pa_nil)))) rfl)))))) 
    (pss_one (ps_ret (pv 3)))), ?_⟩
  refine ⟨by show 2 ≤ sizeLine; decide, fun p hp => ?_⟩
  refine ⟨p, _, rfl, SqT.of upd_same, rfl, _, _, rfl, _, _, rfl, rfl, ?_⟩
  have sp : Same H (upd H p (.tup [.int 0, .int 1])) := same_new hp _
  show tWhile _ _ _ [some (.str z), some (.int a), some (.int b), some (.int 0), some (.int 1), none] _
  refine while_by (fun σ H' => H' = upd H p (.tup [.int 0, .int 1]) ∧ ∃ (a' b' fo wo : Nat) (o5 : Option V), σ = [some (.str z), some (.int a'), some (.int b'), some (.int fo), some (.int wo), o5] ∧ fo + wo * bitsOp (decide (z = "|")) a' b' = bitsOp (decide (z = "|")) a b)
    (fun σ _ => match σ with | [_, some (.int a'), some (.int b'), _, _, _] => a'.toNat + b'.toNat | _ => 0) ⟨rfl, a, b, 0, 1, none, rfl, by omega⟩ ?_ ?_
  · rintro σ H' ⟨rfl, a', b', fo, wo, o5, rfl, inv⟩
    refine ⟨_, rfl, _, _, rfl, rfl, _, rfl, ?_⟩
    dsimp only
    have body : ∀ (hpos : 0 < a' ∨ 0 < b') (N : L2.St → Hp → Prop), (∀ (fo' wo' : Nat) (o5 : Option V), fo' + wo' * bitsOp (decide (z = "|")) (a' / 2) (b' / 2) = bitsOp (decide (z = "|")) a b → N [some (.str z), some (.int (a' / 2 : Nat)), some (.int (b' / 2 : Nat)), some (.int fo'), some (.int wo'), o5] (upd H p (.tup [.int 0, .int 1]))) →
        ∀ D : Ends, D.nx = N → (tSeq (tAsg (tOp (rI0 fun i j => V.int (i + j)) (tOp (rI (fun x j => 0 < j) fun i j => V.int (i % j)) (tVar 1) (tC (V.int 2))) (tOp (rI (fun x j => 0 < j) fun i j => V.int (i % j)) (tVar 2) (tC (V.int 2)))) (gName 5))
          (tSeq (tIfS (tOr (tTest (tOp rEq (tVar 5) (tC (V.int 2)))) (tAnd (tTest (tOp rEq (tVar 5) (tC (V.int 1)))) (tTest (tOp rEq (tVar 0) (tC (V.str (Str.ofString "|"))))))) (tAsg (tOp (rI0 fun i j => V.int (i + j)) (tVar 3) (tVar 4)) (gName 3)) tNext)
            (tPar3 1 2 4 (tCons (tOp (rI CDiv fun i j => V.int (i / j)) (tVar 1) (tC (V.int 2))) (tCons (tOp (rI CDiv fun i j => V.int (i / j)) (tVar 2) (tC (V.int 2))) (tCons (tOp (rI CMul fun i j => V.int (i * j)) (tVar 4) (tC (V.int 2))) tNil)))))) D
          [some (.str z), some (.int a'), some (.int b'), some (.int fo), some (.int wo), o5] (upd H p (.tup [.int 0, .int 1])) := by
      intro hpos N hN D hD
      have turn := bits_turn (decide (z = "|")) inv
      have fin : ∀ (fo' : Nat) (v5 : V), fo' = fo + wo * bitOf (decide (z = "|")) a' b' → (tPar3 1 2 4 (tCons (tOp (rI CDiv fun i j => V.int (i / j)) (tVar 1) (tC (V.int 2))) (tCons (tOp (rI CDiv fun i j => V.int (i / j)) (tVar 2) (tC (V.int 2))) (tCons (tOp (rI CMul fun i j => V.int (i * j)) (tVar 4) (tC (V.int 2))) tNil)))) D [some (.str z), some (.int a'), some (.int b'), some (.int fo'), some (.int wo), some v5] (upd H p (.tup [.int 0, .int 1])) := fun fo' v5 e => by
        refine ⟨_, rfl, _, _, rfl, rfl, ⟨by decide, by decide⟩, _, rfl, _, _, rfl, rfl, ⟨by decide, by decide⟩, _, rfl, _, _, rfl, rfl, .inr ⟨by decide, by decide⟩, _, _, _, rfl, ?_⟩
        rw [hD]
        have := hN fo' (wo * 2) (some v5) (by rw [e]; exact turn)
        exact this
      refine ⟨_, rfl, _, _, rfl, rfl, (by show (0 : Int) < 2; decide), _, rfl, _, _, rfl, rfl, (by show (0 : Int) < 2; decide), _, _, rfl, rfl, ?_⟩
      dsimp only
      have ma : ((a' : Int) % 2 + (b' : Int) % 2) = ((a' % 2 + b' % 2 : Nat) : Int) := by omega
      show tSeq _ _ _ [some (.str z), some (.int a'), some (.int b'), some (.int fo), some (.int wo), some (.int ((a' : Int) % 2 + (b' : Int) % 2))] _
      rw [ma]
      have hm : a' % 2 + b' % 2 = 0 ∨ a' % 2 + b' % 2 = 1 ∨ a' % 2 + b' % 2 = 2 := by omega
      have dI : ∀ x y : Nat, x ≠ y → decide (V.int (x : Int) = V.int (y : Int)) = false := fun x y h => decide_eq_false fun e => h (by have := V.int.inj e; omega)
      rcases hm with hm | hm | hm
      · have e0 : bitOf (decide (z = "|")) a' b' = 0 := by unfold bitOf; rw [hm]; simp
        rw [hm]
        refine ⟨_, rfl, rfl, _, rfl, ?_⟩
        rw [show decide (V.int ((0 : Nat) : Int) = V.int 2) = false from rfl]
        refine iteF ⟨_, rfl, rfl, _, rfl, ?_⟩
        rw [show decide (V.int ((0 : Nat) : Int) = V.int 1) = false from rfl]
        refine iteF (iteF ?_)
        exact fin fo _ (by rw [e0]; omega)
      · rw [hm]
        refine ⟨_, rfl, rfl, _, rfl, ?_⟩
        rw [show decide (V.int ((1 : Nat) : Int) = V.int 2) = false from rfl]
        refine iteF ⟨_, rfl, rfl, _, rfl, ?_⟩
        rw [show decide (V.int ((1 : Nat) : Int) = V.int 1) = true from rfl]
        refine iteT ⟨_, rfl, rfl, _, rfl, ?_⟩
        have ez : decide (V.str z = V.str (Str.ofString "|")) = decide (z = "|") := decide_eq_decide.mpr ⟨V.str.inj, fun e => by rw [e]⟩
        rw [ez]
        cases hz : decide (z = ("|" : Str)) with
        | true =>
          have e1 : bitOf (decide (z = "|")) a' b' = 1 := by unfold bitOf; rw [hm, hz]; simp
          refine iteT ⟨_, rfl, _, rfl, _, _, rfl, rfl, ?_⟩
          exact fin (fo + wo) _ (by rw [e1]; omega)
        | false =>
          have e1 : bitOf (decide (z = "|")) a' b' = 0 := by unfold bitOf; rw [hm, hz]; simp
          refine iteF ?_
          exact fin fo _ (by rw [e1]; omega)
      · have e2 : bitOf (decide (z = "|")) a' b' = 1 := by unfold bitOf; rw [hm]; simp
        rw [hm]
        refine ⟨_, rfl, rfl, _, rfl, ?_⟩
        rw [show decide (V.int ((2 : Nat) : Int) = V.int 2) = true from rfl]
        refine iteT (iteT ⟨_, rfl, _, rfl, _, _, rfl, rfl, ?_⟩)
        exact fin (fo + wo) _ (by rw [e2]; omega)
    have all : (0 < a' ∨ 0 < b') → ∀ D : Ends, (∀ σ' H', D.nx σ' H' = ((H' = upd H p (.tup [.int 0, .int 1]) ∧ ∃ (a' b' fo wo : Nat) (o5 : Option V), σ' = [some (.str z), some (.int a'), some (.int b'), some (.int fo), some (.int wo), o5] ∧ fo + wo * bitsOp (decide (z = "|")) a' b' = bitsOp (decide (z = "|")) a b) ∧
        (match σ' with | [_, some (.int a'), some (.int b'), _, _, _] => a'.toNat + b'.toNat | _ => 0) < (match ([some (.str z), some (.int a'), some (.int b'), some (.int fo), some (.int wo), o5] : L2.St) with | [_, some (.int a'), some (.int b'), _, _, _] => a'.toNat + b'.toNat | _ => 0))) → _ := fun hpos D hD => body hpos D.nx (fun fo' wo' o5' e => by
      rw [hD]
      refine ⟨⟨rfl, a' / 2, b' / 2, fo', wo', o5', rfl, e⟩, ?_⟩
      show (((a' / 2 : Nat) : Int)).toNat + (((b' / 2 : Nat) : Int)).toNat < ((a' : Int)).toNat + ((b' : Int)).toNat
      omega) D rfl
    have exit : a' = 0 → b' = 0 → Q (.int (fo : Int)) (upd H p (.tup [.int 0, .int 1])) := fun ha hb => by
      rw [ha, hb, bits_zero, Nat.mul_zero, Nat.add_zero] at inv
      rw [inv]
      exact q _ sp
    by_cases ha : 0 < a'
    · rw [decide_eq_true (show (0 : Int) < (a' : Int) by omega)]
      refine iteT (iteT ?_)
      exact all (.inl ha) _ fun _ _ => rfl
    · rw [decide_eq_false (show ¬ (0 : Int) < (a' : Int) by omega)]
      refine iteF ⟨_, rfl, _, _, rfl, rfl, _, rfl, ?_⟩
      dsimp only
      by_cases hb : 0 < b'
      · rw [decide_eq_true (show (0 : Int) < (b' : Int) by omega)]
        refine iteT ?_
        exact all (.inr hb) _ fun _ _ => rfl
      · rw [decide_eq_false (show ¬ (0 : Int) < (b' : Int) by omega)]
        refine iteF ⟨_, rfl, exit (by omega) (by omega)⟩
  · intro σ H' Q1 Q2 hq h
    obtain ⟨v, h1, i, j, h2, h3, c, h4, h⟩ := h
    refine ⟨v, h1, i, j, h2, h3, c, h4, ?_⟩
    cases c with
    | true => exact iteT (hq _ _ (by rw [if_pos rfl] at h; exact h))
    | false =>
      rw [if_neg Bool.false_ne_true] at h
      obtain ⟨v, h1, i, j, h2, h3, c, h4, h⟩ := h
      exact iteF ⟨v, h1, i, j, h2, h3, c, h4, hq _ _ h⟩
/-! ### _law_number, _law_numbers -/
def faultD (x : Str) : D := .tup [.str "fault", .str x]
def valueD (d : D) : D := .tup [.str "value", d]
def numD (n : Int) : D := .tup [.str "number", .int n]
def numberD (n : Int) : D := if n.natAbs ≤ 10 ^ 30 then valueD (numD n) else faultD "GreatFault"
/-- a tuple of two that is made -/
def tells (K : PySem.W.Frag) (H : Hp) (Q : VK) (d : D) : Prop := ∀ x H', Same H H' → At K H' d x → Q x H'
theorem tells.tup2 {H H1 : Hp} {Q : VK} {a b : D} {x y : V} (q : tells K H Q (.tup [a, b])) (hs : Same H H1) (hx : At K H1 a x) (hy : At K H1 b y) : ([x, y] : List V).length ≤ sizeLine ∧ ∀ p, H1 p = none → Q (.ref p) (upd H1 p (.tup [x, y])) :=
  ⟨by show 2 ≤ sizeLine; decide, fun p hp => q _ _ (hs.trans (same_new hp _)) (At.new hp (AtAll2 hx hy))⟩
theorem tells.fault {H H1 : Hp} {Q : VK} {a b : Str} (q : tells K H Q (.tup [.str a, .str b])) (hs : Same H H1) : ([.str a, .str b] : List V).length ≤ sizeLine ∧ ∀ p, H1 p = none → Q (.ref p) (upd H1 p (.tup [.str a, .str b])) :=
  q.tup2 hs (At_str.mpr rfl) (At_str.mpr rfl)
/-- a value in its tuple -/
theorem tells.value {H H1 : Hp} {Q : VK} {c : Str} {b : D} {y : V} (q : tells K H Q (valueD (.tup [.str c, b]))) (hs : Same H H1) (hy : At K H1 b y) :
    ([.str c, y] : List V).length ≤ sizeLine ∧ ∀ p, H1 p = none → ([.str "value", .ref p] : List V).length ≤ sizeLine ∧ ∀ p', upd H1 p (.tup [.str c, y]) p' = none → Q (.ref p') (upd (upd H1 p (.tup [.str c, y])) p' (.tup [.str "value", .ref p])) :=
  ⟨by show 2 ≤ sizeLine; decide, fun p hp => q.tup2 (hs.trans (same_new hp _)) (At_str.mpr rfl) (At.new hp (AtAll2 (At_str.mpr rfl) hy))⟩
def spNumber (K : PySem.W.Frag) : Sp := fun vs H Q _ => ∃ n : Int, vs = [.int n] ∧ tells K H Q (numberD n)
theorem scNumber : FnScope ["_law_n"] ["_law_n"] (defScope sNumber) := ⟨rfl, rfl, rfl, by decide +kernel, rfl, by decide +kernel, by decide +kernel⟩
theorem ok_Number (g : Glb mg) (F : Fun K "_law_number" "_law_number" sNumber f fd) : FnOk P w K mg base CX0 1 f fd ["_law_n"] (spNumber K) := by
  refine F.okI scNumber (fun vs H Q E h => ?_) (fun cdv A outer s H vs Q E hr h => ?_)
  · obtain ⟨n, rfl, _⟩ := h; rfl
  obtain ⟨n, rfl, q⟩ := h
  refine ⟨_, pss_one (ps_ret (pe_ifExp (pt_cmpR op_le (pe_callB call_abs rfl g.nAbs bAbs (pa_cons (pv 0) pa_nil)) (pe_op op_pow pe_int pe_int) (nomark _)) (pe_tup (pa_cons pe_str (pa_cons (pe_tup (pa_cons pe_str (pa_cons (pv 0) pa_nil))) pa_nil))) (pe_tup (pa_cons pe_str (pa_cons pe_str pa_nil))))), ?_⟩
  refine ⟨_, rfl, _, rfl, ?_⟩
  rw [absI]
  refine ⟨_, _, rfl, rfl, ⟨by decide, by decide, by decide⟩, _, _, rfl, rfl, _, rfl, ?_⟩
  dsimp only
  have e10 : ((10 : Int) ^ (30 : Int).toNat) = ((10 ^ 30 : Nat) : Int) := by decide +kernel
  rw [e10]
  unfold numberD at q
  by_cases h : n.natAbs ≤ 10 ^ 30
  · rw [if_pos h] at q
    rw [decide_eq_true (show (n.natAbs : Int) ≤ ((10 ^ 30 : Nat) : Int) from Int.ofNat_le.mpr h)]
    refine iteT ⟨_, rfl, ?_⟩
    exact q.value (Same.refl H) (At_int.mpr rfl)
  · rw [if_neg h] at q
    rw [decide_eq_false (show ¬ (n.natAbs : Int) ≤ ((10 ^ 30 : Nat) : Int) from fun z => h (Int.ofNat_le.mp z))]
    exact iteF (q.fault (Same.refl H))
def numbersD (z : Str) (a b : Int) : D :=
  if z = "+" then numberD (a + b) else if z = "-" then numberD (a - b) else if z = "*" then numberD (a * b)
  else if z = "//" then (if b = 0 then faultD "NoughtFault" else numberD (a.fdiv b))
  else if a < 0 ∨ b < 0 then faultD "KindFault" else numberD (bitsOp (decide (z = "|")) a.toNat b.toNat : Nat)
def spNumbers (K : PySem.W.Frag) : Sp := fun vs H Q _ => ∃ (z : Str) (a b : Int), vs = [.str z, .int a, .int b] ∧ a.natAbs ≤ 10 ^ 30 ∧ b.natAbs ≤ 10 ^ 30 ∧ tells K H Q (numbersD z a b)
theorem scNumbers : FnScope ["_law_sign", "_law_one", "_law_other"] ["_law_sign", "_law_one", "_law_other"] (defScope sNumbers) := ⟨rfl, rfl, rfl, by decide +kernel, rfl, by decide +kernel, by decide +kernel⟩
theorem decS (x y : Str) : decide (V.str x = V.str y) = decide (x = y) := decide_eq_decide.mpr ⟨V.str.inj, fun e => by rw [e]⟩
theorem tells.after {H H' : Hp} {Q : VK} {d : D} (q : tells K H Q d) (hs : Same H H') : tells K H' Q d := fun x H2 h a => q x H2 (hs.trans h) a
theorem ok_Numbers (g : Glb mg) (F : Fun K "_law_numbers" "_law_numbers" sNumbers f fd) (dN : Def P w K mg base "_law_number" ["_law_n"] 1 (spNumber K)) (dD : Def P w K mg base "_law_divided" ["_law_one", "_law_other"] 1 spDivided) (dB : Def P w K mg base "_law_bits" ["_law_sign", "_law_one", "_law_other"] 1 spBits) :
    FnOk P w K mg base CX0 2 f fd ["_law_sign", "_law_one", "_law_other"] (spNumbers K) := by
  refine F.okI scNumbers (fun vs H Q E h => ?_) (fun cdv A outer s H vs Q E hr h => ?_)
  · obtain ⟨z, a, b, rfl, _⟩ := h; rfl
  obtain ⟨z, a, b, rfl, ha, hb, q⟩ := h
  refine ⟨_, pss_cons (ps_if (LW.pt (pw_or (pt_cmpR op_eq (pv 0) pe_str (nomark _)) (pw_or1 (pt_cmpR op_eq (pv 0) pe_str (nomark _))))) (pss_one (ps_ret (L3.pe_def dN hr (by decide) rfl (pa_cons (pe_ifExp (pt_cmpR op_eq (pv 0) pe_str (nomark _)) (pe_op op_add (pv 1) (pv 2)) (pe_op op_sub (pv 1) (pv 2))) pa_nil)))) pss_nil)
    (pss_cons (ps_if (pt_cmpR op_eq (pv 0) pe_str (nomark _)) (pss_one (ps_ret (L3.pe_def dN hr (by decide) rfl (pa_cons (pe_op op_mulB (pv 1) (pv 2)) pa_nil)))) pss_nil)
    (pss_cons (ps_if (pt_cmpR op_eq (pv 0) pe_str (nomark _)) (pss_one (ps_ret (pe_ifExp (pt_cmpR op_eq (pv 2) pe_int (nomark _)) (pe_tup (pa_cons pe_str (pa_cons pe_str pa_nil))) (L3.pe_def dN hr (by decide) rfl (pa_cons (L3.pe_def dD hr (by decide) rfl (pa_cons (pv 1) (pa_cons (pv 2) pa_nil))) pa_nil))))) pss_nil)
    (pss_cons (ps_if (LW.pt (pw_or (pt_cmpR op_lt (pv 1) pe_int (nomark _)) (pw_or1 (pt_cmpR op_lt (pv 2) pe_int (nomark _))))) (pss_one (ps_ret (pe_tup (pa_cons pe_str (pa_cons pe_str pa_nil))))) pss_nil)
    (pss_one (ps_ret (L3.pe_def dN hr (by decide) rfl (pa_cons (L3.pe_def dB hr (by decide) rfl (pa_cons (pv 0) (pa_cons (pv 1) (pa_cons (pv 2) pa_nil)))) pa_nil))))))), ?_⟩
  have lim : ∀ x : Int, x.natAbs ≤ 10 ^ 30 → x.natAbs < 2 ^ 150 := fun x h => Nat.lt_of_le_of_lt h (by decide +kernel)
  have lim2 : ∀ x : Int, x.natAbs ≤ 10 ^ 30 → x.natAbs < 2 ^ 250 := fun x h => Nat.lt_of_le_of_lt h (by decide +kernel)
  unfold numbersD at q
  refine ⟨_, rfl, rfl, _, rfl, ?_⟩
  rw [decS]
  by_cases h1 : z = "+"
  · rw [if_pos h1] at q
    rw [decide_eq_true h1]
    refine iteT (iteT ⟨_, rfl, rfl, _, rfl, ?_⟩)
    rw [decS, decide_eq_true h1]
    exact iteT ⟨_, rfl, _, rfl, _, _, rfl, rfl, _, rfl, q⟩
  rw [if_neg h1] at q
  rw [decide_eq_false h1]
  refine iteF ⟨_, rfl, rfl, _, rfl, ?_⟩
  rw [decS]
  by_cases h2 : z = "-"
  · rw [if_pos h2] at q
    rw [decide_eq_true h2]
    refine iteT ⟨_, rfl, rfl, _, rfl, ?_⟩
    rw [decS, decide_eq_false h1]
    exact iteF ⟨_, rfl, _, rfl, _, _, rfl, rfl, _, rfl, q⟩
  rw [if_neg h2] at q
  rw [decide_eq_false h2]
  refine iteF ⟨_, rfl, rfl, _, rfl, ?_⟩
  rw [decS]
  by_cases h3 : z = "*"
  · rw [if_pos h3] at q
    rw [decide_eq_true h3]
    exact iteT ⟨_, rfl, _, rfl, _, _, rfl, rfl, ⟨lim2 a ha, lim2 b hb⟩, _, rfl, q⟩
  rw [if_neg h3] at q
  rw [decide_eq_false h3]
  refine iteF ⟨_, rfl, rfl, _, rfl, ?_⟩
  rw [decS]
  by_cases h4 : z = "//"
  · rw [if_pos h4] at q
    rw [decide_eq_true h4]
    refine iteT ⟨_, rfl, rfl, _, rfl, ?_⟩
    rw [dec_int]
    by_cases h5 : b = 0
    · rw [if_pos h5] at q
      rw [show (b == 0) = true from beq_iff_eq.mpr h5]
      exact iteT (q.fault (Same.refl H))
    · rw [if_neg h5] at q
      rw [show (b == 0) = false from beq_eq_false_iff_ne.mpr h5]
      exact iteF ⟨_, rfl, _, rfl, a, b, rfl, h5, lim a ha, lim b hb, _, rfl, q⟩
  rw [if_neg h4] at q
  rw [decide_eq_false h4]
  refine iteF ⟨_, rfl, _, _, rfl, rfl, _, rfl, ?_⟩
  dsimp only
  by_cases h6 : a < 0
  · rw [if_pos (.inl h6)] at q
    rw [decide_eq_true h6]
    exact iteT (iteT (q.fault (Same.refl H)))
  rw [decide_eq_false h6]
  refine iteF ⟨_, rfl, _, _, rfl, rfl, _, rfl, ?_⟩
  dsimp only
  by_cases h7 : b < 0
  · rw [if_pos (.inr h7)] at q
    rw [decide_eq_true h7]
    exact iteT (q.fault (Same.refl H))
  rw [decide_eq_false h7]
  rw [if_neg (fun z => z.elim h6 h7)] at q
  have ea : a = ((a.toNat : Nat) : Int) := by omega
  have eb : b = ((b.toNat : Nat) : Int) := by omega
  refine iteF ⟨_, rfl, _, rfl, _, rfl, z, a.toNat, b.toNat, by rw [← ea, ← eb]; rfl, fun H' hs => ⟨_, rfl, q.after hs⟩⟩
end
end GS
set_option Elab.async false
set_option linter.all false
set_option maxRecDepth 100000
set_option maxHeartbeats 4000000
namespace GS
open PySem PyProof.Rows
open L2 hiding pe_int pe_bl pe_non pe_str pv pe_glob pe_bltn pe_op pe_un pe_cmpR pe_one pe_and pe_or pe_ifExp pe_ix po_none po_some pe_slice pa_nil pa_cons pe_lst pe_tup pe_dnewK pe_callB pe_callTy pe_bm pe_bm0 pt_cmpR pt_val pt_not pw_and1 pw_or1 pw_and pw_or pg_name pgs_nil pgs_cons pg_tup pi_list pi_tup pi_str pi_range1 pi_range2 pe_comp ps_pass ps_break ps_continue ps_ret ps_retN ps_expr ps_set ps_asg ps_if ps_while ps_for pss_nil pss_cons pss_one
open L3
section
variable {P : Program} {w : World} {K : PySem.W.Frag} {mg : Str → Option Value} {base : Heap} {f : Addr} {fd : FuncData}
theorem le_imp {X : Cx} {e : Expr} {t t' : TE} (h : LE X e t) (hi : ∀ σ H Q, t' σ H Q → t σ H Q) : LE X e t' := .mk fun pins s σ H Q I q => h.out pins s σ H Q I (hi σ H Q q)
theorem lt_imp {X : Cx} {e : Expr} {t t' : TT} (h : LT X e t) (hi : ∀ σ H Q, t' σ H Q → t σ H Q) : LT X e t' := .mk fun pins s σ H Q I q => h.out pins s σ H Q I (hi σ H Q q)
/-! ### values' parts -/
def Vl.part : Vl → Option V
  | .num i => some (.int i) | .txt z => some (.str z) | .tr b => some (.bl b) | .non => none | .thing k => some (.int k)
theorem Vl.kind_at {H : Hp} {v : Vl} {x : V} (h : At K H v.d x) : ∃ p vs, x = .ref p ∧ SqT K H p vs ∧ atI vs 0 = some (.str v.kind) := by
  obtain ⟨ds, hds, h0⟩ : ∃ ds, v.d = .tup ds ∧ ds[0]? = some (.str v.kind) := by cases v <;> exact ⟨_, rfl, rfl⟩
  rw [hds] at h
  obtain ⟨p, vs, w, h1, h2, h3, h4⟩ := At.ix (i := 0) h h0
  rw [At_str.mp h4] at h3
  exact ⟨p, vs, h1, h2, h3⟩
theorem Vl.part_at {H : Hp} {v : Vl} {x y : V} (h : At K H v.d x) (hp : v.part = some y) : ∃ p vs, x = .ref p ∧ SqT K H p vs ∧ atI vs 1 = some y := by
  cases v with
  | non => cases hp
  | num i =>
    obtain ⟨p, vs, w, h1, h2, h3, h4⟩ := At.ix (i := 1) h rfl
    cases hp; rw [At_int.mp h4] at h3; exact ⟨p, vs, h1, h2, h3⟩
  | txt z =>
    obtain ⟨p, vs, w, h1, h2, h3, h4⟩ := At.ix (i := 1) h rfl
    cases hp; rw [At_str.mp h4] at h3; exact ⟨p, vs, h1, h2, h3⟩
  | tr b =>
    obtain ⟨p, vs, w, h1, h2, h3, h4⟩ := At.ix (i := 1) h rfl
    cases hp; rw [At_bl.mp h4] at h3; exact ⟨p, vs, h1, h2, h3⟩
  | thing k =>
    obtain ⟨p, vs, w, h1, h2, h3, h4⟩ := At.ix (i := 1) h rfl
    cases hp; rw [At_int.mp h4] at h3; exact ⟨p, vs, h1, h2, h3⟩
/-- a[0], a[1] -/
def tKind (K : PySem.W.Frag) (i : Nat) : TE := fun σ H Q => ∃ x, σ[i]? = some (some x) ∧ ∃ v : Vl, At K H v.d x ∧ Q (.str v.kind) H
theorem pe_kind {X : Cx} {e : Expr} {i : Nat} {j : Nat} {p pos : Pos} (he : LE X e (tVar i)) : LE X (.Subscript e (.Constant (.int 0) j p) pos) (tKind X.K i) := by
  refine le_imp (pe_ix ix_tup he pe_int (fun _ _ => rfl)) fun σ H Q h => ?_
  obtain ⟨x, hx, v, hv, q⟩ := h
  obtain ⟨p, vs, h1, h2, h3⟩ := Vl.kind_at hv
  exact ⟨x, hx, p, vs, 0, _, h1, rfl, h2, h3, q⟩
def tPartV (K : PySem.W.Frag) (i : Nat) : TE := fun σ H Q => ∃ x, σ[i]? = some (some x) ∧ ∃ (v : Vl) (y : V), At K H v.d x ∧ v.part = some y ∧ Q y H
theorem pe_part {X : Cx} {e : Expr} {i : Nat} {j : Nat} {p pos : Pos} (he : LE X e (tVar i)) : LE X (.Subscript e (.Constant (.int 1) j p) pos) (tPartV X.K i) := by
  refine le_imp (pe_ix ix_tup he pe_int (fun _ _ => rfl)) fun σ H Q h => ?_
  obtain ⟨x, hx, v, y, hv, hp, q⟩ := h
  obtain ⟨p, vs, h1, h2, h3⟩ := Vl.part_at hv hp
  exact ⟨x, hx, p, vs, 1, _, h1, rfl, h2, h3, q⟩
theorem Vl.dep_le (v : Vl) : dep v.d ≤ 60 := by cases v <;> simp [Vl.d, dep, deps]
theorem Vl.eq_d {v u : Vl} (hk : v.kind = u.kind) : eqD v.d u.d = decide (v = u) := by
  rw [Bool.eq_iff_iff, decide_eq_true_eq]
  cases v <;> cases u <;> first
    | (exfalso; revert hk; simp only [Vl.kind]; decide +kernel)
    | (simp only [Vl.d, eqD, eqDs, Bool.and_eq_true, beq_iff_eq, Vl.num.injEq, Vl.txt.injEq, Vl.tr.injEq, Vl.thing.injEq]; simp)
theorem Vl.kind_ne {v u : Vl} (hk : ¬ v.kind = u.kind) : decide (v = u) = false := decide_eq_false fun e => hk (by rw [e])
/-- a[0] == b[0] and a == b -/
def tAlike (K : PySem.W.Frag) (i l : Nat) : TE := fun σ H Q => ∃ x, σ[i]? = some (some x) ∧ ∃ y, σ[l]? = some (some y) ∧ ∃ v u : Vl, At K H v.d x ∧ At K H u.d y ∧ Q (.bl (decide (v = u))) H
theorem pe_alike {X : Cx} {k : Nat} (hr : Room k X.A) {a b a' b' : Expr} {i l j1 j2 : Nat} {p1 p2 p3 p4 p5 p6 pos : Pos} (ha : LE X a (tVar i)) (hb : LE X b (tVar l)) (ha' : LE X a' (tVar i)) (hb' : LE X b' (tVar l)) :
    LE X (.BoolOp .And [.Compare (.Subscript a (.Constant (.int 0) j1 p1) p2) [.Eq] [.Subscript b (.Constant (.int 0) j2 p3) p4] p5, .Compare a' [.Eq] [b'] p6] pos) (tAlike X.K i l) := by
  refine le_imp (pe_and (pe_cmpR op_eq (pe_kind ha) (pe_kind hb) (nomark _)) (pe_one (pe_cmpR (op_eqD hr) ha' hb' (nomark _)))) fun σ H Q h => ?_
  obtain ⟨x, hx, y, hy, v, u, hv, hu, q⟩ := h
  refine ⟨x, hx, v, hv, y, hy, u, hu, rfl, _, rfl, ?_⟩
  rw [decS]
  by_cases hk : v.kind = u.kind
  · rw [decide_eq_true hk]
    refine iteT ⟨x, hx, y, hy, v.d, u.d, hv, hu, v.dep_le, ?_⟩
    rw [Vl.eq_d hk]; exact q
  · rw [decide_eq_false hk]
    rw [Vl.kind_ne hk] at q
    exact iteF q
/-! ### truths -/
def tBB (g : Bool → Bool → Bool) (i l : Nat) : TE := fun σ H Q => ∃ a, σ[i]? = some (some (.bl a)) ∧ ∃ b, σ[l]? = some (some (.bl b)) ∧ Q (.bl (g a b)) H
theorem pe_orB {X : Cx} {e e' : Expr} {i l : Nat} {pos : Pos} (h : LE X e (tVar i)) (h' : LE X e' (tVar l)) : LE X (.BoolOp .Or [e, e'] pos) (tBB (fun a b => a || b) i l) := by
  refine le_imp (pe_or h (pe_one h')) fun σ H Q z => ?_
  obtain ⟨a, ha, b, hb, q⟩ := z
  refine ⟨_, ha, a, rfl, ?_⟩
  cases a with
  | true => exact iteT q
  | false => exact iteF ⟨_, hb, q⟩
theorem pe_nnB {X : Cx} {e e' : Expr} {i l : Nat} {p1 p2 pos : Pos} (h : LE X e (tVar i)) (h' : LE X e' (tVar l)) : LE X (.BoolOp .And [.UnaryOp .Not e p1, .UnaryOp .Not e' p2] pos) (tBB (fun a b => !a && !b) i l) := by
  refine le_imp (pe_and (.mk (L2.pe_not h.out)) (pe_one (.mk (L2.pe_not h'.out)))) fun σ H Q z => ?_
  obtain ⟨a, ha, b, hb, q⟩ := z
  refine ⟨_, ha, a, rfl, _, rfl, ?_⟩
  cases a with
  | true => exact iteF q
  | false => exact iteT ⟨_, hb, b, rfl, q⟩
end
end GS
set_option Elab.async false
set_option linter.all false
set_option maxRecDepth 100000
set_option maxHeartbeats 4000000
namespace GS
open PySem PyProof.Rows
open L2 hiding pe_int pe_bl pe_non pe_str pv pe_glob pe_bltn pe_op pe_un pe_cmpR pe_one pe_and pe_or pe_ifExp pe_ix po_none po_some pe_slice pa_nil pa_cons pe_lst pe_tup pe_dnewK pe_callB pe_callTy pe_bm pe_bm0 pt_cmpR pt_val pt_not pw_and1 pw_or1 pw_and pw_or pg_name pgs_nil pgs_cons pg_tup pi_list pi_tup pi_str pi_range1 pi_range2 pe_comp ps_pass ps_break ps_continue ps_ret ps_retN ps_expr ps_set ps_asg ps_if ps_while ps_for pss_nil pss_cons pss_one
open L3
section
variable {P : Program} {w : World} {K : PySem.W.Frag} {mg : Str → Option Value} {base : Heap} {f : Addr} {fd : FuncData}
def truthD (b : Bool) : D := .tup [.str "truth", .bl b]
def ltB : Vl → Vl → Bool
  | .num x, .num y => decide (x < y)
  | .txt x, .txt y => decide (x.cps.toList < y.cps.toList)
  | _, _ => false
def isCmp (z : Str) : Prop := z = "<" ∨ z = "<=" ∨ z = ">" ∨ z = ">="
instance (z : Str) : Decidable (isCmp z) := by unfold isCmp; infer_instance
def cmpB (z : Str) (less alike : Bool) : Bool := if z = "<" then less else if z = "<=" then less || alike else if z = ">" then !less && !alike else !less
/-- what the law's own tells -/
def dueD (z : Str) (a b : Vl) : D :=
  if z = "==" ∨ z = "!=" then valueD (truthD (decide (a = b) == decide (z = "==")))
  else match a, b with
    | .tr x, .tr y => if z = "&" ∨ z = "|" then valueD (truthD (if z = "|" then x || y else x && y)) else faultD "KindFault"
    | .num x, .num y => if isCmp z then valueD (truthD (cmpB z (ltB a b) (decide (a = b)))) else numbersD z x y
    | .txt x, .txt y => if isCmp z then valueD (truthD (cmpB z (ltB a b) (decide (a = b)))) else if z = "+" then (if (x ++ y).length < 201 then valueD (.tup [.str "text", .str (x ++ y)]) else faultD "GreatFault") else faultD "KindFault"
    | _, _ => faultD "KindFault"
theorem inV_strL (z : Str) (l : List Str) : inV (.str z) (l.map V.str) = decide (z ∈ l) := by
  unfold inV
  rw [List.any_map, Bool.eq_iff_iff, List.any_eq_true, decide_eq_true_eq]
  constructor
  · rintro ⟨y, hy, e⟩
    have : y = z := by simpa [eqV] using e
    rw [← this]; exact hy
  · exact fun h => ⟨z, h, by simp [eqV]⟩
theorem flat_strL (l : List Str) : (l.map V.str).all flatV = true := by
  rw [List.all_map, List.all_eq_true]
  exact fun _ _ => rfl
def spDue (K : PySem.W.Frag) : Sp := fun vs H Q _ => ∃ (z : Str) (x y : V) (a b : Vl), vs = [.str z, x, y] ∧ At K H a.d x ∧ At K H b.d y ∧ a.ok ∧ b.ok ∧ tells K H Q (dueD z a b)
theorem scDue : FnScope ["_law_sign", "_law_a", "_law_b", "_law_alike", "_law_kinds", "_law_both", "_law_less", "_law_told"] ["_law_sign", "_law_a", "_law_b"] (defScope sDue) := ⟨rfl, rfl, rfl, by decide +kernel, rfl, by decide +kernel, by decide +kernel⟩
def cmpKvs (less alike : Bool) : List (Key × V) := [(.inr "<", .bl less), (.inr "<=", .bl (less || alike)), (.inr ">", .bl (!less && !alike)), (.inr ">=", .bl (!less))]
theorem cmp_val {z : Str} (h : isCmp z) (less alike : Bool) : valV (mergeK [] (cmpKvs less alike)) (.inr z) = some (.bl (cmpB z less alike)) := by
  rcases h with rfl | rfl | rfl | rfl <;> rfl
theorem classify (a b : Vl) : (∃ x y, a = .tr x ∧ b = .tr y) ∨ (∃ x y, a = .num x ∧ b = .num y) ∨ (∃ x y, a = .txt x ∧ b = .txt y) ∨
    (eqD (.tup [.str a.kind, .str b.kind]) (.tup [.str "truth", .str "truth"]) = false ∧ ([D.tup [.str "number", .str "number"], D.tup [.str "text", .str "text"]].any fun e => eqD e (.tup [.str a.kind, .str b.kind])) = false ∧ ∀ z : Str, ¬ (z = "==" ∨ z = "!=") → dueD z a b = faultD "KindFault") := by
  cases a <;> cases b <;> first
    | exact .inl ⟨_, _, rfl, rfl⟩
    | exact .inr (.inl ⟨_, _, rfl, rfl⟩)
    | exact .inr (.inr (.inl ⟨_, _, rfl, rfl⟩))
    | (refine .inr (.inr (.inr ⟨?_, ?_, fun z hz => ?_⟩))
       · simp only [Vl.kind, eqD, eqDs]; decide +kernel
       · simp only [Vl.kind, List.any_cons, List.any_nil, eqD, eqDs]; decide +kernel
       · unfold dueD; rw [if_neg hz])
theorem ok_Due (g : Glb mg) (F : Fun K "_law_due" "_law_due" sDue f fd) (dN : Def P w K mg base "_law_numbers" ["_law_sign", "_law_one", "_law_other"] 2 (spNumbers K)) : FnOk P w K mg base CX0 3 f fd ["_law_sign", "_law_a", "_law_b"] (spDue K) := by
  refine F.okI scDue (fun vs H Q E h => ?_) (fun cdv A outer s H vs Q E hr h => ?_)
  · obtain ⟨z, x, y, a, b, rfl, _⟩ := h; rfl
  obtain ⟨z, x, y, a, b, rfl, ha, hb, oka, okb, q⟩ := h
  refine ⟨_, pss_cons (ps_set (i := 3) scDue.nd rfl (Or.inl rfl) (pe_alike hr (pv 1) (pv 2) (pv 1) (pv 2)))
    (pss_cons (ps_if (LW.pt (pw_or (pt_cmpR op_eq (pv 0) pe_str (nomark _)) (pw_or1 (pt_cmpR op_eq (pv 0) pe_str (nomark _))))) (pss_one (ps_ret (pe_tup (pa_cons pe_str (pa_cons (pe_tup (pa_cons pe_str (pa_cons (pe_cmpR op_eq (pv 3) (pe_cmpR op_eq (pv 0) pe_str (nomark _)) (nomark _)) pa_nil))) pa_nil))))) pss_nil)
    (pss_cons (ps_set (i := 4) scDue.nd rfl (Or.inl rfl) (pe_tup (pa_cons (pe_kind (pv 1)) (pa_cons (pe_kind (pv 2)) pa_nil))))
    (pss_cons (ps_if (LW.pt (pw_and (pt_cmpR (op_eqD hr) (pv 4) (pe_tup (pa_cons pe_str (pa_cons pe_str pa_nil))) (nomark _)) (pw_and1 (pt_cmpR op_in_seq (pv 0) (pe_tup (pa_cons pe_str (pa_cons pe_str pa_nil))) rfl))))
      (pss_cons (ps_set (i := 5) scDue.nd rfl (Or.inl rfl) (pe_op op_add (pe_callTy call_int1 rfl g.nInt bInt (pa_cons (pe_part (pv 1)) pa_nil)) (pe_callTy call_int1 rfl g.nInt bInt (pa_cons (pe_part (pv 2)) pa_nil))))
      (pss_one (ps_ret (pe_tup (pa_cons pe_str (pa_cons (pe_tup (pa_cons pe_str (pa_cons (pe_or (pe_cmpR op_eq (pv 5) pe_int (nomark _)) (pe_one (pe_and (pe_cmpR op_eq (pv 5) pe_int (nomark _)) (pe_one (pe_cmpR op_eq (pv 0) pe_str (nomark _)))))) pa_nil))) pa_nil)))))) pss_nil)
    (pss_cons (ps_if (pt_cmpR (op_notInD hr) (pv 4) (pe_tup (pa_cons (pe_tup (pa_cons pe_str (pa_cons pe_str pa_nil))) (pa_cons (pe_tup (pa_cons pe_str (pa_cons pe_str pa_nil))) pa_nil))) rfl) (pss_one (ps_ret (pe_tup (pa_cons pe_str (pa_cons pe_str pa_nil))))) pss_nil)
    (pss_cons (ps_if (pt_cmpR op_in_seq (pv 0) (pe_tup (pa_cons pe_str (pa_cons pe_str (pa_cons pe_str (pa_cons pe_str pa_nil))))) rfl)
      (pss_cons (ps_set (i := 6) scDue.nd rfl (Or.inl rfl) (pe_cmpR (op_lt.or op_lt_str) (pe_part (pv 1)) (pe_part (pv 2)) (nomark _)))
      (pss_cons (ps_set (i := 7) scDue.nd rfl (Or.inl rfl) (.mk (L2.pe_disp (L2.pps_cons (LE.out pe_str) (LE.out (pv 6)) (L2.pps_cons (LE.out pe_str) (LE.out (pe_orB (pv 6) (pv 3))) (L2.pps_cons (LE.out pe_str) (LE.out (pe_nnB (pv 6) (pv 3))) (L2.pps_cons (LE.out pe_str) (L2.pe_not (LE.out (pv 6))) L2.pps_nil)))) rfl rfl (by decide) (by decide))))
      (pss_one (ps_ret (pe_tup (pa_cons pe_str (pa_cons (pe_tup (pa_cons pe_str (pa_cons (.mk (L2.pe_dget (hu_of hr) (LE.out (pv 7)) (LE.out (pv 0)) (fun _ _ => rfl))) pa_nil))) pa_nil))))))) pss_nil)
    (pss_cons (ps_if (pt_cmpR (op_eqD hr) (pv 4) (pe_tup (pa_cons pe_str (pa_cons pe_str pa_nil))) (nomark _)) (pss_one (ps_ret (L3.pe_def dN hr (by decide) rfl (pa_cons (pv 0) (pa_cons (pe_part (pv 1)) (pa_cons (pe_part (pv 2)) pa_nil)))))) pss_nil)
    (pss_cons (ps_if (pt_cmpR op_ne (pv 0) pe_str (nomark _)) (pss_one (ps_ret (pe_tup (pa_cons pe_str (pa_cons pe_str pa_nil))))) pss_nil)
    (pss_one (ps_ret (pe_ifExp (pt_cmpR op_lt (pe_callB call_len_str rfl g.nLen bLen (pa_cons (pe_op op_add_str (pe_part (pv 1)) (pe_part (pv 2))) pa_nil)) pe_int (nomark _)) (pe_tup (pa_cons pe_str (pa_cons (pe_tup (pa_cons pe_str (pa_cons (pe_op op_add_str (pe_part (pv 1)) (pe_part (pv 2))) pa_nil))) pa_nil))) (pe_tup (pa_cons pe_str (pa_cons pe_str pa_nil))))))))))))), ?_⟩
  refine ⟨x, rfl, y, rfl, a, b, ha, hb, ?_⟩
  refine ⟨_, rfl, rfl, _, rfl, ?_⟩
  rw [decS]
  by_cases h1 : z = "=="
  · unfold dueD at q
    rw [if_pos (.inl h1)] at q
    rw [decide_eq_true h1]
    refine iteT (iteT ⟨_, rfl, _, rfl, rfl, rfl, ?_⟩)
    rw [decS, dec_bl]
    exact q.value (Same.refl H) (At_bl.mpr rfl)
  rw [decide_eq_false h1]
  refine iteF ⟨_, rfl, rfl, _, rfl, ?_⟩
  rw [decS]
  by_cases h2 : z = "!="
  · unfold dueD at q
    rw [if_pos (.inr h2)] at q
    rw [decide_eq_true h2]
    refine iteT ⟨_, rfl, _, rfl, rfl, rfl, ?_⟩
    rw [decS, dec_bl]
    exact q.value (Same.refl H) (At_bl.mpr rfl)
  rw [decide_eq_false h2]
  have hz : ¬ (z = "==" ∨ z = "!=") := fun e => e.elim h1 h2
  refine iteF ⟨x, rfl, a, ha, y, rfl, b, hb, by show 2 ≤ sizeLine; decide, fun p hp => ?_⟩
  have s1 : Same H (upd H p (.tup [.str a.kind, .str b.kind])) := same_new hp _
  have hk : At K (upd H p (.tup [.str a.kind, .str b.kind])) (.tup [.str a.kind, .str b.kind]) (.ref p) := At.new hp (AtAll2 (At_str.mpr rfl) (At_str.mpr rfl))
  revert s1 hk
  generalize upd H p (.tup [.str a.kind, .str b.kind]) = H1
  intro s1 hk
  refine ⟨_, rfl, by show 2 ≤ sizeLine; decide, fun p2 hp2 => ⟨.tup [.str a.kind, .str b.kind], .tup [.str "truth", .str "truth"], At.same (same_new hp2 _) _ _ hk, At.new hp2 (AtAll2 (At_str.mpr rfl) (At_str.mpr rfl)), by simp [dep, deps], _, rfl, ?_⟩⟩
  have s2 : Same H1 (upd H1 p2 (.tup [.str "truth", .str "truth"])) := same_new hp2 _
  revert s2
  generalize upd H1 p2 (.tup [.str "truth", .str "truth"]) = H2
  intro s2
  have s12 := s1.trans s2
  have kindFault : ∀ H3, Same H H3 → dueD z a b = faultD "KindFault" → ([.str "fault", .str "KindFault"] : List V).length ≤ sizeLine ∧ ∀ p, H3 p = none → Q (.ref p) (upd H3 p (.tup [.str "fault", .str "KindFault"])) := fun H3 hs e => by
    rw [e] at q
    exact q.fault hs
  have notIn : ∀ (H3 : Hp) (R : V → Hp → Prop), Same H1 H3 → (∀ H4, Same H3 H4 → R (.bl (!([D.tup [.str "number", .str "number"], D.tup [.str "text", .str "text"]].any fun e => eqD e (.tup [.str a.kind, .str b.kind])))) H4) → 
      tOp (rInD (cxOf CX0 P w K mg base ["_law_sign", "_law_a", "_law_b", "_law_alike", "_law_kinds", "_law_both", "_law_less", "_law_told"] "_law_due" (defScope sDue) f cdv A outer s H E).nox true) (tVar 4) (tTup (tCons (tTup (tCons (tC (.str "number")) (tCons (tC (.str "number")) tNil))) (tCons (tTup (tCons (tC (.str "text")) (tCons (tC (.str "text")) tNil))) tNil)))
        [some (.str z), some x, some y, some (.bl (decide (a = b))), some (.ref p), none, none, none] H3 R := fun H3 R hs hR => by
    refine ⟨_, rfl, by show 2 ≤ sizeLine; decide, fun p3 hp3 => ⟨by show 2 ≤ sizeLine; decide, fun p4 hp4 => ⟨by show 2 ≤ sizeLine; decide, fun p5 hp5 => ?_⟩⟩⟩
    have t3 : Same H3 (upd H3 p3 (.tup [.str "number", .str "number"])) := same_new hp3 _
    have t4 := same_new hp4 (.tup [.str "text", .str "text"])
    have t5 := same_new hp5 (.tup [.ref p3, .ref p4])
    refine ⟨.tup [.str a.kind, .str b.kind], [.tup [.str "number", .str "number"], .tup [.str "text", .str "text"]], At.same (((hs.trans t3).trans t4).trans t5) _ _ hk, ?_, ?_, ?_⟩
    · exact At.new hp5 (AtAll2 (At.same t4 _ _ (At.new hp3 (AtAll2 (At_str.mpr rfl) (At_str.mpr rfl)))) (At.new hp4 (AtAll2 (At_str.mpr rfl) (At_str.mpr rfl))))
    · intro e he
      simp only [List.mem_cons, List.not_mem_nil, or_false] at he
      rcases he with rfl | rfl <;> simp [dep, deps]
    · exact hR _ ((t3.trans t4).trans t5)
  rcases classify a b with ⟨u, v, rfl, rfl⟩ | ⟨u, v, rfl, rfl⟩ | ⟨u, v, rfl, rfl⟩ | ⟨e1, e2, e3⟩
  · rw [show eqD (.tup [.str (Vl.tr u).kind, .str (Vl.tr v).kind]) (.tup [.str "truth", .str "truth"]) = true from by simp only [Vl.kind, eqD, eqDs]; decide +kernel]
    refine iteT ⟨_, rfl, by show 2 ≤ sizeLine; decide, fun p3 hp3 => ⟨p3, _, rfl, .inr (SqT.of upd_same), rfl, rfl, _, rfl, ?_⟩⟩
    have s3 : Same H2 (upd H2 p3 (.tup [.str "&", .str "|"])) := same_new hp3 _
    revert s3
    generalize upd H2 p3 (.tup [.str "&", .str "|"]) = H3
    intro s3
    have s13 := s12.trans s3
    rw [show (if false = true then !inV (.str z) [.str "&", .str "|"] else inV (.str z) [.str "&", .str "|"]) = decide (z ∈ (["&", "|"] : List Str)) from inV_strL z ["&", "|"]]
    unfold dueD at q kindFault
    rw [if_neg hz] at q kindFault
    by_cases h3 : z = "&" ∨ z = "|"
    · rw [decide_eq_true (show z ∈ (["&", "|"] : List Str) by rcases h3 with h | h <;> rw [h] <;> simp)]
      dsimp only at q
      rw [if_pos h3] at q
      refine iteT ⟨_, rfl, .tr u, .bl u, At.same s13 _ _ ha, rfl, .inr ⟨u, rfl, _, rfl, .tr v, .bl v, At.same s13 _ _ hb, rfl, .inr ⟨v, rfl, _, _, rfl, rfl, ?_⟩⟩⟩
      dsimp only
      have fin : ∀ r : Bool, r = (if z = "|" then u || v else u && v) → ([.str "truth", .bl r] : List V).length ≤ sizeLine ∧ ∀ p, H3 p = none → ([.str "value", .ref p] : List V).length ≤ sizeLine ∧ ∀ p', upd H3 p (.tup [.str "truth", .bl r]) p' = none → Q (.ref p') (upd (upd H3 p (.tup [.str "truth", .bl r])) p' (.tup [.str "value", .ref p])) := fun r e => by
        rw [e]
        exact q.value s13 (At_bl.mpr rfl)
      refine ⟨_, rfl, rfl, _, rfl, ?_⟩
      have hb2 : z = "|" ∨ ¬ z = "|" := Classical.em _
      cases u <;> cases v
      · rw [show decide (V.int ((if false = true then (1 : Int) else 0) + (if false = true then 1 else 0)) = V.int 2) = false from rfl]
        refine iteF ⟨_, rfl, rfl, _, rfl, ?_⟩
        rw [show decide (V.int ((if false = true then (1 : Int) else 0) + (if false = true then 1 else 0)) = V.int 1) = false from rfl]
        exact iteF (fin false (by simp))
      · rw [show decide (V.int ((if false = true then (1 : Int) else 0) + (if true = true then 1 else 0)) = V.int 2) = false from rfl]
        refine iteF ⟨_, rfl, rfl, _, rfl, ?_⟩
        rw [show decide (V.int ((if false = true then (1 : Int) else 0) + (if true = true then 1 else 0)) = V.int 1) = true from rfl]
        refine iteT ⟨_, rfl, rfl, ?_⟩
        rw [decS]
        exact fin _ (by by_cases h : z = "|" <;> simp [h])
      · rw [show decide (V.int ((if true = true then (1 : Int) else 0) + (if false = true then 1 else 0)) = V.int 2) = false from rfl]
        refine iteF ⟨_, rfl, rfl, _, rfl, ?_⟩
        rw [show decide (V.int ((if true = true then (1 : Int) else 0) + (if false = true then 1 else 0)) = V.int 1) = true from rfl]
        refine iteT ⟨_, rfl, rfl, ?_⟩
        rw [decS]
        exact fin _ (by by_cases h : z = "|" <;> simp [h])
      · rw [show decide (V.int ((if true = true then (1 : Int) else 0) + (if true = true then 1 else 0)) = V.int 2) = true from rfl]
        exact iteT (fin true (by simp))
    · rw [decide_eq_false (show ¬ z ∈ (["&", "|"] : List Str) from fun m => h3 (by simpa using m))]
      refine iteF (notIn H3 _ (s2.trans s3) fun H4 t4 => ⟨_, rfl, ?_⟩)
      rw [show ([D.tup [.str "number", .str "number"], D.tup [.str "text", .str "text"]].any fun e => eqD e (.tup [.str (Vl.tr u).kind, .str (Vl.tr v).kind])) = false from by simp only [Vl.kind, List.any_cons, List.any_nil, eqD, eqDs]; decide +kernel]
      exact iteT (kindFault H4 (s13.trans t4) (by dsimp only; rw [if_neg h3]))
  · rw [show eqD (.tup [.str (Vl.num u).kind, .str (Vl.num v).kind]) (.tup [.str "truth", .str "truth"]) = false from by simp only [Vl.kind, eqD, eqDs]; decide +kernel]
    refine iteF (iteF (notIn H2 _ s2 fun H4 t4 => ⟨_, rfl, ?_⟩))
    rw [show ([D.tup [.str "number", .str "number"], D.tup [.str "text", .str "text"]].any fun e => eqD e (.tup [.str (Vl.num u).kind, .str (Vl.num v).kind])) = true from by simp only [Vl.kind, List.any_cons, List.any_nil, eqD, eqDs]; decide +kernel]
    refine iteF ⟨_, rfl, by show 4 ≤ sizeLine; decide, fun p3 hp3 => ⟨p3, _, rfl, .inr (SqT.of upd_same), rfl, rfl, _, rfl, ?_⟩⟩
    have s5 : Same H4 (upd H4 p3 (.tup [.str "<", .str "<=", .str ">", .str ">="])) := same_new hp3 _
    revert s5
    generalize upd H4 p3 (.tup [.str "<", .str "<=", .str ">", .str ">="]) = H5
    intro s5
    have s15 := (s12.trans t4).trans s5
    rw [show (if false = true then !inV (.str z) [.str "<", .str "<=", .str ">", .str ">="] else inV (.str z) [.str "<", .str "<=", .str ">", .str ">="]) = decide (z ∈ (["<", "<=", ">", ">="] : List Str)) from inV_strL z ["<", "<=", ">", ">="]]
    unfold dueD at q
    rw [if_neg hz] at q
    dsimp only at q
    by_cases h3 : isCmp z
    · rw [if_pos h3] at q
      rw [decide_eq_true (show z ∈ (["<", "<=", ">", ">="] : List Str) by rcases h3 with h | h | h | h <;> rw [h] <;> simp)]
      refine iteT ⟨_, rfl, .num u, .int u, At.same s15 _ _ ha, rfl, _, rfl, .num v, .int v, At.same s15 _ _ hb, rfl, .inl ⟨_, _, rfl, rfl, ?_⟩⟩
      dsimp only
      intro dd hdd
      refine ⟨_, rfl, _, rfl, _, rfl, _, rfl, _, rfl, _, rfl, _, rfl, upd_same, cmpKvs (decide (u < v)) (decide (Vl.num u = Vl.num v)), rfl, by show 4 ≤ 15; decide, ?_⟩
      rw [upd_upd]
      refine ⟨_, rfl, _, rfl, dd, _, rfl, (by have := DGet.k (k := Sum.inr z) (H := upd H5 dd (.dK (mergeK [] (cmpKvs (decide (u < v)) (decide (Vl.num u = Vl.num v)))))) upd_same; rw [cmp_val h3] at this; exact this), ?_⟩
      exact q.value (s15.trans (same_new hdd _)) (At_bl.mpr rfl)
    · rw [if_neg h3] at q
      rw [decide_eq_false (show ¬ z ∈ (["<", "<=", ">", ">="] : List Str) from fun m => h3 (by simpa [isCmp] using m))]
      refine iteF ⟨_, rfl, by show 2 ≤ sizeLine; decide, fun p4 hp4 => ⟨.tup [.str (Vl.num u).kind, .str (Vl.num v).kind], .tup [.str "number", .str "number"], At.same (((s2.trans t4).trans s5).trans (same_new hp4 _)) _ _ hk, At.new hp4 (AtAll2 (At_str.mpr rfl) (At_str.mpr rfl)), by simp [dep, deps], _, rfl, ?_⟩⟩
      have s6 := s15.trans (same_new hp4 (.tup [.str "number", .str "number"]))
      rw [show eqD (.tup [.str (Vl.num u).kind, .str (Vl.num v).kind]) (.tup [.str "number", .str "number"]) = true from by simp only [Vl.kind, eqD, eqDs]; decide +kernel]
      exact iteT ⟨_, rfl, _, rfl, .num u, .int u, At.same s6 _ _ ha, rfl, _, rfl, .num v, .int v, At.same s6 _ _ hb, rfl, z, u, v, rfl, oka, okb, q.after s6⟩
  · rw [show eqD (.tup [.str (Vl.txt u).kind, .str (Vl.txt v).kind]) (.tup [.str "truth", .str "truth"]) = false from by simp only [Vl.kind, eqD, eqDs]; decide +kernel]
    refine iteF (iteF (notIn H2 _ s2 fun H4 t4 => ⟨_, rfl, ?_⟩))
    rw [show ([D.tup [.str "number", .str "number"], D.tup [.str "text", .str "text"]].any fun e => eqD e (.tup [.str (Vl.txt u).kind, .str (Vl.txt v).kind])) = true from by simp only [Vl.kind, List.any_cons, List.any_nil, eqD, eqDs]; decide +kernel]
    refine iteF ⟨_, rfl, by show 4 ≤ sizeLine; decide, fun p3 hp3 => ⟨p3, _, rfl, .inr (SqT.of upd_same), rfl, rfl, _, rfl, ?_⟩⟩
    have s5 : Same H4 (upd H4 p3 (.tup [.str "<", .str "<=", .str ">", .str ">="])) := same_new hp3 _
    revert s5
    generalize upd H4 p3 (.tup [.str "<", .str "<=", .str ">", .str ">="]) = H5
    intro s5
    have s15 := (s12.trans t4).trans s5
    rw [show (if false = true then !inV (.str z) [.str "<", .str "<=", .str ">", .str ">="] else inV (.str z) [.str "<", .str "<=", .str ">", .str ">="]) = decide (z ∈ (["<", "<=", ">", ">="] : List Str)) from inV_strL z ["<", "<=", ">", ">="]]
    unfold dueD at q
    rw [if_neg hz] at q
    dsimp only at q
    by_cases h3 : isCmp z
    · rw [if_pos h3] at q
      rw [decide_eq_true (show z ∈ (["<", "<=", ">", ">="] : List Str) by rcases h3 with h | h | h | h <;> rw [h] <;> simp)]
      refine iteT ⟨_, rfl, .txt u, .str u, At.same s15 _ _ ha, rfl, _, rfl, .txt v, .str v, At.same s15 _ _ hb, rfl, .inr ⟨_, _, rfl, rfl, ?_⟩⟩
      intro dd hdd
      refine ⟨_, rfl, _, rfl, _, rfl, _, rfl, _, rfl, _, rfl, _, rfl, upd_same, cmpKvs (decide (u.cps.toList < v.cps.toList)) (decide (Vl.txt u = Vl.txt v)), rfl, by show 4 ≤ 15; decide, ?_⟩
      rw [upd_upd]
      refine ⟨_, rfl, _, rfl, dd, _, rfl, (by have := DGet.k (k := Sum.inr z) (H := upd H5 dd (.dK (mergeK [] (cmpKvs (decide (u.cps.toList < v.cps.toList)) (decide (Vl.txt u = Vl.txt v)))))) upd_same; rw [cmp_val h3] at this; exact this), ?_⟩
      exact q.value (s15.trans (same_new hdd _)) (At_bl.mpr rfl)
    · rw [if_neg h3] at q
      rw [decide_eq_false (show ¬ z ∈ (["<", "<=", ">", ">="] : List Str) from fun m => h3 (by simpa [isCmp] using m))]
      refine iteF ⟨_, rfl, by show 2 ≤ sizeLine; decide, fun p4 hp4 => ⟨.tup [.str (Vl.txt u).kind, .str (Vl.txt v).kind], .tup [.str "number", .str "number"], At.same (((s2.trans t4).trans s5).trans (same_new hp4 _)) _ _ hk, At.new hp4 (AtAll2 (At_str.mpr rfl) (At_str.mpr rfl)), by simp [dep, deps], _, rfl, ?_⟩⟩
      have s6 := s15.trans (same_new hp4 (.tup [.str "number", .str "number"]))
      revert s6
      generalize upd H5 p4 (.tup [.str "number", .str "number"]) = H6
      intro s6
      rw [show eqD (.tup [.str (Vl.txt u).kind, .str (Vl.txt v).kind]) (.tup [.str "number", .str "number"]) = false from by simp only [Vl.kind, eqD, eqDs]; decide +kernel]
      refine iteF ⟨_, rfl, rfl, _, rfl, ?_⟩
      rw [decS]
      by_cases h4 : z = "+"
      · rw [if_pos h4] at q
        rw [decide_eq_true h4]
        have hl : u.length + v.length ≤ sizeLine := small (by have := oka.1; have := okb.1; omega)
        refine iteF ⟨_, rfl, .txt u, .str u, At.same s6 _ _ ha, rfl, _, rfl, .txt v, .str v, At.same s6 _ _ hb, rfl, _, _, rfl, rfl, hl, _, rfl, (by rw [Str.length_append]; exact hl), _, _, rfl, rfl, _, rfl, ?_⟩
        dsimp only
        by_cases h5 : (u ++ v).length < 201
        · rw [if_pos h5] at q
          rw [decide_eq_true (show (((u ++ v).length : Nat) : Int) < 201 by omega)]
          refine iteT ⟨_, rfl, .txt u, .str u, At.same s6 _ _ ha, rfl, _, rfl, .txt v, .str v, At.same s6 _ _ hb, rfl, _, _, rfl, rfl, hl, ?_⟩
          exact q.value s6 (At_str.mpr rfl)
        · rw [if_neg h5] at q
          rw [decide_eq_false (show ¬ (((u ++ v).length : Nat) : Int) < 201 by omega)]
          exact iteF (q.fault s6)
      · rw [if_neg h4] at q
        rw [decide_eq_false h4]
        exact iteT (q.fault s6)
  · rw [e1]
    refine iteF (iteF (notIn H2 _ s2 fun H4 t4 => ⟨_, rfl, ?_⟩))
    rw [e2]
    exact iteT (kindFault H4 (s12.trans t4) (e3 z hz))
end
end GS
set_option Elab.async false
set_option linter.all false
set_option maxRecDepth 100000
set_option maxHeartbeats 4000000
namespace GS
open PySem PyProof.Rows
open L2 hiding pe_int pe_bl pe_non pe_str pv pe_glob pe_bltn pe_op pe_un pe_cmpR pe_one pe_and pe_or pe_ifExp pe_ix po_none po_some pe_slice pa_nil pa_cons pe_lst pe_tup pe_dnewK pe_callB pe_callTy pe_bm pe_bm0 pt_cmpR pt_val pt_not pw_and1 pw_or1 pw_and pw_or pg_name pgs_nil pgs_cons pg_tup pi_list pi_tup pi_str pi_range1 pi_range2 pe_comp ps_pass ps_break ps_continue ps_ret ps_retN ps_expr ps_set ps_asg ps_if ps_while ps_for pss_nil pss_cons pss_one
open L3
section
variable {X : Cx}
/-! ### isinstance of data -/
def tyD : D → String
  | .non => "NoneType" | .bl _ => "bool" | .int _ => "int" | .str _ => "str" | .tup _ => "tuple"
theorem kit_D {pins : List (Addr × Obj)} {σ : L2.St} {H : Hp} {s : Shared} {x : V} {u : Value} {d : D} (I : Inv X pins σ H s) (rx : RelV x u) (hx : At X.K H d x) : ∃ HP, PySem.W.KitX X.K u (.type (tyD d)) HP ∧ HP s.heap ∧ u ≠ Value.builtin "__main__.__loader__#opaque" := by
  cases d with
  | non => rw [At_non.mp hx] at rx; cases (show u = Value.none from rx); exact ⟨_, PySem.W.kitx_none, True.intro, (fun z => nomatch z)⟩
  | bl y => rw [At_bl.mp hx] at rx; cases (show u = Value.bool y from rx); exact ⟨_, PySem.W.kitx_bool, True.intro, (fun z => nomatch z)⟩
  | int i => rw [At_int.mp hx] at rx; obtain ⟨t, q⟩ := (show ∃ t, u = Value.int i t from rx); cases q; exact ⟨_, PySem.W.kitx_int, True.intro, (fun z => nomatch z)⟩
  | str y => rw [At_str.mp hx] at rx; obtain ⟨t, q⟩ := (show ∃ t, u = Value.str y t from rx); cases q; exact ⟨_, PySem.W.kitx_str, True.intro, (fun z => nomatch z)⟩
  | tup ds =>
    obtain ⟨p, vs, rfl, hq, _⟩ := At_tup.mp hx
    cases (show u = Value.ref p from rx)
    obtain ⟨its, _, ⟨o, h1, h2, _⟩, _⟩ := I.tuple hq
    exact ⟨_, PySem.W.kitx_tuple, ⟨o, h1, h2⟩, (fun z => nomatch z)⟩
theorem call_isiD : CallR X (.builtin "isinstance") (fun xs H Q => ∃ x T d b, xs = [x, .ty T] ∧ At X.K H d x ∧ PySem.W.kitOne X.K (.type (tyD d)) (.type T) = some b ∧ Q (.bl b) H) := by
  intro pins s σ H xs us Q I r h
  obtain ⟨x, T, d, b, rfl, hx, hk, q⟩ := h
  obtain ⟨u, w', rfl, r1, r2⟩ := vals2 r
  cases r2
  obtain ⟨HP, kx, hh, ne⟩ := kit_D I r1 hx
  exact PySem.W.kia_one kx I.kIn hh hk ne fun tk => ⟨.bl b, H, I.tok _, rfl, q⟩
theorem call_isiDT : CallR X (.builtin "isinstance") (fun xs H Q => ∃ (x : V) (p : Addr) (Ts : List String) (d : D) (b : Bool), xs = [x, .ref p] ∧ H p = some (.tup (Ts.map V.ty)) ∧ At X.K H d x ∧ PySem.W.kitAny X.K (.type (tyD d)) (Ts.map Value.type) = some b ∧ Q (.bl b) H) := by
  intro pins s σ H xs us Q I r h
  obtain ⟨x, p, Ts, d, b, rfl, hp, hx, hk, q⟩ := h
  obtain ⟨u, w', rfl, r1, r2⟩ := vals2 r
  cases r2
  obtain ⟨HP, kx, hh, ne⟩ := kit_D I r1 hx
  obtain ⟨_, its, rv, o, h1, h2, n, h3⟩ := (show ObjOk X.prog X.w H s.heap p (.tup (Ts.map V.ty)) from I.hok p _ hp)
  have hits : its = Ts.map Value.type := tyVals rv
  obtain ⟨oc, od, odt, osl⟩ := o
  dsimp only at h2 h3
  subst h2 h3 hits
  exact PySem.W.kia_tup kx I.kIn hh h1 hk ne fun tk => ⟨.bl b, H, I.tok _, rfl, q⟩
end
section
variable {P : Program} {w : World} {K : PySem.W.Frag} {mg : Str → Option Value} {base : Heap} {f : Addr} {fd : FuncData}
/-! ### _law_same, of what is the same -/
mutual
def slim : D → Bool
  | .tup xs => decide (xs.length ≤ 100) && slims xs
  | _ => true
def slims : List D → Bool
  | [] => true
  | x :: xs => slim x && slims xs
end
theorem slims_get : ∀ {ds : List D} {i : Nat} {d : D}, slims ds = true → ds[i]? = some d → slim d = true
  | [], _, _, _, e => by simp at e
  | x :: xs, 0, d, h, e => by
    rw [slims, Bool.and_eq_true] at h
    simp at e; subst e; exact h.1
  | x :: xs, i + 1, d, h, e => by
    rw [slims, Bool.and_eq_true] at h
    exact slims_get h.2 (by simpa using e)
def spSame (K : PySem.W.Frag) (n : Nat) : Sp := fun vs H Q _ => ∃ (x y : V) (d : D), vs = [x, y] ∧ At K H d x ∧ At K H d y ∧ dep d < n ∧ dep d ≤ 40 ∧ slim d = true ∧ ∀ H', Same H H' → Q (.bl true) H'
theorem scSame : FnScope ["_law_found", "_law_due_here"] ["_law_found", "_law_due_here"] (defScope sSame) := ⟨rfl, rfl, rfl, by decide +kernel, rfl, by decide +kernel, by decide +kernel⟩
theorem ok_Same (g : Glb mg) (F : Fun K "_law_same" "_law_same" sSame f fd) (hm : mg "_law_same" = some (.ref f)) (hb : Binds K fd ["_law_found", "_law_due_here"] []) : ∀ n, FnOk P w K mg base CX0 n f fd ["_law_found", "_law_due_here"] (spSame K n)
  | 0 => ⟨fun vs H Q E h => by obtain ⟨_, _, _, rfl, _⟩ := h; rfl, fun A outer s H args us vs Q E _ _ _ _ h => by obtain ⟨_, _, _, _, _, _, h, _⟩ := h; exact absurd h (Nat.not_lt_zero _)⟩
  | n + 1 => by
    have dS : Def P w K mg base "_law_same" ["_law_found", "_law_due_here"] n (spSame K n) := ⟨f, fd, hm, F.kp, hb, ok_Same g F hm hb n⟩
    refine F.okI scSame (fun vs H Q E h => ?_) (fun cdv A outer s H vs Q E hr h => ?_)
    · obtain ⟨_, _, _, rfl, _⟩ := h; rfl
    obtain ⟨x, y, d, rfl, hx, hy, hd, hd4, hsl, q⟩ := h
    refine ⟨_, pss_cons (ps_if (pt_val (pe_callB call_isiDT rfl g.nIsi bIsi (pa_cons (pv 1) (pa_cons (pe_tup (pa_cons (pe_bltn (v := .ty "list") rfl g.nList bList rfl) (pa_cons (pe_bltn (v := .ty "tuple") rfl g.nTuple bTuple rfl) pa_nil))) pa_nil))))
        (pss_cons (ps_if (LW.pt (pw_or (pt_cmpR op_ne (pe_callB call_isiD rfl g.nIsi bIsi (pa_cons (pv 0) (pa_cons (pe_bltn (v := .ty "list") rfl g.nList bList rfl) pa_nil))) (pe_callB call_isiD rfl g.nIsi bIsi (pa_cons (pv 1) (pa_cons (pe_bltn (v := .ty "list") rfl g.nList bList rfl) pa_nil))) (nomark _))
            (pw_or1 (pt_cmpR op_ne (pe_callB call_isiD rfl g.nIsi bIsi (pa_cons (pv 0) (pa_cons (pe_bltn (v := .ty "tuple") rfl g.nTuple bTuple rfl) pa_nil))) (pe_callB call_isiD rfl g.nIsi bIsi (pa_cons (pv 1) (pa_cons (pe_bltn (v := .ty "tuple") rfl g.nTuple bTuple rfl) pa_nil))) (nomark _))))) (pss_one (ps_ret pe_bl)) pss_nil)
        (pss_one (ps_ret (pe_and (pe_cmpR op_eq (pe_callB call_len_seq rfl g.nLen bLen (pa_cons (pv 0) pa_nil)) (pe_callB call_len_seq rfl g.nLen bLen (pa_cons (pv 1) pa_nil)) (nomark _))
          (pe_one (pe_callB (call_all rfl) rfl g.nAll bAll (pa_cons (pe_comp (cl := [("_law_found", s.heap.objs.size + 1), ("_law_due_here", s.heap.objs.size + 2)]) (Nf := ["_law_found", "_law_due_here"]) (js := [0, 1]) ?k rfl (pi_range1 rfl g.nRange (pa_cons (pe_callB call_len_seq rfl g.nLen bLen (pa_cons (pv 1) pa_nil)) pa_nil))
            (fun C s0 H0 fp => L3.pe_def dS hr (Nat.le_refl _) rfl (pa_cons (pe_ix (r := rIxT K) ix_tup (pv 1) (pv 0) (fun _ _ => rfl)) (pa_cons (pe_ix (r := rIxT K) ix_tup (pv 2) (pv 0) (fun _ _ => rfl)) pa_nil)))) pa_nil))))))) pss_nil)
      (pss_one (ps_ret (pe_and (pe_cmpR op_eq (pe_callB call_isiD rfl g.nIsi bIsi (pa_cons (pv 0) (pa_cons (pe_bltn (v := .ty "bool") rfl g.nBool bBool rfl) pa_nil))) (pe_callB call_isiD rfl g.nIsi bIsi (pa_cons (pv 1) (pa_cons (pe_bltn (v := .ty "bool") rfl g.nBool bBool rfl) pa_nil))) (nomark _)) (pe_one (pe_cmpR (op_eqD hr) (pv 0) (pv 1) (nomark _)))))), ?main⟩
    case k =>
      refine ⟨rfl, by decide +kernel, rfl, by decide +kernel, rfl, fun y c h => ?_, fun y hy => ?_, by decide +kernel, rfl, fun j y h => ?_⟩
      · rcases lookup2 h with ⟨rfl, rfl⟩ | ⟨rfl, rfl⟩ <;> rfl
      · have hy' : ([(".0", .local), ("_law_k", .local), ("_law_same", .globalImplicit), ("_law_due_here", .cell), ("_law_found", .cell)] : List (Str × NameKind)).lookup y = some .cell ∨ ([(".0", .local), ("_law_k", .local), ("_law_same", .globalImplicit), ("_law_due_here", .cell), ("_law_found", .cell)] : List (Str × NameKind)).lookup y = some .free := hy
        rcases hy' with z | z
        · have m := PySem.mem_of_lookup z
          simp at m
          rcases m with rfl | rfl
          · exact ⟨_, rfl⟩
          · exact ⟨_, rfl⟩
        · have m := PySem.mem_of_lookup z
          simp at m
      · match j, h with
        | 0, h => cases h; exact ⟨0, rfl, rfl, rfl, .inl rfl⟩
        | 1, h => cases h; exact ⟨1, rfl, rfl, rfl, .inl rfl⟩
        | j + 2, h => simp at h
    case main =>
      refine ⟨_, rfl, by show 2 ≤ sizeLine; decide, fun p hp => ?_⟩
      have s1 : Same H (upd H p (.tup [.ty "list", .ty "tuple"])) := same_new hp _
      have hp1 : upd H p (.tup [.ty "list", .ty "tuple"]) p = some (.tup [.ty "list", .ty "tuple"]) := upd_same
      revert s1 hp1
      generalize upd H p (.tup [.ty "list", .ty "tuple"]) = H1
      intro s1 hp1
      have hx1 := At.same s1 _ _ hx
      have hy1 := At.same s1 _ _ hy
      cases d
      case tup ds =>
        refine ⟨y, p, ["list", "tuple"], .tup ds, true, rfl, hp1, hy1, rfl, _, rfl, iteT ?_⟩
        refine ⟨_, rfl, x, "list", .tup ds, false, rfl, hx1, rfl, _, rfl, y, "list", .tup ds, false, rfl, hy1, rfl, rfl, _, rfl, ?_⟩
        rw [show (!decide (V.bl false = V.bl false)) = false from rfl]
        refine iteF ⟨_, rfl, x, "tuple", .tup ds, true, rfl, hx1, rfl, _, rfl, y, "tuple", .tup ds, true, rfl, hy1, rfl, rfl, _, rfl, ?_⟩
        rw [show (!decide (V.bl true = V.bl true)) = false from rfl]
        obtain ⟨px, vx, ex, qx, ax⟩ := At_tup.mp hx1
        obtain ⟨py, vy, ey, qy, ay⟩ := At_tup.mp hy1
        have lx := ax.len
        have ly := ay.len
        refine iteF ⟨_, rfl, px, vx, by rw [ex], .inr qx, _, rfl, py, vy, by rw [ey], .inr qy, rfl, _, rfl, ?_⟩
        rw [lx, ly, decide_eq_true rfl]
        rw [slim, Bool.and_eq_true, decide_eq_true_eq] at hsl
        rw [dep] at hd hd4
        refine iteT ⟨_, rfl, py, vy, by rw [ey], .inr qy, _, rfl, by omega, by omega, ?_⟩
        refine comp_range (vs := [x, y]) _ (fun v => v = .bl true) rfl (fun j i h => ?_) (by omega) (fun i H' Q' hi hs hq => ?_) fun D H2 ys hD hs2 hl hlen hone => ?_
        · match j, h with
          | 0, h => cases h; exact ⟨_, rfl, rfl⟩
          | 1, h => cases h; exact ⟨_, rfl, rfl⟩
          | j + 2, h => simp at h
        · have hi' : i < ds.length := by omega
          have hdi : ds[i]? = some ds[i] := by simp
          obtain ⟨p1, w1, v1, a1, a2, a3, a4⟩ := At.ix (At.same hs _ _ hx1) hdi
          obtain ⟨p2, w2, v2, b1, b2, b3, b4⟩ := At.ix (At.same hs _ _ hy1) hdi
          have ei : (0 : Int) + (i : Int) = (i : Int) := by omega
          rw [ei]
          have hdd := dep_mem hdi
          refine ⟨_, rfl, _, rfl, p1, w1, _, v1, a1, rfl, a2, a3, _, rfl, _, rfl, p2, w2, _, v2, b1, rfl, b2, b3, v1, v2, ds[i], rfl, a4, b4, by omega, by omega, slims_get hsl.2 hdi, fun H'' s'' => ?_⟩
          exact hq _ H'' rfl s''
        · have ey' : ys = (List.replicate ys.length true).map V.bl := by
            rw [List.map_replicate]
            exact List.eq_replicate_of_mem hone
          refine ⟨D, _, rfl, SqL.of (by rw [hl, ← ey']), ?_⟩
          rw [show (List.replicate ys.length true).all id = true from List.all_eq_true.mpr fun b hb => (List.mem_replicate.mp hb).2]
          exact q _ (s1.trans hs2)
      all_goals
        refine ⟨y, p, ["list", "tuple"], _, false, rfl, hp1, hy1, rfl, _, rfl, iteF ?_⟩
        refine ⟨_, rfl, x, "bool", _, _, rfl, hx1, rfl, _, rfl, y, "bool", _, _, rfl, hy1, rfl, rfl, _, rfl, ?_⟩
        refine iteT ⟨_, rfl, _, rfl, _, _, hx1, hy1, Nat.zero_le _, ?_⟩
        rw [eqD_refl]
        exact q _ s1
end
end GS
set_option Elab.async false
set_option linter.all false
set_option maxRecDepth 100000
set_option maxHeartbeats 4000000
namespace GS
open PySem PyProof.Rows
open L2 hiding pe_int pe_bl pe_non pe_str pv pe_glob pe_bltn pe_op pe_un pe_cmpR pe_one pe_and pe_or pe_ifExp pe_ix po_none po_some pe_slice pa_nil pa_cons pe_lst pe_tup pe_dnewK pe_callB pe_callTy pe_bm pe_bm0 pt_cmpR pt_val pt_not pw_and1 pw_or1 pw_and pw_or pg_name pgs_nil pgs_cons pg_tup pi_list pi_tup pi_str pi_range1 pi_range2 pe_comp ps_pass ps_break ps_continue ps_ret ps_retN ps_expr ps_set ps_asg ps_if ps_while ps_for pss_nil pss_cons pss_one
open L3
section
variable {P : Program} {w : World} {K : PySem.W.Frag} {mg : Str → Option Value} {base : Heap} {f : Addr} {fd : FuncData}
/-! ### what the program's three defs must promise -/
def signs12 : List Str := ["+", "-", "*", "//", "&", "|", "<", "<=", ">", ">=", "==", "!="]
def spTwo (K : PySem.W.Frag) : Sp := fun vs H Q _ => ∃ (z : Str) (x y : V) (a b : Vl), vs = [.str z, x, y] ∧ z ∈ signs12 ∧ At K H a.d x ∧ At K H b.d y ∧ a.ok ∧ b.ok ∧ tells K H Q (dueD z a b)
def minusD : Vl → D
  | .num i => valueD (numD (0 - i))
  | _ => faultD "KindFault"
def spMinus (K : PySem.W.Frag) : Sp := fun vs H Q _ => ∃ (x : V) (a : Vl), vs = [x] ∧ At K H a.d x ∧ a.ok ∧ tells K H Q (minusD a)
def wantB : Vl → Bool
  | .non => true | .tr b => !b | .num i => decide (i = 0) | .txt z => decide (z = "") | .thing _ => false
def spWant (K : PySem.W.Frag) : Sp := fun vs H Q _ => ∃ (x : V) (a : Vl), vs = [x] ∧ At K H a.d x ∧ a.ok ∧ tells K H Q (.bl (wantB a))
theorem flat_fault (x : Str) : dep (faultD x) ≤ 3 ∧ slim (faultD x) = true := ⟨by simp [faultD, dep, deps], by simp [faultD, slim, slims]⟩
theorem flat_truth (b : Bool) : dep (valueD (truthD b)) ≤ 3 ∧ slim (valueD (truthD b)) = true := ⟨by simp [valueD, truthD, dep, deps], by simp [valueD, truthD, slim, slims]⟩
theorem flat_text (x : Str) : dep (valueD (.tup [.str "text", .str x])) ≤ 3 ∧ slim (valueD (.tup [.str "text", .str x])) = true := ⟨by simp [valueD, dep, deps], by simp [valueD, slim, slims]⟩
theorem flat_num (n : Int) : dep (valueD (numD n)) ≤ 3 ∧ slim (valueD (numD n)) = true := ⟨by simp [valueD, numD, dep, deps], by simp [valueD, numD, slim, slims]⟩
theorem flat_number (n : Int) : dep (numberD n) ≤ 3 ∧ slim (numberD n) = true := by
  unfold numberD
  split
  · exact flat_num n
  · exact flat_fault _
theorem flat_due (z : Str) (a b : Vl) : dep (dueD z a b) ≤ 3 ∧ slim (dueD z a b) = true := by
  unfold dueD
  split
  · exact flat_truth _
  · split
    · split
      · exact flat_truth _
      · exact flat_fault _
    · split
      · exact flat_truth _
      · unfold numbersD
        repeat' split
        all_goals first | exact flat_number _ | exact flat_fault _
    · split
      · exact flat_truth _
      · split
        · split
          · exact flat_text _
          · exact flat_fault _
        · exact flat_fault _
    · exact flat_fault _
theorem flat_minus (a : Vl) : dep (minusD a) ≤ 3 ∧ slim (minusD a) = true := by
  cases a <;> first | exact flat_num _ | exact flat_fault _
/-! ### the two values that are reckoned on the way -/
def tMin (K : PySem.W.Frag) (i : Nat) : TE := fun σ H Q => ∃ x, σ[i]? = some (some x) ∧ ∃ v : Vl, At K H v.d x ∧ tells K H Q (minusD v)
theorem min_imp {i : Nat} {σ : L2.St} {H : Hp} {Q : VK} (h : tMin K i σ H Q) :
    tIf (tTest (tOp rEq (tKind K i) (tC (.str "number")))) (tTup (tCons (tC (.str "value")) (tCons (tTup (tCons (tC (.str "number")) (tCons (tOp (rI0 fun i j => .int (i - j)) (tC (.int 0)) (tPartV K i)) tNil))) tNil))) (tTup (tCons (tC (.str "fault")) (tCons (tC (.str "KindFault")) tNil))) σ H Q := by
  obtain ⟨x, hx, v, hv, q⟩ := h
  refine ⟨x, hx, v, hv, rfl, _, rfl, ?_⟩
  rw [decS]
  cases v with
  | num n =>
    rw [show decide ((Vl.num n).kind = "number") = true from rfl]
    refine iteT ⟨x, hx, .num n, .int n, hv, rfl, _, _, rfl, rfl, ?_⟩
    exact q.value (Same.refl H) (At_int.mpr rfl)
  | txt z =>
    rw [show decide ((Vl.txt z).kind = "number") = false from rfl]
    exact iteF (q.fault (Same.refl H))
  | tr z =>
    rw [show decide ((Vl.tr z).kind = "number") = false from rfl]
    exact iteF (q.fault (Same.refl H))
  | non =>
    rw [show decide (Vl.non.kind = "number") = false from rfl]
    exact iteF (q.fault (Same.refl H))
  | thing z =>
    rw [show decide ((Vl.thing z).kind = "number") = false from rfl]
    exact iteF (q.fault (Same.refl H))
def tWant (K : PySem.W.Frag) (i : Nat) : TE := fun σ H Q => ∃ x, σ[i]? = some (some x) ∧ ∃ v : Vl, At K H v.d x ∧ ∀ H', Same H H' → Q (.bl (wantB v)) H'
theorem kindD {v : Vl} {c : Str} {b : Bool} (h : decide (v.kind = c) = b) : decide (V.str v.kind = V.str c) = b := by rw [decS]; exact h
theorem want_imp {X : Cx} {i : Nat} {σ : L2.St} {H : Hp} {Q : VK} (h : tWant X.K i σ H Q) :
    tOrV (tOp rEq (tKind X.K i) (tC (.str "none"))) (tOrV (tAndV (tOp rEq (tKind X.K i) (tC (.str "truth"))) (tNotV (tPartV X.K i))) (tOrV (tAndV (tOp rEq (tKind X.K i) (tC (.str "number"))) (tOp rEq (tPartV X.K i) (tC (.int 0)))) (tOp (rEqD X) (tVar i) (tTup (tCons (tC (.str "text")) (tCons (tC (.str "")) tNil)))))) σ H Q := by
  obtain ⟨x, hx, v, hv, q⟩ := h
  have last : ∀ b, eqD v.d (.tup [.str "text", .str ""]) = b → b = wantB v → tOp (rEqD X) (tVar i) (tTup (tCons (tC (.str "text")) (tCons (tC (.str "")) tNil))) σ H Q := fun b e e2 => by
    refine ⟨x, hx, by show 2 ≤ sizeLine; decide, fun p hp => ⟨v.d, .tup [.str "text", .str ""], At.same (same_new hp _) _ _ hv, At.new hp (AtAll2 (At_str.mpr rfl) (At_str.mpr rfl)), v.dep_le, ?_⟩⟩
    rw [e, e2]
    exact q _ (same_new hp _)
  refine ⟨x, hx, v, hv, rfl, _, rfl, ?_⟩
  rw [decS]
  cases v with
  | non =>
    rw [show decide (Vl.non.kind = "none") = true from rfl]
    exact iteT (q H (Same.refl H))
  | tr z =>
    rw [show decide ((Vl.tr z).kind = "none") = false from rfl]
    refine iteF ⟨x, hx, .tr z, hv, rfl, _, rfl, ?_⟩
    rw [decS, show decide ((Vl.tr z).kind = "truth") = true from rfl]
    refine iteT ⟨x, hx, .tr z, .bl z, hv, rfl, z, rfl, _, rfl, ?_⟩
    cases z with
    | false => exact iteT (q H (Same.refl H))
    | true =>
      refine iteF ⟨x, hx, .tr true, hv, rfl, _, rfl, ?_⟩
      rw [decS, show decide ((Vl.tr true).kind = "number") = false from rfl]
      exact iteF ⟨_, rfl, iteF (last false rfl rfl)⟩
  | num z =>
    rw [show decide ((Vl.num z).kind = "none") = false from rfl]
    refine iteF ⟨x, hx, .num z, hv, rfl, _, rfl, ?_⟩
    rw [decS, show decide ((Vl.num z).kind = "truth") = false from rfl]
    refine iteF ⟨_, rfl, iteF ⟨x, hx, .num z, hv, rfl, _, rfl, ?_⟩⟩
    rw [decS, show decide ((Vl.num z).kind = "number") = true from rfl]
    refine iteT ⟨x, hx, .num z, .int z, hv, rfl, rfl, _, rfl, ?_⟩
    by_cases h0 : z = 0
    · rw [decide_eq_true (show V.int z = V.int 0 by rw [h0])]
      have e : wantB (.num z) = true := decide_eq_true h0
      rw [e] at q
      exact iteT (q H (Same.refl H))
    · rw [decide_eq_false (show ¬ V.int z = V.int 0 from fun e => h0 (V.int.inj e))]
      exact iteF (last false (by simp only [Vl.d, eqD, eqDs]; rfl) (decide_eq_false h0).symm)
  | txt z =>
    rw [show decide ((Vl.txt z).kind = "none") = false from rfl]
    refine iteF ⟨x, hx, .txt z, hv, rfl, _, rfl, ?_⟩
    rw [decS, show decide ((Vl.txt z).kind = "truth") = false from rfl]
    refine iteF ⟨_, rfl, iteF ⟨x, hx, .txt z, hv, rfl, _, rfl, ?_⟩⟩
    rw [decS, show decide ((Vl.txt z).kind = "number") = false from rfl]
    refine iteF ⟨_, rfl, iteF (last (z == "") (by simp only [Vl.d, eqD, eqDs]; simp) ?_)⟩
    show (z == "") = decide (z = "")
    exact Bool.beq_eq_decide_eq ..
  | thing z =>
    rw [show decide ((Vl.thing z).kind = "none") = false from rfl]
    refine iteF ⟨x, hx, .thing z, hv, rfl, _, rfl, ?_⟩
    rw [decS, show decide ((Vl.thing z).kind = "truth") = false from rfl]
    refine iteF ⟨_, rfl, iteF ⟨x, hx, .thing z, hv, rfl, _, rfl, ?_⟩⟩
    rw [decS, show decide ((Vl.thing z).kind = "number") = false from rfl]
    exact iteF ⟨_, rfl, iteF (last false (by simp only [Vl.d, eqD, eqDs]; rfl) rfl)⟩
def spRight (K : PySem.W.Frag) : Sp := fun vs H Q _ => ∃ (x y : V) (a b : Vl), vs = [x, y] ∧ At K H a.d x ∧ At K H b.d y ∧ a.ok ∧ b.ok ∧ ∀ H', Same H H' → Q (.bl true) H'
theorem scRight : FnScope ["_law_a", "_law_b", "_law_sign", "_law_due_here", "_law_wanting"] ["_law_a", "_law_b"] (defScope sRight) := ⟨rfl, rfl, rfl, by decide +kernel, rfl, by decide +kernel, by decide +kernel⟩
theorem ok_Right {k : Nat} (hk : 5 ≤ k) (g : Glb mg) (F : Fun K "_law_right" "_law_right" sRight f fd) (dS : Def P w K mg base "_law_same" ["_law_found", "_law_due_here"] 5 (spSame K 5)) (dD : Def P w K mg base "_law_due" ["_law_sign", "_law_a", "_law_b"] 3 (spDue K))
    (dT : Def P w K mg base "two" ["sign", "a", "b"] k (spTwo K)) (dM : Def P w K mg base "minus" ["a"] k (spMinus K)) (dW : Def P w K mg base "is_wanting" ["a"] k (spWant K)) : FnOk P w K mg base CX0 (k + 1) f fd ["_law_a", "_law_b"] (spRight K) := by
  refine F.okI scRight (fun vs H Q E h => ?_) (fun cdv A outer s H vs Q E hr h => ?_)
  · obtain ⟨_, _, _, _, rfl, _⟩ := h; rfl
  obtain ⟨x, y, a, b, rfl, ha, hb, oka, okb, q⟩ := h
  refine ⟨_, pss_cons (ps_for PassesOwn.never rfl (pi_tup (pe_tup (pa_cons pe_str (pa_cons pe_str (pa_cons pe_str (pa_cons pe_str (pa_cons pe_str (pa_cons pe_str (pa_cons pe_str (pa_cons pe_str (pa_cons pe_str (pa_cons pe_str (pa_cons pe_str (pa_cons pe_str pa_nil)))))))))))))) (pg_name (i := 2) scRight.nd rfl (Or.inl rfl))
      (pss_one (ps_if (pt_not (pt_val (L3.pe_def dS hr hk rfl (pa_cons (L3.pe_def dT hr (Nat.le_refl _) rfl (pa_cons (pv 2) (pa_cons (pv 0) (pa_cons (pv 1) pa_nil)))) (pa_cons (L3.pe_def dD hr (by omega) rfl (pa_cons (pv 2) (pa_cons (pv 0) (pa_cons (pv 1) pa_nil)))) pa_nil))))) (pss_one (ps_ret pe_bl)) pss_nil)))
    (pss_cons (ps_set (i := 3) scRight.nd rfl (Or.inl rfl) (le_imp (t' := tMin K 0) (pe_ifExp (pt_cmpR op_eq (pe_kind (pv 0)) pe_str (nomark _)) (pe_tup (pa_cons pe_str (pa_cons (pe_tup (pa_cons pe_str (pa_cons (pe_op op_sub pe_int (pe_part (pv 0))) pa_nil))) pa_nil))) (pe_tup (pa_cons pe_str (pa_cons pe_str pa_nil)))) (fun _ _ _ => min_imp)))
    (pss_cons (ps_set (i := 4) scRight.nd rfl (Or.inl rfl) (le_imp (t' := tWant K 0) (pe_or (pe_cmpR op_eq (pe_kind (pv 0)) pe_str (nomark _)) (pe_or (pe_and (pe_cmpR op_eq (pe_kind (pv 0)) pe_str (nomark _)) (pe_one (.mk (L2.pe_not (LE.out (pe_part (pv 0))))))) (pe_or (pe_and (pe_cmpR op_eq (pe_kind (pv 0)) pe_str (nomark _)) (pe_one (pe_cmpR op_eq (pe_part (pv 0)) pe_int (nomark _)))) (pe_one (pe_cmpR (op_eqD hr) (pv 0) (pe_tup (pa_cons pe_str (pa_cons pe_str pa_nil))) (nomark _)))))) (fun _ _ _ h => want_imp (X := (cxOf CX0 P w K mg base ["_law_a", "_law_b", "_law_sign", "_law_due_here", "_law_wanting"] "_law_right" (defScope sRight) f cdv A outer s H E).nox) h)))
    (pss_one (ps_ret (pe_and (L3.pe_def dS hr hk rfl (pa_cons (L3.pe_def dM hr (Nat.le_refl _) rfl (pa_cons (pv 0) pa_nil)) (pa_cons (pv 3) pa_nil))) (pe_one (L3.pe_def dS hr hk rfl (pa_cons (L3.pe_def dW hr (Nat.le_refl _) rfl (pa_cons (pv 0) pa_nil)) (pa_cons (pv 4) pa_nil))))))))), ?main⟩
  case main =>
    refine ⟨by show 12 ≤ sizeLine; decide, fun p hp => ⟨p, rfl, ⟨_, SqT.of upd_same⟩, ?_⟩⟩
    have s1 : Same H (upd H p (.tup (signs12.map V.str))) := same_new hp _
    have hp1 : SqT K (upd H p (.tup (signs12.map V.str))) p (signs12.map V.str) := SqT.of upd_same
    refine for_tup (K := K) (a := p) (xs := signs12.map V.str) (fun i σ H' => (∃ o2, σ = [some x, some y, o2, none, none]) ∧ Same (upd H p (.tup (signs12.map V.str))) H') ⟨⟨none, rfl⟩, Same.refl _⟩ (fun i σ H' _ ⟨_, hs⟩ => Same.seqT hs hp1) ?_ ?_
    · rintro i v σ H' hv ⟨⟨o2, rfl⟩, hs⟩
      rw [List.getElem?_map, Option.map_eq_some_iff] at hv
      obtain ⟨z, hz, rfl⟩ := hv
      have hz' : z ∈ signs12 := List.mem_of_getElem? hz
      have sH := s1.trans hs
      refine ⟨_, rfl, _, rfl, _, rfl, z, x, y, a, b, rfl, hz', At.same sH _ _ ha, At.same sH _ _ hb, oka, okb, fun r1 H2 s2 h1 => ?_⟩
      refine ⟨_, rfl, _, rfl, _, rfl, z, x, y, a, b, rfl, At.same (sH.trans s2) _ _ ha, At.same (sH.trans s2) _ _ hb, oka, okb, fun r2 H3 s3 h2 => ?_⟩
      have fl := flat_due z a b
      refine ⟨r1, r2, dueD z a b, rfl, At.same s3 _ _ h1, h2, by omega, by omega, fl.2, fun H4 s4 => ⟨_, rfl, iteF ?_⟩⟩
      exact ⟨⟨_, rfl⟩, ((hs.trans s2).trans s3).trans s4⟩
    · rintro σ H' ⟨⟨o2, rfl⟩, hs⟩
      have sH := s1.trans hs
      refine ⟨x, rfl, a, At.same sH _ _ ha, fun r3 H3 s3 h3 => ?_⟩
      have sH3 := sH.trans s3
      refine ⟨x, rfl, a, At.same sH3 _ _ ha, fun H4 s4 => ?_⟩
      have sH4 := sH3.trans s4
      have fm := flat_minus a
      refine ⟨_, rfl, x, a, rfl, At.same sH4 _ _ ha, oka, fun r5 H5 s5 h5 => ⟨_, rfl, r5, r3, minusD a, rfl, h5, At.same (s4.trans s5) _ _ h3, by omega, by omega, fm.2, fun H6 s6 => ⟨_, rfl, iteT ?_⟩⟩⟩
      have sH6 := (sH4.trans s5).trans s6
      refine ⟨_, rfl, x, a, rfl, At.same sH6 _ _ ha, oka, fun r7 H7 s7 h7 => ⟨_, rfl, r7, _, .bl (wantB a), rfl, h7, At_bl.mpr rfl, by rw [dep_bl]; omega, by rw [dep_bl]; omega, rfl, fun H8 s8 => ?_⟩⟩
      exact q _ ((sH6.trans s7).trans s8)
end
end GS
set_option Elab.async false
set_option linter.all false
set_option maxRecDepth 100000
set_option maxHeartbeats 4000000
namespace GS
open PySem PyProof.Rows
open L2 hiding pe_int pe_bl pe_non pe_str pv pe_glob pe_bltn pe_op pe_un pe_cmpR pe_one pe_and pe_or pe_ifExp pe_ix po_none po_some pe_slice pa_nil pa_cons pe_lst pe_tup pe_dnewK pe_callB pe_callTy pe_bm pe_bm0 pt_cmpR pt_val pt_not pw_and1 pw_or1 pw_and pw_or pg_name pgs_nil pgs_cons pg_tup pi_list pi_tup pi_str pi_range1 pi_range2 pe_comp ps_pass ps_break ps_continue ps_ret ps_retN ps_expr ps_set ps_asg ps_if ps_while ps_for pss_nil pss_cons pss_one
open L3
section
variable {P : Program} {w : World} {K : PySem.W.Frag} {mg : Str → Option Value} {base : Heap} {f : Addr} {fd : FuncData}
/-! ### a list is written: tuples stay -/
def less (H : Hp) (b : Addr) : Hp := fun q => if q = b then none else H q
theorem less_ne {H : Hp} {b q : Addr} (h : q ≠ b) : less H b q = H q := if_neg h
theorem less_same {H : Hp} {b : Addr} {o : HO} : Same (less H b) (upd H b o) := fun q u h => by
  by_cases e : q = b
  · rw [e] at h; unfold less at h; rw [if_pos rfl] at h; cases h
  · rw [less_ne e] at h; rw [upd_ne e]; exact h
theorem seqT_less {H : Hp} {b p : Addr} {l xs : List V} (hb : H b = some (.lst l)) (h : SqT K H p xs) : SqT K (less H b) p xs := by
  rcases h with (h | ⟨o, h⟩) | h
  · exact .inl (.inl (by rw [less_ne (ne_of h hb (by intro z; cases z))]; exact h))
  · exact .inl (.inr ⟨o, by rw [less_ne (ne_of h hb (by intro z; cases z))]; exact h⟩)
  · exact .inr h
mutual
theorem At.less {H : Hp} {b : Addr} {l : List V} (hb : H b = some (.lst l)) : ∀ (d : D) (v : V), At K H d v → At K (less H b) d v
  | .non, _, h => At_non.mpr (At_non.mp h)
  | .bl _, _, h => At_bl.mpr (At_bl.mp h)
  | .int _, _, h => At_int.mpr (At_int.mp h)
  | .str _, _, h => At_str.mpr (At_str.mp h)
  | .tup ds, _, h => by
    obtain ⟨p, vs, e, hq, ha⟩ := At_tup.mp h
    exact At_tup.mpr ⟨p, vs, e, seqT_less hb hq, AtAll.less hb ds vs ha⟩
theorem AtAll.less {H : Hp} {b : Addr} {l : List V} (hb : H b = some (.lst l)) : ∀ (ds : List D) (vs : List V), AtAll K H ds vs → AtAll K (less H b) ds vs
  | [], _, h => AtAll_nil.mpr (AtAll_nil.mp h)
  | d :: ds, _, h => by
    obtain ⟨v, r, e, h1, h2⟩ := AtAll_cons.mp h
    exact AtAll_cons.mpr ⟨v, r, e, At.less hb d v h1, AtAll.less hb ds r h2⟩
end
theorem At.upd {H : Hp} {b : Addr} {l : List V} {o : HO} {d : D} {v : V} (hb : H b = some (.lst l)) (h : At K H d v) : At K (L2.upd H b o) d v := At.same less_same _ _ (At.less hb d v h)
/-- cells of a script's part -/
theorem cut_ints (ns : List Int) (lo hi : Option Int) : ∃ ms : List Int, cutV (ns.map V.int) lo hi = ms.map V.int ∧ ms.length ≤ ns.length := by
  refine ⟨(ns.drop (HT.sIx (ns.map V.int).length 0 lo)).take (HT.sIx (ns.map V.int).length (ns.map V.int).length hi - HT.sIx (ns.map V.int).length 0 lo), ?_, ?_⟩
  · unfold cutV; rw [List.map_take, List.map_drop]
  · rw [List.length_take, List.length_drop]; omega
theorem mul_x {n : Int} (h0 : 0 ≤ n) (h1 : n ≤ 179) : ∃ lb : List Nat, Txt.mul ("x" : Str) n = S lb ∧ Pr lb ∧ lb.length ≤ 179 := by
  have e : ∀ k : Nat, k ≤ 179 → (Txt.mul ("x" : Str) (k : Int)).cps.toList = List.replicate k 120 := by decide +kernel
  have e' := e n.toNat (by omega)
  rw [show ((n.toNat : Nat) : Int) = n by omega] at e'
  refine ⟨List.replicate n.toNat 120, ?_, fun c hc => ?_, by rw [List.length_replicate]; omega⟩
  · rw [← S_of (Txt.mul ("x" : Str) n), e']
  · rw [(List.mem_replicate.mp hc).2]; decide
/-- some number or other -/
def tKd : TE := fun σ H Q => (∃ n : Int, σ[4]? = some (some (.int n))) ∧ ∀ kd, Q (.int kd) H
def tKd2 : TE := fun σ H Q => (∃ n : Int, σ[4]? = some (some (.int n))) ∧ (∃ n : Int, σ[5]? = some (some (.int n))) ∧ ∀ kd, Q (.int kd) H
def tB (K : PySem.W.Frag) : TS := fun D σ H => ∃ c0 c1 c2 c3 n c5 x y c8 c9 va vb, σ = [c0, c1, c2, c3, some (.int n), c5, some x, some y, c8, c9] ∧ 0 ≤ n ∧ n < 306783380 ∧ At K H (Vl.d va) x ∧ At K H (Vl.d vb) y ∧ va.ok ∧ vb.ok ∧
  ∀ y' (vb' : Vl) c8' H', At K H' va.d x → At K H' vb'.d y' → vb'.ok → Same H H' → D.nx [c0, c1, c2, c3, some (.int n), c5, some x, some y', c8', c9] H'
def spLaw (K : PySem.W.Frag) : Sp := fun vs H Q _ => ∃ (a : Addr) (ns : List Int), vs = [.ref a] ∧ SqL K H a (ns.map V.int) ∧ ns.length ≤ 63 ∧ ∀ H', Q (.bl true) H'
theorem scLaw : FnScope ["_law_script", "_law_cells", "_law_spot", "_law_turn", "_law_n", "_law_kind", "_law_a", "_law_b", "_law_at", "_law_one"] ["_law_script"] (defScope sLaw) := ⟨rfl, rfl, rfl, by decide +kernel, rfl, by decide +kernel, by decide +kernel⟩
theorem ok_Law {k : Nat} (hk : 5 ≤ k) (g : Glb mg) (F : Fun K "law" "law" sLaw f fd) (dA : Def P w K mg base "_law_cell_at" ["_law_script", "_law_k"] 1 (spCellAt K)) (dC : Def P w K mg base "_law_cell" ["_law_cells", "_law_spot"] 1 (spCell K)) (dV : Def P w K mg base "_law_value" ["_law_n", "_law_kind"] 2 (spValue K)) (dR : Def P w K mg base "_law_right" ["_law_a", "_law_b"] k (spRight K)) :
    FnOk P w K mg base CX0 (k + 1) f fd ["_law_script"] (spLaw K) := by
  refine F.okI scLaw (fun vs H Q E h => ?_) (fun cdv A outer s H vs Q E hr h => ?_)
  · obtain ⟨_, _, rfl, _⟩ := h; rfl
  obtain ⟨a, ns, rfl, hS, h63, q⟩ := h
  refine ⟨_, pss_cons (ps_set (i := 1) scLaw.nd rfl (Or.inl rfl) (pe_slice sl_list (pv 0) (po_some pe_int) (po_some pe_int)))
    (pss_cons (ps_set (i := 2) scLaw.nd rfl (Or.inl rfl) (pe_lst (pa_cons pe_int pa_nil)))
    (pss_cons (ps_for PassesOwn.never rfl (pi_range1 rfl g.nRange (pa_cons pe_int pa_nil)) (pg_name (i := 3) scLaw.nd rfl (Or.inl rfl))
      (pss_cons (ps_set (i := 4) scLaw.nd rfl (Or.inl rfl) (L3.pe_def dC hr (by omega) rfl (pa_cons (pv 1) (pa_cons (pv 2) pa_nil))))
      (pss_cons (ps_set (i := 5) scLaw.nd rfl (Or.inl rfl) (le_imp (t' := tKd) (pe_ifExp (pt_cmpR op_gt (pe_op op_mod (pe_op op_fdiv (pv 4) pe_int) pe_int) pe_int (nomark _)) (pe_op op_mod (pv 4) pe_int) (pe_op op_mod (pe_op op_fdiv (pv 4) pe_int) pe_int)) ?k1))
      (pss_cons (ps_set (i := 6) scLaw.nd rfl (Or.inl rfl) (L3.pe_def dV hr (by omega) rfl (pa_cons (L3.pe_def dC hr (by omega) rfl (pa_cons (pv 1) (pa_cons (pv 2) pa_nil))) (pa_cons (pv 5) pa_nil))))
      (pss_cons (ps_set (i := 7) scLaw.nd rfl (Or.inl rfl) (L3.pe_def dV hr (by omega) rfl (pa_cons (L3.pe_def dC hr (by omega) rfl (pa_cons (pv 1) (pa_cons (pv 2) pa_nil))) (pa_cons (le_imp (t' := tKd2) (pe_ifExp (pt_cmpR op_gt (pe_op op_mod (pe_op op_fdiv (pv 4) pe_int) pe_int) pe_int (nomark _)) (pv 5) (pe_op op_mod (pe_op op_fdiv (pv 4) pe_int) pe_int)) ?k2) pa_nil))))
      (pss_cons (L3.ps_imp (t' := tB K) (ps_if (pt_cmpR op_eq (pe_op op_mod (pe_op op_fdiv (pv 4) pe_int) pe_int) pe_int (nomark _)) (pss_one (ps_set (i := 7) scLaw.nd rfl (Or.inl rfl) (pv 6))) pss_nil) ?b1)
      (pss_cons (L3.ps_imp (t' := tB K) (ps_if (LW.pt (pw_and (pt_cmpR op_eq (pe_op op_mod (pe_op op_fdiv (pv 4) pe_int) pe_int) pe_int (nomark _)) (pw_and1 (pt_cmpR op_eq (pe_kind (pv 6)) pe_str (nomark _)))))
          (pss_one (ps_set (i := 7) scLaw.nd rfl (Or.inl rfl) (pe_tup (pa_cons pe_str (pa_cons (pe_slice sl_str (pe_part (pv 6)) po_none (po_some (pe_op op_mod (pe_op op_fdiv (pv 4) pe_int) (pe_op op_add (pe_callB call_len_str rfl g.nLen bLen (pa_cons (pe_part (pv 6)) pa_nil)) pe_int)))) pa_nil))))) pss_nil) ?b2)
      (pss_cons (L3.ps_imp (t' := tB K) (ps_if (LW.pt (pw_and (pt_cmpR op_gt (pe_op op_mod (pe_op op_fdiv (pv 4) pe_int) pe_int) pe_int (nomark _)) (pw_and (pt_cmpR op_eq (pe_kind (pv 6)) pe_str (nomark _)) (pw_and1 (pt_cmpR op_ne (pe_part (pv 6)) pe_str (nomark _))))))
          (pss_cons (ps_set (i := 8) scLaw.nd rfl (Or.inl rfl) (pe_op op_mod (pe_op op_fdiv (pv 4) pe_int) (pe_callB call_len_str rfl g.nLen bLen (pa_cons (pe_part (pv 6)) pa_nil))))
          (pss_one (ps_set (i := 7) scLaw.nd rfl (Or.inl rfl) (pe_tup (pa_cons pe_str (pa_cons (pe_op op_add_str (pe_op op_add_str (pe_slice sl_str (pe_part (pv 6)) po_none (po_some (pv 8))) (pe_ix ix_str pe_str (pe_callTy call_int1 rfl g.nInt bInt (pa_cons (pe_cmpR op_eq (pe_ix ix_str (pe_part (pv 6)) (pv 8) (fun _ _ => rfl)) pe_str (nomark _)) pa_nil)) (fun _ _ => rfl))) (pe_slice sl_str (pe_part (pv 6)) (po_some (pe_op op_add (pv 8) pe_int)) po_none)) pa_nil)))))) pss_nil) ?b3)
      (pss_one (ps_if (LW.pt (pw_or (pt_not (pt_val (L3.pe_def dR hr (Nat.le_refl _) rfl (pa_cons (pv 6) (pa_cons (pv 7) pa_nil))))) (pw_or1 (pt_not (pt_val (L3.pe_def dR hr (Nat.le_refl _) rfl (pa_cons (pv 7) (pa_cons (pv 6) pa_nil)))))))) (pss_one (ps_ret pe_bl)) pss_nil))))))))))
    (pss_cons (ps_set (i := 9) scLaw.nd rfl (Or.inl rfl) (pe_op op_add_str pe_str (pe_op op_mul_str pe_str (pe_op op_mod (L3.pe_def dA hr (by omega) rfl (pa_cons (pv 0) (pa_cons pe_int pa_nil))) pe_int))))
    (pss_cons (ps_if (pt_not (pt_val (L3.pe_def dR hr (Nat.le_refl _) rfl (pa_cons (pe_tup (pa_cons pe_str (pa_cons (pe_op op_add_str (pv 9) pe_str) pa_nil))) (pa_cons (pe_tup (pa_cons pe_str (pa_cons (pe_op op_add_str (pv 9) pe_str) pa_nil))) pa_nil))))) (pss_one (ps_ret pe_bl)) pss_nil)
    (pss_one (ps_ret (L3.pe_def dR hr (Nat.le_refl _) rfl (pa_cons (pe_tup (pa_cons pe_str (pa_cons (pe_cmpR op_eq (pe_op op_mod (L3.pe_def dA hr (by omega) rfl (pa_cons (pv 0) (pa_cons pe_int pa_nil))) pe_int) pe_int (nomark _)) pa_nil))) (pa_cons (pe_tup (pa_cons pe_str (pa_cons (pe_op op_mod (L3.pe_def dA hr (by omega) rfl (pa_cons (pv 0) (pa_cons pe_int pa_nil))) pe_int) pa_nil))) pa_nil))))))))), ?main⟩
  case k1 =>
    rintro σ H Q ⟨⟨n, hn⟩, q⟩
    refine ⟨_, hn, _, _, rfl, rfl, ⟨by decide, by decide⟩, _, _, rfl, rfl, (by show (0 : Int) < 3; decide), _, _, rfl, rfl, _, rfl, ?_⟩
    exact ite_b (fun _ => ⟨_, hn, _, _, rfl, rfl, (by show (0 : Int) < 5; decide), q _⟩) (fun _ => ⟨_, hn, _, _, rfl, rfl, ⟨by decide, by decide⟩, _, _, rfl, rfl, (by show (0 : Int) < 2; decide), q _⟩)
  case k2 =>
    rintro σ H Q ⟨⟨n, hn⟩, ⟨n5, hn5⟩, q⟩
    refine ⟨_, hn, _, _, rfl, rfl, ⟨by decide, by decide⟩, _, _, rfl, rfl, (by show (0 : Int) < 3; decide), _, _, rfl, rfl, _, rfl, ?_⟩
    exact ite_b (fun _ => ⟨_, hn5, q _⟩) (fun _ => ⟨_, hn, _, _, rfl, rfl, ⟨by decide, by decide⟩, _, _, rfl, rfl, (by show (0 : Int) < 5; decide), q _⟩)
  case b1 =>
    rintro D σ H ⟨c0, c1, c2, c3, n, c5, x, y, c8, c9, va, vb, rfl, n0, n1, hx, hy, ova, ovb, k⟩
    refine ⟨_, rfl, _, _, rfl, rfl, ⟨by decide, by decide⟩, _, _, rfl, rfl, (by show (0 : Int) < 7; decide), rfl, _, rfl, ?_⟩
    exact ite_b (fun _ => ⟨_, rfl, k x va c8 H hx hx ova (Same.refl H)⟩) (fun _ => k y vb c8 H hx hy ovb (Same.refl H))
  case b2 =>
    rintro D σ H ⟨c0, c1, c2, c3, n, c5, x, y, c8, c9, va, vb, rfl, n0, n1, hx, hy, ova, ovb, k⟩
    have stay := k y vb c8 H hx hy ovb (Same.refl H)
    refine ⟨_, rfl, _, _, rfl, rfl, ⟨by decide, by decide⟩, _, _, rfl, rfl, (by show (0 : Int) < 7; decide), rfl, _, rfl, ?_⟩
    refine ite_b (fun _ => ?_) (fun _ => iteF stay)
    refine ⟨x, rfl, va, hx, rfl, _, rfl, ?_⟩
    rw [decS]
    cases va with
    | txt z =>
      rw [show decide ((Vl.txt z).kind = "text") = true from rfl]
      have hz : z.length ≤ sizeLine := small (by have := ova.1; omega)
      refine iteT ⟨x, rfl, .txt z, .str z, hx, rfl, _, rfl, _, _, rfl, rfl, ⟨by decide, by decide⟩, x, rfl, .txt z, .str z, hx, rfl, _, rfl, hz, _, _, rfl, rfl, _, _, rfl, rfl, (by show (0 : Int) < ((z.length : Nat) : Int) + 1; omega), _, rfl, _, rfl, hz, by show 2 ≤ sizeLine; decide, fun p hp => ?_⟩
      refine k (.ref p) (.txt _) c8 _ (At.same (same_new hp _) _ _ hx) (At.new hp (AtAll2 (At_str.mpr rfl) (At_str.mpr rfl))) ⟨?_, ?_⟩ (same_new hp _)
      · exact Nat.le_trans (sliceText_le _ _ _) ova.1
      · exact fun c hc => ova.2 c (slice_mem _ _ _ c hc)
    | num z => rw [show decide ((Vl.num z).kind = "text") = false from rfl]; exact iteF stay
    | tr z => rw [show decide ((Vl.tr z).kind = "text") = false from rfl]; exact iteF stay
    | non => rw [show decide (Vl.non.kind = "text") = false from rfl]; exact iteF stay
    | thing z => rw [show decide ((Vl.thing z).kind = "text") = false from rfl]; exact iteF stay
  case b3 =>
    rintro D σ H ⟨c0, c1, c2, c3, n, c5, x, y, c8, c9, va, vb, rfl, n0, n1, hx, hy, ova, ovb, k⟩
    have stay := k y vb c8 H hx hy ovb (Same.refl H)
    refine ⟨_, rfl, _, _, rfl, rfl, ⟨by decide, by decide⟩, _, _, rfl, rfl, (by show (0 : Int) < 7; decide), _, _, rfl, rfl, _, rfl, ?_⟩
    refine ite_b (fun _ => ?_) (fun _ => iteF stay)
    refine ⟨x, rfl, va, hx, rfl, _, rfl, ?_⟩
    rw [decS]
    cases va with
    | txt z =>
      rw [show decide ((Vl.txt z).kind = "text") = true from rfl]
      refine iteT ⟨x, rfl, .txt z, .str z, hx, rfl, rfl, _, rfl, ?_⟩
      rw [decS]
      by_cases h0 : z = ""
      · rw [decide_eq_true h0]
        exact iteF stay
      rw [decide_eq_false h0]
      obtain ⟨l, rfl⟩ : ∃ l, z = S l := ⟨z.cps.toList, (S_of z).symm⟩
      have hl : 0 < l.length := by
        cases l with
        | nil => exact absurd rfl h0
        | cons c t => simp
      have ov1 : l.length ≤ 200 := by have := ova.1; rw [S_len] at this; exact this
      have ov2 : Pr l := fun c hc => ova.2 c (by rw [S_cps]; exact hc)
      have hz : (S l).length ≤ sizeLine := by rw [S_len]; exact small (by omega)
      obtain ⟨m0, m1⟩ := emod_in (a := n / 3150) (b := (l.length : Int)) (by omega)
      refine iteT ⟨_, rfl, _, _, rfl, rfl, ⟨by decide, by decide⟩, x, rfl, .txt (S l), .str (S l), hx, rfl, _, rfl, hz, _, _, rfl, rfl, (by show (0 : Int) < (((S l).length : Nat) : Int); rw [S_len]; omega), ?_⟩
      dsimp only
      rw [S_len]
      generalize hat : n / 3150 % (l.length : Int) = at' at m0 m1
      obtain ⟨c, hc, hca⟩ := atI_mem (xs := l) m0 (by omega)
      have e1 := slice_to l (j := at') ⟨m0, by omega⟩
      have e2 := slice_from l (i := at' + 1) ⟨by omega, by omega⟩
      refine ⟨x, rfl, .txt (S l), .str (S l), hx, rfl, _, rfl, _, rfl, _, rfl, hz, x, rfl, .txt (S l), .str (S l), hx, rfl, _, rfl, _, _, c, rfl, rfl, hz, by rw [S_cps]; exact hca, rfl, .inr ⟨_, rfl, ?_⟩⟩
      rw [decS]
      obtain ⟨e, he, e0, e9⟩ : ∃ e, atI ("~!" : Str).cps.toList (if decide ((⟨#[c]⟩ : Str) = "~") = true then 1 else 0) = some e ∧ 32 ≤ e ∧ e ≤ 126 := by
        cases decide ((⟨#[c]⟩ : Str) = "~") with
        | true => exact ⟨33, rfl, by decide, by decide⟩
        | false => exact ⟨126, rfl, by decide, by decide⟩
      refine ⟨_, _, e, rfl, rfl, by decide +kernel, he, ?_⟩
      rw [e1]
      have l1 : (S (l.take at'.toNat)).length ≤ 200 := by rw [S_len, List.length_take]; omega
      refine ⟨_, _, rfl, rfl, (by show _ + 1 ≤ _; exact small (by omega)), x, rfl, .txt (S l), .str (S l), hx, rfl, _, rfl, _, _, rfl, rfl, _, rfl, _, rfl, hz, ?_⟩
      rw [e2]
      have ec : (S (l.take at'.toNat) ++ (⟨#[e]⟩ : Str)) = S (l.take at'.toNat ++ [e]) := S_append _ [e]
      rw [ec]
      refine ⟨_, _, rfl, rfl, (by rw [S_len, S_len, List.length_append, List.length_take, List.length_drop, List.length_singleton]; exact small (by omega)), by show 2 ≤ sizeLine; decide, fun p hp => ?_⟩
      rw [S_append]
      refine k (.ref p) (.txt _) _ _ (At.same (same_new hp _) _ _ hx) (At.new hp (AtAll2 (At_str.mpr rfl) (At_str.mpr rfl))) ⟨?_, ?_⟩ (same_new hp _)
      · rw [S_len, List.length_append, List.length_append, List.length_take, List.length_drop, List.length_singleton]; omega
      · rw [S_cps]
        exact ((ov2.sub fun c hc => List.mem_of_mem_take hc).append (fun d hd => by rw [List.mem_singleton.mp hd]; exact ⟨e0, e9⟩)).append (ov2.sub fun c hc => List.mem_of_mem_drop hc)
    | num z => rw [show decide ((Vl.num z).kind = "text") = false from rfl]; exact iteF (iteF stay)
    | tr z => rw [show decide ((Vl.tr z).kind = "text") = false from rfl]; exact iteF (iteF stay)
    | non => rw [show decide (Vl.non.kind = "text") = false from rfl]; exact iteF (iteF stay)
    | thing z => rw [show decide ((Vl.thing z).kind = "text") = false from rfl]; exact iteF (iteF stay)
  case main =>
    refine ⟨_, rfl, _, rfl, _, rfl, a, _, rfl, hS, fun cp hcp => ?_⟩
    obtain ⟨ms, em, hm⟩ := cut_ints ns (some 1) (some 40)
    rw [em]
    refine ⟨by show 1 ≤ sizeLine; decide, fun sp hsp => ?_⟩
    have s1 : Same H (upd H cp (.lst (ms.map V.int))) := same_new hcp _
    have s2 : Same (upd H cp (.lst (ms.map V.int))) (upd (upd H cp (.lst (ms.map V.int))) sp (.lst [.int 0])) := same_new hsp _
    have hS2 : SqL K (upd (upd H cp (.lst (ms.map V.int))) sp (.lst [.int 0])) a (ns.map V.int) := (s1.trans s2).seq hS
    have hC2 : upd (upd H cp (.lst (ms.map V.int))) sp (.lst [.int 0]) cp = some (.lst (ms.map V.int)) := s2 _ _ upd_same
    have hP2 : upd (upd H cp (.lst (ms.map V.int))) sp (.lst [.int 0]) sp = some (.lst [.int 0]) := upd_same
    have hcs : cp ≠ sp := ne_of_none (H := upd H cp (.lst (ms.map V.int))) upd_same hsp
    have has : ∀ o, H a = some o → a ≠ sp := fun o h => ne_of_none (s1 _ _ h) hsp
    have kS : ∀ H', (∀ q o, q ≠ sp → upd (upd H cp (.lst (ms.map V.int))) sp (.lst [.int 0]) q = some o → H' q = some o) → SqL K H' a (ns.map V.int) := fun H' kp => by
      rcases hS with (h | ⟨o, h⟩) | h
      · exact .inl (.inl (kp _ _ (has _ h) (s2 _ _ (s1 _ _ h))))
      · exact .inl (.inr ⟨o, kp _ _ (has _ h) (s2 _ _ (s1 _ _ h))⟩)
      · exact .inr h
    revert hC2 hP2 kS
    generalize upd (upd H cp (.lst (ms.map V.int))) sp (.lst [.int 0]) = H2
    intro hC2 hP2 kS
    refine ⟨8, rfl, by decide, by decide, for_range (n := 8) (fun i σ H' => (∃ o3 o4 o5 o6 o7 o8 : Option V, σ = [some (.ref a), some (.ref cp), some (.ref sp), o3, o4, o5, o6, o7, o8, none]) ∧ (∃ m : Nat, m ≤ 3 * i ∧ H' sp = some (.lst [.int m])) ∧ ∀ q o, q ≠ sp → H2 q = some o → H' q = some o)
      ⟨⟨_, _, _, _, _, _, rfl⟩, ⟨0, by omega, hP2⟩, fun _ _ _ h => h⟩ ?_ ?_⟩
    · rintro i σ H3 hi ⟨⟨o3, o4, o5, o6, o7, o8, rfl⟩, ⟨m, hm1, hm2⟩, kp⟩
      have hC3 : SqL K H3 cp (ms.map V.int) := SqL.of (kp _ _ hcs hC2)
      refine ⟨_, rfl, _, rfl, cp, sp, ms, m, [], rfl, hC3, by omega, hcs, hm2, by omega, fun n n0 n1 => ?_⟩
      have up1 : ∀ (H' : Hp) (o' : HO), (∀ q o, q ≠ sp → H2 q = some o → H' q = some o) → ∀ q o, q ≠ sp → H2 q = some o → upd H' sp o' q = some o := fun H' o' k' q o hq h => by rw [upd_ne hq]; exact k' q o hq h
      have kp4 := up1 H3 (.lst [.int ((m + 1 : Nat) : Int)]) kp
      have hm4 : upd H3 sp (.lst [.int ((m + 1 : Nat) : Int)]) sp = some (.lst [.int ((m + 1 : Nat) : Int)]) := upd_same
      revert kp4 hm4
      generalize upd H3 sp (.lst [.int ((m + 1 : Nat) : Int)]) = H4
      intro kp4 hm4
      refine ⟨⟨n, rfl⟩, fun kd => ?_⟩
      refine ⟨_, rfl, _, rfl, cp, sp, ms, m + 1, [], rfl, SqL.of (kp4 _ _ hcs hC2), by omega, hcs, hm4, by omega, fun n2 n20 n21 => ?_⟩
      have kp5 := up1 H4 (.lst [.int ((m + 1 + 1 : Nat) : Int)]) kp4
      have hm5 : upd H4 sp (.lst [.int ((m + 1 + 1 : Nat) : Int)]) sp = some (.lst [.int ((m + 1 + 1 : Nat) : Int)]) := upd_same
      revert kp5 hm5
      generalize upd H4 sp (.lst [.int ((m + 1 + 1 : Nat) : Int)]) = H5
      intro kp5 hm5
      refine ⟨_, rfl, n2, kd, rfl, n20, n21, fun va x H6 ova s6 hx6 => ?_⟩
      have kp6 : ∀ q o, q ≠ sp → H2 q = some o → H6 q = some o := fun q o hq h => s6 _ _ (kp5 q o hq h)
      refine ⟨_, rfl, _, rfl, cp, sp, ms, m + 1 + 1, [], rfl, SqL.of (kp6 _ _ hcs hC2), by omega, hcs, s6 _ _ hm5, by omega, fun n3 n30 n31 => ?_⟩
      have kp7 := up1 H6 (.lst [.int ((m + 1 + 1 + 1 : Nat) : Int)]) kp6
      have hm7 : upd H6 sp (.lst [.int ((m + 1 + 1 + 1 : Nat) : Int)]) sp = some (.lst [.int ((m + 1 + 1 + 1 : Nat) : Int)]) := upd_same
      have hx7 : At K (upd H6 sp (.lst [.int ((m + 1 + 1 + 1 : Nat) : Int)])) va.d x := At.upd (s6 _ _ hm5) hx6
      revert kp7 hm7 hx7
      generalize upd H6 sp (.lst [.int ((m + 1 + 1 + 1 : Nat) : Int)]) = H7
      intro kp7 hm7 hx7
      refine ⟨⟨n, rfl⟩, ⟨kd, rfl⟩, fun kd2 => ⟨n3, kd2, rfl, n30, n31, fun vb y H8 ovb s8 hy8 => ?_⟩⟩
      have hx8 := At.same s8 _ _ hx7
      refine ⟨_, _, _, _, n, _, x, y, _, _, va, vb, rfl, n0, n1, hx8, hy8, ova, ovb, fun y1 vb1 c81 H9 hx9 hy9 ov1 s9 => ?_⟩
      refine ⟨_, _, _, _, n, _, x, y1, _, _, va, vb1, rfl, n0, n1, hx9, hy9, ova, ov1, fun y2 vb2 c82 H10 hx10 hy10 ov2 s10 => ?_⟩
      refine ⟨_, _, _, _, n, _, x, y2, _, _, va, vb2, rfl, n0, n1, hx10, hy10, ova, ov2, fun y3 vb3 c83 H11 hx11 hy11 ov3 s11 => ?_⟩
      refine ⟨_, rfl, _, rfl, x, y3, va, vb3, rfl, hx11, hy11, ova, ov3, fun H12 s12 => ⟨_, rfl, iteF ?_⟩⟩
      refine ⟨_, rfl, _, rfl, y3, x, vb3, va, rfl, At.same s12 _ _ hy11, At.same s12 _ _ hx11, ov3, ova, fun H13 s13 => ⟨_, rfl, iteF ?_⟩⟩
      have sAll := ((((s8.trans s9).trans s10).trans s11).trans s12).trans s13
      exact ⟨⟨_, _, _, _, _, _, rfl⟩, ⟨m + 1 + 1 + 1, by omega, sAll _ _ hm7⟩, fun q o hq h => sAll _ _ (kp7 q o hq h)⟩
    · rintro σ H3 ⟨⟨o3, o4, o5, o6, o7, o8, rfl⟩, ⟨m, hm1, hm2⟩, kp⟩
      have hS3 := kS H3 kp
      refine ⟨_, rfl, a, ns, 0, rfl, hS3, by decide, fun c1 => ?_⟩
      obtain ⟨m0, m1⟩ := emod_in (a := c1) (b := 180) (by decide)
      refine ⟨_, _, rfl, rfl, (by show (0 : Int) < 180; decide), _, _, rfl, rfl, by show 0 ≤ c1 % 180; exact m0, by show c1 % 180 ≤ 4096; omega, by decide +kernel, ?_⟩
      obtain ⟨lb, eb, pb, hlb⟩ := mul_x m0 (show c1 % 180 ≤ 179 by omega)
      rw [eb]
      have c0 : ("customer number " : Str) = S ("customer number " : Str).cps.toList := (S_of _).symm
      have pc : Pr ("customer number " : Str).cps.toList := by unfold Pr; decide +kernel
      have lc : ("customer number " : Str).cps.toList.length = 16 := by decide +kernel
      rw [c0]
      generalize ("customer number " : Str).cps.toList = cl at pc lc
      refine ⟨_, _, rfl, rfl, by rw [S_len, S_len]; exact small (by omega), ?_⟩
      rw [S_append]
      have pl : Pr (cl ++ lb) := pc.append pb
      have ll : (cl ++ lb).length ≤ 195 := by rw [List.length_append]; omega
      generalize cl ++ lb = ol at pl ll
      have dig : ∀ c : Nat, 32 ≤ c → c ≤ 126 → Vl.ok (.txt (S (ol ++ [c]))) := fun c h1 h2 => ⟨by rw [S_len, List.length_append, List.length_singleton]; omega, by rw [S_cps]; exact pl.append fun d hd => by rw [List.mem_singleton.mp hd]; exact ⟨h1, h2⟩⟩
      have e1 : S ol ++ ("1" : Str) = S (ol ++ [49]) := S_append ol [49]
      have e2 : S ol ++ ("2" : Str) = S (ol ++ [50]) := S_append ol [50]
      refine ⟨_, rfl, _, _, rfl, rfl, by rw [S_len]; exact small (by show _ + 1 ≤ _; omega), by show 2 ≤ sizeLine; decide, fun p1 hp1 => ?_⟩
      refine ⟨_, rfl, _, _, rfl, rfl, by rw [S_len]; exact small (by show _ + 1 ≤ _; omega), by show 2 ≤ sizeLine; decide, fun p2 hp2 => ?_⟩
      rw [e1] at hp2
      rw [e1, e2]
      have t1 := same_new hp1 (.tup [.str "text", .str (S (ol ++ [49]))])
      have t2 := same_new hp2 (.tup [.str "text", .str (S (ol ++ [50]))])
      refine ⟨_, _, .txt (S (ol ++ [49])), .txt (S (ol ++ [50])), rfl, At.same t2 _ _ (At.new hp1 (AtAll2 (At_str.mpr rfl) (At_str.mpr rfl))), At.new hp2 (AtAll2 (At_str.mpr rfl) (At_str.mpr rfl)), dig 49 (by decide) (by decide), dig 50 (by decide) (by decide), fun H4 s4 => ⟨_, rfl, iteF ?_⟩⟩
      have sH4 : Same H3 H4 := (t1.trans t2).trans s4
      refine ⟨_, rfl, a, ns, 0, rfl, sH4.seq hS3, by decide, fun c2 => ?_⟩
      refine ⟨_, _, rfl, rfl, (by show (0 : Int) < 2; decide), rfl, by show 2 ≤ sizeLine; decide, fun p5 hp5 => ?_⟩
      have t5 := same_new hp5 (.tup [.str "truth", .bl (decide (V.int (c2 % 2) = V.int 1))])
      refine ⟨_, rfl, a, ns, 0, rfl, (sH4.trans t5).seq hS3, by decide, fun c3 => ?_⟩
      refine ⟨_, _, rfl, rfl, (by show (0 : Int) < 2; decide), by show 2 ≤ sizeLine; decide, fun p6 hp6 => ?_⟩
      have t6 := same_new hp6 (.tup [.str "number", .int (c3 % 2)])
      obtain ⟨k0, k1⟩ := emod_in (a := c3) (b := 2) (by decide)
      refine ⟨_, _, .tr _, .num (c3 % 2), rfl, At.same t6 _ _ (At.new hp5 (AtAll2 (At_str.mpr rfl) (At_bl.mpr rfl))), At.new hp6 (AtAll2 (At_str.mpr rfl) (At_int.mpr rfl)), True.intro, ?_, fun H7 _ => q H7⟩
      show (c3 % 2).natAbs ≤ 10 ^ 30
      exact Nat.le_trans (show (c3 % 2).natAbs ≤ 1 by omega) (by decide +kernel)
end
end GS
set_option Elab.async false
set_option linter.all false
set_option maxRecDepth 100000
set_option maxHeartbeats 4000000
namespace L2
open PySem PySem.Spec PyProof.Rows
section
variable {X : Cx}
theorem op_andB : OpR X (binaryOp .BitAnd) (fun x y H Q => ∃ i j, x = .bl i ∧ y = .bl j ∧ Q (.bl (i && j)) H) := by
  intro pins s σ H x y v u Q I rx ry h
  obtain ⟨i, j, rfl, rfl, q⟩ := h
  cases rx; cases ry
  exact and_bool (fin_bl I q rfl)
theorem op_orB : OpR X (binaryOp .BitOr) (fun x y H Q => ∃ i j, x = .bl i ∧ y = .bl j ∧ Q (.bl (i || j)) H) := by
  intro pins s σ H x y v u Q I rx ry h
  obtain ⟨i, j, rfl, rfl, q⟩ := h
  cases rx; cases ry
  exact or_bool (fin_bl I q rfl)
theorem op_gt_str : OpR X (compareOp .Gt) (fun x y H Q => ∃ i j, x = .str i ∧ y = .str j ∧ Q (.bl (decide (j.cps.toList < i.cps.toList))) H) := by
  intro pins s σ H x y v u Q I rx ry h
  obtain ⟨i, j, rfl, rfl, q⟩ := h
  obtain ⟨t, rfl⟩ := rx
  obtain ⟨t', rfl⟩ := ry
  exact PySem.P.gt_str (fin_bl I q rfl)
theorem op_ge_str : OpR X (compareOp .GtE) (fun x y H Q => ∃ i j, x = .str i ∧ y = .str j ∧ Q (.bl (!decide (i.cps.toList < j.cps.toList))) H) := by
  intro pins s σ H x y v u Q I rx ry h
  obtain ⟨i, j, rfl, rfl, q⟩ := h
  obtain ⟨t, rfl⟩ := rx
  obtain ⟨t', rfl⟩ := ry
  exact PySem.P.ge_str (fin_bl I q rfl)
/-- one rule of two: whichever fits the things at hand -/
theorem op_either {o : Value → Value → PySem.Sem Value} {r r' : R2} (h : OpR X o r) (h' : OpR X o r') : OpR X o (fun x y H Q => r x y H Q ∨ r' x y H Q) := by
  intro pins s σ H x y v u Q I rx ry hq
  rcases hq with hq | hq
  · exact h pins s σ H x y v u Q I rx ry hq
  · exact h' pins s σ H x y v u Q I rx ry hq
end
end L2
namespace GS
open PySem
theorem or_and_sum (a b : Nat) : (a ||| b) + (a &&& b) = a + b := by
  induction a using Nat.strongRecOn generalizing b with
  | ind a ih =>
    by_cases h0 : a = 0
    · subst h0; simp
    · have := ih (a / 2) (by omega) (b / 2)
      rw [or_step, and_step]
      have e : bitOf true a b + bitOf false a b = a % 2 + b % 2 := by
        unfold bitOf
        have h1 : a % 2 < 2 := Nat.mod_lt _ (by decide)
        have h2 : b % 2 < 2 := Nat.mod_lt _ (by decide)
        generalize a % 2 = p at h1
        generalize b % 2 = q at h2
        have hp : p = 0 ∨ p = 1 := by omega
        have hq : q = 0 ∨ q = 1 := by omega
        rcases hp with rfl | rfl <;> rcases hq with rfl | rfl <;> decide
      omega
theorem bitOr_pp {x y : Int} (hx : 0 ≤ x) (hy : 0 ≤ y) : PySem.Builtin.bitOr x y = ((x.toNat ||| y.toNat : Nat) : Int) := by
  rw [PyProof.Rows.bitOr_and, PyProof.Rows.bitAnd_pp hx hy]
  have := or_and_sum x.toNat y.toNat
  omega
theorem lex_tri (a b : List Nat) : (!decide (b < a)) = (decide (a < b) || decide (a = b)) := by
  rw [Bool.eq_iff_iff]
  simp only [Bool.not_eq_true', decide_eq_false_iff_not, Bool.or_eq_true, decide_eq_true_eq, List.not_lt]
  exact List.le_iff_lt_or_eq
end GS
set_option Elab.async false
set_option linter.all false
set_option maxRecDepth 100000
set_option maxHeartbeats 4000000
namespace GS
open PySem PyProof.Rows L2
section
variable {X : Cx}
theorem op_inD {k : Nat} (hr : Room k X.A) : OpR X (compareOp .In) (rInD X false) := by
  intro pins s σ H x y v u Q I rx ry h
  obtain ⟨d, ds, hx, hy, hd, q⟩ := h
  obtain ⟨p, xs, rfl, hq, ha⟩ := At_tup.mp hy
  cases ry
  obtain ⟨its, r, pl, hz⟩ := I.tuple hq
  obtain ⟨f, f1, f2⟩ := mem_D I rx hx ha r X.A.in1 (fun e he => by have := hr.units; have := hd e he; show X.A.units + 1 + _ < _; omega)
  refine SeqAt.in_tupleAt f pl (fun w hw => f1 w (by simpa using hw)) ⟨.bl _, H, I, rfl, ?_⟩
  rw [show its.toArray.any f = its.any f by simp, f2]
  exact q
theorem Vl.eq_all (v u : Vl) : eqD v.d u.d = decide (v = u) := by
  by_cases hk : v.kind = u.kind
  · exact Vl.eq_d hk
  · rw [Vl.kind_ne hk]
    revert hk
    cases v <;> cases u <;> intro hk <;> first
      | exact absurd rfl hk
      | (simp only [Vl.d, eqD, eqDs]; rfl)
      | (simp only [Vl.d, eqD, eqDs]; simp)
theorem pe_andB {e e' : Expr} {i l : Nat} {pos : Pos} (h : L3.LE X e (tVar i)) (h' : L3.LE X e' (tVar l)) : L3.LE X (.BoolOp .And [e, e'] pos) (tBB (fun a b => a && b) i l) := by
  refine le_imp (L3.pe_and h (L3.pe_one h')) fun σ H Q z => ?_
  obtain ⟨a, ha, b, hb, q⟩ := z
  refine ⟨_, ha, a, rfl, ?_⟩
  cases a with
  | true => exact iteT ⟨_, hb, q⟩
  | false => exact iteF q
/-- what is told of two comparisons that are written out -/
theorem cmp_lt (x y : Int) : decide (x ≤ y) = (decide (x < y) || decide (Vl.num x = Vl.num y)) := by
  rw [Bool.eq_iff_iff]; simp only [Bool.or_eq_true, decide_eq_true_eq, Vl.num.injEq]; omega
theorem cmp_gt (x y : Int) : decide (y < x) = (!decide (x < y) && !decide (Vl.num x = Vl.num y)) := by
  rw [Bool.eq_iff_iff]; simp only [Bool.and_eq_true, Bool.not_eq_true', decide_eq_false_iff_not, decide_eq_true_eq, Vl.num.injEq]; omega
theorem cmp_ge (x y : Int) : decide (y ≤ x) = !decide (x < y) := by
  rw [Bool.eq_iff_iff]; simp only [Bool.not_eq_true', decide_eq_false_iff_not, decide_eq_true_eq]; omega
theorem txt_eq (x y : Str) : decide (Vl.txt x = Vl.txt y) = decide (x.cps.toList = y.cps.toList) := by
  rw [Bool.eq_iff_iff]; simp only [decide_eq_true_eq, Vl.txt.injEq]
  exact ⟨fun e => by rw [e], fun e => by rw [← S_of x, ← S_of y, e]⟩
theorem cmp_ltS (x y : Str) : (!decide (y.cps.toList < x.cps.toList)) = (decide (x.cps.toList < y.cps.toList) || decide (Vl.txt x = Vl.txt y)) := by rw [txt_eq]; exact lex_tri _ _
theorem cmp_gtS (x y : Str) : decide (y.cps.toList < x.cps.toList) = (!decide (x.cps.toList < y.cps.toList) && !decide (Vl.txt x = Vl.txt y)) := by
  rw [← Bool.not_or, ← cmp_ltS, Bool.not_not]
end
end GS
set_option Elab.async false
set_option linter.all false
set_option maxRecDepth 100000
set_option maxHeartbeats 8000000
namespace GS
open PySem L2 PyProof.Rows
/-! ### what the top has written -/
def FunAt (K : PySem.W.Frag) (mg : Str → Option Value) (name : Str) (st : Stmt) : Prop := ∃ (f : Addr) (fd : FuncData), mg name = some (.ref f) ∧ Fun K name name st f fd
theorem fun_at {K : PySem.W.Frag} {h : Heap} {mg : Str → Option Value} {name : Str} {st : Stmt} {f : Addr} {oc : Value} {od an : Option Addr} {osl : Array (Option Value)} {kV doc pm cdv ct : Value} (X : K.In h) (G : h.Ns mainGlobals mg)
    (a : PySem.W.nsIn K mainGlobals name = some (some (.ref f))) (l : K.lookup f = some ⟨oc, od, .func (PySem.W.fnOf name name (defArgs st) (defBody st) (defScope st) .none kV doc pm an cdv ct), osl⟩)
    (c : PySem.W.codeIn K cdv name = true) (k : PySem.W.keepIn K (.ref f) = true) : FunAt K mg name st := ⟨f, _, PySem.W.mg_of X G a, fun_mk l c k⟩
theorem int_at {K : PySem.W.Frag} {h : Heap} {mg : Str → Option Value} {name : Str} {x z : Int} {t : Tok} (X : K.In h) (G : h.Ns mainGlobals mg) (a : PySem.W.nsIn K mainGlobals name = some (some (.int x t))) (e : x = z) : ∃ t, mg name = some (.int z t) :=
  ⟨t, by rw [← e]; exact PySem.W.mg_of X G a⟩
section
variable {P : Program} {w : World} {K : PySem.W.Frag} {mg : Str → Option Value}
/-- the law, where the program's three defs keep what they promise -/
theorem law_of (g : Glb mg) (f1 : FunAt K mg "_law_cell_at" sCellAt) (f2 : FunAt K mg "_law_cell" sCell) (f3 : FunAt K mg "_law_same" sSame) (f4 : FunAt K mg "_law_figure" sFigure) (f5 : FunAt K mg "_law_text" sText) (f6 : FunAt K mg "_law_value" sValue)
    (f7 : FunAt K mg "_law_divided" sDivided) (f8 : FunAt K mg "_law_bits" sBits) (f9 : FunAt K mg "_law_number" sNumber) (f10 : FunAt K mg "_law_numbers" sNumbers) (f11 : FunAt K mg "_law_due" sDue) (f12 : FunAt K mg "_law_right" sRight) (f13 : FunAt K mg "law" sLaw)
    (dT : ∀ base, Def P w K mg base "two" ["sign", "a", "b"] 5 (spTwo K)) (dM : ∀ base, Def P w K mg base "minus" ["a"] 5 (spMinus K)) (dW : ∀ base, Def P w K mg base "is_wanting" ["a"] 5 (spWant K))
    {fa : Addr} (hfa : mg "law" = some (.ref fa)) :
    ∃ fd : FuncData, (∀ (s : Shared) (v : Value), BindsTo s fd ⟨[v], []⟩ [("_law_script", v)]) ∧ ∀ base : Heap, FnOk P w K mg base CX0 7 fa fd ["_law_script"] (spLaw K) := by
  obtain ⟨a1, d1, m1, F1⟩ := f1
  obtain ⟨a2, d2, m2, F2⟩ := f2
  obtain ⟨a3, d3, m3, F3⟩ := f3
  obtain ⟨a4, d4, m4, F4⟩ := f4
  obtain ⟨a5, d5, m5, F5⟩ := f5
  obtain ⟨a6, d6, m6, F6⟩ := f6
  obtain ⟨a7, d7, m7, F7⟩ := f7
  obtain ⟨a8, d8, m8, F8⟩ := f8
  obtain ⟨a9, d9, m9, F9⟩ := f9
  obtain ⟨a10, d10, m10, F10⟩ := f10
  obtain ⟨a11, d11, m11, F11⟩ := f11
  obtain ⟨a12, d12, m12, F12⟩ := f12
  obtain ⟨a13, d13, m13, F13⟩ := f13
  rw [m13] at hfa
  have ea : a13 = fa := by injection hfa with e; injection e
  subst ea
  refine ⟨d13, fun s v => ?_, fun base => ?_⟩
  · obtain ⟨oc, od, kV, doc, pm, an, cdv, ct, osl, rfl, lk, hcd⟩ := F13.ex
    exact .of_eq rfl
  have b3 := F3.binds (ps := ["_law_found", "_law_due_here"]) fun _ _ _ _ _ _ us hl => match us, hl with | [_, _], _ => rfl
  have D1 : Def P w K mg base "_law_cell_at" ["_law_script", "_law_k"] 1 (spCellAt K) := def_mk F1 m1 (F1.binds fun _ _ _ _ _ _ us hl => match us, hl with | [_, _], _ => rfl) (ok_CellAt g F1)
  have D2 : Def P w K mg base "_law_cell" ["_law_cells", "_law_spot"] 1 (spCell K) := def_mk F2 m2 (F2.binds fun _ _ _ _ _ _ us hl => match us, hl with | [_, _], _ => rfl) (ok_Cell g F2)
  have D3 : Def P w K mg base "_law_same" ["_law_found", "_law_due_here"] 5 (spSame K 5) := def_mk F3 m3 b3 (ok_Same g F3 m3 b3 5)
  have D4 : Def P w K mg base "_law_figure" ["_law_n"] 1 spFigure := def_mk F4 m4 (F4.binds fun _ _ _ _ _ _ us hl => match us, hl with | [_], _ => rfl) (ok_Figure F4)
  have D5 : Def P w K mg base "_law_text" ["_law_n"] 1 spText := def_mk F5 m5 (F5.binds fun _ _ _ _ _ _ us hl => match us, hl with | [_], _ => rfl) (ok_Text g F5)
  have D6 : Def P w K mg base "_law_value" ["_law_n", "_law_kind"] 2 (spValue K) := def_mk F6 m6 (F6.binds fun _ _ _ _ _ _ us hl => match us, hl with | [_, _], _ => rfl) (ok_Value g F6 D4 D5)
  have D7 : Def P w K mg base "_law_divided" ["_law_one", "_law_other"] 1 spDivided := def_mk F7 m7 (F7.binds fun _ _ _ _ _ _ us hl => match us, hl with | [_, _], _ => rfl) (ok_Divided g F7)
  have D8 : Def P w K mg base "_law_bits" ["_law_sign", "_law_one", "_law_other"] 1 spBits := def_mk F8 m8 (F8.binds fun _ _ _ _ _ _ us hl => match us, hl with | [_, _, _], _ => rfl) (ok_Bits F8)
  have D9 : Def P w K mg base "_law_number" ["_law_n"] 1 (spNumber K) := def_mk F9 m9 (F9.binds fun _ _ _ _ _ _ us hl => match us, hl with | [_], _ => rfl) (ok_Number g F9)
  have D10 : Def P w K mg base "_law_numbers" ["_law_sign", "_law_one", "_law_other"] 2 (spNumbers K) := def_mk F10 m10 (F10.binds fun _ _ _ _ _ _ us hl => match us, hl with | [_, _, _], _ => rfl) (ok_Numbers g F10 D9 D7 D8)
  have D11 : Def P w K mg base "_law_due" ["_law_sign", "_law_a", "_law_b"] 3 (spDue K) := def_mk F11 m11 (F11.binds fun _ _ _ _ _ _ us hl => match us, hl with | [_, _, _], _ => rfl) (ok_Due g F11 D10)
  have D12 : Def P w K mg base "_law_right" ["_law_a", "_law_b"] 6 (spRight K) := def_mk F12 m12 (F12.binds fun _ _ _ _ _ _ us hl => match us, hl with | [_, _], _ => rfl) (ok_Right (Nat.le_refl 5) g F12 D3 D11 (dT base) (dM base) (dW base))
  exact ok_Law (by decide) g F13 D1 D2 D6 D12
end
theorem walk {l : PySem.W.OpenLaw} {q : Program} {loose : List Str} {XP : (Str → Option Value) → Heap → Prop} {YP : World → Heap → Prop} {d : DefRec} {K : Params → PySem.W.Frag} (hn : l.most = some 63) (hdf : d.params.defaults = [])
    (hY : ∀ (w : World) (h : Heap), YP w h → (K w.params).In h)
    (F : ∀ (w : World) (mg : Str → Option Value) (fa : Addr) (h : Heap), (K w.params).In h → h.Ns mainGlobals mg → mg d.name = some (.ref fa) →
      ∃ fd : FuncData, (∀ (s : Shared) (u : Value), BindsTo s fd ⟨[u], []⟩ [("_law_script", u)]) ∧ ∀ base : Heap, FnOk l.prog w (K w.params) mg base CX0 7 fa fd ["_law_script"] (spLaw (K w.params))) :
    PySem.W.WalkO q loose XP YP l.row.toRowW d [] (fun f vs => PySem.call f vs) :=
  L2.walk_of (n := 63) (k := 7) (x := "_law_script") (CX := fun _ => CX0) (sp := fun w => spLaw (K w.params)) hn (by decide) hdf ⟨rfl, by decide, by decide, rfl⟩ hY (fun w mg fa h a b c => let ⟨fd, p, q⟩ := F w mg fa h a b c; ⟨fd, p, fun base _ _ => q base⟩) (fun _ _ a ns hl _ hS => ⟨a, ns, rfl, hS, hl, fun _ => rfl⟩) fun _ _ _ _ _ z => z
end GS
set_option Elab.async false
set_option linter.all false
set_option maxRecDepth 100000
set_option maxHeartbeats 4000000
namespace GS
open PySem PyProof.Rows
open L2 hiding pe_int pe_bl pe_non pe_str pv pe_glob pe_bltn pe_op pe_un pe_cmpR pe_one pe_and pe_or pe_ifExp pe_ix po_none po_some pe_slice pa_nil pa_cons pe_lst pe_tup pe_dnewK pe_callB pe_callTy pe_bm pe_bm0 pt_cmpR pt_val pt_not pw_and1 pw_or1 pw_and pw_or pg_name pgs_nil pgs_cons pg_tup pi_list pi_tup pi_str pi_range1 pi_range2 pe_comp ps_pass ps_break ps_continue ps_ret ps_retN ps_expr ps_set ps_asg ps_if ps_while ps_for pss_nil pss_cons pss_one
open L3
abbrev pNumberA : Stmt := top 3
abbrev pTextA : Stmt := top 4
abbrev pTruthA : Stmt := top 5
abbrev pCompared : Stmt := top 6
abbrev pNumbers : Stmt := top 7
abbrev pTexts : Stmt := top 8
abbrev pTruths : Stmt := top 9
abbrev pTwo : Stmt := top 10
abbrev pMinus : Stmt := top 11
abbrev pWant : Stmt := top 12
section
variable {P : Program} {w : World} {K : PySem.W.Frag} {mg : Str → Option Value} {base : Heap} {f : Addr} {fd : FuncData}
structure GlbP (mg : Str → Option Value) : Prop where
  great : ∃ t, mg "MOST_NUMBER" = some (.int 1000000000000000000000000000000 t)
  long : ∃ t, mg "MOST_TEXT_SIGNS" = some (.int 200 t)
/-! ### truth_answer, text_answer, number_answer -/
def spTruthA (K : PySem.W.Frag) : Sp := fun vs H Q _ => ∃ z : Bool, vs = [.bl z] ∧ tells K H Q (valueD (truthD z))
theorem scTruthA : FnScope ["b"] ["b"] (defScope pTruthA) := ⟨rfl, rfl, rfl, by decide +kernel, rfl, by decide +kernel, by decide +kernel⟩
theorem ok_TruthA (F : Fun K "truth_answer" "truth_answer" pTruthA f fd) : FnOk P w K mg base CX0 1 f fd ["b"] (spTruthA K) := by
  refine F.okI scTruthA (fun vs H Q E h => ?_) (fun cdv A outer s H vs Q E hr h => ?_)
  · obtain ⟨_, rfl, _⟩ := h; rfl
  obtain ⟨z, rfl, q⟩ := h
  exact ⟨_, pss_one (ps_ret (pe_tup (pa_cons pe_str (pa_cons (pe_tup (pa_cons pe_str (pa_cons (pv 0) pa_nil))) pa_nil)))), _, rfl, q.value (Same.refl H) (At_bl.mpr rfl)⟩
def textD (z : Str) : D := if z.length < 201 then valueD (.tup [.str "text", .str z]) else faultD "GreatFault"
def spTextA (K : PySem.W.Frag) : Sp := fun vs H Q _ => ∃ z : Str, vs = [.str z] ∧ z.length ≤ 400 ∧ tells K H Q (textD z)
theorem scTextA : FnScope ["t"] ["t"] (defScope pTextA) := ⟨rfl, rfl, rfl, by decide +kernel, rfl, by decide +kernel, by decide +kernel⟩
theorem ok_TextA (g : Glb mg) (gp : GlbP mg) (F : Fun K "text_answer" "text_answer" pTextA f fd) : FnOk P w K mg base CX0 1 f fd ["t"] (spTextA K) := by
  refine F.okI scTextA (fun vs H Q E h => ?_) (fun cdv A outer s H vs Q E hr h => ?_)
  · obtain ⟨_, rfl, _⟩ := h; rfl
  obtain ⟨z, rfl, hz, q⟩ := h
  refine ⟨_, pss_cons (ps_if (pt_cmpR op_gt (pe_callB call_len_str rfl g.nLen bLen (pa_cons (pv 0) pa_nil)) (L3.pe_gint rfl gp.long) (nomark _)) (pss_one (ps_ret (pe_tup (pa_cons pe_str (pa_cons pe_str pa_nil))))) pss_nil)
    (pss_one (ps_ret (pe_tup (pa_cons pe_str (pa_cons (pe_tup (pa_cons pe_str (pa_cons (pv 0) pa_nil))) pa_nil))))), ?_⟩
  unfold textD at q
  refine ⟨_, rfl, _, rfl, small (by omega), _, _, rfl, rfl, _, rfl, ?_⟩
  dsimp only
  by_cases h2 : z.length < 201
  · rw [if_pos h2] at q
    rw [decide_eq_false (show ¬ (200 : Int) < (z.length : Int) by omega)]
    exact iteF ⟨_, rfl, q.value (Same.refl H) (At_str.mpr rfl)⟩
  · rw [if_neg h2] at q
    rw [decide_eq_true (show (200 : Int) < (z.length : Int) by omega)]
    exact iteT (q.fault (Same.refl H))
theorem scNumberA : FnScope ["n"] ["n"] (defScope pNumberA) := ⟨rfl, rfl, rfl, by decide +kernel, rfl, by decide +kernel, by decide +kernel⟩
theorem ok_NumberA (gp : GlbP mg) (F : Fun K "number_answer" "number_answer" pNumberA f fd) : FnOk P w K mg base CX0 1 f fd ["n"] (spNumber K) := by
  refine F.okI scNumberA (fun vs H Q E h => ?_) (fun cdv A outer s H vs Q E hr h => ?_)
  · obtain ⟨n, rfl, _⟩ := h; rfl
  obtain ⟨n, rfl, q⟩ := h
  refine ⟨_, pss_cons (ps_if (LW.pt (pw_or (pt_cmpR op_gt (pv 0) (L3.pe_gint rfl gp.great) (nomark _)) (pw_or1 (pt_cmpR op_lt (pv 0) (pe_un un_neg (L3.pe_gint rfl gp.great)) (nomark _))))) (pss_one (ps_ret (pe_tup (pa_cons pe_str (pa_cons pe_str pa_nil))))) pss_nil)
    (pss_one (ps_ret (pe_tup (pa_cons pe_str (pa_cons (pe_tup (pa_cons pe_str (pa_cons (pv 0) pa_nil))) pa_nil))))), ?_⟩
  refine ⟨_, rfl, _, _, rfl, rfl, _, rfl, ?_⟩
  dsimp only
  unfold numberD at q
  have e10 : (1000000000000000000000000000000 : Int) = ((10 ^ 30 : Nat) : Int) := by decide +kernel
  by_cases h1 : (1000000000000000000000000000000 : Int) < n
  · rw [decide_eq_true h1]
    rw [if_neg (show ¬ n.natAbs ≤ 10 ^ 30 by rw [e10] at h1; generalize (10 ^ 30 : Nat) = m at *; omega)] at q
    exact iteT (iteT (q.fault (Same.refl H)))
  · rw [decide_eq_false h1]
    refine iteF ⟨_, rfl, _, rfl, _, _, rfl, rfl, _, rfl, ?_⟩
    dsimp only
    by_cases h2 : n < -(1000000000000000000000000000000 : Int)
    · rw [decide_eq_true h2]
      rw [if_neg (show ¬ n.natAbs ≤ 10 ^ 30 by rw [e10] at h2; generalize (10 ^ 30 : Nat) = m at *; omega)] at q
      exact iteT (q.fault (Same.refl H))
    · rw [decide_eq_false h2]
      rw [if_pos (show n.natAbs ≤ 10 ^ 30 by rw [e10] at h1 h2; generalize (10 ^ 30 : Nat) = m at *; omega)] at q
      exact iteF ⟨_, rfl, q.value (Same.refl H) (At_int.mpr rfl)⟩
/-! ### compared -/
def spCompared (K : PySem.W.Frag) : Sp := fun vs H Q _ => ∃ (z : Str) (a b : Vl) (x y : V), vs = [.str z, x, y] ∧ isCmp z ∧ a.part = some x ∧ b.part = some y ∧ ((∃ i j, a = .num i ∧ b = .num j) ∨ ∃ i j, a = .txt i ∧ b = .txt j) ∧ tells K H Q (valueD (truthD (cmpB z (ltB a b) (decide (a = b)))))
theorem scCompared : FnScope ["sign", "one", "other"] ["sign", "one", "other"] (defScope pCompared) := ⟨rfl, rfl, rfl, by decide +kernel, rfl, by decide +kernel, by decide +kernel⟩
theorem ok_Compared (F : Fun K "compared" "compared" pCompared f fd) (dT : Def P w K mg base "truth_answer" ["b"] 1 (spTruthA K)) : FnOk P w K mg base CX0 2 f fd ["sign", "one", "other"] (spCompared K) := by
  refine F.okI scCompared (fun vs H Q E h => ?_) (fun cdv A outer s H vs Q E hr h => ?_)
  · obtain ⟨_, _, _, _, _, rfl, _⟩ := h; rfl
  obtain ⟨z, a, b, x, y, rfl, hz, hx, hy, hab, q⟩ := h
  refine ⟨_, pss_cons (ps_if (pt_cmpR op_eq (pv 0) pe_str (nomark _)) (pss_one (ps_ret (L3.pe_def dT hr (by decide) rfl (pa_cons (pe_cmpR (op_lt.or op_lt_str) (pv 1) (pv 2) (nomark _)) pa_nil)))) pss_nil)
    (pss_cons (ps_if (pt_cmpR op_eq (pv 0) pe_str (nomark _)) (pss_one (ps_ret (L3.pe_def dT hr (by decide) rfl (pa_cons (pe_cmpR (op_le.or op_le_str) (pv 1) (pv 2) (nomark _)) pa_nil)))) pss_nil)
    (pss_one (ps_ret (pe_ifExp (pt_cmpR op_eq (pv 0) pe_str (nomark _)) (L3.pe_def dT hr (by decide) rfl (pa_cons (pe_cmpR (op_gt.or op_gt_str) (pv 1) (pv 2) (nomark _)) pa_nil)) (L3.pe_def dT hr (by decide) rfl (pa_cons (pe_cmpR (op_ge.or op_ge_str) (pv 1) (pv 2) (nomark _)) pa_nil)))))), ?_⟩
  have d1 : decide (("<=" : Str) = "<") = false := by decide +kernel
  have d2 : decide ((">" : Str) = "<") = false := by decide +kernel
  have d3 : decide ((">=" : Str) = "<") = false := by decide +kernel
  have d4 : decide ((">" : Str) = "<=") = false := by decide +kernel
  have d5 : decide ((">=" : Str) = "<=") = false := by decide +kernel
  have d6 : decide ((">=" : Str) = ">") = false := by decide +kernel
  rcases hab with ⟨i, j, rfl, rfl⟩ | ⟨i, j, rfl, rfl⟩
  · cases hx; cases hy
    rcases hz with rfl | rfl | rfl | rfl
    · refine ⟨_, rfl, rfl, _, rfl, ?_⟩
      rw [decS, show decide (("<" : Str) = "<") = true from by decide +kernel]
      exact iteT ⟨_, rfl, _, rfl, .inl ⟨_, _, rfl, rfl, _, rfl, q⟩⟩
    · refine ⟨_, rfl, rfl, _, rfl, ?_⟩
      rw [decS, d1]
      refine iteF ⟨_, rfl, rfl, _, rfl, ?_⟩
      rw [decS, show decide (("<=" : Str) = "<=") = true from by decide +kernel]
      refine iteT ⟨_, rfl, _, rfl, .inl ⟨_, _, rfl, rfl, _, rfl, ?_⟩⟩
      dsimp only
      rw [cmp_lt]; exact q
    · refine ⟨_, rfl, rfl, _, rfl, ?_⟩
      rw [decS, d2]
      refine iteF ⟨_, rfl, rfl, _, rfl, ?_⟩
      rw [decS, d4]
      refine iteF ⟨_, rfl, rfl, _, rfl, ?_⟩
      rw [decS, show decide ((">" : Str) = ">") = true from by decide +kernel]
      refine iteT ⟨_, rfl, _, rfl, .inl ⟨_, _, rfl, rfl, _, rfl, ?_⟩⟩
      dsimp only
      rw [cmp_gt]; exact q
    · refine ⟨_, rfl, rfl, _, rfl, ?_⟩
      rw [decS, d3]
      refine iteF ⟨_, rfl, rfl, _, rfl, ?_⟩
      rw [decS, d5]
      refine iteF ⟨_, rfl, rfl, _, rfl, ?_⟩
      rw [decS, d6]
      refine iteF ⟨_, rfl, _, rfl, .inl ⟨_, _, rfl, rfl, _, rfl, ?_⟩⟩
      dsimp only
      rw [cmp_ge]; exact q
  · cases hx; cases hy
    rcases hz with rfl | rfl | rfl | rfl
    · refine ⟨_, rfl, rfl, _, rfl, ?_⟩
      rw [decS, show decide (("<" : Str) = "<") = true from by decide +kernel]
      exact iteT ⟨_, rfl, _, rfl, .inr ⟨_, _, rfl, rfl, _, rfl, q⟩⟩
    · refine ⟨_, rfl, rfl, _, rfl, ?_⟩
      rw [decS, d1]
      refine iteF ⟨_, rfl, rfl, _, rfl, ?_⟩
      rw [decS, show decide (("<=" : Str) = "<=") = true from by decide +kernel]
      refine iteT ⟨_, rfl, _, rfl, .inr ⟨_, _, rfl, rfl, _, rfl, ?_⟩⟩
      rw [cmp_ltS]; exact q
    · refine ⟨_, rfl, rfl, _, rfl, ?_⟩
      rw [decS, d2]
      refine iteF ⟨_, rfl, rfl, _, rfl, ?_⟩
      rw [decS, d4]
      refine iteF ⟨_, rfl, rfl, _, rfl, ?_⟩
      rw [decS, show decide ((">" : Str) = ">") = true from by decide +kernel]
      refine iteT ⟨_, rfl, _, rfl, .inr ⟨_, _, rfl, rfl, _, rfl, ?_⟩⟩
      rw [cmp_gtS]; exact q
    · refine ⟨_, rfl, rfl, _, rfl, ?_⟩
      rw [decS, d3]
      refine iteF ⟨_, rfl, rfl, _, rfl, ?_⟩
      rw [decS, d5]
      refine iteF ⟨_, rfl, rfl, _, rfl, ?_⟩
      rw [decS, d6]
      refine iteF ⟨_, rfl, _, rfl, .inr ⟨_, _, rfl, rfl, _, rfl, ?_⟩⟩
      exact q
end
end GS
set_option Elab.async false
set_option linter.all false
set_option maxRecDepth 100000
set_option maxHeartbeats 4000000
namespace GS
open PySem PyProof.Rows
open L2 hiding pe_int pe_bl pe_non pe_str pv pe_glob pe_bltn pe_op pe_un pe_cmpR pe_one pe_and pe_or pe_ifExp pe_ix po_none po_some pe_slice pa_nil pa_cons pe_lst pe_tup pe_dnewK pe_callB pe_callTy pe_bm pe_bm0 pt_cmpR pt_val pt_not pw_and1 pw_or1 pw_and pw_or pg_name pgs_nil pgs_cons pg_tup pi_list pi_tup pi_str pi_range1 pi_range2 pe_comp ps_pass ps_break ps_continue ps_ret ps_retN ps_expr ps_set ps_asg ps_if ps_while ps_for pss_nil pss_cons pss_one
open L3
section
variable {P : Program} {w : World} {K : PySem.W.Frag} {mg : Str → Option Value} {base : Heap} {f : Addr} {fd : FuncData}
/-! ### two_numbers -/
def spPN (K : PySem.W.Frag) : Sp := fun vs H Q _ => ∃ (z : Str) (a b : Int), vs = [.str z, .int a, .int b] ∧ z ∈ signs12 ∧ ¬ (z = "==" ∨ z = "!=") ∧ a.natAbs ≤ 10 ^ 30 ∧ b.natAbs ≤ 10 ^ 30 ∧ tells K H Q (if isCmp z then valueD (truthD (cmpB z (ltB (.num a) (.num b)) (decide (Vl.num a = .num b)))) else numbersD z a b)
theorem scPN : FnScope ["sign", "one", "other"] ["sign", "one", "other"] (defScope pNumbers) := ⟨rfl, rfl, rfl, by decide +kernel, rfl, by decide +kernel, by decide +kernel⟩
theorem ok_PN (F : Fun K "two_numbers" "two_numbers" pNumbers f fd) (dN : Def P w K mg base "number_answer" ["n"] 1 (spNumber K)) (dC : Def P w K mg base "compared" ["sign", "one", "other"] 2 (spCompared K)) : FnOk P w K mg base CX0 3 f fd ["sign", "one", "other"] (spPN K) := by
  refine F.okI scPN (fun vs H Q E h => ?_) (fun cdv A outer s H vs Q E hr h => ?_)
  · obtain ⟨_, _, _, rfl, _⟩ := h; rfl
  obtain ⟨z, a, b, rfl, hz, hz1, ha, hb, q⟩ := h
  refine ⟨_, pss_cons (ps_if (pt_cmpR op_eq (pv 0) pe_str (nomark _)) (pss_one (ps_ret (L3.pe_def dN hr (by decide) rfl (pa_cons (pe_op op_add (pv 1) (pv 2)) pa_nil)))) pss_nil)
    (pss_cons (ps_if (pt_cmpR op_eq (pv 0) pe_str (nomark _)) (pss_one (ps_ret (L3.pe_def dN hr (by decide) rfl (pa_cons (pe_op op_sub (pv 1) (pv 2)) pa_nil)))) pss_nil)
    (pss_cons (ps_if (pt_cmpR op_eq (pv 0) pe_str (nomark _)) (pss_one (ps_ret (L3.pe_def dN hr (by decide) rfl (pa_cons (pe_op op_mulB (pv 1) (pv 2)) pa_nil)))) pss_nil)
    (pss_cons (ps_if (pt_cmpR op_eq (pv 0) pe_str (nomark _)) (pss_one (ps_ret (pe_ifExp (pt_cmpR op_eq (pv 2) pe_int (nomark _)) (pe_tup (pa_cons pe_str (pa_cons pe_str pa_nil))) (L3.pe_def dN hr (by decide) rfl (pa_cons (pe_op op_fdivB (pv 1) (pv 2)) pa_nil))))) pss_nil)
    (pss_cons (ps_if (pt_cmpR op_notIn_seq (pv 0) (pe_tup (pa_cons pe_str (pa_cons pe_str pa_nil))) rfl) (pss_one (ps_ret (L3.pe_def dC hr (by decide) rfl (pa_cons (pv 0) (pa_cons (pv 1) (pa_cons (pv 2) pa_nil)))))) pss_nil)
    (pss_cons (ps_if (LW.pt (pw_or (pt_cmpR op_lt (pv 1) pe_int (nomark _)) (pw_or1 (pt_cmpR op_lt (pv 2) pe_int (nomark _))))) (pss_one (ps_ret (pe_tup (pa_cons pe_str (pa_cons pe_str pa_nil))))) pss_nil)
    (pss_one (ps_ret (pe_ifExp (pt_cmpR op_eq (pv 0) pe_str (nomark _)) (L3.pe_def dN hr (by decide) rfl (pa_cons (pe_op op_and (pv 1) (pv 2)) pa_nil)) (L3.pe_def dN hr (by decide) rfl (pa_cons (pe_op op_or (pv 1) (pv 2)) pa_nil)))))))))), ?_⟩
  have lim2 : ∀ x : Int, x.natAbs ≤ 10 ^ 30 → x.natAbs < 2 ^ 250 := fun x h => Nat.lt_of_le_of_lt h (by decide +kernel)
  refine ⟨_, rfl, rfl, _, rfl, ?_⟩
  rw [decS]
  by_cases h1 : z = "+"
  · rw [if_neg (show ¬ isCmp z by rw [h1]; decide +kernel)] at q
    unfold numbersD at q
    rw [if_pos h1] at q
    rw [decide_eq_true h1]
    exact iteT ⟨_, rfl, _, rfl, _, _, rfl, rfl, _, rfl, q⟩
  rw [decide_eq_false h1]
  refine iteF ⟨_, rfl, rfl, _, rfl, ?_⟩
  rw [decS]
  by_cases h2 : z = "-"
  · rw [if_neg (show ¬ isCmp z by rw [h2]; decide +kernel)] at q
    unfold numbersD at q
    rw [if_neg h1, if_pos h2] at q
    rw [decide_eq_true h2]
    exact iteT ⟨_, rfl, _, rfl, _, _, rfl, rfl, _, rfl, q⟩
  rw [decide_eq_false h2]
  refine iteF ⟨_, rfl, rfl, _, rfl, ?_⟩
  rw [decS]
  by_cases h3 : z = "*"
  · rw [if_neg (show ¬ isCmp z by rw [h3]; decide +kernel)] at q
    unfold numbersD at q
    rw [if_neg h1, if_neg h2, if_pos h3] at q
    rw [decide_eq_true h3]
    exact iteT ⟨_, rfl, _, rfl, _, _, rfl, rfl, ⟨lim2 a ha, lim2 b hb⟩, _, rfl, q⟩
  rw [decide_eq_false h3]
  refine iteF ⟨_, rfl, rfl, _, rfl, ?_⟩
  rw [decS]
  by_cases h4 : z = "//"
  · rw [if_neg (show ¬ isCmp z by rw [h4]; decide +kernel)] at q
    unfold numbersD at q
    rw [if_neg h1, if_neg h2, if_neg h3, if_pos h4] at q
    rw [decide_eq_true h4]
    refine iteT ⟨_, rfl, rfl, _, rfl, ?_⟩
    rw [dec_int]
    by_cases h5 : b = 0
    · rw [if_pos h5] at q
      rw [show (b == 0) = true from beq_iff_eq.mpr h5]
      exact iteT (q.fault (Same.refl H))
    · rw [if_neg h5] at q
      rw [show (b == 0) = false from beq_eq_false_iff_ne.mpr h5]
      exact iteF ⟨_, rfl, _, rfl, a, b, rfl, rfl, ⟨h5, lim2 b hb⟩, _, rfl, q⟩
  rw [decide_eq_false h4]
  refine iteF ⟨_, rfl, by show 2 ≤ sizeLine; decide, fun p1 hp1 => ⟨p1, _, rfl, .inr (SqT.of upd_same), rfl, rfl, _, rfl, ?_⟩⟩
  have s1 : Same H (upd H p1 (.tup [.str "&", .str "|"])) := same_new hp1 _
  revert s1
  generalize upd H p1 (.tup [.str "&", .str "|"]) = H1
  intro s1
  rw [show (if true = true then !inV (.str z) [.str "&", .str "|"] else inV (.str z) [.str "&", .str "|"]) = !decide (z ∈ (["&", "|"] : List Str)) from congrArg (fun b => !b) (inV_strL z ["&", "|"])]
  by_cases h3c : isCmp z
  · rw [if_pos h3c] at q
    rw [decide_eq_false (show ¬ z ∈ (["&", "|"] : List Str) by rcases h3c with h | h | h | h <;> rw [h] <;> decide +kernel)]
    exact iteT ⟨_, rfl, _, rfl, _, rfl, z, .num a, .num b, _, _, rfl, h3c, rfl, rfl, .inl ⟨_, _, rfl, rfl⟩, q.after s1⟩
  rw [if_neg h3c] at q
  have h9 : z = "&" ∨ z = "|" := by
    simp only [signs12, List.mem_cons, List.not_mem_nil, or_false] at hz
    unfold isCmp at h3c
    simp only [h1, h2, h3, h4, false_or] at hz
    rcases hz with h | h | h | h | h | h | h | h
    · exact .inl h
    · exact .inr h
    · exact absurd (.inl h) h3c
    · exact absurd (.inr (.inl h)) h3c
    · exact absurd (.inr (.inr (.inl h))) h3c
    · exact absurd (.inr (.inr (.inr h))) h3c
    · exact absurd (.inl h) hz1
    · exact absurd (.inr h) hz1
  rw [decide_eq_true (show z ∈ (["&", "|"] : List Str) by rcases h9 with h | h <;> rw [h] <;> decide +kernel)]
  unfold numbersD at q
  rw [if_neg h1, if_neg h2, if_neg h3, if_neg h4] at q
  refine iteF ⟨_, rfl, _, _, rfl, rfl, _, rfl, ?_⟩
  dsimp only
  by_cases h6 : a < 0
  · rw [if_pos (.inl h6)] at q
    rw [decide_eq_true h6]
    exact iteT (iteT (q.fault s1))
  rw [decide_eq_false h6]
  refine iteF ⟨_, rfl, _, _, rfl, rfl, _, rfl, ?_⟩
  dsimp only
  by_cases h7 : b < 0
  · rw [if_pos (.inr h7)] at q
    rw [decide_eq_true h7]
    exact iteT (q.fault s1)
  rw [decide_eq_false h7]
  rw [if_neg (fun z => z.elim h6 h7)] at q
  refine iteF ⟨_, rfl, rfl, _, rfl, ?_⟩
  rw [decS]
  by_cases h8 : z = "&"
  · rw [decide_eq_true h8]
    refine iteT ⟨_, rfl, _, rfl, _, _, rfl, rfl, _, rfl, ?_⟩
    dsimp only
    rw [bitAnd_pp (Int.not_lt.mp h6) (Int.not_lt.mp h7)]
    rw [decide_eq_false (show ¬ z = "|" from by rw [h8]; decide +kernel)] at q
    exact q.after s1
  · have h9 : z = "|" := h9.resolve_left h8
    rw [decide_eq_false h8]
    refine iteF ⟨_, rfl, _, rfl, _, _, rfl, rfl, _, rfl, ?_⟩
    dsimp only
    rw [bitOr_pp (Int.not_lt.mp h6) (Int.not_lt.mp h7)]
    rw [decide_eq_true h9] at q
    exact q.after s1
/-! ### two_texts, two_truths -/
def textsD (z x y : Str) : D := if isCmp z then valueD (truthD (cmpB z (ltB (.txt x) (.txt y)) (decide (Vl.txt x = .txt y)))) else if z = "+" then (if (x ++ y).length < 201 then valueD (.tup [.str "text", .str (x ++ y)]) else faultD "GreatFault") else faultD "KindFault"
def spPT (K : PySem.W.Frag) : Sp := fun vs H Q _ => ∃ z x y : Str, vs = [.str z, .str x, .str y] ∧ x.length ≤ 200 ∧ y.length ≤ 200 ∧ tells K H Q (textsD z x y)
theorem scPT : FnScope ["sign", "one", "other"] ["sign", "one", "other"] (defScope pTexts) := ⟨rfl, rfl, rfl, by decide +kernel, rfl, by decide +kernel, by decide +kernel⟩
theorem ok_PT (F : Fun K "two_texts" "two_texts" pTexts f fd) (dX : Def P w K mg base "text_answer" ["t"] 1 (spTextA K)) (dC : Def P w K mg base "compared" ["sign", "one", "other"] 2 (spCompared K)) : FnOk P w K mg base CX0 3 f fd ["sign", "one", "other"] (spPT K) := by
  refine F.okI scPT (fun vs H Q E h => ?_) (fun cdv A outer s H vs Q E hr h => ?_)
  · obtain ⟨_, _, _, rfl, _⟩ := h; rfl
  obtain ⟨z, x, y, rfl, hx, hy, q⟩ := h
  refine ⟨_, pss_cons (ps_if (pt_cmpR op_eq (pv 0) pe_str (nomark _)) (pss_one (ps_ret (L3.pe_def dX hr (by decide) rfl (pa_cons (pe_op op_add_str (pv 1) (pv 2)) pa_nil)))) pss_nil)
    (pss_one (ps_ret (pe_ifExp (pt_cmpR op_in_seq (pv 0) (pe_tup (pa_cons pe_str (pa_cons pe_str (pa_cons pe_str (pa_cons pe_str pa_nil))))) rfl) (L3.pe_def dC hr (by decide) rfl (pa_cons (pv 0) (pa_cons (pv 1) (pa_cons (pv 2) pa_nil)))) (pe_tup (pa_cons pe_str (pa_cons pe_str pa_nil)))))), ?_⟩
  unfold textsD at q
  refine ⟨_, rfl, rfl, _, rfl, ?_⟩
  rw [decS]
  have el : (x ++ y).length = x.length + y.length := Str.length_append ..
  by_cases h1 : z = "+"
  · rw [if_neg (show ¬ isCmp z by rw [h1]; decide +kernel), if_pos h1] at q
    rw [decide_eq_true h1]
    exact iteT ⟨_, rfl, _, rfl, _, _, rfl, rfl, small (by omega), _, rfl, by omega, q⟩
  rw [decide_eq_false h1]
  refine iteF ⟨_, rfl, by show 4 ≤ sizeLine; decide, fun p1 hp1 => ⟨p1, _, rfl, .inr (SqT.of upd_same), rfl, rfl, _, rfl, ?_⟩⟩
  have s1 : Same H (upd H p1 (.tup [.str "<", .str "<=", .str ">", .str ">="])) := same_new hp1 _
  revert s1
  generalize upd H p1 (.tup [.str "<", .str "<=", .str ">", .str ">="]) = H1
  intro s1
  rw [show (if false = true then !inV (.str z) [.str "<", .str "<=", .str ">", .str ">="] else inV (.str z) [.str "<", .str "<=", .str ">", .str ">="]) = decide (z ∈ (["<", "<=", ">", ">="] : List Str)) from inV_strL z ["<", "<=", ">", ">="]]
  by_cases h3 : isCmp z
  · rw [if_pos h3] at q
    rw [decide_eq_true (show z ∈ (["<", "<=", ">", ">="] : List Str) by rcases h3 with h | h | h | h <;> rw [h] <;> simp)]
    exact iteT ⟨_, rfl, _, rfl, _, rfl, z, .txt x, .txt y, _, _, rfl, h3, rfl, rfl, .inr ⟨_, _, rfl, rfl⟩, q.after s1⟩
  · rw [if_neg h3, if_neg h1] at q
    rw [decide_eq_false (show ¬ z ∈ (["<", "<=", ">", ">="] : List Str) from fun m => h3 (by simpa [isCmp] using m))]
    exact iteF (q.fault s1)
def truthsD (z : Str) (x y : Bool) : D := if z = "&" ∨ z = "|" then valueD (truthD (if z = "|" then x || y else x && y)) else faultD "KindFault"
def spPB (K : PySem.W.Frag) : Sp := fun vs H Q _ => ∃ (z : Str) (x y : Bool), vs = [.str z, .bl x, .bl y] ∧ tells K H Q (truthsD z x y)
theorem scPB : FnScope ["sign", "one", "other"] ["sign", "one", "other"] (defScope pTruths) := ⟨rfl, rfl, rfl, by decide +kernel, rfl, by decide +kernel, by decide +kernel⟩
theorem ok_PB (F : Fun K "two_truths" "two_truths" pTruths f fd) (dT : Def P w K mg base "truth_answer" ["b"] 1 (spTruthA K)) : FnOk P w K mg base CX0 2 f fd ["sign", "one", "other"] (spPB K) := by
  refine F.okI scPB (fun vs H Q E h => ?_) (fun cdv A outer s H vs Q E hr h => ?_)
  · obtain ⟨_, _, _, rfl, _⟩ := h; rfl
  obtain ⟨z, x, y, rfl, q⟩ := h
  refine ⟨_, pss_cons (ps_if (pt_cmpR op_eq (pv 0) pe_str (nomark _)) (pss_one (ps_ret (L3.pe_def dT hr (by decide) rfl (pa_cons (pe_andB (pv 1) (pv 2)) pa_nil)))) pss_nil)
    (pss_one (ps_ret (pe_ifExp (pt_cmpR op_eq (pv 0) pe_str (nomark _)) (L3.pe_def dT hr (by decide) rfl (pa_cons (pe_orB (pv 1) (pv 2)) pa_nil)) (pe_tup (pa_cons pe_str (pa_cons pe_str pa_nil)))))), ?_⟩
  unfold truthsD at q
  refine ⟨_, rfl, rfl, _, rfl, ?_⟩
  rw [decS]
  by_cases h1 : z = "&"
  · rw [if_pos (.inl h1), if_neg (show ¬ z = "|" from by rw [h1]; decide +kernel)] at q
    rw [decide_eq_true h1]
    exact iteT ⟨_, rfl, _, rfl, _, rfl, q⟩
  rw [decide_eq_false h1]
  refine iteF ⟨_, rfl, rfl, _, rfl, ?_⟩
  rw [decS]
  by_cases h2 : z = "|"
  · rw [if_pos (.inr h2), if_pos h2] at q
    rw [decide_eq_true h2]
    exact iteT ⟨_, rfl, _, rfl, _, rfl, q⟩
  rw [if_neg (fun e => e.elim h1 h2)] at q
  rw [decide_eq_false h2]
  exact iteF (q.fault (Same.refl H))
end
end GS
set_option Elab.async false
set_option linter.all false
set_option maxRecDepth 100000
set_option maxHeartbeats 4000000
namespace GS
open PySem PyProof.Rows
open L2 hiding pe_int pe_bl pe_non pe_str pv pe_glob pe_bltn pe_op pe_un pe_cmpR pe_one pe_and pe_or pe_ifExp pe_ix po_none po_some pe_slice pa_nil pa_cons pe_lst pe_tup pe_dnewK pe_callB pe_callTy pe_bm pe_bm0 pt_cmpR pt_val pt_not pw_and1 pw_or1 pw_and pw_or pg_name pgs_nil pgs_cons pg_tup pi_list pi_tup pi_str pi_range1 pi_range2 pe_comp ps_pass ps_break ps_continue ps_ret ps_retN ps_expr ps_set ps_asg ps_if ps_while ps_for pss_nil pss_cons pss_one
open L3
section
variable {P : Program} {w : World} {K : PySem.W.Frag} {mg : Str → Option Value} {base : Heap} {f : Addr} {fd : FuncData}
theorem scTwo : FnScope ["sign", "a", "b"] ["sign", "a", "b"] (defScope pTwo) := ⟨rfl, rfl, rfl, by decide +kernel, rfl, by decide +kernel, by decide +kernel⟩
theorem ok_Two (F : Fun K "two" "two" pTwo f fd) (dT : Def P w K mg base "truth_answer" ["b"] 1 (spTruthA K))
    (dN : Def P w K mg base "two_numbers" ["sign", "one", "other"] 3 (spPN K)) (dX : Def P w K mg base "two_texts" ["sign", "one", "other"] 3 (spPT K)) (dB : Def P w K mg base "two_truths" ["sign", "one", "other"] 2 (spPB K)) : FnOk P w K mg base CX0 5 f fd ["sign", "a", "b"] (spTwo K) := by
  refine F.okI scTwo (fun vs H Q E h => ?_) (fun cdv A outer s H vs Q E hr h => ?_)
  · obtain ⟨_, _, _, _, _, rfl, _⟩ := h; rfl
  obtain ⟨z, x, y, a, b, rfl, hz, ha, hb, oka, okb, q⟩ := h
  refine ⟨_, pss_cons (ps_if (pt_cmpR op_eq (pv 0) pe_str (nomark _)) (pss_one (ps_ret (L3.pe_def dT hr (by decide) rfl (pa_cons (pe_cmpR (op_eqD hr) (pv 1) (pv 2) (nomark _)) pa_nil)))) pss_nil)
    (pss_cons (ps_if (pt_cmpR op_eq (pv 0) pe_str (nomark _)) (pss_one (ps_ret (L3.pe_def dT hr (by decide) rfl (pa_cons (pe_cmpR (op_neD hr) (pv 1) (pv 2) (nomark _)) pa_nil)))) pss_nil)
    (pss_cons (ps_if (LW.pt (pw_and (pt_cmpR op_eq (pe_kind (pv 1)) (pe_kind (pv 2)) (nomark _)) (pw_and1 (pt_cmpR op_eq (pe_kind (pv 1)) pe_str (nomark _))))) (pss_one (ps_ret (L3.pe_def dN hr (by decide) rfl (pa_cons (pv 0) (pa_cons (pe_part (pv 1)) (pa_cons (pe_part (pv 2)) pa_nil)))))) pss_nil)
    (pss_cons (ps_if (LW.pt (pw_and (pt_cmpR op_eq (pe_kind (pv 1)) (pe_kind (pv 2)) (nomark _)) (pw_and1 (pt_cmpR op_eq (pe_kind (pv 1)) pe_str (nomark _))))) (pss_one (ps_ret (L3.pe_def dX hr (by decide) rfl (pa_cons (pv 0) (pa_cons (pe_part (pv 1)) (pa_cons (pe_part (pv 2)) pa_nil)))))) pss_nil)
    (pss_cons (ps_if (LW.pt (pw_and (pt_cmpR op_eq (pe_kind (pv 1)) (pe_kind (pv 2)) (nomark _)) (pw_and1 (pt_cmpR op_eq (pe_kind (pv 1)) pe_str (nomark _))))) (pss_one (ps_ret (L3.pe_def dB hr (by decide) rfl (pa_cons (pv 0) (pa_cons (pe_part (pv 1)) (pa_cons (pe_part (pv 2)) pa_nil)))))) pss_nil)
    (pss_one (ps_ret (pe_tup (pa_cons pe_str (pa_cons pe_str pa_nil))))))))), ?_⟩
  refine ⟨_, rfl, rfl, _, rfl, ?_⟩
  rw [decS]
  by_cases h1 : z = "=="
  · unfold dueD at q
    rw [if_pos (.inl h1), decide_eq_true h1, show ∀ c : Bool, (c == true) = c from fun c => by cases c <;> rfl] at q
    rw [decide_eq_true h1]
    refine iteT ⟨_, rfl, _, rfl, a.d, b.d, ha, hb, a.dep_le, _, rfl, ?_⟩
    rw [Vl.eq_all]; exact q
  rw [decide_eq_false h1]
  refine iteF ⟨_, rfl, rfl, _, rfl, ?_⟩
  rw [decS]
  by_cases h2 : z = "!="
  · unfold dueD at q
    rw [if_pos (.inr h2), decide_eq_false h1, show ∀ c : Bool, (c == false) = !c from fun c => by cases c <;> rfl] at q
    rw [decide_eq_true h2]
    refine iteT ⟨_, rfl, _, rfl, a.d, b.d, ha, hb, a.dep_le, _, rfl, ?_⟩
    rw [Vl.eq_all]; exact q
  rw [decide_eq_false h2]
  have hz1 : ¬ (z = "==" ∨ z = "!=") := fun e => e.elim h1 h2
  refine iteF ⟨_, rfl, a, ha, _, rfl, b, hb, rfl, _, rfl, ?_⟩
  rw [decS]
  unfold dueD at q
  rw [if_neg hz1] at q
  by_cases hk : a.kind = b.kind
  · rw [decide_eq_true hk]
    refine iteT ⟨_, rfl, a, ha, rfl, _, rfl, ?_⟩
    rw [decS]
    cases a with
    | num u =>
      obtain ⟨v, rfl⟩ : ∃ v, b = .num v := by revert hk; cases b <;> simp only [Vl.kind] <;> first | exact fun _ => ⟨_, rfl⟩ | (intro h; exact absurd h (by decide +kernel))
      rw [show decide ((Vl.num u).kind = "number") = true from rfl]
      exact iteT ⟨_, rfl, _, rfl, .num u, .int u, ha, rfl, _, rfl, .num v, .int v, hb, rfl, z, u, v, rfl, hz, hz1, oka, okb, q⟩
    | txt u =>
      obtain ⟨v, rfl⟩ : ∃ v, b = .txt v := by revert hk; cases b <;> simp only [Vl.kind] <;> first | exact fun _ => ⟨_, rfl⟩ | (intro h; exact absurd h (by decide +kernel))
      rw [show decide ((Vl.txt u).kind = "number") = false from rfl]
      refine iteF ⟨_, rfl, .txt u, ha, _, rfl, .txt v, hb, rfl, _, rfl, ?_⟩
      rw [decS, show decide ((Vl.txt u).kind = (Vl.txt v).kind) = true from rfl]
      refine iteT ⟨_, rfl, .txt u, ha, rfl, _, rfl, ?_⟩
      rw [decS, show decide ((Vl.txt u).kind = "text") = true from rfl]
      exact iteT ⟨_, rfl, _, rfl, .txt u, .str u, ha, rfl, _, rfl, .txt v, .str v, hb, rfl, z, u, v, rfl, oka.1, okb.1, q⟩
    | tr u =>
      obtain ⟨v, rfl⟩ : ∃ v, b = .tr v := by revert hk; cases b <;> simp only [Vl.kind] <;> first | exact fun _ => ⟨_, rfl⟩ | (intro h; exact absurd h (by decide +kernel))
      rw [show decide ((Vl.tr u).kind = "number") = false from rfl]
      refine iteF ⟨_, rfl, .tr u, ha, _, rfl, .tr v, hb, rfl, _, rfl, ?_⟩
      rw [decS, show decide ((Vl.tr u).kind = (Vl.tr v).kind) = true from rfl]
      refine iteT ⟨_, rfl, .tr u, ha, rfl, _, rfl, ?_⟩
      rw [decS, show decide ((Vl.tr u).kind = "text") = false from rfl]
      refine iteF ⟨_, rfl, .tr u, ha, _, rfl, .tr v, hb, rfl, _, rfl, ?_⟩
      rw [decS, show decide ((Vl.tr u).kind = (Vl.tr v).kind) = true from rfl]
      refine iteT ⟨_, rfl, .tr u, ha, rfl, _, rfl, ?_⟩
      rw [decS, show decide ((Vl.tr u).kind = "truth") = true from rfl]
      exact iteT ⟨_, rfl, _, rfl, .tr u, .bl u, ha, rfl, _, rfl, .tr v, .bl v, hb, rfl, z, u, v, rfl, q⟩
    | non =>
      rw [show decide (Vl.non.kind = "number") = false from rfl]
      refine iteF ⟨_, rfl, .non, ha, _, rfl, b, hb, rfl, _, rfl, ?_⟩
      rw [decS, decide_eq_true (show Vl.non.kind = b.kind from hk)]
      refine iteT ⟨_, rfl, .non, ha, rfl, _, rfl, ?_⟩
      rw [decS, show decide (Vl.non.kind = "text") = false from rfl]
      refine iteF ⟨_, rfl, .non, ha, _, rfl, b, hb, rfl, _, rfl, ?_⟩
      rw [decS, decide_eq_true (show Vl.non.kind = b.kind from hk)]
      refine iteT ⟨_, rfl, .non, ha, rfl, _, rfl, ?_⟩
      rw [decS, show decide (Vl.non.kind = "truth") = false from rfl]
      exact iteF (tells.fault q (Same.refl H))
    | thing u =>
      rw [show decide ((Vl.thing u).kind = "number") = false from rfl]
      refine iteF ⟨_, rfl, .thing u, ha, _, rfl, b, hb, rfl, _, rfl, ?_⟩
      rw [decS, decide_eq_true (show (Vl.thing u).kind = b.kind from hk)]
      refine iteT ⟨_, rfl, .thing u, ha, rfl, _, rfl, ?_⟩
      rw [decS, show decide ((Vl.thing u).kind = "text") = false from rfl]
      refine iteF ⟨_, rfl, .thing u, ha, _, rfl, b, hb, rfl, _, rfl, ?_⟩
      rw [decS, decide_eq_true (show (Vl.thing u).kind = b.kind from hk)]
      refine iteT ⟨_, rfl, .thing u, ha, rfl, _, rfl, ?_⟩
      rw [decS, show decide ((Vl.thing u).kind = "truth") = false from rfl]
      exact iteF (tells.fault q (Same.refl H))
  · rw [decide_eq_false hk]
    refine iteF (iteF ⟨_, rfl, a, ha, _, rfl, b, hb, rfl, _, rfl, ?_⟩)
    rw [decS, decide_eq_false hk]
    refine iteF (iteF ⟨_, rfl, a, ha, _, rfl, b, hb, rfl, _, rfl, ?_⟩)
    rw [decS, decide_eq_false hk]
    refine iteF (iteF ?_)
    have q2 : tells K H Q (faultD "KindFault") := by
      revert q hk
      cases a <;> cases b <;> intro q hk <;> first | exact absurd rfl hk | exact q
    exact q2.fault (Same.refl H)
/-! ### minus, is_wanting -/
theorem scPMinus : FnScope ["a"] ["a"] (defScope pMinus) := ⟨rfl, rfl, rfl, by decide +kernel, rfl, by decide +kernel, by decide +kernel⟩
theorem ok_PMinus (F : Fun K "minus" "minus" pMinus f fd) (dN : Def P w K mg base "number_answer" ["n"] 1 (spNumber K)) : FnOk P w K mg base CX0 5 f fd ["a"] (spMinus K) := by
  refine F.okI scPMinus (fun vs H Q E h => ?_) (fun cdv A outer s H vs Q E hr h => ?_)
  · obtain ⟨_, _, rfl, _⟩ := h; rfl
  obtain ⟨x, a, rfl, ha, oka, q⟩ := h
  refine ⟨_, pss_one (ps_ret (pe_ifExp (pt_cmpR op_eq (pe_kind (pv 0)) pe_str (nomark _)) (L3.pe_def dN hr (by decide) rfl (pa_cons (pe_un un_neg (pe_part (pv 0))) pa_nil)) (pe_tup (pa_cons pe_str (pa_cons pe_str pa_nil))))), ?_⟩
  refine ⟨_, rfl, a, ha, rfl, _, rfl, ?_⟩
  rw [decS]
  cases a with
  | num u =>
    rw [show decide ((Vl.num u).kind = "number") = true from rfl]
    refine iteT ⟨_, rfl, .num u, .int u, ha, rfl, u, rfl, -u, rfl, ?_⟩
    have e : minusD (.num u) = numberD (-u) := by
      show valueD (numD (0 - u)) = numberD (-u)
      unfold numberD
      rw [if_pos (show (-u).natAbs ≤ 10 ^ 30 by rw [Int.natAbs_neg]; exact oka), Int.zero_sub]
    rw [e] at q
    exact q
  | txt u => rw [show decide ((Vl.txt u).kind = "number") = false from rfl]; exact iteF (tells.fault q (Same.refl H))
  | tr u => rw [show decide ((Vl.tr u).kind = "number") = false from rfl]; exact iteF (tells.fault q (Same.refl H))
  | non => rw [show decide (Vl.non.kind = "number") = false from rfl]; exact iteF (tells.fault q (Same.refl H))
  | thing u => rw [show decide ((Vl.thing u).kind = "number") = false from rfl]; exact iteF (tells.fault q (Same.refl H))
theorem scPWant : FnScope ["a"] ["a"] (defScope pWant) := ⟨rfl, rfl, rfl, by decide +kernel, rfl, by decide +kernel, by decide +kernel⟩
theorem want_any (a : Vl) : ([D.tup [.str "truth", .bl false], D.tup [.str "none"], D.tup [.str "number", .int 0], D.tup [.str "text", .str ""]].any fun e => eqD e a.d) = wantB a := by
  rw [show ([D.tup [.str "truth", .bl false], D.tup [.str "none"], D.tup [.str "number", .int 0], D.tup [.str "text", .str ""]] : List D) = [(Vl.tr false).d, Vl.non.d, (Vl.num 0).d, (Vl.txt "").d] from rfl]
  simp only [List.any_cons, List.any_nil, Vl.eq_all, Bool.or_false]
  cases a <;> simp [wantB]
  all_goals exact ⟨Eq.symm, Eq.symm⟩
theorem ok_PWant (F : Fun K "is_wanting" "is_wanting" pWant f fd) : FnOk P w K mg base CX0 5 f fd ["a"] (spWant K) := by
  refine F.okI scPWant (fun vs H Q E h => ?_) (fun cdv A outer s H vs Q E hr h => ?_)
  · obtain ⟨_, _, rfl, _⟩ := h; rfl
  obtain ⟨x, a, rfl, ha, oka, q⟩ := h
  refine ⟨_, pss_one (ps_ret (pe_cmpR (op_inD hr) (pv 0) (pe_tup (pa_cons (pe_tup (pa_cons pe_str (pa_cons pe_bl pa_nil))) (pa_cons (pe_tup (pa_cons pe_str pa_nil)) (pa_cons (pe_tup (pa_cons pe_str (pa_cons pe_int pa_nil))) (pa_cons (pe_tup (pa_cons pe_str (pa_cons pe_str pa_nil))) pa_nil))))) rfl)), ?_⟩
  refine ⟨_, rfl, by show 2 ≤ sizeLine; decide, fun p1 hp1 => ⟨by show 1 ≤ sizeLine; decide, fun p2 hp2 => ⟨by show 2 ≤ sizeLine; decide, fun p3 hp3 => ⟨by show 2 ≤ sizeLine; decide, fun p4 hp4 => ⟨by show 4 ≤ sizeLine; decide, fun p5 hp5 => ?_⟩⟩⟩⟩⟩
  have t1 := same_new hp1 (.tup [.str "truth", .bl false])
  have t2 := same_new hp2 (.tup [.str "none"])
  have t3 := same_new hp3 (.tup [.str "number", .int 0])
  have t4 := same_new hp4 (.tup [.str "text", .str ""])
  have t5 := same_new hp5 (.tup [.ref p1, .ref p2, .ref p3, .ref p4])
  have sA := (((t1.trans t2).trans t3).trans t4).trans t5
  refine ⟨a.d, [.tup [.str "truth", .bl false], .tup [.str "none"], .tup [.str "number", .int 0], .tup [.str "text", .str ""]], At.same sA _ _ ha, ?_, ?_, ?_⟩
  · refine At.new hp5 (AtAll_cons.mpr ⟨_, _, rfl, ?_, AtAll_cons.mpr ⟨_, _, rfl, ?_, AtAll2 ?_ ?_⟩⟩)
    · exact At.same ((t2.trans t3).trans t4) _ _ (At.new hp1 (AtAll2 (At_str.mpr rfl) (At_bl.mpr rfl)))
    · exact At.same (t3.trans t4) _ _ (At.new hp2 (AtAll1 (At_str.mpr rfl)))
    · exact At.same t4 _ _ (At.new hp3 (AtAll2 (At_str.mpr rfl) (At_int.mpr rfl)))
    · exact At.new hp4 (AtAll2 (At_str.mpr rfl) (At_str.mpr rfl))
  · intro e he
    simp only [List.mem_cons, List.not_mem_nil, or_false] at he
    rcases he with rfl | rfl | rfl | rfl <;> simp [dep, deps]
  · have := q (.bl (wantB a)) _ sA (At_bl.mpr rfl)
    rw [show (if false = true then !([D.tup [.str "truth", .bl false], D.tup [.str "none"], D.tup [.str "number", .int 0], D.tup [.str "text", .str ""]].any fun e => eqD e a.d) else ([D.tup [.str "truth", .bl false], D.tup [.str "none"], D.tup [.str "number", .int 0], D.tup [.str "text", .str ""]].any fun e => eqD e a.d)) = wantB a from want_any a]
    exact this
end
end GS
set_option Elab.async false
set_option linter.all false
namespace GS
open PySem L2 PyProof.Rows
section
variable {P : Program} {w : World} {K : PySem.W.Frag} {mg : Str → Option Value}
theorem prog_all (g : Glb mg) (gp : GlbP mg) (f1 : FunAt K mg "number_answer" pNumberA) (f2 : FunAt K mg "text_answer" pTextA) (f3 : FunAt K mg "truth_answer" pTruthA) (f4 : FunAt K mg "compared" pCompared) (f5 : FunAt K mg "two_numbers" pNumbers) (f6 : FunAt K mg "two_texts" pTexts) (f7 : FunAt K mg "two_truths" pTruths)
    (f8 : FunAt K mg "two" pTwo) (f9 : FunAt K mg "minus" pMinus) (f10 : FunAt K mg "is_wanting" pWant) (base : Heap) :
    Def P w K mg base "two" ["sign", "a", "b"] 5 (spTwo K) ∧ Def P w K mg base "minus" ["a"] 5 (spMinus K) ∧ Def P w K mg base "is_wanting" ["a"] 5 (spWant K) := by
  obtain ⟨a1, d1, m1, F1⟩ := f1
  obtain ⟨a2, d2, m2, F2⟩ := f2
  obtain ⟨a3, d3, m3, F3⟩ := f3
  obtain ⟨a4, d4, m4, F4⟩ := f4
  obtain ⟨a5, d5, m5, F5⟩ := f5
  obtain ⟨a6, d6, m6, F6⟩ := f6
  obtain ⟨a7, d7, m7, F7⟩ := f7
  obtain ⟨a8, d8, m8, F8⟩ := f8
  obtain ⟨a9, d9, m9, F9⟩ := f9
  obtain ⟨a10, d10, m10, F10⟩ := f10
  have D1 : Def P w K mg base "number_answer" ["n"] 1 (spNumber K) := def_mk F1 m1 (F1.binds fun _ _ _ _ _ _ us hl => match us, hl with | [_], _ => rfl) (ok_NumberA gp F1)
  have D2 : Def P w K mg base "text_answer" ["t"] 1 (spTextA K) := def_mk F2 m2 (F2.binds fun _ _ _ _ _ _ us hl => match us, hl with | [_], _ => rfl) (ok_TextA g gp F2)
  have D3 : Def P w K mg base "truth_answer" ["b"] 1 (spTruthA K) := def_mk F3 m3 (F3.binds fun _ _ _ _ _ _ us hl => match us, hl with | [_], _ => rfl) (ok_TruthA F3)
  have D4 : Def P w K mg base "compared" ["sign", "one", "other"] 2 (spCompared K) := def_mk F4 m4 (F4.binds fun _ _ _ _ _ _ us hl => match us, hl with | [_, _, _], _ => rfl) (ok_Compared F4 D3)
  have D5 : Def P w K mg base "two_numbers" ["sign", "one", "other"] 3 (spPN K) := def_mk F5 m5 (F5.binds fun _ _ _ _ _ _ us hl => match us, hl with | [_, _, _], _ => rfl) (ok_PN F5 D1 D4)
  have D6 : Def P w K mg base "two_texts" ["sign", "one", "other"] 3 (spPT K) := def_mk F6 m6 (F6.binds fun _ _ _ _ _ _ us hl => match us, hl with | [_, _, _], _ => rfl) (ok_PT F6 D2 D4)
  have D7 : Def P w K mg base "two_truths" ["sign", "one", "other"] 2 (spPB K) := def_mk F7 m7 (F7.binds fun _ _ _ _ _ _ us hl => match us, hl with | [_, _, _], _ => rfl) (ok_PB F7 D3)
  exact ⟨def_mk F8 m8 (F8.binds fun _ _ _ _ _ _ us hl => match us, hl with | [_, _, _], _ => rfl) (ok_Two F8 D3 D5 D6 D7), def_mk F9 m9 (F9.binds fun _ _ _ _ _ _ us hl => match us, hl with | [_], _ => rfl) (ok_PMinus F9 D1), def_mk F10 m10 (F10.binds fun _ _ _ _ _ _ us hl => match us, hl with | [_], _ => rfl) (ok_PWant F10)⟩
end
end GS
open PySem PySem.W PyProof.Rows
set_option maxRecDepth 100000 in
set_option maxHeartbeats 0 in
theorem PySem.Challenge.cw_grassnake_k10_signs_holds : PySem.Challenge.rw_grassnake_k10_signs.Holds := by
  w_on; o_law; k_head; (case hw => w_witness2)
  k_fill
  refine GS.walk (l := PySem.Challenge.rw_grassnake_k10_signs) rfl rfl (fun w h Y => PySem.W.kIn_of Y) ?F
  case F =>
    intro w mg fa h KX G hmg
    have g : GS.Glb mg := by
      refine' ⟨?n1, ?n2, ?n3, ?n4, ?n5, ?n6, ?n7, ?n8, ?n9⟩
      all_goals (refine' PySem.W.mg_none_of KX G ?a; (case a => k_is))
    have gp : GS.GlbP mg := by
      refine' ⟨?i1, ?i2⟩
      all_goals (refine' GS.int_at KX G ?a ?e; (case a => k_is); (case e => decide))
    have pr := GS.prog_all (P := PySem.Challenge.rw_grassnake_k10_signs.prog) (w := w) (K := L2.KOf KX) g gp ?p1 ?p2 ?p3 ?p4 ?p5 ?p6 ?p7 ?p8 ?p9 ?p10
    refine GS.law_of g ?f1 ?f2 ?f3 ?f4 ?f5 ?f6 ?f7 ?f8 ?f9 ?f10 ?f11 ?f12 ?f13 (fun b => (pr b).1) (fun b => (pr b).2.1) (fun b => (pr b).2.2) hmg
    all_goals ((try dsimp only [L2.KOf]); refine' GS.fun_at KX G ?a ?l ?c ?k; (case a => k_is); (case l => k_is); (case c => k_is); (case k => k_is))
#print axioms PySem.Challenge.cw_grassnake_k10_signs_holds
