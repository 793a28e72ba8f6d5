import PyProof.Rows.All
import OpenK.AllK
import Wide.All
import Wide.FinOn
import Lean
import PyProof.EqAt
import PyProof.EqKinds
import PyProof.TupleCall
import PyProof.CompFree
import PyProof.StrWalks
import PyProof.ReprRoads
import PyProof.ReprLen
import PyProof.ToksMono
import KE.IntTextLaws
import PyProof.NeKinds
import PyProof.CallFns
import PyProof.CompUse
import KE.KDictOf
import PyProof.AttrMissHeap
import PyProof.Walks
import KE.KIsAll
import PyProof.Rows.SortWalk
import PyProof.ZipIter
import PyProof.Rows.ZipGen
import KE.KRevIter
import PyProof.ListNew
import PyProof.Rows.SetFrom
import PyProof.Rows.SetObj
import PyProof.DictWalks
import PyProof.DictIter
import PySem.Challenge.RW_grassnake_k09_orders_of_classes
set_option Elab.async false
set_option linter.all false
set_option maxRecDepth 100000
set_option maxHeartbeats 4000000
namespace GS
open PySem
noncomputable section
abbrev p9 := PySem.Challenge.pw_grassnake_k09_orders_of_classes
abbrev r9 := PySem.Challenge.rw_grassnake_k09_orders_of_classes
noncomputable def tp9 (i : Nat) : Stmt := p9.main.body.getD i (.Pass ⟨0, 0, 0, 0⟩)
def iC (i : Nat) : Stmt → Stmt
  | .ClassDef _ _ _ body _ _ _ _ _ _ _ => body.getD i (.Pass ⟨0, 0, 0, 0⟩)
  | _ => .Pass ⟨0, 0, 0, 0⟩
def fA (s : Stmt) : Arguments := match s with
  | .FunctionDef _ a _ _ _ _ _ _ _ _ => a
  | _ => { posonlyargs := [], args := [], vararg := none, kwonlyargs := [], kw_defaults := [], kwarg := none, defaults := [] }
def fB (s : Stmt) : List Stmt := match s with
  | .FunctionDef _ _ b _ _ _ _ _ _ _ => b
  | _ => []
def fS (s : Stmt) : Scope := match s with
  | .FunctionDef _ _ _ _ _ _ c _ _ _ => c
  | _ => { kind := .function, names := [], isGenerator := false, isCoroutine := false }
def eO (P : Params) (k : Str) (t : Nat) (v : Value) : DictEntry := ⟨PyData.keyHash P k, .str k t, v⟩
def eR (P : Params) (k : Str) (t a : Nat) : DictEntry := eO P k t (.ref a)
def dO (es : List DictEntry) (n : Nat) : Obj := ⟨.type "dict", none, .dict es.toArray n, #[]⟩
def tO (vs : List Value) : Obj := ⟨.type "tuple", none, .seq vs.toArray 0, #[]⟩
def fO (m : Str) (t : Nat) (st : Stmt) (n q : Str) (c : Nat) : Obj := ⟨.type "function", none, .func (PySem.W.fnOf n q (fA st) (fB st) (fS st) .none .none .none (.str m t) none (.ref c) .none), #[]⟩
noncomputable def cO (a : Nat) (v : Bool) (n q : Str) (t l k u : Nat) : Obj := ⟨.type "code", none, .fields #[.str n t, .str q (t + 1), .str "/claim/cut.py" (t + 2), .int l 0, .int k 0, .int 0 0, .int 0 0, .int 3 0, .ref (if v then a - 5 else a - 3), .bool true, .int 181 0, .ref (if v then a - 4 else a - 2), .none, if v then .ref (a - 3) else .none, if v then .ref (a - 2) else .none, .ref (a - 1), .int u 0, .int l 0, .str "/claim/cut.py" (u + 1)], #[]⟩
noncomputable def kO (n : Str) (bs mro : List Value) (ns : Nat) (sub : List Value) (sl : Array (Option Value)) : Obj := ⟨.type "type", none, .cls { name := n, bases := bs, mro := mro, ns := ns, qualname := n, subclasses := sub }, sl⟩
abbrev oT (a : Nat) (n : Str) := cO a true n n
abbrev oF (a : Nat) (n : Str) := cO a false n n
abbrev fm1 := fO "grassnake.store" 187
abbrev fn1 (i : Nat) (n : Str) := fm1 (tp9 i) n n
abbrev fm2 := fO "grassnake.orders" 423
abbrev fn2 (i : Nat) (n : Str) := fm2 (tp9 i) n n
abbrev fm3 := fO "law_grassnake_k09_orders_of_classes" 475
abbrev fn3 (i : Nat) (n : Str) := fm3 (tp9 i) n n
def K9h (P : Params) : W.Frag := (nat_lit 2,⟨.none,none,.dict #[] 0,#[]⟩)::
  (nat_lit 3,dO [eO P "__name__" 165 (.str "law_grassnake_k09_orders_of_classes" 475),eO P "__doc__" 166 .none,eO P "__package__" 167 .none,eO P "__loader__" 168 (.builtin "__main__.__loader__#opaque"),eO P "__spec__" 169 .none,eR P "__annotations__" 170 6,eR P "__builtins__" 171 4,eO P "__file__" 173 (.str "/claim/cut.py" 172),eO P "__cached__" 174 .none,eR P "GIVEN_FUNCTIONS" 197 15,eR P "GIVEN_CLASSES" 232 40,eR P "Function" 271 57,eR P "Given" 300 78,eR P "Kind" 335 99,eR P "World" 365 118,eR P "added" 373 129,eR P "thing_of" 381 136,eR P "known" 389 143,eR P "function" 402 150,eR P "new_class" 414 157,eR P "is_class" 422 164,eO P "MOST_CLASSES" 426 (.int 40 425),eR P "is_same" 434 171,eR P "is_behind_head" 440 176,eR P "place_of_free" 446 181,eR P "without_head" 452 186,eR P "merged" 458 191,eR P "order_of" 464 196,eR P "class_of" 474 203,eR P "_law_cell_at" 484 210,eR P "_law_cell" 494 217,eR P "_law_same" 500 222,eR P "_law_merged" 506 227,eR P "_law_given_orders" 514 234,eR P "_law_order" 520 239,eR P "_law_lists" 534 246,eR P "_law_elders" 548 253,eR P "_law_made" 554 258,eR P "law" 560 263] 39)::
  (nat_lit 15,tO [(.str "say" 189),(.str "take" 190),(.str "isa" 191),(.str "elder" 192),(.str "count" 193),(.str "go" 194),(.str "throw" 195),(.str "shut" 196)])::
  (nat_lit 16,tO [])::
  (nat_lit 17,tO [(.str "Thing" 198),(.ref 16)])::
  (nat_lit 18,tO [(.str "Thing" 200)])::
  (nat_lit 19,tO [(.str "Fault" 199),(.ref 18)])::
  (nat_lit 20,tO [(.str "Fault" 202),(.str "Thing" 203)])::
  (nat_lit 21,tO [(.str "NameFault" 201),(.ref 20)])::
  (nat_lit 22,tO [(.str "Fault" 205),(.str "Thing" 206)])::
  (nat_lit 23,tO [(.str "KindFault" 204),(.ref 22)])::
  (nat_lit 24,tO [(.str "Fault" 208),(.str "Thing" 209)])::
  (nat_lit 25,tO [(.str "NoughtFault" 207),(.ref 24)])::
  (nat_lit 26,tO [(.str "Fault" 211),(.str "Thing" 212)])::
  (nat_lit 27,tO [(.str "GreatFault" 210),(.ref 26)])::
  (nat_lit 28,tO [(.str "Fault" 214),(.str "Thing" 215)])::
  (nat_lit 29,tO [(.str "FieldFault" 213),(.ref 28)])::
  (nat_lit 30,tO [(.str "Fault" 217),(.str "Thing" 218)])::
  (nat_lit 31,tO [(.str "OrderFault" 216),(.ref 30)])::
  (nat_lit 32,tO [(.str "Fault" 220),(.str "Thing" 221)])::
  (nat_lit 33,tO [(.str "EndFault" 219),(.ref 32)])::
  (nat_lit 34,tO [(.str "Fault" 223),(.str "Thing" 224)])::
  (nat_lit 35,tO [(.str "ShutFault" 222),(.ref 34)])::
  (nat_lit 36,tO [(.str "Fault" 226),(.str "Thing" 227)])::
  (nat_lit 37,tO [(.str "DeepFault" 225),(.ref 36)])::
  (nat_lit 38,tO [(.str "NameFault" 229),(.str "Fault" 230),(.str "Thing" 231)])::
  (nat_lit 39,tO [(.str "UnboundFault" 228),(.ref 38)])::
  (nat_lit 40,tO [(.ref 17),(.ref 19),(.ref 21),(.ref 23),(.ref 25),(.ref 27),(.ref 29),(.ref 31),(.ref 33),(.ref 35),(.ref 37),(.ref 39)])::
  (nat_lit 53,cO 53 true "__init__" "Function.__init__" 245 6 7 255)::
  (nat_lit 54,fm1 (iC 0 (tp9 3)) "__init__" "Function.__init__" 53)::
  (nat_lit 56,dO [eO P "__module__" 240 (.str "grassnake.store" 187),eO P "__firstlineno__" 244 (.int 4 243),eR P "__init__" 257 54,eR P "__static_attributes__" 264 55,eR P "__dict__" 266 58,eR P "__weakref__" 268 59,eO P "__doc__" 269 .none] 4)::
  (nat_lit 57,kO "Function" [(.type "object")] [(.ref 57),(.type "object")] 56 [] #[none,none,some (.str "Function" 233),some (.str "Function" 241),some (.builtin "object.__new__"),some (.bool true)])::
  (nat_lit 74,cO 74 true "__init__" "Given.__init__" 284 15 2 289)::
  (nat_lit 75,fm1 (iC 0 (tp9 4)) "__init__" "Given.__init__" 74)::
  (nat_lit 77,dO [eO P "__module__" 279 (.str "grassnake.store" 187),eO P "__firstlineno__" 283 (.int 13 282),eR P "__init__" 291 75,eR P "__static_attributes__" 293 76,eR P "__dict__" 295 79,eR P "__weakref__" 297 80,eO P "__doc__" 298 .none] 4)::
  (nat_lit 78,kO "Given" [(.type "object")] [(.ref 78),(.type "object")] 77 [] #[none,none,some (.str "Given" 272),some (.str "Given" 280),some (.builtin "object.__new__"),some (.bool true)])::
  (nat_lit 95,cO 95 true "__init__" "Kind.__init__" 313 19 5 321)::
  (nat_lit 96,fm1 (iC 0 (tp9 5)) "__init__" "Kind.__init__" 95)::
  (nat_lit 98,dO [eO P "__module__" 308 (.str "grassnake.store" 187),eO P "__firstlineno__" 312 (.int 17 311),eR P "__init__" 323 96,eR P "__static_attributes__" 328 97,eR P "__dict__" 330 100,eR P "__weakref__" 332 101,eO P "__doc__" 333 .none] 4)::
  (nat_lit 99,kO "Kind" [(.type "object")] [(.ref 99),(.type "object")] 98 [] #[none,none,some (.str "Kind" 301),some (.str "Kind" 309),some (.builtin "object.__new__"),some (.bool true)])::
  (nat_lit 114,cO 114 false "__init__" "World.__init__" 348 26 2 351)::
  (nat_lit 115,fm1 (iC 0 (tp9 6)) "__init__" "World.__init__" 114)::
  (nat_lit 117,dO [eO P "__module__" 343 (.str "grassnake.store" 187),eO P "__firstlineno__" 347 (.int 24 346),eR P "__init__" 353 115,eR P "__static_attributes__" 358 116,eR P "__dict__" 360 119,eR P "__weakref__" 362 120,eO P "__doc__" 363 .none] 4)::
  (nat_lit 118,kO "World" [(.type "object")] [(.ref 118),(.type "object")] 117 [] #[none,none,some (.str "World" 336),some (.str "World" 344),some (.builtin "object.__new__"),some (.bool true)])::
  (nat_lit 128,oT 128 "added" 366 35 2 371)::
  (nat_lit 129,fn1 7 "added" 128)::
  (nat_lit 135,oT 135 "thing_of" 374 38 2 379)::
  (nat_lit 136,fn1 8 "thing_of" 135)::
  (nat_lit 142,oT 142 "known" 382 40 2 387)::
  (nat_lit 143,fn1 9 "known" 142)::
  (nat_lit 149,oT 149 "function" 390 42 7 400)::
  (nat_lit 150,fn1 10 "function" 149)::
  (nat_lit 156,oT 156 "new_class" 403 44 5 412)::
  (nat_lit 157,fn1 11 "new_class" 156)::
  (nat_lit 163,oT 163 "is_class" 415 47 2 420)::
  (nat_lit 164,fn1 12 "is_class" 163)::
  (nat_lit 170,oT 170 "is_same" 427 51 2 432)::
  (nat_lit 171,fn2 15 "is_same" 170)::
  (nat_lit 175,oF 175 "is_behind_head" 435 53 2 438)::
  (nat_lit 176,fn2 16 "is_behind_head" 175)::
  (nat_lit 180,oF 180 "place_of_free" 441 55 1 444)::
  (nat_lit 181,fn2 17 "place_of_free" 180)::
  (nat_lit 185,oF 185 "without_head" 447 61 2 450)::
  (nat_lit 186,fn2 18 "without_head" 185)::
  (nat_lit 190,oF 190 "merged" 453 64 1 456)::
  (nat_lit 191,fn2 19 "merged" 190)::
  (nat_lit 195,oF 195 "order_of" 459 75 2 462)::
  (nat_lit 196,fn2 20 "order_of" 195)::
  (nat_lit 202,oT 202 "class_of" 465 85 4 472)::
  (nat_lit 203,fn2 21 "class_of" 202)::
  (nat_lit 209,oT 209 "_law_cell_at" 477 88 2 482)::
  (nat_lit 210,fn3 23 "_law_cell_at" 209)::
  (nat_lit 216,oT 216 "_law_cell" 485 92 2 492)::
  (nat_lit 217,fn3 24 "_law_cell" 216)::
  (nat_lit 221,oF 221 "_law_same" 495 99 2 498)::
  (nat_lit 222,fn3 25 "_law_same" 221)::
  (nat_lit 226,oF 226 "_law_merged" 501 105 1 504)::
  (nat_lit 227,fn3 26 "_law_merged" 226)::
  (nat_lit 233,oT 233 "_law_given_orders" 507 121 0 512)::
  (nat_lit 234,fn3 27 "_law_given_orders" 233)::
  (nat_lit 238,oF 238 "_law_order" 515 127 2 518)::
  (nat_lit 239,fn3 28 "_law_order" 238)::
  (nat_lit 245,oT 245 "_law_lists" 521 135 2 532)::
  (nat_lit 246,fn3 29 "_law_lists" 245)::
  (nat_lit 252,oT 252 "_law_elders" 535 146 4 546)::
  (nat_lit 253,fn3 30 "_law_elders" 252)::
  (nat_lit 257,oF 257 "_law_made" 549 155 5 552)::
  (nat_lit 258,fn3 31 "_law_made" 257)::
  (nat_lit 262,oF 262 "law" 555 166 1 558)::
  (nat_lit 263,fn3 32 "law" 262)::[]
noncomputable def asK9h : List Nat := [2,3,15,16,17,18,19,20,21,22,23,24,25,26,27,28,29,30,31,32,33,34,35,36,37,38,39,40,53,54,56,57,74,75,77,78,95,96,98,99,114,115,117,118,128,129,135,136,142,143,149,150,156,157,163,164,170,171,175,176,180,181,185,186,190,191,195,196,202,203,209,210,216,217,221,222,226,227,233,234,238,239,245,246,252,253,257,258,262,263]
theorem eK9h (P : Params) : asK9h = (K9h P).map (·.1) := by kernel_rfl
noncomputable def q9 : Program := { p9 with main := { p9.main with body := [1,2,3,4,5,6,7,8,9,10,11,12,14,15,16,17,18,19,20,21,23,24,25,26,27,28,29,30,31,32].filterMap fun i => p9.main.body[i]? } }
theorem said9 : r9.wellSaid = true := by decide +kernel
theorem left9 : W.LeftO r9.row.prog q9 [] (fun s => W.xlAt q9 [] s && W.recOk (W.RowW.records (W.OpenRow.toRowW (W.OpenLaw.row r9))) s) (W.Hook.obs (W.kHook K9h asK9h eK9h)) (W.Hook.val (W.kHook K9h asK9h eK9h)) 3574 := fun w => by kernel_rfl
end
end GS
set_option Elab.async false
set_option linter.all false
namespace GS
section
variable {α : Type} [DecidableEq α]
/-! ### the law's merging, as lists of what is left -/
def offHd (c : α) : List α → List α
  | [] => []
  | x :: xs => if x = c then xs else x :: xs
def isBehind (c : α) (rs : List (List α)) : Bool := rs.any fun r => decide (c ∈ r.tail)
def freeL (rs : List (List α)) : List α := (rs.filterMap List.head?).filter fun c => !isBehind c rs
def mgStep (rs : List (List α)) (f : List (List α) → Option (List α)) : Option (List α) :=
  if rs.all List.isEmpty = true then some [] else match freeL rs with
    | [] => none
    | c :: _ => (f (rs.map (offHd c))).map (c :: ·)
def mgN : Nat → List (List α) → Option (List α)
  | 0, rs => if rs.all List.isEmpty = true then some [] else none
  | n + 1, rs => mgStep rs (mgN n)
def tot (rs : List (List α)) : Nat := (rs.map List.length).foldr (· + ·) 0
def mg (rs : List (List α)) : Option (List α) := mgN (tot rs) rs
theorem tot_cons (r : List α) (rs : List (List α)) : tot (r :: rs) = r.length + tot rs := rfl
theorem offHd_len (c : α) : ∀ r : List α, (offHd c r).length ≤ r.length
  | [] => Nat.le_refl _
  | x :: xs => by
    rw [offHd]
    split
    · exact Nat.le_succ _
    · exact Nat.le_refl _
theorem offHd_lt {c : α} {r : List α} (h : r.head? = some c) : (offHd c r).length < r.length := by
  cases r with
  | nil => cases h
  | cons x xs => simp at h; subst h; simp [offHd]
theorem tot_off_le (c : α) : ∀ rs : List (List α), tot (rs.map (offHd c)) ≤ tot rs
  | [] => Nat.le_refl _
  | r :: rs => by
    have h1 := tot_off_le c rs
    have h2 := offHd_len c r
    rw [List.map_cons, tot_cons, tot_cons]
    omega
theorem heads_cons {c : α} {r : List α} {rs : List (List α)} : c ∈ (r :: rs).filterMap List.head? ↔ r.head? = some c ∨ c ∈ rs.filterMap List.head? := by
  simp only [List.mem_filterMap, List.mem_cons]
  constructor
  · rintro ⟨a, rfl | ha, e⟩
    · exact .inl e
    · exact .inr ⟨a, ha, e⟩
  · rintro (e | ⟨a, ha, e⟩)
    · exact ⟨r, .inl rfl, e⟩
    · exact ⟨a, .inr ha, e⟩
theorem tot_off_lt (c : α) : ∀ {rs : List (List α)}, c ∈ rs.filterMap List.head? → tot (rs.map (offHd c)) < tot rs
  | [], h => by simp at h
  | r :: rs, h => by
    have h1 := tot_off_le c rs
    have h2 := offHd_len c r
    rw [List.map_cons, tot_cons, tot_cons]
    cases heads_cons.mp h with
    | inl hc => have := offHd_lt hc; omega
    | inr hc => have := tot_off_lt c hc; omega
theorem tot_zero : ∀ {rs : List (List α)}, tot rs = 0 → rs.all List.isEmpty = true
  | [], _ => rfl
  | r :: rs, h => by
    rw [tot_cons] at h
    have h1 := tot_zero (rs := rs) (by omega)
    have h2 : r = [] := List.length_eq_zero_iff.mp (by omega)
    rw [List.all_cons, h1, h2]; rfl
theorem mgN_more : ∀ (n m : Nat) (rs : List (List α)), tot rs ≤ n → tot rs ≤ m → mgN n rs = mgN m rs := by
  intro n
  induction n with
  | zero =>
    intro m rs h1 h2
    have he := tot_zero (rs := rs) (by omega)
    cases m with
    | zero => rfl
    | succ m => rw [mgN, mgN, mgStep, if_pos he, if_pos he]
  | succ n ih =>
    intro m rs h1 h2
    cases m with
    | zero =>
      have he := tot_zero (rs := rs) (by omega)
      rw [mgN, mgN, mgStep, if_pos he, if_pos he]
    | succ m =>
      rw [mgN, mgN, mgStep, mgStep]
      cases hf : freeL rs with
      | nil => rfl
      | cons c cs =>
        have hc : c ∈ freeL rs := by rw [hf]; exact List.mem_cons_self
        have hl := tot_off_lt c (List.mem_filter.mp hc).1
        dsimp only
        rw [ih m _ (by omega) (by omega)]
theorem mg_step (rs : List (List α)) : mg rs = mgStep rs mg := by
  unfold mg
  cases ht : tot rs with
  | zero =>
    have he := tot_zero ht
    rw [mgN, mgStep, if_pos he, if_pos he]
  | succ n =>
    rw [mgN, mgStep, mgStep]
    cases hf : freeL rs with
    | nil => rfl
    | cons c cs =>
      have hc : c ∈ freeL rs := by rw [hf]; exact List.mem_cons_self
      have hl := tot_off_lt c (List.mem_filter.mp hc).1
      dsimp only
      rw [mgN_more n (tot (rs.map (offHd c))) _ (by omega) (Nat.le_refl _)]
theorem mg_done {rs : List (List α)} (h : rs.all List.isEmpty = true) : mg rs = some [] := by rw [mg_step, mgStep, if_pos h]
theorem mg_stuck {rs : List (List α)} (h : ¬ rs.all List.isEmpty = true) (hf : freeL rs = []) : mg rs = none := by rw [mg_step, mgStep, if_neg h, hf]
theorem mg_next {rs : List (List α)} {c : α} {cs : List α} (hf : freeL rs = c :: cs) : mg rs = (mg (rs.map (offHd c))).map (c :: ·) := by
  have hc : c ∈ freeL rs := by rw [hf]; exact List.mem_cons_self
  have hh := (List.mem_filter.mp hc).1
  have h : ¬ rs.all List.isEmpty = true := fun z => by
    rw [List.mem_filterMap] at hh
    obtain ⟨r, hr, e⟩ := hh
    have := List.all_eq_true.mp z r hr
    rw [List.isEmpty_iff.mp this] at e
    cases e
  rw [mg_step, mgStep, if_neg h, hf]
/-- what is empty says nothing -/
def noE (rs : List (List α)) : List (List α) := rs.filter fun r => !r.isEmpty
theorem noE_cons_nil (rs : List (List α)) : noE ([] :: rs) = noE rs := rfl
theorem noE_cons (x : α) (xs : List α) (rs : List (List α)) : noE ((x :: xs) :: rs) = (x :: xs) :: noE rs := rfl
theorem noE_heads : ∀ rs : List (List α), (noE rs).filterMap List.head? = rs.filterMap List.head?
  | [] => rfl
  | [] :: rs => by rw [noE_cons_nil, noE_heads rs]; rfl
  | (x :: xs) :: rs => by rw [noE_cons, List.filterMap_cons, List.filterMap_cons, noE_heads rs]
theorem noE_behind (c : α) : ∀ rs : List (List α), isBehind c (noE rs) = isBehind c rs
  | [] => rfl
  | [] :: rs => by rw [noE_cons_nil, noE_behind c rs]; rfl
  | (x :: xs) :: rs => by
    have h := noE_behind c rs
    unfold isBehind at h ⊢
    rw [noE_cons, List.any_cons, List.any_cons, h]
theorem noE_free (rs : List (List α)) : freeL (noE rs) = freeL rs := by
  unfold freeL
  rw [noE_heads]
  refine congrFun (congrArg List.filter (funext fun c => ?_)) _
  rw [noE_behind]
theorem noE_tot : ∀ rs : List (List α), tot (noE rs) = tot rs
  | [] => rfl
  | [] :: rs => by rw [noE_cons_nil, noE_tot rs, tot_cons]; simp
  | (x :: xs) :: rs => by rw [noE_cons, tot_cons, tot_cons, noE_tot rs]
theorem noE_all (rs : List (List α)) : (noE rs).all List.isEmpty = rs.all List.isEmpty := by
  induction rs with
  | nil => rfl
  | cons r rs ih => cases r with
    | nil => rw [noE_cons_nil, ih]; rfl
    | cons x xs => rw [noE_cons, List.all_cons, List.all_cons]; rfl
theorem noE_off (c : α) : ∀ rs : List (List α), noE ((noE rs).map (offHd c)) = noE (rs.map (offHd c))
  | [] => rfl
  | [] :: rs => by rw [noE_cons_nil, noE_off c rs]; rfl
  | (x :: xs) :: rs => by
    have h := noE_off c rs
    rw [noE_cons, List.map_cons, List.map_cons]
    cases e : offHd c (x :: xs) with
    | nil => rw [noE_cons_nil, noE_cons_nil, h]
    | cons y ys => rw [noE_cons, noE_cons, h]
theorem mgN_noE : ∀ (n : Nat) (rs : List (List α)), mgN n (noE rs) = mgN n rs
  | 0, rs => by rw [mgN, mgN, noE_all]
  | n + 1, rs => by
    rw [mgN, mgN, mgStep, mgStep, noE_all, noE_free]
    split
    · rfl
    · split
      · rfl
      · rw [← mgN_noE n, noE_off, mgN_noE n]
theorem mg_noE (rs : List (List α)) : mg (noE rs) = mg rs := by unfold mg; rw [noE_tot, mgN_noE]
/-! ### the program's: whose head is behind no other head -/
def okRow (rs : List (List α)) (i : Nat) : Bool := match rs[i]? with
  | some (c :: _) => !isBehind c (rs.take i ++ rs.drop (i + 1))
  | _ => false
theorem isBehind_split {c : α} {rs : List (List α)} {i : Nat} {r : List α} (h : rs[i]? = some r) : isBehind c rs = (decide (c ∈ r.tail) || isBehind c (rs.take i ++ rs.drop (i + 1))) := by
  obtain ⟨hi, e⟩ := List.getElem?_eq_some_iff.mp h
  have : rs = rs.take i ++ r :: rs.drop (i + 1) := by
    rw [← e, ← List.drop_eq_getElem_cons hi, List.take_append_drop]
  conv => lhs; rw [this]
  unfold isBehind
  rw [List.any_append, List.any_append, List.any_cons]
  cases decide (c ∈ r.tail) <;> cases (List.take i rs).any (fun r => decide (c ∈ r.tail)) <;> rfl
theorem okRow_iff {rs : List (List α)} {i : Nat} {c : α} {cs : List α} (h : rs[i]? = some (c :: cs)) (hn : (c :: cs).Nodup) : okRow rs i = !isBehind c rs := by
  rw [isBehind_split h, okRow, h]
  have : decide (c ∈ (c :: cs).tail) = false := decide_eq_false (List.nodup_cons.mp hn).1
  rw [this]; rfl
theorem free_none {rs : List (List α)} (hn : ∀ r ∈ rs, r ≠ [] ∧ r.Nodup) (h : ∀ i, i < rs.length → okRow rs i = false) : freeL rs = [] := by
  unfold freeL
  rw [List.filter_eq_nil_iff]
  intro c hc
  rw [List.mem_filterMap] at hc
  obtain ⟨r, hr, e⟩ := hc
  obtain ⟨i, hi, ei⟩ := List.getElem_of_mem hr
  cases r with
  | nil => cases e
  | cons x xs =>
    cases e
    have h1 := okRow_iff (List.getElem?_eq_some_iff.mpr ⟨hi, ei⟩) (hn _ hr).2
    rw [h i hi] at h1
    rw [← h1]; decide
theorem free_first {rs : List (List α)} {i : Nat} {c : α} {cs : List α} (hn : ∀ r ∈ rs, r ≠ [] ∧ r.Nodup) (hi : rs[i]? = some (c :: cs)) (ho : okRow rs i = true) (h : ∀ j, j < i → okRow rs j = false) : ∃ more, freeL rs = c :: more := by
  obtain ⟨hl, e⟩ := List.getElem?_eq_some_iff.mp hi
  have hs : rs = rs.take i ++ (c :: cs) :: rs.drop (i + 1) := by
    rw [← e, ← List.drop_eq_getElem_cons hl, List.take_append_drop]
  have hc : isBehind c rs = false := by
    have := okRow_iff hi (hn _ (List.mem_of_getElem? hi)).2
    rw [ho] at this
    revert this; cases isBehind c rs <;> simp
  have ht : ((rs.take i).filterMap List.head?).filter (fun c => !isBehind c rs) = [] := by
    rw [List.filter_eq_nil_iff]
    intro d hd
    rw [List.mem_filterMap] at hd
    obtain ⟨r, hr, er⟩ := hd
    obtain ⟨j, hj, ej⟩ := List.getElem_of_mem hr
    rw [List.length_take] at hj
    have hj' : rs[j]? = some r := by
      rw [List.getElem?_eq_some_iff]
      exact ⟨by omega, by rw [← ej, List.getElem_take]⟩
    cases r with
    | nil => cases er
    | cons x xs =>
      cases er
      have h1 := okRow_iff hj' (hn _ (List.mem_of_getElem? hj')).2
      rw [h j (by omega)] at h1
      rw [← h1]; decide
  unfold freeL
  generalize hp : (fun c => !isBehind c rs) = p at ht ⊢
  refine ⟨((rs.drop (i + 1)).filterMap List.head?).filter p, ?_⟩
  have hpc : p c = true := by rw [← hp]; show (!isBehind c rs) = true; rw [hc]; rfl
  conv => lhs; rw [hs]
  rw [List.filterMap_append, List.filter_append, ht, List.nil_append, List.filterMap_cons]
  show List.filter p (c :: _) = _
  rw [List.filter_cons_of_pos hpc]
/-! ### rows stay without twins, and so is what comes out -/
theorem offHd_sub (c : α) : ∀ r : List α, (offHd c r).Sublist r
  | [] => List.Sublist.refl _
  | x :: xs => by
    rw [offHd]
    split
    · exact List.sublist_cons_self ..
    · exact List.Sublist.refl _
theorem offHd_nodup {c : α} {r : List α} (h : r.Nodup) : (offHd c r).Nodup := h.sublist (offHd_sub c r)
theorem off_gone {c : α} {rs : List (List α)} (h : isBehind c rs = false) : ∀ r ∈ rs.map (offHd c), c ∉ r := by
  intro r hr hc
  obtain ⟨q, hq, rfl⟩ := List.mem_map.mp hr
  have h1 : ¬ c ∈ q.tail := by
    intro z
    have : isBehind c rs = true := List.any_eq_true.mpr ⟨q, hq, decide_eq_true z⟩
    rw [h] at this; cases this
  cases q with
  | nil => cases hc
  | cons x xs =>
    rw [offHd] at hc
    split at hc
    · exact h1 hc
    · rename_i hx
      cases hc with
      | head => exact hx rfl
      | tail _ z => exact h1 z
theorem off_mem {c x : α} (hx : x ≠ c) : ∀ {r : List α}, x ∈ offHd c r ↔ x ∈ r
  | [] => Iff.rfl
  | y :: ys => by
    rw [offHd]
    split
    · rename_i hy
      subst hy
      exact ⟨fun z => .tail _ z, fun z => by cases z with | head => exact absurd rfl hx | tail _ z => exact z⟩
    · exact Iff.rfl
theorem mgN_facts : ∀ (n : Nat) (rs : List (List α)) {l : List α}, mgN n rs = some l → l.Nodup ∧ ∀ x, x ∈ l ↔ ∃ r ∈ rs, x ∈ r
  | 0, rs, l, h => by
    rw [mgN] at h
    split at h
    · rename_i he
      cases h
      refine ⟨List.nodup_nil, fun x => ⟨fun z => by simp at z, fun ⟨r, hr, hx⟩ => ?_⟩⟩
      rw [List.isEmpty_iff.mp (List.all_eq_true.mp he r hr)] at hx
      exact hx
    · cases h
  | n + 1, rs, l, h => by
    rw [mgN, mgStep] at h
    split at h
    · rename_i he
      cases h
      refine ⟨List.nodup_nil, fun x => ⟨fun z => by simp at z, fun ⟨r, hr, hx⟩ => ?_⟩⟩
      rw [List.isEmpty_iff.mp (List.all_eq_true.mp he r hr)] at hx
      exact hx
    · split at h
      · cases h
      · rename_i c cs hf
        rw [Option.map_eq_some_iff] at h
        obtain ⟨l', hl', rfl⟩ := h
        obtain ⟨h1, h2⟩ := mgN_facts n _ hl'
        have hc : c ∈ freeL rs := by rw [hf]; exact List.mem_cons_self
        obtain ⟨hc1, hc2⟩ := List.mem_filter.mp hc
        have hb : isBehind c rs = false := by revert hc2; cases isBehind c rs <;> simp
        have hg := off_gone hb
        refine ⟨List.nodup_cons.mpr ⟨fun z => ?_, h1⟩, fun x => ?_⟩
        · obtain ⟨r, hr, hx⟩ := (h2 c).mp z
          exact hg r hr hx
        · by_cases hx : x = c
          · subst hx
            refine ⟨fun _ => ?_, fun _ => .head _⟩
            rw [List.mem_filterMap] at hc1
            obtain ⟨r, hr, e⟩ := hc1
            exact ⟨r, hr, List.mem_of_mem_head? (by rw [e]; rfl)⟩
          · constructor
            · intro z
              cases z with
              | head => exact absurd rfl hx
              | tail _ z =>
                obtain ⟨r, hr, hxr⟩ := (h2 x).mp z
                obtain ⟨q, hq, rfl⟩ := List.mem_map.mp hr
                exact ⟨q, hq, (off_mem hx).mp hxr⟩
            · rintro ⟨r, hr, hxr⟩
              exact .tail _ ((h2 x).mpr ⟨_, List.mem_map_of_mem hr, (off_mem hx).mpr hxr⟩)
theorem mg_nodup {rs : List (List α)} {l : List α} (h : mg rs = some l) : l.Nodup := (mgN_facts _ _ h).1
theorem mg_mem {rs : List (List α)} {l : List α} (h : mg rs = some l) {x : α} : x ∈ l ↔ ∃ r ∈ rs, x ∈ r := (mgN_facts _ _ h).2 x
theorem mgN_len : ∀ (n : Nat) (rs : List (List α)) {l : List α}, mgN n rs = some l → l.length ≤ n
  | 0, rs, l, h => by
    rw [mgN] at h
    split at h
    · cases h; exact Nat.le_refl _
    · cases h
  | n + 1, rs, l, h => by
    rw [mgN, mgStep] at h
    split at h
    · cases h; exact Nat.zero_le _
    · split at h
      · cases h
      · rw [Option.map_eq_some_iff] at h
        obtain ⟨l', hl', rfl⟩ := h
        have := mgN_len n _ hl'
        simp; omega
theorem mg_len {rs : List (List α)} {l : List α} (h : mg rs = some l) : l.length ≤ tot rs := mgN_len _ _ h
end
/-! ### the same by other names -/
section
variable {α β : Type} [DecidableEq α] [DecidableEq β]
theorem offHd_map {f : α → β} {S : α → Prop} (hf : ∀ x y, S x → S y → f x = f y → x = y) {c : α} (hc : S c) : ∀ {r : List α}, (∀ x ∈ r, S x) → offHd (f c) (r.map f) = (offHd c r).map f
  | [], _ => rfl
  | x :: xs, h => by
    rw [List.map_cons, offHd, offHd]
    by_cases hx : x = c
    · rw [if_pos hx, if_pos (by rw [hx])]
    · rw [if_neg hx, if_neg (fun z => hx (hf _ _ (h x List.mem_cons_self) hc z))]; rfl
theorem behind_map {f : α → β} {S : α → Prop} (hf : ∀ x y, S x → S y → f x = f y → x = y) {c : α} (hc : S c) {rs : List (List α)} (h : ∀ r ∈ rs, ∀ x ∈ r, S x) : isBehind (f c) (rs.map (List.map f)) = isBehind c rs := by
  induction rs with
  | nil => rfl
  | cons r rs ih =>
    have h1 := ih fun q hq => h q (List.mem_cons_of_mem _ hq)
    unfold isBehind at h1 ⊢
    rw [List.map_cons, List.any_cons, List.any_cons, h1]
    have : decide (f c ∈ (r.map f).tail) = decide (c ∈ r.tail) := by
      refine decide_eq_decide.mpr ?_
      rw [← List.map_tail, List.mem_map]
      constructor
      · rintro ⟨x, hx, e⟩
        have := hf x c (h r List.mem_cons_self x (List.mem_of_mem_tail hx)) hc e
        exact this ▸ hx
      · intro z; exact ⟨c, z, rfl⟩
    rw [this]
theorem free_map {f : α → β} {S : α → Prop} (hf : ∀ x y, S x → S y → f x = f y → x = y) {rs : List (List α)} (h : ∀ r ∈ rs, ∀ x ∈ r, S x) : freeL (rs.map (List.map f)) = (freeL rs).map f := by
  unfold freeL
  have e : (rs.map (List.map f)).filterMap List.head? = (rs.filterMap List.head?).map f := by
    rw [List.filterMap_map, List.map_filterMap]
    refine congrFun (congrArg List.filterMap (funext fun r => ?_)) _
    cases r <;> rfl
  rw [e, List.filter_map]
  refine congrArg _ (List.filter_congr fun c hc => ?_)
  rw [List.mem_filterMap] at hc
  obtain ⟨r, hr, er⟩ := hc
  show (!isBehind (f c) (rs.map (List.map f))) = !isBehind c rs
  rw [behind_map hf (h r hr c (List.mem_of_mem_head? (by rw [er]; rfl))) h]
theorem tot_map (f : α → β) : ∀ rs : List (List α), tot (rs.map (List.map f)) = tot rs
  | [] => rfl
  | r :: rs => by rw [List.map_cons, tot_cons, tot_cons, tot_map f rs, List.length_map]
theorem mgN_map {f : α → β} {S : α → Prop} (hf : ∀ x y, S x → S y → f x = f y → x = y) : ∀ (n : Nat) (rs : List (List α)), (∀ r ∈ rs, ∀ x ∈ r, S x) → mgN n (rs.map (List.map f)) = (mgN n rs).map (List.map f) := by
  have ha : ∀ rs : List (List α), (rs.map (List.map f)).all List.isEmpty = rs.all List.isEmpty := fun rs => by
    rw [List.all_map]
    refine congrArg _ (funext fun r => ?_)
    cases r <;> rfl
  intro n
  induction n with
  | zero => intro rs h; rw [mgN, mgN, ha]; split <;> rfl
  | succ n ih =>
    intro rs h
    rw [mgN, mgN, mgStep, mgStep, ha, free_map hf h]
    split
    · rfl
    · cases hfr : freeL rs with
      | nil => rfl
      | cons c cs =>
        have hc : c ∈ freeL rs := by rw [hfr]; exact List.mem_cons_self
        have hc1 := (List.mem_filter.mp hc).1
        rw [List.mem_filterMap] at hc1
        obtain ⟨r, hr, er⟩ := hc1
        have hS := h r hr c (List.mem_of_mem_head? (by rw [er]; rfl))
        dsimp only [List.map_cons]
        have e : (rs.map (List.map f)).map (offHd (f c)) = (rs.map (offHd c)).map (List.map f) := by
          rw [List.map_map, List.map_map]
          exact List.map_congr_left fun q hq => offHd_map hf hS (h q hq)
        show Option.map (fun x => f c :: x) (mgN n (List.map (offHd (f c)) (List.map (List.map f) rs))) = _
        rw [e, ih]
        · rw [Option.map_map, Option.map_map]; rfl
        · intro q hq x hx
          obtain ⟨q', hq', rfl⟩ := List.mem_map.mp hq
          exact h q' hq' x ((offHd_sub c q').subset hx)
theorem mg_map {f : α → β} {S : α → Prop} (hf : ∀ x y, S x → S y → f x = f y → x = y) {rs : List (List α)} (h : ∀ r ∈ rs, ∀ x ∈ r, S x) : mg (rs.map (List.map f)) = (mg rs).map (List.map f) := by unfold mg; rw [tot_map, mgN_map hf _ _ h]
end
end GS
set_option Elab.async false
set_option linter.all false
set_option maxRecDepth 100000
/-! THE HAND LAYER, for ints, bools, texts, own classes, LISTS and tuples (index, slices, in, append, pop ..), calls, loops. Paste it whole ahead of your own text; what your proof does not reach may be deleted. -/
namespace L2
open PySem PySem.Spec PyProof.Rows

/-- a key: an int or a str -/
abbrev Key := Sum Int Str
def keyIs : Key → Value → Bool
  | .inl k, v => Value.isInt k v
  | .inr x, v => Value.isStrOf x v
def keyH (w : World) : Key → Int
  | .inl k => hashInt k
  | .inr x => hashStr w x
theorem keyIs_shape : ∀ {k : Key} {v : Value}, keyIs k v = true → (∃ i t, k = Sum.inl i ∧ v = Value.int i t) ∨ (∃ x t, k = Sum.inr x ∧ v = Value.str x t)
  | .inl i, v, h => by
    obtain ⟨t, e⟩ := Value.isInt_shape (k := i) (v := v) h
    exact .inl ⟨i, t, rfl, e⟩
  | .inr x, v, h => by
    obtain ⟨t, e⟩ := Value.isStrOf_shape (x := x) (v := v) h
    exact .inr ⟨x, t, rfl, e⟩
theorem keyIs_int (i : Int) (t : Tok) : keyIs (.inl i) (.int i t) = true := by simp [keyIs, Value.isInt]
theorem keyIs_str (x : Str) (t : Tok) : keyIs (.inr x) (.str x t) = true := by simp [keyIs, Value.isStrOf]
theorem key_ll (a b : Int) : decide ((Sum.inl a : Key) = Sum.inl b) = (a == b) := by
  by_cases e : a = b
  · subst e; simp
  · have h : ¬ (Sum.inl a : Key) = Sum.inl b := fun q => e (Sum.inl.inj q)
    rw [decide_eq_false h]
    exact (beq_eq_false_iff_ne.mpr e).symm
theorem key_rr (a b : Str) : decide ((Sum.inr a : Key) = Sum.inr b) = decide (a = b) := by
  by_cases e : a = b
  · subst e; simp
  · have h : ¬ (Sum.inr a : Key) = Sum.inr b := fun q => e (Sum.inr.inj q)
    rw [decide_eq_false h, decide_eq_false e]
theorem key_lr (a : Int) (b : Str) : decide ((Sum.inl a : Key) = Sum.inr b) = false := decide_eq_false (fun q => nomatch q)
theorem key_rl (a : Str) (b : Int) : decide ((Sum.inr a : Key) = Sum.inl b) = false := decide_eq_false (fun q => nomatch q)

def mixKind (prog : Program) (w : World) : PySem.KeyKind prog w Key where
  is := keyIs
  hash := keyH w
  inj := fun v a b ha hb => by
    rcases keyIs_shape ha with ⟨i, t, rfl, rfl⟩ | ⟨x, t, rfl, rfl⟩
    · rcases keyIs_shape hb with ⟨j, u, rfl, e⟩ | ⟨y, u, rfl, e⟩
      · injection e with e1 _; rw [e1]
      · exact nomatch e
    · rcases keyIs_shape hb with ⟨j, u, rfl, e⟩ | ⟨y, u, rfl, e⟩
      · exact nomatch e
      · injection e with e1 _; rw [e1]
  byValue := fun k v h => by
    rcases keyIs_shape h with ⟨i, t, rfl, rfl⟩ | ⟨x, t, rfl, rfl⟩ <;> rfl
  pyHash := fun hv h => by
    rcases keyIs_shape hv with ⟨i, t, rfl, rfl⟩ | ⟨x, t, rfl, rfl⟩
    · exact wpAny_pyHash_int h
    · exact wpAny_pyHash_str h
  eqBool := fun hu hv h => by
    rcases keyIs_shape hu with ⟨i, t, rfl, rfl⟩ | ⟨x, t, rfl, rfl⟩
    · rcases keyIs_shape hv with ⟨j, u, rfl, rfl⟩ | ⟨y, u, rfl, rfl⟩
      · rw [key_ll] at h; exact wpAny_eqBool_int h
      · rw [key_lr] at h; exact SeqAt.EqAt.int_str i t y u _ _ _ _ h
    · rcases keyIs_shape hv with ⟨j, u, rfl, rfl⟩ | ⟨y, u, rfl, rfl⟩
      · rw [key_rl] at h; exact SeqAt.EqAt.str_int x t j u _ _ _ _ h
      · rw [key_rr] at h; exact wpAny_eqBool_str h
  «strs» := fun k x t v h => by
    rcases keyIs_shape h with ⟨i, u, rfl, e⟩ | ⟨y, u, rfl, e⟩
    · exact nomatch e
    · injection e with e1 _
      subst e1
      cases v <;> rfl

theorem mixKind_int (prog : Program) (w : World) (i : Int) (t : Tok) : (mixKind prog w).is (.inl i) (.int i t) = true := keyIs_int i t
theorem mixKind_str (prog : Program) (w : World) (x : Str) (t : Tok) : (mixKind prog w).is (.inr x) (.str x t) = true := keyIs_str x t
end L2

namespace L2
open PySem PySem.Spec PyProof.Rows

/-- a value, without the heap -/
inductive V where
  | non | bl (b : Bool) | int (i : Int) | str (x : Str) | byt (b : Array UInt8) | flt (b : UInt64) | ref (a : Addr) | ty (n : String)
  deriving DecidableEq

def RelV : V → Value → Prop
  | .non, u => u = Value.none
  | .bl b, u => u = Value.bool b
  | .int i, u => ∃ t, u = Value.int i t
  | .str x, u => ∃ t, u = Value.str x t
  | .byt b, u => ∃ t, u = Value.bytes b t
  | .flt b, u => ∃ t, u = Value.float b t
  | .ref a, u => u = Value.ref a
  | .ty n, u => u = Value.type n

abbrev Vals : List V → List Value → Prop := Paired RelV
theorem Vals.length {xs : List V} {us : List Value} (r : Vals xs us) : xs.length = us.length := Paired.length r
theorem Vals.get : ∀ {xs : List V} {us : List Value} {i : Nat} {x : V}, Vals xs us → xs[i]? = some x → ∃ u, us[i]? = some u ∧ RelV x u
  | _, _, _, _, .nil, e => by simp at e
  | _, _, 0, _, .cons r _, e => by simp at e; subst e; exact ⟨_, rfl, r⟩
  | _, _, i + 1, x, .cons _ t, e => by
    obtain ⟨u, h1, h2⟩ := Vals.get (i := i) (x := x) t (by simpa using e)
    exact ⟨u, by simpa using h1, h2⟩
theorem Vals.set {x : V} {u : Value} (r : RelV x u) : ∀ {xs : List V} {us : List Value} (i : Nat), Vals xs us → Vals (xs.set i x) (us.set i u)
  | _, _, _, .nil => .nil
  | _, _, 0, .cons _ t => .cons r t
  | _, _, i + 1, .cons q t => .cons q (Vals.set r i t)
theorem Vals.append : ∀ {xs ys : List V} {us ws : List Value}, Vals xs us → Vals ys ws → Vals (xs ++ ys) (us ++ ws)
  | _, _, _, _, .nil, s => s
  | _, _, _, _, .cons r t, s => .cons r (Vals.append t s)
theorem Vals.take : ∀ {xs : List V} {us : List Value} (n : Nat), Vals xs us → Vals (xs.take n) (us.take n)
  | _, _, 0, _ => .nil
  | _, _, _ + 1, .nil => .nil
  | _, _, n + 1, .cons r t => .cons r (Vals.take n t)
theorem Vals.drop : ∀ {xs : List V} {us : List Value} (n : Nat), Vals xs us → Vals (xs.drop n) (us.drop n)
  | _, _, 0, r => r
  | _, _, _ + 1, .nil => .nil
  | _, _, n + 1, .cons _ t => Vals.drop n t

def RelO : Option V → Option Value → Prop
  | some v, some u => RelV v u
  | none, none => True
  | _, _ => False
def KV {κ : Type} : List (κ × V) → List (κ × Value) → Prop := Paired fun (p : κ × V) (q : κ × Value) => p.1 = q.1 ∧ RelV p.2 q.2

/-- a key of a dict (00_mix): an int or a text -/
def kV : Key → V
  | .inl i => .int i
  | .inr x => .str x

/-- what stands at a tracked address -/
inductive HO where
  /-- a list -/
  | lst (xs : List V)
  /-- a tuple (never changes) -/
  | tup (xs : List V)
  /-- a dict whose keys are ints and texts; one whose keys are tuples of ints and texts (the empty one is both) -/
  | dK (kvs : List (Key × V)) | dT (kvs : List (List Key × V))
  /-- a set of ints: its members, its size -/
  | set (S : Int → Bool) (n : Nat)
  /-- an instance of the class at C, its dict at dx, its attributes -/
  | ins (C dx : Addr) (fs : List (Str × V))
  /-- the dict of the instance at x -/
  | own (x : Addr)
  /-- the dict of an exception -/
  | xd (fs : List (Str × V))
  /-- a bound method, f of x -/
  | met (f x : Addr)
  /-- a range object lo, lo + 1, .. below hi -/
  | rng (lo hi : Int)
  /-- a thing that is known to the object (the script; a dict while a loop walks it): read, never written while it is so -/
  | frz (o : Obj) (u : HO)
  /-- a code object's table -/
  | tbl (ps : Array Value)
  /-- any other thing, by what is true of its one object (a def of one's own: SetO a S n := HO.ext fun h => ..) -/
  | ext (φ : Heap → Prop)

abbrev Hp := Addr → Option HO
def upd (H : Hp) (a : Addr) (o : HO) : Hp := fun b => if b = a then some o else H b
theorem upd_same {H : Hp} {a : Addr} {o : HO} : upd H a o a = some o := by unfold upd; rw [if_pos rfl]
theorem upd_ne {H : Hp} {a b : Addr} {o : HO} (h : b ≠ a) : upd H a o b = H b := by unfold upd; rw [if_neg h]
/-- two objects of different content stand apart -/
theorem ne_of {H : Hp} {a b : Addr} {o u : HO} (h : H a = some o) (h' : H b = some u) (d : o ≠ u) : a ≠ b := by
  intro e; subst e; rw [h] at h'; exact d (Option.some.inj h')
theorem ne_of_none {H : Hp} {a b : Addr} {o : HO} (h : H a = some o) (h' : H b = none) : a ≠ b := by
  intro e; subst e; rw [h] at h'; cases h'

section
variable (P : Program) (w : World)
def ObjOk (H : Hp) (h : Heap) (a : Addr) : HO → Prop
  | .lst xs => xs.length ≤ sizeLine ∧ ∃ (its : List Value) (n : Nat), Vals xs its ∧ h.get? a = some { cls := .type "list", data := .seq its.toArray n }
  | .tup xs => xs.length ≤ sizeLine ∧ ∃ its : List Value, Vals xs its ∧ IsTup h a its.toArray
  | .dK kvs => kvs.length ≤ sizeLine ∧ (a == sysModules) = false ∧ ∃ vs, KV kvs vs ∧ h.DictOf (mixKind P w) a vs
  | .dT kvs => kvs.length ≤ sizeLine ∧ (a == sysModules) = false ∧ ∃ xs : List (List Key × Addr × Value),
      Paired (fun (p : List Key × V) (q : List Key × Addr × Value) => p.1 = q.1 ∧ H q.2.1 = some (.tup (p.1.map kV)) ∧ RelV p.2 q.2.2) kvs xs ∧
      ∃ o es ep, h.get? a = some o ∧ o.ExactDict ∧ o.data = .dict es ep ∧ es.toList = xs.map (entryOfKey (tupleKind (mixKind P w))) ∧ (xs.map (·.1)).Nodup
  | .set S n => h.SetOf (intKind P w) a S n
  | .ins C dx fs => H dx = some (.own a) ∧ fs.length ≤ 1000 ∧ dx ≠ a ∧ h.get? a = some (PySem.W.instObj C dx) ∧
      ∃ mA, h.Ns1 dx mA ∧ (∀ f, RelO (fs.lookup f) (mA f)) ∧ PySem.Within mA (fs.map (·.1))
  | .own _ => ∃ o, h.get? a = some o
  | .xd fs => ∃ mA, h.Ns1 a mA ∧ ∀ f, RelO (fs.lookup f) (mA f)
  | .rng lo hi => ∃ t u v, h.get? a = some { cls := .type "range", data := .fields #[.int lo t, .int hi u, .int 1 v] }
  | .frz o u => h.get? a = some o ∧ ObjOk H h a u
  | .tbl ps => h.get? a = some { cls := .none, data := .fields ps }
  | .met f x => h.get? a = some (PySem.W.methodObj (.ref f) (.ref x))
  | .ext φ => φ h ∧ (∃ o, h.get? a = some o) ∧ ∀ h1 h2 : Heap, φ h1 → (∀ o, h1.get? a = some o → h2.get? a = some o) → φ h2
/-- the abstract heap is held -/
def HOk (H : Hp) (h : Heap) : Prop := ∀ a o, H a = some o → ObjOk P w H h a o
end

section
variable {P : Program} {w : World} {H H' : Hp} {h h' : Heap} {a : Addr} {o : HO}
theorem ObjOk.lt (x : ObjOk P w H h a o) : a < h.objs.size := by
  cases o with
  | lst xs => obtain ⟨_, _, _, _, e⟩ := x; exact Heap.lt_size e
  | tup xs => obtain ⟨_, _, _, p⟩ := x; exact p.lt
  | dK kvs => obtain ⟨_, _, _, _, o, _, _, e, _⟩ := x; exact Heap.lt_size e
  | dT kvs => obtain ⟨_, _, _, _, o, _, _, e, _⟩ := x; exact Heap.lt_size e
  | set S n => obtain ⟨o, _, _, _, e, _⟩ := x; exact Heap.lt_size e
  | ins C dx fs => obtain ⟨_, _, _, e, _⟩ := x; exact Heap.lt_size e
  | own y => obtain ⟨_, e⟩ := x; exact Heap.lt_size e
  | xd fs => obtain ⟨_, ⟨_, _, _, e, _⟩, _⟩ := x; exact Heap.lt_size e
  | rng lo hi => obtain ⟨_, _, _, e⟩ := x; exact Heap.lt_size e
  | frz ob u => obtain ⟨e, _⟩ := x; exact Heap.lt_size e
  | tbl ps => exact Heap.lt_size (show h.get? a = some _ from x)
  | met f y => exact Heap.lt_size (show h.get? a = some _ from x)
  | ext φ => obtain ⟨_, ⟨_, e⟩, _⟩ := x; exact Heap.lt_size e
theorem Paired.mapP {α β : Type} {F G : α → β → Prop} : ∀ {l₁ : List α} {l₂ : List β}, Paired F l₁ l₂ → (∀ a b, F a b → G a b) → Paired G l₁ l₂
  | _, _, .nil, _ => .nil
  | _, _, .cons r t, f => .cons (f _ _ r) (Paired.mapP t f)
/-- what an object's description leans on: its own object, its own dict, the tuples -/
theorem ObjOk.stay (x : ObjOk P w H h a o) (k : ∀ b u, (b = a ∨ H b = some (.own a)) → h.get? b = some u → h'.get? b = some u)
    (ho : ∀ b, H b = some (.own a) → H' b = some (.own a)) (ht : ∀ b xs, H b = some (.tup xs) → H' b = some (.tup xs)) : ObjOk P w H' h' a o := by
  induction o with
  | lst xs => obtain ⟨z, its, n, r, e⟩ := x; exact ⟨z, its, n, r, k _ _ (.inl rfl) e⟩
  | tup xs => obtain ⟨z, its, r, ob, e, c⟩ := x; exact ⟨z, its, r, ob, k _ _ (.inl rfl) e, c⟩
  | dK kvs => obtain ⟨z, y, vs, r, ob, es, ep, e, c⟩ := x; exact ⟨z, y, vs, r, ob, es, ep, k _ _ (.inl rfl) e, c⟩
  | dT kvs =>
    obtain ⟨z, y, xs, r, ob, es, ep, e, c⟩ := x
    exact ⟨z, y, xs, Paired.mapP r fun p q z => ⟨z.1, ht _ _ z.2.1, z.2.2⟩, ob, es, ep, k _ _ (.inl rfl) e, c⟩
  | set S n => obtain ⟨ob, es, ep, t, e, c⟩ := x; exact ⟨ob, es, ep, t, k _ _ (.inl rfl) e, c⟩
  | ins C dx fs =>
    obtain ⟨d, z, ne, e, mA, ⟨od, es, ep, e2, c⟩, r⟩ := x
    exact ⟨ho _ d, z, ne, k _ _ (.inl rfl) e, mA, ⟨od, es, ep, k _ _ (.inr d) e2, c⟩, r⟩
  | own y => obtain ⟨ob, e⟩ := x; exact ⟨ob, k _ _ (.inl rfl) e⟩
  | xd fs => obtain ⟨mA, ⟨od, es, ep, e, c⟩, r⟩ := x; exact ⟨mA, ⟨od, es, ep, k _ _ (.inl rfl) e, c⟩, r⟩
  | rng lo hi => obtain ⟨t, u, v, e⟩ := x; exact ⟨t, u, v, k _ _ (.inl rfl) e⟩
  | frz ob u ih => obtain ⟨e, q⟩ := x; exact ⟨k _ _ (.inl rfl) e, ih q⟩
  | tbl ps =>
    have e : h.get? a = some { cls := .none, data := .fields ps } := x
    show h'.get? a = some { cls := .none, data := .fields ps }
    exact k a _ (.inl rfl) e
  | met f y =>
    have e : h.get? a = some (PySem.W.methodObj (.ref f) (.ref y)) := x
    show h'.get? a = some (PySem.W.methodObj (.ref f) (.ref y))
    exact k a _ (.inl rfl) e
  | ext φ => obtain ⟨p, ⟨o, e⟩, st⟩ := x; exact ⟨st _ _ p fun o q => k _ _ (.inl rfl) q, ⟨o, k _ _ (.inl rfl) e⟩, st⟩
theorem HOk.lt (x : HOk P w H h) (e : H a = some o) : a < h.objs.size := (x a o e).lt
theorem HOk.fresh (x : HOk P w H h) (e : h.objs.size ≤ a) : H a = none := by
  cases q : H a with
  | none => rfl
  | some u => exact absurd (Nat.lt_of_lt_of_le (x.lt q) e) (Nat.lt_irrefl _)
/-- every object of the heap is kept -/
theorem HOk.kept (x : HOk P w H h) (k : ∀ b u, h.get? b = some u → h'.get? b = some u) : HOk P w H h' := fun a o e =>
  (x a o e).stay (fun b u _ q => k b u q) (fun _ q => q) fun _ _ q => q
/-- a new object is laid and tracked -/
theorem HOk.laid (x : HOk P w H h) (k : ∀ b u, h.get? b = some u → h'.get? b = some u) (hp : h.objs.size ≤ a) (new : ObjOk P w (upd H a o) h' a o) : HOk P w (upd H a o) h' := fun b u e => by
  have hn := x.fresh hp
  by_cases hb : b = a
  · subst hb; rw [upd_same] at e; cases e; exact new
  · rw [upd_ne hb] at e
    exact (x b u e).stay (fun c v _ q => k c v q) (fun c q => by rw [upd_ne (ne_of_none q hn)]; exact q) fun c xs q => by rw [upd_ne (ne_of_none q hn)]; exact q
end

/-- what may be read as u: it is u, or a known u -/
def Rd (H : Hp) (a : Addr) (u : HO) : Prop := H a = some u ∨ ∃ o, H a = some (.frz o u)
theorem Rd.ok {P : Program} {w : World} {H : Hp} {h : Heap} {a : Addr} {u : HO} (r : Rd H a u) (x : HOk P w H h) : ObjOk P w H h a u := by
  rcases r with r | ⟨o, r⟩
  · exact x a u r
  · obtain ⟨_, q⟩ := x a _ r
    exact q
/-- what may be written -/
def Mut : Option HO → Prop
  | some (.lst _) => True
  | some (.dK _) => True
  | some (.dT _) => True
  | some (.set _ _) => True
  | some (.ins _ _ _) => True
  | some (.ext _) => True
  | _ => False
section
variable {P : Program} {w : World} {H : Hp} {h h' : Heap} {x e : Addr} {o' : HO}
/-- the object at e is changed: x itself, or the dict of the instance x -/
theorem HOk.write (ok : HOk P w H h) (mu : Mut (H x)) (he : e = x ∨ H e = some (.own x)) (k : ∀ b u, b ≠ e → h.get? b = some u → h'.get? b = some u) (heo : ∃ u, h'.get? e = some u)
    (new : ObjOk P w (upd H x o') h' x o') : HOk P w (upd H x o') h' := fun b u q => by
  have nown : ∀ c y, H c = some (.own y) → c ≠ x := fun c y r z => by subst z; rw [r] at mu; exact mu
  have ntup : ∀ c xs, H c = some (.tup xs) → c ≠ x := fun c xs r z => by subst z; rw [r] at mu; exact mu
  by_cases hb : b = x
  · subst hb; rw [upd_same] at q; cases q; exact new
  · rw [upd_ne hb] at q
    by_cases hbe : b = e
    · have q' : H b = some (.own x) := by
        rcases he with z | z
        · exact absurd (hbe.trans z) hb
        · rw [hbe]; exact z
      rw [q] at q'; cases q'
      obtain ⟨v, hv⟩ := heo
      exact ⟨v, by rw [hbe]; exact hv⟩
    · refine (ok b u q).stay (fun c v hc r => k c v ?_ r) (fun c r => by rw [upd_ne (nown c b r)]; exact r) fun c xs r => by rw [upd_ne (ntup c xs r)]; exact r
      rcases hc with rfl | hc
      · exact hbe
      · rintro rfl
        rcases he with z | z
        · exact nown c b hc z
        · rw [hc] at z; cases z; exact hb rfl
end

/-! ### kept unless tracked; of the frames at fs (the callers') the slots may change (an exception that passes writes there); of the records at ex (iterators) nothing is said -/
structure Un (fs ex : List Addr) (H H' : Hp) (h h' : Heap) : Prop where
  keep : ∀ b o, h.get? b = some o → H b = none → b ∉ fs → b ∉ ex → h'.get? b = some o
  slot : ∀ b o, h.get? b = some o → H b = none → b ∈ fs → b ∉ ex → ∃ sl, h'.get? b = some { o with slots := sl }
  free : ∀ b o, h.get? b = some o → H b = none → b ∉ ex → H' b = none
  there : ∀ b o, h.get? b = some o → b ∉ ex → ∃ o', h'.get? b = some o'
  tups : ∀ b xs, H b = some (.tup xs) → H' b = some (.tup xs)
  frzs : ∀ b o u, H b = some (.frz o u) → H' b = some (.frz o u)
  tbls : ∀ b ps, H b = some (.tbl ps) → ∃ more, H' b = some (.tbl (ps ++ more))
section
variable {fs fs' ex ex' : List Addr} {H H1 H2 : Hp} {h h1 h2 h' : Heap} {a x e : Addr} {o : HO}
theorem Un.any (u : Un fs ex H H1 h h1) {b : Addr} {ob : Obj} (q : h.get? b = some ob) (n : H b = none) (hx : b ∉ ex) : ∃ sl, h1.get? b = some { ob with slots := sl } := by
  by_cases hb : b ∈ fs
  · exact u.slot b ob q n hb hx
  · exact ⟨ob.slots, u.keep b ob q n hb hx⟩
theorem Un.kept (k : ∀ b u, h.get? b = some u → h'.get? b = some u) : Un fs ex H H h h' :=
  ⟨fun b ob q _ _ _ => k b ob q, fun b ob q _ _ _ => ⟨ob.slots, k b ob q⟩, fun _ _ _ n _ => n, fun b ob q _ => ⟨ob, k b ob q⟩, fun _ _ q => q, fun _ _ _ q => q, fun _ ps q => ⟨#[], by rw [q]; simp⟩⟩
theorem Un.refl : Un fs ex H H h h := Un.kept fun _ _ q => q
theorem Un.laid (k : ∀ b u, h.get? b = some u → h'.get? b = some u) (hp : h.objs.size ≤ a) (hn : H a = none) : Un fs ex H (upd H a o) h h' where
  keep := fun b u q _ _ _ => k b u q
  slot := fun b u q _ _ _ => ⟨u.slots, k b u q⟩
  free := fun b u q n _ => by rw [upd_ne (Nat.ne_of_lt (Nat.lt_of_lt_of_le (Heap.lt_size q) hp))]; exact n
  there := fun b u q _ => ⟨u, k b u q⟩
  tups := fun b xs q => by rw [upd_ne (ne_of_none q hn)]; exact q
  frzs := fun b u xs q => by rw [upd_ne (ne_of_none q hn)]; exact q
  tbls := fun b ps q => ⟨#[], by rw [upd_ne (ne_of_none q hn), q]; simp⟩
theorem Un.write (mu : Mut (H x)) (he : e = x ∨ H e = some (.own x)) (k : ∀ b u, b ≠ e → h.get? b = some u → h'.get? b = some u) (heo : ∃ u, h'.get? e = some u) : Un fs ex H (upd H x o) h h' := by
  have hx : ∀ b, H b = none → b ≠ x := fun b n z => by subst z; rw [n] at mu; exact mu
  have hb : ∀ b, H b = none → b ≠ e := fun b n z => by
    subst z
    rcases he with r | r
    · exact hx b n r
    · rw [n] at r; cases r
  have hm : ∀ b u, H b = some u → ¬ Mut (some u) → b ≠ x := fun b u q nm z => by subst z; rw [q] at mu; exact nm mu
  refine ⟨fun b u q n _ _ => k b u (hb b n) q, fun b u q n _ _ => ⟨u.slots, k b u (hb b n) q⟩, fun b u q n _ => by rw [upd_ne (hx b n)]; exact n, fun b u q _ => ?_,
    fun b xs q => by rw [upd_ne (hm b _ q fun z => z)]; exact q, fun b u xs q => by rw [upd_ne (hm b _ q fun z => z)]; exact q, fun b ps q => ⟨#[], by rw [upd_ne (hm b _ q fun z => z), q]; simp⟩⟩
  by_cases hbe : b = e
  · subst hbe; exact heo
  · exact ⟨u, k b u hbe q⟩
end

/-! ### the heap without what is tracked -/
def trk (h : Heap) (H : Hp) : List Addr := (List.range h.objs.size).filter fun a => (H a).isSome
def hidT (h : Heap) (H : Hp) : Heap := PySem.W.hideAll h (trk h H)
theorem hidT_size (h : Heap) (H : Hp) : (hidT h H).objs.size = h.objs.size := PySem.W.hideAll_size _ _
theorem hidT_get {h : Heap} {H : Hp} {b : Addr} {o : Obj} (e : h.get? b = some o) (n : H b = none) : (hidT h H).get? b = some o :=
  PySem.W.hideAll_get _ e fun hm => by
    have q : (H b).isSome = true := (List.mem_filter.mp hm).2
    rw [n] at q; simp at q
theorem of_hidT {h : Heap} {H : Hp} {b : Addr} {o : Obj} (e : (hidT h H).get? b = some o) : h.get? b = some o ∧ H b = none := by
  have e' : h.get? b = some o := PySem.W.of_hideAll (trk h H) e
  refine ⟨e', ?_⟩
  cases q : H b with
  | none => rfl
  | some x =>
    have hm : b ∈ trk h H := List.mem_filter.mpr ⟨List.mem_range.mpr (Heap.lt_size e'), by simp [q]⟩
    have z : (hidT h H).get? b = none := PySem.W.hideAll_none (trk h H) hm
    rw [z] at e; cases e

/-! ### OpenK's ledger, filled with every new object but one -/
end L2

namespace L2
open PySem PySem.Spec PyProof.Rows

/-- the module's facts, over the base: the heap at the law's entry without what is tracked there -/
structure Mod (K : PySem.W.Frag) (mg : Str → Option Value) (base : Heap) : Prop where
  kin : K.In base
  glob : base.Ns mainGlobals mg
  blt : ∃ mb, base.Ns builtinsNs mb ∧ ∀ x : Str, x ≠ "__name__" → mb x = bootBuiltins x
  nolimit : base.NoLimit

/-- the context: a def's body (or a comprehension's block) running. base: fixed through the whole law; s₀, H₀: the entry; outer: the frames whose slots others may change (a def's callers); stack: all frames that run;
   ex: iterators that were made ahead of the entry and are walked here (a comprehension's); fn: the names whose cells were made at the entry (a def: all; a comprehension's block: its own); calm: not within an except suite; pn: pins that every state bears; xe: what is wanted of an exception that leaves the code -/
structure Cx where
  prog : Program
  w : World
  K : PySem.W.Frag
  mg : Str → Option Value
  base : Heap
  A : Around
  N : List Str
  s₀ : Shared
  H₀ : Hp
  env : Env
  outer : List Env
  stack : List Env
  ex : List Addr
  fn : Str → Bool
  calm : Bool
  pn : List (Addr × Obj)
  xe : Value → Shared → Prop
/-- the callers' frames -/
def frs (l : List Env) : List Addr := l.filterMap (·.frame)
abbrev Cx.fs (X : Cx) : List Addr := frs X.outer

def Vis (sc : Scope) (x : Str) : Prop := sc.names.lookup x = some .local ∨ sc.names.lookup x = some .cell ∨ sc.names.lookup x = some .free
def Loc (sc : Scope) (x : Str) : Prop := sc.names.lookup x = some .local ∨ sc.names.lookup x = some .cell
def Look (env : Env) (h : Heap) (m : Str → Option Value) (x : Str) (u : Value) : Prop :=
  (env.kindOf x = some .local ∧ m x = some u) ∨ ((env.kindOf x = some .cell ∨ env.kindOf x = some .free) ∧ ∃ c, env.cells.lookup x = some c ∧ h.IsCell c (some u))

structure Cx.Ok (X : Cx) : Prop where
  mod : Mod X.K X.mg X.base
  kind : X.env.scope.kind = .function
  glob : X.env.globals = mainGlobals
  blt : X.env.builtins = builtinsNs
  above : X.s₀.heap.objs.size ≤ X.env.locals
  inj : ∀ x y c, X.env.cells.lookup x = some c → X.env.cells.lookup y = some c → x = y
  has : ∀ x, (X.env.kindOf x = some .cell ∨ X.env.kindOf x = some .free) → ∃ c, X.env.cells.lookup x = some c
  cab : ∀ x c, X.fn x = true → X.env.cells.lookup x = some c → X.s₀.heap.objs.size ≤ c
  hd : X.calm = true → X.A.handled = none
  frames : X.A.frames = some X.stack
  stk : X.stack = X.outer ∨ (X.stack = X.env :: X.outer ∧ X.env.frame = some X.env.locals)
  exf : ∀ b ∈ X.ex, b ≠ X.env.locals ∧ ∀ x c, X.env.cells.lookup x = some c → c ≠ b
  bs : ∀ b o, X.base.get? b = some o → X.s₀.heap.get? b = some o ∧ X.H₀ b = none
  bsz : X.base.objs.size ≤ X.s₀.heap.objs.size
  noex : ∀ b o, X.base.get? b = some o → b ∉ X.ex
  exfs : ∀ b ∈ X.ex, b ∉ X.fs
  funs : X.s₀.heap.FunFrames X.base X.outer
  frf : ∀ b ∈ X.fs, X.H₀ b = none

structure Inv (X : Cx) (pins : List (Addr × Obj)) (σ : List (Option V)) (H : Hp) (s : Shared) : Prop where
  ok : X.Ok
  os : s.os = X.s₀.os
  bare : AllBare s.gens
  base : Un X.fs X.ex X.H₀ H X.s₀.heap s.heap
  loc : ∃ m, s.heap.Ns X.env.locals m ∧ ∀ (i : Nat) (x : Str) (v : V), X.N[i]? = some x → σ[i]? = some (some v) → Vis X.env.scope x → ∃ u, RelV v u ∧ Look X.env s.heap m x u
  cell : ∀ x c, X.env.cells.lookup x = some c → ∃ v, s.heap.IsCell c v
  free : H X.env.locals = none
  freeC : ∀ x c, X.env.cells.lookup x = some c → H c = none
  pin : ∀ p ∈ X.pn ++ pins, s.heap.get? p.1 = some p.2 ∧ H p.1 = none ∧ p.1 ≠ X.env.locals ∧ p.1 ∉ X.fs ∧ ∀ v, p.2.data ≠ .cell v
  hok : HOk X.prog X.w H s.heap
  len : σ.length = X.N.length

section
variable {X : Cx} {pins : List (Addr × Obj)} {σ : List (Option V)} {H H' : Hp} {s : Shared} {h' : Heap}

theorem Cx.Ok.nofr (ok : X.Ok) {b : Addr} {o : Obj} (e : X.base.get? b = some o) : b ∉ X.fs := fun hb => by
  have := (ok.funs.mem hb).1
  rw [e] at this; cases this
theorem Inv.bs (I : Inv X pins σ H s) : ∀ b o, X.base.get? b = some o → s.heap.get? b = some o ∧ H b = none := fun b o e =>
  ⟨I.base.keep b o (I.ok.bs b o e).1 (I.ok.bs b o e).2 (I.ok.nofr e) (I.ok.noex b o e), I.base.free b o (I.ok.bs b o e).1 (I.ok.bs b o e).2 (I.ok.noex b o e)⟩
theorem Inv.bk (I : Inv X pins σ H s) : ∀ b o, X.base.get? b = some o → s.heap.get? b = some o := fun b o e => (I.bs b o e).1
theorem Inv.mod (I : Inv X pins σ H s) : Mod X.K X.mg X.base := I.ok.mod
theorem Inv.kIn (I : Inv X pins σ H s) : X.K.In s.heap := I.ok.mod.kin.keeps I.bk
theorem Inv.lt (I : Inv X pins σ H s) : X.env.locals < s.heap.objs.size := let ⟨_, hn, _⟩ := I.loc; hn.lt
theorem Inv.sz (I : Inv X pins σ H s) : X.s₀.heap.objs.size ≤ s.heap.objs.size := Nat.le_trans I.ok.above (Nat.le_of_lt I.lt)
theorem Inv.nofs (I : Inv X pins σ H s) {a : Addr} (h : s.heap.objs.size ≤ a) : a ∉ X.fs := fun hb => by
  obtain ⟨_, o, ho, _⟩ := I.ok.funs.mem hb
  exact absurd (Nat.lt_of_lt_of_le (Heap.lt_size ho) (Nat.le_trans I.sz h)) (Nat.lt_irrefl _)
theorem Inv.cne (I : Inv X pins σ H s) : ∀ x c, X.env.cells.lookup x = some c → c ≠ X.env.locals := fun x c e z => by
  obtain ⟨v, o, ho, hd⟩ := I.cell x c e
  obtain ⟨m, ⟨o', es, ep, ho', hd', _⟩, _⟩ := I.loc
  rw [z, ho'] at ho; cases ho; rw [hd'] at hd; cases hd
theorem Inv.funs (I : Inv X pins σ H s) : s.heap.FunFrames X.base X.outer := by
  have all : ∀ (l : List Env), (∀ b ∈ frs l, b ∈ X.fs) → X.s₀.heap.FunFrames X.base l → s.heap.FunFrames X.base l := by
    intro l
    induction l with
    | nil => intro _ _; trivial
    | cons env r ih =>
      intro hs hl
      obtain ⟨hk, ⟨L, o, hf, hn, ho, hd⟩, hr⟩ := hl
      have hL : L ∈ X.fs := hs L (by unfold frs; rw [List.filterMap_cons, hf]; exact List.mem_cons_self)
      obtain ⟨sl, e⟩ := I.base.slot L o ho (I.ok.frf L hL) hL fun z => I.ok.exfs L z hL
      exact ⟨hk, ⟨L, _, hf, hn, e, hd⟩, ih (fun b hb => hs b (by unfold frs; rw [List.filterMap_cons, hf]; exact List.mem_cons_of_mem _ hb)) hr⟩
  exact all X.outer (fun _ hb => hb) I.ok.funs

/-- the frames that run, for a call -/
theorem Inv.stack (I : Inv X pins σ H s) : s.heap.FunFrames X.base X.stack := by
  rcases I.ok.stk with e | ⟨e, hf⟩
  · rw [e]; exact I.funs
  · rw [e]
    obtain ⟨m, hn, _⟩ := I.loc
    refine .cons (by rw [I.ok.kind]; decide) hf hn ?_ I.funs
    exact Heap.get?_none_of_le (Nat.le_trans I.ok.bsz I.ok.above)
theorem Inv.stkSub (I : Inv X pins σ H s) : ∀ b ∈ frs X.stack, b ∈ X.env.locals :: X.fs := fun b hb => by
  rcases I.ok.stk with e | ⟨e, hf⟩
  · rw [e] at hb; exact List.mem_cons_of_mem _ hb
  · rw [e] at hb
    unfold frs at hb
    rw [List.filterMap_cons, hf] at hb
    exact hb
theorem Inv.stkFree (I : Inv X pins σ H s) : ∀ b ∈ frs X.stack, H b = none := fun b hb => by
  rcases List.mem_cons.mp (I.stkSub b hb) with e | hb
  · rw [e]; exact I.free
  · obtain ⟨_, o, ho, _⟩ := I.ok.funs.mem hb
    exact I.base.free b o ho (I.ok.frf b hb) fun z => I.ok.exfs b z hb

/-- THE STEP: the untracked objects but the frame and the records at ch are kept (the callers' frames up to slots), the frame's map is kept, the new abstract heap is held -/
theorem Inv.step {g' : Array GenState} {t' : Nat} {d' : Drawn} {ch : List Addr} (I : Inv X pins σ H s)
    (hch : ∀ b ∈ ch, (b ∈ X.ex ∨ X.s₀.heap.objs.size ≤ b) ∧ b ≠ X.env.locals ∧ (∀ x c, X.env.cells.lookup x = some c → c ≠ b) ∧ ∀ p ∈ X.pn ++ pins, p.1 ≠ b)
    (keep : ∀ b o, b ≠ X.env.locals → b ∉ X.fs → b ∉ ch → s.heap.get? b = some o → H b = none → h'.get? b = some o)
    (slot : ∀ b o, b ≠ X.env.locals → b ∈ X.fs → b ∉ ch → s.heap.get? b = some o → H b = none → ∃ sl, h'.get? b = some { o with slots := sl }) (free : ∀ b o, b ∉ ch → s.heap.get? b = some o → H b = none → H' b = none)
    (there : ∀ b o, b ∉ ch → s.heap.get? b = some o → ∃ o', h'.get? b = some o')
    (tups : ∀ b xs, H b = some (.tup xs) → H' b = some (.tup xs)) (frzs : ∀ b o u, H b = some (.frz o u) → H' b = some (.frz o u)) (tbls : ∀ b ps, H b = some (.tbl ps) → ∃ more, H' b = some (.tbl (ps ++ more)))
    (ns : ∀ m, s.heap.Ns X.env.locals m → h'.Ns X.env.locals m) (hok : HOk X.prog X.w H' h') (hg : AllBare g') :
    Inv X pins σ H' { s with heap := h', gens := g', drawn := d', toks := t' } := by
  have neL : ∀ b o, X.s₀.heap.get? b = some o → b ≠ X.env.locals := fun b o e => Nat.ne_of_lt (Nat.lt_of_lt_of_le (Heap.lt_size e) I.ok.above)
  have neC : ∀ b o, X.s₀.heap.get? b = some o → b ∉ X.ex → b ∉ ch := fun b o e hx hb => by
    rcases (hch b hb).1 with z | z
    · exact hx z
    · exact absurd (Nat.lt_of_lt_of_le (Heap.lt_size e) z) (Nat.lt_irrefl _)
  have cellK : ∀ x c, X.env.cells.lookup x = some c → ∀ v, s.heap.IsCell c v → h'.IsCell c v := fun x c e v ⟨o, ho, hd⟩ => by
    have nch : c ∉ ch := fun z => (hch c z).2.2.1 x c e rfl
    by_cases hc : c ∈ X.fs
    · obtain ⟨sl, q⟩ := slot c o (I.cne x c e) hc nch ho (I.freeC x c e)
      exact ⟨_, q, hd⟩
    · exact ⟨o, keep c o (I.cne x c e) hc nch ho (I.freeC x c e), hd⟩
  refine ⟨I.ok, I.os, hg, ⟨fun b o e n hb hx => ?_, fun b o e n hb hx => ?_, fun b o e n hx => ?_, fun b o e hx => ?_, fun b xs e => tups b xs (I.base.tups b xs e), fun b o xs e => frzs b o xs (I.base.frzs b o xs e), fun b ps e => ?_⟩, ?_, fun x c e => ?_, ?_, fun x c e => ?_, fun p hp => ?_, hok, I.len⟩
  · exact keep b o (neL b o e) hb (neC b o e hx) (I.base.keep b o e n hb hx) (I.base.free b o e n hx)
  · obtain ⟨sl, e1⟩ := I.base.slot b o e n hb hx
    obtain ⟨sl', e2⟩ := slot b _ (neL b o e) hb (neC b o e hx) e1 (I.base.free b o e n hx)
    exact ⟨sl', e2⟩
  · obtain ⟨o', e1⟩ := I.base.there b o e hx
    exact free b o' (neC b o e hx) e1 (I.base.free b o e n hx)
  · obtain ⟨o', e1⟩ := I.base.there b o e hx
    exact there b o' (neC b o e hx) e1
  · obtain ⟨m1, e1⟩ := I.base.tbls b ps e
    obtain ⟨m2, e2⟩ := tbls b _ e1
    exact ⟨m1 ++ m2, by rw [e2, Array.append_assoc]⟩
  · obtain ⟨m, hn, hl⟩ := I.loc
    refine ⟨m, ns m hn, fun i x v e1 e2 e3 => ?_⟩
    obtain ⟨u, r, l⟩ := hl i x v e1 e2 e3
    refine ⟨u, r, ?_⟩
    rcases l with l | ⟨k, c, e, z⟩
    · exact .inl l
    · exact .inr ⟨k, c, e, cellK x c e _ z⟩
  · obtain ⟨v, z⟩ := I.cell x c e
    exact ⟨v, cellK x c e v z⟩
  · obtain ⟨m, ⟨o, _, _, ho, _⟩, _⟩ := I.loc
    exact free _ o (fun z => (hch _ z).2.1 rfl) ho I.free
  · obtain ⟨v, o, ho, hd⟩ := I.cell x c e
    exact free c o (fun z => (hch c z).2.2.1 x c e rfl) ho (I.freeC x c e)
  · obtain ⟨e, n, ne, nf, d⟩ := I.pin p hp
    have nch : p.1 ∉ ch := fun z => (hch p.1 z).2.2.2 p hp rfl
    exact ⟨keep p.1 p.2 ne nf nch e n, free p.1 p.2 nch e n, ne, nf, d⟩
/-- .. where the frame's own object is kept too -/
theorem Inv.un {t' : Nat} (I : Inv X pins σ H s) (u : Un X.fs [] H H' s.heap h') (hok : HOk X.prog X.w H' h') : Inv X pins σ H' { s with heap := h', toks := t' } := by
  obtain ⟨m, ⟨o, es, ep, ho, r⟩, _⟩ := id I.loc
  obtain ⟨sl, hL⟩ := u.any ho I.free (by simp)
  exact I.step (g' := s.gens) (d' := s.drawn) (ch := []) (fun _ z => nomatch z) (fun b o _ hb _ e n => u.keep b o e n hb (by simp)) (fun b o _ hb _ e n => u.slot b o e n hb (by simp)) (fun b o _ e n => u.free b o e n (by simp)) (fun b o _ e => u.there b o e (by simp)) u.tups u.frzs u.tbls (fun m' hm => by
    obtain ⟨o', es', ep', ho', r'⟩ := hm
    rw [ho] at ho'; cases ho'
    exact ⟨_, es', ep', hL, r'⟩) hok I.bare
/-- behind a call (or a comprehension's block): the slots of this frame may have changed too, the records at ch may have turned -/
theorem Inv.call {g' : Array GenState} {t' : Nat} {d' : Drawn} {ch : List Addr} (I : Inv X pins σ H s) (u : Un (frs X.stack) ch H H' s.heap h') (hok : HOk X.prog X.w H' h') (hg : AllBare g')
    (hch : ∀ b ∈ ch, (b ∈ X.ex ∨ X.s₀.heap.objs.size ≤ b) ∧ b ≠ X.env.locals ∧ (∀ x c, X.env.cells.lookup x = some c → c ≠ b) ∧ ∀ p ∈ X.pn ++ pins, p.1 ≠ b) :
    Inv X pins σ H' { s with heap := h', gens := g', drawn := d', toks := t' } := by
  obtain ⟨m, ⟨o, es, ep, ho, r⟩, _⟩ := id I.loc
  obtain ⟨sl, hL⟩ := u.any ho I.free fun z => (hch _ z).2.1 rfl
  exact I.step (ch := ch) hch (fun b o hL hb hc e n => u.keep b o e n (fun z => (List.mem_cons.mp (I.stkSub b z)).elim hL hb) hc) (fun b o _ _ hc e n => u.any e n hc) (fun b o hc e n => u.free b o e n hc) (fun b o hc e => u.there b o e hc) u.tups u.frzs u.tbls (fun m' hm => by
    obtain ⟨o', es', ep', ho', r'⟩ := hm
    rw [ho] at ho'; cases ho'
    exact ⟨_, es', ep', hL, r'⟩) hok hg
/-- an untracked record of ours (an iterator) has turned -/
theorem Inv.turned {t' : Nat} {it : Addr} (I : Inv X pins σ H s) (k : ∀ b o, b ≠ it → s.heap.get? b = some o → h'.get? b = some o) (hn : H it = none) (hL : it ≠ X.env.locals)
    (h1 : it ∈ X.ex ∨ X.s₀.heap.objs.size ≤ it) (h2 : ∀ x c, X.env.cells.lookup x = some c → c ≠ it) (h3 : ∀ p ∈ X.pn ++ pins, p.1 ≠ it) : Inv X pins σ H { s with heap := h', toks := t' } := by
  have nit : ∀ b u, H b = some u → b ≠ it := fun b u e z => by rw [z, hn] at e; cases e
  refine I.step (g' := s.gens) (d' := s.drawn) (ch := [it]) (fun b hb => ?_) (fun b o _ _ hc e _ => k b o (fun z => hc (by simp [z])) e) (fun b o _ _ hc e _ => ⟨o.slots, k b o (fun z => hc (by simp [z])) e⟩) (fun _ _ _ _ n => n)
    (fun b o hc e => ⟨o, k b o (fun z => hc (by simp [z])) e⟩) (fun _ _ e => e) (fun _ _ _ e => e) (fun b ps e => ⟨#[], by rw [e]; simp⟩) (fun m hm => ?_) (fun b u e => ?_) I.bare
  · have e : b = it := by simpa using hb
    subst e
    exact ⟨h1, hL, h2, h3⟩
  · obtain ⟨o, es, ep, ho, r⟩ := hm
    exact ⟨o, es, ep, k _ o (Ne.symm hL) ho, r⟩
  · refine (I.hok b u e).stay (fun c v hc q => k c v ?_ q) (fun _ q => q) fun _ _ q => q
    rcases hc with z | z
    · rw [z]; exact nit b u e
    · exact nit c _ z
theorem Inv.tok (I : Inv X pins σ H s) (t : Nat) : Inv X pins σ H { s with toks := t } := I.un (h' := s.heap) (t' := t) Un.refl I.hok
/-- all objects kept -/
theorem Inv.kept {t' : Nat} (I : Inv X pins σ H s) (k : ∀ b u, s.heap.get? b = some u → h'.get? b = some u) : Inv X pins σ H { s with heap := h', toks := t' } := I.un (Un.kept k) (I.hok.kept k)
/-- a new object laid and tracked -/
theorem Inv.laid {a : Addr} {o : HO} {t' : Nat} (I : Inv X pins σ H s) (k : ∀ b u, s.heap.get? b = some u → h'.get? b = some u) (hp : s.heap.objs.size ≤ a) (new : ObjOk X.prog X.w (upd H a o) h' a o) :
    Inv X pins σ (upd H a o) { s with heap := h', toks := t' } := I.un (Un.laid k hp (I.hok.fresh hp)) (I.hok.laid k hp new)
/-- an object written -/
theorem Inv.write {x e : Addr} {o : HO} {t' : Nat} (I : Inv X pins σ H s) (mu : Mut (H x)) (he : e = x ∨ H e = some (.own x)) (k : ∀ b u, b ≠ e → s.heap.get? b = some u → h'.get? b = some u) (heo : ∃ u, h'.get? e = some u)
    (new : ObjOk X.prog X.w (upd H x o) h' x o) : Inv X pins σ (upd H x o) { s with heap := h', toks := t' } := I.un (Un.write mu he k heo) (I.hok.write mu he k heo new)
theorem Inv.pins_of {pins' : List (Addr × Obj)} (I : Inv X pins σ H s) (h : ∀ p ∈ pins', s.heap.get? p.1 = some p.2 ∧ H p.1 = none ∧ p.1 ≠ X.env.locals ∧ p.1 ∉ X.fs ∧ ∀ v, p.2.data ≠ .cell v) : Inv X pins' σ H s :=
  ⟨I.ok, I.os, I.bare, I.base, I.loc, I.cell, I.free, I.freeC, fun p hp => (List.mem_append.mp hp).elim (fun z => I.pin p (List.mem_append_left _ z)) (h p), I.hok, I.len⟩

theorem nodup_ix {N : List Str} (hN : N.Nodup) {i j : Nat} {x : Str} (a : N[i]? = some x) (b : N[j]? = some x) : i = j := by
  obtain ⟨h1, e1⟩ := List.getElem?_eq_some_iff.mp a
  obtain ⟨h2, e2⟩ := List.getElem?_eq_some_iff.mp b
  exact (List.getElem_inj hN).mp (e1.trans e2.symm)

/-- a name is stored; what changed -/
theorem store_ok2 {M : Model} {A : Around} {E : Value → Shared → Prop} {i : Nat} {x : Str} {v : V} {u : Value} {Q : Unit → Shared → Prop} (I : Inv X pins σ H s) (hN : X.N.Nodup) (hi : X.N[i]? = some x) (hx : Loc X.env.scope x) (r : RelV v u)
    (h : ∀ s', Inv X pins (σ.set i (some v)) H s' → (∃ a, Heap.SameBut a s.heap s'.heap ∧ (a = X.env.locals ∨ X.env.cells.lookup x = some a)) → Q () s') (hf : X.fn x = true ∨ X.env.scope.names.lookup x = some .local := by first | exact .inl rfl | exact .inr rfl | assumption) : wpAny M A (storeName X.env x u) Q E s := by
  obtain ⟨m, hn, hl⟩ := id I.loc
  have hcls : (X.env.scope.kind == .class || (X.env.scope.kind == .module && X.env.locals != X.env.globals)) = false := by rw [I.ok.kind]; rfl
  have hiσ : i < σ.length := by rw [I.len]; exact (List.getElem?_eq_some_iff.mp hi).1
  have cne := I.cne
  have tracked : ∀ {a : Addr} {h' : Heap}, (∃ o, s.heap.get? a = some o ∧ H a = none) → Heap.SameBut a s.heap h' → HOk X.prog X.w H h' := fun {a h'} ha hs b ob e => by
    obtain ⟨_, _, hfree⟩ := ha
    refine (I.hok b ob e).stay (fun c w' hc q => (hs.2 c ?_).trans q) (fun _ q => q) fun _ _ q => q
    rintro rfl
    rcases hc with rfl | hc
    · rw [hfree] at e; cases e
    · rw [hfree] at hc; cases hc
  rcases hx with hk | hk
  · refine wpAny_storeName_local hk hn (fun h' hn' hs => ?_) hcls
    obtain ⟨oL, _, _, hoL, _⟩ := id hn
    refine h _ ⟨I.ok, I.os, I.bare, ⟨fun b o e n hb hx => ?_, fun b o e n hb hx => ?_, I.base.free, fun b o e hx => ?_, I.base.tups, I.base.frzs, I.base.tbls⟩, ⟨_, hn', fun j y v' e1 e2 e3 => ?_⟩, fun y c e => ?_, I.free, I.freeC, fun p hp => ?_, tracked ⟨oL, hoL, I.free⟩ hs, by simpa using I.len⟩ ⟨_, hs, .inl rfl⟩
    · exact (hs.2 b (Nat.ne_of_lt (Nat.lt_of_lt_of_le (Heap.lt_size e) I.ok.above))).trans (I.base.keep b o e n hb hx)
    · obtain ⟨sl, e1⟩ := I.base.slot b o e n hb hx
      exact ⟨sl, (hs.2 b (Nat.ne_of_lt (Nat.lt_of_lt_of_le (Heap.lt_size e) I.ok.above))).trans e1⟩
    · obtain ⟨o', e1⟩ := I.base.there b o e hx
      exact ⟨o', (hs.2 b (Nat.ne_of_lt (Nat.lt_of_lt_of_le (Heap.lt_size e) I.ok.above))).trans e1⟩
    · by_cases hj : j = i
      · subst hj
        rw [hi] at e1; cases e1
        rw [List.getElem?_set_self hiσ] at e2
        cases e2
        exact ⟨u, r, .inl ⟨hk, by simp⟩⟩
      · rw [List.getElem?_set_ne (Ne.symm hj)] at e2
        obtain ⟨u', r', q⟩ := hl j y v' e1 e2 e3
        refine ⟨u', r', ?_⟩
        rcases q with ⟨k, e⟩ | ⟨k, c, e, z⟩
        · refine .inl ⟨k, ?_⟩
          have : y ≠ x := fun e => hj (nodup_ix hN e1 (e ▸ hi))
          simp [this, e]
        · exact .inr ⟨k, c, e, z.sameBut hs (cne y c e)⟩
    · obtain ⟨w', z⟩ := I.cell y c e
      exact ⟨w', z.sameBut hs (cne y c e)⟩
    · obtain ⟨e, n, ne, nf, d⟩ := I.pin p hp
      exact ⟨(hs.2 p.1 ne).trans e, n, ne, nf, d⟩
  · have hfn : X.fn x = true := by
      rcases hf with z | z
      · exact z
      · rw [z] at hk; cases hk
    obtain ⟨c, hc⟩ := I.ok.has x (.inl hk)
    obtain ⟨w', z⟩ := I.cell x c hc
    refine wpAny_storeName_cell I.ok.kind hk hc z (fun h' hc' hs => ?_)
    obtain ⟨oc, hoc, hocd⟩ := id z
    refine h { s with heap := h' } ⟨I.ok, I.os, I.bare, ⟨fun b o e n hb hx => ?_, fun b o e n hb hx => ?_, I.base.free, fun b o e hx => ?_, I.base.tups, I.base.frzs, I.base.tbls⟩, ⟨m, hn.sameBut hs (Ne.symm (cne x c hc)), fun j y v' e1 e2 e3 => ?_⟩, fun y c' e => ?_, I.free, I.freeC, fun p hp => ?_, tracked ⟨oc, hoc, I.freeC x c hc⟩ hs, by simpa using I.len⟩ ⟨c, hs, .inr hc⟩
    · exact (hs.2 b (Nat.ne_of_lt (Nat.lt_of_lt_of_le (Heap.lt_size e) (I.ok.cab x c hfn hc)))).trans (I.base.keep b o e n hb hx)
    · obtain ⟨sl, e1⟩ := I.base.slot b o e n hb hx
      exact ⟨sl, (hs.2 b (Nat.ne_of_lt (Nat.lt_of_lt_of_le (Heap.lt_size e) (I.ok.cab x c hfn hc)))).trans e1⟩
    · obtain ⟨o', e1⟩ := I.base.there b o e hx
      exact ⟨o', (hs.2 b (Nat.ne_of_lt (Nat.lt_of_lt_of_le (Heap.lt_size e) (I.ok.cab x c hfn hc)))).trans e1⟩
    · by_cases hj : j = i
      · subst hj
        rw [hi] at e1; cases e1
        rw [List.getElem?_set_self hiσ] at e2
        cases e2
        exact ⟨u, r, .inr ⟨.inl hk, c, hc, hc'⟩⟩
      · rw [List.getElem?_set_ne (Ne.symm hj)] at e2
        obtain ⟨u', r', q⟩ := hl j y v' e1 e2 e3
        refine ⟨u', r', ?_⟩
        rcases q with q | ⟨k, c', e, z'⟩
        · exact .inl q
        · refine .inr ⟨k, c', e, z'.sameBut hs ?_⟩
          rintro rfl
          exact hj (nodup_ix hN e1 (I.ok.inj _ _ _ e hc ▸ hi))
    · by_cases hcc : c' = c
      · subst hcc; exact ⟨_, hc'⟩
      · obtain ⟨w2, z2⟩ := I.cell y c' e
        exact ⟨w2, z2.sameBut hs hcc⟩
    · obtain ⟨e, n, ne, nf, d⟩ := I.pin p hp
      refine ⟨(hs.2 p.1 ?_).trans e, n, ne, nf, d⟩
      intro q
      rw [q, hoc] at e
      have q' : oc = p.2 := Option.some.inj e
      exact d w' (by rw [← q']; exact hocd)
theorem store_ok {M : Model} {A : Around} {E : Value → Shared → Prop} {i : Nat} {x : Str} {v : V} {u : Value} {Q : Unit → Shared → Prop} (I : Inv X pins σ H s) (hN : X.N.Nodup) (hi : X.N[i]? = some x) (hx : Loc X.env.scope x) (r : RelV v u)
    (h : ∀ s', Inv X pins (σ.set i (some v)) H s' → Q () s') (hf : X.fn x = true ∨ X.env.scope.names.lookup x = some .local := by first | exact .inl rfl | exact .inr rfl | assumption) : wpAny M A (storeName X.env x u) Q E s :=
  store_ok2 I hN hi hx r (fun s' I' _ => h s' I') hf
/-- behind a call or a block, the state as it is -/
theorem Inv.call' {s' : Shared} {ch : List Addr} (I : Inv X pins σ H s) (ho : s'.os = s.os) (u : Un (frs X.stack) ch H H' s.heap s'.heap) (hok : HOk X.prog X.w H' s'.heap) (hg : AllBare s'.gens)
    (hch : ∀ b ∈ ch, (b ∈ X.ex ∨ X.s₀.heap.objs.size ≤ b) ∧ b ≠ X.env.locals ∧ (∀ x c, X.env.cells.lookup x = some c → c ≠ b) ∧ ∀ p ∈ X.pn ++ pins, p.1 ≠ b) : Inv X pins σ H' s' := by
  obtain ⟨h', g', d', t', o'⟩ := s'
  have e : o' = s.os := ho
  subst e
  exact I.call (g' := g') (t' := t') (d' := d') u hok hg hch
end

/-! ### the judgements -/
/-- an exception: its class, its own dict's address (where it has one), the abstract heap behind it -/
abbrev XK := Value → Option Addr → Hp → Prop
abbrev St := List (Option V)
abbrev VK := V → Hp → Prop
/-- an expression's reading; a test's; an argument list's -/
abbrev TE := St → Hp → VK → Prop
abbrev TT := St → Hp → (Bool → Hp → Prop) → Prop
abbrev TA := St → Hp → (List V → Hp → Prop) → Prop
/-- what is wanted behind a statement -/
structure Ends where
  nx : St → Hp → Prop
  rt : VK
  bk : St → Hp → Prop := fun _ _ => False
  ct : St → Hp → Prop := fun _ _ => False
abbrev TS := Ends → St → Hp → Prop

def EP (X : Cx) (pins : List (Addr × Obj)) (σ : St) (Q : VK) (u : Value) (s' : Shared) : Prop := ∃ v H', Inv X pins σ H' s' ∧ RelV v u ∧ Q v H'
def TP (X : Cx) (pins : List (Addr × Obj)) (σ : St) (Q : Bool → Hp → Prop) (b : Bool) (s' : Shared) : Prop := ∃ H', Inv X pins σ H' s' ∧ Q b H'
def AP (X : Cx) (pins : List (Addr × Obj)) (σ : St) (Q : List V → Hp → Prop) (us : List Value) (s' : Shared) : Prop := ∃ vs H', Inv X pins σ H' s' ∧ Vals vs us ∧ Q vs H'
def SP (X : Cx) (pins : List (Addr × Obj)) (D : Ends) (f : Flow) (s' : Shared) : Prop :=
  match f with
  | .next => ∃ σ' H', Inv X pins σ' H' s' ∧ D.nx σ' H'
  | .brk => ∃ σ' H', Inv X pins σ' H' s' ∧ D.bk σ' H'
  | .cont => ∃ σ' H', Inv X pins σ' H' s' ∧ D.ct σ' H'
  | .ret u => ∃ v σ' H', Inv X pins σ' H' s' ∧ RelV v u ∧ D.rt v H'

def PE (X : Cx) (e : Expr) (t : TE) : Prop :=
  ∀ (pins : List (Addr × Obj)) (s : Shared) (σ : St) (H : Hp) (Q : VK), Inv X pins σ H s → t σ H Q → wpAny (model X.prog X.w) X.A (eval e X.env) (EP X pins σ Q) X.xe s
def PT (X : Cx) (e : Expr) (t : TT) : Prop :=
  ∀ (pins : List (Addr × Obj)) (s : Shared) (σ : St) (H : Hp) (Q : Bool → Hp → Prop), Inv X pins σ H s → t σ H Q → wpAny (model X.prog X.w) X.A (isTrue e X.env (eval e X.env)) (TP X pins σ Q) X.xe s
/-- a test whatever its 'whole' is (and, or) -/
def PW (X : Cx) (e : Expr) (t : TT) : Prop :=
  ∀ (whole : Sem Value) (pins : List (Addr × Obj)) (s : Shared) (σ : St) (H : Hp) (Q : Bool → Hp → Prop), Inv X pins σ H s → t σ H Q → wpAny (model X.prog X.w) X.A (isTrue e X.env whole) (TP X pins σ Q) X.xe s
theorem PW.pt {X : Cx} {e : Expr} {t : TT} (h : PW X e t) : PT X e t := h _
/-- an argument list (no star), from the left -/
def PA (X : Cx) (es : List Expr) (t : TA) : Prop :=
  ∀ (pos : Pos) (pins : List (Addr × Obj)) (s : Shared) (σ : St) (H : Hp) (Q : List V → Hp → Prop), Inv X pins σ H s → t σ H Q → wpAny (model X.prog X.w) X.A (spliced (backTo pos (starEach es X.env))) (AP X pins σ Q) X.xe s
def PS (X : Cx) (st : Stmt) (t : TS) : Prop :=
  ∀ (pins : List (Addr × Obj)) (s : Shared) (σ : St) (H : Hp) (D : Ends), Inv X pins σ H s → t D σ H → wpAny (model X.prog X.w) X.A (exec st X.env) (SP X pins D) X.xe s
def PSs (X : Cx) (st : List Stmt) (t : TS) : Prop :=
  ∀ (pins : List (Addr × Obj)) (s : Shared) (σ : St) (H : Hp) (D : Ends), Inv X pins σ H s → t D σ H → wpAny (model X.prog X.w) X.A (execs st X.env) (SP X pins D) X.xe s
/-- weaken the end -/
theorem thn {α : Type} {t : Sem α} {Q Q' : α → Shared → Prop} {M : Model} {A : Around} {E : Value → Shared → Prop} {s : Shared} (h : wpAny M A t Q E s) (hQ : ∀ a s, Q a s → Q' a s) : wpAny M A t Q' E s := wpAny_mono h hQ fun _ _ x => x
end L2

namespace L2
open PySem PySem.Spec PyProof.Rows
section
variable {X : Cx}

/-- two expressions in a row -/
theorem bin {a b : Expr} {ta tb : TE} (ha : PE X a ta) (hb : PE X b tb) {pins : List (Addr × Obj)} {s : Shared} {σ : St} {H : Hp} {R : V → V → Hp → Prop} (I : Inv X pins σ H s) (h : ta σ H fun x H1 => tb σ H1 fun y H2 => R x y H2)
    {α : Type} {Q : α → Shared → Prop} {f : Value → Value → Sem α}
    (hf : ∀ v u s2 x y H2, Inv X pins σ H2 s2 → RelV x v → RelV y u → R x y H2 → wpAny (model X.prog X.w) X.A (f v u) Q X.xe s2) :
    wpAny (model X.prog X.w) X.A (eval a X.env) (fun v s₁ => wpAny (model X.prog X.w) X.A (eval b X.env) (fun u s₂ => wpAny (model X.prog X.w) X.A (f v u) Q X.xe s₂) X.xe s₁) X.xe s := by
  refine thn (ha pins s σ H _ I h) fun v s1 ⟨x, H1, I1, r1, q1⟩ => ?_
  refine thn (hb pins s1 σ H1 _ I1 q1) fun u s2 ⟨y, H2, I2, r2, q2⟩ => ?_
  exact hf v u s2 x y H2 I2 r1 r2 q2

/-! ### names and constants -/
def tVar (i : Nat) : TE := fun σ H Q => ∃ v, σ[i]? = some (some v) ∧ Q v H
def tC (v : V) : TE := fun _ H Q => Q v H
theorem pe_var {i : Nat} {x : Str} {pos : Pos} (hN : X.N[i]? = some x) (hv : Vis X.env.scope x) (hd : (x == ("__debug__" : Str)) = false := by decide) (hcd : (x == ("__classdict__" : Str)) = false := by decide) : PE X (.Name x pos) (tVar i) := by
  intro pins s σ H Q I h
  obtain ⟨v, e, h⟩ := h
  obtain ⟨m, hn, hl⟩ := I.loc
  obtain ⟨u, r, l⟩ := hl i x v hN e hv
  have fin : EP X pins σ Q u s := ⟨v, H, I, r, h⟩
  rcases l with ⟨hk, hm⟩ | ⟨hk, c, hc, hcell⟩
  · exact wpAny_Name (wpAny_loadName_local I.ok.kind hk hn hm fin) hd
  · rcases hk with hk | hk
    · exact wpAny_Name (wpAny_loadName_cell I.ok.kind hk hc hcell fin) hd
    · exact wpAny_Name (wpAny_loadName_free I.ok.kind hk hc hcell fin hcd) hd
theorem pe_int {i j pos} : PE X (.Constant (.int i) j pos) (tC (.int i)) := fun _ _ _ H _ I h => wpAny_Constant_int ⟨.int i, H, I.tok _, ⟨_, rfl⟩, h⟩
theorem pe_bl {b j pos} : PE X (.Constant (.bool b) j pos) (tC (.bl b)) := fun _ _ _ H _ I h => Constant_bool ⟨.bl b, H, I, rfl, h⟩
theorem pe_non {j pos} : PE X (.Constant .none j pos) (tC .non) := fun _ _ _ H _ I h => Constant_none ⟨.non, H, I, rfl, h⟩
theorem pe_str {x j pos} : PE X (.Constant (.str x) j pos) (tC (.str x)) := fun _ _ _ H _ I h => Calls.Constant_str ⟨.str x, H, I.tok _, ⟨_, rfl⟩, h⟩

/-- a global name of the def -/
def Gl (X : Cx) (x : Str) : Prop := X.env.kindOf x = some .globalImplicit
theorem ld_glob {E : Value → Shared → Prop} {pins : List (Addr × Obj)} {s : Shared} {σ : St} {H : Hp} {x : Str} {u : Value} {pos : Pos} {Q : Value → Shared → Prop} (I : Inv X pins σ H s) (hg : Gl X x) (hm : X.mg x = some u) (h : Q u s)
    (hd : (x == ("__debug__" : Str)) = false := by decide) : wpAny (model X.prog X.w) X.A (eval (.Name x pos) X.env) Q E s :=
  Calls.Name_function_global I.ok.kind hg (Calls.loadGlobal_global (by rw [I.ok.glob]; exact I.mod.glob.keeps I.bk) hm h) hd
theorem ld_blt {E : Value → Shared → Prop} {pins : List (Addr × Obj)} {s : Shared} {σ : St} {H : Hp} {x : Str} {u : Value} {pos : Pos} {Q : Value → Shared → Prop} (I : Inv X pins σ H s) (hg : Gl X x) (hm : X.mg x = none) (hv : bootBuiltins x = some u) (h : Q u s)
    (hn : x ≠ "__name__" := by decide) (hd : (x == ("__debug__" : Str)) = false := by decide) : wpAny (model X.prog X.w) X.A (eval (.Name x pos) X.env) Q E s := by
  obtain ⟨mb, h1, h2⟩ := I.mod.blt
  exact Calls.Name_function_global I.ok.kind hg (Calls.loadGlobal_builtin (by rw [I.ok.glob]; exact I.mod.glob.keeps I.bk) hm (by rw [I.ok.blt]; exact h1.keeps I.bk) ((h2 x hn).trans hv) h) hd
/-- a module's constant, a class, a function, as a value -/
theorem pe_glob {x : Str} {v : V} {u : Value} {pos : Pos} (hg : Gl X x) (hm : X.mg x = some u) (r : RelV v u) (hd : (x == ("__debug__" : Str)) = false := by decide) : PE X (.Name x pos) (tC v) :=
  fun _ _ _ H _ I h => ld_glob I hg hm ⟨v, H, I, r, h⟩ hd
theorem pe_bltn {x : Str} {v : V} {u : Value} {pos : Pos} (hg : Gl X x) (hm : X.mg x = none) (hv : bootBuiltins x = some u) (r : RelV v u) (hn : x ≠ "__name__" := by decide) (hd : (x == ("__debug__" : Str)) = false := by decide) : PE X (.Name x pos) (tC v) :=
  fun _ _ _ H _ I h => ld_blt I hg hm hv ⟨v, H, I, r, h⟩ hn hd

/-! ### arithmetic -/
variable {a b : Expr} {ta tb : TE} {pos : Pos}

/-! ### comparisons -/
def PC (X : Cx) (op : CmpOp) (a b : Expr) (t : TE) : Prop :=
  ∀ (pins : List (Addr × Obj)) (s : Shared) (σ : St) (H : Hp) (Q : VK), Inv X pins σ H s → t σ H Q →
    wpAny (model X.prog X.w) X.A (eval a X.env) (fun v s₁ => wpAny (model X.prog X.w) X.A (eval b X.env) (fun u s₂ => wpAny (model X.prog X.w) X.A (compareOp op v u) (EP X pins σ Q) X.xe s₂) X.xe s₁) X.xe s
/-- a comparison as a value, as a test -/
def tB (t : TE) : TT := fun σ H Q => t σ H fun x H1 => ∃ c, x = .bl c ∧ Q c H1
theorem pt_cmp {op : CmpOp} {t : TE} (h : PC X op a b t) (h1 : behindInMarks op b = false := by first | exact nobehind _ (by decide) (by decide) | rfl) : PT X (.Compare a [op] [b] pos) (tB t) := by
  intro pins s σ H Q I hw
  refine wpAny_isTrue_Compare1 (thn (h pins s σ H _ I hw) fun v s1 h1 => thn h1 fun u s2 h2 => thn h2 fun c s3 ⟨x, H1, I1, r1, q1⟩ => ?_) h1
  obtain ⟨d, rfl, q⟩ := q1
  cases r1
  exact wpAny_truthy_bool ⟨H1, I1, q⟩
/-- an expression whose value is a bool, as a test -/
theorem pt_val {e : Expr} {t : TE} (h : PE X e t) (he : ∀ whole, isTrue e X.env whole = (do let v ← whole; standAt e.pos; holding [v] (truthy v)) := by intro _; rfl) : PT X e (tB t) := by
  intro pins s σ H Q I hw
  refine isTrue_plain (thn (h pins s σ H _ I hw) fun v s1 ⟨x, H1, I1, r1, q1⟩ => ?_) (he _)
  obtain ⟨d, rfl, q⟩ := q1
  cases r1
  exact wpAny_truthy_bool ⟨H1, I1, q⟩

/-! ### and, or, not -/
variable {tA tB' : TT} {rest : List Expr}
def tAnd (t u : TT) : TT := fun σ H Q => t σ H fun c H1 => if c = true then u σ H1 Q else Q false H1
def tOr (t u : TT) : TT := fun σ H Q => t σ H fun c H1 => if c = true then Q true H1 else u σ H1 Q
def tNot (t : TT) : TT := fun σ H Q => t σ H fun c H1 => Q (!c) H1
theorem pw_and1 (ha : PT X a tA) : PW X (.BoolOp .And [a] pos) tA := by
  intro wh pins s σ H Q I h
  refine isTrue_and (thn (ha pins s σ H Q I h) fun c s1 e => ?_)
  cases c with
  | true => exact isTrue_and_nil e
  | false => exact e
theorem pw_or1 (ha : PT X a tA) : PW X (.BoolOp .Or [a] pos) tA := by
  intro wh pins s σ H Q I h
  refine isTrue_or (thn (ha pins s σ H Q I h) fun c s1 e => ?_)
  cases c with
  | false => exact isTrue_or_nil e
  | true => exact e
theorem pw_and (ha : PT X a tA) (hb : PW X (.BoolOp .And (b :: rest) pos) tB') : PW X (.BoolOp .And (a :: b :: rest) pos) (tAnd tA tB') := by
  intro wh pins s σ H Q I h
  refine isTrue_and (thn (ha pins s σ H _ I h) fun c s1 ⟨H1, I1, q1⟩ => ?_)
  cases c with
  | true => exact hb wh pins s1 σ H1 Q I1 q1
  | false => exact ⟨H1, I1, q1⟩
theorem pw_or (ha : PT X a tA) (hb : PW X (.BoolOp .Or (b :: rest) pos) tB') : PW X (.BoolOp .Or (a :: b :: rest) pos) (tOr tA tB') := by
  intro wh pins s σ H Q I h
  refine isTrue_or (thn (ha pins s σ H _ I h) fun c s1 ⟨H1, I1, q1⟩ => ?_)
  cases c with
  | true => exact ⟨H1, I1, q1⟩
  | false => exact hb wh pins s1 σ H1 Q I1 q1
theorem pt_not (ha : PT X a tA) : PT X (.UnaryOp .Not a pos) (tNot tA) := by
  intro pins s σ H Q I h
  exact isTrue_not (ha pins s σ H (fun c H1 => Q (!c) H1) I h)
/-- .. as values (bools) -/
def tAndV (ta tb : TE) : TE := fun σ H Q => ta σ H fun x H1 => ∃ c, x = .bl c ∧ if c = true then tb σ H1 Q else Q (.bl false) H1
theorem pe_one {op} {t : TE} (h : PE X a t) : PE X (.BoolOp op [a] pos) t := fun pins s σ H Q I hw => BoolOp_one (h pins s σ H Q I hw)
theorem pe_and (ha : PE X a ta) (hb : PE X (.BoolOp .And (b :: rest) pos) tb) : PE X (.BoolOp .And (a :: b :: rest) pos) (tAndV ta tb) := by
  intro pins s σ H Q I h
  refine BoolOp_and (thn (ha pins s σ H _ I h) fun v s1 ⟨x, H1, I1, r1, q1⟩ => ?_)
  obtain ⟨c, rfl, q1⟩ := q1
  cases r1
  refine wpAny_truthy_bool ?_
  cases c with
  | true => exact hb pins s1 σ H1 Q I1 q1
  | false => exact ⟨.bl false, H1, I1, rfl, q1⟩
/-- a if t else b -/
def tIf (t : TT) (ta tb : TE) : TE := fun σ H Q => t σ H fun c H1 => if c = true then ta σ H1 Q else tb σ H1 Q
theorem pe_ifExp {c : Expr} (hc : PT X c tA) (ha : PE X a ta) (hb : PE X b tb) : PE X (.IfExp c a b pos) (tIf tA ta tb) := by
  intro pins s σ H Q I h
  refine wpAny_IfExp (thn (hc pins s σ H _ I h) fun d s1 ⟨H1, I1, q1⟩ => ?_)
  cases d with
  | true => exact ha pins s1 σ H1 Q I1 q1
  | false => exact hb pins s1 σ H1 Q I1 q1
end
end L2

namespace L2
open PySem PySem.Spec PyProof.Rows

/-! ### a list, a tuple that is read: tracked, frozen, or an object of the module -/
def SqL (K : PySem.W.Frag) (H : Hp) (a : Addr) (xs : List V) : Prop :=
  Rd H a (.lst xs) ∨
    ∃ (o : Obj) (its : Array Value) (n : Nat), K.lookup a = some o ∧ o.cls = .type "list" ∧ o.dict = none ∧ o.data = .seq its n ∧ its.size ≤ sizeLine ∧ Vals xs its.toList
def SqT (K : PySem.W.Frag) (H : Hp) (a : Addr) (xs : List V) : Prop :=
  Rd H a (.tup xs) ∨
    ∃ (o : Obj) (its : Array Value) (n : Nat), K.lookup a = some o ∧ o.cls = .type "tuple" ∧ o.data = .seq its n ∧ its.size ≤ sizeLine ∧ Vals xs its.toList
def absV : Value → Option V
  | .none => some .non
  | .bool b => some (.bl b)
  | .int i _ => some (.int i)
  | .str x _ => some (.str x)
  | .bytes b _ => some (.byt b)
  | .float b _ => some (.flt b)
  | .ref a => some (.ref a)
  | .type n => some (.ty n)
  | _ => none
theorem RelV.abs {x : V} {u : Value} (r : RelV x u) : absV u = some x := by
  cases x with
  | non => cases r; rfl
  | bl _ => cases r; rfl
  | int _ => obtain ⟨t, rfl⟩ := r; rfl
  | str _ => obtain ⟨t, rfl⟩ := r; rfl
  | byt _ => obtain ⟨t, rfl⟩ := r; rfl
  | flt _ => obtain ⟨t, rfl⟩ := r; rfl
  | ref _ => cases r; rfl
  | ty _ => cases r; rfl
theorem RelV.inj {x y : V} {u : Value} (r : RelV x u) (q : RelV y u) : x = y := Option.some.inj (r.abs.symm.trans q.abs)
theorem Vals.inj : ∀ {xs ys : List V} {us : List Value}, Vals xs us → Vals ys us → xs = ys
  | _, _, _, .nil, .nil => rfl
  | _, _, _, .cons r t, .cons r' t' => by rw [r.inj r', Vals.inj t t']
section
variable {X : Cx} {pins : List (Addr × Obj)} {σ : St} {H : Hp} {s : Shared} {a : Addr} {xs ys : List V}
theorem SqL.of {K : PySem.W.Frag} (h : H a = some (.lst xs)) : SqL K H a xs := .inl (.inl h)
theorem SqT.of {K : PySem.W.Frag} (h : H a = some (.tup xs)) : SqT K H a xs := .inl (.inl h)
theorem Inv.list (I : Inv X pins σ H s) (h : SqL X.K H a xs) : ∃ its : List Value, Vals xs its ∧ PlainL s.heap a its.toArray ∧ xs.length ≤ sizeLine := by
  rcases h with h | ⟨o, its, n, hk, hc, hd, hs, hz, r⟩
  · obtain ⟨z, its, n, r, e⟩ := h.ok I.hok
    exact ⟨its, r, ⟨_, n, e, rfl, rfl, rfl⟩, z⟩
  · refine ⟨its.toList, r, ⟨o, n, I.kIn a o hk, hc, hd, by simpa using hs⟩, ?_⟩
    have e := r.length
    simp only [Array.length_toList] at e
    omega
theorem Inv.tuple (I : Inv X pins σ H s) (h : SqT X.K H a xs) : ∃ its : List Value, Vals xs its ∧ IsTup s.heap a its.toArray ∧ xs.length ≤ sizeLine := by
  rcases h with h | ⟨o, its, n, hk, hc, hs, hz, r⟩
  · obtain ⟨z, its, r, p⟩ := h.ok I.hok
    exact ⟨its, r, p, z⟩
  · refine ⟨its.toList, r, ⟨o, I.kIn a o hk, hc, n, by simpa using hs⟩, ?_⟩
    have e := r.length
    simp only [Array.length_toList] at e
    omega
theorem Inv.list_inj (I : Inv X pins σ H s) (h : SqL X.K H a xs) (h' : SqL X.K H a ys) : xs = ys := by
  obtain ⟨its, r, ⟨o, n, e, _, _, d⟩, _⟩ := I.list h
  obtain ⟨its', r', ⟨o', n', e', _, _, d'⟩, _⟩ := I.list h'
  rw [e] at e'; cases e'
  rw [d] at d'
  injection d' with d1 _
  have : its = its' := by simpa using congrArg Array.toList d1
  subst this
  exact r.inj r'
theorem Inv.tuple_inj (I : Inv X pins σ H s) (h : SqT X.K H a xs) (h' : SqT X.K H a ys) : xs = ys := by
  obtain ⟨its, r, ⟨o, e, _, n, d⟩, _⟩ := I.tuple h
  obtain ⟨its', r', ⟨o', e', _, n', d'⟩, _⟩ := I.tuple h'
  rw [e] at e'; cases e'
  rw [d] at d'
  injection d' with d1 _
  have : its = its' := by simpa using congrArg Array.toList d1
  subst this
  exact r.inj r'
end

/-! ### another wish about exceptions -/
abbrev Cx.wish (X : Cx) (E : Value → Shared → Prop) : Cx := { X with xe := E }
/-- no exception leaves -/
abbrev Cx.nox (X : Cx) : Cx := X.wish fun _ _ => False
theorem Cx.Ok.wish {X : Cx} (ok : X.Ok) (E : Value → Shared → Prop) : (X.wish E).Ok :=
  ⟨ok.mod, ok.kind, ok.glob, ok.blt, ok.above, ok.inj, ok.has, ok.cab, ok.hd, ok.frames, ok.stk, ok.exf, ok.bs, ok.bsz, ok.noex, ok.exfs, ok.funs, ok.frf⟩
theorem Cx.Ok.unwish {X : Cx} {E : Value → Shared → Prop} (ok : (X.wish E).Ok) : X.Ok :=
  ⟨ok.mod, ok.kind, ok.glob, ok.blt, ok.above, ok.inj, ok.has, ok.cab, ok.hd, ok.frames, ok.stk, ok.exf, ok.bs, ok.bsz, ok.noex, ok.exfs, ok.funs, ok.frf⟩
section
variable {X : Cx} {pins : List (Addr × Obj)} {σ : St} {H : Hp} {s : Shared} {E : Value → Shared → Prop}
theorem Inv.wish (I : Inv X pins σ H s) (E : Value → Shared → Prop) : Inv (X.wish E) pins σ H s := ⟨I.ok.wish E, I.os, I.bare, I.base, I.loc, I.cell, I.free, I.freeC, I.pin, I.hok, I.len⟩
theorem Inv.unwish (I : Inv (X.wish E) pins σ H s) : Inv X pins σ H s := ⟨I.ok.unwish, I.os, I.bare, I.base, I.loc, I.cell, I.free, I.freeC, I.pin, I.hok, I.len⟩
theorem SP.unwish {D : Ends} {f : Flow} {s' : Shared} (h : SP (X.wish E) pins D f s') : SP X pins D f s' := by
  cases f with
  | next => obtain ⟨σ', H', I, q⟩ := h; exact ⟨σ', H', I.unwish, q⟩
  | brk => obtain ⟨σ', H', I, q⟩ := h; exact ⟨σ', H', I.unwish, q⟩
  | cont => obtain ⟨σ', H', I, q⟩ := h; exact ⟨σ', H', I.unwish, q⟩
  | ret u => obtain ⟨v, σ', H', I, r, q⟩ := h; exact ⟨v, σ', H', I.unwish, r, q⟩
theorem PSs.nox {st : List Stmt} {t : TS} (h : PSs X.nox st t) : PSs X st t := fun pins s σ H D I hw =>
  wpAny_mono (h pins s σ H D (I.wish _) hw) (fun _ _ q => q.unwish) fun _ _ z => False.elim z
end

/-! ### blocks and small statements -/
section
variable {X : Cx} {st : Stmt} {rest : List Stmt} {t u : TS} {e : Expr} {te : TE} {pos : Pos}
def tNext : TS := fun D σ H => D.nx σ H
def tSeq (t u : TS) : TS := fun D σ H => t { D with nx := u D } σ H
theorem pss_nil : PSs X [] tNext := fun _ _ σ H _ I h => wpAny_execs_nil ⟨σ, H, I, h⟩
theorem pss_cons (h1 : PS X st t) (h2 : PSs X rest u) : PSs X (st :: rest) (tSeq t u) := by
  intro pins s σ H D I h
  refine wpAny_execs_cons (thn (h1 pins s σ H { D with nx := u D } I h) fun f s1 q => ?_)
  cases f with
  | next =>
    obtain ⟨σ', H', I', q⟩ := q
    exact h2 pins s1 σ' H' D I' q
  | ret v => exact q
  | brk => exact q
  | cont => exact q
theorem pss_one (h1 : PS X st t) : PSs X [st] t := by
  intro pins s σ H D I h
  refine wpAny_execs_cons (thn (h1 pins s σ H D I h) fun f s1 q => ?_)
  cases f with
  | next => exact wpAny_execs_nil q
  | ret v => exact q
  | brk => exact q
  | cont => exact q
/-- in a def's body nothing is shown -/
theorem Inv.quiet {pins : List (Addr × Obj)} {σ : St} {H : Hp} {s : Shared} (I : Inv X pins σ H s) : interactive X.env = false := by simp [interactive, I.ok.kind]
/-- an expression whose value is dropped -/
def tDrop (te : TE) : TS := fun D σ H => te σ H fun _ H1 => D.nx σ H1
theorem ps_expr (he : PE X e te) (hs : swapsWith e none pos.line X.env = pure false := by rfl) : PS X (.Expr e pos) (tDrop te) := by
  intro pins s σ H D I h
  exact wpAny_Expr_any (thn (he pins s σ H _ I h) fun v s1 ⟨x, H1, I1, r1, q1⟩ => ⟨σ, H1, I1, q1⟩) I.quiet hs
def tRet (te : TE) : TS := fun D σ H => te σ H D.rt
theorem ps_ret (he : PE X e te) : PS X (.Return (some e) pos) (tRet te) := by
  intro pins s σ H D I h
  exact wpAny_Return_some (thn (he pins s σ H _ I h) fun v s1 ⟨x, H1, I1, r1, q1⟩ => ⟨x, σ, H1, I1, r1, q1⟩)
def tIfS (c : TT) (t u : TS) : TS := fun D σ H => c σ H fun b H1 => if b = true then t D σ H1 else u D σ H1
theorem ps_if {c : Expr} {a b : List Stmt} {tc : TT} (hc : PT X c tc) (ha : PSs X a t) (hb : PSs X b u) : PS X (.If c a b pos) (tIfS tc t u) := by
  intro pins s σ H D I h
  refine wpAny_If (thn (hc pins s σ H _ I h) fun d s1 ⟨H1, I1, q1⟩ => ?_)
  cases d with
  | true => exact ha pins s1 σ H1 D I1 q1
  | false => exact hb pins s1 σ H1 D I1 q1
end

/-! ### targets -/
abbrev TG := V → St → Hp → (St → Hp → Prop) → Prop
abbrev TGs := List V → St → Hp → (St → Hp → Prop) → Prop
def PG (X : Cx) (target : Expr) (t : TG) : Prop :=
  ∀ (pins : List (Addr × Obj)) (s : Shared) (σ : St) (H : Hp) (v : V) (u : Value) (Q : St → Hp → Prop), Inv X pins σ H s → RelV v u → t v σ H Q →
    wpAny (model X.prog X.w) X.A (assign target X.env u) (fun _ s' => ∃ σ' H', Inv X pins σ' H' s' ∧ Q σ' H') X.xe s
/-- several targets, one after another -/
def PGs (X : Cx) (ts : List Expr) (t : TGs) : Prop :=
  ∀ (pins : List (Addr × Obj)) (s : Shared) (σ : St) (H : Hp) (vs : List V) (us : List Value) (Q : St → Hp → Prop), Inv X pins σ H s → Vals vs us → t vs σ H Q →
    wpAny (model X.prog X.w) X.A (assignInOrder ((assignEach ts X.env).map (·.2)) us) (fun _ s' => ∃ σ' H', Inv X pins σ' H' s' ∧ Q σ' H') X.xe s
/-- o[i] = v, by values -/
abbrev TSet := V → V → V → Hp → (Hp → Prop) → Prop
def PSet (X : Cx) (t : TSet) : Prop :=
  ∀ (pins : List (Addr × Obj)) (s : Shared) (σ : St) (H : Hp) (o i v : V) (ov iv u : Value) (Q : Hp → Prop), Inv X pins σ H s → RelV o ov → RelV i iv → RelV v u → t o i v H Q →
    wpAny (model X.prog X.w) X.A (setItem ov iv u) (fun _ s' => ∃ H', Inv X pins σ H' s' ∧ Q H') X.xe s
section
variable {X : Cx} {pos : Pos}
def gName (i : Nat) : TG := fun v σ H Q => Q (σ.set i (some v)) H
theorem pg_name {i : Nat} {x : Str} (hN : X.N.Nodup) (hi : X.N[i]? = some x) (hx : Loc X.env.scope x) (hf : X.fn x = true ∨ X.env.scope.names.lookup x = some .local := by first | exact .inl rfl | exact .inr rfl | assumption) : PG X (.Name x pos) (gName i) := by
  intro pins s σ H v u Q I r h
  exact wpAny_assign_Name (store_ok I hN hi hx r (fun s' I' => ⟨_, H, I', h⟩) hf)
def gNil : TGs := fun vs σ H Q => vs = [] ∧ Q σ H
def gCons (t : TG) (u : TGs) : TGs := fun vs σ H Q => ∃ v r, vs = v :: r ∧ t v σ H fun σ' H' => u r σ' H' Q
theorem pgs_nil : PGs X [] gNil := by
  intro pins s σ H vs us Q I r h
  obtain ⟨e, h⟩ := h
  subst e
  cases r
  exact assignInOrder_nil ⟨σ, H, I, h⟩
theorem pgs_cons {e : Expr} {es : List Expr} {t : TG} {u : TGs} (h1 : PG X e t) (h2 : PGs X es u)
    (hs : (assignEach (e :: es) X.env).map (·.2) = assign e X.env :: (assignEach es X.env).map (·.2) := by rfl) : PGs X (e :: es) (gCons t u) := by
  intro pins s σ H vs us Q I r h
  obtain ⟨v, vr, e1, h⟩ := h
  subst e1
  cases r with
  | cons r rr =>
    rw [hs]
    refine assignInOrder_cons (thn (h1 pins s σ H _ _ _ I r h) fun _ s1 ⟨σ1, H1, I1, q1⟩ => ?_)
    exact h2 pins s1 σ1 H1 _ _ Q I1 rr q1
/-- (a, b, ..) = a tuple of that length -/
def gTup (K : PySem.W.Frag) (n : Nat) (t : TGs) : TG := fun v σ H Q => ∃ a xs, v = .ref a ∧ SqT K H a xs ∧ xs.length = n ∧ t xs σ H Q
theorem pg_tup {es : List Expr} {k : Nat} {t : TGs} {n : Nat} (hc : X.calm = true) (h : PGs X es t)
    (hn : (assignEach es X.env).length = n := by rfl) (hst : (assignEach es X.env).findIdx? (·.1) = none := by rfl) : PG X (.Tuple es k pos) (gTup X.K n t) := by
  intro pins s σ H v u Q I r hw
  obtain ⟨a, xs, e1, hq, hl, hw⟩ := hw
  subst e1
  cases r
  obtain ⟨its, rv, ht, hz⟩ := I.tuple hq
  refine assign_Tuple_tuple (I.ok.hd hc) ht (by simp [hn, ← hl, rv.length]) hst fun h' hx => ?_
  have I1 : Inv X pins σ H { s with heap := h' } := I.kept (t' := s.toks) fun b o e => hx b o (Nat.ne_of_lt (Heap.lt_size e)) e
  exact h pins _ σ H xs _ Q I1 (by simpa using rv) hw
/-- o[i] = .. -/
def gSub (to ti : TE) (t : TSet) : TG := fun v σ H Q => to σ H fun o H1 => ti σ H1 fun i H2 => t o i v H2 fun H3 => Q σ H3
theorem pg_sub {o i : Expr} {to ti : TE} {t : TSet} (ho : PE X o to) (hi : PE X i ti) (hs : PSet X t)
    (ha : ∀ v, assign (.Subscript o i pos) X.env v = (do
      let ov ← holding [v] (eval o X.env)
      let iv ← holding [v, ov] (eval i X.env)
      standAt pos
      holding [v, ov, iv] (setItem ov iv v)
      release [v, ov, iv] []) := by intro _; rfl) : PG X (.Subscript o i pos) (gSub to ti t) := by
  intro pins s σ H v u Q I r h
  rw [ha]
  refine wpAny_bind (wpAny_holding (thn (ho pins s σ H _ I h) fun ov s1 ⟨x, H1, I1, r1, q1⟩ => ?_))
  refine wpAny_bind (wpAny_holding (thn (hi pins s1 σ H1 _ I1 q1) fun iv s2 ⟨y, H2, I2, r2, q2⟩ => ?_))
  refine wpAny_bind (wpAny_standAt (wpAny_bind (wpAny_holding (thn (hs pins s2 σ H2 x y v ov iv u _ I2 r1 r2 r q2) fun _ s3 ⟨H3, I3, q3⟩ => ?_))))
  exact wpAny_release ⟨σ, H3, I3, q3⟩
/-- target = value -/
def tAsg (te : TE) (g : TG) : TS := fun D σ H => te σ H fun x H1 => g x σ H1 D.nx
theorem ps_asg {tg e : Expr} {te : TE} {g : TG} (he : PE X e te) (hg : PG X tg g) (hs : swapsWithSole [tg] e pos.line X.env = pure false := by rfl) (hw : swappedStores [tg] e X.env = pure none := by rfl)
    (h1 : (assignEach [tg] X.env).map (·.2) = [assign tg X.env] := by rfl) : PS X (.Assign [tg] e pos) (tAsg te g) := by
  intro pins s σ H D I h
  refine wpAny_Assign_stores (thn (he pins s σ H _ I h) fun v s1 ⟨x, H1, I1, r1, q1⟩ => ?_) hs hw
  rw [h1]
  exact thn (hg pins s1 σ H1 x v _ I1 r1 q1) fun _ s2 q => q
/-- name = value -/
theorem ps_set {i : Nat} {x : Str} {e : Expr} {te : TE} {pos' : Pos} (hN : X.N.Nodup) (hi : X.N[i]? = some x) (hx : Loc X.env.scope x) (he : PE X e te) (hs : swapsWith e (some (.Name x pos')) pos.line X.env = pure false := by rfl) (hf : X.fn x = true ∨ X.env.scope.names.lookup x = some .local := by first | exact .inl rfl | exact .inr rfl | assumption) :
    PS X (.Assign [.Name x pos'] e pos) (tAsg te (gName i)) := by
  intro pins s σ H D I h
  refine wpAny_Assign_Name (thn (he pins s σ H _ I h) fun v s1 ⟨y, H1, I1, r1, q1⟩ => ?_) hs
  exact store_ok I1 hN hi hx r1 (fun s2 I2 => ⟨_, H1, I2, q1⟩) hf
end

/-! ### while -/
section
variable {X : Cx} {pos : Pos}
/-- the invariant W with its measure -/
def tWhile (c : TT) (tb : TS) : TS := fun D σ H => ∃ W : Nat → St → Hp → Prop, (∃ m, W m σ H) ∧ ∀ m σ H, W m σ H →
  c σ H fun b H1 => if b = true then ∃ N : St → Hp → Prop, (∀ σ' H', N σ' H' → ∃ m', m' < m ∧ W m' σ' H') ∧ tb { D with nx := N, ct := N, bk := D.nx } σ H1 else D.nx σ H1
theorem ps_while {c : Expr} {body : List Stmt} {tc : TT} {tb : TS} (hp : PassesOwn (model X.prog X.w) X.A X.env X.xe) (hc : PT X c tc) (hb : PSs X body tb) : PS X (.While c body [] pos) (tWhile tc tb) := by
  intro pins s σ H D I h
  obtain ⟨W, ⟨m0, w0⟩, turn⟩ := h
  refine wpAny_While (codeAny_whileLoop (fun n s' => ∃ σ' H', Inv X pins σ' H' s' ∧ W n σ' H') ?_ m0 ⟨σ, H, I, w0⟩)
  rintro n s1 ⟨σ1, H1, I1, w1⟩
  refine wpAny_passesOwn hp (thn (hc pins s1 σ1 H1 _ I1 (turn n σ1 H1 w1)) fun b s2 ⟨H2, I2, q2⟩ => ?_)
  cases b with
  | true =>
    obtain ⟨N, hN, q2⟩ := q2
    rw [if_pos rfl]
    refine wpAny_passesOwn hp (thn (hb pins s2 σ1 H2 _ I2 q2) fun f s3 q3 => ?_)
    cases f with
    | next =>
      obtain ⟨σ3, H3, I3, n3⟩ := q3
      obtain ⟨m', hm, w3⟩ := hN σ3 H3 n3
      exact ⟨m', hm, σ3, H3, I3, w3⟩
    | cont =>
      obtain ⟨σ3, H3, I3, n3⟩ := q3
      obtain ⟨m', hm, w3⟩ := hN σ3 H3 n3
      exact ⟨m', hm, σ3, H3, I3, w3⟩
    | brk => exact q3
    | ret v => exact q3
  | false =>
    rw [if_neg Bool.false_ne_true]
    exact wpAny_execs_nil ⟨σ1, H2, I2, q2⟩
end

/-! ### what a loop or a comprehension walks -/
/-- at turn i: it yields x (the heap may grow), or it stops -/
structure It where
  go : Nat → Hp → Prop
  yld : Nat → Hp → V → Hp → Prop
  stop : Nat → Hp → Prop
/-- the iterator's own objects may turn: they are not the frame's, not pinned, younger than the entry (or a comprehension's own) -/
def FpOk (X : Cx) (pins : List (Addr × Obj)) (H : Hp) (b : Addr) : Prop :=
  H b = none ∧ b ≠ X.env.locals ∧ b ∉ X.fs ∧ (b ∈ X.ex ∨ X.s₀.heap.objs.size ≤ b) ∧ (∀ x c, X.env.cells.lookup x = some c → c ≠ b) ∧ ∀ p ∈ X.pn ++ pins, p.1 ≠ b
theorem Inv.fpOk {X : Cx} {pins : List (Addr × Obj)} {σ : St} {H H' : Hp} {s : Shared} {b : Addr} (I : Inv X pins σ H s) (hb : s.heap.objs.size ≤ b) (hn : H' b = none) : FpOk X pins H' b := by
  refine ⟨hn, Nat.ne_of_gt (Nat.lt_of_lt_of_le I.lt hb), I.nofs hb, .inr (Nat.le_trans I.sz hb), fun x c e z => ?_, fun p hp z => ?_⟩
  · obtain ⟨v, q⟩ := I.cell x c e
    exact absurd (Nat.lt_of_lt_of_le q.lt (by rw [z]; exact hb)) (Nat.lt_irrefl _)
  · exact absurd (Nat.lt_of_lt_of_le (Heap.lt_size (I.pin p hp).1) (by rw [z]; exact hb)) (Nat.lt_irrefl _)
structure Turn (P : Program) (w : World) (K : PySem.W.Frag) (tg : Expr) (J : It) (fp : List Addr) (it : Addr) (tn : Nat → Heap → Prop) : Prop where
  mem : it ∈ fp
  obj : ∀ i h, tn i h → ∀ b ∈ fp, ∃ o, h.get? b = some o ∧ ∀ v, o.data ≠ .cell v
  keep : ∀ i h h', tn i h → (∀ b ∈ fp, ∀ o, h.get? b = some o → h'.get? b = some o) → tn i h'
  item : ∀ (X : Cx), X.prog = P → X.w = w → X.K = K → X.calm = true → ∀ (i : Nat) (pins : List (Addr × Obj)) (s : Shared) (σ : St) (H : Hp) (E : Value → Shared → Prop), Inv X pins σ H s → (∀ b ∈ fp, FpOk X pins H b) → tn i s.heap → J.go i H →
    wpAny (model P w) X.A (pyNext (.ref it)) (fun r s1 => ∃ u, r = some u ∧
      wpAny (model P w) X.A (letOwnedTupleGo tg (.ref it) u) (fun _ s2 => ∃ x H', Inv X pins σ H' s2 ∧ RelV x u ∧ J.yld i H x H' ∧ tn (i + 1) s2.heap ∧ ∀ b ∈ fp, H' b = none) E s1) E s
  done : ∀ (X : Cx), X.prog = P → X.w = w → X.K = K → X.calm = true → ∀ (i : Nat) (pins : List (Addr × Obj)) (s : Shared) (σ : St) (H : Hp) (E : Value → Shared → Prop), Inv X pins σ H s → (∀ b ∈ fp, FpOk X pins H b) → tn i s.heap → J.stop i H →
    wpAny (model P w) X.A (pyNext (.ref it)) (fun r s1 => r = none ∧ Inv X pins σ H s1) E s
  self : ∀ (A : Around) (i : Nat) (s : Shared) (Q : Value → Shared → Prop) (E : Value → Shared → Prop), tn i s.heap → Q (.ref it) s → wpAny (model P w) A (pyIter (.ref it)) Q E s
abbrev TI := St → Hp → (It → Hp → Prop) → Prop
/-- an iterator has come -/
def PIE (X : Cx) (pins : List (Addr × Obj)) (σ : St) (tg : Expr) (R : It → Hp → Prop) (itv : Value) (s2 : Shared) : Prop :=
  ∃ (it : Addr) (fp : List Addr) (tn : Nat → Heap → Prop) (J : It) (H' : Hp), itv = .ref it ∧ Inv X pins σ H' s2 ∧ Turn X.prog X.w X.K tg J fp it tn ∧ tn 0 s2.heap ∧ (∀ b ∈ fp, FpOk X pins H' b) ∧ R J H'
def PI (X : Cx) (tg iter : Expr) (wi : TI) : Prop :=
  ∀ (pins : List (Addr × Obj)) (s : Shared) (σ : St) (H : Hp) (R : It → Hp → Prop), Inv X pins σ H s → wi σ H R →
    wpAny (model X.prog X.w) X.A (eval iter X.env) (fun v s1 => wpAny (model X.prog X.w) X.A (pyIter v) (PIE X pins σ tg R) X.xe s1) X.xe s

/-- the step ahead of the store is nothing for an iterator that keeps no tuple -/
theorem go_of {M : Model} {A : Around} {E : Value → Shared → Prop} {s : Shared} {tg : Expr} {it : Addr} {u : Value} {o : Obj} {n : String} {vs : Array Value} {Q : Unit → Shared → Prop} (ho : s.heap.get? it = some o) (hc : o.cls = .type n) (hd : o.data = .fields vs)
    (hn : ["enumerate", "zip", "dict_itemiterator", "dict_reverseitemiterator", "odict_iterator", "itertools.zip_longest", "itertools.pairwise"].contains n = false) (hQ : Q () s) : wpAny M A (letOwnedTupleGo tg (.ref it) u) Q E s := by
  unfold letOwnedTupleGo
  cases tg <;> first
    | exact wpAny_pure hQ
    | (cases u <;> first
        | exact wpAny_pure hQ
        | (refine wpAny_bind (wpAny_load ho ?_)
           rw [hc, hd]
           show wpAny M A (if (["enumerate", "zip", "dict_itemiterator", "dict_reverseitemiterator", "odict_iterator", "itertools.zip_longest", "itertools.pairwise"].contains n && vs[0]? == some (rawInt _)) = true then _ else _) Q E s
           rw [if_neg (by intro h; rw [hn, Bool.false_and] at h; cases h)]
           exact wpAny_pure hQ))

/-- the list at a, as it stands at each turn (a loop may append to it) -/
def Itl (K : PySem.W.Frag) (a : Addr) : It :=
  ⟨fun i H => ∃ xs x, SqL K H a xs ∧ xs[i]? = some x, fun i H x H' => H' = H ∧ ∀ xs, SqL K H a xs → xs[i]? = some x, fun i H => ∃ xs, SqL K H a xs ∧ xs.length ≤ i⟩
def Itt (K : PySem.W.Frag) (a : Addr) : It :=
  ⟨fun i H => ∃ xs x, SqT K H a xs ∧ xs[i]? = some x, fun i H x H' => H' = H ∧ ∀ xs, SqT K H a xs → xs[i]? = some x, fun i H => ∃ xs, SqT K H a xs ∧ xs.length ≤ i⟩
/-- lo, lo + 1, .. (n of them) -/
def Itr (lo : Int) (n : Nat) : It := ⟨fun i _ => i < n, fun i H x H' => H' = H ∧ x = .int (lo + i), fun i _ => n ≤ i⟩
theorem turn_list {P : Program} {w : World} {K : PySem.W.Frag} {tg : Expr} (a it : Addr) : Turn P w K tg (Itl K a) [it] it (fun i h => h.IsListIter it a i) where
  mem := by simp
  obj := fun i h st b hb => by
    have e : b = it := by simpa using hb
    subst e
    obtain ⟨o, e, c, d⟩ := st
    exact ⟨o, e, fun v z => by rw [d] at z; cases z⟩
  keep := fun i h h' st k => st.at fun o e => k it (by simp) o e
  item := by
    intro X hP hw hK hc i pins s σ H E I hf st hg
    subst hP hw hK
    obtain ⟨xs, x, hq, hx⟩ := hg
    obtain ⟨its, rv, p, hz⟩ := I.list hq
    obtain ⟨u, hu, ru⟩ := rv.get hx
    obtain ⟨f0, f1, f2, f3, f4, f5⟩ := hf it (by simp)
    refine wpAny_pyNext_list_item st p.isList (x := u) (by simpa using hu) fun h' st' sb => ?_
    have I1 : Inv X pins σ H { s with heap := h' } := I.turned (t' := s.toks) (fun b o hb e => (sb.2 b hb).trans e) f0 f1 f3 f4 f5
    obtain ⟨o, e, c, d⟩ := id st'
    exact ⟨u, rfl, go_of (s := { s with heap := h' }) e c d (by decide) ⟨x, H, I1, ru, ⟨rfl, fun ys hy => by rw [I.list_inj hy hq]; exact hx⟩, st', fun b hb => (hf b hb).1⟩⟩
  done := by
    intro X hP hw hK hc i pins s σ H E I hf st hg
    subst hP hw hK
    obtain ⟨xs, hq, hx⟩ := hg
    obtain ⟨its, rv, p, hz⟩ := I.list hq
    obtain ⟨f0, f1, f2, f3, f4, f5⟩ := hf it (by simp)
    have hl := rv.length
    exact wpAny_pyNext_list_end (I.ok.hd hc) st p.isList (by simp; omega) fun h' eb => ⟨rfl, I.turned (t' := s.toks) (fun b o hb e => eb b o hb e) f0 f1 f3 f4 f5⟩
  self := fun _ _ _ _ _ st h => wpAny_pyIter_listiter st h
theorem turn_tuple {P : Program} {w : World} {K : PySem.W.Frag} {tg : Expr} (a it : Addr) : Turn P w K tg (Itt K a) [it] it (fun i h => h.IsTupleIter it a i) where
  mem := by simp
  obj := fun i h st b hb => by
    have e : b = it := by simpa using hb
    subst e
    obtain ⟨o, e, c, d⟩ := st
    exact ⟨o, e, fun v z => by rw [d] at z; cases z⟩
  keep := fun i h h' st k => st.at fun o e => k it (by simp) o e
  item := by
    intro X hP hw hK hc i pins s σ H E I hf st hg
    subst hP hw hK
    obtain ⟨xs, x, hq, hx⟩ := hg
    obtain ⟨its, rv, p, hz⟩ := I.tuple hq
    obtain ⟨u, hu, ru⟩ := rv.get hx
    obtain ⟨f0, f1, f2, f3, f4, f5⟩ := hf it (by simp)
    refine wpAny_pyNext_tuple_item st (show s.heap.IsTuple a its.toArray from p) (x := u) (by simpa using hu) fun h' st' sb => ?_
    have I1 : Inv X pins σ H { s with heap := h' } := I.turned (t' := s.toks) (fun b o hb e => (sb.2 b hb).trans e) f0 f1 f3 f4 f5
    obtain ⟨o, e, c, d⟩ := id st'
    exact ⟨u, rfl, go_of (s := { s with heap := h' }) e c d (by decide) ⟨x, H, I1, ru, ⟨rfl, fun ys hy => by rw [I.tuple_inj hy hq]; exact hx⟩, st', fun b hb => (hf b hb).1⟩⟩
  done := by
    intro X hP hw hK hc i pins s σ H E I hf st hg
    subst hP hw hK
    obtain ⟨xs, hq, hx⟩ := hg
    obtain ⟨its, rv, p, hz⟩ := I.tuple hq
    obtain ⟨f0, f1, f2, f3, f4, f5⟩ := hf it (by simp)
    have hl := rv.length
    exact wpAny_pyNext_tuple_end (I.ok.hd hc) st (show s.heap.IsTuple a its.toArray from p) (by simp; omega) fun h' eb => ⟨rfl, I.turned (t' := s.toks) (fun b o hb e => eb b o hb e) f0 f1 f3 f4 f5⟩
  self := fun _ _ _ _ _ st h => wpAny_pyIter_tupleiter st h
theorem turn_range {P : Program} {w : World} {K : PySem.W.Frag} {tg : Expr} (it : Addr) (lo : Int) (n : Nat) : Turn P w K tg (Itr lo n) [it] it (fun i h => IsRangeIter h it (lo + (i : Nat) * 1) ((n : Int) - (i : Nat)) 1) where
  mem := by simp
  obj := fun i h st b hb => by
    have e : b = it := by simpa using hb
    subst e
    exact ⟨_, st, fun v z => by
      have z' : Data.fields _ = Data.cell v := z
      cases z'⟩
  keep := fun i h h' st k => k it (by simp) _ st
  item := by
    intro X hP hw hK hc i pins s σ H E I hf st hg
    subst hP hw hK
    obtain ⟨f0, f1, f2, f3, f4, f5⟩ := hf it (by simp)
    have W := Walks.range (prog := X.prog) (w := X.w) (I.ok.hd hc) it lo 1 n
    refine W.item i s _ _ hg st fun v h' tk hv st' kk => ?_
    obtain ⟨t, rfl⟩ := hv
    have I1 : Inv X pins σ H { s with heap := h', toks := tk } := I.turned (fun b o hb e => kk b o (by simpa using hb) e) f0 f1 f3 f4 f5
    refine ⟨_, rfl, go_of (s := { s with heap := h', toks := tk }) (n := "range_iterator") st' rfl rfl (by decide) ⟨.int (lo + i), H, I1, ⟨t, ?_⟩, ⟨rfl, rfl⟩, st', fun b hb => (hf b hb).1⟩⟩
    rw [Int.mul_one]
  done := by
    intro X hP hw hK hc i pins s σ H E I hf st hg
    subst hP hw hK
    obtain ⟨f0, f1, f2, f3, f4, f5⟩ := hf it (by simp)
    exact wpAny_pyNext_range_end (I.ok.hd hc) st (by have : n ≤ i := hg; omega) fun h' eb => ⟨rfl, I.turned (t' := s.toks) (fun b o hb e => eb b o hb e) f0 f1 f3 f4 f5⟩
  self := fun _ _ _ _ _ st h => wpAny_pyIter_rangeiter st h
end L2

namespace L2
open PySem PySem.Spec PyProof.Rows
section
variable {X : Cx} {tg : Expr}
def iList (K : PySem.W.Frag) (tl : TE) : TI := fun σ H R => tl σ H fun x H1 => ∃ a, x = .ref a ∧ (∃ xs, SqL K H1 a xs) ∧ R (Itl K a) H1
def iTup (K : PySem.W.Frag) (tl : TE) : TI := fun σ H R => tl σ H fun x H1 => ∃ a, x = .ref a ∧ (∃ xs, SqT K H1 a xs) ∧ R (Itt K a) H1
theorem pi_list {l : Expr} {tl : TE} (hl : PE X l tl) : PI X tg l (iList X.K tl) := by
  intro pins s σ H R I h
  refine thn (hl pins s σ H _ I h) fun v s1 ⟨x, H1, I1, r1, q1⟩ => ?_
  obtain ⟨a, e, ⟨xs, hq⟩, q⟩ := q1
  subst e
  cases r1
  obtain ⟨its, rv, p, hz⟩ := I1.list hq
  refine wpAny_pyIter_list p.isList ?_
  refine ⟨s1.heap.objs.size, [s1.heap.objs.size], _, _, H1, rfl, I1.kept (t' := s1.toks) fun b o e => Heap.get?_push_of_some _ e, turn_list a _, ⟨_, Heap.get?_push_size _ rfl, rfl, rfl⟩, fun b hb => ?_, q⟩
  have e : b = s1.heap.objs.size := by simpa using hb
  subst e
  exact I1.fpOk (Nat.le_refl _) (I1.hok.fresh (Nat.le_refl _))
theorem pi_tup {l : Expr} {tl : TE} (hl : PE X l tl) : PI X tg l (iTup X.K tl) := by
  intro pins s σ H R I h
  refine thn (hl pins s σ H _ I h) fun v s1 ⟨x, H1, I1, r1, q1⟩ => ?_
  obtain ⟨a, e, ⟨xs, hq⟩, q⟩ := q1
  subst e
  cases r1
  obtain ⟨its, rv, p, hz⟩ := I1.tuple hq
  refine wpAny_pyIter_tuple (show s1.heap.IsTuple a its.toArray from p) ?_
  refine ⟨s1.heap.objs.size, [s1.heap.objs.size], _, _, H1, rfl, I1.kept (t' := s1.toks) fun b o e => Heap.get?_push_of_some _ e, turn_tuple a _, ⟨_, Heap.get?_push_size _ rfl, rfl, rfl⟩, fun b hb => ?_, q⟩
  have e : b = s1.heap.objs.size := by simpa using hb
  subst e
  exact I1.fpOk (Nat.le_refl _) (I1.hok.fresh (Nat.le_refl _))
/-- a range object just made, walked -/
theorem range_it {pins : List (Addr × Obj)} {σ : St} {H : Hp} {s : Shared} {R : It → Hp → Prop} {E : Value → Shared → Prop} {lo hi : Int} {t u v : Tok} {tk : Nat} (I : Inv X pins σ H s) (h1 : -(2 ^ 62) ≤ lo) (h2 : lo < 2 ^ 62) (h3 : -(2 ^ 62) ≤ hi) (h4 : hi < 2 ^ 62)
    (q : R (Itr lo (hi - lo).toNat) H) : wpAny (model X.prog X.w) X.A (pyIter (.ref s.heap.objs.size)) (PIE X pins σ tg R) E { s with heap := s.heap.push { cls := .type "range", data := .fields #[.int lo t, .int hi u, .int 1 v] }, toks := tk } := by
  refine wpAny_pyIter_range (IsRange.new ..) (small_one h1 h2 h3 h4) ?_
  have I1 : Inv X pins σ H { s with heap := s.heap.push { cls := .type "range", data := .fields #[.int lo t, .int hi u, .int 1 v] }, toks := tk } := I.kept fun b o e => Heap.get?_push_of_some _ e
  refine ⟨(s.heap.push { cls := .type "range", data := .fields #[.int lo t, .int hi u, .int 1 v] }).objs.size, [(s.heap.push { cls := .type "range", data := .fields #[.int lo t, .int hi u, .int 1 v] }).objs.size], _, _, H, rfl,
    I1.kept (t' := tk) fun b o e => Heap.get?_push_of_some _ e, turn_range _ lo (hi - lo).toNat, ?_, fun b hb => ?_, q⟩
  · have e1 : lo + ((0 : Nat) : Int) * 1 = lo := by simp
    have e2 : (((hi - lo).toNat : Nat) : Int) - ((0 : Nat) : Int) = Builtin.Range.rangeSize lo hi 1 := by rw [rangeSize_one]; split <;> omega
    show IsRangeIter _ _ (lo + ((0 : Nat) : Int) * 1) ((((hi - lo).toNat : Nat) : Int) - ((0 : Nat) : Int)) 1
    rw [e1, e2]
    exact Heap.get?_push_size _ rfl
  · have e : b = (s.heap.push { cls := .type "range", data := .fields #[.int lo t, .int hi u, .int 1 v] }).objs.size := by simpa using hb
    subst e
    exact I1.fpOk (Nat.le_refl _) (I1.hok.fresh (Nat.le_refl _))
def iRng1 (ta : TA) : TI := fun σ H R => ta σ H fun vs H1 => ∃ j : Int, vs = [.int j] ∧ -(2 ^ 62) ≤ j ∧ j < 2 ^ 62 ∧ R (Itr 0 j.toNat) H1
theorem pi_range1 {a : Expr} {ta : TA} {p pos : Pos} (hg : Gl X "range") (hm : X.mg "range" = none) (ha : PA X [a] ta) (hs : starEach [a] X.env = [(false, eval a X.env)] := by rfl) : PI X tg (.Call (.Name "range" p) [a] [] pos) (iRng1 ta) := by
  intro pins s σ H R I h
  refine Call_ (ld_blt I hg hm boot_range (PyProof.Rows.callWith_type1 (thn (ha pos pins s σ H _ I h) fun us s1 ⟨vs, H1, I1, r1, q1⟩ => ?_) hs rfl))
  obtain ⟨j, e, q1, q2, q⟩ := q1
  subst e
  cases r1 with
  | cons r rr =>
    cases rr
    obtain ⟨t, rfl⟩ := r
    exact call_range_1 (range_it I1 (by omega) (by omega) q1 q2 (by simpa using q))

/-! ### for -/
/-- W: the invariant by the turn and a measure; N: what the body is to reach -/
def tFor (wi : TI) (g : TG) (tb : TS) : TS := fun D σ H => wi σ H fun J H1 => ∃ W : Nat → Nat → St → Hp → Prop, (∃ m, W 0 m σ H1) ∧ ∀ i m σ H, W i m σ H →
  (J.stop i H ∧ D.nx σ H) ∨ (J.go i H ∧ ∃ N : St → Hp → Prop, (∀ σ' H', N σ' H' → ∃ m', m' < m ∧ W (i + 1) m' σ' H') ∧ ∀ x H', J.yld i H x H' → g x σ H' fun σ2 H2 => tb { D with nx := N, ct := N, bk := D.nx } σ2 H2)
/-- the records at fp as they stand -/
def pinsAt (fp : List Addr) (h : Heap) : List (Addr × Obj) := fp.filterMap fun b => (h.get? b).map fun o => (b, o)
theorem mem_pinsAt {fp : List Addr} {h : Heap} {b : Addr} {o : Obj} (hb : b ∈ fp) (e : h.get? b = some o) : (b, o) ∈ pinsAt fp h := List.mem_filterMap.mpr ⟨b, hb, by rw [e]; rfl⟩
theorem of_pinsAt {fp : List Addr} {h : Heap} {p : Addr × Obj} (hp : p ∈ pinsAt fp h) : p.1 ∈ fp ∧ h.get? p.1 = some p.2 := by
  obtain ⟨b, hb, e⟩ := List.mem_filterMap.mp hp
  cases q : h.get? b with
  | none => rw [q] at e; cases e
  | some o =>
    rw [q] at e
    have e' : (b, o) = p := Option.some.inj e
    subst e'
    exact ⟨hb, q⟩
theorem Inv.pinned {pins : List (Addr × Obj)} {σ : St} {H : Hp} {s : Shared} {fp : List Addr} (I : Inv X pins σ H s) (hf : ∀ b ∈ fp, FpOk X pins H b) (ho : ∀ b ∈ fp, ∃ o, s.heap.get? b = some o ∧ ∀ v, o.data ≠ .cell v) : Inv X (pins ++ pinsAt fp s.heap) σ H s :=
  I.pins_of fun p hp => (List.mem_append.mp hp).elim (fun z => I.pin p (List.mem_append_right _ z)) fun z => by
    obtain ⟨hb, e⟩ := of_pinsAt z
    obtain ⟨f0, f1, f2, _⟩ := hf p.1 hb
    obtain ⟨o, e', d⟩ := ho p.1 hb
    rw [e] at e'; cases e'
    exact ⟨e, f0, f1, f2, d⟩
theorem Inv.unpinned {pins pl : List (Addr × Obj)} {σ : St} {H : Hp} {s : Shared} (I : Inv X (pins ++ pl) σ H s) : Inv X pins σ H s := I.pins_of fun p hp => I.pin p (List.mem_append_right _ (List.mem_append_left _ hp))
theorem ps_for {iter : Expr} {body : List Stmt} {wi : TI} {g : TG} {tb : TS} {pos : Pos} (hp : PassesOwn (model X.prog X.w) X.A X.env X.xe) (hc : X.calm = true) (hi : PI X tg iter wi) (hg : PG X tg g) (hb : PSs X body tb)
    (hs : ∀ x, foldedSetIterable iter X.env x = pure x := by intro _; rfl) : PS X (.For tg iter body [] pos) (tFor wi g tb) := by
  intro pins s σ H D I h
  refine wpAny_For (thn (hi pins s σ H _ I h) fun v s1 h1 => thn h1 fun itv s2 h2 => ?_) hs
  obtain ⟨it, fp, tn, J, H2, e, I2, T, st2, f2, W, ⟨m0, w0⟩, turn⟩ := h2
  subst e
  -- what stays true of the iterator's objects through the loop
  have stat : ∀ {H' : Hp}, (∀ b ∈ fp, H' b = none) → ∀ b ∈ fp, FpOk X pins H' b := fun hn b hb => ⟨hn b hb, (f2 b hb).2⟩
  refine codeAny_forLoop_any (fun n s' => ∃ i σ' H', Inv X pins σ' H' s' ∧ tn i s'.heap ∧ (∀ b ∈ fp, H' b = none) ∧ W i n σ' H') ?_ m0 ⟨0, σ, H2, I2, st2, fun b hb => (f2 b hb).1, w0⟩
  rintro n s3 ⟨i, σ3, H3, I3, st3, fr3, w3⟩
  rcases turn i n σ3 H3 w3 with ⟨stop, qn⟩ | ⟨go, N, hN, step⟩
  · refine wpAny_passesOwn hp (thn (T.done X rfl rfl rfl hc i pins s3 σ3 H3 X.xe I3 (stat fr3) st3 stop) fun r s4 ⟨hr, I4⟩ => ?_)
    subst hr
    exact wpAny_execs_nil ⟨σ3, H3, I4, qn⟩
  · refine wpAny_passesOwn hp (thn (T.item X rfl rfl rfl hc i pins s3 σ3 H3 X.xe I3 (stat fr3) st3 go) fun r s4 ⟨u, hr, h4⟩ => ?_)
    subst hr
    refine wpAny_passesOwn hp (thn h4 fun _ s5 ⟨x, H5, I5, r5, y5, st5, fr5⟩ => ?_)
    have I5' := I5.pinned (stat fr5) (T.obj _ _ st5)
    refine wpAny_passesOwn hp (thn (hg _ s5 σ3 H5 x u _ I5' r5 (step x H5 y5)) fun _ s6 ⟨σ6, H6, I6, q6⟩ => ?_)
    refine wpAny_passesOwn hp (thn (hb _ s6 σ6 H6 _ I6 q6) fun f s7 q7 => ?_)
    have again : ∀ {σ7 : St} {H7 : Hp}, Inv X (pins ++ pinsAt fp s5.heap) σ7 H7 s7 → N σ7 H7 → ∃ m, m < n ∧ ∃ i σ' H', Inv X pins σ' H' s7 ∧ tn i s7.heap ∧ (∀ b ∈ fp, H' b = none) ∧ W i m σ' H' := fun {σ7 H7} I7 n7 => by
      obtain ⟨m', hm, w7⟩ := hN σ7 H7 n7
      refine ⟨m', hm, i + 1, σ7, H7, I7.unpinned, T.keep _ _ _ st5 fun b hb o e => (I7.pin (b, o) (List.mem_append_right _ (List.mem_append_right _ (mem_pinsAt hb e)))).1, fun b hb => ?_, w7⟩
      obtain ⟨o, e, d⟩ := T.obj _ _ st5 b hb
      exact (I7.pin (b, o) (List.mem_append_right _ (List.mem_append_right _ (mem_pinsAt hb e)))).2.1
    cases f with
    | next => obtain ⟨σ7, H7, I7, n7⟩ := q7; exact again I7 n7
    | cont => obtain ⟨σ7, H7, I7, n7⟩ := q7; exact again I7 n7
    | brk => obtain ⟨σ7, H7, I7, q7⟩ := q7; exact ⟨σ7, H7, I7.unpinned, q7⟩
    | ret v => obtain ⟨x7, σ7, H7, I7, r7, q7⟩ := q7; exact ⟨x7, σ7, H7, I7.unpinned, r7, q7⟩
end

/-! ### the forms one uses -/
/-- over a list that the body leaves as it is -/
theorem for_list {K : PySem.W.Frag} {a : Addr} {xs : List V} {g : TG} {tb : TS} {D : Ends} {σ : St} {H : Hp} (Pv : Nat → St → Hp → Prop) (h0 : Pv 0 σ H) (hl : ∀ i σ H, i ≤ xs.length → Pv i σ H → SqL K H a xs)
    (hs : ∀ i x σ H, xs[i]? = some x → Pv i σ H → g x σ H fun σ2 H2 => tb { D with nx := Pv (i + 1), ct := Pv (i + 1), bk := D.nx } σ2 H2) (hd : ∀ σ H, Pv xs.length σ H → D.nx σ H) :
    ∃ W : Nat → Nat → St → Hp → Prop, (∃ m, W 0 m σ H) ∧ ∀ i m σ H, W i m σ H →
      ((Itl K a).stop i H ∧ D.nx σ H) ∨ ((Itl K a).go i H ∧ ∃ N : St → Hp → Prop, (∀ σ' H', N σ' H' → ∃ m', m' < m ∧ W (i + 1) m' σ' H') ∧ ∀ x H', (Itl K a).yld i H x H' → g x σ H' fun σ2 H2 => tb { D with nx := N, ct := N, bk := D.nx } σ2 H2) := by
  refine ⟨fun i m σ H => m = xs.length - i ∧ i ≤ xs.length ∧ Pv i σ H, ⟨xs.length, by simp, Nat.zero_le _, h0⟩, ?_⟩
  rintro i m σ H ⟨rfl, hi, p⟩
  have q := hl i σ H hi p
  by_cases hlt : i < xs.length
  · refine .inr ⟨⟨xs, xs[i], q, by simp [hlt]⟩, Pv (i + 1), fun σ' H' p' => ⟨xs.length - (i + 1), by omega, rfl, hlt, p'⟩, fun x H' y => ?_⟩
    obtain ⟨e, y⟩ := y
    subst e
    exact hs i x σ _ (y xs q) p
  · have e : i = xs.length := by omega
    subst e
    exact .inl ⟨⟨xs, q, Nat.le_refl _⟩, hd σ H p⟩
theorem for_tup {K : PySem.W.Frag} {a : Addr} {xs : List V} {g : TG} {tb : TS} {D : Ends} {σ : St} {H : Hp} (Pv : Nat → St → Hp → Prop) (h0 : Pv 0 σ H) (hl : ∀ i σ H, i ≤ xs.length → Pv i σ H → SqT K H a xs)
    (hs : ∀ i x σ H, xs[i]? = some x → Pv i σ H → g x σ H fun σ2 H2 => tb { D with nx := Pv (i + 1), ct := Pv (i + 1), bk := D.nx } σ2 H2) (hd : ∀ σ H, Pv xs.length σ H → D.nx σ H) :
    ∃ W : Nat → Nat → St → Hp → Prop, (∃ m, W 0 m σ H) ∧ ∀ i m σ H, W i m σ H →
      ((Itt K a).stop i H ∧ D.nx σ H) ∨ ((Itt K a).go i H ∧ ∃ N : St → Hp → Prop, (∀ σ' H', N σ' H' → ∃ m', m' < m ∧ W (i + 1) m' σ' H') ∧ ∀ x H', (Itt K a).yld i H x H' → g x σ H' fun σ2 H2 => tb { D with nx := N, ct := N, bk := D.nx } σ2 H2) := by
  refine ⟨fun i m σ H => m = xs.length - i ∧ i ≤ xs.length ∧ Pv i σ H, ⟨xs.length, by simp, Nat.zero_le _, h0⟩, ?_⟩
  rintro i m σ H ⟨rfl, hi, p⟩
  have q := hl i σ H hi p
  by_cases hlt : i < xs.length
  · refine .inr ⟨⟨xs, xs[i], q, by simp [hlt]⟩, Pv (i + 1), fun σ' H' p' => ⟨xs.length - (i + 1), by omega, rfl, hlt, p'⟩, fun x H' y => ?_⟩
    obtain ⟨e, y⟩ := y
    subst e
    exact hs i x σ _ (y xs q) p
  · have e : i = xs.length := by omega
    subst e
    exact .inl ⟨⟨xs, q, Nat.le_refl _⟩, hd σ H p⟩
theorem for_range {lo : Int} {n : Nat} {g : TG} {tb : TS} {D : Ends} {σ : St} {H : Hp} (Pv : Nat → St → Hp → Prop) (h0 : Pv 0 σ H)
    (hs : ∀ i σ H, i < n → Pv i σ H → g (.int (lo + i)) σ H fun σ2 H2 => tb { D with nx := Pv (i + 1), ct := Pv (i + 1), bk := D.nx } σ2 H2) (hd : ∀ σ H, Pv n σ H → D.nx σ H) :
    ∃ W : Nat → Nat → St → Hp → Prop, (∃ m, W 0 m σ H) ∧ ∀ i m σ H, W i m σ H →
      ((Itr lo n).stop i H ∧ D.nx σ H) ∨ ((Itr lo n).go i H ∧ ∃ N : St → Hp → Prop, (∀ σ' H', N σ' H' → ∃ m', m' < m ∧ W (i + 1) m' σ' H') ∧ ∀ x H', (Itr lo n).yld i H x H' → g x σ H' fun σ2 H2 => tb { D with nx := N, ct := N, bk := D.nx } σ2 H2) := by
  refine ⟨fun i m σ H => m = n - i ∧ i ≤ n ∧ Pv i σ H, ⟨n, by simp, Nat.zero_le _, h0⟩, ?_⟩
  rintro i m σ H ⟨rfl, hi, p⟩
  by_cases hlt : i < n
  · refine .inr ⟨hlt, Pv (i + 1), fun σ' H' p' => ⟨n - (i + 1), by omega, rfl, hlt, p'⟩, fun x H' y => ?_⟩
    obtain ⟨e, y⟩ := y
    subst e y
    exact hs i σ _ hlt p
  · have e : i = n := by omega
    subst e
    exact .inl ⟨Nat.le_refl _, hd σ H p⟩
end L2

namespace L2
open PySem PySem.Spec PyProof.Rows

abbrev R2 := V → V → Hp → VK → Prop
/-- a two-place operation on values: f is binaryOp op, inplaceOp op or compareOp op -/
def OpR (X : Cx) (f : Value → Value → Sem Value) (r : R2) : Prop :=
  ∀ (pins : List (Addr × Obj)) (s : Shared) (σ : St) (H : Hp) (x y : V) (v u : Value) (Q : VK), Inv X pins σ H s → RelV x v → RelV y u → r x y H Q →
    wpAny (model X.prog X.w) X.A (f v u) (EP X pins σ Q) X.xe s
/-- a call of a value that is known (a builtin, a type) with values -/
def CallR (X : Cx) (f : Value) (r : List V → Hp → VK → Prop) : Prop :=
  ∀ (pins : List (Addr × Obj)) (s : Shared) (σ : St) (H : Hp) (xs : List V) (us : List Value) (Q : VK), Inv X pins σ H s → Vals xs us → r xs H Q →
    wpAny (model X.prog X.w) X.A (call f us) (EP X pins σ Q) X.xe s

def tOp (r : R2) (ta tb : TE) : TE := fun σ H Q => ta σ H fun x H1 => tb σ H1 fun y H2 => r x y H2 Q
/-- ints in, under C, and a value out -/
def rI (C : Int → Int → Prop) (g : Int → Int → V) : R2 := fun x y H Q => ∃ i j, x = .int i ∧ y = .int j ∧ C i j ∧ Q (g i j) H
def rI0 (g : Int → Int → V) : R2 := fun x y H Q => ∃ i j, x = .int i ∧ y = .int j ∧ Q (g i j) H

section
variable {X : Cx} {a b c : Expr} {ta tb tc : TE} {pos : Pos}

theorem binT (ha : PE X a ta) (hb : PE X b tb) {pins : List (Addr × Obj)} {s : Shared} {σ : St} {H : Hp} {R : V → V → Hp → Prop} (I : Inv X pins σ H s)
    (h : ta σ H fun x H1 => tb σ H1 fun y H2 => R x y H2) {Q : Value → Shared → Prop} {f : Value → Value → Sem Value}
    (hf : ∀ v u s2 x y H2, Inv X pins σ H2 s2 → RelV x v → RelV y u → R x y H2 → wpAny (model X.prog X.w) X.A (f v u) Q X.xe s2) :
    wpAny (model X.prog X.w) X.A (eval a X.env) (fun v s₁ => wpAny (model X.prog X.w) X.A (eval b X.env) (fun u s₂ => wpAny (model X.prog X.w) X.A (f v u) Q X.xe s₂) X.xe s₁) X.xe s := by
  refine thn (ha pins s σ H _ I h) fun v s1 ⟨x, H1, I1, r1, q1⟩ => ?_
  refine thn (hb pins s1 σ H1 _ I1 q1) fun u s2 ⟨y, H2, I2, r2, q2⟩ => ?_
  exact hf v u s2 x y H2 I2 r1 r2 q2

theorem pe_op {op : Operator} {r : R2} (ho : OpR X (binaryOp op) r) (ha : PE X a ta) (hb : PE X b tb) : PE X (.BinOp a op b pos) (tOp r ta tb) := by
  intro pins s σ H Q I h
  exact wpAny_BinOp (binT ha hb I h fun v u s2 x y H2 I2 rx ry q => ho pins s2 σ H2 x y v u Q I2 rx ry q)

/-! ### ints -/
theorem opI {f : Value → Value → Sem Value} {C : Int → Int → Prop} {g : Int → Int → Int}
    (rule : ∀ (i j : Int) (t u : Tok) (s : Shared) (Q : Value → Shared → Prop) (E : Value → Shared → Prop), C i j → Q (.int (g i j) s.toks) { s with toks := s.toks + 1 } → wpAny (model X.prog X.w) X.A (f (.int i t) (.int j u)) Q E s) :
    OpR X f (rI C fun i j => .int (g i j)) := by
  intro pins s σ H x y v u Q I rx ry h
  obtain ⟨i, j, rfl, rfl, hc, q⟩ := h
  obtain ⟨t, rfl⟩ := rx
  obtain ⟨t', rfl⟩ := ry
  exact rule i j t t' s _ _ hc ⟨.int (g i j), H, I.tok _, ⟨_, rfl⟩, q⟩
theorem opI0 {f : Value → Value → Sem Value} {g : Int → Int → Int}
    (rule : ∀ (i j : Int) (t u : Tok) (s : Shared) (Q : Value → Shared → Prop) (E : Value → Shared → Prop), Q (.int (g i j) s.toks) { s with toks := s.toks + 1 } → wpAny (model X.prog X.w) X.A (f (.int i t) (.int j u)) Q E s) :
    OpR X f (rI0 fun i j => .int (g i j)) := by
  intro pins s σ H x y v u Q I rx ry h
  obtain ⟨i, j, rfl, rfl, q⟩ := h
  obtain ⟨t, rfl⟩ := rx
  obtain ⟨t', rfl⟩ := ry
  exact rule i j t t' s _ _ ⟨.int (g i j), H, I.tok _, ⟨_, rfl⟩, q⟩
theorem opB0 {f : Value → Value → Sem Value} {g : Int → Int → Bool}
    (rule : ∀ (i j : Int) (t u : Tok) (s : Shared) (Q : Value → Shared → Prop) (E : Value → Shared → Prop), Q (.bool (g i j)) s → wpAny (model X.prog X.w) X.A (f (.int i t) (.int j u)) Q E s) :
    OpR X f (rI0 fun i j => .bl (g i j)) := by
  intro pins s σ H x y v u Q I rx ry h
  obtain ⟨i, j, rfl, rfl, q⟩ := h
  obtain ⟨t, rfl⟩ := rx
  obtain ⟨t', rfl⟩ := ry
  exact rule i j t t' s _ _ ⟨.bl (g i j), H, I, rfl, q⟩

def CDiv (i j : Int) : Prop := 0 < j ∧ j < 1073741824
def CMul (i j : Int) : Prop := (-(2 ^ 64) < i ∧ i < 2 ^ 64) ∨ (-(2 ^ 64) < j ∧ j < 2 ^ 64)
theorem CMul.ok {i j : Int} (h : CMul i j) : IntMulOk i j := by
  rcases h with ⟨h1, h2⟩ | ⟨h1, h2⟩
  · exact .of_left (intBits_le_64 h1 h2)
  · exact .of_right (intBits_le_64 h1 h2)

theorem op_add : OpR X (binaryOp .Add) (rI0 fun i j => .int (i + j)) := opI0 fun _ _ _ _ _ _ _ q => add_int q
theorem op_sub : OpR X (binaryOp .Sub) (rI0 fun i j => .int (i - j)) := opI0 fun _ _ _ _ _ _ _ q => sub_int q
theorem op_mul : OpR X (binaryOp .Mult) (rI CMul fun i j => .int (i * j)) := opI fun _ _ _ _ _ _ _ hc q => mul_int q hc.ok
/-- // by a positive divisor -/
theorem op_fdiv : OpR X (binaryOp .FloorDiv) (rI CDiv fun i j => .int (i / j)) := opI fun i j _ _ _ _ _ hc q => by
  have h1 : (0 : Int) < j := hc.1
  have h2 : j < 1073741824 := hc.2
  exact floordiv_int (by omega) (by rw [Int.fdiv_eq_ediv_of_nonneg i (by omega)]; exact q) (.inl (PyProof.noPylong_small (by omega)))
/-- % by a positive divisor of any size -/
theorem op_mod : OpR X (binaryOp .Mod) (rI (fun _ j => 0 < j) fun i j => .int (i % j)) := opI fun i j _ _ _ _ _ hc q => by
  have h1 : (0 : Int) < j := hc
  exact mod_int' (by omega) (by rw [Int.fmod_eq_emod_of_nonneg i (by omega)]; exact q)



/-! ### bools among ints: n += (a < b) -/
end

/-! ### comparisons -/
/-- the scalars that == tells apart as data does -/
def scal : V → V → Bool
  | .non, .non => true | .non, .int _ => true | .int _, .non => true | .non, .bl _ => true | .bl _, .non => true | .non, .str _ => true | .str _, .non => true
  | .int _, .int _ => true | .bl _, .bl _ => true | .str _, .str _ => true | .byt _, .byt _ => true
  | .int _, .str _ => true | .str _, .int _ => true | .bl _, .str _ => true | .str _, .bl _ => true
  | _, _ => false
def rEq : R2 := fun x y H Q => scal x y = true ∧ Q (.bl (decide (x = y))) H
def rNe : R2 := fun x y H Q => scal x y = true ∧ Q (.bl (!decide (x = y))) H

theorem dec_int {i j : Int} : decide (V.int i = V.int j) = (i == j) := by
  rw [Bool.eq_iff_iff]
  simp
theorem dec_bl {i j : Bool} : decide (V.bl i = V.bl j) = (i == j) := by
  rw [Bool.eq_iff_iff]
  simp
theorem dec_str {i j : Str} : decide (V.str i = V.str j) = (i == j) := by
  rw [Bool.eq_iff_iff]
  simp
theorem dec_byt {i j : Array UInt8} : decide (V.byt i = V.byt j) = (i.toList == j.toList) := by
  rw [Bool.eq_iff_iff]
  cases i
  cases j
  simp

section
variable {X : Cx} {a b c : Expr} {ta tb tc : TE} {pos : Pos}
theorem fin_bl {pins : List (Addr × Obj)} {σ : St} {H : Hp} {s : Shared} {Q : VK} {k k' : Bool} (I : Inv X pins σ H s) (q : Q (.bl k) H) (e : k = k') : EP X pins σ Q (.bool k') s := by
  subst e
  exact ⟨.bl k, H, I, rfl, q⟩
theorem op_eq : OpR X (compareOp .Eq) rEq := by
  intro pins s σ H x y v u Q I rx ry h
  obtain ⟨hs, q⟩ := h
  cases x with
  | non =>
    cases rx
    cases y with
    | non => cases ry; exact PySem.EqNone.eq_none_none (fin_bl I q (by simp))
    | bl j => cases ry; exact PySem.EqNone.eq_none_bool (fin_bl I q (by simp))
    | int j => obtain ⟨t', rfl⟩ := ry; exact PySem.EqNone.eq_none_int (fin_bl I q (by simp))
    | str j => obtain ⟨t', rfl⟩ := ry; exact PySem.EqNone.eq_none_str (fin_bl I q (by simp))
    | _ => exact absurd (show false = true from hs) Bool.false_ne_true
  | bl i =>
    cases rx
    cases y with
    | non => cases ry; exact PySem.EqNone.eq_bool_none (fin_bl I q (by simp))
    | bl j => cases ry; exact eq_bool (fin_bl I q dec_bl)
    | str j => obtain ⟨t', rfl⟩ := ry; exact PySem.EqMixed.eq_bool_str (fin_bl I q (by simp))
    | _ => exact absurd (show false = true from hs) Bool.false_ne_true
  | int i =>
    obtain ⟨t, rfl⟩ := rx
    cases y with
    | non => cases ry; exact PySem.EqNone.eq_int_none (fin_bl I q (by simp))
    | int j => obtain ⟨t', rfl⟩ := ry; exact eq_int (fin_bl I q dec_int)
    | str j => obtain ⟨t', rfl⟩ := ry; exact PySem.EqMixed.eq_int_str (fin_bl I q (by simp))
    | _ => exact absurd (show false = true from hs) Bool.false_ne_true
  | str i =>
    obtain ⟨t, rfl⟩ := rx
    cases y with
    | non => cases ry; exact PySem.EqNone.eq_str_none (fin_bl I q (by simp))
    | bl j => cases ry; exact PySem.EqMixed.eq_str_bool (fin_bl I q (by simp))
    | int j => obtain ⟨t', rfl⟩ := ry; exact PySem.EqMixed.eq_str_int (fin_bl I q (by simp))
    | str j => obtain ⟨t', rfl⟩ := ry; exact eq_str (fin_bl I q dec_str)
    | _ => exact absurd (show false = true from hs) Bool.false_ne_true
  | byt i =>
    obtain ⟨t, rfl⟩ := rx
    cases y with
    | byt j => obtain ⟨t', rfl⟩ := ry; exact PySem.W.eq_bytes (fin_bl I q dec_byt)
    | _ => exact absurd (show false = true from hs) Bool.false_ne_true
  | _ => cases y <;> exact absurd (show false = true from hs) Bool.false_ne_true
theorem op_ne : OpR X (compareOp .NotEq) rNe := by
  intro pins s σ H x y v u Q I rx ry h
  obtain ⟨hs, q⟩ := h
  cases x with
  | non =>
    cases rx
    cases y with
    | non => cases ry; exact PySem.EqNone.ne_none_none (fin_bl I q (by simp))
    | bl j => cases ry; exact PySem.EqNone.ne_none_bool (fin_bl I q (by simp))
    | int j => obtain ⟨t', rfl⟩ := ry; exact PySem.EqNone.ne_none_int (fin_bl I q (by simp))
    | str j => obtain ⟨t', rfl⟩ := ry; exact PySem.EqNone.ne_none_str (fin_bl I q (by simp))
    | _ => exact absurd (show false = true from hs) Bool.false_ne_true
  | bl i =>
    cases rx
    cases y with
    | non => cases ry; exact PySem.EqNone.ne_bool_none (fin_bl I q (by simp))
    | bl j => cases ry; exact ne_bool (fin_bl I q (congrArg not dec_bl))
    | str j => obtain ⟨t', rfl⟩ := ry; exact PySem.EqMixed.ne_bool_str (fin_bl I q (by simp))
    | _ => exact absurd (show false = true from hs) Bool.false_ne_true
  | int i =>
    obtain ⟨t, rfl⟩ := rx
    cases y with
    | non => cases ry; exact PySem.EqNone.ne_int_none (fin_bl I q (by simp))
    | int j => obtain ⟨t', rfl⟩ := ry; exact ne_int (fin_bl I q (congrArg not dec_int))
    | str j => obtain ⟨t', rfl⟩ := ry; exact PySem.EqMixed.ne_int_str (fin_bl I q (by simp))
    | _ => exact absurd (show false = true from hs) Bool.false_ne_true
  | str i =>
    obtain ⟨t, rfl⟩ := rx
    cases y with
    | non => cases ry; exact PySem.EqNone.ne_str_none (fin_bl I q (by simp))
    | bl j => cases ry; exact PySem.EqMixed.ne_str_bool (fin_bl I q (by simp))
    | int j => obtain ⟨t', rfl⟩ := ry; exact PySem.EqMixed.ne_str_int (fin_bl I q (by simp))
    | str j => obtain ⟨t', rfl⟩ := ry; exact ne_str (fin_bl I q (congrArg not dec_str))
    | _ => exact absurd (show false = true from hs) Bool.false_ne_true
  | byt i =>
    obtain ⟨t, rfl⟩ := rx
    cases y with
    | byt j => obtain ⟨t', rfl⟩ := ry; exact PySem.W.ne_bytes (fin_bl I q (congrArg not dec_byt))
    | _ => exact absurd (show false = true from hs) Bool.false_ne_true
  | _ => cases y <;> exact absurd (show false = true from hs) Bool.false_ne_true

theorem op_lt : OpR X (compareOp .Lt) (rI0 fun i j => .bl (decide (i < j))) := opB0 fun _ _ _ _ _ _ _ q => lt_int q
theorem op_gt : OpR X (compareOp .Gt) (rI0 fun i j => .bl (decide (j < i))) := opB0 fun _ _ _ _ _ _ _ q => gt_int q

/-- is None, is not None: the right side a value none -/
theorem op_isN : OpR X (compareOp .Is) (fun x y H Q => y = .non ∧ Q (.bl (decide (x = .non))) H) := by
  intro pins s σ H x y v u Q I rx ry h
  obtain ⟨rfl, q⟩ := h
  cases ry
  refine is_none_gen (fin_bl I q ?_)
  cases x <;> first
    | (cases rx; rfl)
    | (obtain ⟨t, rfl⟩ := rx; rfl)
theorem op_notN : OpR X (compareOp .IsNot) (fun x y H Q => y = .non ∧ Q (.bl (!decide (x = .non))) H) := by
  intro pins s σ H x y v u Q I rx ry h
  obtain ⟨rfl, q⟩ := h
  cases ry
  refine isnot_none_gen (fin_bl I q ?_)
  cases x <;> first
    | (cases rx; rfl)
    | (obtain ⟨t, rfl⟩ := rx; rfl)



theorem nomark (b : Expr) {op : CmpOp} (h : op ≠ .In := by decide) (h2 : op ≠ .NotIn := by decide) : behindInMarks op b = false := by
  have e1 : (op == CmpOp.In) = false := by cases op <;> first | rfl | exact absurd rfl h
  have e2 : (op == CmpOp.NotIn) = false := by cases op <;> first | rfl | exact absurd rfl h2
  cases b <;> simp [behindInMarks, e1, e2]
/-- a comparison as a value; hm: nomark b, or (for in, not in) by with_unfolding_all rfl -/
theorem pe_cmpR {op : CmpOp} {r : R2} (ho : OpR X (compareOp op) r) (ha : PE X a ta) (hb : PE X b tb) (hm : behindInMarks op b = false) : PE X (.Compare a [op] [b] pos) (tOp r ta tb) := by
  intro pins s σ H Q I h
  exact wpAny_Compare1 (binT ha hb I h fun v u s2 x y H2 I2 rx ry q => ho pins s2 σ H2 x y v u Q I2 rx ry q) hm
/-- a reading of a value as a test -/
def tTest (t : TE) : TT := fun σ H Q => t σ H fun x H' => ∃ k, x = .bl k ∧ Q k H'
theorem pt_cmpR {op : CmpOp} {r : R2} (ho : OpR X (compareOp op) r) (ha : PE X a ta) (hb : PE X b tb) (hm : behindInMarks op b = false) : PT X (.Compare a [op] [b] pos) (tTest (tOp r ta tb)) := by
  intro pins s σ H Q I h
  refine wpAny_isTrue_Compare1 (thn (ha pins s σ H _ I h) fun v s1 ⟨x, H1, I1, r1, q1⟩ => thn (hb pins s1 σ H1 _ I1 q1) fun u s2 ⟨y, H2, I2, r2, q2⟩ =>
    thn (ho pins s2 σ H2 x y v u _ I2 r1 r2 q2) fun c s3 ⟨z, H3, I3, r3, k, e, q3⟩ => ?_) hm
  subst e
  cases r3
  exact wpAny_truthy_bool ⟨H3, I3, q3⟩

/-! ### truth -/
theorem line63 : (sizeLine : Nat) < 2 ^ 63 := by rw [sizeLine_eq]; decide

/-! ### strs and bytes -/
theorem op_add_str : OpR X (binaryOp .Add) (fun x y H Q => ∃ i j, x = .str i ∧ y = .str j ∧ i.length + j.length ≤ sizeLine ∧ Q (.str (i ++ j)) H) := by
  intro pins s σ H x y v u Q I rx ry h
  obtain ⟨i, j, rfl, rfl, hz, q⟩ := h
  obtain ⟨t, rfl⟩ := rx
  obtain ⟨t', rfl⟩ := ry
  exact add_str (fun t' tk => ⟨.str (i ++ j), H, I.tok _, ⟨_, rfl⟩, q⟩) hz


/-! ### scalar builtins, by CallR -/
theorem vals1 {x : V} {us : List Value} (r : Vals [x] us) : ∃ u, us = [u] ∧ RelV x u := by
  cases r with
  | cons r1 r2 => cases r2; exact ⟨_, rfl, r1⟩
theorem vals2 {x y : V} {us : List Value} (r : Vals [x, y] us) : ∃ u w', us = [u, w'] ∧ RelV x u ∧ RelV y w' := by
  cases r with
  | cons r1 r2 =>
    cases r2 with
    | cons r3 r4 => cases r4; exact ⟨_, _, rfl, r1, r3⟩
theorem call_max2 (hc : X.calm = true) : CallR X (.builtin "max") (fun xs H Q => ∃ i j, xs = [.int i, .int j] ∧ Q (.int (if j > i then j else i)) H) := by
  intro pins s σ H xs us Q I r h
  obtain ⟨i, j, rfl, q⟩ := h
  obtain ⟨u, w', rfl, ⟨t, rfl⟩, ⟨t', rfl⟩⟩ := vals2 r
  refine max_two_ints (I.ok.hd hc) fun h' tk k => ⟨_, H, I.kept k, ?_, q⟩
  by_cases hj : j > i
  · rw [if_pos hj, if_pos hj]; exact ⟨_, rfl⟩
  · rw [if_neg hj, if_neg hj]; exact ⟨_, rfl⟩
theorem call_int1 : CallR X (.type "int") (fun xs H Q => (∃ i, xs = [.int i] ∧ Q (.int i) H) ∨ ∃ k, xs = [.bl k] ∧ Q (.int (if k then 1 else 0)) H) := by
  intro pins s σ H xs us Q I r h
  rcases h with ⟨i, rfl, q⟩ | ⟨k, rfl, q⟩
  · obtain ⟨u, rfl, t, rfl⟩ := vals1 r
    exact call_int_int ⟨.int i, H, I, ⟨_, rfl⟩, q⟩
  · obtain ⟨u, rfl, r1⟩ := vals1 r
    cases r1
    exact call_int_bool ⟨.int (if k then 1 else 0), H, I.tok _, ⟨_, rfl⟩, q⟩
theorem call_str_int : CallR X (.type "str") (fun xs H Q => ∃ i, xs = [.int i] ∧ i.natAbs.log2 < 1920 ∧ Q (.str (toString i)) H) := by
  intro pins s σ H xs us Q I r h
  obtain ⟨i, rfl, hz, q⟩ := h
  obtain ⟨u, rfl, t, rfl⟩ := vals1 r
  exact PySem.P.str_of_int hz ⟨.str _, H, I.tok _, ⟨_, rfl⟩, q⟩
end
end L2

namespace L2
open PySem PySem.Spec PyProof.Rows

/-! ### an instance, its attributes a map -/
structure ObjM (h : Heap) (x dx C : Addr) (mA : Str → Option Value) : Prop where
  obj : h.get? x = some (PySem.W.instObj C dx)
  ns : h.Ns1 dx mA
  ne : dx ≠ x

theorem lookIn_ns {h : Heap} {dx : Addr} {mA : Str → Option Value} (n : h.Ns1 dx mA) : ∃ od, h.get? dx = some od ∧ ∀ name, PySem.W.lookIn name od = some (mA name) := by
  obtain ⟨o, es, ep, ho, hd, hk, _, hm⟩ := n
  refine ⟨o, ho, fun name => ?_⟩
  have e := hm name
  unfold nsFind findBy at e
  rw [← Array.find?_toList] at e
  unfold PySem.W.lookIn
  rw [hd]
  dsimp only
  split
  · rename_i y q
    rw [q] at e
    exact congrArg some e
  · rename_i q
    rw [q] at e
    have a : es.toList.any (·.refKey) = false := by
      rw [List.any_eq_false]
      intro y hy
      obtain ⟨z, t, hkey⟩ := hk y (Array.mem_toList_iff.mp hy)
      simp [DictEntry.refKey, hkey]
    have a' : ¬ es.toList.any (·.refKey) = true := by rw [a]; exact Bool.false_ne_true
    rw [if_neg a']
    exact congrArg some e

theorem ObjM.look {h : Heap} {x dx C : Addr} {mA : Str → Option Value} (I : ObjM h x dx C mA) : ∃ od, PySem.W.InstAt h x (PySem.W.instObj C dx) C (some od) ∧ ∀ name, PySem.W.lookIn name od = some (mA name) :=
  let ⟨od, ho, hl⟩ := lookIn_ns I.ns
  ⟨od, ⟨I.obj, rfl, rfl, ho⟩, hl⟩

section
variable {prog : Program} {w : World} {A : Around} {E : Value → Shared → Prop} {s : Shared} {K : PySem.W.Frag} {x dx C f : Addr} {mA : Str → Option Value} {name : Str} {v : Value}

theorem get_map {expr : Bool} {Q : Value → Shared → Prop} (X : K.In s.heap) (I : ObjM s.heap x dx C mA) (hg : PySem.W.plainGet K C name = true) (hh : PySem.W.hasDictIn K C = true)
    (ha : PySem.W.findIn K (.ref C) name = some none) (hv : mA name = some v) (hv' : PySem.W.handedIn v = true) (h : Q v { s with toks := s.toks + 1 }) :
    wpAny (model prog w) A (getAttr (.ref x) name expr) Q E s := by
  obtain ⟨od, J, hl⟩ := I.look
  exact PySem.W.get_value X J (PySem.W.plainGet_of hg).1 (PySem.W.findObj_own hh ha rfl (by rw [hl, hv])) hv' h



theorem set_map {ns : List Str} {Q : Unit → Shared → Prop} (X : K.In s.heap) (I : ObjM s.heap x dx C mA)
    (hs : PySem.W.findIn K (.ref C) "__setattr__" = some (some (.builtin "object.__setattr__"))) (hp : PySem.W.plainOver K C = true) (ht : PySem.W.takerIn K C name = some none) (hh : PySem.W.hasDictIn K C = true)
    (hw : PySem.Within mA ns) (hsz : ns.length ≤ sizeLine)
    (h : ∀ h', ObjM h' x dx C (fun y => if y = name then some v else mA y) → Heap.SameBut dx s.heap h' → Q () { s with heap := h', toks := s.toks + 2 }) :
    wpAny (model prog w) A (setAttr (.ref x) name v) Q E s := by
  obtain ⟨od, J, hl⟩ := I.look
  refine PySem.W.set_plain X J hs (PySem.W.osa_open (s := { s with toks := s.toks + 1 }) (r := none) X J hp ht fun b => ?_)
  obtain ⟨cd, hc, hd'⟩ := PySem.W.any_some hh
  have hx : s.heap.get? x = some ⟨.ref C, some dx, .plain, #[]⟩ := I.obj
  refine wpAny_bind (wpAny_pure (wpAny_bind (wpAny_bind (wpAny_loadPart hx (wpAny_bind (PySem.W.Looks.here (s := { s with toks := s.toks + 1 }) (PySem.W.looks_clsIn X hc) ?_))))))
  rw [hd']
  refine wpAny_pure (a := some dx) (wpAny_bind (wpAny_pure (wpAny_bind ?_)))
  refine wpAny_nsSet1 (s := { s with toks := s.toks + 1 }) I.ns fun h' hn2 hs2 => ?_
  obtain ⟨oD, esD, epD, hoD, hdD, hcD⟩ := hn2.count (PySem.Within.cons name v hw)
  refine wpAny_bind (wpAny_lookBehind hoD (by rw [hdD]; exact pastItsLine_dict (Nat.le_trans hcD (by rw [List.length_cons]; omega))) ?_)
  exact wpAny_pure (h _ ⟨(hs2.2 _ (Ne.symm I.ne)).trans I.obj, hn2, I.ne⟩ hs2)

/-- C(..): the dict at the heap's end, the instance behind it; then its __init__ -/
theorem make_map {R : Result → Shared → Prop} {vs : List Value} {kw : List (Str × Value)} (X : K.In s.heap) (hm : PySem.W.makesIn K C = true)
    (hi : PySem.W.findIn K (.ref C) "__init__" = some (some (.ref f))) (hf : PySem.W.typeIn K (.ref f) = some (.type "function"))
    (h : codeAny (model prog w) (A.under (.builtin "type.__call__" ⟨.ref C :: vs, kw⟩)) (.call (.ref f) ⟨.ref (s.heap.objs.size + 1) :: vs, kw⟩) (PySem.W.InitBack (s.heap.objs.size + 1) R)
      { s with heap := (s.heap.push PySem.W.emptyDict).push (PySem.W.instObj C s.heap.objs.size) }) :
    codeAny (model prog w) A (.call (.ref C) ⟨vs, kw⟩) R s := by
  obtain ⟨hh, g, d, t, os⟩ := s
  exact PySem.W.make_core (PySem.W.makes_of X hm) (PySem.W.looks_findIn X hi) (fun self => PySem.W.bind_fn X self hf) (.inl rfl) h
end

/-! ### the attributes as a list of pairs -/
def putF (f : Str) (v : V) : List (Str × V) → List (Str × V)
  | [] => [(f, v)]
  | (g, x) :: r => if g = f then (g, v) :: r else (g, x) :: putF f v r
theorem lookup_putF (f g : Str) (v : V) : ∀ fs : List (Str × V), (putF f v fs).lookup g = if g = f then some v else fs.lookup g
  | [] => by
    show List.lookup g [(f, v)] = _
    by_cases h : g = f
    · have hb : (g == f) = true := beq_iff_eq.mpr h
      simp only [List.lookup, hb, if_pos h]
    · have hb : (g == f) = false := beq_eq_false_iff_ne.mpr h
      simp only [List.lookup, hb, if_neg h]
  | (k, x) :: r => by
    have ih := lookup_putF f g v r
    rw [show putF f v ((k, x) :: r) = (if k = f then (k, v) :: r else (k, x) :: putF f v r) from rfl]
    by_cases hk : k = f
    · rw [if_pos hk]
      by_cases h : g = k
      · have hb : (g == k) = true := beq_iff_eq.mpr h
        simp only [List.lookup, hb, if_pos (h.trans hk)]
      · have hb : (g == k) = false := beq_eq_false_iff_ne.mpr h
        simp only [List.lookup, hb, if_neg (fun e : g = f => h (e.trans hk.symm))]
    · rw [if_neg hk]
      by_cases h : g = k
      · have hb : (g == k) = true := beq_iff_eq.mpr h
        simp only [List.lookup, hb, if_neg (fun e : g = f => hk (h.symm.trans e))]
      · have hb : (g == k) = false := beq_eq_false_iff_ne.mpr h
        simp only [List.lookup, hb]
        exact ih
theorem keys_putF (f : Str) (v : V) : ∀ fs : List (Str × V), f ∈ (putF f v fs).map (·.1) ∧ ∀ g, g ∈ fs.map (·.1) → g ∈ (putF f v fs).map (·.1)
  | [] => ⟨by simp [putF], fun g h => by simp at h⟩
  | (k, x) :: r => by
    obtain ⟨i1, i2⟩ := keys_putF f v r
    rw [show putF f v ((k, x) :: r) = (if k = f then (k, v) :: r else (k, x) :: putF f v r) from rfl]
    by_cases hk : k = f
    · rw [if_pos hk]
      subst hk
      exact ⟨by simp, fun g h => by simpa using h⟩
    · rw [if_neg hk]
      refine ⟨?_, fun g h => ?_⟩
      · rw [List.map_cons]
        exact List.mem_cons_of_mem _ i1
      · rw [List.map_cons] at h ⊢
        rcases List.mem_cons.mp h with e | e
        · exact List.mem_cons.mpr (.inl e)
        · exact List.mem_cons_of_mem _ (i2 g e)
theorem length_putF (f : Str) (v : V) : ∀ fs : List (Str × V), (putF f v fs).length ≤ fs.length + 1
  | [] => by simp [putF]
  | (k, x) :: r => by
    have ih := length_putF f v r
    rw [show putF f v ((k, x) :: r) = (if k = f then (k, v) :: r else (k, x) :: putF f v r) from rfl]
    by_cases hk : k = f
    · rw [if_pos hk, List.length_cons, List.length_cons]; omega
    · rw [if_neg hk, List.length_cons, List.length_cons]; omega

theorem RelO.some_of {v : V} {o : Option Value} (r : RelO (some v) o) : ∃ u, o = some u ∧ RelV v u := by
  cases o with
  | none => exact (show False from r).elim
  | some u => exact ⟨u, rfl, r⟩
theorem handed_of {v : V} {u : Value} (r : RelV v u) : PySem.W.handedIn u = true := by
  cases v with
  | non => cases (show u = Value.none from r); rfl
  | bl b => cases (show u = Value.bool b from r); rfl
  | int i => obtain ⟨t, e⟩ := (show ∃ t, u = Value.int i t from r); cases e; rfl
  | str x => obtain ⟨t, e⟩ := (show ∃ t, u = Value.str x t from r); cases e; rfl
  | byt b => obtain ⟨t, e⟩ := (show ∃ t, u = Value.bytes b t from r); cases e; rfl
  | flt b => obtain ⟨t, e⟩ := (show ∃ t, u = Value.float b t from r); cases e; rfl
  | ref a => cases (show u = Value.ref a from r); rfl
  | ty n => cases (show u = Value.type n from r); rfl

section
variable {P : Program} {w : World} {H H' : Hp} {h h' : Heap} {a C dx : Addr} {fs fs' : List (Str × V)}
theorem ins_get (hok : HOk P w H h) (e : H a = some (.ins C dx fs)) : ∃ mA, ObjM h a dx C mA ∧ (∀ f, RelO (fs.lookup f) (mA f)) ∧ PySem.Within mA (fs.map (·.1)) ∧ fs.length ≤ 1000 ∧ H dx = some (.own a) := by
  obtain ⟨d, z, ne, ob, mA, n, r, q⟩ := (show ObjOk P w H h a (.ins C dx fs) from hok a _ e)
  exact ⟨mA, ⟨ob, n, ne⟩, r, q, z, d⟩
end

/-! ### what of the text a class must have -/
structure Cls (K : PySem.W.Frag) (C : Addr) : Prop where
  pg : PySem.W.plainGet K C Str.empty = true
  hd : PySem.W.hasDictIn K C = true
  po : PySem.W.plainOver K C = true
  sa : PySem.W.findIn K (.ref C) "__setattr__" = some (some (.builtin "object.__setattr__"))
theorem Cls.get {K : PySem.W.Frag} {C : Addr} (c : Cls K C) (f : Str) : PySem.W.plainGet K C f = true := c.pg
/-- no class of it has the name -/
def NoAttr (K : PySem.W.Frag) (C : Addr) (f : Str) : Prop := PySem.W.findIn K (.ref C) f = some none
theorem NoAttr.taker {K : PySem.W.Frag} {C : Addr} {f : Str} (n : NoAttr K C f) : PySem.W.takerIn K C f = some none := by
  unfold PySem.W.takerIn
  rw [show PySem.W.findIn K (.ref C) f = some none from n]
  rfl

section
variable {X : Cx} {pins : List (Addr × Obj)} {σ : St} {H : Hp} {s : Shared} {a C dx : Addr} {fs : List (Str × V)} {f : Str} {v : V} {A : Around} {E : Value → Shared → Prop}

theorem getattr_ok {b : Bool} {Q : Value → Shared → Prop} (I : Inv X pins σ H s) (e : H a = some (.ins C dx fs)) (c : Cls X.K C) (n : NoAttr X.K C f) (l : fs.lookup f = some v)
    (h : ∀ u s', Inv X pins σ H s' → RelV v u → Q u s') : wpAny (model X.prog X.w) A (getAttr (.ref a) f b) Q E s := by
  obtain ⟨mA, O, r, _, _, _⟩ := ins_get I.hok e
  obtain ⟨u, hu, ru⟩ := RelO.some_of (v := v) (o := mA f) (by rw [← l]; exact r f)
  exact get_map I.kIn O (c.get f) c.hd n hu (handed_of ru) (h u _ (I.tok _) ru)



theorem setattr_ok {y : V} {u : Value} {Q : Unit → Shared → Prop} (I : Inv X pins σ H s) (e : H a = some (.ins C dx fs)) (c : Cls X.K C) (n : NoAttr X.K C f) (hl : fs.length < 1000) (ry : RelV y u)
    (h : ∀ s', Inv X pins σ (upd H a (.ins C dx (putF f y fs))) s' → Q () s') : wpAny (model X.prog X.w) A (setAttr (.ref a) f u) Q E s := by
  obtain ⟨mA, O, r, wi, _, ho⟩ := ins_get I.hok e
  have hz : (fs.map (·.1)).length ≤ sizeLine := by rw [List.length_map, sizeLine_eq]; omega
  refine set_map I.kIn O c.sa c.po n.taker c.hd wi hz fun h' O' sb => h _ ?_
  have hd : ∃ o, h'.get? dx = some o := let ⟨o, _, _, e', _⟩ := O'.ns; ⟨o, e'⟩
  refine I.write (x := a) (e := dx) (by rw [e]; exact True.intro) (.inr ho) (fun b q hb z => (sb.2 b hb).trans z) hd ?_
  refine ⟨by rw [upd_ne O.ne]; exact ho, ?_, O.ne, O'.obj, _, O'.ns, fun g => ?_, fun g hg => ?_⟩
  · have := length_putF f y fs; omega
  · show RelO ((putF f y fs).lookup g) (if g = f then some u else mA g)
    rw [lookup_putF]
    by_cases q : g = f
    · rw [if_pos q, if_pos q]; exact ry
    · rw [if_neg q, if_neg q]; exact r g
  · by_cases q : g = f
    · rw [q]; exact (keys_putF f y fs).1
    · refine (keys_putF f y fs).2 g (wi g fun z => hg ?_)
      show (if g = f then some u else mA g) = none
      rw [if_neg q]; exact z

/-- a new instance, tracked, without attributes -/
theorem Inv.made (I : Inv X pins σ H s) : Inv X pins σ (upd (upd H s.heap.objs.size (.own (s.heap.objs.size + 1))) (s.heap.objs.size + 1) (.ins C s.heap.objs.size []))
    { s with heap := (s.heap.push PySem.W.emptyDict).push (PySem.W.instObj C s.heap.objs.size) } := by
  have e1 : (s.heap.push PySem.W.emptyDict).get? s.heap.objs.size = some PySem.W.emptyDict := Heap.get?_push_size s.heap rfl
  have e2 : ((s.heap.push PySem.W.emptyDict).push (PySem.W.instObj C s.heap.objs.size)).get? (s.heap.objs.size + 1) = some (PySem.W.instObj C s.heap.objs.size) := by
    have := Heap.get?_push_size (s.heap.push PySem.W.emptyDict) (o := PySem.W.instObj C s.heap.objs.size) rfl
    rwa [Heap.size_push] at this
  have e3 : (s.heap.push PySem.W.emptyDict).Ns s.heap.objs.size (fun _ => none) := ⟨PySem.W.emptyDict, #[], _, e1, rfl, (fun e he => absurd he (by simp)), fun _ => rfl⟩
  have I1 := I.laid (a := s.heap.objs.size) (o := .own (s.heap.objs.size + 1)) (h' := s.heap.push PySem.W.emptyDict) (t' := s.toks) (fun b u q => Heap.get?_push_of_some _ q) (Nat.le_refl _) ⟨_, e1⟩
  refine I1.laid (a := s.heap.objs.size + 1) (o := .ins C s.heap.objs.size []) (t' := s.toks) (fun b u q => Heap.get?_push_of_some _ q) (Nat.le_of_eq (Heap.size_push _ _)) ?_
  have ne : s.heap.objs.size ≠ s.heap.objs.size + 1 := Nat.ne_of_lt (Nat.lt_succ_self _)
  refine ⟨by rw [upd_ne ne, upd_same], Nat.zero_le _, ne, e2, fun _ => none, (Heap.Ns1.of_empty e3).at fun o q => Heap.get?_push_of_some _ q, fun _ => True.intro, fun y hy => absurd rfl hy⟩

/-- e.f where nothing but the object is asked: through attributeBase (super) and the last hold -/
theorem attr_of {prog : Program} {w : World} {env : Env} {e : Expr} {f : Str} {pos : Pos} {s : Shared} {Q : Value → Shared → Prop} (hb : attributeBase e f env (eval e env) = eval e env)
    (h : wpAny (model prog w) A (eval e env) (fun o s₁ => wpAny (model prog w) A (getAttr o f true) Q E s₁) E s) : wpAny (model prog w) A (eval (.Attribute e f pos) env) Q E s :=
  Attribute_any_ h (by rw [arm_eval_Attribute, hb])
end

/-! ### readings and rules -/
/-- e.f, an attribute of the instance -/
def tFld (K : PySem.W.Frag) (ta : TE) (f : Str) : TE := fun σ H Q => ta σ H fun x H1 => ∃ a C dx fs v, x = .ref a ∧ H1 a = some (.ins C dx fs) ∧ Cls K C ∧ NoAttr K C f ∧ fs.lookup f = some v ∧ Q v H1
/-- e.f = value -/
def sFld (K : PySem.W.Frag) (ta tv : TE) (f : Str) : TS := fun D σ H => tv σ H fun y H1 => ta σ H1 fun x H2 => ∃ a C dx fs, x = .ref a ∧ H2 a = some (.ins C dx fs) ∧ Cls K C ∧ NoAttr K C f ∧ fs.length < 1000 ∧
  D.nx σ (upd H2 a (.ins C dx (putF f y fs)))

section
variable {X : Cx} {o e value : Expr} {f : Str} {pos pos' tpos : Pos} {ta tv : TE}
theorem pe_fld (he : PE X e ta) (hb : attributeBase e f X.env (eval e X.env) = eval e X.env) : PE X (.Attribute e f pos) (tFld X.K ta f) := by
  intro pins s σ H Q I h
  refine attr_of hb (thn (he pins s σ H _ I h) fun u s1 ⟨x, H1, I1, rx, a, C, dx, fs, v, ex, ea, c, n, l, q⟩ => ?_)
  subst ex
  obtain rfl : u = Value.ref a := rx
  exact getattr_ok I1 ea c n l fun u' s2 I2 ru => ⟨v, H1, I2, ru, q⟩
theorem ps_fld (ha : PE X o ta) (hv : PE X value tv) (hs : swapsWith value (some (.Attribute o f pos')) pos.line X.env = pure false) : PS X (.Assign [.Attribute o f pos'] value pos) (sFld X.K ta tv f) := by
  intro pins s σ H D I h
  refine plainObj_wpAny_Assign_Attribute (thn (hv pins s σ H _ I h) fun u s1 ⟨y, H1, I1, ry, q⟩ => thn (ha pins s1 σ H1 _ I1 q) fun ov s2 ⟨x, H2, I2, rx, a, C, dx, fs, ex, ea, c, n, l, q2⟩ => ?_) hs
  subst ex
  obtain rfl : ov = Value.ref a := rx
  exact setattr_ok I2 ea c n l ry fun s3 I3 => ⟨σ, _, I3, q2⟩

end

/-! ### isinstance -/
section
variable {X : Cx} {pins : List (Addr × Obj)} {σ : St} {H : Hp} {s : Shared} {A : Around} {E : Value → Shared → Prop} {Q : Value → Shared → Prop} {c : Value} {b : Bool}
end
end L2

namespace L2
open PySem PySem.Spec PyProof.Rows

/-! ### room -/
structure Room (k : Nat) (A : Around) : Prop where
  hd : A.handled = none
  dp : A.depth + 3 * k + 5 < recursionLimit
  un : A.units + 16 * k + 200 < cLine
  gd : A.guards = some []
theorem Room.mono {j k : Nat} {A : Around} (r : Room k A) (h : j ≤ k) : Room j A := ⟨r.hd, by have := r.dp; omega, by have := r.un; omega, r.gd⟩
theorem Room.deeper {k : Nat} {A : Around} (r : Room (k + 1) A) (env : Env) : Room k (A.deeper env) :=
  ⟨r.hd, by have := r.dp; show A.depth + 1 + 3 * k + 5 < _; omega, by have := r.un; show A.units + 3 + 16 * k + 200 < _; omega, r.gd⟩
theorem make_depth {A : Around} {C : Addr} {us : List Value} {kw : List (Str × Value)} : (A.under (.builtin "type.__call__" ⟨.ref C :: us, kw⟩)).depth = A.depth + 1 := by
  first | rfl | simp [Around.under, Code.weight, Code.isCreation, Code.isGuard, Code.isCaller, Code.frames, Code.isFrame, guardIds]
theorem make_units {A : Around} {C : Addr} {us : List Value} {kw : List (Str × Value)} : (A.under (.builtin "type.__call__" ⟨.ref C :: us, kw⟩)).units = A.units + 1 := by
  first | rfl | simp [Around.under, Code.cUnits, Code.frames, Code.isFrame]
theorem Room.make {k : Nat} {A : Around} (r : Room (k + 1) A) (C : Addr) (us : List Value) (kw : List (Str × Value)) : Room k (A.under (.builtin "type.__call__" ⟨.ref C :: us, kw⟩)) :=
  ⟨r.hd, by have := r.dp; rw [make_depth]; omega, by have := r.un; rw [make_units]; omega, r.gd⟩
theorem Room.depth {k : Nat} {A : Around} (r : Room k A) : A.depth < recursionLimit := by have := r.dp; omega
theorem Room.units {k : Nat} {A : Around} (r : Room k A) : A.units + 64 < cLine := by have := r.un; omega

/-! ### argument lists and displays -/
def tNil : TA := fun _ H Q => Q [] H
def tCons (ta : TE) (tr : TA) : TA := fun σ H Q => ta σ H fun x H1 => tr σ H1 fun xs H2 => Q (x :: xs) H2
section
variable {X : Cx} {e : Expr} {es : List Expr} {te : TE} {t : TA} {pos : Pos}
theorem pa_nil : PA X [] tNil := fun _ _ _ _ H Q I h => Calls.spliced_nil ⟨[], H, I, .nil, h⟩
theorem pa_cons (ha : PE X e te) (hr : PA X es t) (hs : starEach (e :: es) X.env = (false, eval e X.env) :: starEach es X.env := by rfl) : PA X (e :: es) (tCons te t) := by
  intro pos pins s σ H Q I h
  rw [hs]
  show wpAny _ _ (spliced ((false, eval e X.env) :: backTo pos (starEach es X.env))) _ _ s
  refine Calls.spliced_cons (thn (ha pins s σ H _ I h) fun u s1 ⟨x, H1, I1, r1, q1⟩ => ?_)
  exact thn (hr pos pins s1 σ H1 _ I1 q1) fun us s2 ⟨xs, H2, I2, r2, q2⟩ => ⟨x :: xs, H2, I2, .cons r1 r2, q2⟩

/-- a tuple, a list of written items -/
def tTup (t : TA) : TE := fun σ H Q => t σ H fun xs H1 => xs.length ≤ sizeLine ∧ ∀ p, H1 p = none → Q (.ref p) (upd H1 p (.tup xs))
def tLst (t : TA) : TE := fun σ H Q => t σ H fun xs H1 => xs.length ≤ sizeLine ∧ ∀ p, H1 p = none → Q (.ref p) (upd H1 p (.lst xs))
theorem pe_tup {x1} (h : PA X es t) : PE X (.Tuple es x1 pos) (tTup t) := by
  intro pins s σ H Q I hq
  refine wpAny_Tuple_spliced (thn (h pos pins s σ H _ I hq) fun us s1 ⟨xs, H1, I1, r, z, q⟩ => ⟨by rw [← r.length]; exact z, ?_⟩)
  have hf : H1 s1.heap.objs.size = none := I1.hok.fresh (Nat.le_refl _)
  refine ⟨.ref s1.heap.objs.size, upd H1 s1.heap.objs.size (.tup xs), I1.laid (t' := s1.toks) (fun b u e => Heap.get?_push_of_some _ e) (Nat.le_refl _) ?_, rfl, q _ hf⟩
  exact ⟨z, us, r, ⟨_, Heap.get?_push_size _ rfl, rfl, _, rfl⟩⟩
theorem pe_lst (h : PA X es t) : PE X (.List es pos) (tLst t) := by
  intro pins s σ H Q I hq
  refine wpAny_List_spliced (thn (h pos pins s σ H _ I hq) fun us s1 ⟨xs, H1, I1, r, z, q⟩ => ⟨by rw [← r.length]; exact z, ?_⟩)
  have hf : H1 s1.heap.objs.size = none := I1.hok.fresh (Nat.le_refl _)
  refine ⟨.ref s1.heap.objs.size, upd H1 s1.heap.objs.size (.lst xs), I1.laid (t' := s1.toks) (fun b u e => Heap.get?_push_of_some _ e) (Nat.le_refl _) ?_, rfl, q _ hf⟩
  exact ⟨z, us, 0, r, Heap.get?_push_size _ rfl⟩
end

/-! ### what a def promises -/
/-- a def's promise: the bound arguments in the parameters' order, the heap, the wanted end, the wanted exception -/
abbrev Sp := List V → Hp → VK → XK → Prop
/-- how an exception lies behind a call (file 08 gives it): the callers' frames, abstract heap and state ahead of the call, the wish, the exception, the state -/
abbrev CXT := List Env → Hp → Shared → XK → Value → Shared → Prop

/-- the state at a call -/
structure Env0 (P : Program) (w : World) (K : PySem.W.Frag) (mg : Str → Option Value) (base : Heap) (A : Around) (outer : List Env) (s : Shared) (H : Hp) : Prop where
  frames : A.frames = some outer
  mod : Mod K mg base
  bs : ∀ b o, base.get? b = some o → s.heap.get? b = some o ∧ H b = none
  bsz : base.objs.size ≤ s.heap.objs.size
  funs : s.heap.FunFrames base outer
  frf : ∀ b ∈ frs outer, H b = none
  hok : HOk P w H s.heap
  bare : AllBare s.gens
/-- a call's end -/
def CE (outer : List Env) (P : Program) (w : World) (H : Hp) (s : Shared) (Q : VK) (u : Value) (s' : Shared) : Prop :=
  ∃ v H', s'.os = s.os ∧ AllBare s'.gens ∧ Un (frs outer) [] H H' s.heap s'.heap ∧ HOk P w H' s'.heap ∧ RelV v u ∧ Q v H'
def CR (CX : CXT) (outer : List Env) (P : Program) (w : World) (H : Hp) (s : Shared) (Q : VK) (E : XK) (r : Result) (s' : Shared) : Prop :=
  match r with
  | .ok (.ret u) => CE outer P w H s Q u s'
  | .ok _ => False
  | .error e => CX outer H s E e s'
structure FnOk (P : Program) (w : World) (K : PySem.W.Frag) (mg : Str → Option Value) (base : Heap) (CX : CXT) (k : Nat) (f : Addr) (fd : FuncData) (ps : List Str) (sp : Sp) : Prop where
  len : ∀ vs H Q E, sp vs H Q E → vs.length = ps.length
  run : ∀ (A : Around) (outer : List Env) (s : Shared) (H : Hp) (args : Args) (us : List Value) (vs : List V) (Q : VK) (E : XK), Room k A → Env0 P w K mg base A outer s H → BindsTo s fd args (ps.zip us) → Vals vs us → sp vs H Q E →
    codeAny (model P w) A (.call (.ref f) args) (CR CX outer P w H s Q E) s
theorem FnOk.mono {P : Program} {w : World} {K : PySem.W.Frag} {mg : Str → Option Value} {base : Heap} {CX : CXT} {j k : Nat} {f : Addr} {fd : FuncData} {ps : List Str} {sp : Sp} (F : FnOk P w K mg base CX j f fd ps sp) (h : j ≤ k) :
    FnOk P w K mg base CX k f fd ps sp := ⟨F.len, fun A outer s H args us vs Q E hr => F.run A outer s H args us vs Q E (hr.mono h)⟩

theorem Env0.make {P : Program} {w : World} {K : PySem.W.Frag} {mg : Str → Option Value} {base : Heap} {A : Around} {outer : List Env} {s : Shared} {H : Hp} (e : Env0 P w K mg base A outer s H) (C : Addr) (us : List Value) (kw : List (Str × Value)) :
    Env0 P w K mg base (A.under (.builtin "type.__call__" ⟨.ref C :: us, kw⟩)) outer s H := ⟨by first | exact e.frames | (simpa [Around.under, Code.envs, Code.isFrame, pushEnvs] using e.frames), e.mod, e.bs, e.bsz, e.funs, e.frf, e.hok, e.bare⟩

section
variable {X : Cx} {pins : List (Addr × Obj)} {σ : St} {H : Hp} {s s' : Shared}
/-- from a body: what a callee wants -/
theorem Inv.env0 (I : Inv X pins σ H s) : Env0 X.prog X.w X.K X.mg X.base X.A X.stack s H :=
  ⟨I.ok.frames, I.ok.mod, I.bs, Nat.le_trans I.ok.bsz I.sz, I.stack, I.stkFree, I.hok, I.bare⟩
/-- behind a call -/
theorem Inv.after {Q : VK} {u : Value} (I : Inv X pins σ H s) (h : CE X.stack X.prog X.w H s Q u s') : EP X pins σ Q u s' := by
  obtain ⟨v, H', os, bare, un, hok, r, q⟩ := h
  obtain ⟨hh, g, d, t, os'⟩ := s'
  obtain rfl : os' = s.os := os
  exact ⟨v, H', I.call (h' := hh) (g' := g) (d' := d) (t' := t) (ch := []) un hok bare (fun b z => absurd z (by simp)), r, q⟩
end

/-! ### calls -/
/-- f(..): the written arguments, then the defaults dvs; E: what is wanted of an exception -/
def tCall (sp : Sp) (dvs : List V) (E : XK) (t : TA) : TE := fun σ H Q => t σ H fun vs H1 => sp (vs ++ dvs) H1 Q E
/-- C(..): a new instance and its dict, then __init__ -/
def tMake (C : Addr) (sp : Sp) (dvs : List V) (E : XK) (t : TA) : TE := fun σ H Q => t σ H fun vs H1 => ∀ x dx, H1 x = none → H1 dx = none → dx ≠ x →
  sp (.ref x :: (vs ++ dvs)) (upd (upd H1 dx (.own x)) x (.ins C dx [])) (fun v H2 => v = .non ∧ Q (.ref x) H2) E

/-- how the parameters are bound: us the positional arguments, kw the keywords' values by name, ds the defaults that fill up -/
def Binds (K : PySem.W.Frag) (fd : FuncData) (ps : List Str) (ds : List Value) : Prop :=
  ∀ (s : Shared) (us : List Value), K.In s.heap → (us ++ ds).length = ps.length → BindsTo s fd ⟨us, []⟩ (ps.zip (us ++ ds))
/-- every parameter is given -/
theorem Binds.all {K : PySem.W.Frag} {fd : FuncData} {ps : List Str} (h : ∀ us : List Value, us.length = ps.length → bindArgs fd ⟨us, []⟩ = pure (ps.zip us)) : Binds K fd ps [] := fun s us _ hl => by
  rw [List.append_nil] at hl ⊢
  exact .of_eq (h us hl)

/-- an exception of a callee reaches what this body wants of exceptions -/
def Passes (CX : CXT) (X : Cx) (E : XK) : Prop := ∀ (pins : List (Addr × Obj)) (σ : St) (H : Hp) (s : Shared) (e : Value) (s' : Shared), Inv X pins σ H s → CX X.stack H s E e s' → X.xe e s'

section
variable {X : Cx} {CX : CXT} {k : Nat} {f C : Addr} {fd : FuncData} {ps : List Str} {sp : Sp} {dvs : List V} {ds : List Value} {E : XK} {x m : Str} {p pos apos : Pos} {e o : Expr} {es : List Expr} {ta : TE} {t : TA}

/-- the callee runs -/
theorem run_fn {pins : List (Addr × Obj)} {σ : St} {H : Hp} {s : Shared} {Q : VK} {us : List Value} {vs : List V} (F : FnOk X.prog X.w X.K X.mg X.base CX k f fd ps sp) (hr : Room k X.A) (hb : Binds X.K fd ps ds) (hd : Vals dvs ds) (hx : Passes CX X E)
    (I : Inv X pins σ H s) (r : Vals vs us) (h : sp (vs ++ dvs) H Q E) : wpAny (model X.prog X.w) X.A (call (.ref f) us) (EP X pins σ Q) X.xe s := by
  have r2 : Vals (vs ++ dvs) (us ++ ds) := r.append hd
  have hl : (us ++ ds).length = ps.length := by rw [← r2.length]; exact F.len _ _ _ _ h
  refine wpAny_call (codeAny_mono (F.run X.A X.stack s H ⟨us, []⟩ (us ++ ds) (vs ++ dvs) Q E hr I.env0 (hb s us I.kIn hl) r2 h) fun r s' hq => ?_)
  cases r with
  | error e => exact hx pins σ H s e s' I hq
  | ok fl =>
    cases fl with
    | ret u => exact I.after hq
    | next => exact False.elim hq
    | brk => exact False.elim hq
    | cont => exact False.elim hq

theorem pe_call (F : FnOk X.prog X.w X.K X.mg X.base CX k f fd ps sp) (hr : Room k X.A) (hg : Gl X x) (hm : X.mg x = some (.ref f)) (hk : PySem.W.keepIn X.K (.ref f) = true) (hb : Binds X.K fd ps ds) (hd : Vals dvs ds) (hx : Passes CX X E)
    (ha : PA X (e :: es) t) (hdb : (x == ("__debug__" : Str)) = false := by decide) (he : starEach (e :: es) X.env = (false, eval e X.env) :: starEach es X.env := by rfl) (hpl : (backTo pos (starEach es X.env)).any (·.1) = false := by rfl) :
    PE X (.Call (.Name x p) (e :: es) [] pos) (tCall sp dvs E t) := by
  intro pins s σ H Q I h
  refine wpAny_Call_Name_kw (ld_glob I hg hm ?_ hdb)
  refine PySem.W.callWith_K (h₀ := X.base) I.ok.mod.kin hk (thn (ha pos pins s σ H _ I h) fun us s1 ⟨vs, H1, I1, r, q⟩ => ⟨I1.kIn, ?_⟩) he hpl
  exact run_fn F hr hb hd hx I1 r q
theorem pe_call0 (F : FnOk X.prog X.w X.K X.mg X.base CX k f fd ps sp) (hr : Room k X.A) (hg : Gl X x) (hm : X.mg x = some (.ref f)) (hk : PySem.W.keepIn X.K (.ref f) = true) (hb : Binds X.K fd ps ds) (hd : Vals dvs ds) (hx : Passes CX X E)
    (hdb : (x == ("__debug__" : Str)) = false := by decide) : PE X (.Call (.Name x p) [] [] pos) (tCall sp dvs E tNil) := by
  intro pins s σ H Q I h
  refine wpAny_Call_Name_kw (ld_glob I hg hm ?_ hdb)
  exact PySem.W.callWith_K0 I.kIn hk (run_fn (us := []) F hr hb hd hx I .nil h)


/-- what a class must have to be made -/
structure Mk (K : PySem.W.Frag) (C f : Addr) : Prop where
  makes : PySem.W.makesIn K C = true
  init : PySem.W.findIn K (.ref C) "__init__" = some (some (.ref f))
  fn : PySem.W.isFn K (.ref f) = true
  kp : PySem.W.keepIn K (.ref C) = true

theorem run_make {pins : List (Addr × Obj)} {σ : St} {H : Hp} {s : Shared} {Q : VK} {us : List Value} {vs : List V} (M : Mk X.K C f) (F : FnOk X.prog X.w X.K X.mg X.base CX k f fd ps sp) (hr : Room (k + 1) X.A) (hb : Binds X.K fd ps ds) (hd : Vals dvs ds)
    (hx : Passes CX X E) (I : Inv X pins σ H s) (r : Vals vs us)
    (h : ∀ x dx, H x = none → H dx = none → dx ≠ x → sp (.ref x :: (vs ++ dvs)) (upd (upd H dx (.own x)) x (.ins C dx [])) (fun v H2 => v = .non ∧ Q (.ref x) H2) E) :
    wpAny (model X.prog X.w) X.A (call (.ref C) us) (EP X pins σ Q) X.xe s := by
  have hq := h (s.heap.objs.size + 1) s.heap.objs.size (I.hok.fresh (Nat.le_succ _)) (I.hok.fresh (Nat.le_refl _)) (Nat.ne_of_lt (Nat.lt_succ_self _))
  have I2 := Inv.made (C := C) I
  have r2 : Vals (V.ref (s.heap.objs.size + 1) :: (vs ++ dvs)) (Value.ref (s.heap.objs.size + 1) :: (us ++ ds)) := .cons rfl (r.append hd)
  have hl : (Value.ref (s.heap.objs.size + 1) :: us ++ ds).length = ps.length := by
    have e := r2.length
    rw [F.len _ _ _ _ hq] at e
    exact e.symm
  refine wpAny_call (make_map (f := f) I.kIn M.makes M.init (beq_iff_eq.mp M.fn) (codeAny_mono (F.run _ X.stack _ _ ⟨Value.ref (s.heap.objs.size + 1) :: us, []⟩ (Value.ref (s.heap.objs.size + 1) :: (us ++ ds)) _ _ E (hr.make C us [])
    (I2.env0.make C us []) (hb _ (Value.ref (s.heap.objs.size + 1) :: us) I2.kIn hl) r2 hq) fun r s' hq' => ?_))
  cases r with
  | error e => exact hx pins σ _ _ e s' I2 hq'
  | ok fl =>
    cases fl with
    | ret u =>
      obtain ⟨v, H', I3, rv, ev, q3⟩ := I2.after hq'
      subst ev
      exact ⟨rv, ⟨V.ref (s.heap.objs.size + 1), H', I3, rfl, q3⟩⟩
    | next => exact False.elim hq'
    | brk => exact False.elim hq'
    | cont => exact False.elim hq'
theorem pe_make (M : Mk X.K C f) (F : FnOk X.prog X.w X.K X.mg X.base CX k f fd ps sp) (hr : Room (k + 1) X.A) (hg : Gl X x) (hm : X.mg x = some (.ref C)) (hb : Binds X.K fd ps ds) (hd : Vals dvs ds) (hx : Passes CX X E)
    (ha : PA X (e :: es) t) (hdb : (x == ("__debug__" : Str)) = false := by decide) (he : starEach (e :: es) X.env = (false, eval e X.env) :: starEach es X.env := by rfl) (hpl : (backTo pos (starEach es X.env)).any (·.1) = false := by rfl) :
    PE X (.Call (.Name x p) (e :: es) [] pos) (tMake C sp dvs E t) := by
  intro pins s σ H Q I h
  refine wpAny_Call_Name_kw (ld_glob I hg hm ?_ hdb)
  refine PySem.W.callWith_K (h₀ := X.base) I.ok.mod.kin M.kp (thn (ha pos pins s σ H _ I h) fun us s1 ⟨vs, H1, I1, r, q⟩ => ⟨I1.kIn, ?_⟩) he hpl
  exact run_make M F hr hb hd hx I1 r q
end

/-! ### keywords -/
section
variable {X : Cx} {CX : CXT} {k : Nat} {f C : Addr} {fd : FuncData} {ps ks : List Str} {sp : Sp} {E : XK} {x m : Str} {p pos apos kpos : Pos} {e o : Expr} {es : List Expr} {kws : List Keyword} {te ta : TE} {t tk : TA} {nm : Option Str}

variable {g : List Value → List Value → List Value} {gV : List V → List V → List V}
end

/-! ### a def's body keeps its promise -/
/-- names: the parameters first -/
structure FnScope (N P : List Str) (sc : Scope) : Prop where
  kind : sc.kind = .function
  co : sc.isCoroutine = false
  gen : sc.isGenerator = false
  nd : N.Nodup
  pre : N.take P.length = P
  par : ∀ x ∈ P, sc.names.lookup x = some .local ∨ sc.names.lookup x = some .cell
  nofree : ∀ y ∈ sc.names, y.2 ≠ .free

theorem bindL_out {kindOf : Str → Option NameKind} {x : Str} : ∀ {binds : List (Str × Value)} {m : Str → Option Value}, (∀ v, (x, v) ∉ binds) → bindL kindOf binds m x = m x
  | [], _, _ => rfl
  | (n, v) :: r, m, h => by
    unfold bindL
    rw [bindL_out fun w hw => h w (List.mem_cons_of_mem _ hw)]
    split
    · have : x ≠ n := by rintro rfl; exact h v List.mem_cons_self
      simp [this]
    · rfl
theorem bindC_out {kindOf : Str → Option NameKind} {x : Str} : ∀ {binds : List (Str × Value)} {m : Str → Option Value}, (∀ v, (x, v) ∉ binds) → bindC kindOf binds m x = m x
  | [], _, _ => rfl
  | (n, v) :: r, m, h => by
    unfold bindC
    rw [bindC_out fun w hw => h w (List.mem_cons_of_mem _ hw)]
    split
    · rfl
    · have : x ≠ n := by rintro rfl; exact h v List.mem_cons_self
      simp [this]
theorem bindL_get {kindOf : Str → Option NameKind} {x : Str} {v : Value} : ∀ {P : List Str} {vs : List Value} {i : Nat} {m : Str → Option Value}, P.Nodup → P[i]? = some x → vs[i]? = some v → kindOf x = some .local →
    bindL kindOf (P.zip vs) m x = some v
  | [], _, _, _, _, h, _, _ => by simp at h
  | _ :: _, [], _, _, _, _, h, _ => by simp at h
  | p :: P, w :: vs, 0, m, nd, h1, h2, hk => by
    simp at h1 h2; subst h1; subst h2
    show bindL kindOf ((p, w) :: P.zip vs) m p = _
    unfold bindL
    rw [bindL_out fun v hv => (List.nodup_cons.mp nd).1 (List.of_mem_zip hv).1, if_pos hk]
    simp
  | p :: P, w :: vs, i + 1, m, nd, h1, h2, hk => by
    show bindL kindOf ((p, w) :: P.zip vs) m x = _
    unfold bindL
    exact bindL_get (i := i) (List.nodup_cons.mp nd).2 (by simpa using h1) (by simpa using h2) hk
theorem bindC_get {kindOf : Str → Option NameKind} {x : Str} {v : Value} : ∀ {P : List Str} {vs : List Value} {i : Nat} {m : Str → Option Value}, P.Nodup → P[i]? = some x → vs[i]? = some v → kindOf x ≠ some .local →
    bindC kindOf (P.zip vs) m x = some v
  | [], _, _, _, _, h, _, _ => by simp at h
  | _ :: _, [], _, _, _, _, h, _ => by simp at h
  | p :: P, w :: vs, 0, m, nd, h1, h2, hk => by
    simp at h1 h2; subst h1; subst h2
    show bindC kindOf ((p, w) :: P.zip vs) m p = _
    unfold bindC
    rw [bindC_out fun v hv => (List.nodup_cons.mp nd).1 (List.of_mem_zip hv).1, if_neg hk]
    simp
  | p :: P, w :: vs, i + 1, m, nd, h1, h2, hk => by
    show bindC kindOf ((p, w) :: P.zip vs) m x = _
    unfold bindC
    exact bindC_get (i := i) (List.nodup_cons.mp nd).2 (by simpa using h1) (by simpa using h2) hk

/-- the names' values at the entry -/
def start (N : List Str) (vs : List V) : St := vs.map some ++ List.replicate (N.length - vs.length) none

/-- the context of a def's body, at its entry; an exception leaves the frame, then lies as CX says -/
def cxOf (CX : CXT) (P : Program) (w : World) (K : PySem.W.Frag) (mg : Str → Option Value) (base : Heap) (N : List Str) (qual : Str) (scope : Scope) (f : Addr) (cd : Value) (A : Around) (outer : List Env) (s : Shared) (H : Hp) (E : XK) : Cx where
  prog := P
  w := w
  K := K
  mg := mg
  base := base
  A := A.deeper (envOfC qual scope s.heap.objs.size f cd)
  N := N
  s₀ := s
  H₀ := H
  env := envOfC qual scope s.heap.objs.size f cd
  outer := outer
  stack := envOfC qual scope s.heap.objs.size f cd :: outer
  ex := []
  calm := true
  fn := fun _ => true
  pn := []
  xe := fun e s' => wpAny (model P w) (A.deeper (envOfC qual scope s.heap.objs.size f cd)) (leaving (envOfC qual scope s.heap.objs.size f cd) e) (fun _ s'' => CX outer H s E e s'') (fun e' s'' => CX outer H s E e' s'') s'

theorem cell_has {sc : Scope} {n : Nat} {x : Str} (h : sc.names.lookup x = some .cell) : ∃ c, (cellsFrom n sc.names []).lookup x = some c := by
  have q := PySem.W.cellsFrom_some sc.names n [] (.inl h)
  exact Option.isSome_iff_exists.mp q

theorem inv_start {CX : CXT} {P : Program} {w : World} {K : PySem.W.Frag} {mg : Str → Option Value} {base : Heap} {N ps : List Str} {qual : Str} {scope : Scope} {f : Addr} {cd : Value} {A : Around} {outer : List Env} {s s1 : Shared} {H : Hp} {E : XK} {us : List Value} {vs : List V}
    (S : FnScope N ps scope) (hd : A.handled = none) (e0 : Env0 P w K mg base A outer s H) (hl : vs.length = ps.length) (r : Vals vs us)
    (x : InCallC s s.heap.objs.size (bindL (envOfC qual scope s.heap.objs.size f cd).kindOf (ps.zip us) fun _ => none) (cellsFrom (s.heap.objs.size + 1) scope.names []) (bindC (envOfC qual scope s.heap.objs.size f cd).kindOf (ps.zip us) fun _ => none) s1) :
    Inv (cxOf CX P w K mg base N qual scope f cd A outer s H E) [] (start N vs) H s1 := by
  have hpl : ps.length ≤ N.length := by have := congrArg List.length S.pre; rw [List.length_take] at this; omega
  obtain ⟨h1, tk, rfl, hk⟩ := x.done
  have noA : ∀ b : Addr, b ∉ (cxOf CX P w K mg base N qual scope f cd A outer s H E).ex := fun b z => absurd (show b ∈ ([] : List Addr) from z) (by simp)
  refine ⟨⟨e0.mod, S.kind, rfl, rfl, Nat.le_refl _, fun y z c h1 h2 => ?_, fun y hy => ?_, fun y c _ h => ?_, fun _ => hd, Around.frames_deeper e0.frames, .inr ⟨rfl, rfl⟩, fun b z => absurd z (noA b), e0.bs, e0.bsz, fun b _ _ => noA b, fun b z => absurd z (noA b), e0.funs, e0.frf⟩,
    rfl, e0.bare, Un.kept hk, ⟨_, x.toInCall.ns, fun i y v h1 h2 h3 => ?_⟩, fun y c h => ⟨_, x.cell y c h⟩, e0.hok.fresh (Nat.le_refl _), fun y c h => ?_, fun p hp => absurd (show p ∈ ([] : List (Addr × Obj)) from hp) (by simp), e0.hok.kept hk, ?_⟩
  · exact name_of_addr x.apart (PySem.mem_of_lookup h1) (PySem.mem_of_lookup h2)
  · have hy : scope.names.lookup y = some .cell ∨ scope.names.lookup y = some .free := hy
    rcases hy with hy | hy
    · exact cell_has hy
    · exact absurd rfl (S.nofree _ (PySem.mem_of_lookup hy))
  · exact Nat.le_of_lt (x.above y c (PySem.mem_of_lookup h))
  · have hi : i < vs.length := by
      unfold start at h2
      by_cases hi : i < vs.length
      · exact hi
      · rw [List.getElem?_append_right (by simpa using hi)] at h2
        rw [List.getElem?_replicate] at h2
        split at h2 <;> cases h2
    have ha : vs[i]? = some v := by
      unfold start at h2
      rw [List.getElem?_append_left (by simpa using hi), List.getElem?_map] at h2
      cases e : vs[i]? with
      | none => rw [e] at h2; cases h2
      | some a => rw [e] at h2; cases h2; rfl
    obtain ⟨u, hu, rv⟩ := r.get ha
    have hp : ps[i]? = some y := by
      rw [← S.pre, List.getElem?_take_of_lt (by omega)]; exact h1
    have ndP : ps.Nodup := by rw [← S.pre]; exact S.nd.sublist (List.take_sublist _ _)
    refine ⟨u, rv, ?_⟩
    rcases S.par y (List.mem_of_getElem? hp) with k | k
    · exact .inl ⟨k, bindL_get ndP hp hu k⟩
    · obtain ⟨c, e⟩ := cell_has (n := s.heap.objs.size + 1) k
      refine .inr ⟨.inl k, c, e, ?_⟩
      have q := x.cell y c e
      rw [bindC_get ndP hp hu (by show scope.names.lookup y ≠ _; rw [k]; decide)] at q
      exact q
  · exact e0.hok.fresh (Nat.le_of_lt (x.above y c (PySem.mem_of_lookup h)))
  · unfold start
    show _ = N.length
    rw [List.length_append, List.length_map, List.length_replicate]
    omega

/-- THE RULE: a def (or a method) of the text, by its body. The body's reading t is chosen for each entry; it is run at the parameters' values -/
theorem fn_of {CX : CXT} {P : Program} {w : World} {K : PySem.W.Frag} {mg : Str → Option Value} {base : Heap} {k : Nat} {f : Addr} {name qual : Str} {params : Arguments} {body : List Stmt} {scope : Scope} {dV kV doc pm cdv ct oc : Value} {an od : Option Addr}
    {osl : Array (Option Value)} {N ps : List Str} {sp : Sp} (lk : K.lookup f = some ⟨oc, od, .func (PySem.W.fnOf name qual params body scope dV kV doc pm an cdv ct), osl⟩) (hcd : PySem.W.codeIn K cdv qual = true) (S : FnScope N ps scope)
    (len : ∀ vs H Q E, sp vs H Q E → vs.length = ps.length)
    (hbody : ∀ (A : Around) (outer : List Env) (s : Shared) (H : Hp) (vs : List V) (Q : VK) (E : XK), Room k (A.deeper (envOfC qual scope s.heap.objs.size f cdv)) → sp vs H Q E →
      ∃ t, PSs (cxOf CX P w K mg base N qual scope f cdv A outer s H E) body t ∧ t { nx := fun _ H' => Q .non H', rt := Q } (start N vs) H) :
    FnOk P w K mg base CX (k + 1) f (PySem.W.fnOf name qual params body scope dV kV doc pm an cdv ct) ps sp := by
  refine ⟨len, fun A outer s H args us vs Q E hr e0 hb r hsp => ?_⟩
  have hl := len _ _ _ _ hsp
  have KX : K.In s.heap := e0.mod.kin.keeps fun b o e => (e0.bs b o e).1
  have lim : s.heap.NoLimit := e0.mod.nolimit.keeps fun b o e => (e0.bs b o e).1
  have hkind : ∀ y ∈ ps.zip us, scope.names.lookup y.1 = some .local ∨ (scope.names.lookup y.1 = some .cell ∧ ((cellsFrom (s.heap.objs.size + 1) scope.names []).lookup y.1).isSome = true) := fun ⟨n, v⟩ hy => by
    rcases S.par n (List.of_mem_zip hy).1 with q | q
    · exact .inl q
    · exact .inr ⟨q, PySem.W.cellsFrom_some _ _ _ (.inl q)⟩
  refine codeAny_call_function hr.depth (KX _ _ lk) rfl S.co S.gen rfl (PySem.W.codeRec_of KX hcd) (hb _ _ _ _ ?_)
  refine wpAny_newFunctionEnv_cells S.kind hkind fun env he s1 x => ?_
  subst he
  refine ⟨lim.keeps x.toInCall.keep, codeAny_func ?_⟩
  obtain ⟨t, ht, hq⟩ := hbody A outer s H vs Q E (hr.deeper _) hsp
  have I : Inv (cxOf CX P w K mg base N qual scope f cdv A outer s H E) [] (start N vs) H s1 := inv_start S hr.hd e0 hl r x
  refine wpAny_mono (ht [] s1 (start N vs) H _ I hq) (fun fl s' hs => ?_) fun e s' hs => hs
  have fin : ∀ {σ' : St} {H' : Hp} {v : V} {u : Value}, Inv (cxOf CX P w K mg base N qual scope f cdv A outer s H E) [] σ' H' s' → RelV v u → Q v H' → CE outer P w H s Q u s' :=
    fun {σ' H' v u} J rv q => ⟨v, H', J.os, J.bare, J.base, J.hok, rv, q⟩
  cases fl with
  | ret u =>
    obtain ⟨v, σ', H', J, rv, q⟩ := hs
    exact fin J rv q
  | next =>
    obtain ⟨σ', H', J, q⟩ := hs
    exact fin (v := V.non) (u := Value.none) J rfl q
  | brk =>
    obtain ⟨_, _, _, q⟩ := hs
    exact False.elim q
  | cont =>
    obtain ⟨_, _, _, q⟩ := hs
    exact False.elim q
end L2

namespace L2
open PySem PySem.Spec PyProof.Rows
section
variable {X : Cx} {x : Str} {p pos : Pos} {e : Expr} {es : List Expr} {t : TA} {id T : String} {r : List V → Hp → VK → Prop}

def tCB (r : List V → Hp → VK → Prop) (t : TA) : TE := fun σ H Q => t σ H fun vs H1 => r vs H1 Q
/-- f(e, ..), f a built-in function -/
theorem pe_callB (hc : CallR X (.builtin id) r) (hg : Gl X x) (hm : X.mg x = none) (hv : bootBuiltins x = some (.builtin id)) (ha : PA X (e :: es) t) (hn : x ≠ "__name__" := by decide) (hdb : (x == ("__debug__" : Str)) = false := by decide)
    (he : starEach (e :: es) X.env = (false, eval e X.env) :: starEach es X.env := by rfl) (hpl : (backTo pos (starEach es X.env)).any (·.1) = false := by rfl) : PE X (.Call (.Name x p) (e :: es) [] pos) (tCB r t) := by
  intro pins s σ H Q I h
  refine wpAny_Call_Name_kw (ld_blt I hg hm hv ?_ hn hdb)
  exact PyProof.Rows.callWith_builtin1 (thn (ha pos pins s σ H _ I h) fun us s1 ⟨vs, H1, I1, r1, q1⟩ => hc pins s1 σ H1 vs us Q I1 r1 q1) he hpl
/-- T(e, ..), T a built-in type -/
theorem pe_callTy (hc : CallR X (.type T) r) (hg : Gl X x) (hm : X.mg x = none) (hv : bootBuiltins x = some (.type T)) (ha : PA X (e :: es) t) (hn : x ≠ "__name__" := by decide) (hdb : (x == ("__debug__" : Str)) = false := by decide)
    (he : starEach (e :: es) X.env = (false, eval e X.env) :: starEach es X.env := by rfl) (hpl : (backTo pos (starEach es X.env)).any (·.1) = false := by rfl) : PE X (.Call (.Name x p) (e :: es) [] pos) (tCB r t) := by
  intro pins s σ H Q I h
  refine wpAny_Call_Name_kw (ld_blt I hg hm hv ?_ hn hdb)
  exact PyProof.Rows.callWith_type1 (thn (ha pos pins s σ H _ I h) fun us s1 ⟨vs, H1, I1, r1, q1⟩ => hc pins s1 σ H1 vs us Q I1 r1 q1) he hpl
end
end L2

namespace HT
open PySem PyProof.Rows



section
open PySem.SeqAt
open PySem.AutoSeq1 (wpAny_loadPart')
open PySem.MeetsSeq PySem.MeetsSeq2 PySem.MeetsSeq3

end

section
variable {prog : Program} {w : World} {A : Around} {E : Value → Shared → Prop} {s : Shared}


/-- t + u, t not empty -/
theorem cat_tup {t b : Addr} {vs ws : List Value} {Q : Value → Shared → Prop} (ht : IsTup s.heap t vs.toArray) (hb : IsTup s.heap b ws.toArray) (hv : vs ≠ [])
    (h1 : ws = [] → Q (.ref t) s) (h2 : ws ≠ [] → Q (.ref s.heap.objs.size) { s with heap := s.heap.push { cls := .type "tuple", data := .seq (vs ++ ws).toArray } })
    (hsz : vs.length + ws.length ≤ sizeLine) : wpAny (model prog w) A (binaryOp .Add (.ref t) (.ref b)) Q E s := by
  obtain ⟨⟨cls, dd, data, sl⟩, ho, hc, n, hd⟩ := id ht
  obtain ⟨⟨cls2, dd2, data2, sl2⟩, ho2, hc2, n2, hd2⟩ := id hb
  simp only at hc hd hc2 hd2
  subst hc hd hc2 hd2
  have e : vs.toArray ++ ws.toArray = (vs ++ ws).toArray := by simp
  by_cases hw : ws = []
  · exact concat_meets ⟨_, ho, rfl⟩ ⟨_, ho2, rfl⟩ noFill_tuple_add seq_tuple_add PySem.F.slot_tuple_add PySem.F.entry_tuple_add (PySem.F.args_tuple_add_2 _ _)
      (tuple_addW1 t b vs.toArray ws.toArray n n2 dd dd2 sl sl2 (by simpa using hv) (by simp [hw])) ⟨ho, ho2, h1 hw⟩
  · refine concat_meets ⟨_, ho, rfl⟩ ⟨_, ho2, rfl⟩ noFill_tuple_add seq_tuple_add PySem.F.slot_tuple_add PySem.F.entry_tuple_add (PySem.F.args_tuple_add_2 _ _)
      (tuple_addW2 t b vs.toArray ws.toArray n n2 dd dd2 sl sl2 (by simpa using hv) (by simpa using hw) (by rw [List.size_toArray, List.size_toArray]; exact hsz)) ⟨ho, ho2, ?_⟩
    rw [e]
    exact h2 hw

/-! ### t[a:b], not the whole -/
/-- a slice's bound as a place among n (d where it is left out) -/
def sIx (n d : Nat) : Option Int → Nat
  | none => d
  | some v => if v < 0 then (v + (n : Int)).toNat else min v.toNat n
theorem sIx_none (n d : Nat) : sIx n d none = d := rfl
theorem sIx_nat (n d k : Nat) : sIx n d (some (k : Int)) = min k n := by
  show (if (k : Int) < 0 then ((k : Int) + (n : Int)).toNat else min (k : Int).toNat n) = min k n
  rw [if_neg (by omega), Int.toNat_natCast]
theorem sIx_le (n d : Nat) (hd : d ≤ n) (o : Option Int) : sIx n d o ≤ n := by
  cases o with
  | none => exact hd
  | some v =>
    show (if v < 0 then (v + (n : Int)).toNat else min v.toNat n) ≤ n
    by_cases hv : v < 0
    · rw [if_pos hv]; omega
    · rw [if_neg hv]; exact Nat.min_le_right _ _
theorem clip_eq (v : Int) (n d : Nat) : (if v < 0 then max (v + (n : Int)) 0 else min v (n : Int)) = ((sIx n d (some v) : Nat) : Int) := by
  show (if v < 0 then max (v + (n : Int)) 0 else min v (n : Int)) = (((if v < 0 then (v + (n : Int)).toNat else min v.toNat n) : Nat) : Int)
  by_cases hv : v < 0
  · simp only [if_pos hv]; omega
  · simp only [if_neg hv]; omega
theorem adjust_gen (lo hi : Option Int) (n : Nat) : Builtin.Slice.sliceAdjust lo hi 1 (n : Int) = (((sIx n 0 lo : Nat) : Int), ((sIx n n hi : Nat) : Int)) := by
  have h1 : ¬ ((1 : Int) < 0) := by omega
  unfold Builtin.Slice.sliceAdjust
  simp only [h1, if_false]
  refine Prod.ext ?_ ?_
  · cases lo with
    | none => rfl
    | some v => exact clip_eq v n 0
  · cases hi with
    | none => rfl
    | some v => exact clip_eq v n n
theorem places_gen (i j : Nat) : Builtin.Slice.slicePlaces (i : Int) (j : Int) 1 = j - i := by
  unfold Builtin.Slice.slicePlaces
  have h1 : (1 : Int) > 0 := by omega
  simp only [h1, if_true, Int.ediv_one]
  split <;> omega
theorem slicePart_ {v : Value} {o : Option Int} {Q : Option Int → Shared → Prop} (p : IsPart v o) (h : Q o s) : wpAny (model prog w) A (Builtin.Slice.slicePartIndex v) Q E s := by
  cases p with
  | none => exact slicePart_none h
  | int i t => exact slicePart_int h
theorem sliceApplied_gen {sl : Addr} {vl vu : Value} {lo hi : Option Int} {n : Nat} {Q : Int × Int × Nat → Shared → Prop} (hs : s.heap.IsSliceOf sl vl vu .none) (pl : IsPart vl lo) (pu : IsPart vu hi)
    (h : Q (((sIx n 0 lo : Nat) : Int), 1, sIx n n hi - sIx n 0 lo) s) : wpAny (model prog w) A (Builtin.Slice.sliceApplied (.ref sl) (pure (n : Int))) Q E s := by
  obtain ⟨os, hos, hcs, hds⟩ := id hs
  unfold Builtin.Slice.sliceApplied Builtin.Slice.sliceFields
  refine wpAny_bind (wpAny_bind (wpAny_field hos hds (x := vl) rfl (wpAny_bind (wpAny_field hos hds (x := vu) rfl (wpAny_bind (wpAny_field hos hds (x := .none) rfl (wpAny_pure ?_)))))))
  refine wpAny_bind (slicePart_none ?_)
  show wpAny _ _ (if ((1 : Int) == 0) = true then _ else _) _ _ s
  rw [if_neg (by decide)]
  refine wpAny_bind (slicePart_ pl (wpAny_bind (slicePart_ pu (wpAny_bind (wpAny_pure ?_)))))
  show wpAny _ _ (match Builtin.Slice.sliceAdjust lo hi 1 (n : Int) with | (lo, hi) => pure (lo, (1 : Int), Builtin.Slice.slicePlaces lo hi 1)) _ _ s
  rw [adjust_gen lo hi n]
  show wpAny _ _ (pure (((sIx n 0 lo : Nat) : Int), (1 : Int), Builtin.Slice.slicePlaces ((sIx n 0 lo : Nat) : Int) ((sIx n n hi : Nat) : Int) 1)) _ _ s
  rw [places_gen]
  exact wpAny_pure h
theorem pick_gen (xs : Array Value) (i k : Nat) : ((List.range k).filterMap fun (m : Nat) => xs[((i : Int) + (m : Int) * 1).toNat]?).toArray = ((xs.toList.drop i).take k).toArray := by
  have e : (fun (m : Nat) => xs[((i : Int) + (m : Int) * 1).toNat]?) = fun m => xs[i + m]? := by
    funext m
    have : ((i : Int) + (m : Int) * 1).toNat = i + m := by omega
    rw [this]
  rw [e]
  have := pick_run xs i k
  rw [List.filterMap_map] at this
  have e2 : ((fun x => xs[x]?) ∘ fun x => i + x) = fun m => xs[i + m]? := rfl
  rw [e2] at this
  rw [this]

theorem getItem_tuple_cut {t sl : Addr} {items : Array Value} {vl vu : Value} {lo hi : Option Int} {Q : Value → Shared → Prop} (ht : IsTup s.heap t items) (hs : s.heap.IsSliceOf sl vl vu .none) (pl : IsPart vl lo) (pu : IsPart vu hi)
    (hw : ¬ (sIx items.size 0 lo = 0 ∧ sIx items.size items.size hi = items.size))
    (h : Q (.ref s.heap.objs.size) { s with heap := s.heap.push { cls := .type "tuple", data := .seq ((items.toList.drop (sIx items.size 0 lo)).take (sIx items.size items.size hi - sIx items.size 0 lo)).toArray } })
    (hsz : items.size ≤ sizeLine) : wpAny (model prog w) A (getItem (.ref t) (.ref sl)) Q E s := by
  have htake : sizeOk (.seq ((items.toList.drop (sIx items.size 0 lo)).take (sIx items.size items.size hi - sIx items.size 0 lo)).toArray) := by
    show ((items.toList.drop (sIx items.size 0 lo)).take (sIx items.size items.size hi - sIx items.size 0 lo)).toArray.size ≤ sizeLine
    rw [List.size_toArray, List.length_take, List.length_drop, Array.length_toList]
    omega
  have hj : sIx items.size items.size hi ≤ items.size := sIx_le _ _ (Nat.le_refl _) hi
  obtain ⟨os, hos, hcs, hds⟩ := id hs
  have hTs : s.TypeIs (.ref sl) "slice" := ⟨os, hos, hcs⟩
  unfold getItem
  try with_reducible refine wpAny_holding ?_
  first | refine wpAny_bind (wpAny_pure ?_) | skip
  refine wpAny_bind (wpAny_sequenceKey ht.typeIs (by decide) ?_)
  refine wpAny_bind (wpAny_callSpecial?_slot (name := Str.ofString "__getitem__") ht.typeIs PyProof.Rows.slot_tuple_getitem
    (wpAny_call_entry PyProof.Rows.slot_tuple_getitem ht.typeIs entry_tuple_getitem ?_ (args_tuple_getitem _ _)))
  show wpAny _ _ (Builtin.Tuple.tupleItemsOf (.ref t) >>= _) _ _ s
  refine wpAny_bind (tupleItemsOf_ ht ?_)
  refine wpAny_bind (wpAny_typeOf hTs ?_)
  rw [if_pos (by decide)]
  refine wpAny_bind (sliceApplied_gen hs pl pu ?_)
  have hno : ¬ ((((sIx items.size 0 lo : Nat) : Int) == 0 && (1 : Int) == 1 && (sIx items.size items.size hi - sIx items.size 0 lo) == items.size) = true) := by
    intro q
    rw [Bool.and_eq_true, Bool.and_eq_true] at q
    have q1 : ((sIx items.size 0 lo : Nat) : Int) = 0 := eq_of_beq q.1.1
    have q2 : sIx items.size items.size hi - sIx items.size 0 lo = items.size := eq_of_beq q.2
    exact hw ⟨by omega, by omega⟩
  show wpAny _ _ (if (((sIx items.size 0 lo : Nat) : Int) == 0 && (1 : Int) == 1 && (sIx items.size items.size hi - sIx items.size 0 lo) == items.size) = true then _ else _) _ _ s
  rw [if_neg hno, pick_gen]
  first
    | exact wpAny_bind (m := Builtin.Tuple.tupleExact _) (wpAny_newObj_type (wpAny_pure ⟨_, rfl, wpAny_pure h⟩) htake)
    | exact wpAny_bind (m := Builtin.Tuple.tupleExact _) (wpAny_newObj_type (wpAny_bind (wpAny_pure (wpAny_pure ⟨_, rfl, wpAny_pure h⟩))) htake)
    | exact wpAny_bind (wpAny_bind (m := Builtin.Tuple.tupleExact _) (wpAny_newObj_type (wpAny_pure (wpAny_pure ⟨_, rfl, wpAny_pure h⟩)) htake))
    | exact wpAny_bind (wpAny_bind (m := Builtin.Tuple.tupleExact _) (wpAny_newObj_type (wpAny_pure ⟨_, rfl, wpAny_pure h⟩) htake))
end
end HT

namespace L2
open PySem PySem.Spec PyProof.Rows

/-! ### the parts of a slice -/
abbrev TO := St → Hp → (Option Int → Hp → Prop) → Prop
/-- a slice's part (left out, or an int) -/
def PO (X : Cx) (e : Option Expr) (t : TO) : Prop :=
  ∀ (pins : List (Addr × Obj)) (s : Shared) (σ : St) (H : Hp) (Q : Option Int → Hp → Prop), Inv X pins σ H s → t σ H Q →
    wpAny (model X.prog X.w) X.A (evalPart e X.env) (fun u s' => ∃ o H', Inv X pins σ H' s' ∧ IsPart u o ∧ Q o H') X.xe s
def tNoPart : TO := fun _ H Q => Q none H
def tPart (t : TE) : TO := fun σ H Q => t σ H fun x H1 => ∃ i, x = .int i ∧ Q (some i) H1

theorem intsAre_of {ns : List Int} : ∀ {us : List Value}, Vals (ns.map V.int) us → IntsAre us ns := by
  induction ns with
  | nil => intro us r; rw [List.map_nil] at r; cases r; exact .nil
  | cons n ns ih =>
    intro us r
    rw [List.map_cons] at r
    cases r with
    | cons r1 r2 =>
      obtain ⟨t, e⟩ := r1
      subst e
      exact .cons n t (ih r2)

section
variable {X : Cx} {e : Expr} {te : TE} {lo hi : Option Expr} {tl th : TO} {pos p2 : Pos}

theorem po_none : PO X none tNoPart := by
  intro pins s σ H Q I h
  rw [evalPart_none]
  exact wpAny_pure ⟨none, H, I, .none, h⟩
theorem po_some (h : PE X e te) : PO X (some e) (tPart te) := by
  intro pins s σ H Q I hw
  rw [evalPart_some]
  refine thn (h pins s σ H _ I hw) fun u s1 ⟨x, H1, I1, r1, q1⟩ => ?_
  obtain ⟨i, rfl, q⟩ := q1
  obtain ⟨t, rfl⟩ := r1
  exact ⟨some i, H1, I1, .int i t, q⟩

/-- what a slice of a value is, by values: the slice object stands at sl -/
def SlR (X : Cx) (r : V → Option Int → Option Int → Hp → VK → Prop) : Prop :=
  ∀ (pins : List (Addr × Obj)) (s : Shared) (σ : St) (H : Hp) (x : V) (v vl vu : Value) (lo hi : Option Int) (sl : Addr) (Q : VK), Inv X pins σ H s → RelV x v → s.heap.IsSliceOf sl vl vu .none → IsPart vl lo → IsPart vu hi → r x lo hi H Q →
    ∃ T id, typeLookup (.type T) "__getitem__" = pure (some (.builtin id)) ∧ s.TypeIs v T ∧ wpAny (model X.prog X.w) X.A (getItem v (.ref sl)) (EP X pins σ Q) X.xe s
theorem SlR.or {r r' : V → Option Int → Option Int → Hp → VK → Prop} (h : SlR X r) (h' : SlR X r') : SlR X (fun x lo hi H Q => r x lo hi H Q ∨ r' x lo hi H Q) := by
  intro pins s σ H x v vl vu lo hi sl Q I rx hs pl pu q
  rcases q with q | q
  · exact h pins s σ H x v vl vu lo hi sl Q I rx hs pl pu q
  · exact h' pins s σ H x v vl vu lo hi sl Q I rx hs pl pu q
def tSl (r : V → Option Int → Option Int → Hp → VK → Prop) (te : TE) (tl th : TO) : TE := fun σ H Q => te σ H fun x H1 => tl σ H1 fun l H2 => th σ H2 fun u H3 => r x l u H3 Q
/-- a[lo:hi], any a -/
theorem pe_slice {r : V → Option Int → Option Int → Hp → VK → Prop} (hr : SlR X r) (he : PE X e te) (hl : PO X lo tl) (hu : PO X hi th) : PE X (.Subscript e (.Slice lo hi none p2) pos) (tSl r te tl th) := by
  intro pins s σ H Q I h
  refine Subscript_ (thn (he pins s σ H _ I h) fun v s1 ⟨x, H1, I1, r1, q1⟩ => ?_)
  refine wpAny_Slice (thn (hl pins s1 σ H1 _ I1 q1) fun vl s2 ⟨l, H2, I2, pl, q2⟩ => thn (hu pins s2 σ H2 _ I2 q2) fun vu s3 ⟨u, H3, I3, pu, q3⟩ => ?_)
  rw [evalPart_none]
  refine wpAny_pure ?_
  have I4 : Inv X pins σ H3 { s3 with heap := s3.heap.push { cls := .type "slice", data := .fields #[vl, vu, .none] } } := I3.kept (t' := s3.toks) fun b ob q => Heap.get?_push_of_some _ q
  obtain ⟨T, id, hT, ht, hg⟩ := hr pins { s3 with heap := s3.heap.push { cls := .type "slice", data := .fields #[vl, vu, .none] } } σ H3 x v vl vu l u s3.heap.objs.size Q I4 r1 (Heap.IsSliceOf.new ..) pl pu q3
  show wpAny (model X.prog X.w) X.A (subscriptTail e (.Slice lo hi none p2) v (.ref s3.heap.objs.size)) (EP X pins σ Q) X.xe { s3 with heap := s3.heap.push { cls := .type "slice", data := .fields #[vl, vu, .none] } }
  exact tail_any (ops := [.ref s3.heap.objs.size, v]) ht hT hg (by with_unfolding_all rfl)

/-- the items of xs[lo:hi] -/
def cutV (xs : List V) (lo hi : Option Int) : List V := (xs.drop (HT.sIx xs.length 0 lo)).take (HT.sIx xs.length xs.length hi - HT.sIx xs.length 0 lo)
theorem cutV_length (xs : List V) (lo hi : Option Int) : (cutV xs lo hi).length ≤ xs.length := by
  unfold cutV
  rw [List.length_take, List.length_drop]
  omega
/-- t[lo:hi], not the whole of it (the whole would be t itself) -/
def rSlT (K : PySem.W.Frag) : V → Option Int → Option Int → Hp → VK → Prop := fun x lo hi H Q => ∃ a xs, x = .ref a ∧ SqT K H a xs ∧
  ¬ (HT.sIx xs.length 0 lo = 0 ∧ HT.sIx xs.length xs.length hi = xs.length) ∧ ∀ p, H p = none → Q (.ref p) (upd H p (.tup (cutV xs lo hi)))
theorem sl_tup : SlR X (rSlT X.K) := by
  intro pins s σ H x v vl vu lo hi sl Q I rx hs pl pu h
  obtain ⟨a, xs, rfl, hx, hw, q⟩ := h
  cases rx
  obtain ⟨its, r, ht, hz⟩ := I.tuple hx
  have hlen : its.toArray.size = xs.length := by rw [List.size_toArray]; exact r.length.symm
  refine ⟨"tuple", _, PyProof.Rows.slot_tuple_getitem.lookup, ht.typeIs, ?_⟩
  refine HT.getItem_tuple_cut ht hs pl pu (by rw [hlen]; exact hw) ?_ (by rw [hlen]; exact hz)
  rw [hlen]
  refine ⟨.ref s.heap.objs.size, _, I.laid (t' := s.toks) (o := .tup (cutV xs lo hi)) (fun b ob q => Heap.get?_push_of_some _ q) (Nat.le_refl _) ?_, rfl, q _ (I.hok.fresh (Nat.le_refl _))⟩
  exact ⟨Nat.le_trans (cutV_length xs lo hi) hz, _, (r.drop (HT.sIx xs.length 0 lo)).take (HT.sIx xs.length xs.length hi - HT.sIx xs.length 0 lo), IsTup.new _ _⟩

/-! ### t < u, t + u -/
/-- t + u, t not empty: u empty gives t itself -/
def rCatT (K : PySem.W.Frag) : R2 := fun x y H Q => ∃ a b xs ys, x = .ref a ∧ y = .ref b ∧ SqT K H a xs ∧ SqT K H b ys ∧ xs ≠ [] ∧ xs.length + ys.length ≤ sizeLine ∧
  (ys = [] → Q (.ref a) H) ∧ (ys ≠ [] → ∀ p, H p = none → Q (.ref p) (upd H p (.tup (xs ++ ys))))
theorem Vals.nil_iff {xs : List V} {us : List Value} (r : Vals xs us) : us = [] ↔ xs = [] := by
  cases r with
  | nil => simp
  | cons _ _ => simp
theorem op_catT : OpR X (binaryOp .Add) (rCatT X.K) := by
  intro pins s σ H x y v u Q I rx ry h
  obtain ⟨a, b, xs, ys, rfl, rfl, ha, hb, hx, hz, q1, q2⟩ := h
  cases rx
  cases ry
  obtain ⟨its, r1, p1, _⟩ := I.tuple ha
  obtain ⟨its2, r2, p2, _⟩ := I.tuple hb
  refine HT.cat_tup p1 p2 (fun z => hx (r1.nil_iff.mp z)) (fun z => ⟨.ref a, H, I, rfl, q1 (r2.nil_iff.mp z)⟩) (fun z => ?_) (by rw [← r1.length, ← r2.length]; exact hz)
  refine ⟨.ref s.heap.objs.size, _, I.laid (t' := s.toks) (o := .tup (xs ++ ys)) (fun b ob q => Heap.get?_push_of_some _ q) (Nat.le_refl _) ?_, rfl, q2 (fun w => z (r2.nil_iff.mpr w)) _ (I.hok.fresh (Nat.le_refl _))⟩
  exact ⟨by rw [List.length_append]; exact hz, _, r1.append r2, IsTup.new _ _⟩
end
end L2

namespace L2
open PySem PySem.Spec PyProof.Rows

/-! ### places -/
/-- the place that an index of any sign means -/
def ixN (n : Nat) (i : Int) : Option Nat := if 0 ≤ i then (if i < n then some i.toNat else none) else if -(n : Int) ≤ i then some (i + n).toNat else none
def atI {α : Type} (xs : List α) (i : Int) : Option α := (ixN xs.length i).bind fun j => xs[j]?
theorem ixN_seq {n : Nat} {i : Int} {j : Nat} (h : ixN n i = some j) : seqIndex? i n = some j ∧ j < n ∧ -(n : Int) ≤ i ∧ i < n := by
  unfold ixN at h
  by_cases h0 : 0 ≤ i
  · rw [if_pos h0] at h
    by_cases h1 : i < n
    · rw [if_pos h1] at h
      have e : i.toNat = j := Option.some.inj h
      exact ⟨by rw [seqIndex_of h0 h1, e], by omega, by omega, h1⟩
    · rw [if_neg h1] at h; cases h
  · rw [if_neg h0] at h
    by_cases h1 : -(n : Int) ≤ i
    · rw [if_pos h1] at h
      have e : (i + n).toNat = j := Option.some.inj h
      exact ⟨by rw [seqIndex_neg (by omega) h1, e], by omega, h1, by omega⟩
    · rw [if_neg h1] at h; cases h
theorem atI_get {α : Type} {xs : List α} {i : Int} {v : α} (h : atI xs i = some v) : ∃ j, seqIndex? i xs.length = some j ∧ xs[j]? = some v ∧ j < xs.length ∧ -(xs.length : Int) ≤ i ∧ i < xs.length := by
  unfold atI at h
  cases e : ixN xs.length i with
  | none => rw [e] at h; cases h
  | some j =>
    rw [e] at h
    obtain ⟨h1, h2, h3, h4⟩ := ixN_seq e
    exact ⟨j, h1, h, h2, h3, h4⟩
theorem atI_nat {α : Type} {xs : List α} {j : Nat} {v : α} (h : xs[j]? = some v) : atI xs (j : Int) = some v := by
  have hj : j < xs.length := (List.getElem?_eq_some_iff.mp h).1
  have e : ixN xs.length (j : Int) = some j := by
    unfold ixN
    rw [if_pos (by omega), if_pos (by omega)]; simp
  unfold atI; rw [e]; exact h

/-! ### what may be subscripted -/
/-- what stands as an index of a plain subscript -/
def PlainIx (b : Expr) : Prop := ∀ o i, subscripted b false o i = operate [o, i] (getItem o i)
/-- a subscript by values -/
def IxR (X : Cx) (r : R2) : Prop :=
  ∀ (value slice : Expr) (pins : List (Addr × Obj)) (s : Shared) (σ : St) (H : Hp) (x y : V) (v u : Value) (Q : VK), Inv X pins σ H s → RelV x v → RelV y u → r x y H Q →
    subscripted slice false v u = operate [v, u] (getItem v u) → wpAny (model X.prog X.w) X.A (subscriptTail value slice v u) (EP X pins σ Q) X.xe s
/-- a call of a builtin's method by values: the receiver, the arguments -/
def MtR (X : Cx) (id : String) (r : V → List V → Hp → VK → Prop) : Prop :=
  ∀ (pins : List (Addr × Obj)) (s : Shared) (σ : St) (H : Hp) (x : V) (xs : List V) (v : Value) (us : List Value) (Q : VK), Inv X pins σ H s → RelV x v → Vals xs us → r x xs H Q →
    wpAny (model X.prog X.w) X.A (call (.builtin id) (v :: us)) (EP X pins σ Q) X.xe s
section
variable {X : Cx} {a b : Expr} {ta tb : TE} {pos : Pos}
theorem IxR.or {r r' : R2} (h : IxR X r) (h' : IxR X r') : IxR X (fun x y H Q => r x y H Q ∨ r' x y H Q) := by
  intro value slice pins s σ H x y v u Q I rx ry q hs
  rcases q with q | q
  · exact h value slice pins s σ H x y v u Q I rx ry q hs
  · exact h' value slice pins s σ H x y v u Q I rx ry q hs
/-- a[b] -/
theorem pe_ix {r : R2} (hr : IxR X r) (ha : PE X a ta) (hb : PE X b tb) (hs : PlainIx b) : PE X (.Subscript a b pos) (tOp r ta tb) := by
  intro pins s σ H Q I h
  exact Subscript_ (binT ha hb I h fun v u s2 x y H2 I2 rx ry q => hr a b pins s2 σ H2 x y v u Q I2 rx ry q (hs _ _))

def rIxL (K : PySem.W.Frag) : R2 := fun x y H Q => ∃ p xs i v, x = .ref p ∧ y = .int i ∧ SqL K H p xs ∧ atI xs i = some v ∧ Q v H
def rIxT (K : PySem.W.Frag) : R2 := fun x y H Q => ∃ p xs i v, x = .ref p ∧ y = .int i ∧ SqT K H p xs ∧ atI xs i = some v ∧ Q v H
def rIxS : R2 := fun x y H Q => ∃ z i c, x = .str z ∧ y = .int i ∧ z.length ≤ sizeLine ∧ atI z.cps.toList i = some c ∧ Q (.str ⟨#[c]⟩) H
theorem ix_list : IxR X (rIxL X.K) := by
  intro value slice pins s σ H x y v u Q I rx ry h hs
  obtain ⟨p, xs, i, z, rfl, rfl, hq, he, q⟩ := h
  cases rx
  obtain ⟨t, rfl⟩ := ry
  obtain ⟨its, r, pl, hz⟩ := I.list hq
  obtain ⟨j, h1, h2, h3, h4, h5⟩ := atI_get he
  obtain ⟨w, ew, rw'⟩ := r.get h2
  have hl := r.length
  have hn := line63
  have fin : EP X pins σ Q w s := ⟨z, H, I, rw', q⟩
  by_cases h0 : 0 ≤ i
  · have hj : i.toNat = j := by
      rw [seqIndex_of h0 h5] at h1
      exact Option.some.inj h1
    exact item_listR pl.isList h0 (by omega) (by rw [hj]; simpa using ew) fin hs
  · have hj : (i + (its.toArray.size : Int)).toNat = j := by
      rw [seqIndex_neg (by omega) h4] at h1
      rw [List.size_toArray, ← hl]
      exact Option.some.inj h1
    exact subscriptTail_builtinR (x := w) pl.isList.typeIs slot_list_getitem.lookup
      (wpAny_getItem_list_neg (Q := fun r s' => r = w ∧ EP X pins σ Q r s') pl.isList (by omega) (by rw [List.size_toArray] <;> omega) (by omega) (by rw [hj]; simpa using ew) ⟨rfl, fin⟩) hs
theorem ix_tup : IxR X (rIxT X.K) := by
  intro value slice pins s σ H x y v u Q I rx ry h hs
  obtain ⟨p, xs, i, z, rfl, rfl, hq, he, q⟩ := h
  cases rx
  obtain ⟨t, rfl⟩ := ry
  obtain ⟨its, r, pl, hz⟩ := I.tuple hq
  obtain ⟨j, h1, h2, h3, h4, h5⟩ := atI_get he
  obtain ⟨w, ew, rw'⟩ := r.get h2
  have hl := r.length
  have hn := line63
  have fin : EP X pins σ Q w s := ⟨z, H, I, rw', q⟩
  exact subscriptTail_builtinR (x := w) pl.typeIs slot_tuple_getitem.lookup
    (getItem_tuple (j := j) (Q := fun r s' => r = w ∧ EP X pins σ Q r s') pl (by omega) (by omega) (by rw [List.size_toArray, ← hl]; exact h1) (by simpa using ew) ⟨rfl, fin⟩) hs
theorem ix_str : IxR X rIxS := by
  intro value slice pins s σ H x y v u Q I rx ry h hs
  obtain ⟨z, i, c, rfl, rfl, hz, he, q⟩ := h
  obtain ⟨t, rfl⟩ := rx
  obtain ⟨t', rfl⟩ := ry
  obtain ⟨j, h1, h2, h3, h4, h5⟩ := atI_get he
  have hl : z.cps.toList.length = z.length := by simp [Str.length]
  rw [hl] at h1 h4 h5
  have hn := line63
  exact tail_any (typeIs_str s z t) slot_str_getitem.lookup (getItem_str (c := c) (by
    have e1 : decide (i < -(2 ^ 63 : Int)) = false := decide_eq_false (by omega)
    have e2 : decide (i ≥ 2 ^ 63) = false := decide_eq_false (by omega)
    rw [e1, e2, Bool.or_false]) (by rw [h1]; simpa using h2) ⟨.str ⟨#[c]⟩, H, I.tok _, ⟨_, rfl⟩, q⟩) hs
/-- list, tuple or str -/
def rIx (K : PySem.W.Frag) : R2 := fun x y H Q => rIxL K x y H Q ∨ rIxT K x y H Q ∨ rIxS x y H Q
theorem ix_seq : IxR X (rIx X.K) := ix_list.or (ix_tup.or ix_str)

/-! ### xs[i] = v, any sign -/
/-- the list's object behind a store -/
theorem mapSeq_set (its : List Value) (n j : Nat) (u : Value) : Obj.mapSeq (·.setIfInBounds j u) { cls := .type "list", data := .seq its.toArray n } = { cls := .type "list", data := .seq (its.set j u).toArray n } := by
  simp [Obj.mapSeq]
theorem Inv.lst {pins : List (Addr × Obj)} {σ : St} {H : Hp} {s : Shared} {p : Addr} {xs : List V} (I : Inv X pins σ H s) (h : H p = some (.lst xs)) :
    ∃ (its : List Value) (n : Nat), Vals xs its ∧ s.heap.get? p = some { cls := .type "list", data := .seq its.toArray n } ∧ xs.length ≤ sizeLine := by
  obtain ⟨z, its, n, r, e⟩ := I.hok p _ h
  exact ⟨its, n, r, e, z⟩
/-- the list at p is written by an update of its object -/
theorem Inv.lstUpd {pins : List (Addr × Obj)} {σ : St} {H : Hp} {s : Shared} {p : Addr} {xs ys : List V} {its its' : List Value} {n n' : Nat} {f : Obj → Obj} (I : Inv X pins σ H s) (h : H p = some (.lst xs))
    (ho : s.heap.get? p = some { cls := .type "list", data := .seq its.toArray n }) (hf : f { cls := .type "list", data := .seq its.toArray n } = { cls := .type "list", data := .seq its'.toArray n' }) (r : Vals ys its') (hz : ys.length ≤ sizeLine) (t : Nat) :
    Inv X pins σ (upd H p (.lst ys)) { s with heap := s.heap.update p f, toks := t } := by
  have e : (s.heap.update p f).get? p = some { cls := .type "list", data := .seq its'.toArray n' } := by
    rw [Heap.get?_update_self f ho (by rw [hf] <;> rfl), hf]
  refine I.write (x := p) (e := p) (by rw [h]; trivial) (.inl rfl) (fun b u hb q => (Heap.get?_update_other _ _ (Ne.symm hb)).trans q) ⟨_, e⟩ ?_
  exact ⟨hz, its', n', r, e⟩
def rSetL : V → V → V → Hp → (Hp → Prop) → Prop := fun o i v H Q => ∃ p xs k j, o = .ref p ∧ i = .int k ∧ H p = some (.lst xs) ∧ ixN xs.length k = some j ∧ Q (upd H p (.lst (xs.set j v)))
theorem set_list : PSet X rSetL := by
  intro pins s σ H o i v ov iv u Q I ro ri rv h
  obtain ⟨p, xs, k, j, rfl, rfl, hp, hj, q⟩ := h
  cases ro
  obtain ⟨t, rfl⟩ := ri
  obtain ⟨its, n, r, ho, hz⟩ := I.lst hp
  obtain ⟨h1, h2, h3, h4⟩ := ixN_seq hj
  have hl := r.length
  have hn := line63
  have I' : Inv X pins σ (upd H p (.lst (xs.set j v))) { s with heap := s.heap.update p (Obj.mapSeq (·.setIfInBounds j u)) } :=
    I.lstUpd hp ho (mapSeq_set its n j u) (r.set rv j) (by rw [List.length_set]; exact hz) s.toks
  by_cases h0 : 0 ≤ k
  · have hk : k.toNat = j := by
      rw [seqIndex_of h0 h4] at h1
      exact Option.some.inj h1
    exact PySem.W.ki_setAt ho h0 (by omega) (by rw [List.size_toArray, ← hl]; exact h4) (by rw [hk]; exact ⟨_, I', q⟩)
  · have hk : (k + (its.toArray.size : Int)).toNat = j := by
      rw [seqIndex_neg (by omega) h3] at h1
      rw [List.size_toArray, ← hl]
      exact Option.some.inj h1
    exact PySem.W.ki_setBack ho (by omega) (by rw [List.size_toArray, ← hl]; exact h3) (by omega) (by rw [hk]; exact ⟨_, I', q⟩)

/-! ### slices -/
theorem slice_bounds (lo hi : Option Int) (n : Nat) : (sliceBounds lo hi none n).1 = ((HT.sIx n 0 lo : Nat) : Int) ∧ (sliceBounds lo hi none n).2.1 = ((HT.sIx n n hi : Nat) : Int) ∧ (sliceBounds lo hi none n).2.2 = 1 := by
  refine ⟨?_, ?_, rfl⟩
  · cases lo with
    | none => simp [sliceBounds, HT.sIx]
    | some i =>
      simp only [sliceBounds, HT.sIx, Option.getD_none, show (1 : Int) > 0 by decide, if_true]
      by_cases h : i < 0
      · simp only [h, if_true] <;> omega
      · simp only [h, if_false] <;> omega
  · cases hi with
    | none => simp [sliceBounds, HT.sIx]
    | some i =>
      simp only [sliceBounds, HT.sIx, Option.getD_none, show (1 : Int) > 0 by decide, if_true]
      by_cases h : i < 0
      · simp only [h, if_true] <;> omega
      · simp only [h, if_false] <;> omega
theorem slicePick_cut (its : List Value) (lo hi : Option Int) : slicePick its.toArray lo hi none = ((its.drop (HT.sIx its.length 0 lo)).take (HT.sIx its.length its.length hi - HT.sIx its.length 0 lo)).toArray := by
  obtain ⟨h1, h2, h3⟩ := slice_bounds lo hi its.toArray.size
  unfold slicePick
  rw [h1, h2, h3]
  simp only [sliceRange_one, pick_run, List.size_toArray] <;> rfl
/-- xs[lo:hi] of a list: a new list -/
def rSlL (K : PySem.W.Frag) : V → Option Int → Option Int → Hp → VK → Prop := fun x lo hi H Q => ∃ a xs, x = .ref a ∧ SqL K H a xs ∧ ∀ p, H p = none → Q (.ref p) (upd H p (.lst (cutV xs lo hi)))
theorem sl_list : SlR X (rSlL X.K) := by
  intro pins s σ H x v vl vu lo hi sl Q I rx hs pl pu h
  obtain ⟨a, xs, rfl, hx, q⟩ := h
  cases rx
  obtain ⟨its, r, ht, hz⟩ := I.list hx
  have hlen := r.length
  refine ⟨"list", _, slot_list_getitem.lookup, ht.isList.typeIs, ?_⟩
  refine wpAny_getItem_list_slice ht.isList hs pl pu .none (by simp) ?_ (by rw [List.size_toArray] <;> omega)
  rw [slicePick_cut, ← hlen]
  refine ⟨.ref s.heap.objs.size, _, I.laid (t' := s.toks) (o := .lst (cutV xs lo hi)) (fun b ob q => Heap.get?_push_of_some _ q) (Nat.le_refl _) ?_, rfl, q _ (I.hok.fresh (Nat.le_refl _))⟩
  exact ⟨Nat.le_trans (cutV_length xs lo hi) hz, _, 0, (r.drop (HT.sIx xs.length 0 lo)).take (HT.sIx xs.length xs.length hi - HT.sIx xs.length 0 lo), Heap.get?_push_size _ rfl⟩

/-! ### in, not in: flat items -/
def flatV : V → Bool
  | .non => true
  | .bl _ => true
  | .int _ => true
  | .str _ => true
  | _ => false
/-- == of flat values -/
def eqV : V → V → Bool
  | .non, .non => true
  | .bl a, .bl b => a == b
  | .bl a, .int b => (if a then 1 else 0) == b
  | .int a, .bl b => a == (if b then 1 else 0)
  | .int a, .int b => a == b
  | .str a, .str b => a == b
  | _, _ => false
theorem eqAt_V {A : Around} {s : Shared} {y x : V} {u v : Value} (ry : RelV y u) (rx : RelV x v) (fy : flatV y = true) (fx : flatV x = true) : SeqAt.EqAt A s u v (eqV y x) := by
  cases y with
  | non =>
    cases ry
    cases x with
    | non => cases rx; exact SeqAt.EqAt.same _
    | bl b => cases rx; exact SeqAt.EqAt.none_bool b
    | int b => obtain ⟨t, rfl⟩ := rx; exact SeqAt.EqAt.none_int b t
    | str b => obtain ⟨t, rfl⟩ := rx; exact SeqAt.EqAt.none_str b t
    | _ => exact absurd (show false = true from fx) Bool.false_ne_true
  | bl a =>
    cases ry
    cases x with
    | non => cases rx; exact SeqAt.EqAt.bool_none a
    | bl b => cases rx; exact SeqAt.EqAt.bool_bool a b
    | int b => obtain ⟨t, rfl⟩ := rx; exact SeqAt.EqAt.bool_int a b t
    | str b => obtain ⟨t, rfl⟩ := rx; exact SeqAt.EqAt.bool_str a b t
    | _ => exact absurd (show false = true from fx) Bool.false_ne_true
  | int a =>
    obtain ⟨t', rfl⟩ := ry
    cases x with
    | non => cases rx; exact SeqAt.EqAt.int_none a t'
    | bl b => cases rx; exact SeqAt.EqAt.int_bool a t' b
    | int b => obtain ⟨t, rfl⟩ := rx; exact SeqAt.EqAt.int_int a t' b t
    | str b => obtain ⟨t, rfl⟩ := rx; exact SeqAt.EqAt.int_str a t' b t
    | _ => exact absurd (show false = true from fx) Bool.false_ne_true
  | str a =>
    obtain ⟨t', rfl⟩ := ry
    cases x with
    | non => cases rx; exact SeqAt.EqAt.str_none a t'
    | bl b => cases rx; exact SeqAt.EqAt.str_bool a t' b
    | int b => obtain ⟨t, rfl⟩ := rx; exact SeqAt.EqAt.str_int a t' b t
    | str b => obtain ⟨t, rfl⟩ := rx; exact SeqAt.EqAt.str_str a t' b t
    | _ => exact absurd (show false = true from fx) Bool.false_ne_true
  | _ => exact absurd (show false = true from fy) Bool.false_ne_true
/-- the items' answers, read off the values (a value's own answer does not lean on its token) -/
def eqU (x : V) (u : Value) : Bool := match u with
  | .none => eqV .non x
  | .bool b => eqV (.bl b) x
  | .int i _ => eqV (.int i) x
  | .str z _ => eqV (.str z) x
  | _ => false
theorem eqU_of {x y : V} {u : Value} (r : RelV y u) (f : flatV y = true) : eqU x u = eqV y x := by
  cases y with
  | non => cases r; rfl
  | bl b => cases r; rfl
  | int i => obtain ⟨t, rfl⟩ := r; rfl
  | str z => obtain ⟨t, rfl⟩ := r; rfl
  | _ => exact absurd (show false = true from f) Bool.false_ne_true
theorem any_eqU {x : V} : ∀ {xs : List V} {us : List Value}, Vals xs us → xs.all flatV = true → us.any (eqU x) = xs.any fun y => eqV y x
  | _, _, .nil, _ => rfl
  | y :: xs, u :: us, .cons r t, f => by
    rw [List.all_cons, Bool.and_eq_true] at f
    rw [List.any_cons, List.any_cons, eqU_of r f.1, any_eqU t f.2]
theorem mem_eqAt {A : Around} {s : Shared} {x : V} {v : Value} (rx : RelV x v) (fx : flatV x = true) : ∀ {xs : List V} {us : List Value}, Vals xs us → xs.all flatV = true → ∀ u ∈ us, SeqAt.EqAt A s u v (eqU x u)
  | _, _, .nil, _ => fun u hu => by cases hu
  | y :: xs, u :: us, .cons r t, f => fun u' hu => by
    rw [List.all_cons, Bool.and_eq_true] at f
    rcases List.mem_cons.mp hu with rfl | hu
    · rw [eqU_of r f.1]; exact eqAt_V r rx f.1 fx
    · exact mem_eqAt rx fx t f.2 u' hu
def inV (x : V) (xs : List V) : Bool := xs.any fun y => eqV y x
/-- x in a list or tuple of flat items -/
def rIn (K : PySem.W.Frag) (neg : Bool) : R2 := fun x y H Q => ∃ p xs, y = .ref p ∧ (SqL K H p xs ∨ SqT K H p xs) ∧ flatV x = true ∧ xs.all flatV = true ∧ Q (.bl (if neg then !inV x xs else inV x xs)) H
theorem op_notIn_seq : OpR X (compareOp .NotIn) (rIn X.K true) := by
  intro pins s σ H x y v u Q I rx ry h
  obtain ⟨p, xs, rfl, hq, fx, fs, q⟩ := h
  cases ry
  rcases hq with hq | hq
  · obtain ⟨its, r, pl, hz⟩ := I.list hq
    refine SeqAt.notIn_listAt (eqU x) pl.isList (fun w hw => mem_eqAt rx fx r fs w (by simpa using hw)) ⟨.bl _, H, I, rfl, ?_⟩
    rw [show its.toArray.any (eqU x) = its.any (eqU x) by simp, any_eqU r fs]
    exact q
  · obtain ⟨its, r, pl, hz⟩ := I.tuple hq
    refine SeqAt.notIn_tupleAt (eqU x) pl (fun w hw => mem_eqAt rx fx r fs w (by simpa using hw)) ⟨.bl _, H, I, rfl, ?_⟩
    rw [show its.toArray.any (eqU x) = its.any (eqU x) by simp, any_eqU r fs]
    exact q

/-! ### len, list(x), tuple(x) of any list or tuple that is read -/
theorem call_len_seq : CallR X (.builtin "len") (fun xs H Q => ∃ p ys, xs = [.ref p] ∧ (SqL X.K H p ys ∨ SqT X.K H p ys) ∧ Q (.int ys.length) H) := by
  intro pins s σ H xs us Q I r h
  obtain ⟨p, ys, rfl, hq, q⟩ := h
  obtain ⟨u, rfl, rx⟩ := vals1 r
  cases rx
  have hn := line63
  rcases hq with hq | hq
  · obtain ⟨its, r', pl, hz⟩ := I.list hq
    have hlen := r'.length
    exact Calls.call_len_list pl.isList (by simp only [List.size_toArray] <;> omega) ⟨.int ys.length, H, I.tok _, ⟨s.toks + 1, by rw [List.size_toArray, hlen]⟩, q⟩
  · obtain ⟨its, r', pl, hz⟩ := I.tuple hq
    have hlen := r'.length
    exact len_tuple pl (by simp only [List.size_toArray] <;> omega) ⟨.int ys.length, H, I.tok _, ⟨s.toks + 1, by rw [List.size_toArray, hlen]⟩, q⟩
theorem call_list_of : CallR X (.type "list") (fun xs H Q => ∃ p ys, xs = [.ref p] ∧ (SqL X.K H p ys ∨ SqT X.K H p ys) ∧ ∀ l, H l = none → Q (.ref l) (upd H l (.lst ys))) := by
  intro pins s σ H xs us Q I r h
  obtain ⟨p, ys, rfl, hq, q⟩ := h
  obtain ⟨u, rfl, rx⟩ := vals1 r
  cases rx
  have fin : ∀ (its : List Value), Vals ys its → ys.length ≤ sizeLine → ∀ (h' : Heap) (c' : Nat), (∀ b o', s.heap.get? b = some o' → h'.get? b = some o') →
      h'.get? s.heap.objs.size = some { cls := .type "list", dict := none, data := .seq its.toArray c', slots := #[] } → EP X pins σ Q (.ref s.heap.objs.size) { s with heap := h' } := fun its r' hz h' c' kp e =>
    ⟨.ref s.heap.objs.size, _, I.laid (t' := s.toks) kp (Nat.le_refl _) (show ObjOk X.prog X.w _ h' _ (.lst ys) from ⟨hz, its, c', r', e⟩), rfl, q _ (I.hok.fresh (Nat.le_refl _))⟩
  rcases hq with hq | hq
  · obtain ⟨its, r', pl, hz⟩ := I.list hq
    have hlen := r'.length
    obtain ⟨o, ho, hc, n, hd⟩ := pl.isList
    exact call_list_seq p (.inl rfl) ho hc hd (fun h' c' kp e => fin its r' hz h' c' kp e) (by simp only [List.size_toArray] <;> omega)
  · obtain ⟨its, r', pl, hz⟩ := I.tuple hq
    have hlen := r'.length
    obtain ⟨o, ho, hc, n, hd⟩ := pl
    exact call_list_seq p (.inr rfl) ho hc hd (fun h' c' kp e => fin its r' hz h' c' kp e) (by simp only [List.size_toArray] <;> omega)
theorem call_tuple_of : CallR X (.type "tuple") (fun xs H Q => ∃ p ys, xs = [.ref p] ∧ ((SqL X.K H p ys ∧ ∀ l, H l = none → Q (.ref l) (upd H l (.tup ys))) ∨ (SqT X.K H p ys ∧ Q (.ref p) H))) := by
  intro pins s σ H xs us Q I r h
  obtain ⟨p, ys, rfl, h⟩ := h
  obtain ⟨u, rfl, rx⟩ := vals1 r
  cases rx
  rcases h with ⟨hq, q⟩ | ⟨hq, q⟩
  · obtain ⟨its, r', pl, hz⟩ := I.list hq
    have hlen := r'.length
    refine call_tuple_list pl.isList (fun h' kp => ?_) (by simp only [List.size_toArray] <;> omega)
    have I1 : Inv X pins σ H { s with heap := h' } := I.kept (t' := s.toks) kp
    have I2 : Inv X pins σ (upd H h'.objs.size (.tup ys)) { s with heap := h'.push { cls := .type "tuple", data := .seq its.toArray } } :=
      I1.laid (t' := s.toks) (fun b o e => Heap.get?_push_of_some _ e) (Nat.le_refl _) (show ObjOk X.prog X.w _ _ _ (.tup ys) from ⟨hz, its, r', IsTup.new _ _⟩)
    exact ⟨.ref h'.objs.size, _, I2, rfl, q _ (I1.hok.fresh (Nat.le_refl _))⟩
  · obtain ⟨its, r', pl, hz⟩ := I.tuple hq
    exact call_tuple_same pl ⟨.ref p, H, I, rfl, q⟩

/-! ### the call of a builtin's method: o.m(..) -/
/-- the value is of that builtin type -/
def tyV (K : PySem.W.Frag) (T : String) (x : V) (H : Hp) : Prop := match x with
  | .str _ => T = "str"
  | .int _ => T = "int"
  | .ref p => (T = "list" ∧ ∃ xs, SqL K H p xs) ∨ (T = "tuple" ∧ ∃ o, K.lookup p = some o ∧ o.cls = .type "tuple" ∧ o.dict = none) ∨
      (T = "dict" ∧ ((∃ kvs, H p = some (.dK kvs)) ∨ ∃ kvs, H p = some (.dT kvs))) ∨ (T = "set" ∧ ∃ S n, H p = some (.set S n))
  | _ => False
theorem tyV_is {pins : List (Addr × Obj)} {σ : St} {H : Hp} {s : Shared} {T : String} {x : V} {v : Value} (I : Inv X pins σ H s) (r : RelV x v) (ty : tyV X.K T x H) :
    s.TypeIs v T ∧ ∀ a, v = .ref a → ∃ ob, s.heap.get? a = some ob ∧ ob.dict = none := by
  cases x with
  | str z =>
    obtain ⟨t, rfl⟩ := r
    cases (show T = "str" from ty)
    exact ⟨typeIs_str s z t, fun _ e => nomatch e⟩
  | int i =>
    obtain ⟨t, rfl⟩ := r
    cases (show T = "int" from ty)
    exact ⟨typeIs_int s i t, fun _ e => nomatch e⟩
  | ref p =>
    cases r
    rcases ty with ⟨rfl, xs, hq⟩ | ⟨rfl, o, hk, hc, hd⟩ | ⟨rfl, hk⟩ | ⟨rfl, S, n, hk⟩
    · obtain ⟨its, _, pl, _⟩ := I.list hq
      refine ⟨pl.isList.typeIs, fun a e => ?_⟩
      cases e
      obtain ⟨o, n, e, c, hd, _⟩ := pl
      exact ⟨o, e, hd⟩
    · refine ⟨⟨o, I.kIn p o hk, hc⟩, fun a e => ?_⟩
      cases e
      exact ⟨o, I.kIn _ o hk, hd⟩
    · have z : ∃ o, s.heap.get? p = some o ∧ o.ExactDict := by
        rcases hk with ⟨kvs, hk⟩ | ⟨kvs, hk⟩
        · obtain ⟨_, _, _, _, o, _, _, e, ex, _⟩ := I.hok p _ hk
          exact ⟨o, e, ex⟩
        · obtain ⟨_, _, _, _, o, _, _, e, ex, _⟩ := I.hok p _ hk
          exact ⟨o, e, ex⟩
      obtain ⟨o, e, ex⟩ := z
      refine ⟨⟨o, e, ex.1⟩, fun a e2 => ?_⟩
      cases e2
      exact ⟨o, e, ex.2.1⟩
    · obtain ⟨o, _, _, _, e, ex, _⟩ := I.hok p _ hk
      refine ⟨⟨o, e, ex.1⟩, fun a e2 => ?_⟩
      cases e2
      exact ⟨o, e, ex.2.1⟩
  | _ => exact False.elim ty
def tBM (K : PySem.W.Frag) (T : String) (r : V → List V → Hp → VK → Prop) (to : TE) (t : TA) : TE := fun σ H Q => to σ H fun x H1 => tyV K T x H1 ∧ t σ H1 fun xs H2 => r x xs H2 Q
variable {o e : Expr} {es : List Expr} {to : TE} {t : TA} {name : Str} {apos cpos : Pos} {T id : String} {r : V → List V → Hp → VK → Prop}
theorem pe_bm (pa : PlainAttrs T) (slot : Slot T name id) (hty : typeOf (.builtin id) = pure (.type "method_descriptor")) (hm : MtR X id r) (ho : PE X o to) (ha : PA X (e :: es) t)
    (hbase : attributeBase o name X.env (eval o X.env) = eval o X.env := by rfl)
    (hfew : ((backTo cpos (starEach (e :: es) X.env)).all (fun x => !x.1) && (backToKw cpos (keywordEach [] X.env)).all (fun x => x.1.isSome)
      && decide ((e :: es).length + ([] : List Keyword).length + (if ([] : List Keyword).isEmpty then 0 else 1) < 30)) = true := by rfl)
    (hline : (apos.endLine == cpos.line) = true := by rfl) (hs : starEach (e :: es) X.env = (false, eval e X.env) :: starEach es X.env := by rfl) (hplain : (backTo cpos (starEach es X.env)).any (·.1) = false := by rfl) :
    PE X (.Call (.Attribute o name apos) (e :: es) [] cpos) (tBM X.K T r to t) := by
  intro pins s σ H Q I h
  refine wpAny_Call_method_late hbase hfew hline rfl (thn (ho pins s σ H _ I h) fun v s1 ⟨x, H1, I1, r1, ty, q1⟩ => ?_)
  obtain ⟨h1, h2⟩ := tyV_is I1 r1 ty
  refine ⟨T, id, pa, slot, hty, h1, h2, ?_⟩
  have hA := ha cpos pins s1 σ H1 _ I1 q1
  rw [hs] at hA ⊢
  refine Calls.callWith_builtin (by show (false || (backTo cpos (starEach es X.env)).any (·.1)) = false; rw [hplain] <;> rfl) (Calls.evalArgs_plain ?_)
  exact thn hA fun us s2 ⟨vs, H2, I2, r2, q2⟩ => hm pins s2 σ H2 x vs v us Q I2 r1 r2 q2
/- xs.append(e), list.index on a module's tuple .. are MtR facts of 06m -/
end
end L2

namespace L2
open PySem PySem.Spec PyProof.Rows

def MtM (X : Cx) (id : String) (r : V → List V → Hp → VK → Prop) : Prop :=
  ∀ (pins : List (Addr × Obj)) (s : Shared) (σ : St) (H : Hp) (x : V) (xs : List V) (v : Value) (us : List Value) (Q : VK), Inv X pins σ H s → RelV x v → Vals xs us → r x xs H Q →
    wpAny (model X.prog X.w) X.A (call (.builtin id) (v :: us)) (EP X pins σ Q) X.xe s

/-! ### lists of values -/
theorem Vals.one : ∀ {x : V} {us : List Value}, Vals [x] us → ∃ u, us = [u] ∧ RelV x u
  | _, _, .cons r .nil => ⟨_, rfl, r⟩
theorem Vals.rep {xs : List V} {us : List Value} (h : Vals xs us) : ∀ k : Nat, Vals (List.replicate k xs).flatten (List.replicate k us).flatten
  | 0 => .nil
  | k + 1 => by
    rw [List.replicate_succ, List.replicate_succ, List.flatten_cons, List.flatten_cons]
    exact Vals.append h (Vals.rep h k)
theorem foldl_rep (its : List Value) : ∀ (k : Nat) (acc : List Value),
    List.foldl (fun x1 x2 => x1 ++ x2) acc.toArray (List.replicate k its.toArray) = (acc ++ (List.replicate k its).flatten).toArray
  | 0, acc => by simp
  | k + 1, acc => by
    have e : acc.toArray ++ its.toArray = (acc ++ its).toArray := by simp
    have e2 : (acc ++ its) ++ (List.replicate k its).flatten = acc ++ (List.replicate (k + 1) its).flatten := by
      rw [List.replicate_succ, List.flatten_cons, List.append_assoc]
    rw [← e2, ← foldl_rep its k (acc ++ its), ← e, List.replicate_succ, List.foldl_cons]

section
variable {X : Cx} {pins : List (Addr × Obj)} {σ : St} {H : Hp} {s : Shared} {l b : Addr} {xs ys zs : List V}

/-! ### the two steps: a tracked list is rewritten, a new list is laid -/
theorem Inv.lset {its its' : List Value} {n : Nat} {f : Array Value → Array Value} {t' : Nat} (I : Inv X pins σ H s) (hH : H l = some (.lst xs))
    (e : s.heap.get? l = some { cls := .type "list", data := .seq its.toArray n }) (hf : f its.toArray = its'.toArray) (hv : Vals ys its') (hz : ys.length ≤ sizeLine) :
    Inv X pins σ (upd H l (.lst ys)) { s with heap := s.heap.update l (Obj.mapSeq f), toks := t' } := by
  have q := PySem.IsL.update e f
  rw [hf] at q
  refine I.write (x := l) (e := l) (by rw [hH]; exact trivial) (.inl rfl) (fun b' u hb hu => (Heap.get?_update_other s.heap (Obj.mapSeq f) (Ne.symm hb)).trans hu) ⟨_, q⟩ ?_
  exact ⟨hz, its', _, hv, q⟩
theorem Inv.lnew {its : List Value} {t' : Nat} (I : Inv X pins σ H s) (hv : Vals ys its) (hz : ys.length ≤ sizeLine) :
    Inv X pins σ (upd H s.heap.objs.size (.lst ys)) { s with heap := s.heap.push { cls := .type "list", data := .seq its.toArray }, toks := t' } :=
  I.laid (fun _ _ q => Heap.get?_push_of_some _ q) (Nat.le_refl _) ⟨hz, its, 0, hv, Heap.get?_push_size _ rfl⟩
theorem Inv.fresh (I : Inv X pins σ H s) : H s.heap.objs.size = none := I.hok.fresh (Nat.le_refl _)
theorem Inv.lstM (I : Inv X pins σ H s) (hH : H l = some (.lst xs)) : xs.length ≤ sizeLine ∧ ∃ (its : List Value) (n : Nat), Vals xs its ∧ xs.length = its.length ∧ s.heap.get? l = some { cls := .type "list", data := .seq its.toArray n } := by
  obtain ⟨z, its, n, r, e⟩ := I.hok l _ hH
  exact ⟨z, its, n, r, r.length, e⟩

theorem notLongL {n : Nat} (h : n ≤ sizeLine) : Builtin.List.listTooLong n = false := by
  unfold Builtin.List.listTooLong
  exact decide_eq_false (by omega)
end

section
variable {X : Cx}

/-! ### methods -/
def rAppend : V → List V → Hp → VK → Prop := fun x vs H Q => ∃ l xs y, x = .ref l ∧ vs = [y] ∧ H l = some (.lst xs) ∧ xs.length < sizeLine ∧ Q .non (upd H l (.lst (xs ++ [y])))
theorem mt_append : MtM X "list.append" rAppend := by
  intro pins s σ H x vs v us Q I rx rv h
  obtain ⟨l, xs, y, rfl, rfl, hH, hz, q⟩ := h
  cases rx
  obtain ⟨u, rfl, ru⟩ := rv.one
  obtain ⟨z, its, n, r, hl, e⟩ := I.lstM hH
  refine call_meets F.slot_list_append ⟨_, e, rfl⟩ F.entry_list_append (F.args_list_append_2 _ _) (PySem.list_append l its.toArray n u (by rw [List.size_toArray]; omega)) ⟨e, ?_⟩
  refine ⟨.non, _, I.lset (its' := its ++ [u]) hH e (by simp) (r.append (.cons ru .nil)) ?_, rfl, q⟩
  rw [List.length_append, List.length_singleton]
  omega

def rExtend : V → List V → Hp → VK → Prop := fun x vs H Q => ∃ l b xs zs, x = .ref l ∧ vs = [.ref b] ∧ H l = some (.lst xs) ∧ H b = some (.lst zs) ∧ xs.length + zs.length ≤ sizeLine ∧ Q .non (upd H l (.lst (xs ++ zs)))
theorem mt_extend : MtM X "list.extend" rExtend := by
  intro pins s σ H x vs v us Q I rx rv h
  obtain ⟨l, b, xs, zs, rfl, rfl, hH, hB, hz, q⟩ := h
  cases rx
  obtain ⟨u, rfl, ru⟩ := rv.one
  cases ru
  obtain ⟨z, its, n, r, hl, e⟩ := I.lstM hH
  obtain ⟨z2, its2, n2, r2, hl2, e2⟩ := I.lstM hB
  have hsz : its.toArray.size + its2.toArray.size ≤ sizeLine := by rw [List.size_toArray, List.size_toArray]; omega
  have hlong : ¬ (!its.toArray.isEmpty && Builtin.List.listTooLong (its.toArray.size + its2.toArray.size)) = true := by
    rw [notLongL hsz, Bool.and_false]
    exact Bool.false_ne_true
  refine call_meets F.slot_list_extend ⟨_, e, rfl⟩ F.entry_list_extend (F.args_list_extend_2 _ _)
    (AutoSeq1.list_extend_list_list_0 l its.toArray n b its2.toArray n2 hlong (by rw [List.size_toArray]; omega) (by omega)) ⟨e, e2, ?_⟩
  refine ⟨.non, _, I.lset (its' := its ++ its2) hH e (by simp) (r.append r2) ?_, rfl, q⟩
  rw [List.length_append]
  omega





/-! ### list + list, list += list, list * int -/
def rCat : R2 := fun x y H Q => ∃ l b xs zs, x = .ref l ∧ y = .ref b ∧ H l = some (.lst xs) ∧ H b = some (.lst zs) ∧ xs.length + zs.length ≤ sizeLine ∧ ∀ p, H p = none → Q (.ref p) (upd H p (.lst (xs ++ zs)))
theorem op_cat : OpR X (binaryOp .Add) rCat := by
  intro pins s σ H x y v u Q I rx ry h
  obtain ⟨l, b, xs, zs, rfl, rfl, hH, hB, hz, q⟩ := h
  cases rx
  cases ry
  obtain ⟨z, its, n, r, hl, e⟩ := I.lstM hH
  obtain ⟨z2, its2, n2, r2, hl2, e2⟩ := I.lstM hB
  refine PySem.P.add_list e e2 ?_ (by rw [List.size_toArray, List.size_toArray]; omega)
  have ea : its.toArray ++ its2.toArray = (its ++ its2).toArray := by simp
  rw [ea]
  exact ⟨.ref _, _, I.lnew (t' := s.toks) (r.append r2) (by rw [List.length_append]; omega), rfl, q _ I.fresh⟩
/-- a list times an int (a negative one is nothing) -/
def rRep : R2 := fun x y H Q => ∃ l k xs, x = .ref l ∧ y = .int k ∧ H l = some (.lst xs) ∧ -(2 ^ 63) ≤ k ∧ k < 2 ^ 63 ∧ xs.length * k.toNat ≤ sizeLine ∧
  ∀ p, H p = none → Q (.ref p) (upd H p (.lst (List.replicate k.toNat xs).flatten))
theorem len_rep {α : Type} (xs : List α) (k : Nat) : (List.replicate k xs).flatten.length = k * xs.length := by
  induction k with
  | zero => simp
  | succ k ih => rw [List.replicate_succ, List.flatten_cons, List.length_append, ih, Nat.succ_mul, Nat.add_comm]
theorem op_rep : OpR X (binaryOp .Mult) rRep := by
  intro pins s σ H x y v u Q I rx ry h
  obtain ⟨l, k, xs, rfl, rfl, hH, h1, h2, hz, q⟩ := h
  cases rx
  obtain ⟨t, rfl⟩ := ry
  obtain ⟨z, its, n, r, hl, e⟩ := I.lstM hH
  have hlen : its.toArray.size * k.toNat ≤ sizeLine := by rw [List.size_toArray, ← hl]; exact hz
  have hcap : ¬ its.toArray.size * k.toNat > (2 ^ 63 - 1) / 8 := by
    have : (sizeLine : Nat) ≤ (2 ^ 63 - 1) / 8 := by decide
    omega
  have hfit : ¬ (!Builtin.List.listFitsIndex k) = true := by
    rw [fitsIndex_both h1 h2]
    exact Bool.false_ne_true
  have hlong : ¬ Builtin.List.listTooLong (its.toArray.size * k.toNat) = true := by
    rw [notLongL hlen]
    exact Bool.false_ne_true
  have hnew : List.foldl (fun x1 x2 => x1 ++ x2) #[] (List.replicate (if its.toArray.isEmpty = true then 0 else k.toNat) its.toArray) = (List.replicate k.toNat its).flatten.toArray := by
    have f0 : ∀ m : Nat, List.foldl (fun x1 x2 => x1 ++ x2) #[] (List.replicate m its.toArray) = (List.replicate m its).flatten.toArray := fun m => by
      have := foldl_rep its m []
      rw [List.nil_append] at this
      exact this
    rw [f0]
    cases its with
    | nil => simp
    | cons a r' => rw [if_neg (by simp)]
  refine wpAny_binaryOp_repeat_ref (T := "list") (U := "int") (by decide) ⟨_, e, rfl⟩ (fun s' => typeIs_int s' k t) noFill_list_mul F.fills_int_mul F.slot_int_rmul repeat_list F.slot_int_index.lookup
    (call_meets F.slot_int_rmul (typeIs_int s k t) F.entry_int_rmul (F.args_int_rmul_2 _ _) (int___rmul___int_list k t l its.toArray n)
      ⟨e, rfl, ⟨_, e, rfl⟩, call_meets F.slot_list_mul ⟨_, e, rfl⟩ F.entry_list_mul (F.args_list_mul_2 _ _) (AutoListH.list___mul___list_int_3 l its.toArray n k t hfit hcap hlong) ⟨e, ?_⟩⟩)
  rw [hnew]
  exact ⟨.ref _, _, I.lnew (t' := s.toks) (r.rep k.toNat) (by rw [len_rep, Nat.mul_comm]; exact hz), rfl, q _ I.fresh⟩

/-! ### del xs[i] -/
end

/-! ### xs[a:b] = ys -/
section
variable {prog : Program} {w : World} {A : Around} {E : Value → Shared → Prop} {s : Shared}
set_option maxRecDepth 100000 in
end

section
variable {X : Cx}
end
end L2

namespace Att
open PySem PySem.W PySem.Calls PyProof.Rows

/-! ### the script -/
theorem ints_of_wellAll {P : Params} {h : Heap} : ∀ (ns : List Int) (vs : List Value), WellAll P h vs (ns.map WData.int) → IntsAre vs ns := by
  intro ns
  induction ns with
  | nil =>
    intro vs w
    rw [List.map_nil] at w
    cases w
    exact .nil
  | cons n ns ih =>
    intro vs w
    rw [List.map_cons] at w
    cases w with
    | cons a b =>
      cases a
      exact .cons _ _ (ih _ b)

theorem script_of {l : OpenLaw} {n : Nat} (hn : l.most = some n) {P : Params} {h : Heap} {args : List WData} {vals : List Value}
    (hpre : l.row.toRowW.claim.pre args = true) (hwl : WellAll P h vals args) :
    ∃ a vs ns, vals = [Value.ref a] ∧ args = [WData.list (ns.map WData.int)] ∧ h.get? a = some { cls := .type "list", data := .seq vs.toArray } ∧ IntsAre vs ns ∧ ns.length ≤ n := by
  have hsh : WShape.hasAll [] args [.list .int] = true := (pre_splitW hpre).1
  have hc : l.pre.holds [] { args := args } = true := (pre_splitW hpre).2
  obtain ⟨d, r, rfl, h1, h2⟩ := hasAllW_cons hsh
  obtain rfl := hasAllW_nil h2
  obtain ⟨xs, rfl, h3⟩ := hasW_list h1
  obtain ⟨ns, rfl⟩ := items_int h3
  have hlen : ns.length ≤ n := by
    unfold OpenLaw.pre at hc
    have h4 : (WTm.not (.lt (.lit (.int (n : Int))) (.len (.arg 0)))).holds [] { args := [.list (ns.map .int)] } = true := by
      have h4 := (holds_andW hc).1
      rw [hn] at h4
      exact h4
    have h5 := condW_of h4 (w_not (w_lt w_lit (w_len_list (w_arg rfl))))
    rw [List.length_map] at h5
    refine Nat.le_of_not_lt fun q => ?_
    have q' : (n : Int) < ((ns.length : Nat) : Int) := by omega
    first
      | (rw [decide_eq_true q'] at h5; exact absurd h5 (by decide))
      | (simp at h5; omega)
  cases hwl with
  | cons w1 w2 =>
    cases w2
    cases w1 with
    | list ho hall => exact ⟨_, _, ns, rfl, rfl, ho, ints_of_wellAll ns _ hall, hlen⟩

theorem post_true (l : OpenLaw) (args : List WData) : l.row.toRowW.claim.post args (.bool true) args = true :=
  postW_of (r := l.row.toRowW) (X := (true == true))
    (show WShape.has [] (.bool true) .bool = true by first | rfl | decide | simp [WShape.has, WShape.arms, WShape.armsAll])
    (show (WTm.eq .res (.lit (.bool true))).value [] { args := args, res := some (.bool true), after := args } = some (.bool (true == true)) from w_eq_bool (w_res rfl) w_lit) rfl

/-! ### the attachment: holds_open's last premise (the goal 'hc' behind k_head) from a wpAny of the law's body -/

/-- the same from a codeAny of the CALL (for a layer whose function contracts speak of calls) -/
theorem attach_call {l : OpenLaw} {n : Nat} {q : Program} {loose : List Str} {XP : (Str → Option Value) → Heap → Prop} {YP : World → Heap → Prop} {d : DefRec}
    (hn : l.most = some n) (hdf : d.params.defaults = [])
    (call : ∀ (w : World) (s₀ s₁ : Shared) (mg mb : Str → Option Value) (fa : Addr) (o : Obj) (pm cd doc : Value) (a : Addr) (vs : List Value) (ns : List Int),
      Ground q loose [] XP w s₀ mg mb s₁.heap → YP w s₁.heap →
      s₁.heap.get? fa = some o → o.data = .func (docDef d.name d.params d.body d.scope pm cd doc) → s₁.heap.CodeRec cd d.name → mg d.name = some (.ref fa) →
      s₁.heap.get? a = some { cls := .type "list", data := .seq vs.toArray } → IntsAre vs ns → ns.length ≤ n → s₁.gens = #[] →
      codeAny (model l.prog w) callerA (.call (.ref fa) ⟨[.ref a], []⟩) (fun r s' => r = .ok (.ret (.bool true)) ∧ OldK s₁.heap s'.heap ∧ s'.os = s₁.os ∧ AllBare s'.gens) s₁) :
    WalkO q loose XP YP l.row.toRowW d [] (fun f vs => PySem.call f vs) := by
  intro w s₀ s₁ mg mb G Y fa o pm cd doc dV kV ho hd hcd hD hmg hg args vals as hpre hlay hrd hwl hlo
  obtain rfl : dV = .none := Dflts.none hD hdf
  obtain rfl : kV = .none := Dflts.noKw hD
  obtain ⟨a, vs, ns, rfl, rfl, hobj, hints, hlen⟩ := script_of hn hpre hwl
  refine enter_call (codeAny_mono (call w s₀ s₁ mg mb fa o pm cd doc a vs ns G Y ho (fd_plain hd) hcd hmg hobj hints hlen hg) fun r s' hq => ?_)
  obtain ⟨rfl, h2, h3, h4⟩ := hq
  exact ⟨.inl ⟨.bool true, .bool true, [], rfl, fun _ => rfl, .bool true, post_true l _, fun _ => ⟨List.Pairwise.nil, fun _ hm => (nomatch hm)⟩⟩, h2, h3, h4⟩


/-! ### rules over ANY heap (no ledger) from facts about the written part K: the library's own take a ledger (News) for what they write -/
section
variable {prog : Program} {w : World} {A : Around} {E : Value → Shared → Prop} {s : Shared} {K : Frag}





/-! the whole heap as the ledger: makes every rule that writes through a ledger a rule over any heap -/

end
end Att

namespace L2
open PySem PySem.Spec PyProof.Rows

theorem vals_ints : ∀ {vs : List Value} {ns : List Int}, IntsAre vs ns → Vals (ns.map V.int) vs
  | _, _, .nil => .nil
  | _, _, .cons n t h => .cons ⟨t, rfl⟩ (vals_ints h)

/-- nothing is tracked but the script, known to the object (or it is an object of the module) -/
def Only (H : Hp) : Prop := ∀ b, H b = none ∨ ∃ o xs, H b = some (.frz o (.lst xs))

/-- THE HEAD: the law's promise, at the heap behind the top. F, the promise of the law's def, may use that base is part of the heap (so K.In base, base.Ns mainGlobals mg stand in Mod) -/
theorem law_call {P : Program} {w : World} {K : PySem.W.Frag} {mg mb : Str → Option Value} {CX : CXT} {k : Nat} {fa a : Addr} {fd : FuncData} {x : Str} {sp : Sp} {s₁ : Shared} {vs : List Value} {ns : List Int}
    (KX : K.In s₁.heap) (hns : s₁.heap.Ns mainGlobals mg) (hb : s₁.heap.Ns builtinsNs mb) (hbb : ∀ x : Str, x ≠ "__name__" → mb x = bootBuiltins x) (hlim : s₁.heap.NoLimit) (hg : s₁.gens = #[])
    (ha : s₁.heap.get? a = some { cls := .type "list", data := .seq vs.toArray }) (hi : IntsAre vs ns) (hl : ns.length ≤ sizeLine) (hr : Room k callerA)
    (F : ∀ base : Heap, K.In base → base.Ns mainGlobals mg → FnOk P w K mg base CX k fa fd [x] sp) (hbind : ∀ (s : Shared) (u : Value), BindsTo s fd ⟨[u], []⟩ [(x, u)])
    (hsp : ∀ H : Hp, Only H → SqL K H a (ns.map V.int) → sp [.ref a] H (fun v _ => v = .bl true) fun _ _ _ => False)
    (hCX : ∀ H e s', CX [] H s₁ (fun _ _ _ => False) e s' → False) :
    codeAny (model P w) callerA (.call (.ref fa) ⟨[.ref a], []⟩) (fun r s' => r = .ok (.ret (.bool true)) ∧ OldK s₁.heap s'.heap ∧ s'.os = s₁.os ∧ AllBare s'.gens) s₁ := by
  have rv := vals_ints hi
  have lenV := hi.length
  -- from an abstract heap in which nothing but the script may be tracked
  have core : ∀ H : Hp, Only H → SqL K H a (ns.map V.int) → HOk P w H s₁.heap → (∀ b, H b ≠ none → b = a) → (H a ≠ none → K.lookup a = none) →
      codeAny (model P w) callerA (.call (.ref fa) ⟨[.ref a], []⟩) (fun r s' => r = .ok (.ret (.bool true)) ∧ OldK s₁.heap s'.heap ∧ s'.os = s₁.os ∧ AllBare s'.gens) s₁ := by
    intro H hO hS hok hA hK
    have base_of : ∀ {b : Addr} {o : Obj}, s₁.heap.get? b = some o → H b = none → (hidT s₁.heap H).get? b = some o := fun e n => hidT_get e n
    have noA : ∀ {b : Addr} {o : Obj} {es : Array DictEntry} {ep : Nat}, s₁.heap.get? b = some o → o.data = .dict es ep → H b = none := fun {b o es ep} e d => by
      cases q : H b with
      | none => rfl
      | some u =>
        have e' : b = a := hA b (by rw [q]; simp)
        subst e'
        rw [ha] at e; cases e
        have d' : Data.seq vs.toArray _ = Data.dict es ep := d
        cases d'
    have nsK : ∀ {b : Addr} {m : Str → Option Value}, s₁.heap.Ns b m → (hidT s₁.heap H).Ns b m := fun {b m} ⟨o, es, ep, e, d, r⟩ => ⟨o, es, ep, base_of e (noA e d), d, r⟩
    have hKb : K.In (hidT s₁.heap H) := fun b o e => base_of (KX b o e) (by
      cases q : H b with
      | none => rfl
      | some u =>
        have e' : b = a := hA b (by rw [q]; simp)
        subst e'
        rw [hK (by rw [q]; simp)] at e; cases e)
    have hM : Mod K mg (hidT s₁.heap H) := ⟨hKb, nsK hns, ⟨mb, nsK hb, hbb⟩, let ⟨mc, h1, h2⟩ := hlim; ⟨mc, nsK h1, h2⟩⟩
    have e0 : Env0 P w K mg (hidT s₁.heap H) callerA [] s₁ H := ⟨rfl, hM, fun b o e => of_hidT e, Nat.le_of_eq (hidT_size _ _), trivial, fun b hb => absurd (show b ∈ ([] : List Addr) from hb) (by simp), hok, .of_eq hg⟩
    refine codeAny_mono ((F _ hKb (nsK hns)).run callerA [] s₁ H ⟨[.ref a], []⟩ [.ref a] [.ref a] _ _ hr e0 (hbind s₁ (.ref a)) (.cons rfl .nil) (hsp H hO hS)) fun r s' h => ?_
    cases r with
    | error e => exact (hCX H e s' h).elim
    | ok fl =>
      cases fl with
      | next => exact False.elim h
      | brk => exact False.elim h
      | cont => exact False.elim h
      | ret u =>
        obtain ⟨v, H', os, bare, un, hok', r', q⟩ := h
        have q' : v = .bl true := q
        subst q'
        obtain rfl : u = Value.bool true := r'
        refine ⟨rfl, OldK.of_keep fun b o e => ?_, os, bare⟩
        cases q : H b with
        | none => exact un.keep b o e q (by intro z; exact absurd (show b ∈ ([] : List Addr) from z) (by simp)) (by simp)
        | some u =>
          rcases hO b with z | ⟨ob, xs, z⟩
          · rw [q] at z; cases z
          · have z2 := un.frzs b ob _ z
            obtain ⟨e1, _⟩ := hok b _ z
            obtain ⟨e2, _⟩ := hok' b _ z2
            rw [e] at e1; cases e1
            exact e2
  cases hk : K.lookup a with
  | some o =>
    -- the script is one of the module's own objects
    have e := KX a o hk
    rw [ha] at e
    cases e
    refine core (fun _ => none) (fun _ => .inl rfl) (.inr ⟨_, vs.toArray, _, hk, rfl, rfl, rfl, by rw [List.size_toArray, lenV]; exact hl, by simpa using rv⟩) (fun b u z => by have z' : (none : Option HO) = some u := z; cases z') (fun b z => absurd rfl z) fun z => absurd rfl z
  | none =>
    refine core (fun b => if b = a then some (.frz { cls := .type "list", data := .seq vs.toArray } (.lst (ns.map V.int))) else none) (fun b => ?_) (.inl (.inr ⟨{ cls := .type "list", data := .seq vs.toArray }, if_pos rfl⟩)) (fun b u z => ?_) (fun b z => ?_) fun _ => hk
    · by_cases hb : b = a
      · exact .inr ⟨_, _, if_pos hb⟩
      · exact .inl (if_neg hb)
    · by_cases hb : b = a
      · have z' := (if_pos hb).symm.trans z
        cases z'
        subst hb
        exact ⟨ha, by rw [List.length_map]; exact hl, vs, _, rv, ha⟩
      · have z' := (if_neg hb).symm.trans z
        cases z'
    · by_cases hb : b = a
      · exact hb
      · exact absurd (if_neg hb) z
end L2

namespace L2
open PySem PySem.Spec PyProof.Rows

abbrev KOf {K : PySem.W.Frag} {h : Heap} (_ : K.In h) : PySem.W.Frag := K

/-- the goal that k_head leaves (case hc), from the law's promise. F gives the function object fd (K's own) once, then the promise over every base -/
theorem walk_of {l : PySem.W.OpenLaw} {n k : Nat} {q : Program} {loose : List Str} {XP : (Str → Option Value) → Heap → Prop} {YP : World → Heap → Prop} {d : DefRec} {K : Params → PySem.W.Frag} {CX : World → CXT} {sp : World → Sp} {x : Str}
    (hn : l.most = some n) (hn2 : n ≤ sizeLine) (hdf : d.params.defaults = []) (hr : Room k callerA)
    (hY : ∀ (w : World) (h : Heap), YP w h → (K w.params).In h)
    (F : ∀ (w : World) (mg : Str → Option Value) (fa : Addr) (h : Heap), (K w.params).In h → h.Ns mainGlobals mg → mg d.name = some (.ref fa) →
      ∃ fd : FuncData, (∀ (s : Shared) (u : Value), BindsTo s fd ⟨[u], []⟩ [(x, u)]) ∧
        ∀ base : Heap, (K w.params).In base → base.Ns mainGlobals mg → FnOk l.prog w (K w.params) mg base (CX w) k fa fd [x] (sp w))
    (hsp : ∀ (w : World) (H : Hp) (a : Addr) (ns : List Int), ns.length ≤ n → Only H → SqL (K w.params) H a (ns.map V.int) → sp w [.ref a] H (fun v _ => v = .bl true) fun _ _ _ => False)
    (hCX : ∀ (w : World) (H : Hp) (s : Shared) (e : Value) (s' : Shared), CX w [] H s (fun _ _ _ => False) e s' → False) :
    PySem.W.WalkO q loose XP YP l.row.toRowW d [] (fun f vs => PySem.call f vs) := by
  refine Att.attach_call hn hdf fun w s₀ s₁ mg mb fa o pm cd doc a vs ns G Y ho hd hcd hmg hobj hints hlen hg => ?_
  have KX := hY w _ Y
  obtain ⟨fd, hb, hF⟩ := F w mg fa _ KX G.T.g hmg
  exact law_call KX G.T.g G.T.b G.T.builtins G.T.nolimit hg hobj hints (Nat.le_trans hlen hn2) hr hF hb (fun H hO hS => hsp w H a ns hlen hO hS) fun H e s' => hCX w H s₁ e s'
end L2

/- THE LAST THEOREM (shape; LID, My.* are yours):
   My.Adr: a structure of the addresses that your layer names (classes, functions); My.Txt K t: a structure (Prop) of the equations over K;
   My.txt_mk : {K} {implicit addresses ..} (e1 : nsIn K mainGlobals "law" = some (some (.ref f))) (e2 : K.lookup f = some ⟨oc, od, .func (fnOf "law" "law" params body scope dV kV doc pm an cdv ct), sl⟩) (e3 : codeIn K cdv "law" = true) .. : ∃ t, My.Txt K t

set_option maxRecDepth 100000 in
set_option maxHeartbeats 0 in
theorem PySem.Challenge.cw_LID_holds : PySem.Challenge.rw_LID.Holds := by
  w_on; o_law; k_head; (case hw => w_witness2)
  k_fill
  refine L2.walk_of (l := PySem.Challenge.rw_LID) (n := 63) (k := 40) (x := "script") (CX := fun w => ..) (sp := fun _ => My.sp_law) rfl (by decide) rfl ⟨rfl, by decide, by decide⟩ (fun w h Y => PySem.W.kIn_of Y) ?F ?S ?C
  case F =>
    intro w mg fa h KX G hmg
    have T : ∃ t, My.Txt (L2.KOf KX) t := by
      dsimp only [L2.KOf]                          -- K must stand as «<heap const> w.params» for k_is
      refine' My.txt_mk ?e1 ?e2 ?e3 ..
      (case e1 => PySem.W.k_is)                    -- in the order: a name -> its address -> its object -> its parts
      (case e2 => PySem.W.k_is)
      ..
    obtain ⟨t, T⟩ := T
    have e0 := hmg.symm.trans (PySem.W.mg_of KX G T.law)
    cases e0                                       -- fa is the law's own address
    exact ⟨_, fun s u => .of_eq rfl, fun base kb nb => My.law_fn T kb nb⟩     -- if «.of_eq rfl» comes too early: refine' ⟨_, ?b, fun base kb nb => My.law_fn T kb nb⟩; exact fun s u => .of_eq rfl
  case S => exact fun w H a ns hl hO hS => ..
  case C => exact ..
(the tactic k_is has no namespace: write k_is) -/

/-! SHORT WORDS over the layer: a def of the text, its body, what a loop and a test want. -/
namespace L2
open PySem PySem.Spec PyProof.Rows

/-! ### the text by places -/
def defArgs (s : Stmt) : Arguments := match s with
  | .FunctionDef _ a _ _ _ _ _ _ _ _ => a
  | _ => { posonlyargs := [], args := [], vararg := none, kwonlyargs := [], kw_defaults := [], kwarg := none, defaults := [] }
def defBody (s : Stmt) : List Stmt := match s with
  | .FunctionDef _ _ b _ _ _ _ _ _ _ => b
  | _ => []
def defScope (s : Stmt) : Scope := match s with
  | .FunctionDef _ _ _ _ _ _ sc _ _ _ => sc
  | _ => { kind := .function, names := [], isGenerator := false, isCoroutine := false }

/-! ### no exception leaves a def -/
abbrev CX0 : CXT := fun _ _ _ _ _ _ => False
abbrev E0 : XK := fun _ _ _ => False
theorem pass0 {X : Cx} : Passes CX0 X E0 := fun _ _ _ _ _ _ _ h => h.elim

/-! ### a def (or method) of the text as it stands behind the top -/
structure Fun (K : PySem.W.Frag) (x qual : Str) (st : Stmt) (f : Addr) (fd : FuncData) : Prop where
  ex : ∃ (oc : Value) (od : Option Addr) (kV doc pm : Value) (an : Option Addr) (cdv ct : Value) (osl : Array (Option Value)),
    fd = PySem.W.fnOf x qual (defArgs st) (defBody st) (defScope st) .none kV doc pm an cdv ct ∧ K.lookup f = some ⟨oc, od, .func fd, osl⟩ ∧ PySem.W.codeIn K cdv qual = true
  kp : PySem.W.keepIn K (.ref f) = true
section
variable {P : Program} {w : World} {K : PySem.W.Frag} {mg : Str → Option Value} {base : Heap}
/-- THE RULE for a def: its body as a term of rules, and the reading of that term -/
theorem Fun.ok {x qual : Str} {st : Stmt} {f : Addr} {fd : FuncData} {N ps : List Str} {k : Nat} {sp : Sp} (F : Fun K x qual st f fd) (S : FnScope N ps (defScope st)) (len : ∀ vs H Q E, sp vs H Q E → vs.length = ps.length)
    (hbody : ∀ (cdv : Value) (A : Around) (outer : List Env) (s : Shared) (H : Hp) (vs : List V) (Q : VK) (E : XK), Room k (A.deeper (envOfC qual (defScope st) s.heap.objs.size f cdv)) → sp vs H Q E →
      ∃ t, PSs (cxOf CX0 P w K mg base N qual (defScope st) f cdv A outer s H E).nox (defBody st) t ∧ t { nx := fun _ H' => Q .non H', rt := Q } (start N vs) H) : FnOk P w K mg base CX0 (k + 1) f fd ps sp := by
  obtain ⟨oc, od, kV, doc, pm, an, cdv, ct, osl, rfl, lk, hcd⟩ := F.ex
  refine fn_of lk hcd S len fun A outer s H vs Q E hr hsp => ?_
  obtain ⟨t, h, q⟩ := hbody cdv A outer s H vs Q E hr hsp
  exact ⟨t, h.nox, q⟩
/-- how its arguments bind (no defaults): h is «fun _ _ _ _ _ _ us hl => match us, hl with | [_, _], _ => rfl», one _ a parameter -/
theorem Fun.binds {x qual : Str} {st : Stmt} {f : Addr} {fd : FuncData} {ps : List Str} (F : Fun K x qual st f fd)
    (h : ∀ (kV doc pm : Value) (an : Option Addr) (cdv ct : Value) (us : List Value), us.length = ps.length → bindArgs (PySem.W.fnOf x qual (defArgs st) (defBody st) (defScope st) .none kV doc pm an cdv ct) ⟨us, []⟩ = pure (ps.zip us)) : Binds K fd ps [] := by
  obtain ⟨oc, od, kV, doc, pm, an, cdv, ct, osl, rfl, lk, hcd⟩ := F.ex
  exact .all (h kV doc pm an cdv ct)
theorem fun_mk {x qual : Str} {st : Stmt} {f : Addr} {oc : Value} {od an : Option Addr} {osl : Array (Option Value)} {kV doc pm cdv ct : Value} (l : K.lookup f = some ⟨oc, od, .func (PySem.W.fnOf x qual (defArgs st) (defBody st) (defScope st) .none kV doc pm an cdv ct), osl⟩)
    (c : PySem.W.codeIn K cdv qual = true) (k : PySem.W.keepIn K (.ref f) = true) : Fun K x qual st f (PySem.W.fnOf x qual (defArgs st) (defBody st) (defScope st) .none kV doc pm an cdv ct) := ⟨⟨oc, od, kV, doc, pm, an, cdv, ct, osl, rfl, l, c⟩, k⟩
end
theorem hu_of {A : Around} {k : Nat} (hr : Room k A) : A.units + 1 < cLine := Nat.lt_of_le_of_lt (Nat.add_le_add_left (by decide : 1 ≤ 64) _) hr.units
theorem small1000 {n : Nat} (h : n ≤ 1000) : n < sizeLine := Nat.lt_of_le_of_lt h (by decide)

/-! ### expressions in short: the name that stands in the i-th slot -/
section
variable {X : Cx}
theorem pv (i : Nat) {x : Str} {pos : Pos} (hN : X.N[i]? = some x := by rfl) (hv : Vis X.env.scope x := by first | exact Or.inl rfl | exact Or.inr (Or.inl rfl) | exact Or.inr (Or.inr rfl)) (hd : (x == ("__debug__" : Str)) = false := by decide)
    (hcd : (x == ("__classdict__" : Str)) = false := by decide) : PE X (.Name x pos) (tVar i) := pe_var hN hv hd hcd
end

/-! ### tests -/
theorem iteF {A B : Prop} (h : B) : if false = true then A else B := by
  rw [if_neg Bool.false_ne_true]
  exact h
theorem iteT {A B : Prop} (h : A) : if true = true then A else B := by
  rw [if_pos rfl]
  exact h

/-! ### heaps -/
/-- all that was tracked is as it was -/
def Same (H H' : Hp) : Prop := ∀ b o, H b = some o → H' b = some o
theorem Same.refl (H : Hp) : Same H H := fun _ _ h => h
theorem Same.trans {H H1 H2 : Hp} (a : Same H H1) (b : Same H1 H2) : Same H H2 := fun c o h => b c o (a c o h)
theorem Same.free {H H' : Hp} (e : Same H H') {l : Addr} (h : H' l = Option.none) : H l = Option.none := by
  cases q : H l with
  | none => rfl
  | some o =>
    rw [e l o q] at h
    cases h
theorem Same.seq {K : PySem.W.Frag} {H H' : Hp} {a : Addr} {xs : List V} (e : Same H H') (h : SqL K H a xs) : SqL K H' a xs := by
  rcases h with (h | ⟨o, h⟩) | h
  · exact .inl (.inl (e _ _ h))
  · exact .inl (.inr ⟨o, e _ _ h⟩)
  · exact .inr h

end L2
namespace GS
/-! the law's own going -/
/-! a name is one word -/
end GS
set_option Elab.async false
set_option linter.all false
set_option maxRecDepth 100000
set_option maxHeartbeats 4000000
namespace L2
open PySem PySem.Spec PyProof.Rows PySem.Builtin PySem.Builtin.Str

/-! ### texts -/
section
variable {X : Cx}

end
end L2
set_option Elab.async false
set_option linter.all false
set_option maxRecDepth 100000
set_option maxHeartbeats 4000000
namespace PySem
section
variable {prog : Program} {w : World} {A : Around} {E : Value → Shared → Prop} {R : Result → Shared → Prop} {s : Shared}
end
end PySem
namespace L2
open PySem PySem.Spec PyProof.Rows PySem.Builtin PySem.Builtin.Str

/-! ### a text is walked -/
section
variable {X : Cx} {tg : Expr}
end

/-! ### a comprehension of one clause -/
def blk (X : Cx) (scope : Scope) (cl : List (Str × Addr)) (C : Addr) (N' : List Str) (s0 : Shared) (H0 : Hp) (fp : List Addr) : Cx :=
  { X with N := N', s₀ := s0, H₀ := H0, env := compEnvC scope cl C X.env, outer := X.stack, stack := X.stack, ex := fp, fn := fun _ => false, pn := [], xe := fun _ _ => False }
section
variable {X : Cx}
end
end L2
set_option Elab.async false
set_option linter.all false
set_option maxRecDepth 100000
set_option maxHeartbeats 4000000
namespace L2
open PySem PySem.Spec PyProof.Rows PySem.Builtin PySem.Builtin.Str
section
variable {X : Cx}
/-! ### all of a list of truths -/
theorem vals_bools : ∀ {bs : List Bool} {us : List Value}, Vals (bs.map V.bl) us → us = bs.map Value.bool
  | [], _, .nil => rfl
  | b :: bs, _, .cons r rr => by
    have e : _ = Value.bool b := r
    rw [e, vals_bools rr]; rfl
theorem all_getD (bs : List Bool) : (List.range bs.length).all (fun j => (bs[j]?).getD true) = bs.all id := by
  rw [Bool.eq_iff_iff, List.all_eq_true, List.all_eq_true]
  constructor
  · intro h x hx
    obtain ⟨i, hi, rfl⟩ := List.mem_iff_getElem.mp hx
    have := h i (List.mem_range.mpr hi)
    simpa [hi] using this
  · intro h j hj
    have hj' := List.mem_range.mp hj
    have := h _ (List.getElem_mem hj')
    simpa [hj'] using this
theorem call_all (hc : X.calm = true) : CallR X (.builtin "all") (fun xs H Q => ∃ (p : Addr) (bs : List Bool), xs = [.ref p] ∧ SqL X.K H p (bs.map V.bl) ∧ Q (.bl (bs.all id)) H) := by
  intro pins s σ H xs us Q I r h
  obtain ⟨p, bs, rfl, hq, q⟩ := h
  obtain ⟨u, rfl, ru⟩ := vals1 r
  cases ru
  obtain ⟨its, rv, pl, hz⟩ := I.list hq
  have ei := vals_bools rv
  subst ei
  have hpl : p < s.heap.objs.size := let ⟨o, n, e, _⟩ := pl; Heap.lt_size e
  refine call_all_walk (wpAny_pyIter_list pl.isList ?_)
  refine ⟨s.heap.objs.size, [s.heap.objs.size, p], [s.heap.objs.size], (bs.map Value.bool).toArray.size, _, _, (fun j => (bs[j]?).getD true), rfl,
    Walks.list (A := X.A.in1) (I.ok.hd hc) _ p (Nat.ne_of_lt hpl) (bs.map Value.bool).toArray, ⟨⟨_, Heap.get?_push_size _ rfl, rfl, rfl⟩, ?_⟩, fun i v s' Q' E' hP hQ' => ?_, fun h' tk k => ?_⟩
  · obtain ⟨o, ho, r⟩ := pl.isList
    exact ⟨o, Heap.get?_push_of_some _ ho, r⟩
  · have hP' : (bs.map Value.bool)[i]? = some v := by simpa using hP
    rw [List.getElem?_map] at hP'
    cases e : bs[i]? with
    | none => rw [e] at hP'; cases hP'
    | some b =>
      rw [e] at hP'
      have e' : Value.bool b = v := by simpa using hP'
      subst e'
      have hQ2 : Q' b s' := by simpa [e] using hQ'
      exact wpAny_truthy_bool hQ2
  · have e1 : (bs.map Value.bool).toArray.size = bs.length := by simp
    rw [e1, all_getD bs]
    refine ⟨.bl _, H, I.kept fun b o e => k b o ?_ (Heap.get?_push_of_some _ e), rfl, q⟩
    intro hm
    exact Nat.ne_of_lt (Heap.lt_size e) (List.mem_singleton.mp hm)
/-! ### isinstance -/
/-! ### {} -/
theorem Inv.big {pins : List (Addr × Obj)} {σ : St} {H : Hp} {s : Shared} (I : Inv X pins σ H s) : sysModules < s.heap.objs.size := by
  have h : mainGlobals < s.heap.objs.size := (I.mod.glob.keeps I.bk).lt
  exact Nat.lt_trans (by decide) h
theorem dk_empty {P : Program} {w : World} {H : Hp} (h : Heap) (hb : sysModules < h.objs.size) : ObjOk P w H (h.push { cls := .type "dict", data := .dict #[] }) h.objs.size (.dK []) :=
  ⟨Nat.zero_le _, beq_eq_false_iff_ne.mpr (Ne.symm (Nat.ne_of_lt hb)), [], .nil, Heap.DictOf.new h⟩
def tDNewK : TE := fun _ H Q => ∀ p, H p = none → Q (.ref p) (upd H p (.dK []))
theorem pe_dnewK {pos : Pos} : PE X (.Dict [] [] pos) tDNewK := fun pins s σ H Q I h =>
  wpAny_Dict_empty ⟨.ref s.heap.objs.size, _, I.laid (a := s.heap.objs.size) (o := .dK []) (t' := s.toks) (fun _ _ q => Heap.get?_push_of_some _ q) (Nat.le_refl _) (dk_empty s.heap I.big), rfl, h _ (I.hok.fresh (Nat.le_refl _))⟩
/-! ### join at a written text, with the tokens that it leaves; replace of one written text by another -/
end
end L2
set_option Elab.async false
set_option linter.all false
set_option maxRecDepth 100000
set_option maxHeartbeats 4000000
namespace GS
open PySem L2 PyProof.Rows
/-! ### a def that is there, with its promise -/
structure Def (P : Program) (w : World) (K : PySem.W.Frag) (mg : Str → Option Value) (base : Heap) (name : Str) (ps : List Str) (k : Nat) (sp : Sp) : Prop where
  ex : ∃ (f : Addr) (fd : FuncData), mg name = some (.ref f) ∧ PySem.W.keepIn K (.ref f) = true ∧ Binds K fd ps [] ∧ FnOk P w K mg base CX0 k f fd ps sp
theorem pe_def {X : Cx} {name : Str} {ps : List Str} {k k' : Nat} {sp : Sp} {e : Expr} {es : List Expr} {t : TA} {p pos : Pos} (F : Def X.prog X.w X.K X.mg X.base name ps k sp) (hr : Room k' X.A) (hk : k ≤ k') (hg : Gl X name) (ha : PA X (e :: es) t)
    (hdb : (name == ("__debug__" : Str)) = false := by decide) (he : starEach (e :: es) X.env = (false, eval e X.env) :: starEach es X.env := by rfl) (hpl : (backTo pos (starEach es X.env)).any (·.1) = false := by rfl) :
    PE X (.Call (.Name name p) (e :: es) [] pos) (tCall sp [] E0 t) := by
  obtain ⟨f, fd, h1, h2, h3, h4⟩ := F.ex
  exact pe_call (h4.mono hk) hr hg h1 h2 h3 .nil pass0 ha hdb he hpl
theorem pe_def0 {X : Cx} {name : Str} {ps : List Str} {k k' : Nat} {sp : Sp} {p pos : Pos} (F : Def X.prog X.w X.K X.mg X.base name ps k sp) (hr : Room k' X.A) (hk : k ≤ k') (hg : Gl X name) (hdb : (name == ("__debug__" : Str)) = false := by decide) :
    PE X (.Call (.Name name p) [] [] pos) (tCall sp [] E0 tNil) := by
  obtain ⟨f, fd, h1, h2, h3, h4⟩ := F.ex
  exact pe_call0 (h4.mono hk) hr hg h1 h2 h3 .nil pass0 hdb
theorem def_mk {P : Program} {w : World} {K : PySem.W.Frag} {mg : Str → Option Value} {base : Heap} {name : Str} {ps : List Str} {k : Nat} {sp : Sp} {st : Stmt} {f : Addr} {fd : FuncData} (F : Fun K name name st f fd) (hm : mg name = some (.ref f)) (hb : Binds K fd ps []) (h : FnOk P w K mg base CX0 k f fd ps sp) :
    Def P w K mg base name ps k sp := ⟨f, fd, hm, F.kp, hb, h⟩
theorem pe_gint {X : Cx} {x : Str} {z : Int} {pos : Pos} (hg : Gl X x) (hm : ∃ t, X.mg x = some (.int z t)) (hd : (x == ("__debug__" : Str)) = false := by decide) : PE X (.Name x pos) (tC (.int z)) := by
  obtain ⟨t, e⟩ := hm
  exact pe_glob hg e ⟨t, rfl⟩ hd
/-! ### texts by their codes -/
theorem same_new {H : Hp} {p : Addr} (h : H p = none) (o : HO) : Same H (upd H p o) := fun b u q => by rw [upd_ne (ne_of_none q h)]; exact q
theorem same_upd {H H' : Hp} {p : Addr} (e : Same H H') (h : H p = none) (o : HO) : Same H (upd H' p o) := fun b u q => by rw [upd_ne (ne_of_none q h)]; exact e b u q
theorem small {n : Nat} (h : n ≤ 1000000) : n ≤ sizeLine := by rw [sizeLine_eq]; omega
end GS
set_option Elab.async false
set_option linter.all false
set_option maxRecDepth 100000
set_option maxHeartbeats 4000000
/-! THE LAYER'S RULES UNDER A LID: the same names in namespace L3, over judgements that Lean doesn't unfold (an application whose type is an open judgement costs a run of the text that it speaks of: seconds a list, minutes a list of lists). A def's proof is F.okI in the place of F.ok; an open rule's term comes in by .mk. -/
namespace L3
open PySem PySem.Spec PyProof.Rows L2
@[irreducible] def LE (X : Cx) (e : Expr) (t : TE) : Prop := PE X e t
@[irreducible] def LT (X : Cx) (e : Expr) (t : TT) : Prop := PT X e t
@[irreducible] def LW (X : Cx) (e : Expr) (t : TT) : Prop := PW X e t
@[irreducible] def LA (X : Cx) (es : List Expr) (t : TA) : Prop := PA X es t
@[irreducible] def LO (X : Cx) (e : Option Expr) (t : TO) : Prop := PO X e t
@[irreducible] def LG (X : Cx) (e : Expr) (t : TG) : Prop := PG X e t
@[irreducible] def LGs (X : Cx) (es : List Expr) (t : TGs) : Prop := PGs X es t
@[irreducible] def LI (X : Cx) (tg e : Expr) (t : TI) : Prop := PI X tg e t
@[irreducible] def LS (X : Cx) (st : Stmt) (t : TS) : Prop := PS X st t
@[irreducible] def LSs (X : Cx) (st : List Stmt) (t : TS) : Prop := PSs X st t
section
variable {X : Cx} {e a b c o tg : Expr} {es rest : List Expr} {oe lo hi : Option Expr} {st : Stmt} {sts : List Stmt} {te ta tb to : TE} {tA tB' tc : TT} {tl th : TO} {t : TA} {ts us : TS} {tg' : TG} {tgs : TGs} {wi : TI} {pos p p2 apos cpos : Pos}
theorem LE.mk (h : PE X e te) : LE X e te := by unfold LE; exact h
theorem LE.out (h : LE X e te) : PE X e te := by unfold LE at h; exact h
theorem LT.mk (h : PT X e tA) : LT X e tA := by unfold LT; exact h
theorem LT.out (h : LT X e tA) : PT X e tA := by unfold LT at h; exact h
theorem LW.mk (h : PW X e tA) : LW X e tA := by unfold LW; exact h
theorem LW.out (h : LW X e tA) : PW X e tA := by unfold LW at h; exact h
theorem LA.mk (h : PA X es t) : LA X es t := by unfold LA; exact h
theorem LA.out (h : LA X es t) : PA X es t := by unfold LA at h; exact h
theorem LO.mk (h : PO X oe tl) : LO X oe tl := by unfold LO; exact h
theorem LO.out (h : LO X oe tl) : PO X oe tl := by unfold LO at h; exact h
theorem LG.mk (h : PG X e tg') : LG X e tg' := by unfold LG; exact h
theorem LG.out (h : LG X e tg') : PG X e tg' := by unfold LG at h; exact h
theorem LGs.mk (h : PGs X es tgs) : LGs X es tgs := by unfold LGs; exact h
theorem LGs.out (h : LGs X es tgs) : PGs X es tgs := by unfold LGs at h; exact h
theorem LI.mk (h : PI X tg e wi) : LI X tg e wi := by unfold LI; exact h
theorem LI.out (h : LI X tg e wi) : PI X tg e wi := by unfold LI at h; exact h
theorem LS.mk (h : PS X st ts) : LS X st ts := by unfold LS; exact h
theorem LS.out (h : LS X st ts) : PS X st ts := by unfold LS at h; exact h
theorem LSs.mk (h : PSs X sts ts) : LSs X sts ts := by unfold LSs; exact h
theorem LSs.out (h : LSs X sts ts) : PSs X sts ts := by unfold LSs at h; exact h
/-! expressions -/
theorem pe_int {i : Int} {j : Nat} : LE X (.Constant (.int i) j pos) (tC (.int i)) := .mk L2.pe_int
theorem pe_bl {b : Bool} {j : Nat} : LE X (.Constant (.bool b) j pos) (tC (.bl b)) := .mk L2.pe_bl
theorem pe_non {j : Nat} : LE X (.Constant .none j pos) (tC .non) := .mk L2.pe_non
theorem pe_str {x : Str} {j : Nat} : LE X (.Constant (.str x) j pos) (tC (.str x)) := .mk L2.pe_str
theorem pv (i : Nat) {x : Str} (hN : X.N[i]? = some x := by rfl) (hv : Vis X.env.scope x := by first | exact Or.inl rfl | exact Or.inr (Or.inl rfl) | exact Or.inr (Or.inr rfl)) (hd : (x == ("__debug__" : Str)) = false := by decide)
    (hcd : (x == ("__classdict__" : Str)) = false := by decide) : LE X (.Name x pos) (tVar i) := .mk (L2.pv i hN hv hd hcd)
theorem pe_glob {x : Str} {v : V} {u : Value} (hg : Gl X x) (hm : X.mg x = some u) (r : RelV v u) (hd : (x == ("__debug__" : Str)) = false := by decide) : LE X (.Name x pos) (tC v) := .mk (L2.pe_glob hg hm r hd)
theorem pe_bltn {x : Str} {v : V} {u : Value} (hg : Gl X x) (hm : X.mg x = none) (hv : bootBuiltins x = some u) (r : RelV v u) (hn : x ≠ "__name__" := by decide) (hd : (x == ("__debug__" : Str)) = false := by decide) : LE X (.Name x pos) (tC v) := .mk (L2.pe_bltn hg hm hv r hn hd)
theorem pe_gint {x : Str} {z : Int} (hg : Gl X x) (hm : ∃ t, X.mg x = some (.int z t)) (hd : (x == ("__debug__" : Str)) = false := by decide) : LE X (.Name x pos) (tC (.int z)) := .mk (GS.pe_gint hg hm hd)
theorem pe_op {op : Operator} {r : R2} (ho : OpR X (binaryOp op) r) (ha : LE X a ta) (hb : LE X b tb) : LE X (.BinOp a op b pos) (tOp r ta tb) := .mk (L2.pe_op ho ha.out hb.out)
theorem pe_cmpR {op : CmpOp} {r : R2} (ho : OpR X (compareOp op) r) (ha : LE X a ta) (hb : LE X b tb) (hm : behindInMarks op b = false) : LE X (.Compare a [op] [b] pos) (tOp r ta tb) := .mk (L2.pe_cmpR ho ha.out hb.out hm)
theorem pe_one {op : BoolOp} (h : LE X a te) : LE X (.BoolOp op [a] pos) te := .mk (L2.pe_one h.out)
theorem pe_and (ha : LE X a ta) (hb : LE X (.BoolOp .And (b :: rest) pos) tb) : LE X (.BoolOp .And (a :: b :: rest) pos) (tAndV ta tb) := .mk (L2.pe_and ha.out hb.out)
theorem pe_ifExp (hc : LT X c tA) (ha : LE X a ta) (hb : LE X b tb) : LE X (.IfExp c a b pos) (tIf tA ta tb) := .mk (L2.pe_ifExp hc.out ha.out hb.out)
theorem pe_ix {r : R2} (hr : IxR X r) (ha : LE X a ta) (hb : LE X b tb) (hs : PlainIx b) : LE X (.Subscript a b pos) (tOp r ta tb) := .mk (L2.pe_ix hr ha.out hb.out hs)
theorem po_none : LO X none tNoPart := .mk L2.po_none
theorem po_some (h : LE X e te) : LO X (some e) (tPart te) := .mk (L2.po_some h.out)
theorem pe_slice {r : V → Option Int → Option Int → Hp → VK → Prop} (hr : SlR X r) (he : LE X e te) (hl : LO X lo tl) (hu : LO X hi th) : LE X (.Subscript e (.Slice lo hi none p2) pos) (tSl r te tl th) := .mk (L2.pe_slice hr he.out hl.out hu.out)
theorem pa_nil : LA X [] tNil := .mk L2.pa_nil
theorem pa_cons (ha : LE X e te) (hr : LA X es t) (hs : starEach (e :: es) X.env = (false, eval e X.env) :: starEach es X.env := by rfl) : LA X (e :: es) (tCons te t) := .mk (L2.pa_cons ha.out hr.out hs)
theorem pe_lst (h : LA X es t) : LE X (.List es pos) (tLst t) := .mk (L2.pe_lst h.out)
theorem pe_tup {k : Nat} (h : LA X es t) : LE X (.Tuple es k pos) (tTup t) := .mk (L2.pe_tup h.out)
theorem pe_callB {x : Str} {id : String} {r : List V → Hp → VK → Prop} (hc : CallR X (.builtin id) r) (hg : Gl X x) (hm : X.mg x = none) (hv : bootBuiltins x = some (.builtin id)) (ha : LA X (e :: es) t) (hn : x ≠ "__name__" := by decide) (hdb : (x == ("__debug__" : Str)) = false := by decide)
    (he : starEach (e :: es) X.env = (false, eval e X.env) :: starEach es X.env := by rfl) (hpl : (backTo pos (starEach es X.env)).any (·.1) = false := by rfl) : LE X (.Call (.Name x p) (e :: es) [] pos) (tCB r t) := .mk (L2.pe_callB hc hg hm hv ha.out hn hdb he hpl)
theorem pe_callTy {x : Str} {T : String} {r : List V → Hp → VK → Prop} (hc : CallR X (.type T) r) (hg : Gl X x) (hm : X.mg x = none) (hv : bootBuiltins x = some (.type T)) (ha : LA X (e :: es) t) (hn : x ≠ "__name__" := by decide) (hdb : (x == ("__debug__" : Str)) = false := by decide)
    (he : starEach (e :: es) X.env = (false, eval e X.env) :: starEach es X.env := by rfl) (hpl : (backTo pos (starEach es X.env)).any (·.1) = false := by rfl) : LE X (.Call (.Name x p) (e :: es) [] pos) (tCB r t) := .mk (L2.pe_callTy hc hg hm hv ha.out hn hdb he hpl)
theorem pe_bm {T id : String} {name : Str} {r : V → List V → Hp → VK → Prop} (pa : PlainAttrs T) (slot : Slot T name id) (hty : typeOf (.builtin id) = pure (.type "method_descriptor")) (hm : MtR X id r) (ho : LE X o to) (ha : LA X (e :: es) t)
    (hbase : attributeBase o name X.env (eval o X.env) = eval o X.env := by rfl)
    (hfew : ((backTo cpos (starEach (e :: es) X.env)).all (fun x => !x.1) && (backToKw cpos (keywordEach [] X.env)).all (fun x => x.1.isSome)
      && decide ((e :: es).length + ([] : List Keyword).length + (if ([] : List Keyword).isEmpty then 0 else 1) < 30)) = true := by rfl)
    (hline : (apos.endLine == cpos.line) = true := by rfl) (hs : starEach (e :: es) X.env = (false, eval e X.env) :: starEach es X.env := by rfl) (hplain : (backTo cpos (starEach es X.env)).any (·.1) = false := by rfl) :
    LE X (.Call (.Attribute o name apos) (e :: es) [] cpos) (tBM X.K T r to t) := .mk (L2.pe_bm pa slot hty hm ho.out ha.out hbase hfew hline hs hplain)
theorem pe_def {name : Str} {ps : List Str} {k k' : Nat} {sp : Sp} (F : GS.Def X.prog X.w X.K X.mg X.base name ps k sp) (hr : Room k' X.A) (hk : k ≤ k') (hg : Gl X name) (ha : LA X (e :: es) t)
    (hdb : (name == ("__debug__" : Str)) = false := by decide) (he : starEach (e :: es) X.env = (false, eval e X.env) :: starEach es X.env := by rfl) (hpl : (backTo pos (starEach es X.env)).any (·.1) = false := by rfl) :
    LE X (.Call (.Name name p) (e :: es) [] pos) (tCall sp [] E0 t) := .mk (GS.pe_def F hr hk hg ha.out hdb he hpl)
theorem pe_def0 {name : Str} {ps : List Str} {k k' : Nat} {sp : Sp} (F : GS.Def X.prog X.w X.K X.mg X.base name ps k sp) (hr : Room k' X.A) (hk : k ≤ k') (hg : Gl X name) (hdb : (name == ("__debug__" : Str)) = false := by decide) :
    LE X (.Call (.Name name p) [] [] pos) (tCall sp [] E0 tNil) := .mk (GS.pe_def0 F hr hk hg hdb)
/-! tests -/
theorem pt_cmpR {op : CmpOp} {r : R2} (ho : OpR X (compareOp op) r) (ha : LE X a ta) (hb : LE X b tb) (hm : behindInMarks op b = false) : LT X (.Compare a [op] [b] pos) (tTest (tOp r ta tb)) := .mk (L2.pt_cmpR ho ha.out hb.out hm)
theorem pt_val (h : LE X e te) (he : ∀ whole, isTrue e X.env whole = (do let v ← whole; standAt e.pos; holding [v] (truthy v)) := by intro _; rfl) : LT X e (tB te) := .mk (L2.pt_val h.out he)
theorem pt_not (ha : LT X a tA) : LT X (.UnaryOp .Not a pos) (tNot tA) := .mk (L2.pt_not ha.out)
theorem pw_and1 (ha : LT X a tA) : LW X (.BoolOp .And [a] pos) tA := .mk (L2.pw_and1 ha.out)
theorem pw_or1 (ha : LT X a tA) : LW X (.BoolOp .Or [a] pos) tA := .mk (L2.pw_or1 ha.out)
theorem pw_and (ha : LT X a tA) (hb : LW X (.BoolOp .And (b :: rest) pos) tB') : LW X (.BoolOp .And (a :: b :: rest) pos) (tAnd tA tB') := .mk (L2.pw_and ha.out hb.out)
theorem pw_or (ha : LT X a tA) (hb : LW X (.BoolOp .Or (b :: rest) pos) tB') : LW X (.BoolOp .Or (a :: b :: rest) pos) (tOr tA tB') := .mk (L2.pw_or ha.out hb.out)
theorem LW.pt (h : LW X e tA) : LT X e tA := .mk (L2.PW.pt h.out)
/-! targets, walks -/
theorem pg_name {i : Nat} {x : Str} (hN : X.N.Nodup) (hi : X.N[i]? = some x) (hx : Loc X.env.scope x) (hf : X.fn x = true ∨ X.env.scope.names.lookup x = some .local := by first | exact .inl rfl | exact .inr rfl | assumption) : LG X (.Name x pos) (gName i) := .mk (L2.pg_name hN hi hx hf)
theorem pgs_nil : LGs X [] gNil := .mk L2.pgs_nil
theorem pgs_cons (h1 : LG X e tg') (h2 : LGs X es tgs) (hs : (assignEach (e :: es) X.env).map (·.2) = assign e X.env :: (assignEach es X.env).map (·.2) := by rfl) : LGs X (e :: es) (gCons tg' tgs) := .mk (L2.pgs_cons h1.out h2.out hs)
theorem pg_tup {k n : Nat} (hc : X.calm = true) (h : LGs X es tgs) (hn : (assignEach es X.env).length = n := by rfl) (hst : (assignEach es X.env).findIdx? (·.1) = none := by rfl) : LG X (.Tuple es k pos) (gTup X.K n tgs) := .mk (L2.pg_tup hc h.out hn hst)
theorem pi_list (hl : LE X e te) : LI X tg e (iList X.K te) := .mk (L2.pi_list hl.out)
theorem pi_tup (hl : LE X e te) : LI X tg e (iTup X.K te) := .mk (L2.pi_tup hl.out)
theorem pi_range1 (hg : Gl X "range") (hm : X.mg "range" = none) (ha : LA X [a] t) (hs : starEach [a] X.env = [(false, eval a X.env)] := by rfl) : LI X tg (.Call (.Name "range" p) [a] [] pos) (iRng1 t) := .mk (L2.pi_range1 hg hm ha.out hs)
/-! statements -/
theorem ps_ret (he : LE X e te) : LS X (.Return (some e) pos) (tRet te) := .mk (L2.ps_ret he.out)
theorem ps_expr (he : LE X e te) (hs : swapsWith e none pos.line X.env = pure false := by rfl) : LS X (.Expr e pos) (tDrop te) := .mk (L2.ps_expr he.out hs)
theorem ps_set {i : Nat} {x : Str} {pos' : Pos} (hN : X.N.Nodup) (hi : X.N[i]? = some x) (hx : Loc X.env.scope x) (he : LE X e te) (hs : swapsWith e (some (.Name x pos')) pos.line X.env = pure false := by rfl)
    (hf : X.fn x = true ∨ X.env.scope.names.lookup x = some .local := by first | exact .inl rfl | exact .inr rfl | assumption) : LS X (.Assign [.Name x pos'] e pos) (tAsg te (gName i)) := .mk (L2.ps_set hN hi hx he.out hs hf)
theorem ps_asg (he : LE X e te) (hg : LG X tg tg') (hs : swapsWithSole [tg] e pos.line X.env = pure false := by rfl) (hw : swappedStores [tg] e X.env = pure none := by rfl) (h1 : (assignEach [tg] X.env).map (·.2) = [assign tg X.env] := by rfl) :
    LS X (.Assign [tg] e pos) (tAsg te tg') := .mk (L2.ps_asg he.out hg.out hs hw h1)
theorem ps_if {a b : List Stmt} (hc : LT X c tc) (ha : LSs X a ts) (hb : LSs X b us) : LS X (.If c a b pos) (tIfS tc ts us) := .mk (L2.ps_if hc.out ha.out hb.out)
theorem ps_while {body : List Stmt} (hp : PassesOwn (model X.prog X.w) X.A X.env X.xe) (hc : LT X c tc) (hb : LSs X body ts) : LS X (.While c body [] pos) (tWhile tc ts) := .mk (L2.ps_while hp hc.out hb.out)
theorem ps_for {iter : Expr} {body : List Stmt} (hp : PassesOwn (model X.prog X.w) X.A X.env X.xe) (hc : X.calm = true) (hi : LI X tg iter wi) (hg : LG X tg tg') (hb : LSs X body ts)
    (hs : ∀ x, foldedSetIterable iter X.env x = pure x := by intro _; rfl) : LS X (.For tg iter body [] pos) (tFor wi tg' ts) := .mk (L2.ps_for hp hc hi.out hg.out hb.out hs)
theorem ps_imp {t' : TS} (h : LS X st ts) (hi : ∀ D σ H, t' D σ H → ts D σ H) : LS X st t' := .mk fun pins s σ H D I q => h.out pins s σ H D I (hi D σ H q)
theorem pss_nil : LSs X [] tNext := .mk L2.pss_nil
theorem pss_cons (h1 : LS X st ts) (h2 : LSs X sts us) : LSs X (st :: sts) (tSeq ts us) := .mk (L2.pss_cons h1.out h2.out)
theorem pss_one (h1 : LS X st ts) : LSs X [st] ts := .mk (L2.pss_one h1.out)
end
end L3
namespace L2
open PySem PySem.Spec PyProof.Rows
theorem Fun.okI {P : Program} {w : World} {K : PySem.W.Frag} {mg : Str → Option Value} {base : Heap} {x qual : Str} {st : Stmt} {f : Addr} {fd : FuncData} {N ps : List Str} {k : Nat} {sp : Sp} (F : Fun K x qual st f fd) (S : FnScope N ps (defScope st)) (len : ∀ vs H Q E, sp vs H Q E → vs.length = ps.length)
    (hbody : ∀ (cdv : Value) (A : Around) (outer : List Env) (s : Shared) (H : Hp) (vs : List V) (Q : VK) (E : XK), Room k (A.deeper (envOfC qual (defScope st) s.heap.objs.size f cdv)) → sp vs H Q E →
      ∃ t, L3.LSs (cxOf CX0 P w K mg base N qual (defScope st) f cdv A outer s H E).nox (defBody st) t ∧ t { nx := fun _ H' => Q .non H', rt := Q } (start N vs) H) : FnOk P w K mg base CX0 (k + 1) f fd ps sp :=
  F.ok S len fun cdv A outer s H vs Q E hr h => let ⟨t, h1, h2⟩ := hbody cdv A outer s H vs Q E hr h; ⟨t, h1.out, h2⟩
end L2
set_option Elab.async false
set_option linter.all false
set_option maxRecDepth 100000
set_option maxHeartbeats 4000000
namespace GS
open PySem L2 PyProof.Rows
/-! ### things without change: None, truths, numbers, texts, and tuples of such -/
inductive D where
  | non | bl (b : Bool) | int (i : Int) | str (x : Str) | tup (xs : List D)
mutual
/-- the value v is the thing d -/
def At (K : PySem.W.Frag) (H : Hp) : D → V → Prop
  | .non, v => v = .non
  | .bl b, v => v = .bl b
  | .int i, v => v = .int i
  | .str x, v => v = .str x
  | .tup ds, v => ∃ p vs, v = .ref p ∧ SqT K H p vs ∧ AtAll K H ds vs
def AtAll (K : PySem.W.Frag) (H : Hp) : List D → List V → Prop
  | [], vs => vs = []
  | d :: ds, vs => ∃ v r, vs = v :: r ∧ At K H d v ∧ AtAll K H ds r
end
section
variable {K : PySem.W.Frag} {H H' : Hp}
theorem At_tup {ds : List D} {v : V} : At K H (.tup ds) v ↔ ∃ p vs, v = .ref p ∧ SqT K H p vs ∧ AtAll K H ds vs := by rw [At]
theorem AtAll_nil {vs : List V} : AtAll K H [] vs ↔ vs = [] := by rw [AtAll]
theorem AtAll_cons {d : D} {ds : List D} {vs : List V} : AtAll K H (d :: ds) vs ↔ ∃ v r, vs = v :: r ∧ At K H d v ∧ AtAll K H ds r := by rw [AtAll]
theorem At_non {v : V} : At K H .non v ↔ v = .non := by rw [At]
theorem At_bl {b : Bool} {v : V} : At K H (.bl b) v ↔ v = .bl b := by rw [At]
theorem At_int {i : Int} {v : V} : At K H (.int i) v ↔ v = .int i := by rw [At]
theorem At_str {x : Str} {v : V} : At K H (.str x) v ↔ v = .str x := by rw [At]
theorem Same.seqT {a : Addr} {xs : List V} (e : Same H H') (h : SqT K H a xs) : SqT K H' a xs := by
  rcases h with (h | ⟨o, h⟩) | h
  · exact .inl (.inl (e _ _ h))
  · exact .inl (.inr ⟨o, e _ _ h⟩)
  · exact .inr h
mutual
theorem At.same (e : Same H H') : ∀ (d : D) (v : V), At K H d v → At K H' d v
  | .non, _, h => At_non.mpr (At_non.mp h)
  | .bl _, _, h => At_bl.mpr (At_bl.mp h)
  | .int _, _, h => At_int.mpr (At_int.mp h)
  | .str _, _, h => At_str.mpr (At_str.mp h)
  | .tup ds, _, h => by
    obtain ⟨p, vs, rfl, h1, h2⟩ := At_tup.mp h
    exact At_tup.mpr ⟨p, vs, rfl, Same.seqT e h1, AtAll.same e ds vs h2⟩
theorem AtAll.same (e : Same H H') : ∀ (ds : List D) (vs : List V), AtAll K H ds vs → AtAll K H' ds vs
  | [], _, h => AtAll_nil.mpr (AtAll_nil.mp h)
  | d :: ds, _, h => by
    obtain ⟨v, r, rfl, h1, h2⟩ := AtAll_cons.mp h
    exact AtAll_cons.mpr ⟨v, r, rfl, At.same e d v h1, AtAll.same e ds r h2⟩
end
theorem AtAll.len : ∀ {ds : List D} {vs : List V}, AtAll K H ds vs → vs.length = ds.length
  | [], _, h => by rw [AtAll_nil.mp h]; rfl
  | d :: ds, _, h => by
    obtain ⟨v, r, rfl, _, h2⟩ := AtAll_cons.mp h
    rw [List.length_cons, List.length_cons, AtAll.len h2]
theorem AtAll.get : ∀ {ds : List D} {vs : List V} {i : Nat} {d : D}, AtAll K H ds vs → ds[i]? = some d → ∃ v, vs[i]? = some v ∧ At K H d v
  | [], _, i, d, _, e => by simp at e
  | d0 :: ds, _, 0, d, h, e => by
    obtain ⟨v, r, rfl, h1, _⟩ := AtAll_cons.mp h
    have : d0 = d := by simpa using e
    subst this
    exact ⟨v, rfl, h1⟩
  | d0 :: ds, _, i + 1, d, h, e => by
    obtain ⟨v, r, rfl, _, h2⟩ := AtAll_cons.mp h
    obtain ⟨u, e1, e2⟩ := AtAll.get h2 (by simpa using e)
    exact ⟨u, by simpa using e1, e2⟩
theorem AtAll.append : ∀ {ds es : List D} {vs ws : List V}, AtAll K H ds vs → AtAll K H es ws → AtAll K H (ds ++ es) (vs ++ ws)
  | [], _, _, _, h, h' => by rw [AtAll_nil.mp h]; exact h'
  | d :: ds, _, _, _, h, h' => by
    obtain ⟨v, r, rfl, h1, h2⟩ := AtAll_cons.mp h
    exact AtAll_cons.mpr ⟨v, _, rfl, h1, AtAll.append h2 h'⟩
end
/-! ### one value is one thing -/
section
variable {X : Cx} {pins : List (Addr × Obj)} {σ : L2.St} {H : Hp} {s : Shared}
mutual
theorem At.one (I : Inv X pins σ H s) : ∀ (d e : D) (v : V), At X.K H d v → At X.K H e v → d = e
  | .non, e, v, h, h' => by
    rw [At_non.mp h] at h'
    cases e with
    | non => rfl
    | tup ds => obtain ⟨p, vs, z, _⟩ := At_tup.mp h'; cases z
    | bl b => cases At_bl.mp h'
    | int i => cases At_int.mp h'
    | str x => cases At_str.mp h'
  | .bl b, e, v, h, h' => by
    rw [At_bl.mp h] at h'
    cases e with
    | bl c => cases At_bl.mp h'; rfl
    | tup ds => obtain ⟨p, vs, z, _⟩ := At_tup.mp h'; cases z
    | non => cases At_non.mp h'
    | int i => cases At_int.mp h'
    | str x => cases At_str.mp h'
  | .int i, e, v, h, h' => by
    rw [At_int.mp h] at h'
    cases e with
    | int c => cases At_int.mp h'; rfl
    | tup ds => obtain ⟨p, vs, z, _⟩ := At_tup.mp h'; cases z
    | non => cases At_non.mp h'
    | bl i => cases At_bl.mp h'
    | str x => cases At_str.mp h'
  | .str x, e, v, h, h' => by
    rw [At_str.mp h] at h'
    cases e with
    | str c => cases At_str.mp h'; rfl
    | tup ds => obtain ⟨p, vs, z, _⟩ := At_tup.mp h'; cases z
    | non => cases At_non.mp h'
    | bl i => cases At_bl.mp h'
    | int x => cases At_int.mp h'
  | .tup ds, e, v, h, h' => by
    obtain ⟨p, vs, rfl, h1, h2⟩ := At_tup.mp h
    cases e with
    | tup es =>
      obtain ⟨q, ws, z, g1, g2⟩ := At_tup.mp h'
      cases z
      have e1 := I.tuple_inj h1 g1
      subst e1
      rw [AtAll.one I ds es vs h2 g2]
    | non => cases At_non.mp h'
    | bl i => cases At_bl.mp h'
    | int x => cases At_int.mp h'
    | str x => cases At_str.mp h'
theorem AtAll.one (I : Inv X pins σ H s) : ∀ (ds es : List D) (vs : List V), AtAll X.K H ds vs → AtAll X.K H es vs → ds = es
  | [], [], _, _, _ => rfl
  | [], _ :: _, _, h, h' => by
    rw [AtAll_nil.mp h] at h'
    obtain ⟨v, r, z, _⟩ := AtAll_cons.mp h'; cases z
  | d :: ds, [], _, h, h' => by
    rw [AtAll_nil.mp h'] at h
    obtain ⟨v, r, z, _⟩ := AtAll_cons.mp h; cases z
  | d :: ds, e :: es, _, h, h' => by
    obtain ⟨v, r, rfl, h1, h2⟩ := AtAll_cons.mp h
    obtain ⟨v', r', z, g1, g2⟩ := AtAll_cons.mp h'
    cases z
    rw [At.one I d e v h1 g1, AtAll.one I ds es r h2 g2]
end
end
/-! ### == -/
mutual
def eqD : D → D → Bool
  | .non, .non => true
  | .bl a, .bl b => a == b
  | .bl a, .int b => (if a then 1 else 0) == b
  | .int a, .bl b => a == (if b then 1 else 0)
  | .int a, .int b => a == b
  | .str a, .str b => a == b
  | .tup xs, .tup ys => eqDs xs ys
  | _, _ => false
def eqDs : List D → List D → Bool
  | [], [] => true
  | x :: xs, y :: ys => eqD x y && eqDs xs ys
  | _, _ => false
end
mutual
def dep : D → Nat
  | .tup xs => deps xs + 1
  | _ => 0
def deps : List D → Nat
  | [] => 0
  | x :: xs => max (dep x) (deps xs)
end
theorem eqD_non_bl (b' : Bool) : eqD .non (.bl b') = false := by rw [eqD] <;> nofun
theorem eqD_non_int (i' : Int) : eqD .non (.int i') = false := by rw [eqD] <;> nofun
theorem eqD_non_str (x' : Str) : eqD .non (.str x') = false := by rw [eqD] <;> nofun
theorem eqD_non_tup (xs' : List D) : eqD .non (.tup xs') = false := by rw [eqD] <;> nofun
theorem eqD_bl_non (b : Bool) : eqD (.bl b) .non = false := by rw [eqD] <;> nofun
theorem eqD_bl_str (b : Bool) (x' : Str) : eqD (.bl b) (.str x') = false := by rw [eqD] <;> nofun
theorem eqD_bl_tup (b : Bool) (xs' : List D) : eqD (.bl b) (.tup xs') = false := by rw [eqD] <;> nofun
theorem eqD_int_non (i : Int) : eqD (.int i) .non = false := by rw [eqD] <;> nofun
theorem eqD_int_str (i : Int) (x' : Str) : eqD (.int i) (.str x') = false := by rw [eqD] <;> nofun
theorem eqD_int_tup (i : Int) (xs' : List D) : eqD (.int i) (.tup xs') = false := by rw [eqD] <;> nofun
theorem eqD_str_non (x : Str) : eqD (.str x) .non = false := by rw [eqD] <;> nofun
theorem eqD_str_bl (x : Str) (b' : Bool) : eqD (.str x) (.bl b') = false := by rw [eqD] <;> nofun
theorem eqD_str_int (x : Str) (i' : Int) : eqD (.str x) (.int i') = false := by rw [eqD] <;> nofun
theorem eqD_str_tup (x : Str) (xs' : List D) : eqD (.str x) (.tup xs') = false := by rw [eqD] <;> nofun
theorem eqD_tup_non (xs : List D) : eqD (.tup xs) .non = false := by rw [eqD] <;> nofun
theorem eqD_tup_bl (xs : List D) (b' : Bool) : eqD (.tup xs) (.bl b') = false := by rw [eqD] <;> nofun
theorem eqD_tup_int (xs : List D) (i' : Int) : eqD (.tup xs) (.int i') = false := by rw [eqD] <;> nofun
theorem eqD_tup_str (xs : List D) (x' : Str) : eqD (.tup xs) (.str x') = false := by rw [eqD] <;> nofun
theorem dep_non : dep .non = 0 := by rw [dep] <;> nofun
theorem dep_bl (b : Bool) : dep (.bl b) = 0 := by rw [dep] <;> nofun
theorem dep_int (i : Int) : dep (.int i) = 0 := by rw [dep] <;> nofun
theorem dep_str (x : Str) : dep (.str x) = 0 := by rw [dep] <;> nofun
theorem dep_mem : ∀ {ds : List D} {i : Nat} {d : D}, ds[i]? = some d → dep d ≤ deps ds
  | [], i, d, e => by simp at e
  | x :: xs, 0, d, e => by
    have : x = d := by simpa using e
    subst this
    rw [deps]; exact Nat.le_max_left ..
  | x :: xs, i + 1, d, e => by
    have := dep_mem (ds := xs) (i := i) (d := d) (by simpa using e)
    rw [deps]; exact Nat.le_trans this (Nat.le_max_right ..)
mutual
theorem eqD_refl : ∀ d : D, eqD d d = true
  | .non => rfl
  | .bl b => by rw [eqD]; exact beq_self_eq_true b
  | .int i => by rw [eqD]; exact beq_self_eq_true i
  | .str x => by rw [eqD]; exact beq_self_eq_true x
  | .tup xs => by rw [eqD]; exact eqDs_refl xs
theorem eqDs_refl : ∀ ds : List D, eqDs ds ds = true
  | [] => by rw [eqDs]
  | d :: ds => by rw [eqDs, eqD_refl d, eqDs_refl ds]; rfl
end
theorem eqDs_iff : ∀ (ds es : List D), eqDs ds es = true ↔ ds.length = es.length ∧ ∀ (j : Nat) (d e : D), ds[j]? = some d → es[j]? = some e → eqD d e = true
  | [], [] => by rw [eqDs]; simp
  | [], e :: es => by
    have h : eqDs [] (e :: es) = false := by rw [eqDs] <;> nofun
    rw [h]; simp
  | d :: ds, [] => by
    have h : eqDs (d :: ds) [] = false := by rw [eqDs] <;> nofun
    rw [h]; simp
  | d :: ds, e :: es => by
    rw [eqDs, Bool.and_eq_true, eqDs_iff ds es]
    constructor
    · rintro ⟨h1, h2, h3⟩
      refine ⟨by simp [h2], fun j d' e' a b => ?_⟩
      cases j with
      | zero =>
        have e1 : d = d' := by simpa using a
        have e2 : e = e' := by simpa using b
        subst e1 e2; exact h1
      | succ j => exact h3 j d' e' (by simpa using a) (by simpa using b)
    · rintro ⟨h1, h2⟩
      exact ⟨h2 0 d e rfl rfl, by simpa using h1, fun j d' e' a b => h2 (j + 1) d' e' (by simpa using a) (by simpa using b)⟩
theorem eqDs_all (ds es : List D) : ((List.range (min ds.length es.length)).all (fun j => eqD (ds.getD j .non) (es.getD j .non)) && ds.length == es.length) = eqDs ds es := by
  rw [Bool.eq_iff_iff, Bool.and_eq_true, eqDs_iff, List.all_eq_true, beq_iff_eq]
  constructor
  · rintro ⟨h1, h2⟩
    refine ⟨h2, fun j d e a b => ?_⟩
    have hj : j < ds.length := (List.getElem?_eq_some_iff.mp a).1
    have := h1 j (List.mem_range.mpr (by omega))
    rw [List.getD_eq_getElem?_getD, List.getD_eq_getElem?_getD, a, b] at this
    exact this
  · rintro ⟨h1, h2⟩
    refine ⟨fun j hj => ?_, h1⟩
    have hj' := List.mem_range.mp hj
    have a : ds[j]? = some ds[j] := List.getElem?_eq_getElem (by omega)
    have b : es[j]? = some es[j] := List.getElem?_eq_getElem (by omega)
    rw [List.getD_eq_getElem?_getD, List.getD_eq_getElem?_getD, a, b]
    exact h2 j _ _ a b
section
variable {X : Cx} {pins : List (Addr × Obj)} {σ : L2.St} {H : Hp} {s : Shared}
/-- the comparison within another one -/
theorem eqAt_D (I : Inv X pins σ H s) : ∀ (n : Nat) (d e : D) (A : Around) (x y : V) (u v : Value), dep d ≤ n → RelV x u → RelV y v → At X.K H d x → At X.K H e y → A.units + n < cLine → SeqAt.EqAt A s u v (eqD d e) := by
  intro n
  induction n with
  | zero =>
    intro d e A x y u v hd rx ry hx hy hu
    cases d with
    | tup ds => rw [dep] at hd; omega
    | non =>
      have ex := At_non.mp hx; subst ex; cases rx
      cases e with
      | non => have ey := At_non.mp hy; subst ey; cases ry; rw [eqD]; exact SeqAt.EqAt.same _
      | bl b => have ey := At_bl.mp hy; subst ey; cases ry; rw [eqD_non_bl]; exact SeqAt.EqAt.none_bool b
      | int b => have ey := At_int.mp hy; subst ey; obtain ⟨t, rfl⟩ := ry; rw [eqD_non_int]; exact SeqAt.EqAt.none_int b t
      | str b => have ey := At_str.mp hy; subst ey; obtain ⟨t, rfl⟩ := ry; rw [eqD_non_str]; exact SeqAt.EqAt.none_str b t
      | tup es =>
        obtain ⟨p, vs, rfl, h1, _⟩ := At_tup.mp hy; cases ry
        obtain ⟨its, rv, ht, _⟩ := I.tuple h1
        rw [eqD_non_tup]; exact SeqAt.EqAt.none_tuple ht (by omega)
    | bl a =>
      have ex := At_bl.mp hx; subst ex; cases rx
      cases e with
      | non => have ey := At_non.mp hy; subst ey; cases ry; rw [eqD_bl_non]; exact SeqAt.EqAt.bool_none a
      | bl b => have ey := At_bl.mp hy; subst ey; cases ry; rw [eqD]; exact SeqAt.EqAt.bool_bool a b
      | int b => have ey := At_int.mp hy; subst ey; obtain ⟨t, rfl⟩ := ry; rw [eqD]; exact SeqAt.EqAt.bool_int a b t
      | str b => have ey := At_str.mp hy; subst ey; obtain ⟨t, rfl⟩ := ry; rw [eqD_bl_str]; exact SeqAt.EqAt.bool_str a b t
      | tup es =>
        obtain ⟨p, vs, rfl, h1, _⟩ := At_tup.mp hy; cases ry
        obtain ⟨its, rv, ht, _⟩ := I.tuple h1
        rw [eqD_bl_tup]; exact SeqAt.EqAt.bool_tuple a ht (by omega)
    | int a =>
      have ex := At_int.mp hx; subst ex; obtain ⟨t', rfl⟩ := rx
      cases e with
      | non => have ey := At_non.mp hy; subst ey; cases ry; rw [eqD_int_non]; exact SeqAt.EqAt.int_none a t'
      | bl b => have ey := At_bl.mp hy; subst ey; cases ry; rw [eqD]; exact SeqAt.EqAt.int_bool a t' b
      | int b => have ey := At_int.mp hy; subst ey; obtain ⟨t, rfl⟩ := ry; rw [eqD]; exact SeqAt.EqAt.int_int a t' b t
      | str b => have ey := At_str.mp hy; subst ey; obtain ⟨t, rfl⟩ := ry; rw [eqD_int_str]; exact SeqAt.EqAt.int_str a t' b t
      | tup es =>
        obtain ⟨p, vs, rfl, h1, _⟩ := At_tup.mp hy; cases ry
        obtain ⟨its, rv, ht, _⟩ := I.tuple h1
        rw [eqD_int_tup]; exact SeqAt.EqAt.int_tuple a t' ht (by omega)
    | str a =>
      have ex := At_str.mp hx; subst ex; obtain ⟨t', rfl⟩ := rx
      cases e with
      | non => have ey := At_non.mp hy; subst ey; cases ry; rw [eqD_str_non]; exact SeqAt.EqAt.str_none a t'
      | bl b => have ey := At_bl.mp hy; subst ey; cases ry; rw [eqD_str_bl]; exact SeqAt.EqAt.str_bool a t' b
      | int b => have ey := At_int.mp hy; subst ey; obtain ⟨t, rfl⟩ := ry; rw [eqD_str_int]; exact SeqAt.EqAt.str_int a t' b t
      | str b => have ey := At_str.mp hy; subst ey; obtain ⟨t, rfl⟩ := ry; rw [eqD]; exact SeqAt.EqAt.str_str a t' b t
      | tup es =>
        obtain ⟨p, vs, rfl, h1, _⟩ := At_tup.mp hy; cases ry
        obtain ⟨its, rv, ht, _⟩ := I.tuple h1
        rw [eqD_str_tup]; exact SeqAt.EqAt.str_tuple a t' ht (by omega)
  | succ n ih =>
    intro d e A x y u v hd rx ry hx hy hu
    cases d with
    | tup ds =>
      obtain ⟨p, vs, rfl, h1, h2⟩ := At_tup.mp hx
      cases rx
      obtain ⟨its, rv, ht, _⟩ := I.tuple h1
      cases e with
      | non => have ey := At_non.mp hy; subst ey; cases ry; rw [eqD_tup_non]; exact SeqAt.EqAt.tuple_none ht (by omega)
      | bl b => have ey := At_bl.mp hy; subst ey; cases ry; rw [eqD_tup_bl]; exact SeqAt.EqAt.tuple_bool b ht (by omega)
      | int b => have ey := At_int.mp hy; subst ey; obtain ⟨t, rfl⟩ := ry; rw [eqD_tup_int]; exact SeqAt.EqAt.tuple_int b t ht (by omega)
      | str b => have ey := At_str.mp hy; subst ey; obtain ⟨t, rfl⟩ := ry; rw [eqD_tup_str]; exact SeqAt.EqAt.tuple_str b t ht (by omega)
      | tup es =>
        obtain ⟨q, ws, rfl, g1, g2⟩ := At_tup.mp hy
        cases ry
        obtain ⟨jts, rw', hq, _⟩ := I.tuple g1
        rw [eqD]
        by_cases hpq : p = q
        · subst hpq
          have e1 := At.one I (.tup ds) (.tup es) (.ref p) hx hy
          injection e1 with e2
          rw [e2, eqDs_refl]
          exact SeqAt.EqAt.same _
        · have l1 : its.length = ds.length := by rw [← rv.length]; exact AtAll.len h2
          have l2 : jts.length = es.length := by rw [← rw'.length]; exact AtAll.len g2
          have R := SeqAt.RcAt.tuples (A := A) (s := s) (e := fun j => eqD (ds.getD j .non) (es.getD j .non)) (show s.heap.IsTuple p its.toArray from ht) (show s.heap.IsTuple q jts.toArray from hq) (by omega) (fun j k1 k2 => by
            have k1' : j < ds.length := by simpa [l1] using k1
            have k2' : j < es.length := by simpa [l2] using k2
            have a : ds[j]? = some ds[j] := List.getElem?_eq_getElem k1'
            have b : es[j]? = some es[j] := List.getElem?_eq_getElem k2'
            obtain ⟨x', ex, hx'⟩ := AtAll.get h2 a
            obtain ⟨y', ey, hy'⟩ := AtAll.get g2 b
            obtain ⟨u', eu, ru⟩ := rv.get ex
            obtain ⟨v', ev, rv2⟩ := rw'.get ey
            have e3 : its.toArray[j] = u' := by
              have : its[j]? = some u' := eu
              have := (List.getElem?_eq_some_iff.mp this).2
              simpa using this
            have e4 : jts.toArray[j] = v' := by
              have : jts[j]? = some v' := ev
              have := (List.getElem?_eq_some_iff.mp this).2
              simpa using this
            rw [e3, e4, List.getD_eq_getElem?_getD, List.getD_eq_getElem?_getD, a, b]
            have hdn : dep ds[j] ≤ n := by
              have := dep_mem a
              rw [dep] at hd
              omega
            exact ih ds[j] es[j] A.in1 x' y' u' v' hdn ru rv2 hx' hy' (by show A.units + 1 + n < cLine; omega))
          have e5 : ((List.range (min its.toArray.size jts.toArray.size)).all (fun j => eqD (ds.getD j .non) (es.getD j .non)) && its.toArray.size == jts.toArray.size) = eqDs ds es := by
            have a1 : its.toArray.size = ds.length := by rw [List.size_toArray, l1]
            have a2 : jts.toArray.size = es.length := by rw [List.size_toArray, l2]
            rw [a1, a2]; exact eqDs_all ds es
          rw [e5] at R
          exact SeqAt.EqAt.of_refs hpq R
    | non => exact ih .non e A x y u v (by rw [dep_non]; exact Nat.zero_le _) rx ry hx hy (by omega)
    | bl a => exact ih (.bl a) e A x y u v (by rw [dep_bl]; exact Nat.zero_le _) rx ry hx hy (by omega)
    | int a => exact ih (.int a) e A x y u v (by rw [dep_int]; exact Nat.zero_le _) rx ry hx hy (by omega)
    | str a => exact ih (.str a) e A x y u v (by rw [dep_str]; exact Nat.zero_le _) rx ry hx hy (by omega)
end
end GS
set_option Elab.async false
set_option linter.all false
set_option maxRecDepth 100000
set_option maxHeartbeats 4000000
namespace GS
open PySem L2 PyProof.Rows
/-! ### things: made, asked by a place, compared, shown -/
section
variable {K : PySem.W.Frag} {H : Hp}
theorem At.new {p : Addr} {ds : List D} {vs : List V} (hp : H p = none) (h : AtAll K H ds vs) : At K (upd H p (.tup vs)) (.tup ds) (.ref p) :=
  At_tup.mpr ⟨p, vs, rfl, SqT.of upd_same, AtAll.same (same_new hp _) ds vs h⟩
theorem At.ix {ds : List D} {v : V} {i : Nat} {d : D} (h : At K H (.tup ds) v) (hi : ds[i]? = some d) : ∃ p vs w, v = .ref p ∧ SqT K H p vs ∧ atI vs (i : Int) = some w ∧ At K H d w := by
  obtain ⟨p, vs, rfl, h1, h2⟩ := At_tup.mp h
  obtain ⟨w, e, hw⟩ := AtAll.get h2 hi
  exact ⟨p, vs, w, rfl, h1, atI_nat e, hw⟩
end
section
variable {X : Cx} {pins : List (Addr × Obj)} {σ : L2.St} {H : Hp} {s : Shared}
theorem items_eq (I : Inv X pins σ H s) {ds es : List D} {vs ws : List V} {its jts : List Value} {A : Around} {n : Nat} (rv : Vals vs its) (rw' : Vals ws jts) (h2 : AtAll X.K H ds vs) (g2 : AtAll X.K H es ws) (hd : deps ds ≤ n) (hu : A.units + n < cLine) :
    ∀ j (k1 : j < its.toArray.size) (k2 : j < jts.toArray.size), SeqAt.EqAt A s its.toArray[j] jts.toArray[j] (eqD (ds.getD j .non) (es.getD j .non)) := by
  intro j k1 k2
  have l1 : its.length = ds.length := by rw [← rv.length]; exact AtAll.len h2
  have l2 : jts.length = es.length := by rw [← rw'.length]; exact AtAll.len g2
  have k1' : j < ds.length := by simpa [l1] using k1
  have k2' : j < es.length := by simpa [l2] using k2
  have a : ds[j]? = some ds[j] := List.getElem?_eq_getElem k1'
  have b : es[j]? = some es[j] := List.getElem?_eq_getElem k2'
  obtain ⟨x', ex, hx'⟩ := AtAll.get h2 a
  obtain ⟨y', ey, hy'⟩ := AtAll.get g2 b
  obtain ⟨u', eu, ru⟩ := rv.get ex
  obtain ⟨v', ev, rv2⟩ := rw'.get ey
  have e3 : its.toArray[j] = u' := by
    have := (List.getElem?_eq_some_iff.mp eu).2
    simpa using this
  have e4 : jts.toArray[j] = v' := by
    have := (List.getElem?_eq_some_iff.mp ev).2
    simpa using this
  rw [e3, e4, List.getD_eq_getElem?_getD, List.getD_eq_getElem?_getD, a, b]
  exact eqAt_D I n ds[j] es[j] A x' y' u' v' (Nat.le_trans (dep_mem a) hd) ru rv2 hx' hy' hu
theorem sizes_eq {ds es : List D} {vs ws : List V} {its jts : List Value} (rv : Vals vs its) (rw' : Vals ws jts) (h2 : AtAll X.K H ds vs) (g2 : AtAll X.K H es ws) :
    ((List.range (min its.toArray.size jts.toArray.size)).all (fun j => eqD (ds.getD j .non) (es.getD j .non)) && its.toArray.size == jts.toArray.size) = eqDs ds es := by
  have a1 : its.toArray.size = ds.length := by rw [List.size_toArray, ← rv.length]; exact AtAll.len h2
  have a2 : jts.toArray.size = es.length := by rw [List.size_toArray, ← rw'.length]; exact AtAll.len g2
  rw [a1, a2]; exact eqDs_all ds es
/-- ==, by itself -/
theorem rcAt_D (I : Inv X pins σ H s) (d e : D) (A : Around) (x y : V) (u v : Value) (rx : RelV x u) (ry : RelV y v) (hx : At X.K H d x) (hy : At X.K H e y) (hu : A.units + dep d < cLine) : SeqAt.RcAt A s u v (eqD d e) := by
  cases d with
  | tup ds =>
    rw [dep] at hu
    obtain ⟨p, vs, rfl, h1, h2⟩ := At_tup.mp hx
    cases rx
    obtain ⟨its, rv, ht, _⟩ := I.tuple h1
    cases e with
    | non => have ey := At_non.mp hy; subst ey; cases ry; rw [eqD_tup_non]; exact SeqAt.RcAt.tuple_none ht (by omega)
    | bl b => have ey := At_bl.mp hy; subst ey; cases ry; rw [eqD_tup_bl]; exact SeqAt.RcAt.tuple_bool b ht (by omega)
    | int b => have ey := At_int.mp hy; subst ey; obtain ⟨t, rfl⟩ := ry; rw [eqD_tup_int]; exact SeqAt.RcAt.tuple_int b t ht (by omega)
    | str b => have ey := At_str.mp hy; subst ey; obtain ⟨t, rfl⟩ := ry; rw [eqD_tup_str]; exact SeqAt.RcAt.tuple_str b t ht (by omega)
    | tup es =>
      obtain ⟨q, ws, rfl, g1, g2⟩ := At_tup.mp hy
      cases ry
      obtain ⟨jts, rw', hq, _⟩ := I.tuple g1
      have R := SeqAt.RcAt.tuples (A := A) (s := s) (e := fun j => eqD (ds.getD j .non) (es.getD j .non)) (show s.heap.IsTuple p its.toArray from ht) (show s.heap.IsTuple q jts.toArray from hq) (by omega)
        (items_eq I (A := A.in1) (n := deps ds) rv rw' h2 g2 (Nat.le_refl _) (by show A.units + 1 + deps ds < cLine; omega))
      rw [sizes_eq rv rw' h2 g2] at R
      rw [eqD]; exact R
  | non =>
    rw [dep_non] at hu
    have ex := At_non.mp hx; subst ex; cases rx
    cases e with
    | non => have ey := At_non.mp hy; subst ey; cases ry; rw [eqD]; exact SeqAt.RcAt.none_none
    | bl b => have ey := At_bl.mp hy; subst ey; cases ry; rw [eqD_non_bl]; exact SeqAt.RcAt.none_bool b
    | int b => have ey := At_int.mp hy; subst ey; obtain ⟨t, rfl⟩ := ry; rw [eqD_non_int]; exact SeqAt.RcAt.none_int b t
    | str b => have ey := At_str.mp hy; subst ey; obtain ⟨t, rfl⟩ := ry; rw [eqD_non_str]; exact SeqAt.RcAt.none_str b t
    | tup es =>
      obtain ⟨p, vs, rfl, h1, _⟩ := At_tup.mp hy; cases ry
      obtain ⟨its, rv, ht, _⟩ := I.tuple h1
      rw [eqD_non_tup]; exact SeqAt.RcAt.none_tuple ht (by omega)
  | bl a =>
    rw [dep_bl] at hu
    have ex := At_bl.mp hx; subst ex; cases rx
    cases e with
    | non => have ey := At_non.mp hy; subst ey; cases ry; rw [eqD_bl_non]; exact SeqAt.RcAt.bool_none a
    | bl b => have ey := At_bl.mp hy; subst ey; cases ry; rw [eqD]; exact SeqAt.RcAt.bool_bool a b
    | int b => have ey := At_int.mp hy; subst ey; obtain ⟨t, rfl⟩ := ry; rw [eqD]; exact SeqAt.RcAt.bool_int a b t
    | str b => have ey := At_str.mp hy; subst ey; obtain ⟨t, rfl⟩ := ry; rw [eqD_bl_str]; exact SeqAt.RcAt.bool_str a b t
    | tup es =>
      obtain ⟨p, vs, rfl, h1, _⟩ := At_tup.mp hy; cases ry
      obtain ⟨its, rv, ht, _⟩ := I.tuple h1
      rw [eqD_bl_tup]; exact SeqAt.RcAt.bool_tuple a ht (by omega)
  | int a =>
    rw [dep_int] at hu
    have ex := At_int.mp hx; subst ex; obtain ⟨t', rfl⟩ := rx
    cases e with
    | non => have ey := At_non.mp hy; subst ey; cases ry; rw [eqD_int_non]; exact SeqAt.RcAt.int_none a t'
    | bl b => have ey := At_bl.mp hy; subst ey; cases ry; rw [eqD]; exact SeqAt.RcAt.int_bool a t' b
    | int b => have ey := At_int.mp hy; subst ey; obtain ⟨t, rfl⟩ := ry; rw [eqD]; exact SeqAt.RcAt.int_int a t' b t
    | str b => have ey := At_str.mp hy; subst ey; obtain ⟨t, rfl⟩ := ry; rw [eqD_int_str]; exact SeqAt.RcAt.int_str a t' b t
    | tup es =>
      obtain ⟨p, vs, rfl, h1, _⟩ := At_tup.mp hy; cases ry
      obtain ⟨its, rv, ht, _⟩ := I.tuple h1
      rw [eqD_int_tup]; exact SeqAt.RcAt.int_tuple a t' ht (by omega)
  | str a =>
    rw [dep_str] at hu
    have ex := At_str.mp hx; subst ex; obtain ⟨t', rfl⟩ := rx
    cases e with
    | non => have ey := At_non.mp hy; subst ey; cases ry; rw [eqD_str_non]; exact SeqAt.RcAt.str_none a t'
    | bl b => have ey := At_bl.mp hy; subst ey; cases ry; rw [eqD_str_bl]; exact SeqAt.RcAt.str_bool a t' b
    | int b => have ey := At_int.mp hy; subst ey; obtain ⟨t, rfl⟩ := ry; rw [eqD_str_int]; exact SeqAt.RcAt.str_int a t' b t
    | str b => have ey := At_str.mp hy; subst ey; obtain ⟨t, rfl⟩ := ry; rw [eqD]; exact SeqAt.RcAt.str_str a t' b t
    | tup es =>
      obtain ⟨p, vs, rfl, h1, _⟩ := At_tup.mp hy; cases ry
      obtain ⟨its, rv, ht, _⟩ := I.tuple h1
      rw [eqD_str_tup]; exact SeqAt.RcAt.str_tuple a t' ht (by omega)
end
section
variable {X : Cx}
def rEqD (X : Cx) : R2 := fun x y H Q => ∃ d e, At X.K H d x ∧ At X.K H e y ∧ dep d ≤ 60 ∧ Q (.bl (eqD d e)) H
theorem op_eqD {k : Nat} (hr : Room k X.A) : OpR X (compareOp .Eq) (rEqD X) := by
  intro pins s σ H x y v u Q I rx ry h
  obtain ⟨d, e, hx, hy, hd, q⟩ := h
  exact rcAt_D I d e X.A x y v u rx ry hx hy (by have := hr.units; omega) _ _ _ _ ⟨.bl _, H, I, rfl, q⟩
end
end GS
set_option Elab.async false
set_option linter.all false
set_option maxRecDepth 100000
set_option maxHeartbeats 4000000
namespace GS
open PySem L2 PyProof.Rows
section
variable {X : Cx} {pins : List (Addr × Obj)} {σ : L2.St} {H : Hp} {s : Shared}
/-- != -/
theorem rcNeAt_D (I : Inv X pins σ H s) (d e : D) (A : Around) (x y : V) (u v : Value) (rx : RelV x u) (ry : RelV y v) (hx : At X.K H d x) (hy : At X.K H e y) (hu : A.units + dep d < cLine) : SeqAt.RcNeAt A s u v (!eqD d e) := by
  cases d with
  | tup ds =>
    rw [dep] at hu
    obtain ⟨p, vs, rfl, h1, h2⟩ := At_tup.mp hx
    cases rx
    obtain ⟨its, rv, ht, _⟩ := I.tuple h1
    cases e with
    | non => have ey := At_non.mp hy; subst ey; cases ry; rw [eqD_tup_non]; exact SeqAt.RcNeAt.tuple_none ht (by omega)
    | bl b => have ey := At_bl.mp hy; subst ey; cases ry; rw [eqD_tup_bl]; exact SeqAt.RcNeAt.tuple_bool b ht (by omega)
    | int b => have ey := At_int.mp hy; subst ey; obtain ⟨t, rfl⟩ := ry; rw [eqD_tup_int]; exact SeqAt.RcNeAt.tuple_int b t ht (by omega)
    | str b => have ey := At_str.mp hy; subst ey; obtain ⟨t, rfl⟩ := ry; rw [eqD_tup_str]; exact SeqAt.RcNeAt.tuple_str b t ht (by omega)
    | tup es =>
      obtain ⟨q, ws, rfl, g1, g2⟩ := At_tup.mp hy
      cases ry
      obtain ⟨jts, rw', hq, _⟩ := I.tuple g1
      have R := SeqAt.RcNeAt.tuples (A := A) (s := s) (e := fun j => eqD (ds.getD j .non) (es.getD j .non)) (show s.heap.IsTuple p its.toArray from ht) (show s.heap.IsTuple q jts.toArray from hq) (by omega)
        (items_eq I (A := A.in1) (n := deps ds) rv rw' h2 g2 (Nat.le_refl _) (by show A.units + 1 + deps ds < cLine; omega))
      rw [sizes_eq rv rw' h2 g2] at R
      rw [eqD]; exact R
  | non =>
    rw [dep_non] at hu
    have ex := At_non.mp hx; subst ex; cases rx
    cases e with
    | non => have ey := At_non.mp hy; subst ey; cases ry; rw [eqD]; exact SeqAt.RcNeAt.none_none
    | bl b => have ey := At_bl.mp hy; subst ey; cases ry; rw [eqD_non_bl]; exact SeqAt.RcNeAt.none_bool b
    | int b => have ey := At_int.mp hy; subst ey; obtain ⟨t, rfl⟩ := ry; rw [eqD_non_int]; exact SeqAt.RcNeAt.none_int b t
    | str b => have ey := At_str.mp hy; subst ey; obtain ⟨t, rfl⟩ := ry; rw [eqD_non_str]; exact SeqAt.RcNeAt.none_str b t
    | tup es =>
      obtain ⟨p, vs, rfl, h1, _⟩ := At_tup.mp hy; cases ry
      obtain ⟨its, rv, ht, _⟩ := I.tuple h1
      rw [eqD_non_tup]; exact SeqAt.RcNeAt.none_tuple ht (by omega)
  | bl a =>
    rw [dep_bl] at hu
    have ex := At_bl.mp hx; subst ex; cases rx
    cases e with
    | non => have ey := At_non.mp hy; subst ey; cases ry; rw [eqD_bl_non]; exact SeqAt.RcNeAt.bool_none a
    | bl b => have ey := At_bl.mp hy; subst ey; cases ry; rw [eqD]; exact SeqAt.RcNeAt.bool_bool a b
    | int b => have ey := At_int.mp hy; subst ey; obtain ⟨t, rfl⟩ := ry; rw [eqD]; exact SeqAt.RcNeAt.bool_int a b t
    | str b => have ey := At_str.mp hy; subst ey; obtain ⟨t, rfl⟩ := ry; rw [eqD_bl_str]; exact SeqAt.RcNeAt.bool_str a b t
    | tup es =>
      obtain ⟨p, vs, rfl, h1, _⟩ := At_tup.mp hy; cases ry
      obtain ⟨its, rv, ht, _⟩ := I.tuple h1
      rw [eqD_bl_tup]; exact SeqAt.RcNeAt.bool_tuple a ht (by omega)
  | int a =>
    rw [dep_int] at hu
    have ex := At_int.mp hx; subst ex; obtain ⟨t', rfl⟩ := rx
    cases e with
    | non => have ey := At_non.mp hy; subst ey; cases ry; rw [eqD_int_non]; exact SeqAt.RcNeAt.int_none a t'
    | bl b => have ey := At_bl.mp hy; subst ey; cases ry; rw [eqD]; exact SeqAt.RcNeAt.int_bool a t' b
    | int b => have ey := At_int.mp hy; subst ey; obtain ⟨t, rfl⟩ := ry; rw [eqD]; exact SeqAt.RcNeAt.int_int a t' b t
    | str b => have ey := At_str.mp hy; subst ey; obtain ⟨t, rfl⟩ := ry; rw [eqD_int_str]; exact SeqAt.RcNeAt.int_str a t' b t
    | tup es =>
      obtain ⟨p, vs, rfl, h1, _⟩ := At_tup.mp hy; cases ry
      obtain ⟨its, rv, ht, _⟩ := I.tuple h1
      rw [eqD_int_tup]; exact SeqAt.RcNeAt.int_tuple a t' ht (by omega)
  | str a =>
    rw [dep_str] at hu
    have ex := At_str.mp hx; subst ex; obtain ⟨t', rfl⟩ := rx
    cases e with
    | non => have ey := At_non.mp hy; subst ey; cases ry; rw [eqD_str_non]; exact SeqAt.RcNeAt.str_none a t'
    | bl b => have ey := At_bl.mp hy; subst ey; cases ry; rw [eqD_str_bl]; exact SeqAt.RcNeAt.str_bool a t' b
    | int b => have ey := At_int.mp hy; subst ey; obtain ⟨t, rfl⟩ := ry; rw [eqD_str_int]; exact SeqAt.RcNeAt.str_int a t' b t
    | str b => have ey := At_str.mp hy; subst ey; obtain ⟨t, rfl⟩ := ry; rw [eqD]; exact SeqAt.RcNeAt.str_str a t' b t
    | tup es =>
      obtain ⟨p, vs, rfl, h1, _⟩ := At_tup.mp hy; cases ry
      obtain ⟨its, rv, ht, _⟩ := I.tuple h1
      rw [eqD_str_tup]; exact SeqAt.RcNeAt.str_tuple a t' ht (by omega)
end
section
variable {X : Cx}
def rNeD (X : Cx) : R2 := fun x y H Q => ∃ d e, At X.K H d x ∧ At X.K H e y ∧ dep d ≤ 60 ∧ Q (.bl (!eqD d e)) H
theorem op_neD {k : Nat} (hr : Room k X.A) : OpR X (compareOp .NotEq) (rNeD X) := by
  intro pins s σ H x y v u Q I rx ry h
  obtain ⟨d, e, hx, hy, hd, q⟩ := h
  exact rcNeAt_D I d e X.A x y v u rx ry hx hy (by have := hr.units; omega) _ _ _ _ ⟨.bl _, H, I, rfl, q⟩
end
/-! ### the text of a thing -/



section
variable {X : Cx} {pins : List (Addr × Obj)} {σ : L2.St} {H : Hp} {s : Shared}

end
section
variable {X : Cx}
end
end GS
set_option Elab.async false
set_option linter.all false
set_option maxRecDepth 100000
set_option maxHeartbeats 4000000
namespace GS
open PySem L2 PyProof.Rows
section
variable {X : Cx}
/-! ### «in» a tuple of such things -/
end
end GS
set_option Elab.async false
set_option linter.all false
set_option maxRecDepth 100000
set_option maxHeartbeats 4000000
namespace GS
open PySem PySem.Builtin PyProof.Rows L2
open AutoSeq1 (wpAny_loadPart')
section
variable {X : Cx}
/-! ### is a list empty -/
theorem op_eqNil {k : Nat} (hr : Room k X.A) : OpR X (compareOp .Eq) (fun x y H Q => ∃ a b xs, x = .ref a ∧ y = .ref b ∧ SqL X.K H a xs ∧ SqL X.K H b [] ∧ Q (.bl xs.isEmpty) H) := by
  intro pins s σ H x y v u Q I rx ry h
  obtain ⟨a, b, xs, rfl, rfl, ha, hb, q⟩ := h
  cases rx; cases ry
  obtain ⟨its, r1, p1, z1⟩ := I.list ha
  obtain ⟨its2, r2, p2, z2⟩ := I.list hb
  cases r2
  have hu : X.A.units < cLine := Nat.lt_of_succ_lt (hu_of hr)
  cases r1 with
  | nil => exact SeqAt.eq_listAt (e := fun _ => true) p1.isList p2.isList rfl hu (fun j h1 _ => absurd h1 (by simp)) (fin_bl I q rfl)
  | cons _ _ => exact SeqAt.eq_list_lengthsAt p1.isList p2.isList (by simp) hu (fin_bl I q rfl)
theorem op_neNil {k : Nat} (hr : Room k X.A) : OpR X (compareOp .NotEq) (fun x y H Q => ∃ a b xs, x = .ref a ∧ y = .ref b ∧ SqL X.K H a xs ∧ SqL X.K H b [] ∧ Q (.bl (!xs.isEmpty)) H) := by
  intro pins s σ H x y v u Q I rx ry h
  obtain ⟨a, b, xs, rfl, rfl, ha, hb, q⟩ := h
  cases rx; cases ry
  obtain ⟨its, r1, p1, z1⟩ := I.list ha
  obtain ⟨its2, r2, p2, z2⟩ := I.list hb
  cases r2
  have hu : X.A.units < cLine := Nat.lt_of_succ_lt (hu_of hr)
  cases r1 with
  | nil => exact SeqAt.RcNeAt.lists (e := fun _ => true) p1.isList p2.isList rfl hu (fun j h1 _ => absurd h1 (by simp)) _ _ _ _ (fin_bl I q rfl)
  | cons _ _ => exact SeqAt.RcNeAt.lists_lengths p1.isList p2.isList (by simp) hu _ _ _ _ (fin_bl I q rfl)
/-! ### any -/
theorem range_any (bs : List Bool) : ((List.range bs.length).any fun j => (bs[j]?).getD false) = bs.any id := by
  rw [Bool.eq_iff_iff, List.any_eq_true, List.any_eq_true]
  constructor
  · rintro ⟨j, hj, h⟩
    have hj' := List.mem_range.mp hj
    exact ⟨bs[j], List.getElem_mem hj', by simpa [hj'] using h⟩
  · rintro ⟨x, hx, h⟩
    obtain ⟨i, hi, rfl⟩ := List.mem_iff_getElem.mp hx
    exact ⟨i, List.mem_range.mpr hi, by simpa [hi] using h⟩
theorem call_any (hc : X.calm = true) : CallR X (.builtin "any") (fun xs H Q => ∃ (p : Addr) (bs : List Bool), xs = [.ref p] ∧ SqL X.K H p (bs.map V.bl) ∧ Q (.bl (bs.any id)) H) := by
  intro pins s σ H xs us Q I r h
  obtain ⟨p, bs, rfl, hq, q⟩ := h
  obtain ⟨u, rfl, ru⟩ := vals1 r
  cases ru
  obtain ⟨its, rv, pl, hz⟩ := I.list hq
  have ei := vals_bools rv
  subst ei
  have hpl : p < s.heap.objs.size := let ⟨o, n, e, _⟩ := pl; Heap.lt_size e
  refine call_any_walk (wpAny_pyIter_list pl.isList ?_)
  refine ⟨s.heap.objs.size, [s.heap.objs.size, p], [s.heap.objs.size], (bs.map Value.bool).toArray.size, _, _, (fun j => (bs[j]?).getD false), rfl,
    Walks.list (A := X.A.in1) (I.ok.hd hc) _ p (Nat.ne_of_lt hpl) (bs.map Value.bool).toArray, ⟨⟨_, Heap.get?_push_size _ rfl, rfl, rfl⟩, ?_⟩, fun i v s' Q' E' hP hQ' => ?_, fun h' tk k => ?_⟩
  · obtain ⟨o, ho, r⟩ := pl.isList
    exact ⟨o, Heap.get?_push_of_some _ ho, r⟩
  · have hP' : (bs.map Value.bool)[i]? = some v := by simpa using hP
    rw [List.getElem?_map] at hP'
    cases e : bs[i]? with
    | none => rw [e] at hP'; cases hP'
    | some b =>
      rw [e] at hP'
      have e' : Value.bool b = v := by simpa using hP'
      subst e'
      exact wpAny_truthy_bool (show Q' b s' by simpa [e] using hQ')
  · rw [show (bs.map Value.bool).toArray.size = bs.length by simp, range_any bs]
    exact ⟨.bl _, H, I.kept fun b o e => k b o (fun hm => Nat.ne_of_lt (Heap.lt_size e) (List.mem_singleton.mp hm)) (Heap.get?_push_of_some _ e), rfl, q⟩
end
/-! ### xs.extend(t), of a tuple -/
section
variable {X : Cx}
end
end GS
namespace GS
open PySem PySem.Builtin PyProof.Rows L2
section
variable {X : Cx}
end
end GS
set_option Elab.async false
set_option linter.all false
set_option maxRecDepth 100000
set_option maxHeartbeats 4000000
namespace PySem
section
variable {prog : Program} {w : World} {A : Around} {E : Value → Shared → Prop} {R : Result → Shared → Prop} {s : Shared}
/-- the tests of a comprehension's clause -/
def testsOf (ifs : List Expr) (env : Env) : Sem Bool := forIn ifs true fun c r => if r = true then do let ok ← PySem.isTrue c env (eval c env); pure (ForInStep.yield ok) else pure (ForInStep.yield r)
theorem compLoop_goC {elt target iter : Expr} {ifs : List Expr} {scope : Scope} {pos : Pos} {it acc : Value} {env : Env} (I : Nat → Shared → Prop)
    (turn : ∀ n s, I n s → wpAny (model prog w) A (pyNext it) (fun r s₁ => match r with
      | none => R (.ok .next) s₁
      | some v => wpAny (model prog w) A (letOwnedTupleGo target it v) (fun _ s₂ => wpAny (model prog w) A (assign target env v) (fun _ s₃ =>
          wpAny (model prog w) A (testsOf ifs env) (fun b s₄ => if b = true then
            wpAny (model prog w) A (eval elt env) (fun x s₄ =>
              wpAny (model prog w) A (call (.builtin "list.append") [acc, x]) (fun _ s₅ => ∃ m, m < n ∧ I m s₅) (notedBy (model prog w) A env fun e s' => R (.error e) s') s₄) (notedBy (model prog w) A env fun e s' => R (.error e) s') s₄ else ∃ m, m < n ∧ I m s₄) (notedBy (model prog w) A env fun e s' => R (.error e) s') s₃) (notedBy (model prog w) A env fun e s' => R (.error e) s') s₂) (notedBy (model prog w) A env fun e s' => R (.error e) s') s₁) (notedBy (model prog w) A env fun e s' => R (.error e) s') s)
    (n : Nat) (h : I n s) :
    codeAny (model prog w) A (.compLoop (.ListComp elt [⟨target, iter, ifs, 0⟩] scope pos) 0 it acc env) R s := by
  refine codeAny_loop rfl I (fun n s hI => ?_) n h
  show wpAny _ A ((compTurn (.ListComp elt [⟨target, iter, ifs, 0⟩] scope pos) 0 it acc env).onRaise (fun x => do noteFrame x env; theTreesLotGoes x)) _ _ s
  refine wpAny_noted ?_
  rw [compTurn_list]
  refine wpAny_bind (wpAny_standAt (wpAny_bind (wpAny_mono (turn n s hI) (fun r s₁ h₁ => ?_) fun _ _ h' => h')))
  cases r with
  | none => exact wpAny_pure h₁
  | some v =>
    refine wpAny_bind (wpAny_mono h₁ (fun _ s₂ h₂ => wpAny_bind (wpAny_mono h₂ (fun _ s₃ h₃ => ?_) fun _ _ h' => h')) fun _ _ h' => h')
    refine wpAny_bind (wpAny_mono h₃ (fun b s₄ h₄ => ?_) fun _ _ h' => h')
    cases b with
    | false =>
      rw [if_neg Bool.false_ne_true] at h₄
      exact wpAny_ite_false (by simp) (wpAny_pure ⟨rfl, h₄⟩)
    | true =>
      rw [if_pos rfl] at h₄
      exact wpAny_ite_true (by simp) (wpAny_bind (wpAny_bind (wpAny_mono h₄ (fun x s₄ h₄ => wpAny_bind (wpAny_mono h₄ (fun _ s₅ h₅ => wpAny_pure (wpAny_pure ⟨rfl, h₅⟩)) fun _ _ h' => h')) fun _ _ h' => h')))
end
end PySem
namespace L2
open PySem PySem.Spec PyProof.Rows PySem.Builtin PySem.Builtin.Str
/-! ### a comprehension of one clause, with a test or none, of any target -/
structure CompOkG (X : Cx) (scope : Scope) (cl : List (Str × Addr)) (Xs Nf : List Str) (js : List Nat) : Prop where
  clos : closureFor scope X.env = pure cl
  cell : ∀ y ∈ scope.names, y.2 ≠ .cell
  kind : scope.kind = .function
  names : ∀ y ∈ scope.names, y.2 = .local → scope.names.lookup y.1 = some .local
  sub : ∀ y c, cl.lookup y = some c → X.env.cells.lookup y = some c
  has : ∀ y, ((relabel scope X.env).names.lookup y = some .cell ∨ (relabel scope X.env).names.lookup y = some .free) → ∃ c, cl.lookup y = some c
  len : js.length = Nf.length
  frees : ∀ (j : Nat) (y : Str), Nf[j]? = some y → ∃ i, js[j]? = some i ∧ X.N[i]? = some y ∧ X.env.scope.names.lookup y = some .cell ∧ ((relabel scope X.env).names.lookup y = some .cell ∨ (relabel scope X.env).names.lookup y = some .free)
def PTs (X : Cx) (ifs : List Expr) (tc : TT) : Prop := ∀ (pins : List (Addr × Obj)) (s : Shared) (σ : St) (H : Hp) (Q : Bool → Hp → Prop), Inv X pins σ H s → tc σ H Q → wpAny (model X.prog X.w) X.A (testsOf ifs X.env) (TP X pins σ Q) X.xe s
def tTrue : TT := fun _ H Q => Q true H
theorem pts_nil {X : Cx} : PTs X [] tTrue := fun pins s σ H Q I h => wpAny_tests_nil ⟨H, I, h⟩
theorem pts_one {X : Cx} {c : Expr} {tc : TT} (h : PT X c tc) : PTs X [c] tc := fun pins s σ H Q I q => wpAny_tests_one (h pins s σ H Q I q)
def tCompG (k : Nat) (js : List Nat) (wi : TI) (g : TG) (tc : TT) (te : TE) : TE := fun σ H Q => wi σ H fun J H1 => ∃ vs : List V, (vs.length = js.length ∧ ∀ (j i : Nat), js[j]? = some i → ∃ v, vs[j]? = some v ∧ σ[i]? = some (some v)) ∧
  ∀ D, H1 D = none → ∃ W : Nat → Nat → List V → Hp → Prop, (∃ m, W 0 m [] (upd H1 D (.lst []))) ∧ ∀ i m ys H, W i m ys H →
    (J.stop i H ∧ Q (.ref D) H) ∨ (J.go i H ∧ ∀ x H' (ox : List (Option V)), ox.length = k → J.yld i H x H' → g x (ox ++ vs.map some) H' fun σ2 H2 => ∃ ox2, ox2.length = k ∧ σ2 = ox2 ++ vs.map some ∧ tc σ2 H2 fun b H3 =>
      if b = true then te σ2 H3 fun v H4 => H4 D = some (.lst ys) ∧ ys.length < sizeLine ∧ ∃ m', m' < m ∧ W (i + 1) m' (ys ++ [v]) (upd H4 D (.lst (ys ++ [v]))) else ∃ m', m' < m ∧ W (i + 1) m' ys H3)
section
variable {X : Cx}
theorem blk_startG {pins : List (Addr × Obj)} {σ : St} {H : Hp} {s : Shared} {scope : Scope} {cl : List (Str × Addr)} {Xs Nf : List Str} {js : List Nat} {vs : List V} {fp : List Addr} {h1 : Heap} {tk : Nat} {m : Str → Option Value}
    (K : CompOkG X scope cl Xs Nf js) (I : Inv X pins σ H s) (hvl : vs.length = js.length) (hvs : ∀ (j i : Nat), js[j]? = some i → ∃ v, vs[j]? = some v ∧ σ[i]? = some (some v))
    (hf : ∀ b ∈ fp, FpOk X pins H b) (hlt : ∀ b ∈ fp, b < s.heap.objs.size) (ns : h1.Ns s.heap.objs.size m) (keep : ∀ b o, s.heap.get? b = some o → h1.get? b = some o) :
    Inv (blk X scope cl s.heap.objs.size (Xs ++ Nf) s H fp) [] (List.replicate Xs.length none ++ vs.map some) H { s with heap := h1, toks := tk } := by
  refine ⟨⟨I.ok.mod, K.kind, I.ok.glob, I.ok.blt, Nat.le_refl _, fun y z c e1 e2 => I.ok.inj y z c (K.sub y c e1) (K.sub z c e2), fun y hy => K.has y hy, fun y c e _ => (Bool.noConfusion (show false = true from e)), I.ok.hd, I.ok.frames, .inl rfl,
    fun b hb => ⟨Nat.ne_of_lt (hlt b hb), fun y c e => (hf b hb).2.2.2.2.1 y c (K.sub y c e)⟩, I.bs, Nat.le_trans I.ok.bsz I.sz, fun b o e hb => ?_, fun b hb z => ?_, I.stack, I.stkFree⟩,
    rfl, I.bare, Un.kept keep, ⟨m, ns, fun i y v e1 e2 e3 => ?_⟩, fun y c e => ?_, I.hok.fresh (Nat.le_refl _), fun y c e => I.freeC y c (K.sub y c e), fun p hp => absurd (show p ∈ ([] : List (Addr × Obj)) from hp) (by simp), I.hok.kept keep, ?_⟩
  · rcases (hf b hb).2.2.2.1 with z | z
    · exact I.ok.noex b o e z
    · exact absurd (Nat.lt_of_lt_of_le (Heap.lt_size e) (Nat.le_trans I.ok.bsz z)) (Nat.lt_irrefl _)
  · rcases List.mem_cons.mp (I.stkSub b z) with e | e
    · exact (hf b hb).2.1 e
    · exact (hf b hb).2.2.1 e
  · by_cases hi : i < Xs.length
    · rw [List.getElem?_append_left (by rw [List.length_replicate]; exact hi)] at e2
      rw [List.getElem?_replicate] at e2
      split at e2 <;> simp at e2
    · obtain ⟨j, rfl⟩ : ∃ j, i = Xs.length + j := ⟨i - Xs.length, by omega⟩
      have e1' : Nf[j]? = some y := by
        have e1'' : (Xs ++ Nf)[Xs.length + j]? = some y := e1
        rw [List.getElem?_append_right (by omega)] at e1''
        simpa using e1''
      have e2b : (vs.map some)[j]? = some (some v) := by
        rw [List.getElem?_append_right (by rw [List.length_replicate]; omega), List.length_replicate] at e2
        simpa using e2
      obtain ⟨i0, hj, hN, hk, hr⟩ := K.frees j y e1'
      obtain ⟨v', hv1, hv2⟩ := hvs j i0 hj
      have ev : v = v' := by
        have e2' : (vs.map some)[j]? = some (some v) := e2b
        rw [List.getElem?_map, hv1] at e2'
        simpa using e2'.symm
      subst ev
      obtain ⟨m0, hn0, hl⟩ := I.loc
      obtain ⟨u, r, l⟩ := hl i0 y v hN hv2 (.inr (.inl hk))
      refine ⟨u, r, ?_⟩
      rcases l with ⟨l1, _⟩ | ⟨_, c, hc, o, ho, hd⟩
      · have l1' : X.env.scope.names.lookup y = some .local := l1
        rw [hk] at l1'; cases l1'
      · obtain ⟨c', hc'⟩ := K.has y hr
        have ec := K.sub y c' hc'
        rw [hc] at ec; cases ec
        exact .inr ⟨hr, c, hc', o, keep c o ho, hd⟩
  · obtain ⟨v, o, ho, hd⟩ := I.cell y c (K.sub y c e)
    exact ⟨v, o, keep c o ho, hd⟩
  · show (List.replicate Xs.length none ++ vs.map some).length = (Xs ++ Nf).length
    rw [List.length_append, List.length_append, List.length_replicate, List.length_map, hvl, K.len]
theorem pe_compG {elt iter tg : Expr} {ifs : List Expr} {pos : Pos} {scope : Scope} {cl : List (Str × Addr)} {Xs Nf : List Str} {js : List Nat} {wi : TI} {g : TG} {tc : TT} {te : TE} (K : CompOkG X scope cl Xs Nf js) (hc : X.calm = true) (hi : PI X tg iter wi)
    (hg : ∀ C s0 H0 fp, PG (blk X scope cl C (Xs ++ Nf) s0 H0 fp) tg g) (hcn : ∀ C s0 H0 fp, PTs (blk X scope cl C (Xs ++ Nf) s0 H0 fp) ifs tc) (he : ∀ C s0 H0 fp, PE (blk X scope cl C (Xs ++ Nf) s0 H0 fp) elt te) (hs : ∀ x, foldedSetIterable iter X.env x = pure x := by intro _; rfl) :
    PE X (.ListComp elt [⟨tg, iter, ifs, 0⟩] scope pos) (tCompG Xs.length js wi g tc te) := by
  intro pins s σ H Q I h
  rw [eval_ListComp]
  refine wpAny_comprehension_free (use := none) rfl hs K.clos K.kind K.names (thn (hi pins s σ H _ I h) fun v s1 h1 => thn h1 fun itv s2 h2 => ?_)
  obtain ⟨it, fp, tn, J, H2, e, I2, T, st2, f2, vs, ⟨hvl, hvs⟩, hW⟩ := h2
  subst e
  have hD : H2 s2.heap.objs.size = none := I2.hok.fresh (Nat.le_refl _)
  obtain ⟨W, ⟨m0, w0⟩, turn⟩ := hW s2.heap.objs.size hD
  have hlt2 : ∀ b ∈ fp, b < s2.heap.objs.size := fun b hb => let ⟨o, e, _⟩ := T.obj _ _ st2 b hb; Heap.lt_size e
  refine wpAny_newObj_type (wpAny_newFunctionEnv K.cell (by intro y hy; simp at hy) (fun h₁ hns₁ hsb₁ => ?_) K.kind)
  dsimp only at hns₁ hsb₁ ⊢
  generalize hP3 : s2.heap.push { cls := .type "list", dict := none, data := .seq ([] : List Value).toArray } = P3 at hns₁ hsb₁ ⊢
  obtain ⟨s3, hs3⟩ : ∃ s3 : Shared, s3 = { s2 with heap := P3 } := ⟨_, rfl⟩
  have eP : P3 = s3.heap := by rw [hs3]
  rw [eP] at hns₁ hsb₁ ⊢
  have I3 : Inv X pins σ (upd H2 s2.heap.objs.size (.lst [])) s3 := by
    rw [hs3, ← hP3]
    exact I2.laid (t' := s2.toks) (fun b u e => Heap.get?_push_of_some _ e) (Nat.le_refl _) ⟨Nat.zero_le _, [], 0, .nil, Heap.get?_push_size _ rfl⟩
  have keep23 : ∀ b o, s2.heap.get? b = some o → s3.heap.get? b = some o := fun b o e => by rw [← eP, ← hP3]; exact Heap.get?_push_of_some _ e
  have f3 : ∀ b ∈ fp, FpOk X pins (upd H2 s2.heap.objs.size (.lst [])) b := fun b hb => ⟨by rw [upd_ne (Nat.ne_of_lt (hlt2 b hb))]; exact (f2 b hb).1, (f2 b hb).2⟩
  have st3 : tn 0 s3.heap := T.keep _ _ _ st2 fun b hb o e => keep23 b o e
  have hlt3 : ∀ b ∈ fp, b < s3.heap.objs.size := fun b hb => let ⟨o, e, _⟩ := T.obj _ _ st3 b hb; Heap.lt_size e
  have keep34 : ∀ b o, s3.heap.get? b = some o → h₁.get? b = some o := fun b o e => hsb₁.extBut b o (Nat.ne_of_lt (Heap.lt_size e)) (Heap.get?_push_of_some _ e)
  have st4 : tn 0 h₁ := T.keep _ _ _ st3 fun b hb o e => keep34 b o e
  have fr3 : ∀ b ∈ fp, upd H2 s2.heap.objs.size (.lst []) b = none := fun b hb => (f3 b hb).1
  have stat : ∀ {H' : Hp}, (∀ b ∈ fp, H' b = none) → ∀ b ∈ fp, FpOk (blk X scope cl s3.heap.objs.size (Xs ++ Nf) s3 (upd H2 s2.heap.objs.size (.lst [])) fp) [] H' b := fun {H'} hn b hb => by
    refine ⟨hn b hb, Nat.ne_of_lt (hlt3 b hb), fun z => ?_, .inl hb, fun y c e => (f3 b hb).2.2.2.2.1 y c (K.sub y c e), fun p hp => absurd (show p ∈ ([] : List (Addr × Obj)) from hp) (by simp)⟩
    rcases List.mem_cons.mp (I3.stkSub b z) with e | e
    · exact (f3 b hb).2.1 e
    · exact (f3 b hb).2.2.1 e
  have fin : ∀ {σ' : St} {H' : Hp} {s' : Shared}, Inv (blk X scope cl s3.heap.objs.size (Xs ++ Nf) s3 (upd H2 s2.heap.objs.size (.lst [])) fp) [] σ' H' s' → Q (.ref s2.heap.objs.size) H' →
      compPost (model X.prog X.w) X.A X.xe none (EP X pins σ Q) (.ref s2.heap.objs.size) s3.heap.objs.size (.ok .next) s' := fun {σ' H' s'} J q => by
    obtain ⟨m, hn, _⟩ := J.loc
    refine ⟨m, hn, fun h' hs' => ⟨.ref s2.heap.objs.size, H', ?_, rfl, q⟩⟩
    have ne : ∀ b o, s3.heap.get? b = some o → b ≠ s3.heap.objs.size := fun b o e => Nat.ne_of_lt (Heap.lt_size e)
    have nC : ∀ b u, H' b = some u → b ≠ s3.heap.objs.size := fun b u e z => by
      have f := J.free
      rw [z] at e
      have f' : H' s3.heap.objs.size = none := f
      rw [f'] at e; cases e
    have B := J.base
    refine I3.call' (ch := fp) (s' := { s' with heap := h' }) J.os ?_ (fun b u e => (J.hok b u e).stay (fun c v hc q => hs'.extBut c v ?_ q) (fun _ q => q) fun _ _ q => q) J.bare fun b hb => ⟨(f3 b hb).2.2.2.1, (f3 b hb).2.1, (f3 b hb).2.2.2.2.1, (f3 b hb).2.2.2.2.2⟩
    · exact ⟨fun b o e n hb hx => hs'.extBut b o (ne b o e) (B.keep b o e n hb hx), fun b o e n hb hx => let ⟨sl, z⟩ := B.slot b o e n hb hx; ⟨sl, hs'.extBut b _ (ne b o e) z⟩, fun b o e n hx => B.free b o e n hx,
        fun b o e hx => let ⟨o', z⟩ := B.there b o e hx; ⟨o', hs'.extBut b _ (ne b o e) z⟩, B.tups, B.frzs, B.tbls⟩
    · rcases hc with z | z
      · rw [z]; exact nC b u e
      · exact nC c _ z
  have loop : ∀ s4 : Shared, s4 = { s3 with heap := h₁, toks := s3.toks + ([] : List (Str × Value)).length } →
      codeAny (model X.prog X.w) X.A (.compLoop (.ListComp elt [⟨tg, iter, ifs, 0⟩] scope pos) 0 (.ref it) (.ref s2.heap.objs.size) (compEnvC scope cl s3.heap.objs.size X.env))
        (compPost (model X.prog X.w) X.A X.xe none (EP X pins σ Q) (.ref s2.heap.objs.size) s3.heap.objs.size) s4 := by
    rintro s4 rfl
    have I4 := blk_startG (Xs := Xs) (tk := s3.toks + ([] : List (Str × Value)).length) K I3 hvl hvs f3 hlt3 hns₁ keep34
    refine compLoop_goC (fun n s' => ∃ i ox ys H', ox.length = Xs.length ∧ Inv (blk X scope cl s3.heap.objs.size (Xs ++ Nf) s3 (upd H2 s2.heap.objs.size (.lst [])) fp) [] (ox ++ vs.map some) H' s' ∧ tn i s'.heap ∧ (∀ b ∈ fp, H' b = none) ∧ W i n ys H') ?_ m0 ⟨0, List.replicate Xs.length none, [], _, List.length_replicate, I4, st4, fr3, w0⟩
    rintro n s5 ⟨i, ox, ys, H5, hox, I5, st5, fr5, w5⟩
    rcases turn i n ys H5 w5 with ⟨stop, qn⟩ | ⟨go, step⟩
    · refine wpAny_mono (T.done (blk X scope cl s3.heap.objs.size (Xs ++ Nf) s3 (upd H2 s2.heap.objs.size (.lst [])) fp) rfl rfl rfl hc i [] s5 _ H5 _ I5 (stat fr5) st5 stop) (fun r s6 ⟨hr, I6⟩ => ?_) fun _ _ z => z
      subst hr
      exact fin I6 qn
    · refine wpAny_mono (T.item (blk X scope cl s3.heap.objs.size (Xs ++ Nf) s3 (upd H2 s2.heap.objs.size (.lst [])) fp) rfl rfl rfl hc i [] s5 _ H5 _ I5 (stat fr5) st5 go) (fun r s6 ⟨u, hr, h6⟩ => ?_) fun _ _ z => z
      subst hr
      refine wpAny_mono h6 (fun _ s7 ⟨x7, H7, I7, r7, y7, st7, fr7⟩ => ?_) fun _ _ z => z
      have I7' := I7.pinned (stat fr7) (T.obj _ _ st7)
      refine wpAny_mono (hg s3.heap.objs.size s3 (upd H2 s2.heap.objs.size (.lst [])) fp _ s7 _ H7 x7 u _ I7' r7 (step x7 H7 ox hox y7)) (fun _ s8 ⟨σ8, H8, I8, ox2, hox2, e8, q8⟩ => ?_) fun _ _ z => False.elim z
      subst e8
      refine wpAny_mono (hcn s3.heap.objs.size s3 _ fp _ s8 _ H8 _ I8 q8) (fun b8 s8b ⟨H8b, I8b, q8b⟩ => ?_) fun _ _ z => False.elim z
      have ends : ∀ (H10 : Hp) (s10 : Shared) (ys' : List V) (m' : Nat), m' < n → W (i + 1) m' ys' H10 → Inv (blk X scope cl s3.heap.objs.size (Xs ++ Nf) s3 (upd H2 s2.heap.objs.size (.lst [])) fp) ([] ++ pinsAt fp s7.heap) (ox2 ++ vs.map some) H10 s10 →
          ∃ m, m < n ∧ ∃ i ox ys H', ox.length = Xs.length ∧ Inv (blk X scope cl s3.heap.objs.size (Xs ++ Nf) s3 (upd H2 s2.heap.objs.size (.lst [])) fp) [] (ox ++ vs.map some) H' s10 ∧ tn i s10.heap ∧ (∀ b ∈ fp, H' b = none) ∧ W i m ys H' := fun H10 s10 ys' m' hm' w9 I10 => by
        refine ⟨m', hm', i + 1, ox2, ys', _, hox2, I10.unpinned, T.keep _ _ _ st7 fun b hb o e => (I10.pin (b, o) (List.mem_append_right _ (List.mem_append_right _ (mem_pinsAt hb e)))).1, fun b hb => ?_, w9⟩
        obtain ⟨o, e, d⟩ := T.obj _ _ st7 b hb
        exact (I10.pin (b, o) (List.mem_append_right _ (List.mem_append_right _ (mem_pinsAt hb e)))).2.1
      cases b8 with
      | false =>
        rw [if_neg Bool.false_ne_true] at q8b ⊢
        obtain ⟨m', hm', w9⟩ := q8b
        exact ends _ _ _ _ hm' w9 I8b
      | true =>
        rw [if_pos rfl] at q8b ⊢
        refine wpAny_mono (he s3.heap.objs.size s3 _ fp _ s8b _ H8b _ I8b q8b) (fun v9 s9 ⟨v, H9, I9, r9, hD9, hz9, m', hm', w9⟩ => ?_) fun _ _ z => False.elim z
        refine wpAny_mono (mt_append (X := blk X scope cl s3.heap.objs.size (Xs ++ Nf) s3 (upd H2 s2.heap.objs.size (.lst [])) fp) _ s9 _ H9 (.ref s2.heap.objs.size) [v] (.ref s2.heap.objs.size) [v9] (fun _ H' => H' = upd H9 s2.heap.objs.size (.lst (ys ++ [v]))) I9 rfl (.cons r9 .nil) ⟨_, ys, v, rfl, rfl, hD9, hz9, rfl⟩)
          (fun _ s10 ⟨_, H10, I10, _, e10⟩ => ?_) fun _ _ z => False.elim z
        subst e10
        exact ends _ _ _ _ hm' w9 I10
  have e4 : ({ s2 with heap := h₁, toks := s2.toks + ([] : List (Str × Value)).length } : Shared) = { s3 with heap := h₁, toks := s3.toks + ([] : List (Str × Value)).length } := by rw [hs3]
  rw [e4]
  exact codeAny_compStart_list (loop _ rfl) (T.self _ 0 _ _ _ st4 (loop _ rfl))
end
end L2
set_option Elab.async false
set_option linter.all false
set_option maxRecDepth 100000
set_option maxHeartbeats 4000000
namespace L2
open PySem PySem.Spec PyProof.Rows PySem.Builtin PySem.Builtin.Str
/-! ### a comprehension with a test, bound right away -/
def tSetCompG (k : Nat) (js : List Nat) (wi : TI) (g : TG) (tc : TT) (te : TE) (i : Nat) : TS := fun D σ H => tCompG k js wi g tc te σ H fun v H' => D.nx (σ.set i (some v)) H'
section
variable {X : Cx}
theorem ps_setCompG {elt iter tg : Expr} {ifs : List Expr} {y : Str} {py spos : Pos} {iy : Nat} {pos : Pos} {scope : Scope} {cl : List (Str × Addr)} {Xs Nf : List Str} {js : List Nat} {wi : TI} {g : TG} {tc : TT} {te : TE} (K : CompOkG X scope cl Xs Nf js) (hc : X.calm = true) (hi : PI X tg iter wi)
    (hg : ∀ C s0 H0 fp, PG (blk X scope cl C (Xs ++ Nf) s0 H0 fp) tg g) (hcn : ∀ C s0 H0 fp, PTs (blk X scope cl C (Xs ++ Nf) s0 H0 fp) ifs tc) (he : ∀ C s0 H0 fp, PE (blk X scope cl C (Xs ++ Nf) s0 H0 fp) elt te)
    (hN : X.N.Nodup) (hiy : X.N[iy]? = some y) (hy : Loc X.env.scope y) (hsw : swapsWith (.ListComp elt [⟨tg, iter, ifs, 0⟩] scope pos) (some (.Name y py)) spos.line X.env = pure true := by rfl)
    (hfy : X.fn y = true ∨ X.env.scope.names.lookup y = some .local := by first | exact .inl rfl | exact .inr rfl | assumption) (hs : ∀ x, foldedSetIterable iter X.env x = pure x := by intro _; rfl) :
    PS X (.Assign [.Name y py] (.ListComp elt [⟨tg, iter, ifs, 0⟩] scope pos) spos) (tSetCompG Xs.length js wi g tc te iy) := by
  intro pins s σ H DD I h
  obtain ⟨Q, hQ⟩ : ∃ Q : VK, Q = fun v H' => DD.nx (σ.set iy (some v)) H' := ⟨_, rfl⟩
  have h' : tCompG Xs.length js wi g tc te σ H Q := by rw [hQ]; exact h
  rw [exec_Assign_Name_used _ _ _ _ hsw]
  refine wpAny_bind (wpAny_standAt (wpAny_bind ?_))
  show wpAny _ X.A (do let _ ← comprehension (.ListComp elt [⟨tg, iter, ifs, 0⟩] scope pos) scope X.env _ (newList []) false (eval iter X.env) (some (assign (.Name y py) X.env))) _ _ s
  refine wpAny_bind (wpAny_mono (wpAny_comprehension_free (use := some (assign (.Name y py) X.env)) (Q := fun _ s' => SP X pins DD .next s') rfl hs K.clos K.kind K.names (thn (hi pins s σ H _ I h') fun v s1 h1 => thn h1 fun itv s2 h2 => ?_)) (fun _ s' hq => wpAny_pure (wpAny_pure hq)) fun _ _ e => e)
  obtain ⟨it, fp, tn, J, H2, e, I2, T, st2, f2, vs, ⟨hvl, hvs⟩, hW⟩ := h2
  subst e
  have hD : H2 s2.heap.objs.size = none := I2.hok.fresh (Nat.le_refl _)
  obtain ⟨W, ⟨m0, w0⟩, turn⟩ := hW s2.heap.objs.size hD
  have hlt2 : ∀ b ∈ fp, b < s2.heap.objs.size := fun b hb => let ⟨o, e, _⟩ := T.obj _ _ st2 b hb; Heap.lt_size e
  refine wpAny_newObj_type (wpAny_newFunctionEnv K.cell (by intro y hy; simp at hy) (fun h₁ hns₁ hsb₁ => ?_) K.kind)
  dsimp only at hns₁ hsb₁ ⊢
  generalize hP3 : s2.heap.push { cls := .type "list", dict := none, data := .seq ([] : List Value).toArray } = P3 at hns₁ hsb₁ ⊢
  obtain ⟨s3, hs3⟩ : ∃ s3 : Shared, s3 = { s2 with heap := P3 } := ⟨_, rfl⟩
  have eP : P3 = s3.heap := by rw [hs3]
  rw [eP] at hns₁ hsb₁ ⊢
  have I3 : Inv X pins σ (upd H2 s2.heap.objs.size (.lst [])) s3 := by
    rw [hs3, ← hP3]
    exact I2.laid (t' := s2.toks) (fun b u e => Heap.get?_push_of_some _ e) (Nat.le_refl _) ⟨Nat.zero_le _, [], 0, .nil, Heap.get?_push_size _ rfl⟩
  have keep23 : ∀ b o, s2.heap.get? b = some o → s3.heap.get? b = some o := fun b o e => by rw [← eP, ← hP3]; exact Heap.get?_push_of_some _ e
  have f3 : ∀ b ∈ fp, FpOk X pins (upd H2 s2.heap.objs.size (.lst [])) b := fun b hb => ⟨by rw [upd_ne (Nat.ne_of_lt (hlt2 b hb))]; exact (f2 b hb).1, (f2 b hb).2⟩
  have st3 : tn 0 s3.heap := T.keep _ _ _ st2 fun b hb o e => keep23 b o e
  have hlt3 : ∀ b ∈ fp, b < s3.heap.objs.size := fun b hb => let ⟨o, e, _⟩ := T.obj _ _ st3 b hb; Heap.lt_size e
  have keep34 : ∀ b o, s3.heap.get? b = some o → h₁.get? b = some o := fun b o e => hsb₁.extBut b o (Nat.ne_of_lt (Heap.lt_size e)) (Heap.get?_push_of_some _ e)
  have st4 : tn 0 h₁ := T.keep _ _ _ st3 fun b hb o e => keep34 b o e
  have fr3 : ∀ b ∈ fp, upd H2 s2.heap.objs.size (.lst []) b = none := fun b hb => (f3 b hb).1
  have stat : ∀ {H' : Hp}, (∀ b ∈ fp, H' b = none) → ∀ b ∈ fp, FpOk (blk X scope cl s3.heap.objs.size (Xs ++ Nf) s3 (upd H2 s2.heap.objs.size (.lst [])) fp) [] H' b := fun {H'} hn b hb => by
    refine ⟨hn b hb, Nat.ne_of_lt (hlt3 b hb), fun z => ?_, .inl hb, fun y c e => (f3 b hb).2.2.2.2.1 y c (K.sub y c e), fun p hp => absurd (show p ∈ ([] : List (Addr × Obj)) from hp) (by simp)⟩
    rcases List.mem_cons.mp (I3.stkSub b z) with e | e
    · exact (f3 b hb).2.1 e
    · exact (f3 b hb).2.2.1 e
  have fin : ∀ {σ' : St} {H' : Hp} {s' : Shared}, Inv (blk X scope cl s3.heap.objs.size (Xs ++ Nf) s3 (upd H2 s2.heap.objs.size (.lst [])) fp) [] σ' H' s' → Q (.ref s2.heap.objs.size) H' →
      compPost (model X.prog X.w) X.A X.xe (some (assign (.Name y py) X.env)) (fun _ s' => SP X pins DD .next s') (.ref s2.heap.objs.size) s3.heap.objs.size (.ok .next) s' := fun {σ' H' s'} J q => by
    obtain ⟨m, hn, _⟩ := J.loc
    have ne : ∀ b o, s3.heap.get? b = some o → b ≠ s3.heap.objs.size := fun b o e => Nat.ne_of_lt (Heap.lt_size e)
    have B := J.base
    have I5 : Inv X pins σ H' s' := by
      refine I3.call' (ch := fp) (s' := s') J.os ?_ J.hok J.bare fun b hb => ⟨(f3 b hb).2.2.2.1, (f3 b hb).2.1, (f3 b hb).2.2.2.2.1, (f3 b hb).2.2.2.2.2⟩
      exact ⟨fun b o e n hb hx => B.keep b o e n hb hx, fun b o e n hb hx => B.slot b o e n hb hx, fun b o e n hx => B.free b o e n hx, fun b o e hx => B.there b o e hx, B.tups, B.frzs, B.tbls⟩
    have fC : FpOk X pins H' s3.heap.objs.size := I3.fpOk (Nat.le_refl _) J.free
    obtain ⟨c0, c1, c2, c3, c4, c5⟩ := fC
    show wpAny _ X.A (assign (.Name y py) X.env (.ref s2.heap.objs.size)) _ _ s'
    refine wpAny_assign_Name (store_ok2 (v := .ref s2.heap.objs.size) I5 hN hiy hy rfl (fun s'' I'' sb => ?_) hfy)
    obtain ⟨a, sb, ha⟩ := sb
    have hCa : s3.heap.objs.size ≠ a := by
      rcases ha with z | z
      · rw [z]; exact c1
      · exact fun e => c4 y a z e.symm
    refine ⟨m, hn.sameBut sb hCa, fun h' hs' => ⟨_, H', I''.turned (t' := s''.toks) (fun b o hb e => hs'.extBut b o hb e) c0 c1 c3 c4 c5, ?_⟩⟩
    rw [hQ] at q
    exact q
  have loop : ∀ s4 : Shared, s4 = { s3 with heap := h₁, toks := s3.toks + ([] : List (Str × Value)).length } →
      codeAny (model X.prog X.w) X.A (.compLoop (.ListComp elt [⟨tg, iter, ifs, 0⟩] scope pos) 0 (.ref it) (.ref s2.heap.objs.size) (compEnvC scope cl s3.heap.objs.size X.env))
        (compPost (model X.prog X.w) X.A X.xe (some (assign (.Name y py) X.env)) (fun _ s' => SP X pins DD .next s') (.ref s2.heap.objs.size) s3.heap.objs.size) s4 := by
    rintro s4 rfl
    have I4 := blk_startG (Xs := Xs) (tk := s3.toks + ([] : List (Str × Value)).length) K I3 hvl hvs f3 hlt3 hns₁ keep34
    refine compLoop_goC (fun n s' => ∃ i ox ys H', ox.length = Xs.length ∧ Inv (blk X scope cl s3.heap.objs.size (Xs ++ Nf) s3 (upd H2 s2.heap.objs.size (.lst [])) fp) [] (ox ++ vs.map some) H' s' ∧ tn i s'.heap ∧ (∀ b ∈ fp, H' b = none) ∧ W i n ys H') ?_ m0 ⟨0, List.replicate Xs.length none, [], _, List.length_replicate, I4, st4, fr3, w0⟩
    rintro n s5 ⟨i, ox, ys, H5, hox, I5, st5, fr5, w5⟩
    rcases turn i n ys H5 w5 with ⟨stop, qn⟩ | ⟨go, step⟩
    · refine wpAny_mono (T.done (blk X scope cl s3.heap.objs.size (Xs ++ Nf) s3 (upd H2 s2.heap.objs.size (.lst [])) fp) rfl rfl rfl hc i [] s5 _ H5 _ I5 (stat fr5) st5 stop) (fun r s6 ⟨hr, I6⟩ => ?_) fun _ _ z => z
      subst hr
      exact fin I6 qn
    · refine wpAny_mono (T.item (blk X scope cl s3.heap.objs.size (Xs ++ Nf) s3 (upd H2 s2.heap.objs.size (.lst [])) fp) rfl rfl rfl hc i [] s5 _ H5 _ I5 (stat fr5) st5 go) (fun r s6 ⟨u, hr, h6⟩ => ?_) fun _ _ z => z
      subst hr
      refine wpAny_mono h6 (fun _ s7 ⟨x7, H7, I7, r7, y7, st7, fr7⟩ => ?_) fun _ _ z => z
      have I7' := I7.pinned (stat fr7) (T.obj _ _ st7)
      refine wpAny_mono (hg s3.heap.objs.size s3 (upd H2 s2.heap.objs.size (.lst [])) fp _ s7 _ H7 x7 u _ I7' r7 (step x7 H7 ox hox y7)) (fun _ s8 ⟨σ8, H8, I8, ox2, hox2, e8, q8⟩ => ?_) fun _ _ z => False.elim z
      subst e8
      refine wpAny_mono (hcn s3.heap.objs.size s3 _ fp _ s8 _ H8 _ I8 q8) (fun b8 s8b ⟨H8b, I8b, q8b⟩ => ?_) fun _ _ z => False.elim z
      have ends : ∀ (H10 : Hp) (s10 : Shared) (ys' : List V) (m' : Nat), m' < n → W (i + 1) m' ys' H10 → Inv (blk X scope cl s3.heap.objs.size (Xs ++ Nf) s3 (upd H2 s2.heap.objs.size (.lst [])) fp) ([] ++ pinsAt fp s7.heap) (ox2 ++ vs.map some) H10 s10 →
          ∃ m, m < n ∧ ∃ i ox ys H', ox.length = Xs.length ∧ Inv (blk X scope cl s3.heap.objs.size (Xs ++ Nf) s3 (upd H2 s2.heap.objs.size (.lst [])) fp) [] (ox ++ vs.map some) H' s10 ∧ tn i s10.heap ∧ (∀ b ∈ fp, H' b = none) ∧ W i m ys H' := fun H10 s10 ys' m' hm' w9 I10 => by
        refine ⟨m', hm', i + 1, ox2, ys', _, hox2, I10.unpinned, T.keep _ _ _ st7 fun b hb o e => (I10.pin (b, o) (List.mem_append_right _ (List.mem_append_right _ (mem_pinsAt hb e)))).1, fun b hb => ?_, w9⟩
        obtain ⟨o, e, d⟩ := T.obj _ _ st7 b hb
        exact (I10.pin (b, o) (List.mem_append_right _ (List.mem_append_right _ (mem_pinsAt hb e)))).2.1
      cases b8 with
      | false =>
        rw [if_neg Bool.false_ne_true] at q8b ⊢
        obtain ⟨m', hm', w9⟩ := q8b
        exact ends _ _ _ _ hm' w9 I8b
      | true =>
        rw [if_pos rfl] at q8b ⊢
        refine wpAny_mono (he s3.heap.objs.size s3 _ fp _ s8b _ H8b _ I8b q8b) (fun v9 s9 ⟨v, H9, I9, r9, hD9, hz9, m', hm', w9⟩ => ?_) fun _ _ z => False.elim z
        refine wpAny_mono (mt_append (X := blk X scope cl s3.heap.objs.size (Xs ++ Nf) s3 (upd H2 s2.heap.objs.size (.lst [])) fp) _ s9 _ H9 (.ref s2.heap.objs.size) [v] (.ref s2.heap.objs.size) [v9] (fun _ H' => H' = upd H9 s2.heap.objs.size (.lst (ys ++ [v]))) I9 rfl (.cons r9 .nil) ⟨_, ys, v, rfl, rfl, hD9, hz9, rfl⟩)
          (fun _ s10 ⟨_, H10, I10, _, e10⟩ => ?_) fun _ _ z => False.elim z
        subst e10
        exact ends _ _ _ _ hm' w9 I10
  have e4 : ({ s2 with heap := h₁, toks := s2.toks + ([] : List (Str × Value)).length } : Shared) = { s3 with heap := h₁, toks := s3.toks + ([] : List (Str × Value)).length } := by rw [hs3]
  rw [e4]
  exact codeAny_compStart_list (loop _ rfl) (T.self _ 0 _ _ _ st4 (loop _ rfl))
end
end L2
set_option Elab.async false
set_option linter.all false
set_option maxRecDepth 100000
set_option maxHeartbeats 4000000
namespace GS
open PySem PySem.Spec PySem.Builtin PyProof.Rows L2
open PySem.SeqAt
open PySem.MeetsSeq PySem.MeetsSeq2 PySem.MeetsSeq3
/-! ### the whole of a tuple, as a slice: itself -/
theorem getItem_tuple_whole {prog : Program} {w : World} {A : Around} {E : Value → Shared → Prop} {s : Shared} {t sl : Addr} {items : Array Value} {vl vu : Value} {lo hi : Option Int} {Q : Value → Shared → Prop} (ht : IsTup s.heap t items) (hs : s.heap.IsSliceOf sl vl vu .none) (pl : IsPart vl lo) (pu : IsPart vu hi)
    (hw : HT.sIx items.size 0 lo = 0 ∧ HT.sIx items.size items.size hi = items.size) (h : Q (.ref t) s) : wpAny (model prog w) A (getItem (.ref t) (.ref sl)) Q E s := by
  obtain ⟨os, hos, hcs, hds⟩ := id hs
  have hTs : s.TypeIs (.ref sl) "slice" := ⟨os, hos, hcs⟩
  unfold getItem
  try with_reducible refine wpAny_holding ?_
  first | refine wpAny_bind (wpAny_pure ?_) | skip
  refine wpAny_bind (wpAny_sequenceKey ht.typeIs (by decide) ?_)
  refine wpAny_bind (wpAny_callSpecial?_slot (name := Str.ofString "__getitem__") ht.typeIs PyProof.Rows.slot_tuple_getitem
    (wpAny_call_entry PyProof.Rows.slot_tuple_getitem ht.typeIs entry_tuple_getitem ?_ (args_tuple_getitem _ _)))
  show wpAny _ _ (Builtin.Tuple.tupleItemsOf (.ref t) >>= _) _ _ s
  refine wpAny_bind (tupleItemsOf_ ht ?_)
  refine wpAny_bind (wpAny_typeOf hTs ?_)
  rw [if_pos (by decide)]
  refine wpAny_bind (HT.sliceApplied_gen hs pl pu ?_)
  rw [hw.1, hw.2]
  show wpAny _ _ (if (((0 : Nat) : Int) == 0 && (1 : Int) == 1 && (items.size - 0) == items.size) = true then _ else _) _ _ s
  rw [if_pos (by simp)]
  refine wpAny_bind ?_
  unfold Builtin.Tuple.tupleIsExact
  refine wpAny_bind (wpAny_typeOf ht.typeIs (wpAny_pure ?_))
  rw [if_pos (by decide)]
  exact wpAny_bind (wpAny_rule (wpAny_pure ⟨_, rfl, wpAny_pure h⟩))
section
variable {X : Cx} {K : PySem.W.Frag} {H : Hp}
end
end GS
set_option Elab.async false
set_option linter.all false
set_option maxRecDepth 100000
set_option maxHeartbeats 4000000
namespace L2
open PySem PySem.Spec PyProof.Rows

/-! ### lists of pairs as tables -/
section
variable {κ : Type} [DecidableEq κ]
def valV (kvs : List (κ × V)) (k : κ) : Option V := (kvs.find? fun kv => decide (kv.1 = k)).map (·.2)
/-- in its place, or at the end -/
def putK (kvs : List (κ × V)) (k : κ) (v : V) : List (κ × V) :=
  if (kvs.any fun kv => decide (kv.1 = k)) = true then kvs.map (fun kv => if kv.1 = k then (kv.1, v) else kv) else kvs ++ [(k, v)]

theorem valV_pos {p : κ × V} {r : List (κ × V)} {k : κ} (e : p.1 = k) : valV (p :: r) k = some p.2 := by simp [valV, List.find?_cons, e]
theorem valV_neg {p : κ × V} {r : List (κ × V)} {k : κ} (e : ¬ p.1 = k) : valV (p :: r) k = valV r k := by simp [valV, List.find?_cons, e]
theorem valV_any (k : κ) : ∀ kvs : List (κ × V), (kvs.any fun kv => decide (kv.1 = k)) = (valV kvs k).isSome
  | [] => rfl
  | p :: r => by
    rw [List.any_cons]
    by_cases e : p.1 = k
    · simp only [valV_pos e, decide_eq_true e, Bool.true_or, Option.isSome_some]
    · rw [valV_neg e, decide_eq_false e, Bool.false_or]; exact valV_any k r
theorem valV_map (k j : κ) (y : V) : ∀ kvs : List (κ × V), valV (kvs.map fun kv => if kv.1 = k then (kv.1, y) else kv) j = (valV kvs j).map fun x => if j = k then y else x
  | [] => rfl
  | p :: r => by
    have ih := valV_map k j y r
    rw [List.map_cons]
    by_cases h : p.1 = k
    · rw [if_pos h]
      by_cases e : p.1 = j
      · rw [valV_pos (p := (p.1, y)) e, valV_pos e, Option.map_some, if_pos (e.symm.trans h)]
      · rw [valV_neg (p := (p.1, y)) e, valV_neg e, ih]
    · rw [if_neg h]
      by_cases e : p.1 = j
      · rw [valV_pos (p := p) e, valV_pos e, Option.map_some, if_neg (fun z => h (e.trans z))]
      · rw [valV_neg (p := p) e, valV_neg e, ih]
theorem valV_snoc (k j : κ) (y : V) : ∀ kvs : List (κ × V), valV kvs k = none → valV (kvs ++ [(k, y)]) j = if j = k then some y else valV kvs j
  | [], _ => by
    by_cases e : k = j
    · rw [if_pos e.symm]; exact valV_pos (p := (k, y)) e
    · rw [if_neg (fun z => e z.symm)]; exact valV_neg (p := (k, y)) e
  | p :: r, hn => by
    rw [List.cons_append]
    have hk : ¬ p.1 = k := fun z => by rw [valV_pos z] at hn; cases hn
    rw [valV_neg hk] at hn
    have ih := valV_snoc k j y r hn
    by_cases e : p.1 = j
    · rw [valV_pos e, valV_pos e, if_neg (fun z => hk (e.trans z))]
    · rw [valV_neg e, valV_neg e, ih]
theorem valV_put (kvs : List (κ × V)) (k j : κ) (y : V) : valV (putK kvs k y) j = if j = k then some y else valV kvs j := by
  unfold putK
  by_cases a : (kvs.any fun kv => decide (kv.1 = k)) = true
  · rw [if_pos a, valV_map]
    rw [valV_any] at a
    by_cases e : j = k
    · obtain ⟨x, hx⟩ := Option.isSome_iff_exists.mp a
      rw [if_pos e, e, hx, Option.map_some, if_pos rfl]
    · rw [if_neg e]
      cases valV kvs j with
      | none => rfl
      | some x => rw [Option.map_some, if_neg e]
  · rw [if_neg a]
    refine valV_snoc k j y kvs ?_
    rw [valV_any] at a
    cases q : valV kvs k with
    | none => rfl
    | some x => rw [q] at a; exact (a rfl).elim
theorem length_putK (kvs : List (κ × V)) (k : κ) (v : V) : (putK kvs k v).length ≤ kvs.length + 1 := by
  unfold putK
  split
  · rw [List.length_map]; omega
  · rw [List.length_append, List.length_cons, List.length_nil]; omega
theorem putK_new {kvs : List (κ × V)} {k : κ} (v : V) (h : valV kvs k = none) : putK kvs k v = kvs ++ [(k, v)] := by
  unfold putK
  rw [valV_any, h]
  exact if_neg (by decide)

theorem RelO.isSome_eq {o : Option V} {u : Option Value} (r : RelO o u) : o.isSome = u.isSome := by
  cases o with
  | none => cases u with
    | none => rfl
    | some _ => exact (show False from r).elim
  | some _ => cases u with
    | none => exact (show False from r).elim
    | some _ => rfl
theorem RelO.getD {o : Option V} {u : Option Value} {d : V} {d' : Value} (r : RelO o u) (rd : RelV d d') : RelV (o.getD d) (u.getD d') := by
  cases o with
  | none => cases u with
    | none => exact rd
    | some _ => exact (show False from r).elim
  | some _ => cases u with
    | none => exact (show False from r).elim
    | some _ => exact r

/-- raw tables of the same keys -/
theorem KV.val {kvs : List (κ × V)} {vs : List (κ × Value)} (r : KV kvs vs) (k : κ) : RelO (valV kvs k) (valueAt vs k) := by
  unfold KV at r
  induction r with
  | nil => exact True.intro
  | @cons p q ps qs h t ih =>
    obtain ⟨h1, h2⟩ := h
    by_cases e : p.1 = k
    · have e' : q.1 = k := h1.symm.trans e
      have b : valueAt (q :: qs) k = some q.2 := by simp [valueAt, List.find?_cons, e']
      rw [valV_pos e, b]; exact h2
    · have e' : ¬ q.1 = k := fun z => e (h1.trans z)
      have b : valueAt (q :: qs) k = valueAt qs k := by simp [valueAt, List.find?_cons, e']
      rw [valV_neg e, b]; exact ih
theorem KV.any {kvs : List (κ × V)} {vs : List (κ × Value)} (r : KV kvs vs) (k : κ) : (kvs.any fun kv => decide (kv.1 = k)) = vs.any fun kv => decide (kv.1 = k) := by
  unfold KV at r
  induction r with
  | nil => rfl
  | cons h t ih => rw [List.any_cons, List.any_cons, ih, h.1]
theorem KV.repl {kvs : List (κ × V)} {vs : List (κ × Value)} (r : KV kvs vs) (k : κ) {y : V} {u : Value} (ry : RelV y u) :
    KV (kvs.map fun kv => if kv.1 = k then (kv.1, y) else kv) (vs.map fun kv => if kv.1 = k then (kv.1, u) else kv) := by
  unfold KV at r ⊢
  induction r with
  | nil => exact .nil
  | @cons p q ps qs h t ih =>
    rw [List.map_cons, List.map_cons]
    refine .cons ?_ ih
    obtain ⟨h1, h2⟩ := h
    by_cases e : p.1 = k
    · rw [if_pos e, if_pos (h1.symm.trans e)]; exact ⟨h1, ry⟩
    · rw [if_neg e, if_neg (fun z => e (h1.trans z))]; exact ⟨h1, h2⟩
theorem KV.put {kvs : List (κ × V)} {vs : List (κ × Value)} (r : KV kvs vs) (k : κ) {y : V} {u : Value} (ry : RelV y u) : KV (putK kvs k y) (stored vs k u) := by
  unfold putK stored
  rw [r.any k]
  by_cases e : (vs.any fun kv => decide (kv.1 = k)) = true
  · rw [if_pos e, if_pos e]; exact r.repl k ry
  · rw [if_neg e, if_neg e]; exact Paired.snoc r ⟨rfl, ry⟩
theorem KV.keys {kvs : List (κ × V)} {vs : List (κ × Value)} (r : KV kvs vs) : kvs.map (·.1) = vs.map (·.1) := by
  unfold KV at r
  induction r with
  | nil => rfl
  | cons h t ih => rw [List.map_cons, List.map_cons, ih, h.1]
theorem KV.length {kvs : List (κ × V)} {vs : List (κ × Value)} (r : KV kvs vs) : kvs.length = vs.length := Paired.length r
end


/-! ### a tracked dict, its keys ints and texts or tuples of these -/
theorem kV_is {P : Program} {w : World} {k : Key} {u : Value} (r : RelV (kV k) u) : (mixKind P w).is k u = true := by
  cases k with
  | inl i => obtain ⟨t, e⟩ := (show ∃ t, u = Value.int i t from r); subst e; exact mixKind_int P w i t
  | inr x => obtain ⟨t, e⟩ := (show ∃ t, u = Value.str x t from r); subst e; exact mixKind_str P w x t
theorem items_are {P : Program} {w : World} : ∀ {ks : List Key} {us : List Value}, Vals (ks.map kV) us → ItemsAre (mixKind P w) ks us
  | [], _, r => by rw [List.map_nil] at r; cases r; exact .nil
  | k :: ks, _, r => by
    rw [List.map_cons] at r
    cases r with
    | cons h t => exact .cons (kV_is h) (items_are t)

/-- raw entries of a dict with tuple keys -/
abbrev KT (H : Hp) : List (List Key × V) → List (List Key × Addr × Value) → Prop := Paired fun p q => p.1 = q.1 ∧ H q.2.1 = some (.tup (p.1.map kV)) ∧ RelV p.2 q.2.2
theorem KT.val {H : Hp} {kvs : List (List Key × V)} {xs : List (List Key × Addr × Value)} (r : KT H kvs xs) (k : List Key) : RelO (valV kvs k) ((atKey xs k).map (·.2)) := by
  induction r with
  | nil => exact True.intro
  | @cons p q ps qs h t ih =>
    obtain ⟨h1, _, h2⟩ := h
    by_cases e : p.1 = k
    · have e' : q.1 = k := h1.symm.trans e
      have b : atKey (q :: qs) k = some q.2 := by simp [atKey, List.find?_cons, e']
      rw [valV_pos e, b]; exact h2
    · have e' : ¬ q.1 = k := fun z => e (h1.trans z)
      have b : atKey (q :: qs) k = atKey qs k := by simp [atKey, List.find?_cons, e']
      rw [valV_neg e, b]; exact ih
theorem KT.repl {H : Hp} {kvs : List (List Key × V)} {xs : List (List Key × Addr × Value)} (r : KT H kvs xs) (k : List Key) {y : V} {u : Value} (ry : RelV y u) :
    KT H (kvs.map fun kv => if kv.1 = k then (kv.1, y) else kv) (xs.map (putAt k u)) := by
  induction r with
  | nil => exact .nil
  | @cons p q ps qs h t ih =>
    rw [List.map_cons, List.map_cons]
    refine .cons ?_ ih
    obtain ⟨h1, h2, h3⟩ := h
    unfold putAt
    by_cases e : p.1 = k
    · rw [if_pos e, if_pos (h1.symm.trans e)]; exact ⟨h1, h2, ry⟩
    · rw [if_neg e, if_neg (fun z => e (h1.trans z))]; exact ⟨h1, h2, h3⟩
theorem KT.put {H : Hp} {kvs : List (List Key × V)} {xs : List (List Key × Addr × Value)} (r : KT H kvs xs) (k : List Key) {b : Addr} {y : V} {u : Value} (hb : H b = some (.tup (k.map kV))) (ry : RelV y u) :
    KT H (putK kvs k y) (storedH xs k b u) := by
  have e : (kvs.any fun kv => decide (kv.1 = k)) = (atKey xs k).isSome := by
    rw [valV_any, (r.val k).isSome_eq, Option.isSome_map]
  unfold putK storedH
  rw [e]
  by_cases q : (atKey xs k).isSome = true
  · rw [if_pos q, if_pos q]; exact r.repl k ry
  · rw [if_neg q, if_neg q]; exact Paired.snoc r ⟨rfl, hb, ry⟩
theorem KT.keeps {H H' : Hp} {kvs : List (List Key × V)} {xs : List (List Key × Addr × Value)} (r : KT H kvs xs) (ht : ∀ b ys, H b = some (.tup ys) → H' b = some (.tup ys)) : KT H' kvs xs :=
  Paired.mapP r fun _ _ z => ⟨z.1, ht _ _ z.2.1, z.2.2⟩

section
variable {P : Program} {w : World} {H : Hp} {h : Heap} {a : Addr}
theorem rd_of {u : HO} (ok : HOk P w H h) (e : Rd H a u) : ObjOk P w H h a u := e.ok ok
theorem dk_rd {kvs : List (Key × V)} (ok : HOk P w H h) (e : Rd H a (.dK kvs)) : kvs.length ≤ sizeLine ∧ (a == sysModules) = false ∧ ∃ vs, KV kvs vs ∧ h.DictOf (mixKind P w) a vs :=
  show ObjOk P w H h a (.dK kvs) from rd_of ok e
theorem dk_of {kvs : List (Key × V)} (ok : HOk P w H h) (e : H a = some (.dK kvs)) : kvs.length ≤ sizeLine ∧ (a == sysModules) = false ∧ ∃ vs, KV kvs vs ∧ h.DictOf (mixKind P w) a vs := dk_rd ok (.inl e)
/-- a tracked tuple of ints and texts is a key -/
theorem key_of {ks : List Key} (ok : HOk P w H h) (e : H a = some (.tup (ks.map kV))) : (tupleKind (mixKind P w)).is h ks a := by
  obtain ⟨_, its, r, o, h1, h2, n, h3⟩ := (show ObjOk P w H h a (.tup (ks.map kV)) from ok a _ e)
  exact ⟨o, its.toArray, n, h1, h2, h3, by simpa using items_are r⟩
theorem dt_rd {kvs : List (List Key × V)} (ok : HOk P w H h) (e : Rd H a (.dT kvs)) : kvs.length ≤ sizeLine ∧ (a == sysModules) = false ∧
    ∃ xs, KT H kvs xs ∧ h.DictOfH (tupleKind (mixKind P w)) a xs := by
  obtain ⟨z, y, xs, r, o, es, ep, h1, h2, h3, h4, h5⟩ := (show ObjOk P w H h a (.dT kvs) from rd_of ok e)
  refine ⟨z, y, xs, r, o, es, ep, h1, h2, h3, h4, fun x hx => ?_, h5⟩
  have all : ∀ {l : List (List Key × V)} {m : List (List Key × Addr × Value)}, KT H l m → ∀ x ∈ m, (tupleKind (mixKind P w)).is h x.1 x.2.1 := by
    intro l m q
    induction q with
    | nil => intro x hx; exact nomatch hx
    | @cons p q ps qs hq t ih =>
      intro x hx
      rcases List.mem_cons.mp hx with e | hx
      · subst e
        exact key_of ok (by rw [← hq.1]; exact hq.2.1)
      · exact ih x hx
  exact all r x hx
theorem dt_of {kvs : List (List Key × V)} (ok : HOk P w H h) (e : H a = some (.dT kvs)) : kvs.length ≤ sizeLine ∧ (a == sysModules) = false ∧
    ∃ xs, KT H kvs xs ∧ h.DictOfH (tupleKind (mixKind P w)) a xs := dt_rd ok (.inl e)
end

/-- what the dict at a holds at the key y -/
def DGet (H : Hp) (a : Addr) (y : V) (r : Option V) : Prop :=
  (∃ kvs k, Rd H a (.dK kvs) ∧ y = kV k ∧ r = valV kvs k) ∨ ∃ kvs k b, Rd H a (.dT kvs) ∧ y = .ref b ∧ H b = some (.tup (k.map kV)) ∧ r = valV kvs k
/-- the heap behind a[y] = v -/
def DPut (H : Hp) (a : Addr) (y v : V) (H' : Hp) : Prop :=
  (∃ kvs k, H a = some (.dK kvs) ∧ y = kV k ∧ kvs.length < sizeLine ∧ H' = upd H a (.dK (putK kvs k v))) ∨
  ∃ kvs k b, H a = some (.dT kvs) ∧ y = .ref b ∧ H b = some (.tup (k.map kV)) ∧ kvs.length < sizeLine ∧ H' = upd H a (.dT (putK kvs k v))
theorem DGet.k {H : Hp} {a : Addr} {kvs : List (Key × V)} {k : Key} (e : H a = some (.dK kvs)) : DGet H a (kV k) (valV kvs k) := .inl ⟨kvs, k, .inl e, rfl, rfl⟩
theorem DPut.k {H : Hp} {a : Addr} {kvs : List (Key × V)} {k : Key} {v : V} (e : H a = some (.dK kvs)) (hl : kvs.length < sizeLine) : DPut H a (kV k) v (upd H a (.dK (putK kvs k v))) := .inl ⟨kvs, k, e, rfl, hl, rfl⟩


section
variable {X : Cx} {pins : List (Addr × Obj)} {σ : St} {H : Hp} {s : Shared} {a : Addr} {y v : V} {u r : Value} {o : Option V} {A : Around} {E : Value → Shared → Prop}


/-- d[y], there -/
theorem d_getItem {Q : Value → Shared → Prop} (hu : A.units + 1 < cLine) (I : Inv X pins σ H s) (g : DGet H a y (some v)) (ry : RelV y u) (h : ∀ w' s', Inv X pins σ H s' → RelV v w' → Q w' s') :
    wpAny (model X.prog X.w) A (getItem (.ref a) u) Q E s := by
  rcases g with ⟨kvs, k, e, ey, l⟩ | ⟨kvs, k, b, e, ey, eb, l⟩
  · subst ey
    obtain ⟨z, hd, vs, rel, dd⟩ := dk_rd I.hok e
    obtain ⟨w', hw, rw'⟩ := RelO.some_of (v := v) (o := valueAt vs k) (by rw [l]; exact rel.val k)
    exact wpAny_getItem_of (kV_is ry) dd.mapOf hw (h w' _ (I.tok _) rw')
  · subst ey
    cases (show u = Value.ref b from ry)
    obtain ⟨z, hd, xs, rel, dd⟩ := dt_rd I.hok e
    obtain ⟨w', hw, rw'⟩ := RelO.some_of (v := v) (o := (atKey xs k).map (·.2)) (by rw [l]; exact rel.val k)
    obtain ⟨p, hp, hp2⟩ := Option.map_eq_some_iff.mp hw
    refine wpAny_getItem_heap (tupleKind_room_in1 hu) (key_of I.hok eb) dd hp ?_
    rw [hp2]
    exact h w' _ (I.tok _) rw'
/-- y in d -/
theorem d_in {Q : Value → Shared → Prop} (hu : A.units + 1 < cLine) (I : Inv X pins σ H s) (g : DGet H a y o) (ry : RelV y u) (h : ∀ s', Inv X pins σ H s' → Q (.bool o.isSome) s') :
    wpAny (model X.prog X.w) A (compareOp .In u (.ref a)) Q E s := by
  rcases g with ⟨kvs, k, e, ey, l⟩ | ⟨kvs, k, b, e, ey, eb, l⟩
  · subst ey
    obtain ⟨z, hd, vs, rel, dd⟩ := dk_rd I.hok e
    refine wpAny_in_of (kV_is ry) hd dd.mapOf ?_
    rw [← (rel.val k).isSome_eq, ← l]
    exact h _ (I.tok _)
  · subst ey
    cases (show u = Value.ref b from ry)
    obtain ⟨z, hd, xs, rel, dd⟩ := dt_rd I.hok e
    refine wpAny_in_heap (tupleKind_room_in1 hu) (key_of I.hok eb) hd dd ?_
    have q := (rel.val k).isSome_eq
    rw [Option.isSome_map] at q
    rw [← q, ← l]
    exact h _ (I.tok _)
theorem d_notIn {Q : Value → Shared → Prop} (hu : A.units + 1 < cLine) (I : Inv X pins σ H s) (g : DGet H a y o) (ry : RelV y u) (h : ∀ s', Inv X pins σ H s' → Q (.bool (!o.isSome)) s') :
    wpAny (model X.prog X.w) A (compareOp .NotIn u (.ref a)) Q E s := by
  rcases g with ⟨kvs, k, e, ey, l⟩ | ⟨kvs, k, b, e, ey, eb, l⟩
  · subst ey
    obtain ⟨z, hd, vs, rel, dd⟩ := dk_rd I.hok e
    refine wpAny_notIn_of (kV_is ry) hd dd.mapOf ?_
    rw [← (rel.val k).isSome_eq, ← l]
    exact h _ (I.tok _)
  · subst ey
    cases (show u = Value.ref b from ry)
    obtain ⟨z, hd, xs, rel, dd⟩ := dt_rd I.hok e
    refine wpAny_notIn_heap (tupleKind_room_in1 hu) (key_of I.hok eb) hd dd ?_
    have q := (rel.val k).isSome_eq
    rw [Option.isSome_map] at q
    rw [← q, ← l]
    exact h _ (I.tok _)
/-- a dict's object is replaced -/
theorem d_write {h' : Heap} {t' : Nat} {ob : HO} (I : Inv X pins σ H s) (mu : Mut (H a)) (hs : Heap.SameBut a s.heap h') (he : ∃ q, h'.get? a = some q) (new : ObjOk X.prog X.w (upd H a ob) h' a ob) :
    Inv X pins σ (upd H a ob) { s with heap := h', toks := t' } :=
  I.write (x := a) (e := a) mu (.inl rfl) (fun b q hb z => (hs.2 b hb).trans z) he new
theorem dk_new {P : Program} {w : World} {H' : Hp} {h' : Heap} {kvs : List (Key × V)} {vs : List (Key × Value)} (z : kvs.length ≤ sizeLine) (hd : (a == sysModules) = false) (rel : KV kvs vs) (dd : h'.DictOf (mixKind P w) a vs) :
    ObjOk P w H' h' a (.dK kvs) := ⟨z, hd, vs, rel, dd⟩
/-- d[y] = v -/
theorem d_setItem {H' : Hp} {Q : Unit → Shared → Prop} (hu : A.units + 1 < cLine) (I : Inv X pins σ H s) (g : DPut H a y v H') (ry : RelV y u) (rv : RelV v r) (h : ∀ s', Inv X pins σ H' s' → Q () s') :
    wpAny (model X.prog X.w) A (setItem (.ref a) u r) Q E s := by
  rcases g with ⟨kvs, k, e, ey, l, eH⟩ | ⟨kvs, k, b, e, ey, eb, l, eH⟩
  · subst ey eH
    obtain ⟨z, hd, vs, rel, dd⟩ := dk_of I.hok e
    have hz : vs.length ≤ sizeLine := by rw [← rel.length]; exact z
    have hl : (putK kvs k v).length ≤ sizeLine := by have := length_putK kvs k v; omega
    refine wpAny_setItem_pairs (hsz := hz) (kV_is ry) dd fun h' dd' hs => h _ ?_
    have he : ∃ q, h'.get? a = some q := let ⟨q, _, _, hq, _⟩ := dd'; ⟨q, hq⟩
    exact d_write I (by rw [e]; exact True.intro) hs he (dk_new hl hd (rel.put k rv) dd')
  · subst ey eH
    cases (show u = Value.ref b from ry)
    obtain ⟨z, hd, xs, rel, dd⟩ := dt_of I.hok e
    have hz : xs.length ≤ sizeLine := by rw [← Paired.length rel]; exact z
    have hl : (putK kvs k v).length ≤ sizeLine := by have := length_putK kvs k v; omega
    refine wpAny_setItem_heap (hsz := hz) (tupleKind_room_in1 hu) (key_of I.hok eb) dd fun h' dd' hs => h _ ?_
    obtain ⟨q, es, ep, hq, h2, h3, h4, _, h5⟩ := dd'
    refine d_write I (by rw [e]; exact True.intro) hs ⟨q, hq⟩ ⟨hl, hd, _, (rel.put k eb rv).keeps fun c ys ec => ?_, q, es, ep, hq, h2, h3, h4, h5⟩
    rw [upd_ne (ne_of ec e (fun z => nomatch z))]
    exact ec
end

section
variable {X : Cx} {pins : List (Addr × Obj)} {σ : St} {H : Hp} {s : Shared} {a : Addr} {kvs : List (Key × V)} {k : Key} {u : Value} {A : Around} {E : Value → Shared → Prop}
/-- len(d) -/
theorem d_len {Q : Value → Shared → Prop} (I : Inv X pins σ H s) (e : Rd H a (.dK kvs)) (h : ∀ t s', Inv X pins σ H s' → Q (.int kvs.length t) s') : wpAny (model X.prog X.w) A (call (.builtin "len") [.ref a]) Q E s := by
  obtain ⟨z, hd, vs, rel, dd⟩ := dk_rd I.hok e
  refine call_len_dict hd dd (by rw [← rel.length]; rw [sizeLine_eq] at z; omega) ?_
  rw [← rel.length]
  exact h _ _ (I.tok _)
end


/-! ### readings and rules -/
/-- the element of a subscription, not a slice -/
def NoSl (i : Expr) : Prop := ∀ ov iv, subscripted i false ov iv = operate [ov, iv] (getItem ov iv)
theorem subD_of {prog : Program} {w : World} {A : Around} {E : Value → Shared → Prop} {s : Shared} {env : Env} {value slice : Expr} {pos : Pos} {T id : String} {Q : Value → Shared → Prop}
    (hl : typeLookup (.type T) "__getitem__" = pure (some (.builtin id))) (hs : NoSl slice)
    (h : wpAny (model prog w) A (eval value env) (fun o s₁ => wpAny (model prog w) A (eval slice env) (fun i s₂ => s₂.TypeIs o T ∧ wpAny (model prog w) A (getItem o i) Q E s₂) E s₁) E s) :
    wpAny (model prog w) A (eval (.Subscript value slice pos) env) Q E s := by
  refine Subscript_ (wpAny_mono h (fun o s₁ h₁ => wpAny_mono h₁ (fun i s₂ h₂ => ?_) fun _ _ x => x) fun _ _ x => x)
  obtain ⟨hT, h₂⟩ := h₂
  unfold subscriptTail
  refine wpAny_bind ?_
  rw [getitemInPython_of_ne hT.not_modules]
  refine wpAny_bind (wpAny_specialOf hT hl ?_)
  have fin : wpAny (model prog w) A (subscripted slice false o i) (fun r s₃ => wpAny (model prog w) A (letTemporaryGo value o r >>= fun _ => pure r) Q E s₃) E s₂ := by
    rw [hs o i]
    exact wpAny_operating (wpAny_mono h₂ (fun r s₃ h₃ => wpAny_bind (wpAny_letTemporaryGo (wpAny_pure h₃))) fun _ _ x => x)
  first
    | exact wpAny_pure (wpAny_bind fin)
    | exact wpAny_bind (wpAny_pure (wpAny_bind fin))
    | exact wpAny_bind fin

theorem dict_typeIs {X : Cx} {pins : List (Addr × Obj)} {σ : St} {H : Hp} {s : Shared} {a : Addr} {y : V} {o : Option V} (I : Inv X pins σ H s) (g : DGet H a y o) : s.TypeIs (.ref a) "dict" := by
  rcases g with ⟨kvs, k, e, _, _⟩ | ⟨kvs, k, b, e, _, _, _⟩
  · obtain ⟨_, _, vs, _, dd⟩ := dk_rd I.hok e
    exact dd.typeIs
  · obtain ⟨_, _, xs, _, dd⟩ := dt_rd I.hok e
    exact dd.typeIs

/-- d[y] -/
def tDGet (td ty : TE) : TE := fun σ H Q => td σ H fun x H1 => ty σ H1 fun y H2 => ∃ a v, x = .ref a ∧ DGet H2 a y (some v) ∧ Q v H2
/-- y in d, y not in d -/
def tDIn (ty td : TE) : TE := fun σ H Q => ty σ H fun y H1 => td σ H1 fun x H2 => ∃ a o, x = .ref a ∧ DGet H2 a y o ∧ Q (.bl o.isSome) H2
def tDNotIn (ty td : TE) : TE := fun σ H Q => ty σ H fun y H1 => td σ H1 fun x H2 => ∃ a o, x = .ref a ∧ DGet H2 a y o ∧ Q (.bl (!o.isSome)) H2
/-- d[y] = v -/
def sDPut (td ty tv : TE) : TS := fun D σ H => tv σ H fun v H1 => td σ H1 fun x H2 => ty σ H2 fun y H3 => ∃ a H4, x = .ref a ∧ DPut H3 a y v H4 ∧ D.nx σ H4

section
variable {X : Cx} {o i e value : Expr} {pos pos' tpos : Pos} {td ty tv : TE}
theorem pe_dget (hu : X.A.units + 1 < cLine) (ho : PE X o td) (hi : PE X i ty) (hs : NoSl i) : PE X (.Subscript o i pos) (tDGet td ty) := by
  intro pins s σ H Q I h
  refine subD_of PySem.F.slot_dict_getitem.lookup hs (thn (ho pins s σ H _ I h) fun u s1 ⟨x, H1, I1, rx, q1⟩ => thn (hi pins s1 σ H1 _ I1 q1) fun iv s2 ⟨y, H2, I2, ry, a, v, ex, g, q2⟩ => ?_)
  subst ex
  obtain rfl : u = Value.ref a := rx
  exact ⟨dict_typeIs I2 g, d_getItem hu I2 g ry fun w' s3 I3 rw' => ⟨v, H2, I3, rw', q2⟩⟩
theorem pc_din (hu : X.A.units + 1 < cLine) (hi : PE X i ty) (ho : PE X o td) : PC X .In i o (tDIn ty td) := by
  intro pins s σ H Q I h
  refine thn (hi pins s σ H _ I h) fun iv s1 ⟨y, H1, I1, ry, q1⟩ => thn (ho pins s1 σ H1 _ I1 q1) fun u s2 ⟨x, H2, I2, rx, a, ov, ex, g, q2⟩ => ?_
  subst ex
  obtain rfl : u = Value.ref a := rx
  exact d_in hu I2 g ry fun s3 I3 => ⟨.bl ov.isSome, H2, I3, rfl, q2⟩
theorem pc_dnotin (hu : X.A.units + 1 < cLine) (hi : PE X i ty) (ho : PE X o td) : PC X .NotIn i o (tDNotIn ty td) := by
  intro pins s σ H Q I h
  refine thn (hi pins s σ H _ I h) fun iv s1 ⟨y, H1, I1, ry, q1⟩ => thn (ho pins s1 σ H1 _ I1 q1) fun u s2 ⟨x, H2, I2, rx, a, ov, ex, g, q2⟩ => ?_
  subst ex
  obtain rfl : u = Value.ref a := rx
  exact d_notIn hu I2 g ry fun s3 I3 => ⟨.bl (!ov.isSome), H2, I3, rfl, q2⟩
theorem ps_dput (hu : X.A.units + 1 < cLine) (ho : PE X o td) (hi : PE X i ty) (hv : PE X value tv) (hs : swapsWith value (some (.Subscript o i pos')) pos.line X.env = pure false) :
    PS X (.Assign [.Subscript o i pos'] value pos) (sDPut td ty tv) := by
  intro pins s σ H D I h
  refine wpAny_Assign_Subscript (thn (hv pins s σ H _ I h) fun r s1 ⟨v, H1, I1, rv, q1⟩ => thn (ho pins s1 σ H1 _ I1 q1) fun u s2 ⟨x, H2, I2, rx, q2⟩ => thn (hi pins s2 σ H2 _ I2 q2) fun iv s3 ⟨y, H3, I3, ry, a, H4, ex, g, q3⟩ => ?_) hs
  subst ex
  obtain rfl : u = Value.ref a := rx
  exact d_setItem hu I3 g ry rv fun s4 I4 => ⟨σ, H4, I4, q3⟩
end


/-! ### displays -/
section
variable {X : Cx} {pos : Pos}
end

/-- the pairs of a display, from the left -/
def tPairs : List (TE × TE) → St → Hp → (List (V × V) → Hp → Prop) → Prop
  | [], _, H, Q => Q [] H
  | (tk, tv) :: r, σ, H, Q => tk σ H fun x H1 => tv σ H1 fun y H2 => tPairs r σ H2 fun ps H3 => Q ((x, y) :: ps) H3
abbrev VV : List (V × V) → List (Value × Value) → Prop := Paired fun p q => RelV p.1 q.1 ∧ RelV p.2 q.2
def PPs (X : Cx) (pos : Pos) (keys : List (Option Expr)) (values : List Expr) (trs : List (TE × TE)) : Prop :=
  ∀ (pins : List (Addr × Obj)) (s : Shared) (σ : St) (H : Hp) (Q : List (V × V) → Hp → Prop), Inv X pins σ H s → tPairs trs σ H Q →
    wpAny (model X.prog X.w) X.A (evalPairs (pairTrees keys values X.env pos)) (fun vs s' => ∃ ps H', Inv X pins σ H' s' ∧ VV ps vs ∧ Q ps H') X.xe s
theorem pps_nil {X : Cx} {pos : Pos} : PPs X pos [] [] [] := fun pins s σ H Q I h => pairTrees_nil_walk ⟨[], H, I, .nil, h⟩
theorem pps_cons {X : Cx} {pos : Pos} {k v : Expr} {ks : List (Option Expr)} {vs : List Expr} {tk tv : TE} {trs : List (TE × TE)} (hk : PE X k tk) (hv : PE X v tv) (hr : PPs X pos ks vs trs) :
    PPs X pos (some k :: ks) (v :: vs) ((tk, tv) :: trs) := fun pins s σ H Q I h =>
  pairTrees_cons_walk (thn (hk pins s σ H _ I h) fun u s1 ⟨x, H1, I1, rx, q1⟩ => thn (hv pins s1 σ H1 _ I1 q1) fun w2 s2 ⟨y, H2, I2, ry, q2⟩ =>
    thn (hr pins s2 σ H2 _ I2 q2) fun ws s3 ⟨ps, H3, I3, rel, q3⟩ => ⟨(x, y) :: ps, H3, I3, .cons ⟨rx, ry⟩ rel, q3⟩)

def mergeK (kvs more : List (Key × V)) : List (Key × V) := more.foldl (fun acc kv => putK acc kv.1 kv.2) kvs
theorem KV.merge : ∀ {more : List (Key × V)} {rs : List (Key × Value)} {kvs : List (Key × V)} {vs : List (Key × Value)}, KV more rs → KV kvs vs → KV (mergeK kvs more) (merged vs rs) := by
  intro more rs kvs vs r
  unfold KV at r
  induction r generalizing kvs vs with
  | nil => intro q; exact q
  | @cons p q ps qs h t ih =>
    intro r0
    have e : KV (putK kvs p.1 p.2) (stored vs q.1 q.2) := by
      have := r0.put p.1 h.2
      rw [← h.1]; exact this
    exact ih e
theorem length_mergeK : ∀ (more kvs : List (Key × V)), (mergeK kvs more).length ≤ kvs.length + more.length
  | [], kvs => by show kvs.length ≤ kvs.length + 0; omega
  | p :: r, kvs => by
    have h1 := length_mergeK r (putK kvs p.1 p.2)
    have h2 := length_putK kvs p.1 p.2
    show (mergeK (putK kvs p.1 p.2) r).length ≤ _
    rw [List.length_cons]; omega
theorem carries_of {P : Program} {w : World} : ∀ {kvs : List (Key × V)} {ws : List (Value × Value)}, VV (kvs.map fun kv => (kV kv.1, kv.2)) ws → ∃ rs, Carries (mixKind P w) ws rs ∧ KV kvs rs
  | [], _, r => by rw [List.map_nil] at r; cases r; exact ⟨[], True.intro, .nil⟩
  | p :: kvs, _, r => by
    rw [List.map_cons] at r
    cases r with
    | @cons a b as bs h t =>
      obtain ⟨rs, c, q⟩ := carries_of (P := P) (w := w) t
      obtain ⟨b1, b2⟩ := b
      exact ⟨(p.1, b2) :: rs, ⟨kV_is h.1, rfl, c⟩, .cons ⟨rfl, h.2⟩ q⟩
/-- {k: v, ..} with keys ints and texts; the new dict stands empty while the pairs are made -/
def tDisp (trs : List (TE × TE)) : TE := fun σ H Q => ∀ p, H p = none → tPairs trs σ (upd H p (.dK [])) fun ps H2 => H2 p = some (.dK []) ∧ ∃ kvs : List (Key × V), ps = kvs.map (fun kv => (kV kv.1, kv.2)) ∧ kvs.length ≤ 15 ∧ Q (.ref p) (upd H2 p (.dK (mergeK [] kvs)))
theorem pe_disp {X : Cx} {pos : Pos} {keys : List (Option Expr)} {values : List Expr} {trs : List (TE × TE)} (h : PPs X pos keys values trs) (hall : keys.all (·.isSome) = true) (hl : keys.length = values.length) (h0 : keys ≠ [])
    (h15 : keys.length ≤ 15) : PE X (.Dict keys values pos) (tDisp trs) := by
  intro pins s σ H Q I q
  have hn := I.hok.fresh (Nat.le_refl s.heap.objs.size)
  have I1 := I.laid (a := s.heap.objs.size) (o := .dK []) (h' := s.heap.push { cls := .type "dict", data := .dict #[] }) (t' := s.toks) (fun _ _ q => Heap.get?_push_of_some _ q) (Nat.le_refl _) (dk_empty s.heap I.big)
  refine wpAny_Dict_walk (knd := mixKind X.prog X.w) hall hl h0 h15 (thn (h pins _ σ _ _ I1 (q _ hn)) fun ws s2 ⟨ps, H2, I2, rel, e, kvs, ep, lk, q2⟩ => ?_)
  subst ep
  obtain ⟨rs, c, rk⟩ := carries_of (P := X.prog) (w := X.w) rel
  obtain ⟨z, hd, vs0, r0, dd⟩ := dk_of I2.hok e
  cases r0
  refine ⟨rs, c, dd, fun h' dd' hs => ⟨.ref s.heap.objs.size, _, ?_, rfl, q2⟩⟩
  have hz : (mergeK [] kvs).length ≤ sizeLine := by
    have h1 := length_mergeK kvs []
    rw [List.length_nil] at h1
    rw [sizeLine_eq]; omega
  have he : ∃ q, h'.get? s.heap.objs.size = some q := let ⟨q, _, _, hq, _⟩ := dd'; ⟨q, hq⟩
  exact d_write I2 (by rw [e]; exact True.intro) hs he (dk_new hz hd (rk.merge .nil) dd')


/-! ### methods -/
/-- a method call o.m(e) of a built-in, with one argument: what must be seen of the text -/
structure M1 (X : Cx) (o : Expr) (m : Str) (apos : Pos) (e : Expr) (cpos : Pos) : Prop where
  base : attributeBase o m X.env (eval o X.env) = eval o X.env
  few : ((backTo cpos (starEach [e] X.env)).all (fun x => !x.1) && (backToKw cpos (keywordEach [] X.env)).all (fun x => x.1.isSome)
    && decide (([e] : List Expr).length + ([] : List Keyword).length + (if ([] : List Keyword).isEmpty then 0 else 1) < 30)) = true
  line : (apos.endLine == cpos.line) = true
  trees : backTo cpos (starEach [e] X.env) = [(false, eval e X.env)]

/-- a is a dict, whatever its keys -/
def IsD (H : Hp) (a : Addr) : Prop := (∃ kvs, Rd H a (.dK kvs)) ∨ ∃ kvs, Rd H a (.dT kvs)
theorem isD_at {X : Cx} {pins : List (Addr × Obj)} {σ : St} {H : Hp} {s : Shared} {a : Addr} (I : Inv X pins σ H s) (d : IsD H a) :
    s.TypeIs (.ref a) "dict" ∧ (∀ b, Value.ref a = .ref b → ∃ ob, s.heap.get? b = some ob ∧ ob.dict = none) ∧ (a == sysModules) = false := by
  rcases d with ⟨kvs, e⟩ | ⟨kvs, e⟩
  · obtain ⟨_, hd, vs, _, dd⟩ := dk_rd I.hok e
    refine ⟨dd.typeIs, fun b q => ?_, hd⟩
    cases q
    obtain ⟨ob, _, _, h1, h2, _⟩ := dd
    exact ⟨ob, h1, h2.2.1⟩
  · obtain ⟨_, hd, xs, _, dd⟩ := dt_rd I.hok e
    refine ⟨dd.typeIs, fun b q => ?_, hd⟩
    cases q
    obtain ⟨ob, _, _, h1, h2, _⟩ := dd
    exact ⟨ob, h1, h2.2.1⟩

section
variable {X : Cx} {pins : List (Addr × Obj)} {σ : St} {H : Hp} {s : Shared} {a : Addr} {y d : V} {u r : Value} {o : Option V} {A : Around} {E : Value → Shared → Prop}
/-- d.get(y) -/
theorem d_get1 {Q : Value → Shared → Prop} (hu : A.units + 1 < cLine) (I : Inv X pins σ H s) (g : DGet H a y o) (ry : RelV y u) (h : ∀ w' s', Inv X pins σ H s' → RelV (o.getD .non) w' → Q w' s') :
    wpAny (model X.prog X.w) A (call (.builtin "dict.get") [.ref a, u]) Q E s := by
  rcases g with ⟨kvs, k, e, ey, l⟩ | ⟨kvs, k, b, e, ey, eb, l⟩
  · subst ey
    obtain ⟨z, hd, vs, rel, dd⟩ := dk_rd I.hok e
    refine call_meetsIn PySem.F.slot_dict_get dd.typeIs PySem.F.entry_dict_get (PySem.F.args_dict_get_2 _ _) (meets_dict_get (mixKind X.prog X.w) a (kV_is ry) hd) ⟨_, dd.mapOf, h _ _ (I.tok _) ?_⟩
    rw [l]
    exact (rel.val k).getD rfl
  · subst ey
    cases (show u = Value.ref b from ry)
    obtain ⟨z, hd, xs, rel, dd⟩ := dt_rd I.hok e
    refine call_meetsIn PySem.F.slot_dict_get dd.typeIs PySem.F.entry_dict_get (PySem.F.args_dict_get_2 _ _) (meetsH_dict_get (tupleKind (mixKind X.prog X.w)) a b hd) ⟨tupleKind_room_in1 hu, k, xs, key_of I.hok eb, dd, h _ _ (I.tok _) ?_⟩
    rw [l]
    exact (rel.val k).getD rfl
end

def tDGet1 (td ty : TE) : TE := fun σ H Q => td σ H fun x H1 => ∃ a, x = .ref a ∧ IsD H1 a ∧ ty σ H1 fun y H2 => ∃ o, DGet H2 a y o ∧ Q (o.getD .non) H2
section
variable {X : Cx} {o e f : Expr} {apos cpos : Pos} {td ty tx : TE}
theorem pe_dget1 (hu : X.A.units + 1 < cLine) (ho : PE X o td) (he : PE X e ty) (m : M1 X o "get" apos e cpos) : PE X (.Call (.Attribute o "get" apos) [e] [] cpos) (tDGet1 td ty) := by
  intro pins s σ H Q I h
  refine wpAny_Call_method m.base m.few m.line PySem.F.plainAttrs_dict PySem.F.slot_dict_get PySem.F.type_dict_get (thn (ho pins s σ H _ I h) fun u s1 ⟨x, H1, I1, rx, a, ex, d, q1⟩ => ?_)
  subst ex
  obtain rfl : u = Value.ref a := rx
  obtain ⟨t1, t2, _⟩ := isD_at I1 d
  refine ⟨t1, t2, ?_⟩
  rw [m.trees]
  refine Calls.callWith_builtin rfl (Calls.evalArgs_plain (Calls.spliced_cons (thn (he pins s1 σ H1 _ I1 q1) fun iv s2 ⟨y, H2, I2, ry, ov, g, q2⟩ => Calls.spliced_nil ?_)))
  exact d_get1 hu I2 g ry fun w' s3 I3 rw' => ⟨_, H2, I3, rw', q2⟩
end

/-! ### dict(d): a copy -/
section
variable {X : Cx} {pins : List (Addr × Obj)} {σ : St} {H : Hp} {s : Shared} {a : Addr} {kvs : List (Key × V)} {A : Around} {E : Value → Shared → Prop}
end


section
variable {X : Cx} {pins : List (Addr × Obj)} {σ : St} {H : Hp} {s : Shared} {a : Addr} {y : V} {u : Value} {A : Around} {E : Value → Shared → Prop}
end
end L2
set_option Elab.async false
set_option linter.all false
set_option maxRecDepth 100000
set_option maxHeartbeats 4000000
namespace L2
open PySem PySem.Spec PyProof.Rows PySem.Builtin PySem.Builtin.Str
section
variable {X : Cx}
/-! ### any of a list of truths: some truth -/
/-! ### xs.count(x): some number -/
/-! ### any tuple's slice -/
def rSlQ (K : PySem.W.Frag) : V → Option Int → Option Int → Hp → VK → Prop := fun x lo hi H Q => ∃ a xs, x = .ref a ∧ SqT K H a xs ∧ ∀ b H', Same H H' → SqT K H' b (cutV xs lo hi) → Q (.ref b) H'
theorem sl_Q : SlR X (rSlQ X.K) := by
  intro pins s σ H x v vl vu lo hi sl Q I rx hs pl pu h
  obtain ⟨a, xs, rfl, hq, q⟩ := h
  by_cases hw : HT.sIx xs.length 0 lo = 0 ∧ HT.sIx xs.length xs.length hi = xs.length
  · cases rx
    obtain ⟨its, r, ht, hz⟩ := I.tuple hq
    have hlen : its.toArray.size = xs.length := by rw [List.size_toArray]; exact r.length.symm
    refine ⟨"tuple", _, PyProof.Rows.slot_tuple_getitem.lookup, ht.typeIs, ?_⟩
    refine GS.getItem_tuple_whole ht hs pl pu (by rw [hlen]; exact hw) ⟨.ref a, H, I, rfl, q _ H (Same.refl H) ?_⟩
    have e : cutV xs lo hi = xs := by
      unfold cutV
      rw [hw.1, hw.2]
      simp
    rw [e]; exact hq
  · exact sl_tup pins s σ H _ v vl vu lo hi sl Q I rx hs pl pu ⟨a, xs, rfl, hq, hw, fun p hp => q _ _ (GS.same_new hp _) (SqT.of upd_same)⟩
end
end L2
namespace L3
open PySem PyProof.Rows L2
section
variable {X : Cx} {o i : Expr} {pos : Pos} {td ty : TE}
theorem pt_din (hu : X.A.units + 1 < cLine) (hi : LE X i ty) (ho : LE X o td) (hm : behindInMarks .In o = false := by rfl) : LT X (.Compare i [.In] [o] pos) (tB (tDIn ty td)) := .mk (L2.pt_cmp (L2.pc_din hu hi.out ho.out) hm)
theorem pe_dget (hu : X.A.units + 1 < cLine) (ho : LE X o td) (hi : LE X i ty) (hs : NoSl i := by intro _ _; rfl) : LE X (.Subscript o i pos) (tDGet td ty) := .mk (L2.pe_dget hu ho.out hi.out hs)
end
end L3
set_option Elab.async false
set_option linter.all false
set_option maxRecDepth 100000
set_option maxHeartbeats 4000000
namespace GS
open PySem L2 PyProof.Rows
section
variable {X : Cx}
/-! ### isinstance of data -/
def tyD : D → String
  | .non => "NoneType" | .bl _ => "bool" | .int _ => "int" | .str _ => "str" | .tup _ => "tuple"
theorem kit_D {pins : List (Addr × Obj)} {σ : L2.St} {H : Hp} {s : Shared} {x : V} {u : Value} {d : D} (I : Inv X pins σ H s) (rx : RelV x u) (hx : At X.K H d x) : ∃ HP, PySem.W.KitX X.K u (.type (tyD d)) HP ∧ HP s.heap ∧ u ≠ Value.builtin "__main__.__loader__#opaque" := by
  cases d with
  | non => rw [At_non.mp hx] at rx; cases (show u = Value.none from rx); exact ⟨_, PySem.W.kitx_none, True.intro, (fun z => nomatch z)⟩
  | bl y => rw [At_bl.mp hx] at rx; cases (show u = Value.bool y from rx); exact ⟨_, PySem.W.kitx_bool, True.intro, (fun z => nomatch z)⟩
  | int i => rw [At_int.mp hx] at rx; obtain ⟨t, q⟩ := (show ∃ t, u = Value.int i t from rx); cases q; exact ⟨_, PySem.W.kitx_int, True.intro, (fun z => nomatch z)⟩
  | str y => rw [At_str.mp hx] at rx; obtain ⟨t, q⟩ := (show ∃ t, u = Value.str y t from rx); cases q; exact ⟨_, PySem.W.kitx_str, True.intro, (fun z => nomatch z)⟩
  | tup ds =>
    obtain ⟨p, vs, rfl, hq, _⟩ := At_tup.mp hx
    cases (show u = Value.ref p from rx)
    obtain ⟨its, _, ⟨o, h1, h2, _⟩, _⟩ := I.tuple hq
    exact ⟨_, PySem.W.kitx_tuple, ⟨o, h1, h2⟩, (fun z => nomatch z)⟩
theorem call_isiD : CallR X (.builtin "isinstance") (fun xs H Q => ∃ x T d b, xs = [x, .ty T] ∧ At X.K H d x ∧ PySem.W.kitOne X.K (.type (tyD d)) (.type T) = some b ∧ Q (.bl b) H) := by
  intro pins s σ H xs us Q I r h
  obtain ⟨x, T, d, b, rfl, hx, hk, q⟩ := h
  obtain ⟨u, w', rfl, r1, r2⟩ := vals2 r
  cases r2
  obtain ⟨HP, kx, hh, ne⟩ := kit_D I r1 hx
  exact PySem.W.kia_one kx I.kIn hh hk ne fun tk => ⟨.bl b, H, I.tok _, rfl, q⟩
end
end GS
set_option Elab.async false
set_option linter.all false
set_option maxRecDepth 100000
set_option maxHeartbeats 4000000
namespace L2
open PySem PySem.Spec PyProof.Rows PySem.Builtin PySem.Builtin.Str
/-! ### enumerate of a list, walked -/
theorem Inv.turnedNew {X : Cx} {pins : List (Addr × Obj)} {σ : St} {H : Hp} {s : Shared} {fp : List Addr} {T : Addr} {o : HO} {h' : Heap} {t' : Nat} (I : Inv X pins σ H s) (k : ∀ b u, b ∉ fp → s.heap.get? b = some u → h'.get? b = some u)
    (hf : ∀ b ∈ fp, FpOk X pins H b) (hT : s.heap.objs.size ≤ T) (new : ObjOk X.prog X.w (upd H T o) h' T o) : Inv X pins σ (upd H T o) { s with heap := h', toks := t' } := by
  have hn := I.hok.fresh hT
  have nf : ∀ b u, H b = some u → b ∉ fp := fun b u e hb => by rw [(hf b hb).1] at e; cases e
  refine I.call' (ch := fp) (s' := { s with heap := h', toks := t' }) rfl ⟨fun b o q _ _ hx => k b o hx q, fun b o q _ _ hx => ⟨o.slots, k b o hx q⟩, fun b u q n _ => ?_, fun b o q hx => ⟨o, k b o hx q⟩, fun b xs q => ?_, fun b u xs q => ?_, fun b ps q => ⟨#[], ?_⟩⟩ ?_ I.bare
    fun b hb => ⟨(hf b hb).2.2.2.1, (hf b hb).2.1, (hf b hb).2.2.2.2.1, (hf b hb).2.2.2.2.2⟩
  · rw [upd_ne (Nat.ne_of_lt (Nat.lt_of_lt_of_le (Heap.lt_size q) hT))]; exact n
  · rw [upd_ne (ne_of_none q hn)]; exact q
  · rw [upd_ne (ne_of_none q hn)]; exact q
  · rw [upd_ne (ne_of_none q hn), q]; simp
  · intro b u e
    by_cases hb : b = T
    · subst hb; rw [upd_same] at e; cases e; exact new
    · rw [upd_ne hb] at e
      refine (I.hok b u e).stay (fun c v hc q => k c v ?_ q) (fun c q => by rw [upd_ne (ne_of_none q hn)]; exact q) fun c xs q => by rw [upd_ne (ne_of_none q hn)]; exact q
      rcases hc with z | z
      · rw [z]; exact nf b u e
      · exact nf c _ z
def Ite (K : PySem.W.Frag) (a : Addr) : It :=
  ⟨fun i H => ∃ xs x, SqL K H a xs ∧ xs[i]? = some x, fun i H x H' => ∃ T y, H T = none ∧ x = .ref T ∧ H' = upd H T (.tup [.int (i : Nat), y]) ∧ ∀ xs, SqL K H a xs → xs[i]? = some y, fun i H => ∃ xs, SqL K H a xs ∧ xs.length ≤ i⟩
theorem turn_enum {P : Program} {w : World} {K : PySem.W.Frag} {elts : List Expr} {x1 : Nat} {pos : Pos} (a e it : Addr) (hei : e ≠ it) : Turn P w K (.Tuple elts x1 pos) (Ite K a) [e, it] e (fun i h => (∃ old, IsEnum h e it i old) ∧ h.IsListIter it a i) where
  mem := by simp
  obj := fun i h st b hb => by
    obtain ⟨⟨old, he⟩, hit⟩ := st
    rcases List.mem_cons.mp hb with rfl | hb
    · exact ⟨_, he, fun v z => by cases z⟩
    · have eb : b = it := by simpa using hb
      subst eb
      obtain ⟨o, e, c, d⟩ := hit
      exact ⟨o, e, fun v z => by rw [d] at z; cases z⟩
  keep := fun i h h' st k => by
    obtain ⟨⟨old, he⟩, hit⟩ := st
    exact ⟨⟨old, k e (by simp) _ he⟩, hit.at fun o z => k it (by simp) o z⟩
  item := by
    intro X hP hw hK hc i pins s σ H E I hf st hg
    subst hP hw hK
    obtain ⟨⟨old, he⟩, hit⟩ := st
    obtain ⟨xs, x, hq, hx⟩ := hg
    obtain ⟨its, rv, p, hz⟩ := I.list hq
    obtain ⟨u, hu, ru⟩ := rv.get hx
    have helt : e < s.heap.objs.size := Heap.lt_size he
    have hilt : it < s.heap.objs.size := by obtain ⟨_, z, _⟩ := hit; exact Heap.lt_size z
    refine wpAny_pyNext_enum_item he hit p.isList (x := u) (by simpa using hu) hei fun h1 ho1 hit1 hT1 hsz1 hk1 => ?_
    refine ⟨_, rfl, wpAny_letOwnedTupleGo_enum ho1 fun h2 he2 hs2 => ?_⟩
    have hT2 : h2.get? s.heap.objs.size = some { cls := .type "tuple", data := .seq #[.int i s.toks, u] } := (hs2.2 _ (Nat.ne_of_gt helt)).trans hT1
    refine ⟨.ref s.heap.objs.size, upd H s.heap.objs.size (.tup [.int (i : Nat), x]), ?_, rfl, ⟨_, x, I.hok.fresh (Nat.le_refl _), rfl, rfl, fun ys hy => by rw [I.list_inj hy hq]; exact hx⟩, ⟨⟨_, by simpa using he2⟩, hit1.at fun o z => (hs2.2 it hei.symm).trans z⟩, fun b hb => ?_⟩
    · refine Inv.turnedNew (s := s) (h' := h2) (fp := [e, it]) (t' := s.toks + 1) I (fun b o hb q => ?_) hf (Nat.le_refl _) ⟨by show 2 ≤ sizeLine; decide, _, .cons ⟨_, rfl⟩ (.cons ru .nil), ⟨_, hT2, rfl, _, rfl⟩⟩
      have hb1 : b ≠ e := fun z => hb (by simp [z])
      have hb2 : b ≠ it := fun z => hb (by simp [z])
      exact (hs2.2 b hb1).trans (hk1 b o hb1 hb2 q)
    · have hlt : b < s.heap.objs.size := by
        rcases List.mem_cons.mp hb with rfl | hb
        · exact helt
        · have eb : b = it := by simpa using hb
          subst eb; exact hilt
      rw [upd_ne (Nat.ne_of_lt hlt)]
      exact (hf b hb).1
  done := by
    intro X hP hw hK hc i pins s σ H E I hf st hg
    subst hP hw hK
    obtain ⟨⟨old, he⟩, hit⟩ := st
    obtain ⟨xs, hq, hx⟩ := hg
    obtain ⟨its, rv, p, hz⟩ := I.list hq
    obtain ⟨f0, f1, f2, f3, f4, f5⟩ := hf it (by simp)
    have hl := rv.length
    exact wpAny_pyNext_enum_end (I.ok.hd hc) he hit p.isList (by simp; omega) fun h' eb => ⟨rfl, I.turned (t' := s.toks) (fun b o hb e => eb b o hb e) f0 f1 f3 f4 f5⟩
  self := fun _ _ _ _ _ st h => let ⟨⟨_, he⟩, _⟩ := st; wpAny_pyIter_enum he h
theorem boot_enum : bootBuiltins "enumerate" = some (.type "enumerate") := by decide +kernel
section
variable {X : Cx} {elts : List Expr} {x1 : Nat} {tpos : Pos}
def iEnum (K : PySem.W.Frag) (ta : TA) : TI := fun σ H R => ta σ H fun vs H1 => ∃ a, vs = [.ref a] ∧ (∃ xs, SqL K H1 a xs) ∧ R (Ite K a) H1
theorem pi_enum {a : Expr} {ta : TA} {p pos : Pos} (hg : Gl X "enumerate") (hm : X.mg "enumerate" = none) (ha : PA X [a] ta) (hs : starEach [a] X.env = [(false, eval a X.env)] := by rfl) : PI X (.Tuple elts x1 tpos) (.Call (.Name "enumerate" p) [a] [] pos) (iEnum X.K ta) := by
  intro pins s σ H R I h
  refine Call_ (ld_blt I hg hm boot_enum (PyProof.Rows.callWith_type1 (thn (ha pos pins s σ H _ I h) fun us s1 ⟨vs, H1, I1, r1, q1⟩ => ?_) hs rfl))
  obtain ⟨l, e, ⟨xs, hq⟩, q⟩ := q1
  subst e
  obtain ⟨u, rfl, ru⟩ := vals1 r1
  cases ru
  obtain ⟨its, rv, p, hz⟩ := I1.list hq
  refine call_enumerate_list p.isList fun h' he hit hsz hk => wpAny_pyIter_enum he ?_
  refine ⟨s1.heap.objs.size + 1, [s1.heap.objs.size + 1, s1.heap.objs.size], _, _, H1, rfl, I1.kept (t' := s1.toks) hk, turn_enum l _ _ (Nat.succ_ne_self _), ⟨⟨_, he⟩, hit⟩, fun b hb => ?_, q⟩
  have hb' : s1.heap.objs.size ≤ b := by
    rcases List.mem_cons.mp hb with rfl | hb
    · exact Nat.le_succ _
    · have eb : b = s1.heap.objs.size := by simpa using hb
      exact Nat.le_of_eq eb.symm
  exact I1.fpOk hb' (I1.hok.fresh hb')
end
theorem for_enum {K : PySem.W.Frag} {a : Addr} {xs : List V} {g : TG} {tb : TS} {D : Ends} {σ : St} {H : Hp} (Pv : Nat → St → Hp → Prop) (h0 : Pv 0 σ H) (hl : ∀ i σ H, i ≤ xs.length → Pv i σ H → SqL K H a xs)
    (hs : ∀ i x σ H T, xs[i]? = some x → Pv i σ H → H T = none → g (.ref T) σ (upd H T (.tup [.int (i : Nat), x])) fun σ2 H2 => tb { D with nx := Pv (i + 1), ct := Pv (i + 1), bk := D.nx } σ2 H2) (hd : ∀ σ H, Pv xs.length σ H → D.nx σ H) :
    ∃ W : Nat → Nat → St → Hp → Prop, (∃ m, W 0 m σ H) ∧ ∀ i m σ H, W i m σ H →
      ((Ite K a).stop i H ∧ D.nx σ H) ∨ ((Ite K a).go i H ∧ ∃ N : St → Hp → Prop, (∀ σ' H', N σ' H' → ∃ m', m' < m ∧ W (i + 1) m' σ' H') ∧ ∀ x H', (Ite K a).yld i H x H' → g x σ H' fun σ2 H2 => tb { D with nx := N, ct := N, bk := D.nx } σ2 H2) := by
  refine ⟨fun i m σ H => m = xs.length - i ∧ i ≤ xs.length ∧ Pv i σ H, ⟨xs.length, by simp, Nat.zero_le _, h0⟩, ?_⟩
  rintro i m σ H ⟨rfl, hi, p⟩
  have q := hl i σ H hi p
  by_cases hlt : i < xs.length
  · refine .inr ⟨⟨xs, xs[i], q, by simp [hlt]⟩, Pv (i + 1), fun σ' H' p' => ⟨xs.length - (i + 1), by omega, rfl, hlt, p'⟩, fun x H' y => ?_⟩
    obtain ⟨T, y', hT, rfl, rfl, hy⟩ := y
    exact hs i y' σ _ T (hy xs q) p hT
  · have e : i = xs.length := by omega
    subst e
    exact .inl ⟨⟨xs, q, Nat.le_refl _⟩, hd σ H p⟩
section
variable {X : Cx}
end
end L2
set_option Elab.async false
set_option linter.all false
set_option maxRecDepth 100000
set_option maxHeartbeats 4000000
namespace L2
open PySem PySem.Spec PyProof.Rows
section
variable {X : Cx} {o e : Expr} {td ty : TE} {apos cpos : Pos}
/-! ### d.update(c), both with keys ints and texts -/
def tDUpd (td ty : TE) : TE := fun σ H Q => td σ H fun x H1 => ∃ a, x = .ref a ∧ IsD H1 a ∧ ty σ H1 fun y H2 => ∃ b kvs more, y = .ref b ∧ a ≠ b ∧ H2 a = some (.dK kvs) ∧ H2 b = some (.dK more) ∧ kvs.length + more.length ≤ sizeLine ∧ Q .non (upd H2 a (.dK (mergeK kvs more)))
theorem pe_dupd (ho : PE X o td) (he : PE X e ty) (m : M1 X o "update" apos e cpos) : PE X (.Call (.Attribute o "update" apos) [e] [] cpos) (tDUpd td ty) := by
  intro pins s σ H Q I h
  refine wpAny_Call_method m.base m.few m.line PySem.F.plainAttrs_dict PySem.F.slot_dict_update PySem.F.type_dict_update (thn (ho pins s σ H _ I h) fun u s1 ⟨x, H1, I1, rx, a, ex, d, q1⟩ => ?_)
  subst ex
  obtain rfl : u = Value.ref a := rx
  obtain ⟨t1, t2, _⟩ := isD_at I1 d
  refine ⟨t1, t2, ?_⟩
  rw [m.trees]
  refine Calls.callWith_builtin rfl (Calls.evalArgs_plain (Calls.spliced_cons (thn (he pins s1 σ H1 _ I1 q1) fun iv s2 ⟨y, H2, I2, ry, b, kvs, more, ey, hab, ha, hb, hl, q2⟩ => Calls.spliced_nil ?_)))
  subst ey
  obtain rfl : iv = Value.ref b := ry
  obtain ⟨z, hd, vs, rel, dd⟩ := dk_of I2.hok ha
  obtain ⟨z2, hd2, vs2, rel2, dd2⟩ := dk_of I2.hok hb
  refine call_meetsIn PySem.F.slot_dict_update dd.typeIs PySem.F.entry_dict_update (PySem.F.args_dict_update_2 _ _) (meets_dict_update (mixKind X.prog X.w) a b hab hd2) ⟨vs, vs2, dd, dd2, by rw [← rel.length, ← rel2.length]; exact hl, fun h' dd' _ hs => ⟨.non, _, ?_, rfl, q2⟩⟩
  have he : ∃ q, h'.get? a = some q := let ⟨q, _, _, hq, _⟩ := dd'; ⟨q, hq⟩
  exact d_write (t' := s2.toks) I2 (by rw [ha]; exact True.intro) hs he (dk_new (Nat.le_trans (length_mergeK more kvs) hl) hd (rel2.merge rel) dd')
end
end L2
set_option Elab.async false
set_option linter.all false
set_option maxRecDepth 100000
set_option maxHeartbeats 4000000
namespace L3
open PySem PyProof.Rows L2
section
variable {X : Cx} {pos apos cpos : Pos} {k v o e f a b c : Expr} {ks : List (Option Expr)} {vs : List Expr} {tk tv td ty tx ta tb tc : TE} {trs : List (TE × TE)}
@[irreducible] def LPs (X : Cx) (pos : Pos) (ks : List (Option Expr)) (vs : List Expr) (trs : List (TE × TE)) : Prop := PPs X pos ks vs trs
theorem LPs.mk (h : PPs X pos ks vs trs) : LPs X pos ks vs trs := by unfold LPs; exact h
theorem LPs.out (h : LPs X pos ks vs trs) : PPs X pos ks vs trs := by unfold LPs at h; exact h
theorem pps_nil : LPs X pos [] [] [] := .mk L2.pps_nil
theorem pps_cons (hk : LE X k tk) (hv : LE X v tv) (hr : LPs X pos ks vs trs) : LPs X pos (some k :: ks) (v :: vs) ((tk, tv) :: trs) := .mk (L2.pps_cons hk.out hv.out hr.out)
theorem pe_disp (h : LPs X pos ks vs trs) (hall : ks.all (·.isSome) = true := by rfl) (hl : ks.length = vs.length := by rfl) (h0 : ks ≠ [] := by simp) (h15 : ks.length ≤ 15 := by decide) : LE X (.Dict ks vs pos) (tDisp trs) := .mk (L2.pe_disp h.out hall hl h0 h15)
theorem pe_dupd (ho : LE X o td) (he : LE X e ty) (m : M1 X o "update" apos e cpos := by exact ⟨rfl, rfl, rfl, rfl⟩) : LE X (.Call (.Attribute o "update" apos) [e] [] cpos) (tDUpd td ty) := .mk (L2.pe_dupd ho.out he.out m)
end
end L3
set_option Elab.async false
set_option linter.all false
set_option maxRecDepth 100000
set_option maxHeartbeats 4000000
namespace GS
open PySem PySem.Spec PyProof.Rows
theorem list_keys_none : typeLookup (.type "list") "keys" = pure none := by rw [typeLookup_type, builtinLookup_eq_fast]; kernel_rfl
theorem getAttrQ_list {prog : Program} {w : World} {A : Around} {E : Value → Shared → Prop} {s : Shared} {a : Addr} {o : Obj} {xs : Array Value} {k : Nat} {Q : Option Value → Shared → Prop}
    (hx : s.heap.get? a = some o) (hc : o.cls = .type "list") (hdat : o.data = .seq xs k) (hd : o.dict = none) (hA : A.handled = none)
    (h : ∀ h' tk, (∀ b ob, s.heap.get? b = some ob → h'.get? b = some ob) → Q none { s with heap := h', toks := tk }) : wpAny (model prog w) A (getAttr? (.ref a) "keys") Q E s := by
  obtain ⟨c, dct, dat, sl⟩ := o
  simp only at hc hdat hd
  subst hc hdat hd
  obtain ⟨hp, g, d, tk, os⟩ := s
  have hT : ∀ tk', (⟨hp, g, d, tk', os⟩ : Shared).TypeIs (.ref a) "list" := fun _ => ⟨_, hx, rfl⟩
  have f1 := sub_AttributeError
  have f3 := F.slot_list_getattribute.lookup
  have f4 := F.slot_list_getattribute.bind (.ref a)
  have f5 := am_list_getattr_none
  unfold getAttr? getAttrBy? getAttrBy
  repeat (any_goals (first | assumption | exact hT _ | ((with_reducible show wpAny _ _ (call (Value.builtin "list.__getattribute__") _ _) _ _ _); refine call_meets F.slot_list_getattribute (hT _) am_entry_list_getattribute (F.args_list_getattribute_2 _ _) (meets_getattribute_miss_list a xs k sl "keys" _ list_keys_none (by decide +kernel)) ⟨hx, hA, fun h' tk' e hx' => ?_⟩) | wp_step))
  obtain ⟨t', u', he⟩ := hx'.there
  show wpAny _ _ (getattributeRaised _ _ _ _ _ _ _) _ _ _
  unfold getattributeRaised
  repeat (any_goals (first | assumption | wp_step))
  exact h _ _ hx'.keeps
theorem entry_dict_loop : entryFor table "dict.update.loop" = some Builtin.«dict.update.loop» := entryFor_of_tree (by kernel_rfl)
theorem plain_dict_loop : plainId "dict.update.loop" = true := by decide +kernel
/-- the dict of the first i pairs -/
def firstP (kv : Nat → L2.Key × Value) (i : Nat) : List (L2.Key × Value) := merged [] ((List.range i).map kv)
theorem firstP_succ (kv : Nat → L2.Key × Value) (i : Nat) : firstP kv (i + 1) = stored (firstP kv i) (kv i).1 (kv i).2 := by
  unfold firstP merged
  rw [List.range_succ, List.map_append, List.foldl_append]
  rfl
theorem stored_len (kvs : List (L2.Key × Value)) (k : L2.Key) (v : Value) : (stored kvs k v).length ≤ kvs.length + 1 := by
  unfold stored
  split
  · rw [List.length_map]; omega
  · rw [List.length_append, List.length_singleton]; exact Nat.le_refl _
theorem firstP_len (kv : Nat → L2.Key × Value) : ∀ i, (firstP kv i).length ≤ i
  | 0 => Nat.le_refl _
  | i + 1 => by
    rw [firstP_succ]
    have h1 := stored_len (firstP kv i) (kv i).1 (kv i).2
    have h2 := firstP_len kv i
    omega
section
variable {prog : Program} {w : World} {A : Around} {R : Result → Shared → Prop} {I : Addr} {fp wr : List Addr} {n : Nat} {P : Nat → Value → Prop} {St : Nat → Heap → Prop}
theorem codeAny_dict_loop (W : Walks prog w A.in1 I fp wr n P St) (d : Addr) (hdf : d ∉ fp) (kv : Nat → L2.Key × Value) (pr : Nat → Addr) (ks : Nat → Value) (hP : ∀ i v, i < n → P i v → v = .ref (pr i)) (hk : ∀ i, i < n → (L2.mixKind prog w).is (kv i).1 (ks i) = true)
    (hpd : ∀ i, i < n → pr i ≠ d ∧ pr i ∉ wr) (hz : n ≤ sizeLine) :
    ∀ (k i : Nat) (s : Shared) (t : Tok), n - i = k → i ≤ n → St i s.heap → s.heap.DictOf (L2.mixKind prog w) d (firstP kv i) → (∀ j, j < n → IsTup s.heap (pr j) #[ks j, (kv j).2]) →
      (∀ h' tk, (∀ b o, b ≠ d → b ∉ wr → s.heap.get? b = some o → h'.get? b = some o) → h'.DictOf (L2.mixKind prog w) d (firstP kv n) → R (.ok (.ret .none)) { s with heap := h', toks := tk }) →
      codeAny (model prog w) A (.builtin "dict.update.loop" ⟨[.ref d, .ref I, .int (i : Nat) t, .none], []⟩) R s := by
  have hdw : d ∉ wr := fun h => hdf (W.sub _ h)
  intro k
  induction k with
  | zero =>
    intro i s t hki hi hst hD hT hR
    have hin : i = n := by omega
    subst hin
    refine codeAny_builtin entry_dict_loop ?_
    rw [Around.under_plainId plain_dict_loop _]
    show wpAny _ A.in1 (pyNext (.ref I) >>= _) _ _ s
    refine wpAny_bind (W.done s _ _ hst fun h' tk hm => ?_)
    show wpAny _ A.in1 (Builtin.Dict.addKeywords d [] >>= _) _ _ _
    exact wpAny_bind (wpAny_pure (wpAny_pure (hR h' tk (fun b o _ hb e => hm b o hb e) (by
      obtain ⟨o, es, ep, ho, rest⟩ := hD
      exact ⟨o, es, ep, hm d _ hdw ho, rest⟩))))
  | succ k ih =>
    intro i s t hki hi hst hD hT hR
    have hlt : i < n := by omega
    refine codeAny_builtin entry_dict_loop ?_
    rw [Around.under_plainId plain_dict_loop _]
    show wpAny _ A.in1 (pyNext (.ref I) >>= _) _ _ s
    refine wpAny_bind (W.item i s _ _ hlt hst fun v h' tk hPv hst' hm => ?_)
    have ev := hP i v hlt hPv
    subst ev
    have hD' : h'.DictOf (L2.mixKind prog w) d (firstP kv i) := by
      obtain ⟨o, es, ep, ho, rest⟩ := hD
      exact ⟨o, es, ep, hm d _ hdw ho, rest⟩
    have hT' : ∀ j, j < n → IsTup h' (pr j) #[ks j, (kv j).2] := fun j hj => by
      obtain ⟨o, ho, rest⟩ := hT j hj
      exact ⟨o, hm _ _ (hpd j hj).2 ho, rest⟩
    obtain ⟨o, ho, hoc, m, hod⟩ := id (hT' i hlt)
    have hTy : (⟨h', s.gens, s.drawn, tk, s.os⟩ : Shared).TypeIs (.ref (pr i)) "tuple" := ⟨o, ho, hoc⟩
    refine wpAny_bind (wpAny_holding (wpAny_bind ?_))
    refine wpAny_tryCatch ?_
    unfold Builtin.Dict.pairItems
    refine wpAny_bind (wpAny_typeOf hTy ?_)
    rw [if_pos (by decide)]
    refine wpAny_bind (wpAny_seqItems ho hod ?_)
    refine wpAny_pure ?_
    show wpAny _ A.in1 (holding [ks i, (kv i).2] (dictSet d (ks i) (kv i).2)) _ _ _
    refine wpAny_holding (wpAny_dictSet_pairs (hk i hlt) hD' (fun h2 hD2 hsb => ?_) (Nat.le_trans (firstP_len kv i) (by omega)))
    rw [← firstP_succ] at hD2
    refine wpAny_pure ⟨plainId_quiet plain_dict_loop _, ?_⟩
    have hcast : ((i : Nat) : Int) + 1 = ((i + 1 : Nat) : Int) := by omega
    rw [hcast]
    refine ih (i + 1) _ _ (by omega) hlt (W.frame _ _ _ hst' fun b hb o e => ?_) hD2 (fun j hj => ?_) fun h3 tk3 hk3 hD3 => ?_
    · rw [hsb.2 b (fun h : b = d => hdf (by rw [← h]; exact hb))]; exact e
    · obtain ⟨o, ho, rest⟩ := hT' j hj
      exact ⟨o, (hsb.2 _ (hpd j hj).1).trans ho, rest⟩
    · exact hR h3 tk3 (fun b o hb hbw e => hk3 b o hb hbw ((hsb.2 b hb).trans (hm b o hbw e))) hD3
end
open L2
theorem vals_refs : ∀ {ps : List Addr} {its : List Value}, Vals (ps.map V.ref) its → its = ps.map Value.ref
  | [], _, h => by rw [List.map_nil] at h; cases h; rfl
  | p :: ps, _, h => by
    rw [List.map_cons] at h
    cases h with
    | cons a b => rw [vals_refs b, show _ = Value.ref p from a]; rfl
theorem kv_range {kvs : List (Key × V)} {g : Nat → Key × Value} (h : ∀ i kv, kvs[i]? = some kv → kv.1 = (g i).1 ∧ RelV kv.2 (g i).2) : KV kvs ((List.range kvs.length).map g) := by
  induction kvs generalizing g with
  | nil => exact .nil
  | cons a r ih =>
    rw [List.length_cons, List.range_succ_eq_map, List.map_cons, List.map_map]
    exact .cons (h 0 a rfl) (ih fun i kv e => h (i + 1) kv e)
section
variable {X : Cx}
theorem call_dictP (hc : X.calm = true) : CallR X (.type "dict") (fun xs H Q => ∃ (p : Addr) (ps : List Addr) (kvs : List (Key × V)), xs = [.ref p] ∧ SqL X.K H p (ps.map V.ref) ∧ ps.length = kvs.length ∧ (∀ (i : Nat) (a : Addr) (kv : Key × V), ps[i]? = some a → kvs[i]? = some kv → SqT X.K H a [kV kv.1, kv.2]) ∧ kvs.length ≤ sizeLine ∧
    ∀ l, H l = none → Q (.ref l) (upd H l (.dK (mergeK [] kvs)))) := by
  intro pins s σ H xs us Q I r h
  obtain ⟨p, ps, kvs, rfl, hq, hlen, hT, hz, q⟩ := h
  obtain ⟨u, rfl, ru⟩ := vals1 r
  cases ru
  obtain ⟨its, rv, pl, hzz⟩ := I.list hq
  have ei := vals_refs rv
  subst ei
  have hpl : p < s.heap.objs.size := let ⟨o, n, e, _⟩ := pl; Heap.lt_size e
  have hex : ∀ i : Nat, ∃ y : Addr × (Key × Value) × Value, i < kvs.length → ps[i]? = some y.1 ∧ (∀ kv, kvs[i]? = some kv → kv.1 = y.2.1.1 ∧ RelV kv.2 y.2.1.2) ∧ (mixKind X.prog X.w).is y.2.1.1 y.2.2 = true ∧ IsTup s.heap y.1 #[y.2.2, y.2.1.2] := fun i => by
    by_cases hi : i < kvs.length
    · have hi2 : i < ps.length := by omega
      obtain ⟨its2, r2, p2, _⟩ := I.tuple (hT i ps[i] kvs[i] (by simp [hi2]) (by simp [hi]))
      cases r2 with
      | @cons _ u1 _ us1 a1 b1 =>
        cases b1 with
        | @cons _ u2 _ us2 a2 b2 =>
          cases b2
          refine ⟨(ps[i], (kvs[i].1, u2), u1), fun _ => ⟨by simp [hi2], fun kv e => ?_, kV_is a1, p2⟩⟩
          have : kvs[i] = kv := by simpa [hi] using e
          rw [← this]; exact ⟨rfl, a2⟩
    · exact ⟨(0, (.inl 0, .none), .none), fun z => absurd z hi⟩
  obtain ⟨y, hy⟩ := Classical.axiomOfChoice hex
  refine callType_codes (Q₁ := fun obj s₁ => obj = .ref s.heap.objs.size ∧ s₁ = { s with heap := s.heap.push { cls := .type "dict", data := .dict #[] } }) F.kt_called_dict (F.kt_typeCall_dict_1 _) F.entry_dict_init (kt_code_dict_new _ ⟨rfl, rfl⟩) ?_
  rintro obj s₁ ⟨rfl, rfl⟩
  have hnew : (s.heap.push { cls := .type "dict", data := .dict #[] }).DictOf (mixKind X.prog X.w) s.heap.objs.size [] := Heap.DictOf.new s.heap
  refine ⟨hnew.typeIs, F.args_dict_init_2 _ _, ?_⟩
  unfold Builtin.«dict.__init__»
  refine wpAny_bind ?_
  unfold Builtin.Dict.selfAndRest
  refine wpAny_bind (wpAny_notOrdered_dict hnew.typeIs ?_)
  show wpAny _ _ (pure (s.heap.objs.size, [Value.ref p])) _ _ _
  refine wpAny_pure ?_
  show wpAny _ _ (Builtin.Dict.updateFrom "dict.__init__" s.heap.objs.size (.ref p) [] .none) _ _ _
  unfold Builtin.Dict.updateFrom
  obtain ⟨o, nn, e, hoc, hod⟩ := id pl
  have e1 : (s.heap.push { cls := .type "dict", data := .dict #[] }).get? p = some o := Heap.get?_push_of_some _ e
  refine wpAny_bind (wpAny_typeOf (T := "list") ⟨o, e1, hoc⟩ ?_)
  rw [if_pos (by decide)]
  have hd0 := I.ok.hd hc
  refine wpAny_bind (getAttrQ_list (xs := (ps.map Value.ref).toArray) (k := nn) e1 hoc hod.2 hod.1 hd0 fun h1 tk1 hk1 => ?_)
  show wpAny _ _ (rule _ >>= _) _ _ _
  have e2 : h1.get? p = some o := hk1 _ _ e1
  have hL : h1.IsList p (ps.map Value.ref).toArray := ⟨o, e2, hoc, nn, hod.2⟩
  refine wpAny_bind (wpAny_rule (wpAny_bind (wpAny_pyIter_list (s := ⟨h1, s.gens, s.drawn, tk1, s.os⟩) hL ?_)))
  have hsz : s.heap.objs.size < h1.objs.size := by
    obtain ⟨o', _, _, ho', _⟩ := hnew
    exact Heap.lt_size (hk1 _ _ ho')
  refine wpAny_pure ⟨plainId_quiet plain_dict_loop _, ?_⟩
  have hn1 : (ps.map Value.ref).toArray.size = kvs.length := by rw [List.size_toArray, List.length_map]; exact hlen
  have keep : ∀ b ob, s.heap.get? b = some ob → (h1.push { cls := .type "list_iterator", data := .fields #[.ref p, .int 0 0] }).get? b = some ob := fun b ob hb => Heap.get?_push_of_some _ (hk1 _ _ (Heap.get?_push_of_some _ hb))
  have hpI : p ≠ h1.objs.size := Nat.ne_of_lt (Nat.lt_trans hpl hsz)
  have hold : ∀ {b ob}, s.heap.get? b = some ob → b ≠ s.heap.objs.size ∧ b ∉ [h1.objs.size] := fun {b ob} hb => by
    have := Heap.lt_size hb
    exact ⟨Nat.ne_of_lt this, fun m => by rw [List.mem_singleton] at m; exact Nat.lt_asymm hsz (m ▸ this)⟩
  have hd2 : X.A.in1.in1.handled = none := hd0
  refine codeAny_dict_loop (A := X.A.in1) (Walks.list (A := X.A.in1.in1) hd2 h1.objs.size p hpI (ps.map Value.ref).toArray) s.heap.objs.size (fun m => ?m1) (fun i => (y i).2.1) (fun i => (y i).1) (fun i => (y i).2.2) (fun i v hi hv => ?m2) (fun i hi => (hy i (by rw [← hn1]; exact hi)).2.2.1) (fun i hi => ?m3) (by rw [hn1]; exact hz) _ 0 _ 0 rfl (Nat.zero_le _) ⟨?m4, ?m5⟩ ?m6 (fun j hj => ?m7) (fun h' tk hk hD => ?m8)
  case m1 =>
    simp only [List.mem_cons, List.not_mem_nil, or_false] at m
    rcases m with m | m
    · exact Nat.ne_of_lt hsz m
    · exact Nat.ne_of_lt hpl m.symm
  case m2 =>
    have hi' : i < kvs.length := by rw [← hn1]; exact hi
    have h1' := (hy i hi').1
    have : (ps.map Value.ref)[i]? = some v := by simpa using hv
    rw [List.getElem?_map, h1'] at this
    simpa using this.symm
  case m3 =>
    obtain ⟨_, _, _, o', ho', _⟩ := hy i (by rw [← hn1]; exact hi)
    exact hold ho'
  case m4 => exact ⟨_, Heap.get?_push_size _ rfl, rfl, rfl⟩
  case m5 => exact ⟨o, Heap.get?_push_of_some _ e2, hoc, nn, hod.2⟩
  case m6 =>
    obtain ⟨o', es, ep, ho', rest⟩ := hnew
    exact ⟨o', es, ep, Heap.get?_push_of_some _ (hk1 _ _ ho'), rest⟩
  case m7 =>
    obtain ⟨_, _, _, o', ho', rest⟩ := hy j (by rw [← hn1]; exact hj)
    exact ⟨o', keep _ _ ho', rest⟩
  case m8 =>
    have rel : KV kvs ((List.range kvs.length).map fun i => (y i).2.1) := kv_range fun i kv e => (hy i (List.getElem?_eq_some_iff.mp e).1).2.1 kv e
    have hD' : h'.DictOf (mixKind X.prog X.w) s.heap.objs.size (merged [] ((List.range kvs.length).map fun i => (y i).2.1)) := by
      have : firstP (fun i => (y i).2.1) (ps.map Value.ref).toArray.size = merged [] ((List.range kvs.length).map fun i => (y i).2.1) := by rw [hn1]; rfl
      rw [← this]; exact hD
    have hz2 : (mergeK [] kvs).length ≤ sizeLine := Nat.le_trans (length_mergeK kvs []) (by simpa using hz)
    refine ⟨rfl, .ref s.heap.objs.size, _, I.laid (a := s.heap.objs.size) (o := .dK (mergeK [] kvs)) (h' := h') (t' := tk) (fun b u hb => ?_) (Nat.le_refl _) (dk_new hz2 (beq_eq_false_iff_ne.mpr (Ne.symm (Nat.ne_of_lt I.big))) (rel.merge .nil) hD'), rfl, q _ (I.hok.fresh (Nat.le_refl _))⟩
    exact hk b u (hold hb).1 (hold hb).2 (keep _ _ hb)
end
end GS
set_option Elab.async false
set_option linter.all false
set_option maxRecDepth 100000
set_option maxHeartbeats 4000000
namespace GS
open PySem PyProof.Rows L2
/-- a class whose __init__ keeps a promise -/
structure MkDef (P : Program) (w : World) (K : PySem.W.Frag) (mg : Str → Option Value) (base : Heap) (name : Str) (C : Addr) (ps : List Str) (k : Nat) (sp : Sp) : Prop where
  ex : ∃ (f : Addr) (fd : FuncData), mg name = some (.ref C) ∧ Mk K C f ∧ Binds K fd ps [] ∧ FnOk P w K mg base CX0 k f fd ps sp
end GS
namespace L3
open PySem PyProof.Rows L2
section
variable {X : Cx} {e o value : Expr} {es : List Expr} {f : Str} {pos pos' p apos : Pos} {ta tv te : TE} {t : TA}
theorem pe_fld (he : LE X e ta) (hb : attributeBase e f X.env (eval e X.env) = eval e X.env := by rfl) : LE X (.Attribute e f pos) (tFld X.K ta f) := .mk (L2.pe_fld he.out hb)
theorem ps_fld (ha : LE X o ta) (hv : LE X value tv) (hs : swapsWith value (some (.Attribute o f pos')) pos.line X.env = pure false := by rfl) : LS X (.Assign [.Attribute o f pos'] value pos) (sFld X.K ta tv f) := .mk (L2.ps_fld ha.out hv.out hs)
theorem pe_mk {name : Str} {C : Addr} {ps : List Str} {k k' : Nat} {sp : Sp} (M : GS.MkDef X.prog X.w X.K X.mg X.base name C ps k sp) (hr : Room (k' + 1) X.A) (hk : k ≤ k') (hg : Gl X name) (ha : LA X (e :: es) t)
    (hdb : (name == ("__debug__" : Str)) = false := by decide) (he : starEach (e :: es) X.env = (false, eval e X.env) :: starEach es X.env := by rfl) (hpl : (backTo pos (starEach es X.env)).any (·.1) = false := by rfl) :
    LE X (.Call (.Name name p) (e :: es) [] pos) (tMake C sp [] E0 t) := by
  obtain ⟨f, fd, h1, h2, h3, h4⟩ := M.ex
  exact .mk (L2.pe_make h2 (h4.mono hk) hr hg h1 h3 .nil pass0 ha.out hdb he hpl)
end
end L3
set_option Elab.async false
set_option linter.all false
set_option maxRecDepth 100000
set_option maxHeartbeats 4000000
namespace GS
open PySem PyProof.Rows
open L2 hiding pe_int pe_bl pe_non pe_str pv pe_glob pe_bltn pe_op pe_cmpR pe_one pe_and pe_ifExp pe_ix po_none po_some pe_slice pa_nil pa_cons pe_lst pe_tup pe_dnewK pe_callB pe_callTy pe_bm pt_cmpR pt_val pt_not pw_and1 pw_or1 pw_and pw_or pg_name pgs_nil pgs_cons pg_tup pi_list pi_tup pi_range1 ps_ret ps_expr ps_set ps_asg ps_if ps_while ps_for pss_nil pss_cons pss_one
open L3
def top9 (i : Nat) : Stmt := PySem.Challenge.pw_grassnake_k09_orders_of_classes.main.body.getD i (.Pass ⟨0, 0, 0, 0⟩)
structure Glb9 (mg : Str → Option Value) : Prop where
  nAll : mg "all" = none
  nAny : mg "any" = none
  nBool : mg "bool" = none
  nDict : mg "dict" = none
  nEnum : mg "enumerate" = none
  nInt : mg "int" = none
  nIsi : mg "isinstance" = none
  nLen : mg "len" = none
  nList : mg "list" = none
  nMax : mg "max" = none
  nRange : mg "range" = none
  nSet : mg "set" = none
  nSort : mg "sorted" = none
  nStr : mg "str" = none
  nTuple : mg "tuple" = none
  nZip : mg "zip" = none
theorem b9Len : bootBuiltins "len" = some (.builtin "len") := by decide +kernel
theorem b9Isi : bootBuiltins "isinstance" = some (.builtin "isinstance") := by decide +kernel
theorem b9Any : bootBuiltins "any" = some (.builtin "any") := by decide +kernel
theorem b9All : bootBuiltins "all" = some (.builtin "all") := by decide +kernel
theorem b9Bool : bootBuiltins "bool" = some (.type "bool") := by decide +kernel
theorem b9Tuple : bootBuiltins "tuple" = some (.type "tuple") := by decide +kernel
theorem b9List : bootBuiltins "list" = some (.type "list") := by decide +kernel
theorem b9Str : bootBuiltins "str" = some (.type "str") := by decide +kernel
noncomputable instance decD : DecidableEq D := fun a b => Classical.propDecidable (a = b)
/-! ### trees without truths: alike where they are the same -/
mutual
def nb : D → Bool
  | .bl _ => false
  | .tup xs => nbs xs
  | _ => true
def nbs : List D → Bool
  | [] => true
  | x :: xs => nb x && nbs xs
end
mutual
theorem eqD_nb : ∀ (d e : D), nb d = true → nb e = true → eqD d e = true → d = e
  | .non, .non, _, _, _ => rfl
  | .non, .bl b, _, h, _ => by rw [nb] at h; cases h
  | .non, .int i, _, _, z => by rw [eqD_non_int] at z; cases z
  | .non, .str x, _, _, z => by rw [eqD_non_str] at z; cases z
  | .non, .tup xs, _, _, z => by rw [eqD_non_tup] at z; cases z
  | .bl b, _, h, _, _ => by rw [nb] at h; cases h
  | .int i, .non, _, _, z => by rw [eqD_int_non] at z; cases z
  | .int i, .bl b, _, h, _ => by rw [nb] at h; cases h
  | .int i, .int j, _, _, z => by rw [eqD] at z; rw [eq_of_beq z]
  | .int i, .str x, _, _, z => by rw [eqD_int_str] at z; cases z
  | .int i, .tup xs, _, _, z => by rw [eqD_int_tup] at z; cases z
  | .str i, .non, _, _, z => by rw [eqD_str_non] at z; cases z
  | .str i, .bl b, _, h, _ => by rw [nb] at h; cases h
  | .str i, .int j, _, _, z => by rw [eqD_str_int] at z; cases z
  | .str i, .str x, _, _, z => by rw [eqD] at z; rw [eq_of_beq z]
  | .str i, .tup xs, _, _, z => by rw [eqD_str_tup] at z; cases z
  | .tup i, .non, _, _, z => by rw [eqD_tup_non] at z; cases z
  | .tup i, .bl b, _, h, _ => by rw [nb] at h; cases h
  | .tup i, .int j, _, _, z => by rw [eqD_tup_int] at z; cases z
  | .tup i, .str x, _, _, z => by rw [eqD_tup_str] at z; cases z
  | .tup xs, .tup ys, h, g, z => by
    rw [nb] at h g
    rw [eqD] at z
    rw [eqDs_nb xs ys h g z]
theorem eqDs_nb : ∀ (ds es : List D), nbs ds = true → nbs es = true → eqDs ds es = true → ds = es
  | [], [], _, _, _ => rfl
  | [], e :: es, _, _, z => by rw [eqDs] at z; cases z; all_goals nofun
  | d :: ds, [], _, _, z => by rw [eqDs] at z; cases z; all_goals nofun
  | d :: ds, e :: es, h, g, z => by
    rw [nbs, Bool.and_eq_true] at h g
    rw [eqDs, Bool.and_eq_true] at z
    rw [eqD_nb d e h.1 g.1 z.1, eqDs_nb ds es h.2 g.2 z.2]
end
theorem eqD_dec {d e : D} (hd : nb d = true) (he : nb e = true) : eqD d e = decide (d = e) := by
  by_cases h : d = e
  · rw [decide_eq_true h, h, eqD_refl]
  · rw [decide_eq_false h]
    cases z : eqD d e with
    | false => rfl
    | true => exact absurd (eqD_nb d e hd he z) h
/-- what may stand in an order -/
structure El (d : D) : Prop where
  nb : nb d = true
  dep : dep d ≤ 40
theorem El.int (i : Int) : El (.int i) := ⟨by rw [GS.nb]; all_goals nofun, by rw [dep_int]; exact Nat.zero_le _⟩
theorem El.str (x : Str) : El (.str x) := ⟨by rw [GS.nb]; all_goals nofun, by rw [dep_str]; exact Nat.zero_le _⟩
/-! ### rows: a list, or a tuple -/
def RowAt (K : PySem.W.Frag) (H : Hp) (ds : List D) (v : V) : Prop := ∃ p vs, v = .ref p ∧ (SqL K H p vs ∨ SqT K H p vs) ∧ AtAll K H ds vs
theorem RowAt.same {K : PySem.W.Frag} {H H' : Hp} {ds : List D} {v : V} (s : Same H H') (h : RowAt K H ds v) : RowAt K H' ds v := by
  obtain ⟨p, vs, e, h1, h2⟩ := h
  exact ⟨p, vs, e, h1.imp (fun z => s.seq z) (fun z => Same.seqT s z), AtAll.same s _ _ h2⟩
theorem RowAt.tup {K : PySem.W.Frag} {H : Hp} {ds : List D} {v : V} (h : At K H (.tup ds) v) : RowAt K H ds v := by
  obtain ⟨p, vs, e, h1, h2⟩ := At_tup.mp h
  exact ⟨p, vs, e, .inr h1, h2⟩
/-- rows of rows -/
inductive RowsAt (K : PySem.W.Frag) (H : Hp) : List (List D) → List V → Prop
  | nil : RowsAt K H [] []
  | cons {ds : List D} {dss : List (List D)} {v : V} {vs : List V} : RowAt K H ds v → RowsAt K H dss vs → RowsAt K H (ds :: dss) (v :: vs)
section
variable {K : PySem.W.Frag} {H H' : Hp}
theorem RowsAt.same (s : Same H H') : ∀ {dss : List (List D)} {vs : List V}, RowsAt K H dss vs → RowsAt K H' dss vs
  | _, _, .nil => .nil
  | _, _, .cons h1 h2 => .cons (h1.same s) (h2.same s)
theorem RowsAt.len : ∀ {dss : List (List D)} {vs : List V}, RowsAt K H dss vs → vs.length = dss.length
  | _, _, .nil => rfl
  | _, _, .cons _ h2 => by rw [List.length_cons, List.length_cons, h2.len]
theorem RowsAt.get : ∀ {dss : List (List D)} {vs : List V} {i : Nat} {v : V}, RowsAt K H dss vs → vs[i]? = some v → ∃ ds, dss[i]? = some ds ∧ RowAt K H ds v
  | _, _, i, _, .nil, e => by simp at e
  | _, _, 0, _, .cons h1 _, e => by simp at e; subst e; exact ⟨_, rfl, h1⟩
  | _, _, i + 1, _, .cons _ h2, e => by
    obtain ⟨ds, a, b⟩ := RowsAt.get h2 (i := i) (by simpa using e)
    exact ⟨ds, by simpa using a, b⟩
theorem RowsAt.append : ∀ {dss ess : List (List D)} {vs ws : List V}, RowsAt K H dss vs → RowsAt K H ess ws → RowsAt K H (dss ++ ess) (vs ++ ws)
  | _, _, _, _, .nil, g => g
  | _, _, _, _, .cons h1 h2, g => .cons h1 (h2.append g)
theorem RowsAt.take : ∀ (n : Nat) {dss : List (List D)} {vs : List V}, RowsAt K H dss vs → RowsAt K H (dss.take n) (vs.take n)
  | 0, _, _, _ => .nil
  | n + 1, _, _, .nil => .nil
  | n + 1, _, _, .cons h1 h2 => .cons h1 (h2.take n)
theorem RowsAt.drop : ∀ (n : Nat) {dss : List (List D)} {vs : List V}, RowsAt K H dss vs → RowsAt K H (dss.drop n) (vs.drop n)
  | 0, _, _, h => h
  | n + 1, _, _, .nil => .nil
  | n + 1, _, _, .cons _ h2 => h2.drop n
end
/-! ### either walk -/
def iOr (a b : TI) : TI := fun σ H R => a σ H R ∨ b σ H R
theorem pi_or {X : Cx} {tg e : Expr} {a b : TI} (ha : LI X tg e a) (hb : LI X tg e b) : LI X tg e (iOr a b) := .mk fun pins s σ H R I h => h.elim (fun z => ha.out pins s σ H R I z) (fun z => hb.out pins s σ H R I z)
end GS
set_option Elab.async false
set_option linter.all false
set_option maxRecDepth 100000
set_option maxHeartbeats 4000000
namespace GS
open PySem PyProof.Rows
open L2 hiding pe_int pe_bl pe_non pe_str pv pe_glob pe_bltn pe_op pe_cmpR pe_one pe_and pe_ifExp pe_ix po_none po_some pe_slice pa_nil pa_cons pe_lst pe_tup pe_dnewK pe_callB pe_callTy pe_bm pt_cmpR pt_val pt_not pw_and1 pw_or1 pw_and pw_or pg_name pgs_nil pgs_cons pg_tup pi_list pi_tup pi_range1 ps_ret ps_expr ps_set ps_asg ps_if ps_while ps_for pss_nil pss_cons pss_one
open L3
/-! ### what a comprehension gathers -/
inductive Pairs (P : Nat → V → Prop) : List Nat → List V → Prop
  | nil : Pairs P [] []
  | cons {i : Nat} {v : V} {is : List Nat} {vs : List V} : P i v → Pairs P is vs → Pairs P (i :: is) (v :: vs)
theorem Pairs.snoc {P : Nat → V → Prop} {i : Nat} {v : V} (h : P i v) : ∀ {is : List Nat} {vs : List V}, Pairs P is vs → Pairs P (is ++ [i]) (vs ++ [v])
  | _, _, .nil => .cons h .nil
  | _, _, .cons h1 h2 => .cons h1 (h2.snoc h)
theorem Pairs.mono {P P' : Nat → V → Prop} (hp : ∀ i v, P i v → P' i v) : ∀ {is : List Nat} {vs : List V}, Pairs P is vs → Pairs P' is vs
  | _, _, .nil => .nil
  | _, _, .cons h1 h2 => .cons (hp _ _ h1) (h2.mono hp)
theorem Pairs.len {P : Nat → V → Prop} : ∀ {is : List Nat} {vs : List V}, Pairs P is vs → vs.length = is.length
  | _, _, .nil => rfl
  | _, _, .cons _ h2 => by rw [List.length_cons, List.length_cons, h2.len]
theorem Pairs.at {K : PySem.W.Frag} {H : Hp} {f : Nat → D} : ∀ {is : List Nat} {vs : List V}, Pairs (fun i v => At K H (f i) v) is vs → AtAll K H (is.map f) vs
  | _, _, .nil => AtAll_nil.mpr rfl
  | _, _, .cons h1 h2 => AtAll_cons.mpr ⟨_, _, rfl, h1, h2.at⟩
theorem Pairs.rows {K : PySem.W.Frag} {H : Hp} {f : Nat → List D} : ∀ {is : List Nat} {vs : List V}, Pairs (fun i v => RowAt K H (f i) v) is vs → RowsAt K H (is.map f) vs
  | _, _, .nil => .nil
  | _, _, .cons h1 h2 => .cons h1 h2.rows
theorem Pairs.eq {f : Nat → V} : ∀ {is : List Nat} {vs : List V}, Pairs (fun i v => v = f i) is vs → vs = is.map f
  | _, _, .nil => rfl
  | _, _, .cons h1 h2 => by rw [List.map_cons, h1, h2.eq]
theorem range_getD {α : Type} (l : List α) (d : α) : (List.range l.length).map (fun i => l.getD i d) = l := by
  refine List.ext_getElem (by simp) fun i h1 h2 => ?_
  simp [List.getD_eq_getElem?_getD, h2]
theorem range_map {α β : Type} (l : List α) (d : α) (g : α → β) : (List.range l.length).map (fun i => g (l.getD i d)) = l.map g := by
  conv => rhs; rw [← range_getD l d]
  rw [List.map_map]; rfl
theorem range_filter {α β : Type} (l : List α) (d : α) (p : α → Bool) (g : α → β) : ((List.range l.length).filter fun i => p (l.getD i d)).map (fun i => g (l.getD i d)) = (l.filter p).map g := by
  conv => rhs; rw [← range_getD l d]
  rw [List.filter_map, List.map_map]; rfl
/-! ### all but one place -/
def wo (H : Hp) (D : Addr) : Hp := fun p => if p = D then none else H p
theorem wo_at {H : Hp} {D p : Addr} (h : p ≠ D) : wo H D p = H p := if_neg h
theorem wo_same (H : Hp) (D : Addr) : Same (wo H D) H := fun p o e => by
  unfold wo at e
  split at e
  · cases e
  · exact e
theorem wo_mono {H H' : Hp} (D : Addr) (s : Same H H') : Same (wo H D) (wo H' D) := fun p o e => by
  unfold wo at e ⊢
  split at e
  · cases e
  · rename_i h; rw [if_neg h]; exact s _ _ e
theorem wo_upd (H : Hp) (D : Addr) (o : HO) : wo (upd H D o) D = wo H D := by
  funext p
  unfold wo
  split
  · rfl
  · rename_i h; rw [upd_ne h]
theorem wo_old {H H' : Hp} {D : Addr} (h : H D = none) (s : Same H H') : Same H (wo H' D) := fun p o e => by
  rw [wo_at (fun z => by rw [z, h] at e; cases e)]
  exact s _ _ e
section
variable {K : PySem.W.Frag} {H : Hp} {D' : Addr}
theorem SqT.wo {p : Addr} {vs l : List V} (hD : H D' = some (.lst l)) (h : SqT K H p vs) : SqT K (GS.wo H D') p vs := by
  rcases h with (h | ⟨o, h⟩) | h
  · refine .inl (.inl ?_)
    rw [wo_at (fun z => by rw [z, hD] at h; cases h)]
    exact h
  · refine .inl (.inr ⟨o, ?_⟩)
    rw [wo_at (fun z => by rw [z, hD] at h; cases h)]
    exact h
  · exact .inr h
mutual
theorem At.wo {l : List V} (hD : H D' = some (.lst l)) : ∀ (d : D) (v : V), At K H d v → At K (GS.wo H D') d v
  | .non, _, h => At_non.mpr (At_non.mp h)
  | .bl _, _, h => At_bl.mpr (At_bl.mp h)
  | .int _, _, h => At_int.mpr (At_int.mp h)
  | .str _, _, h => At_str.mpr (At_str.mp h)
  | .tup ds, _, h => by
    obtain ⟨p, vs, rfl, h1, h2⟩ := At_tup.mp h
    exact At_tup.mpr ⟨p, vs, rfl, SqT.wo hD h1, AtAll.wo hD ds vs h2⟩
theorem AtAll.wo {l : List V} (hD : H D' = some (.lst l)) : ∀ (ds : List D) (vs : List V), AtAll K H ds vs → AtAll K (GS.wo H D') ds vs
  | [], _, h => AtAll_nil.mpr (AtAll_nil.mp h)
  | d :: ds, _, h => by
    obtain ⟨v, r, rfl, h1, h2⟩ := AtAll_cons.mp h
    exact AtAll_cons.mpr ⟨v, r, rfl, At.wo hD d v h1, AtAll.wo hD ds r h2⟩
end
end
/-- a comprehension over what gives a known row of things, and that keeps all that stands -/
theorem compG_one {J : It} {tc : TT} {te : TE} {H : Hp} {R : Addr → Hp → Prop} {vs : List V} (n : Nat) (item : Nat → V) (b : Nat → Bool) (Pv : Nat → V → Hp → Prop) (hPs : ∀ i v H H', Same H H' → Pv i v H → Pv i v H') (hn : n ≤ 1000000)
    (hstop : ∀ H', Same H H' → J.stop n H') (hgo : ∀ i H', i < n → Same H H' → J.go i H') (hyld : ∀ i H1 x H2, i < n → Same H H1 → J.yld i H1 x H2 → x = item i ∧ H2 = H1)
    (htc : ∀ i H1 (Q' : Bool → Hp → Prop), i < n → Same H H1 → (∀ H2, Same H1 H2 → Q' (b i) H2) → tc (some (item i) :: vs.map some) H1 Q')
    (hte : ∀ i H1 D l (Q' : VK), i < n → b i = true → Same H H1 → H D = none → H1 D = some (.lst l) → (∀ v H2, Same H1 H2 → Pv i v (wo H2 D) → Q' v H2) → te (some (item i) :: vs.map some) H1 Q')
    (q : ∀ D H' ys, H D = none → Same H H' → H' D = some (.lst ys) → Pairs (fun i v => Pv i v (wo H' D)) ((List.range n).filter b) ys → R D H') :
    ∀ D, H D = none → ∃ W : Nat → Nat → List V → Hp → Prop, (∃ m, W 0 m [] (upd H D (.lst []))) ∧ ∀ i m ys H, W i m ys H →
      (J.stop i H ∧ R D H) ∨ (J.go i H ∧ ∀ x H' (ox : List (Option V)), ox.length = 1 → J.yld i H x H' → gName 0 x (ox ++ vs.map some) H' fun σ2 H2 => ∃ ox2, ox2.length = 1 ∧ σ2 = ox2 ++ vs.map some ∧ tc σ2 H2 fun b H3 =>
        if b = true then te σ2 H3 fun v H4 => H4 D = some (.lst ys) ∧ ys.length < sizeLine ∧ ∃ m', m' < m ∧ W (i + 1) m' (ys ++ [v]) (upd H4 D (.lst (ys ++ [v]))) else ∃ m', m' < m ∧ W (i + 1) m' ys H3) := by
  intro D hD
  refine ⟨fun i m ys H' => m = n - i ∧ i ≤ n ∧ Same H H' ∧ H' D = some (.lst ys) ∧ Pairs (fun i v => Pv i v (wo H' D)) ((List.range i).filter b) ys, ⟨n, rfl, Nat.zero_le _, same_new hD _, upd_same, .nil⟩, ?_⟩
  rintro i m ys H1 ⟨rfl, hi, sH, hDl, hP⟩
  by_cases hlt : i < n
  · refine .inr ⟨hgo i H1 hlt sH, fun x H' ox hox hy => ?_⟩
    obtain ⟨rfl, rfl⟩ := hyld i H1 x H' hlt sH hy
    obtain ⟨o, rfl⟩ : ∃ o, ox = [o] := by
      match ox, hox with
      | [o], _ => exact ⟨o, rfl⟩
    refine ⟨[some (item i)], rfl, rfl, htc i _ _ hlt sH fun H2 s2 => ?_⟩
    have hl := hP.len
    have hl2 : ((List.range i).filter b).length ≤ i := Nat.le_trans (List.length_filter_le ..) (by simp)
    have er : (List.range (i + 1)).filter b = (List.range i).filter b ++ (if b i = true then [i] else []) := by
      rw [List.range_succ, List.filter_append, List.filter_cons, List.filter_nil]
    cases hb : b i with
    | false =>
      refine iteF ⟨n - (i + 1), by omega, rfl, hlt, sH.trans s2, s2 _ _ hDl, ?_⟩
      rw [er, hb, if_neg Bool.false_ne_true, List.append_nil]
      exact hP.mono fun j v z => hPs _ _ _ _ (wo_mono D s2) z
    | true =>
      refine iteT (hte i H2 D ys _ hlt hb (sH.trans s2) hD (s2 _ _ hDl) fun v H3 s3 hv => ?_)
      have s4 := s2.trans s3
      refine ⟨s4 _ _ hDl, Nat.lt_of_lt_of_le (Nat.lt_succ_self _) (small (n := ys.length + 1) (by omega)), n - (i + 1), by omega, rfl, hlt, same_upd (sH.trans s4) hD _, upd_same, ?_⟩
      rw [er, hb, if_pos rfl, wo_upd]
      exact (hP.mono fun j v z => hPs _ _ _ _ (wo_mono D s4) z).snoc hv
  · have e : i = n := by omega
    subst e
    exact .inl ⟨hstop H1 sH, q D H1 ys hD sH hDl hP⟩
/-! ### the walks of a list and a tuple -/
section
variable {K : PySem.W.Frag} {H : Hp} {a : Addr} {xs : List V}
theorem itl_stop (h : SqL K H a xs) : ∀ H', Same H H' → (Itl K a).stop xs.length H' := fun H' s => ⟨xs, s.seq h, Nat.le_refl _⟩
theorem itl_go (h : SqL K H a xs) : ∀ i H', i < xs.length → Same H H' → (Itl K a).go i H' := fun i H' hi s => ⟨xs, xs[i], s.seq h, List.getElem?_eq_getElem hi⟩
theorem itl_yld (h : SqL K H a xs) : ∀ i H1 x H2, i < xs.length → Same H H1 → (Itl K a).yld i H1 x H2 → x = xs.getD i .non ∧ H2 = H1 := fun i H1 x H2 hi s hy => by
  obtain ⟨e, hy⟩ := hy
  refine ⟨?_, e⟩
  rw [List.getD_eq_getElem?_getD, hy xs (s.seq h)]; rfl
theorem itt_stop (h : SqT K H a xs) : ∀ H', Same H H' → (Itt K a).stop xs.length H' := fun H' s => ⟨xs, Same.seqT s h, Nat.le_refl _⟩
theorem itt_go (h : SqT K H a xs) : ∀ i H', i < xs.length → Same H H' → (Itt K a).go i H' := fun i H' hi s => ⟨xs, xs[i], Same.seqT s h, List.getElem?_eq_getElem hi⟩
theorem itt_yld (h : SqT K H a xs) : ∀ i H1 x H2, i < xs.length → Same H H1 → (Itt K a).yld i H1 x H2 → x = xs.getD i .non ∧ H2 = H1 := fun i H1 x H2 hi s hy => by
  obtain ⟨e, hy⟩ := hy
  refine ⟨?_, e⟩
  rw [List.getD_eq_getElem?_getD, hy xs (Same.seqT s h)]; rfl
end
theorem look1 {a : Str} {x c : Addr} {y : Str} (h : ([(a, x)] : List (Str × Addr)).lookup y = some c) : y = a ∧ c = x := by
  rw [List.lookup_cons] at h
  split at h
  · rename_i e; exact ⟨eq_of_beq e, by injection h with h; exact h.symm⟩
  · cases h
end GS
set_option Elab.async false
set_option linter.all false
set_option maxRecDepth 100000
set_option maxHeartbeats 4000000
namespace GS
open PySem PyProof.Rows
open L2 hiding pe_int pe_bl pe_non pe_str pv pe_glob pe_bltn pe_op pe_cmpR pe_one pe_and pe_ifExp pe_ix po_none po_some pe_slice pa_nil pa_cons pe_lst pe_tup pe_dnewK pe_callB pe_callTy pe_bm pt_cmpR pt_val pt_not pw_and1 pw_or1 pw_and pw_or pg_name pgs_nil pgs_cons pg_tup pi_list pi_tup pi_range1 ps_ret ps_expr ps_set ps_asg ps_if ps_while ps_for pss_nil pss_cons pss_one
open L3
abbrev pSame : Stmt := top9 15
abbrev pBeh : Stmt := top9 16
section
variable {P : Program} {w : World} {K : PySem.W.Frag} {mg : Str → Option Value} {base : Heap} {f : Addr} {fd : FuncData}
/-! ### is_same -/
def spSame9 (K : PySem.W.Frag) : Sp := fun vs H Q _ => ∃ (x y : V) (d e : D), vs = [x, y] ∧ At K H d x ∧ At K H e y ∧ El d ∧ El e ∧ Q (.bl (decide (d = e))) H
theorem kit_El {d : D} (h : El d) : PySem.W.kitOne K (.type (tyD d)) (.type "bool") = some false := by
  cases d with
  | bl b => have := h.nb; rw [GS.nb] at this; cases this
  | _ => rfl
theorem scIs : FnScope ["one", "other"] ["one", "other"] (defScope pSame) := ⟨rfl, rfl, rfl, by decide +kernel, rfl, by decide +kernel, by decide +kernel⟩
theorem ok_Is (g : Glb9 mg) (F : Fun K "is_same" "is_same" pSame f fd) : FnOk P w K mg base CX0 1 f fd ["one", "other"] (spSame9 K) := by
  refine F.okI scIs (fun vs H Q E h => ?_) (fun cdv A outer s H vs Q E hr h => ?_)
  · obtain ⟨_, _, _, _, rfl, _⟩ := h; rfl
  obtain ⟨x, y, d, e, rfl, hx, hy, hd, he, q⟩ := h
  refine ⟨_, pss_one (ps_ret (pe_and (pe_cmpR op_eq (pe_callB call_isiD rfl g.nIsi b9Isi (pa_cons (pv 0) (pa_cons (pe_bltn (v := .ty "bool") rfl g.nBool b9Bool rfl) pa_nil))) (pe_callB call_isiD rfl g.nIsi b9Isi (pa_cons (pv 1) (pa_cons (pe_bltn (v := .ty "bool") rfl g.nBool b9Bool rfl) pa_nil))) (nomark _)) (pe_one (pe_cmpR (op_eqD hr) (pv 0) (pv 1) (nomark _))))), ?_⟩
  refine ⟨_, rfl, x, "bool", d, false, rfl, hx, kit_El hd, _, rfl, y, "bool", e, false, rfl, hy, kit_El he, rfl, _, rfl, ?_⟩
  refine iteT ⟨_, rfl, _, rfl, d, e, hx, hy, Nat.le_trans hd.dep (by decide), ?_⟩
  rw [eqD_dec hd.nb he.nb]
  exact q
/-! ### is_behind_head -/
def spBeh (K : PySem.W.Frag) : Sp := fun vs H Q _ => ∃ (x r : V) (d : D) (ds : List D), vs = [x, r] ∧ At K H d x ∧ El d ∧ RowAt K H ds r ∧ (∀ e ∈ ds, El e) ∧ ds.length ≤ 1000 ∧ ∀ H', Same H H' → Q (.bl (decide (d ∈ ds.tail))) H'
theorem scBeh : FnScope ["thing", "row"] ["thing", "row"] (defScope pBeh) := ⟨rfl, rfl, rfl, by decide +kernel, rfl, by decide +kernel, by decide +kernel⟩
theorem cut_tail {xs : List V} : cutV xs (some 1) none = xs.tail := by
  unfold cutV
  rw [show ((1 : Int)) = ((1 : Nat) : Int) from rfl, HT.sIx_nat, HT.sIx_none]
  cases xs with
  | nil => rfl
  | cons x xs =>
    rw [List.length_cons, Nat.min_eq_left (by omega)]
    simp
theorem AtAll.tail {K : PySem.W.Frag} {H : Hp} : ∀ {ds : List D} {vs : List V}, AtAll K H ds vs → AtAll K H ds.tail vs.tail
  | [], vs, h => by rw [AtAll_nil.mp h]; exact AtAll_nil.mpr rfl
  | d :: ds, vs, h => by obtain ⟨v, r, rfl, _, h2⟩ := AtAll_cons.mp h; exact h2
theorem ok_Beh (g : Glb9 mg) (F : Fun K "is_behind_head" "is_behind_head" pBeh f fd) (dS : Def P w K mg base "is_same" ["one", "other"] 1 (spSame9 K)) : FnOk P w K mg base CX0 2 f fd ["thing", "row"] (spBeh K) := by
  refine F.okI scBeh (fun vs H Q E h => ?_) (fun cdv A outer s H vs Q E hr h => ?_)
  · obtain ⟨_, _, _, _, rfl, _⟩ := h; rfl
  obtain ⟨x, r, d, ds, rfl, hx, hd, hrw, hds, hl, q⟩ := h
  refine ⟨_, pss_one (ps_ret (pe_callB (call_any rfl) rfl g.nAny b9Any (pa_cons (.mk (L2.pe_compG (cl := [("thing", s.heap.objs.size + 1)]) (Xs := ["one"]) (Nf := ["thing"]) (js := [0]) ?k rfl (LI.out (pi_or (pi_list (pe_slice sl_list (pv 1) (po_some pe_int) po_none)) (pi_tup (pe_slice sl_Q (pv 1) (po_some pe_int) po_none)))) (fun C s0 H0 fp => LG.out (pg_name (i := 0) (show (["one", "thing"] : List Str).Nodup by decide +kernel) rfl (Or.inl rfl))) (fun C s0 H0 fp => pts_nil) (fun C s0 H0 fp => LE.out (L3.pe_def dS hr (by decide) rfl (pa_cons (pv 1) (pa_cons (pv 0) pa_nil)))))) pa_nil))), ?main⟩
  case k =>
    refine ⟨rfl, by decide +kernel, rfl, by decide +kernel, fun y c h => ?_, fun y hy => ?_, rfl, fun j y h => ?_⟩
    · obtain ⟨rfl, rfl⟩ := look1 h; rfl
    · have hy' : ([(".0", .local), ("one", .local), ("is_same", .globalImplicit), ("thing", .cell)] : List (Str × NameKind)).lookup y = some .cell ∨ ([(".0", .local), ("one", .local), ("is_same", .globalImplicit), ("thing", .cell)] : List (Str × NameKind)).lookup y = some .free := hy
      rcases hy' with z | z
      · have m := PySem.mem_of_lookup z
        simp at m
        subst m
        exact ⟨_, rfl⟩
      · have m := PySem.mem_of_lookup z
        simp at m
    · match j, h with
      | 0, h => cases h; exact ⟨0, rfl, rfl, rfl, .inl rfl⟩
      | j + 1, h => simp at h
  case main =>
    obtain ⟨p, vs, rfl, hq, hA⟩ := hrw
    rcases hq with hq | hq
    case' inl =>
      refine .inl ⟨_, rfl, 1, rfl, p, vs, rfl, hq, fun t ht => ?_⟩
      rw [cut_tail]
      have s1 : Same H _ := same_new ht (.lst vs.tail)
      have j0 : SqL K _ t vs.tail := SqL.of (upd_same (H := H) (a := t) (o := .lst vs.tail))
      have j1 := itl_stop j0
      have j2 := itl_go j0
      have j3 := itl_yld j0
      refine ⟨t, rfl, ⟨_, j0⟩, ?_⟩
    case' inr =>
      refine .inr ⟨_, rfl, 1, rfl, p, vs, rfl, hq, fun t H1 s1 j0 => ?_⟩
      rw [cut_tail] at j0
      replace j0 : SqT K H1 t vs.tail := j0
      have j1 := itt_stop j0
      have j2 := itt_go j0
      have j3 := itt_yld j0
      refine ⟨t, rfl, ⟨_, j0⟩, ?_⟩
    all_goals
      have hA1 := AtAll.same s1 _ _ hA.tail
      have lu := hA1.len
      have lt : ds.tail.length ≤ ds.length := by simp
      refine ⟨[x], ⟨rfl, fun j i h => ?_⟩, compG_one (vs := [x]) (tc := tTrue) vs.tail.length (fun i => vs.tail.getD i .non) (fun _ => true) (fun i v _ => v = .bl (decide (d = ds.tail.getD i .non))) (fun _ _ _ _ _ z => z) (by omega) j1 j2 j3 (fun i H2 Q' hi s2 k => k H2 (Same.refl _)) (fun i H2 D l Q' hi _ s2 _ _ k => ?_) fun D H2 ys hD s2 hl2 hP => ?_⟩
      · match j, h with
        | 0, h => cases h; exact ⟨_, rfl, rfl⟩
        | j + 1, h => simp at h
      · have hi' : i < ds.tail.length := by omega
        obtain ⟨v', hv', hAi⟩ := AtAll.get (i := i) hA1 (d := ds.tail[i]) (by simp [hi'])
        have eu : vs.tail.getD i .non = v' := by rw [List.getD_eq_getElem?_getD, hv']; rfl
        have ed : ds.tail.getD i .non = ds.tail[i] := by rw [List.getD_eq_getElem?_getD, List.getElem?_eq_getElem hi']; rfl
        refine ⟨_, rfl, _, rfl, x, _, d, ds.tail[i], rfl, At.same (s1.trans s2) _ _ hx, At.same s2 _ _ (eu ▸ hAi), hd, hds _ (List.mem_of_mem_tail (List.getElem_mem hi')), k _ H2 (Same.refl _) (by rw [ed])⟩
      · have e := hP.eq
        rw [List.filter_eq_self.mpr (fun _ _ => rfl), lu, range_map ds.tail .non (fun e => V.bl (decide (d = e)))] at e
        refine ⟨D, ds.tail.map fun e => decide (d = e), rfl, SqL.of (by rw [hl2, e, List.map_map]; rfl), ?_⟩
        have e2 : (ds.tail.map fun e => decide (d = e)).any id = decide (d ∈ ds.tail) := by
          rw [List.any_map]
          refine Bool.eq_iff_iff.mpr ?_
          rw [List.any_eq_true, decide_eq_true_iff]
          exact ⟨fun ⟨e, he, z⟩ => (of_decide_eq_true z : d = e) ▸ he, fun z => ⟨d, z, decide_eq_true rfl⟩⟩
        rw [e2]
        exact q _ (s1.trans s2)
end
end GS
set_option Elab.async false
set_option linter.all false
set_option maxRecDepth 100000
set_option maxHeartbeats 4000000
namespace GS
open PySem PyProof.Rows
open L2 hiding pe_int pe_bl pe_non pe_str pv pe_glob pe_bltn pe_op pe_cmpR pe_one pe_and pe_ifExp pe_ix po_none po_some pe_slice pa_nil pa_cons pe_lst pe_tup pe_dnewK pe_callB pe_callTy pe_bm pt_cmpR pt_val pt_not pw_and1 pw_or1 pw_and pw_or pg_name pgs_nil pgs_cons pg_tup pi_list pi_tup pi_range1 ps_ret ps_expr ps_set ps_asg ps_if ps_while ps_for pss_nil pss_cons pss_one
open L3
abbrev pFree : Stmt := top9 17
abbrev pWo : Stmt := top9 18
abbrev pMrg : Stmt := top9 19
section
variable {P : Program} {w : World} {K : PySem.W.Frag} {mg : Str → Option Value} {base : Heap} {f : Addr} {fd : FuncData}
/-- rows to be merged -/
structure RowsOk (dss : List (List D)) : Prop where
  el : ∀ ds ∈ dss, ∀ e ∈ ds, El e
  len : ∀ ds ∈ dss, ds.length ≤ 1000
  many : dss.length ≤ 1000
/-! ### place_of_free -/
def spFree (K : PySem.W.Frag) : Sp := fun vs H Q _ => ∃ (p : Addr) (rvs : List V) (dss : List (List D)), vs = [.ref p] ∧ SqL K H p rvs ∧ RowsAt K H dss rvs ∧ RowsOk dss ∧ (∀ ds ∈ dss, ds ≠ []) ∧
  (∀ i H', Same H H' → i < dss.length → okRow dss i = true → (∀ j, j < i → okRow dss j = false) → Q (.int (i : Nat)) H') ∧ (∀ H', Same H H' → (∀ i, i < dss.length → okRow dss i = false) → Q .non H')
theorem scFree : FnScope ["rows", "place", "row", "others"] ["rows"] (defScope pFree) := ⟨rfl, rfl, rfl, by decide +kernel, rfl, by decide +kernel, by decide +kernel⟩
theorem cut_take {xs : List V} (i : Nat) : cutV xs none (some (i : Nat)) = xs.take i := by
  unfold cutV
  rw [HT.sIx_nat, HT.sIx_none, List.drop_zero, Nat.sub_zero]
  rcases Nat.le_total i xs.length with h | h
  · rw [Nat.min_eq_left h]
  · rw [Nat.min_eq_right h, List.take_of_length_le (Nat.le_refl _), List.take_of_length_le h]
theorem cut_drop {xs : List V} (i : Nat) : cutV xs (some (i : Nat)) none = xs.drop i := by
  unfold cutV
  rw [HT.sIx_nat, HT.sIx_none]
  rcases Nat.le_total i xs.length with h | h
  · rw [Nat.min_eq_left h]
    exact List.take_of_length_le (by simp)
  · rw [Nat.min_eq_right h, Nat.sub_self, List.take_zero, List.drop_eq_nil_of_le h]
theorem atI0 {u : V} {r : List V} : atI (u :: r) 0 = some u := by
  have h : ixN (u :: r).length 0 = some 0 := by unfold ixN; simp
  unfold atI
  rw [h]; rfl
/-- the head of a row -/
theorem RowAt.head {H : Hp} {d : D} {ds : List D} {v : V} (h : RowAt K H (d :: ds) v) : ∃ u, At K H d u ∧ ∀ Q : VK, Q u H → rIx K v (.int 0) H Q := by
  obtain ⟨p, vs, rfl, hq, hA⟩ := h
  obtain ⟨u, r, rfl, h1, h2⟩ := AtAll_cons.mp hA
  refine ⟨u, h1, fun Q q => ?_⟩
  rcases hq with hq | hq
  · exact .inl ⟨p, _, 0, u, rfl, rfl, hq, atI0, q⟩
  · exact .inr (.inl ⟨p, _, 0, u, rfl, rfl, hq, atI0, q⟩)
theorem ok_Free (g : Glb9 mg) (F : Fun K "place_of_free" "place_of_free" pFree f fd) (dB : Def P w K mg base "is_behind_head" ["thing", "row"] 2 (spBeh K)) : FnOk P w K mg base CX0 3 f fd ["rows"] (spFree K) := by
  refine F.okI scFree (fun vs H Q E h => ?_) (fun cdv A outer s H vs Q E hr h => ?_)
  · obtain ⟨_, _, _, rfl, _⟩ := h; rfl
  obtain ⟨p, rvs, dss, rfl, hp, hR, hok, hne, qi, qn⟩ := h
  refine ⟨_, pss_cons (ps_for PassesOwn.never rfl (.mk (L2.pi_enum rfl g.nEnum (LA.out (pa_cons (pv 0) pa_nil)))) (pg_tup rfl (pgs_cons (pg_name (i := 1) scFree.nd rfl (Or.inl rfl)) (pgs_cons (pg_name (i := 2) scFree.nd rfl (Or.inr rfl)) pgs_nil)))
      (pss_cons (ps_set (i := 3) scFree.nd rfl (Or.inl rfl) (pe_op op_cat (pe_slice sl_list (pv 0) po_none (po_some (pv 1))) (pe_slice sl_list (pv 0) (po_some (pe_op op_add (pv 1) pe_int)) po_none)))
      (pss_one (ps_if (pt_not (pt_val (pe_callB (call_any rfl) rfl g.nAny b9Any (pa_cons (.mk (L2.pe_compG (cl := [("row", s.heap.objs.size + 1)]) (Xs := ["other"]) (Nf := ["row"]) (js := [2]) ?k rfl (LI.out (pi_list (pv 3))) (fun C s0 H0 fp => LG.out (pg_name (i := 0) (show (["other", "row"] : List Str).Nodup by decide +kernel) rfl (Or.inl rfl))) (fun C s0 H0 fp => pts_nil) (fun C s0 H0 fp => LE.out (L3.pe_def dB hr (by decide) rfl (pa_cons (pe_ix (r := rIx K) ix_seq (pv 1) pe_int (fun _ _ => rfl)) (pa_cons (pv 0) pa_nil)))))) pa_nil)))) (pss_one (ps_ret (pv 1))) pss_nil))))
    (pss_one (ps_ret pe_non)), ?main⟩
  case k =>
    refine ⟨rfl, by decide +kernel, rfl, by decide +kernel, fun y c h => ?_, fun y hy => ?_, rfl, fun j y h => ?_⟩
    · obtain ⟨rfl, rfl⟩ := look1 h; rfl
    · have hy' : ([(".0", .local), ("other", .local), ("is_behind_head", .globalImplicit), ("row", .cell)] : List (Str × NameKind)).lookup y = some .cell ∨ ([(".0", .local), ("other", .local), ("is_behind_head", .globalImplicit), ("row", .cell)] : List (Str × NameKind)).lookup y = some .free := hy
      rcases hy' with z | z
      · have m := PySem.mem_of_lookup z
        simp at m
        subst m
        exact ⟨_, rfl⟩
      · have m := PySem.mem_of_lookup z
        simp at m
    · match j, h with
      | 0, h => cases h; exact ⟨2, rfl, rfl, rfl, .inl rfl⟩
      | j + 1, h => simp at h
  case main =>
    have lR := hR.len
    refine ⟨_, rfl, p, rfl, ⟨rvs, hp⟩, for_enum (K := K) (a := p) (xs := rvs) (fun i σ H' => (∃ o1 o2 o3, σ = [some (.ref p), o1, o2, o3]) ∧ Same H H' ∧ ∀ j, j < i → okRow dss j = false) ⟨⟨_, _, _, rfl⟩, Same.refl _, fun j hj => absurd hj (Nat.not_lt_zero _)⟩ (fun i σ H' _ h => h.2.1.seq hp) ?turn ?stop⟩
    case stop =>
      rintro σ H' ⟨⟨o1, o2, o3, rfl⟩, sH, hn⟩
      exact qn H' sH fun i hi => hn i (by omega)
    case turn =>
      rintro i x σ H' T hx ⟨⟨o1, o2, o3, rfl⟩, sH, hn⟩ hT
      have hi : i < rvs.length := (List.getElem?_eq_some_iff.mp hx).1
      obtain ⟨ds, hds, hrow⟩ := hR.get hx
      have hmem : ds ∈ dss := List.mem_of_getElem? hds
      have t1 : Same H' (upd H' T (.tup [.int (i : Nat), x])) := same_new hT _
      have sq : SqT K (upd H' T (.tup [.int (i : Nat), x])) T [.int (i : Nat), x] := SqT.of upd_same
      revert t1 sq
      generalize upd H' T (.tup [.int (i : Nat), x]) = H2
      intro t1 sq
      have s2 := sH.trans t1
      refine ⟨T, _, rfl, sq, rfl, _, _, rfl, _, _, rfl, rfl, ?_⟩
      refine ⟨_, rfl, _, rfl, i, rfl, p, rvs, rfl, s2.seq hp, fun p1 hp1 => ?_⟩
      rw [cut_take]
      have t2 : Same H2 (upd H2 p1 (.lst (rvs.take i))) := same_new hp1 _
      have hl1 : upd H2 p1 (.lst (rvs.take i)) p1 = some (.lst (rvs.take i)) := upd_same
      revert t2 hl1
      generalize upd H2 p1 (.lst (rvs.take i)) = H3
      intro t2 hl1
      refine ⟨_, rfl, _, rfl, _, _, rfl, rfl, _, rfl, p, rvs, rfl, (s2.trans t2).seq hp, fun p2 hp2 => ?_⟩
      rw [show ((i : Nat) : Int) + 1 = ((i + 1 : Nat) : Int) from rfl, cut_drop]
      have t3 : Same H3 (upd H3 p2 (.lst (rvs.drop (i + 1)))) := same_new hp2 _
      have hl2 : upd H3 p2 (.lst (rvs.drop (i + 1))) p2 = some (.lst (rvs.drop (i + 1))) := upd_same
      revert t3 hl2
      generalize upd H3 p2 (.lst (rvs.drop (i + 1))) = H4
      intro t3 hl2
      have hmany := hok.many
      refine ⟨p1, p2, _, _, rfl, rfl, t3 _ _ hl1, hl2, ?_, fun p3 hp3 => ?_⟩
      · rw [List.length_take, List.length_drop]; exact small (by omega)
      have t4 : Same H4 (upd H4 p3 (.lst (rvs.take i ++ rvs.drop (i + 1)))) := same_new hp3 _
      have hl3 : upd H4 p3 (.lst (rvs.take i ++ rvs.drop (i + 1))) p3 = some (.lst (rvs.take i ++ rvs.drop (i + 1))) := upd_same
      revert t4 hl3
      generalize upd H4 p3 (.lst (rvs.take i ++ rvs.drop (i + 1))) = H5
      intro t4 hl3
      have s5 : Same H H5 := ((s2.trans t2).trans t3).trans t4
      have hO := ((hR.take i).append (hR.drop (i + 1))).same s5
      generalize hov : rvs.take i ++ rvs.drop (i + 1) = ov at hl3 hO
      generalize hod : dss.take i ++ dss.drop (i + 1) = od at hO
      have lO := hO.len
      have lod : od.length ≤ 1000 := by rw [← hod, List.length_append, List.length_take, List.length_drop]; omega
      have memO : ∀ ds ∈ od, ds ∈ dss := fun ds h => by
        rw [← hod] at h
        rcases List.mem_append.mp h with h | h
        · exact List.mem_of_mem_take h
        · exact List.mem_of_mem_drop h
      obtain ⟨c, cs, rfl⟩ : ∃ c cs, ds = c :: cs := by
        cases ds with
        | nil => exact absurd rfl (hne _ hmem)
        | cons c cs => exact ⟨c, cs, rfl⟩
      have j0 : SqL K H5 p3 ov := SqL.of hl3
      refine ⟨_, rfl, p3, rfl, ⟨_, j0⟩, [x], ⟨rfl, fun j i h => ?_⟩, compG_one (vs := [x]) (tc := tTrue) ov.length (fun i => ov.getD i .non) (fun _ => true) (fun i v _ => v = .bl (decide (c ∈ (od.getD i []).tail))) (fun _ _ _ _ _ z => z) (by omega) (itl_stop j0) (itl_go j0) (itl_yld j0) (fun i H2 Q' hi s2 k => k H2 (Same.refl _)) (fun j H6 D l Q' hj _ s6 _ _ k => ?_) fun D H6 ys hD s6 hl6 hP => ?_⟩
      · match j, h with
        | 0, h => cases h; exact ⟨_, rfl, rfl⟩
        | j + 1, h => simp at h
      · obtain ⟨es, hes, hr2⟩ := hO.get (i := j) (v := ov[j]) (by simp [hj])
        have eo : ov.getD j .non = ov[j] := by rw [List.getD_eq_getElem?_getD, List.getElem?_eq_getElem hj]; rfl
        have ed : od.getD j [] = es := by rw [List.getD_eq_getElem?_getD, hes]; rfl
        obtain ⟨u, hu, ku⟩ := (hrow.same (s5.trans s6)).head
        refine ⟨_, rfl, ku _ ?_⟩
        refine ⟨_, rfl, u, _, c, es, rfl, hu, hok.el _ hmem _ List.mem_cons_self, (by rw [eo]; exact hr2.same s6), hok.el _ (memO _ (List.mem_of_getElem? hes)), hok.len _ (memO _ (List.mem_of_getElem? hes)), fun H7 s7 => k _ H7 s7 (by rw [ed])⟩
      · have e := hP.eq
        rw [List.filter_eq_self.mpr (fun _ _ => rfl), lO, range_map od [] (fun r => V.bl (decide (c ∈ r.tail)))] at e
        refine ⟨D, od.map fun r => decide (c ∈ r.tail), rfl, SqL.of (by rw [hl6, e, List.map_map]; rfl), ?_⟩
        have e2 : (od.map fun r => decide (c ∈ r.tail)).any id = isBehind c od := by rw [List.any_map]; rfl
        have e3 : okRow dss i = !isBehind c od := by rw [okRow, hds, ← hod]
        rw [e2]
        have s7 : Same H H6 := s5.trans s6
        cases hb : isBehind c od with
        | false => exact ⟨false, rfl, ⟨_, rfl, qi i H6 s7 (by omega) (by rw [e3, hb]; rfl) hn⟩⟩
        | true => exact ⟨true, rfl, ⟨⟨_, _, _, rfl⟩, s7, fun j hj => by
            by_cases z : j = i
            · rw [z, e3, hb]; rfl
            · exact hn j (by omega)⟩⟩
end
end GS
set_option Elab.async false
set_option linter.all false
set_option maxRecDepth 100000
set_option maxHeartbeats 4000000
namespace GS
open PySem PyProof.Rows
open L2 hiding pe_int pe_bl pe_non pe_str pv pe_glob pe_bltn pe_op pe_cmpR pe_one pe_and pe_ifExp pe_ix po_none po_some pe_slice pa_nil pa_cons pe_lst pe_tup pe_dnewK pe_callB pe_callTy pe_bm pt_cmpR pt_val pt_not pw_and1 pw_or1 pw_and pw_or pg_name pgs_nil pgs_cons pg_tup pi_list pi_tup pi_range1 ps_ret ps_expr ps_set ps_asg ps_if ps_while ps_for pss_nil pss_cons pss_one
open L3
section
variable {P : Program} {w : World} {K : PySem.W.Frag} {mg : Str → Option Value} {base : Heap} {f : Addr} {fd : FuncData}
def rSl2 (K : PySem.W.Frag) : V → Option Int → Option Int → Hp → VK → Prop := fun x lo hi H Q => rSlL K x lo hi H Q ∨ rSlQ K x lo hi H Q
def rLen (K : PySem.W.Frag) : List V → Hp → VK → Prop := fun xs H Q => ∃ p ys, xs = [V.ref p] ∧ (SqL K H p ys ∨ SqT K H p ys) ∧ Q (V.int ys.length) H
/-! ### without_head -/
def spWo (K : PySem.W.Frag) : Sp := fun vs H Q _ => ∃ (p : Addr) (x : V) (rvs : List V) (dss : List (List D)) (d : D) (gh : Addr) (gl : List V), vs = [.ref p, x] ∧ SqL K H p rvs ∧ H gh = some (.lst gl) ∧ RowsAt K (wo H gh) dss rvs ∧ RowsOk dss ∧ (∀ ds ∈ dss, ds ≠ []) ∧ At K H d x ∧ El d ∧
  ∀ q H' ws, Same H H' → q ≠ gh → H' q = some (.lst ws) → RowsAt K (wo H' gh) (noE (dss.map (offHd d))) ws → Q (.ref q) H'
theorem scWo : FnScope ["rows", "head", "shorter"] ["rows", "head"] (defScope pWo) := ⟨rfl, rfl, rfl, by decide +kernel, rfl, by decide +kernel, by decide +kernel⟩
section
variable {H : Hp} {D0 D1 : Addr} {l : List V}
theorem wo_or (h : H D1 = some (.lst l)) : wo H D0 D1 = some (.lst l) ∨ wo H D0 D1 = none := by
  unfold wo
  split
  · exact .inr rfl
  · exact .inl h
theorem wo_id {H : Hp} {D1 : Addr} (h : H D1 = none) : wo H D1 = H := by
  funext p
  unfold wo
  split
  · rename_i z; rw [z, h]
  · rfl
theorem SqT.wo2 {p : Addr} {vs : List V} (hD : H D1 = some (.lst l)) (h : SqT K (GS.wo H D0) p vs) : SqT K (GS.wo (GS.wo H D0) D1) p vs := by
  rcases wo_or (D0 := D0) hD with z | z
  · exact SqT.wo z h
  · rw [wo_id z]; exact h
theorem AtAll.wo2 (hD : H D1 = some (.lst l)) (ds : List D) (vs : List V) (h : AtAll K (GS.wo H D0) ds vs) : AtAll K (GS.wo (GS.wo H D0) D1) ds vs := by
  rcases wo_or (D0 := D0) hD with z | z
  · exact AtAll.wo z _ _ h
  · rw [wo_id z]; exact h
end
/-- a row's rest -/
theorem RowAt.rest {H : Hp} {ds : List D} {v : V} (h : RowAt K H ds v) (Q : VK) (hq : ∀ u H', Same H H' → (∀ D l D' l', H D = some (.lst l) → H D' = some (.lst l') → RowAt K (wo (wo H' D) D') ds.tail u) → Q u H') : (rSlL K v (some 1) none H Q) ∨ (rSlQ K v (some 1) none H Q) := by
  obtain ⟨p, vs, rfl, hs, hA⟩ := h
  rcases hs with hs | hs
  · refine .inl ⟨p, vs, rfl, hs, fun t ht => ?_⟩
    rw [cut_tail]
    have s1 : Same H (upd H t (.lst vs.tail)) := same_new ht _
    refine hq _ _ s1 fun D l D' l' hD hD' => ?_
    have ne : t ≠ D := fun z => by rw [← z, ht] at hD; cases hD
    have ne' : t ≠ D' := fun z => by rw [← z, ht] at hD'; cases hD'
    refine ⟨t, _, rfl, .inl (SqL.of (by rw [wo_at ne', wo_at ne]; exact upd_same)), ?_⟩
    have a1 := AtAll.wo (D' := D) (s1 _ _ hD) _ _ (AtAll.same s1 _ _ hA.tail)
    exact AtAll.wo2 (s1 _ _ hD') _ _ a1
  · refine .inr ⟨p, vs, rfl, hs, fun t H1 s1 ht => ?_⟩
    rw [cut_tail] at ht
    exact hq _ _ s1 fun D l D' l' hD hD' => ⟨t, _, rfl, .inr (SqT.wo2 (s1 _ _ hD') (SqT.wo (s1 _ _ hD) ht)), AtAll.wo2 (s1 _ _ hD') _ _ (AtAll.wo (s1 _ _ hD) _ _ (AtAll.same s1 _ _ hA.tail))⟩
theorem RowAt.count {H : Hp} {ds : List D} {v : V} (h : RowAt K H ds v) : ∃ p ys, v = .ref p ∧ (SqL K H p ys ∨ SqT K H p ys) ∧ ys.length = ds.length := by
  obtain ⟨p, vs, rfl, hs, hA⟩ := h
  exact ⟨p, vs, rfl, hs, hA.len⟩
theorem ok_Wo (g : Glb9 mg) (F : Fun K "without_head" "without_head" pWo f fd) (dS : Def P w K mg base "is_same" ["one", "other"] 1 (spSame9 K)) : FnOk P w K mg base CX0 2 f fd ["rows", "head"] (spWo K) := by
  refine F.okI scWo (fun vs H Q E h => ?_) (fun cdv A outer s H vs Q E hr h => ?_)
  · obtain ⟨_, _, _, _, _, _, _, rfl, _⟩ := h; rfl
  obtain ⟨p, x, rvs, dss, d, gh, gl, rfl, hp, hgh, hR, hok, hne, hx, hd, q⟩ := h
  refine ⟨_, pss_cons (.mk (L2.ps_setCompG (iy := 2) (cl := [("head", s.heap.objs.size + 1)]) (Xs := ["row"]) (Nf := ["head"]) (js := [1]) ?k rfl (LI.out (pi_list (pv 0))) (fun C s0 H0 fp => LG.out (pg_name (i := 0) (show (["row", "head"] : List Str).Nodup by decide +kernel) rfl (Or.inl rfl))) (fun C s0 H0 fp => pts_nil) (fun C s0 H0 fp => LE.out (pe_ifExp (pt_val (L3.pe_def dS hr (by decide) rfl (pa_cons (pe_ix (r := rIx K) ix_seq (pv 0) pe_int (fun _ _ => rfl)) (pa_cons (pv 1) pa_nil)))) (pe_slice (r := rSl2 K) (SlR.or sl_list sl_Q) (pv 0) (po_some pe_int) po_none) (pv 0))) scWo.nd rfl (Or.inl rfl)))
    (pss_one (ps_ret (.mk (L2.pe_compG (cl := []) (Xs := ["row"]) (Nf := []) (js := []) ?k2 rfl (LI.out (pi_list (pv 2))) (fun C s0 H0 fp => LG.out (pg_name (i := 0) (show (["row"] : List Str).Nodup by decide +kernel) rfl (Or.inl rfl))) (fun C s0 H0 fp => pts_one (LT.out (pt_cmpR op_gt (pe_callB (r := rLen K) call_len_seq rfl g.nLen b9Len (pa_cons (pv 0) pa_nil)) pe_int (nomark _)))) (fun C s0 H0 fp => LE.out (pv 0)))))), ?main⟩
  case k =>
    refine ⟨rfl, by decide +kernel, rfl, by decide +kernel, fun y c h => ?_, fun y hy => ?_, rfl, fun j y h => ?_⟩
    · obtain ⟨rfl, rfl⟩ := look1 h; rfl
    · have hy' : ([(".0", .local), ("row", .local), ("is_same", .globalImplicit), ("head", .cell)] : List (Str × NameKind)).lookup y = some .cell ∨ ([(".0", .local), ("row", .local), ("is_same", .globalImplicit), ("head", .cell)] : List (Str × NameKind)).lookup y = some .free := hy
      rcases hy' with z | z
      · have m := PySem.mem_of_lookup z
        simp at m
        subst m
        exact ⟨_, rfl⟩
      · have m := PySem.mem_of_lookup z
        simp at m
    · match j, h with
      | 0, h => cases h; exact ⟨1, rfl, rfl, rfl, .inl rfl⟩
      | j + 1, h => simp at h
  case k2 =>
    refine ⟨rfl, by decide +kernel, rfl, by decide +kernel, fun y c h => by simp at h, fun y hy => ?_, rfl, fun j y h => by simp at h⟩
    have hy' : ([(".0", .local), ("row", .local), ("len", .globalImplicit)] : List (Str × NameKind)).lookup y = some .cell ∨ ([(".0", .local), ("row", .local), ("len", .globalImplicit)] : List (Str × NameKind)).lookup y = some .free := hy
    rcases hy' with z | z
    · have m := PySem.mem_of_lookup z
      simp at m
    · have m := PySem.mem_of_lookup z
      simp at m
  case main =>
    have lR := hR.len
    have hmany := hok.many
    refine ⟨_, rfl, p, rfl, ⟨_, hp⟩, [x], ⟨rfl, fun j i h => ?_⟩, compG_one (vs := [x]) (tc := tTrue) rvs.length (fun i => rvs.getD i .non) (fun _ => true) (fun i v H' => RowAt K (wo H' gh) (offHd d (dss.getD i [])) v) (fun _ _ _ _ s z => z.same (wo_mono gh s)) (by omega) (itl_stop hp) (itl_go hp) (itl_yld hp) (fun i H2 Q' hi s2 k => k H2 (Same.refl _)) (fun j H6 D l Q' hj _ s6 hD hDl k => ?_) fun D H6 ys hD s6 hl6 hP => ?_⟩
    · match j, h with
      | 0, h => cases h; exact ⟨_, rfl, rfl⟩
      | j + 1, h => simp at h
    · obtain ⟨es, hes, hr2⟩ := hR.get (i := j) (v := rvs[j]) (by simp [hj])
      have eo : rvs.getD j .non = rvs[j] := by rw [List.getD_eq_getElem?_getD, List.getElem?_eq_getElem hj]; rfl
      have ed : dss.getD j [] = es := by rw [List.getD_eq_getElem?_getD, hes]; rfl
      have hmem : es ∈ dss := List.mem_of_getElem? hes
      rw [ed] at k
      rw [eo]
      obtain ⟨c, cs, rfl⟩ : ∃ c cs, es = c :: cs := by
        cases es with
        | nil => exact absurd rfl (hne _ hmem)
        | cons c cs => exact ⟨c, cs, rfl⟩
      have hr6 := (hr2.same (wo_same H gh)).same s6
      obtain ⟨u, hu, ku⟩ := hr6.head
      refine ⟨_, rfl, ku _ ?_⟩
      refine ⟨_, rfl, u, x, c, d, rfl, hu, At.same s6 _ _ hx, hok.el _ hmem _ List.mem_cons_self, hd, _, rfl, ?_⟩
      by_cases hc : c = d
      · rw [decide_eq_true hc]
        refine iteT ⟨_, rfl, 1, rfl, hr6.rest _ fun u' H7 s7 w7 => k _ _ s7 ?_⟩
        rw [offHd, if_pos hc]
        exact w7 D l gh gl hDl (s6 _ _ hgh)
      · rw [decide_eq_false hc]
        refine iteF ⟨_, rfl, k _ _ (Same.refl _) ?_⟩
        rw [offHd, if_neg hc]
        exact hr2.same (wo_mono gh (wo_old hD s6))
    · have hP' := (hP.mono (fun i v z => RowAt.same (wo_mono gh (wo_same H6 D)) z)).rows
      rw [List.filter_eq_self.mpr (fun _ _ => rfl), lR, range_map dss [] (offHd d)] at hP'
      have lY := hP'.len
      rw [List.length_map] at lY
      have j0 : SqL K H6 D ys := SqL.of hl6
      generalize hEs : dss.map (offHd d) = ess at hP' q
      have lE : ess.length = dss.length := by rw [← hEs, List.length_map]
      refine ⟨_, rfl, D, rfl, ⟨_, j0⟩, [], ⟨rfl, fun j i h => by simp at h⟩, compG_one (vs := []) ys.length (fun i => ys.getD i .non) (fun i => !(ess.getD i []).isEmpty) (fun i v H' => RowAt K (wo H' gh) (ess.getD i []) v) (fun _ _ _ _ s z => z.same (wo_mono gh s)) (by omega) (itl_stop j0) (itl_go j0) (itl_yld j0) (fun j H7 Q' hj s7 k => ?_) (fun j H7 D' l Q' hj _ s7 hD7 _ k => ?_) fun D' H7 zs hD7 s7 hl7 hP7 => ?_⟩
      · obtain ⟨es, hes, hr2⟩ := hP'.get (i := j) (v := ys[j]) (by simp [hj])
        have eo : ys.getD j .non = ys[j] := by rw [List.getD_eq_getElem?_getD, List.getElem?_eq_getElem hj]; rfl
        have ed : ess.getD j [] = es := by rw [List.getD_eq_getElem?_getD, hes]; rfl
        rw [ed] at k
        rw [eo]
        obtain ⟨pr, vr, er, hq, lr⟩ := ((hr2.same (wo_same H6 gh)).same s7).count
        rw [er]
        refine ⟨_, rfl, pr, vr, rfl, hq, _, _, rfl, rfl, ?_⟩
        rw [lr]
        have e : decide ((0 : Int) < (es.length : Nat)) = !es.isEmpty := by
          cases es with
          | nil => rfl
          | cons a b => rw [decide_eq_true]; rfl; rw [List.length_cons]; omega
        exact ⟨_, congrArg V.bl e, k H7 (Same.refl _)⟩
      · obtain ⟨es, hes, hr2⟩ := hP'.get (i := j) (v := ys[j]) (by simp [hj])
        have eo : ys.getD j .non = ys[j] := by rw [List.getD_eq_getElem?_getD, List.getElem?_eq_getElem hj]; rfl
        have ed : ess.getD j [] = es := by rw [List.getD_eq_getElem?_getD, hes]; rfl
        rw [ed] at k
        rw [eo]
        exact ⟨_, rfl, k _ _ (Same.refl _) (hr2.same (wo_mono gh (wo_old hD7 s7)))⟩
      · have hF := (hP7.mono (fun i v z => RowAt.same (wo_mono gh (wo_same H7 D')) z)).rows
        have e : ((List.range ys.length).filter fun i => !(ess.getD i []).isEmpty).map (fun i => ess.getD i []) = noE ess := by
          have := range_filter ess [] (fun r => !r.isEmpty) id
          rw [List.map_id] at this
          rw [show ys.length = ess.length by omega]
          exact this
        rw [e] at hF
        exact q D' H7 zs (s6.trans s7) (fun z => by rw [z, s6 _ _ hgh] at hD7; cases hD7) hl7 hF
end
end GS
set_option Elab.async false
set_option linter.all false
set_option maxRecDepth 100000
set_option maxHeartbeats 4000000
namespace GS
open PySem PyProof.Rows
open L2 hiding pe_int pe_bl pe_non pe_str pv pe_glob pe_bltn pe_op pe_cmpR pe_one pe_and pe_ifExp pe_ix po_none po_some pe_slice pa_nil pa_cons pe_lst pe_tup pe_dnewK pe_callB pe_callTy pe_bm pt_cmpR pt_val pt_not pw_and1 pw_or1 pw_and pw_or pg_name pgs_nil pgs_cons pg_tup pi_list pi_tup pi_range1 ps_ret ps_expr ps_set ps_asg ps_if ps_while ps_for pss_nil pss_cons pss_one
open L3
section
variable {P : Program} {w : World} {K : PySem.W.Frag} {mg : Str → Option Value} {base : Heap} {f : Addr} {fd : FuncData}
/-! ### merged -/
def spMrg (K : PySem.W.Frag) : Sp := fun vs H Q _ => ∃ (p : Addr) (rvs : List V) (dss : List (List D)), vs = [.ref p] ∧ SqL K H p rvs ∧ RowsAt K H dss rvs ∧ RowsOk dss ∧ (∀ ds ∈ dss, ds.Nodup) ∧ tot dss ≤ 100000 ∧
  (∀ H', Same H H' → GS.mg dss = none → Q .non H') ∧ (∀ q H' ws l, Same H H' → GS.mg dss = some l → H q = none → H' q = some (.lst ws) → AtAll K H' l ws → Q (.ref q) H')
theorem atIn {α : Type} {xs : List α} {i : Nat} {x : α} (h : xs[i]? = some x) : atI xs (i : Nat) = some x := by
  have hi := (List.getElem?_eq_some_iff.mp h).1
  have e : ixN xs.length (i : Nat) = some i := by
    unfold ixN
    rw [if_pos (by omega), if_pos (by omega)]
    rw [Int.toNat_natCast]
  unfold atI
  rw [e]; exact h
theorem scMrg : FnScope ["rows", "waiting", "order", "place", "head"] ["rows"] (defScope pMrg) := ⟨rfl, rfl, rfl, by decide +kernel, rfl, by decide +kernel, by decide +kernel⟩
theorem wo_put (H : Hp) (D : Addr) (o : HO) : Same (wo H D) (upd H D o) := fun p u e => by
  unfold wo at e
  split at e
  · cases e
  · rename_i h; rw [upd_ne h]; exact e
theorem RowsOk.sub {dss ess : List (List D)} (h : RowsOk dss) (hs : ∀ r ∈ ess, ∃ q ∈ dss, r.Sublist q) (hl : ess.length ≤ dss.length) : RowsOk ess :=
  ⟨fun ds hd e he => let ⟨q, hq, z⟩ := hs ds hd; h.el q hq e (z.subset he), fun ds hd => let ⟨q, hq, z⟩ := hs ds hd; Nat.le_trans z.length_le (h.len q hq), Nat.le_trans hl h.many⟩
/-- what is left to merge -/
structure Left (dss : List (List D)) : Prop where
  ok : RowsOk dss
  ne : ∀ ds ∈ dss, ds ≠ []
  nd : ∀ ds ∈ dss, ds.Nodup
theorem noE_mem {dss : List (List D)} {r : List D} : r ∈ noE dss ↔ r ∈ dss ∧ r ≠ [] := by
  unfold noE
  rw [List.mem_filter]
  constructor
  · rintro ⟨a, b⟩; exact ⟨a, fun z => by rw [z] at b; cases b⟩
  · rintro ⟨a, b⟩
    refine ⟨a, ?_⟩
    cases r with
    | nil => exact absurd rfl b
    | cons x xs => rfl
theorem Left.of {dss : List (List D)} (h : RowsOk dss) (hn : ∀ ds ∈ dss, ds.Nodup) : Left (noE dss) :=
  ⟨h.sub (fun r hr => ⟨r, (noE_mem.mp hr).1, List.Sublist.refl _⟩) (List.length_filter_le ..), fun ds hd => (noE_mem.mp hd).2, fun ds hd => hn _ (noE_mem.mp hd).1⟩
theorem Left.next {dss : List (List D)} (h : Left dss) (c : D) : Left (noE (dss.map (offHd c))) := by
  refine Left.of (h.ok.sub (fun r hr => ?_) (by rw [List.length_map]; exact Nat.le_refl _)) fun r hr => ?_
  · obtain ⟨q, hq, rfl⟩ := List.mem_map.mp hr
    exact ⟨q, hq, offHd_sub c q⟩
  · obtain ⟨q, hq, rfl⟩ := List.mem_map.mp hr
    exact offHd_nodup (h.nd q hq)
theorem ok_Mrg (g : Glb9 mg) (F : Fun K "merged" "merged" pMrg f fd) (dF : Def P w K mg base "place_of_free" ["rows"] 3 (spFree K)) (dW : Def P w K mg base "without_head" ["rows", "head"] 2 (spWo K)) : FnOk P w K mg base CX0 4 f fd ["rows"] (spMrg K) := by
  refine F.okI scMrg (fun vs H Q E h => ?_) (fun cdv A outer s H vs Q E hr h => ?_)
  · obtain ⟨_, _, _, rfl, _⟩ := h; rfl
  obtain ⟨p, rvs, dss, rfl, hp, hR, hok, hnd, htot, qn, qs⟩ := h
  refine ⟨_, pss_cons (.mk (L2.ps_setCompG (iy := 1) (cl := []) (Xs := ["row"]) (Nf := []) (js := []) ?k rfl (LI.out (pi_list (pv 0))) (fun C s0 H0 fp => LG.out (pg_name (i := 0) (show (["row"] : List Str).Nodup by decide +kernel) rfl (Or.inl rfl))) (fun C s0 H0 fp => pts_one (LT.out (pt_cmpR op_gt (pe_callB (r := rLen K) call_len_seq rfl g.nLen b9Len (pa_cons (pv 0) pa_nil)) pe_int (nomark _)))) (fun C s0 H0 fp => LE.out (pv 0)) scMrg.nd rfl (Or.inl rfl)))
    (pss_cons (ps_set (i := 2) scMrg.nd rfl (Or.inl rfl) (pe_lst pa_nil))
    (pss_cons (ps_while PassesOwn.never (pt_cmpR op_gt (pe_callB call_len_seq rfl g.nLen b9Len (pa_cons (pv 1) pa_nil)) pe_int (nomark _))
      (pss_cons (ps_set (i := 3) scMrg.nd rfl (Or.inl rfl) (L3.pe_def dF hr (by decide) rfl (pa_cons (pv 1) pa_nil)))
      (pss_cons (ps_if (pt_cmpR op_isN (pv 3) pe_non (nomark _)) (pss_one (ps_ret pe_non)) pss_nil)
      (pss_cons (ps_set (i := 4) scMrg.nd rfl (Or.inl rfl) (pe_ix (r := rIx K) ix_seq (pe_ix (r := rIxL K) ix_list (pv 1) (pv 3) (fun _ _ => rfl)) pe_int (fun _ _ => rfl)))
      (pss_cons (ps_expr (pe_bm PySem.F.plainAttrs_list PySem.F.slot_list_append PySem.F.type_list_append mt_append (pv 2) (pa_cons (pv 4) pa_nil)))
      (pss_one (ps_set (i := 1) scMrg.nd rfl (Or.inl rfl) (L3.pe_def dW hr (by decide) rfl (pa_cons (pv 1) (pa_cons (pv 4) pa_nil))))))))))
    (pss_one (ps_ret (pv 2))))), ?main⟩
  case k =>
    refine ⟨rfl, by decide +kernel, rfl, by decide +kernel, fun y c h => by simp at h, fun y hy => ?_, rfl, fun j y h => by simp at h⟩
    have hy' : ([(".0", .local), ("row", .local), ("len", .globalImplicit)] : List (Str × NameKind)).lookup y = some .cell ∨ ([(".0", .local), ("row", .local), ("len", .globalImplicit)] : List (Str × NameKind)).lookup y = some .free := hy
    rcases hy' with z | z
    · have m := PySem.mem_of_lookup z
      simp at m
    · have m := PySem.mem_of_lookup z
      simp at m
  case main =>
    have lR := hR.len
    have hmany := hok.many
    refine ⟨_, rfl, p, rfl, ⟨_, hp⟩, [], ⟨rfl, fun j i h => by simp at h⟩, compG_one (vs := []) rvs.length (fun i => rvs.getD i .non) (fun i => !(dss.getD i []).isEmpty) (fun i v H' => RowAt K H' (dss.getD i []) v) (fun _ _ _ _ s z => z.same s) (by omega) (itl_stop hp) (itl_go hp) (itl_yld hp) (fun j H7 Q' hj s7 k => ?_) (fun j H7 D' l Q' hj _ s7 hD7 _ k => ?_) fun wl H1 zs hwl s1 hl1 hP1 => ?_⟩
    · obtain ⟨es, hes, hr2⟩ := hR.get (i := j) (v := rvs[j]) (by simp [hj])
      have eo : rvs.getD j .non = rvs[j] := by rw [List.getD_eq_getElem?_getD, List.getElem?_eq_getElem hj]; rfl
      have ed : dss.getD j [] = es := by rw [List.getD_eq_getElem?_getD, hes]; rfl
      rw [ed] at k
      rw [eo]
      obtain ⟨pr, vr, er, hq, lr⟩ := (hr2.same s7).count
      rw [er]
      refine ⟨_, rfl, pr, vr, rfl, hq, _, _, rfl, rfl, ?_⟩
      rw [lr]
      have e : decide ((0 : Int) < (es.length : Nat)) = !es.isEmpty := by
        cases es with
        | nil => rfl
        | cons a b => rw [decide_eq_true]; rfl; rw [List.length_cons]; omega
      exact ⟨_, congrArg V.bl e, k H7 (Same.refl _)⟩
    · obtain ⟨es, hes, hr2⟩ := hR.get (i := j) (v := rvs[j]) (by simp [hj])
      have eo : rvs.getD j .non = rvs[j] := by rw [List.getD_eq_getElem?_getD, List.getElem?_eq_getElem hj]; rfl
      have ed : dss.getD j [] = es := by rw [List.getD_eq_getElem?_getD, hes]; rfl
      rw [ed] at k
      rw [eo]
      exact ⟨_, rfl, k _ _ (Same.refl _) (hr2.same (wo_old hD7 s7))⟩
    have hF := (hP1.mono (fun i v z => RowAt.same (wo_same H1 wl) z)).rows
    have e : ((List.range rvs.length).filter fun i => !(dss.getD i []).isEmpty).map (fun i => dss.getD i []) = noE dss := by
      have := range_filter dss [] (fun r => !r.isEmpty) id
      rw [List.map_id] at this
      rw [lR]
      exact this
    rw [e] at hF
    have hL0 := Left.of hok hnd
    have hm0 : GS.mg dss = (GS.mg (noE dss)).map ([] ++ ·) := by rw [mg_noE]; cases GS.mg dss <;> rfl
    have ht0 : tot (noE dss) ≤ 100000 := by rw [noE_tot]; exact htot
    generalize noE dss = ess0 at hF hL0 hm0 ht0
    refine ⟨by show 0 ≤ sizeLine; exact Nat.zero_le _, fun ol hol => ?_⟩
    have hol0 : H ol = none := s1.free hol
    have nwo : wl ≠ ol := fun z => by rw [← z, hl1] at hol; cases hol
    have sA : Same H (wo (upd H1 ol (.lst [])) ol) := by rw [wo_upd]; exact wo_old hol0 s1
    have rA : RowsAt K (wo (upd H1 ol (.lst [])) ol) ess0 zs := by rw [wo_upd, wo_id hol]; exact hF
    have oA : upd H1 ol (.lst []) ol = some (.lst []) := upd_same
    have wA : upd H1 ol (.lst []) wl = some (.lst zs) := by rw [upd_ne nwo]; exact hl1
    revert sA rA oA wA
    generalize upd H1 ol (.lst []) = H2
    intro sA rA oA wA
    refine ⟨fun m σ H' => ∃ (wl : Addr) (zs us : List V) (ess : List (List D)) (os : List D) (o3 o4 : Option V), σ = [some (.ref p), some (.ref wl), some (.ref ol), o3, o4] ∧ wl ≠ ol ∧ Same H (wo H' ol) ∧ H' wl = some (.lst zs) ∧ H' ol = some (.lst us) ∧ RowsAt K (wo H' ol) ess zs ∧ AtAll K (wo H' ol) os us ∧ Left ess ∧ GS.mg dss = (GS.mg ess).map (os ++ ·) ∧ m = tot ess ∧ tot ess + os.length ≤ 100000, ⟨_, wl, zs, [], ess0, [], none, none, rfl, nwo, sA, wA, oA, rA, AtAll_nil.mpr rfl, hL0, hm0, rfl, by simpa using ht0⟩, ?_⟩
    rintro m σ H3 ⟨wl, zs, us, ess, os, o3, o4, rfl, nwo, sA, wA, oA, rA, aA, hL, hm, rfl, hto⟩
    have lz := rA.len
    refine ⟨_, rfl, wl, zs, rfl, .inl (SqL.of wA), _, _, rfl, rfl, ?_⟩
    have s3 : Same H H3 := sA.trans (wo_same H3 ol)
    have rH := rA.same (wo_same H3 ol)
    by_cases he : ess = []
    · subst he
      have e0 : zs.length = 0 := by rw [lz]; rfl
      rw [e0]
      refine ⟨false, rfl, iteF ⟨_, rfl, qs ol H3 us os s3 ?_ hol0 oA (AtAll.same (wo_same H3 ol) _ _ aA)⟩⟩
      rw [hm, mg_done rfl, Option.map_some, List.append_nil]
    have hpos : 0 < zs.length := by
      rw [lz]
      cases ess with
      | nil => exact absurd rfl he
      | cons a b => exact Nat.succ_pos _
    have hna : ¬ ess.all List.isEmpty = true := fun z => by
      cases ess with
      | nil => exact he rfl
      | cons a b =>
        rw [List.all_cons, Bool.and_eq_true] at z
        exact hL.ne a List.mem_cons_self (List.isEmpty_iff.mp z.1)
    have hnn : ∀ r ∈ ess, r ≠ [] ∧ r.Nodup := fun r hr => ⟨hL.ne r hr, hL.nd r hr⟩
    refine ⟨true, congrArg V.bl (decide_eq_true (by omega)), iteT ⟨_, fun σ' H' h => h, ?_⟩⟩
    refine ⟨_, rfl, wl, zs, ess, rfl, SqL.of wA, rH, hL.ok, hL.ne, fun i H4 s4 hi ho hn => ?_, fun H4 s4 hn => ?_⟩
    rotate_left
    · refine ⟨_, rfl, rfl, true, rfl, iteT (qn H4 (s3.trans s4) ?_)⟩
      rw [hm, mg_stuck hna (free_none hnn hn)]; rfl
    refine ⟨_, rfl, rfl, false, rfl, iteF ?_⟩
    have hiz : i < zs.length := by omega
    obtain ⟨es, hes, hri⟩ := rH.get (i := i) (v := zs[i]) (by simp [hiz])
    obtain ⟨c, cs, rfl⟩ : ∃ c cs, es = c :: cs := by
      cases es with
      | nil => exact absurd rfl (hL.ne _ (List.mem_of_getElem? hes))
      | cons c cs => exact ⟨c, cs, rfl⟩
    have hmem := List.mem_of_getElem? hes
    obtain ⟨more, hf⟩ := free_first hnn hes ho hn
    obtain ⟨u, hu, ku⟩ := (hri.same s4).head
    have ai : atI zs (i : Nat) = some zs[i] := atIn (List.getElem?_eq_getElem hiz)
    refine ⟨_, rfl, _, rfl, ⟨wl, zs, i, zs[i], rfl, rfl, SqL.of (s4 _ _ wA), ai, ku _ ?_⟩⟩
    have wA4 := s4 _ _ wA
    have oA4 := s4 _ _ oA
    have hlen := aA.len
    refine ⟨_, rfl, .inl ⟨rfl, us, SqL.of oA4⟩, _, rfl, ol, us, u, rfl, rfl, oA4, Nat.lt_of_lt_of_le (Nat.lt_succ_self _) (small (n := us.length + 1) (by omega)), ?_⟩
    have w5 : RowsAt K (wo (upd H4 ol (.lst (us ++ [u]))) ol) ess zs := by rw [wo_upd]; exact rA.same (wo_mono ol s4)
    have a5 : AtAll K (wo (upd H4 ol (.lst (us ++ [u]))) ol) (os ++ [c]) (us ++ [u]) := by
      rw [wo_upd]
      exact (AtAll.same (wo_mono ol s4) _ _ aA).append (AtAll_cons.mpr ⟨_, _, rfl, At.wo oA4 _ _ hu, AtAll_nil.mpr rfl⟩)
    have hu5 : At K (upd H4 ol (.lst (us ++ [u]))) c u := At.same (wo_put H4 ol _) _ _ (At.wo oA4 _ _ hu)
    have oA5 : upd H4 ol (.lst (us ++ [u])) ol = some (.lst (us ++ [u])) := upd_same
    have wA5 : upd H4 ol (.lst (us ++ [u])) wl = some (.lst zs) := by rw [upd_ne nwo]; exact wA4
    have sA5 : Same H (wo (upd H4 ol (.lst (us ++ [u]))) ol) := by rw [wo_upd]; exact sA.trans (wo_mono ol s4)
    revert w5 a5 hu5 oA5 wA5 sA5
    generalize upd H4 ol (.lst (us ++ [u])) = H5
    intro w5 a5 hu5 oA5 wA5 sA5
    have hcf : c ∈ freeL ess := by rw [hf]; exact List.mem_cons_self
    have hlt := tot_off_lt c (List.mem_filter.mp hcf).1
    refine ⟨_, rfl, _, rfl, wl, u, zs, ess, c, ol, us ++ [u], rfl, SqL.of wA5, oA5, w5, hL.ok, hL.ne, hu5, hL.ok.el _ hmem _ List.mem_cons_self, fun q H6 ws s6 hq hq6 hR6 => ?_⟩
    refine ⟨tot (noE (ess.map (offHd c))), by rw [noE_tot]; exact hlt, q, ws, us ++ [u], noE (ess.map (offHd c)), os ++ [c], _, _, rfl, hq, sA5.trans (wo_mono ol s6), hq6, s6 _ _ oA5, hR6, AtAll.same (wo_mono ol s6) _ _ a5, hL.next c, ?_, rfl, ?_⟩
    · rw [hm, mg_next hf, mg_noE, Option.map_map]
      refine congrFun (congrArg Option.map (funext fun l => ?_)) _
      show os ++ c :: l = os ++ [c] ++ l
      rw [List.append_assoc]; rfl
    · rw [noE_tot, List.length_append, List.length_singleton]; omega
end
end GS
set_option Elab.async false
set_option linter.all false
set_option maxRecDepth 100000
set_option maxHeartbeats 4000000
namespace GS
open PySem PyProof.Rows
open L2 hiding pe_int pe_bl pe_non pe_str pv pe_glob pe_bltn pe_op pe_cmpR pe_one pe_and pe_ifExp pe_ix po_none po_some pe_slice pa_nil pa_cons pe_lst pe_tup pe_dnewK pe_callB pe_callTy pe_bm pt_cmpR pt_val pt_not pw_and1 pw_or1 pw_and pw_or pg_name pgs_nil pgs_cons pg_tup pi_list pi_tup pi_range1 ps_ret ps_expr ps_set ps_asg ps_if ps_while ps_for pss_nil pss_cons pss_one
open L3
/-! ### the classes of the store -/
structure Cl9 where
  F : Addr
  G : Addr
  Kd : Addr
  W : Addr
/-- what isinstance asks of an object's class -/
structure OwnI (K : PySem.W.Frag) (D : Addr) : Prop where
  hg : PySem.W.plainGet K D "__class__" = true
  hd : PySem.W.hasDictIn K D = true
  ha : PySem.W.findIn K (.ref D) "__class__" = some (some (.builtin "object.__class__"))
  hn : PySem.W.specialIn K (.builtin "object.__class__") "__get__" = some (some (.builtin "getset_descriptor.__get__"))
  tk : PySem.W.takesIn K (.builtin "object.__class__") = some true
  hm : PySem.W.mroIn K D (.type "object") = some true
structure Cs9 (K : PySem.W.Frag) (c : Cl9) : Prop where
  kc : Cls K c.Kd
  k1 : NoAttr K c.Kd "name"
  k2 : NoAttr K c.Kd "order"
  k3 : NoAttr K c.Kd "fields"
  k4 : NoAttr K c.Kd "is_given"
  wc : Cls K c.W
  w1 : NoAttr K c.W "lines"
  w2 : NoAttr K c.W "left"
  w3 : NoAttr K c.W "things"
  w4 : NoAttr K c.W "given"
  gc : Cls K c.G
  g1 : NoAttr K c.G "name"
  fc : Cls K c.F
  f1 : NoAttr K c.F "name"
  f2 : NoAttr K c.F "params"
  f3 : NoAttr K c.F "defaults"
  f4 : NoAttr K c.F "code"
  f5 : NoAttr K c.F "around"
  f6 : NoAttr K c.F "gives"
  iK : OwnI K c.Kd
  iG : OwnI K c.G
  iF : OwnI K c.F
  tK : PySem.W.kitOne K (.ref c.Kd) (.ref c.Kd) = some true
  tG : PySem.W.kitOne K (.ref c.G) (.ref c.Kd) = some false
  tF : PySem.W.kitOne K (.ref c.F) (.ref c.Kd) = some false
  tN : PySem.W.kitOne K (.type "NoneType") (.ref c.Kd) = some false
def rIsO (K : PySem.W.Frag) : List V → Hp → VK → Prop := fun xs H Q => ∃ x C b, xs = [x, .ref C] ∧ ((∃ p D dx fs, x = .ref p ∧ H p = some (.ins D dx fs) ∧ OwnI K D ∧ PySem.W.kitOne K (.ref D) (.ref C) = some b) ∨ (x = .non ∧ PySem.W.kitOne K (.type "NoneType") (.ref C) = some b)) ∧ Q (.bl b) H
theorem call_isO {X : Cx} : CallR X (.builtin "isinstance") (rIsO X.K) := by
  intro pins s σ H xs us Q I r h
  obtain ⟨x, C, b, rfl, hx, q⟩ := h
  obtain ⟨u, w', rfl, r1, r2⟩ := vals2 r
  cases r2
  rcases hx with ⟨p, D, dx, fs, rfl, hp, o, hk⟩ | ⟨rfl, hk⟩
  · cases (show u = Value.ref p from r1)
    obtain ⟨mA, hO, _⟩ := ins_get I.hok hp
    obtain ⟨od, hI, _⟩ := hO.look
    exact PySem.W.kia_one (PySem.W.kitx_own (ox := PySem.W.instObj D dx) (od := od) o.hg o.hd o.ha o.hn o.tk o.hm) I.kIn hI hk (fun z => nomatch z) fun tk => ⟨.bl b, H, I.tok _, rfl, q⟩
  · cases (show u = Value.none from r1)
    exact PySem.W.kia_one PySem.W.kitx_none I.kIn True.intro hk (fun z => nomatch z) fun tk => ⟨.bl b, H, I.tok _, rfl, q⟩
/-! ### all but lists and dicts stay -/
def fixed : HO → Bool
  | .lst _ => false
  | .dK _ => false
  | _ => true
def Fx (H H' : Hp) : Prop := ∀ p o, H p = some o → fixed o = true → H' p = some o
theorem Same.fx {H H' : Hp} (s : Same H H') : Fx H H' := fun p o e _ => s p o e
/-- all but one place -/
def But9 (l : Addr) (H H' : Hp) : Prop := ∀ p o, p ≠ l → H p = some o → H' p = some o
theorem But9.fx {l : Addr} {H H' : Hp} {xs : List V} (b : But9 l H H') (h : H l = some (.lst xs)) : Fx H H' := fun p o e z => b p o (fun y => by rw [y, h] at e; cases e; cases z) e
theorem Same.but {H H' : Hp} (l : Addr) (s : Same H H') : But9 l H H' := fun p o _ e => s p o e
theorem But9.trans {l : Addr} {H H1 H2 : Hp} (a : But9 l H H1) (b : But9 l H1 H2) : But9 l H H2 := fun p o n e => b p o n (a p o n e)
theorem But9.put {l : Addr} (H : Hp) (o : HO) : But9 l H (upd H l o) := fun p u n e => by rw [upd_ne n]; exact e
section
variable {K : PySem.W.Frag} {H H' : Hp}
theorem Fx.seqT {p : Addr} {vs : List V} (s : Fx H H') (h : SqT K H p vs) : SqT K H' p vs := by
  rcases h with (h | ⟨o, h⟩) | h
  · exact .inl (.inl (s _ _ h rfl))
  · exact .inl (.inr ⟨o, s _ _ h rfl⟩)
  · exact .inr h
mutual
theorem At.fx (s : Fx H H') : ∀ (d : D) (v : V), At K H d v → At K H' d v
  | .non, _, h => At_non.mpr (At_non.mp h)
  | .bl _, _, h => At_bl.mpr (At_bl.mp h)
  | .int _, _, h => At_int.mpr (At_int.mp h)
  | .str _, _, h => At_str.mpr (At_str.mp h)
  | .tup ds, _, h => by
    obtain ⟨p, vs, rfl, h1, h2⟩ := At_tup.mp h
    exact At_tup.mpr ⟨p, vs, rfl, Fx.seqT s h1, AtAll.fx s ds vs h2⟩
theorem AtAll.fx (s : Fx H H') : ∀ (ds : List D) (vs : List V), AtAll K H ds vs → AtAll K H' ds vs
  | [], _, h => AtAll_nil.mpr (AtAll_nil.mp h)
  | d :: ds, _, h => by
    obtain ⟨v, r, rfl, h1, h2⟩ := AtAll_cons.mp h
    exact AtAll_cons.mpr ⟨v, r, rfl, At.fx s d v h1, AtAll.fx s ds r h2⟩
end
end
/-! ### the things of a world -/
def thD (i : Nat) : D := .tup [.str "thing", .int (i : Nat)]
theorem thD_inj {i j : Nat} (h : thD i = thD j) : i = j := by
  unfold thD at h
  injection h with h
  injection h with _ h
  injection h with h _
  injection h with h
  exact Int.ofNat.inj h
def kdF (v1 vo v3 v4 : V) : List (Str × V) := [("name", v1), ("order", vo), ("fields", v3), ("is_given", v4)]
/-- a thing: a class with its order, or no class -/
def ObjAt (K : PySem.W.Frag) (c : Cl9) (H : Hp) : Option (List Nat) → V → Prop
  | none, v => ∃ p C dx fs, v = .ref p ∧ H p = some (.ins C dx fs) ∧ (C = c.F ∨ C = c.G)
  | some ns, v => ∃ p dx v1 vo v3 v4, v = .ref p ∧ H p = some (.ins c.Kd dx (kdF v1 vo v3 v4)) ∧ At K H (.tup (ns.map thD)) vo
theorem ObjAt.fx {K : PySem.W.Frag} {c : Cl9} {H H' : Hp} (s : Fx H H') : ∀ {o : Option (List Nat)} {v : V}, ObjAt K c H o v → ObjAt K c H' o v
  | none, _, ⟨p, C, dx, fs, e, h, z⟩ => ⟨p, C, dx, fs, e, s _ _ h rfl, z⟩
  | some _, _, ⟨p, dx, v1, vo, v3, v4, e, h, a⟩ => ⟨p, dx, v1, vo, v3, v4, e, s _ _ h rfl, At.fx s _ _ a⟩
def wF (a b : V) (l g : Addr) : List (Str × V) := [("lines", a), ("left", b), ("things", .ref l), ("given", .ref g)]
structure WAt (K : PySem.W.Frag) (c : Cl9) (H : Hp) (W l g : Addr) (os : List (Option (List Nat))) : Prop where
  w : ∃ dx a b, H W = some (.ins c.W dx (wF a b l g))
  t : ∃ tvs : List V, H l = some (.lst tvs) ∧ tvs.length = os.length ∧ ∀ (i : Nat) (v : V), tvs[i]? = some v → ∃ o, os[i]? = some o ∧ ObjAt K c H o v
/-- the names that a world gives -/
def GivAt (K : PySem.W.Frag) (H : Hp) (g : Addr) (gv : List (Str × Nat)) : Prop := ∃ kvs, H g = some (.dK kvs) ∧ kvs.length ≤ gv.length ∧ ∀ n i, (n, i) ∈ gv → ∃ v, valV kvs (.inr n) = some v ∧ At K H (thD i) v
theorem WAt.same {K : PySem.W.Frag} {c : Cl9} {H H' : Hp} {W l g : Addr} {os : List (Option (List Nat))} (s : Same H H') (h : WAt K c H W l g os) : WAt K c H' W l g os := by
  obtain ⟨⟨dx, a, b, h1⟩, tvs, h2, h3, h4⟩ := h
  exact ⟨⟨dx, a, b, s _ _ h1⟩, tvs, s _ _ h2, h3, fun i v e => let ⟨o, a, b⟩ := h4 i v e; ⟨o, a, b.fx (Same.fx s)⟩⟩
theorem GivAt.same {K : PySem.W.Frag} {H H' : Hp} {g : Addr} {gv : List (Str × Nat)} (s : Same H H') (h : GivAt K H g gv) : GivAt K H' g gv := by
  obtain ⟨kvs, h1, hl, h2⟩ := h
  exact ⟨kvs, s _ _ h1, hl, fun n i e => let ⟨v, a, b⟩ := h2 n i e; ⟨v, a, At.fx (Same.fx s) _ _ b⟩⟩
theorem GivAt.but {K : PySem.W.Frag} {H H' : Hp} {g l : Addr} {gv : List (Str × Nat)} {xs : List V} (s : But9 l H H') (hl : H l = some (.lst xs)) (h : GivAt K H g gv) : GivAt K H' g gv := by
  obtain ⟨kvs, h1, hlen, h2⟩ := h
  have ne : g ≠ l := fun z => by rw [z, hl] at h1; cases h1
  exact ⟨kvs, s _ _ ne h1, hlen, fun n i e => let ⟨v, a, b⟩ := h2 n i e; ⟨v, a, At.fx (s.fx hl) _ _ b⟩⟩
theorem WAt.add {K : PySem.W.Frag} {c : Cl9} {H : Hp} {W l g : Addr} {os : List (Option (List Nat))} {tvs : List V} {o : Option (List Nat)} {v : V} (h : WAt K c H W l g os) (hl : H l = some (.lst tvs)) (hv : ObjAt K c H o v) : WAt K c (upd H l (.lst (tvs ++ [v]))) W l g (os ++ [o]) := by
  obtain ⟨⟨dx, a, b, h1⟩, tvs', h2, h3, h4⟩ := h
  rw [hl] at h2
  injection h2 with h2
  injection h2 with h2
  subst h2
  have f : Fx H (upd H l (.lst (tvs ++ [v]))) := (But9.put H _).fx hl
  refine ⟨⟨dx, a, b, f _ _ h1 rfl⟩, _, upd_same, by rw [List.length_append, List.length_append, h3]; rfl, fun i u e => ?_⟩
  by_cases hi : i < tvs.length
  · rw [List.getElem?_append_left hi] at e
    obtain ⟨o', a', b'⟩ := h4 i u e
    exact ⟨o', by rw [List.getElem?_append_left (by omega)]; exact a', b'.fx f⟩
  · have : i = tvs.length := by
      have := (List.getElem?_eq_some_iff.mp e).1
      rw [List.length_append, List.length_singleton] at this
      omega
    subst this
    rw [List.getElem?_append_right (Nat.le_refl _), Nat.sub_self] at e
    cases e
    exact ⟨o, by rw [h3, List.getElem?_append_right (Nat.le_refl _), Nat.sub_self]; rfl, hv.fx f⟩
end GS
set_option Elab.async false
set_option linter.all false
set_option maxRecDepth 100000
set_option maxHeartbeats 4000000
namespace GS
open PySem PyProof.Rows
open L2 hiding pe_int pe_bl pe_non pe_str pv pe_glob pe_bltn pe_op pe_cmpR pe_one pe_and pe_ifExp pe_ix po_none po_some pe_slice pa_nil pa_cons pe_lst pe_tup pe_dnewK pe_callB pe_callTy pe_bm pt_cmpR pt_val pt_not pw_and1 pw_or1 pw_and pw_or pg_name pgs_nil pgs_cons pg_tup pi_list pi_tup pi_range1 ps_ret ps_expr ps_set ps_asg ps_if ps_while ps_for pss_nil pss_cons pss_one
open L3
/-- a def of a class -/
def inCls (i : Nat) : Stmt → Stmt
  | .ClassDef _ _ _ body _ _ _ _ _ _ _ => body.getD i (.Pass ⟨0, 0, 0, 0⟩)
  | _ => .Pass ⟨0, 0, 0, 0⟩
theorem putF_ne {f g : Str} {v x : V} {r : List (Str × V)} (h : g ≠ f) : putF f v ((g, x) :: r) = (g, x) :: putF f v r := if_neg h
section
variable {P : Program} {w : World} {K : PySem.W.Frag} {mg : Str → Option Value} {base : Heap} {f : Addr} {fd : FuncData}
abbrev pFnI : Stmt := (inCls 0 (top9 3))
def spFnI (C : Addr) : Sp := fun vs H Q _ => ∃ (x dx : Addr) (v1 v2 v3 v4 v5 v6 : V), vs = [.ref x, v1, v2, v3, v4, v5, v6] ∧ H x = some (.ins C dx []) ∧ ∀ H', (∀ p, p ≠ x → H' p = H p) → H' x = some (.ins C dx [("name", v1), ("params", v2), ("defaults", v3), ("code", v4), ("around", v5), ("gives", v6)]) → Q .non H'
theorem scFnI : FnScope ["self", "name", "params", "defaults", "code", "around", "gives"] ["self", "name", "params", "defaults", "code", "around", "gives"] (defScope pFnI) := ⟨rfl, rfl, rfl, by decide +kernel, rfl, by decide +kernel, by decide +kernel⟩
theorem ok_FnI {c : Cl9} (z : Cs9 K c) (F : Fun K "__init__" "Function.__init__" pFnI f fd) : FnOk P w K mg base CX0 1 f fd ["self", "name", "params", "defaults", "code", "around", "gives"] (spFnI c.F) := by
  refine F.okI scFnI (fun vs H Q E h => ?_) (fun cdv A outer s H vs Q E hr h => ?_)
  · obtain ⟨_, _, _, _, _, _, _, _, rfl, _⟩ := h; rfl
  obtain ⟨x, dx, v1, v2, v3, v4, v5, v6, rfl, hx, q⟩ := h
  refine ⟨_, (pss_cons (L3.ps_fld (pv 0) (pv 1))
      (pss_cons (L3.ps_fld (pv 0) (pv 2))
      (pss_cons (L3.ps_fld (pv 0) (pv 3))
      (pss_cons (L3.ps_fld (pv 0) (pv 4))
      (pss_cons (L3.ps_fld (pv 0) (pv 5))
      (pss_one (L3.ps_fld (pv 0) (pv 6)))))))), ?_⟩
  have e1 : putF "name" v1 ([] : List (Str × V)) = ([("name", v1)] : List (Str × V)) := by rfl
  have e2 : putF "params" v2 ([("name", v1)] : List (Str × V)) = ([("name", v1), ("params", v2)] : List (Str × V)) := by rw [putF_ne (by decide +kernel)]; rfl
  have e3 : putF "defaults" v3 ([("name", v1), ("params", v2)] : List (Str × V)) = ([("name", v1), ("params", v2), ("defaults", v3)] : List (Str × V)) := by rw [putF_ne (by decide +kernel), putF_ne (by decide +kernel)]; rfl
  have e4 : putF "code" v4 ([("name", v1), ("params", v2), ("defaults", v3)] : List (Str × V)) = ([("name", v1), ("params", v2), ("defaults", v3), ("code", v4)] : List (Str × V)) := by rw [putF_ne (by decide +kernel), putF_ne (by decide +kernel), putF_ne (by decide +kernel)]; rfl
  have e5 : putF "around" v5 ([("name", v1), ("params", v2), ("defaults", v3), ("code", v4)] : List (Str × V)) = ([("name", v1), ("params", v2), ("defaults", v3), ("code", v4), ("around", v5)] : List (Str × V)) := by rw [putF_ne (by decide +kernel), putF_ne (by decide +kernel), putF_ne (by decide +kernel), putF_ne (by decide +kernel)]; rfl
  have e6 : putF "gives" v6 ([("name", v1), ("params", v2), ("defaults", v3), ("code", v4), ("around", v5)] : List (Str × V)) = ([("name", v1), ("params", v2), ("defaults", v3), ("code", v4), ("around", v5), ("gives", v6)] : List (Str × V)) := by rw [putF_ne (by decide +kernel), putF_ne (by decide +kernel), putF_ne (by decide +kernel), putF_ne (by decide +kernel), putF_ne (by decide +kernel)]; rfl
  refine ⟨_, rfl, _, rfl, x, c.F, dx, _, rfl, hx, z.fc, z.f1, by decide, ?_⟩
  rw [e1]
  refine ⟨_, rfl, _, rfl, x, c.F, dx, _, rfl, upd_same, z.fc, z.f2, Nat.lt_of_lt_of_le (Nat.lt_succ_self 1) (by decide), ?_⟩
  rw [e2]
  refine ⟨_, rfl, _, rfl, x, c.F, dx, _, rfl, upd_same, z.fc, z.f3, Nat.lt_of_lt_of_le (Nat.lt_succ_self 2) (by decide), ?_⟩
  rw [e3]
  refine ⟨_, rfl, _, rfl, x, c.F, dx, _, rfl, upd_same, z.fc, z.f4, Nat.lt_of_lt_of_le (Nat.lt_succ_self 3) (by decide), ?_⟩
  rw [e4]
  refine ⟨_, rfl, _, rfl, x, c.F, dx, _, rfl, upd_same, z.fc, z.f5, Nat.lt_of_lt_of_le (Nat.lt_succ_self 4) (by decide), ?_⟩
  rw [e5]
  refine ⟨_, rfl, _, rfl, x, c.F, dx, _, rfl, upd_same, z.fc, z.f6, Nat.lt_of_lt_of_le (Nat.lt_succ_self 5) (by decide), ?_⟩
  rw [e6]
  exact q _ (fun p hp => by rw [upd_ne hp, upd_ne hp, upd_ne hp, upd_ne hp, upd_ne hp, upd_ne hp]) upd_same
abbrev pGvI : Stmt := (inCls 0 (top9 4))
def spGvI (C : Addr) : Sp := fun vs H Q _ => ∃ (x dx : Addr) (v1 : V), vs = [.ref x, v1] ∧ H x = some (.ins C dx []) ∧ ∀ H', (∀ p, p ≠ x → H' p = H p) → H' x = some (.ins C dx [("name", v1)]) → Q .non H'
theorem scGvI : FnScope ["self", "name"] ["self", "name"] (defScope pGvI) := ⟨rfl, rfl, rfl, by decide +kernel, rfl, by decide +kernel, by decide +kernel⟩
theorem ok_GvI {c : Cl9} (z : Cs9 K c) (F : Fun K "__init__" "Given.__init__" pGvI f fd) : FnOk P w K mg base CX0 1 f fd ["self", "name"] (spGvI c.G) := by
  refine F.okI scGvI (fun vs H Q E h => ?_) (fun cdv A outer s H vs Q E hr h => ?_)
  · obtain ⟨_, _, _, rfl, _⟩ := h; rfl
  obtain ⟨x, dx, v1, rfl, hx, q⟩ := h
  refine ⟨_, (pss_one (L3.ps_fld (pv 0) (pv 1))), ?_⟩
  have e1 : putF "name" v1 ([] : List (Str × V)) = ([("name", v1)] : List (Str × V)) := by rfl
  refine ⟨_, rfl, _, rfl, x, c.G, dx, _, rfl, hx, z.gc, z.g1, by decide, ?_⟩
  rw [e1]
  exact q _ (fun p hp => by rw [upd_ne hp]) upd_same
abbrev pKdI : Stmt := (inCls 0 (top9 5))
def spKdI (C : Addr) : Sp := fun vs H Q _ => ∃ (x dx : Addr) (v1 v2 v3 v4 : V), vs = [.ref x, v1, v2, v3, v4] ∧ H x = some (.ins C dx []) ∧ ∀ H', (∀ p, p ≠ x → H' p = H p) → H' x = some (.ins C dx [("name", v1), ("order", v2), ("fields", v3), ("is_given", v4)]) → Q .non H'
theorem scKdI : FnScope ["self", "name", "order", "fields", "is_given"] ["self", "name", "order", "fields", "is_given"] (defScope pKdI) := ⟨rfl, rfl, rfl, by decide +kernel, rfl, by decide +kernel, by decide +kernel⟩
theorem ok_KdI {c : Cl9} (z : Cs9 K c) (F : Fun K "__init__" "Kind.__init__" pKdI f fd) : FnOk P w K mg base CX0 1 f fd ["self", "name", "order", "fields", "is_given"] (spKdI c.Kd) := by
  refine F.okI scKdI (fun vs H Q E h => ?_) (fun cdv A outer s H vs Q E hr h => ?_)
  · obtain ⟨_, _, _, _, _, _, rfl, _⟩ := h; rfl
  obtain ⟨x, dx, v1, v2, v3, v4, rfl, hx, q⟩ := h
  refine ⟨_, (pss_cons (L3.ps_fld (pv 0) (pv 1))
      (pss_cons (L3.ps_fld (pv 0) (pv 2))
      (pss_cons (L3.ps_fld (pv 0) (pv 3))
      (pss_one (L3.ps_fld (pv 0) (pv 4)))))), ?_⟩
  have e1 : putF "name" v1 ([] : List (Str × V)) = ([("name", v1)] : List (Str × V)) := by rfl
  have e2 : putF "order" v2 ([("name", v1)] : List (Str × V)) = ([("name", v1), ("order", v2)] : List (Str × V)) := by rw [putF_ne (by decide +kernel)]; rfl
  have e3 : putF "fields" v3 ([("name", v1), ("order", v2)] : List (Str × V)) = ([("name", v1), ("order", v2), ("fields", v3)] : List (Str × V)) := by rw [putF_ne (by decide +kernel), putF_ne (by decide +kernel)]; rfl
  have e4 : putF "is_given" v4 ([("name", v1), ("order", v2), ("fields", v3)] : List (Str × V)) = ([("name", v1), ("order", v2), ("fields", v3), ("is_given", v4)] : List (Str × V)) := by rw [putF_ne (by decide +kernel), putF_ne (by decide +kernel), putF_ne (by decide +kernel)]; rfl
  refine ⟨_, rfl, _, rfl, x, c.Kd, dx, _, rfl, hx, z.kc, z.k1, by decide, ?_⟩
  rw [e1]
  refine ⟨_, rfl, _, rfl, x, c.Kd, dx, _, rfl, upd_same, z.kc, z.k2, Nat.lt_of_lt_of_le (Nat.lt_succ_self 1) (by decide), ?_⟩
  rw [e2]
  refine ⟨_, rfl, _, rfl, x, c.Kd, dx, _, rfl, upd_same, z.kc, z.k3, Nat.lt_of_lt_of_le (Nat.lt_succ_self 2) (by decide), ?_⟩
  rw [e3]
  refine ⟨_, rfl, _, rfl, x, c.Kd, dx, _, rfl, upd_same, z.kc, z.k4, Nat.lt_of_lt_of_le (Nat.lt_succ_self 3) (by decide), ?_⟩
  rw [e4]
  exact q _ (fun p hp => by rw [upd_ne hp, upd_ne hp, upd_ne hp, upd_ne hp]) upd_same
end
end GS
set_option Elab.async false
set_option linter.all false
set_option maxRecDepth 100000
set_option maxHeartbeats 4000000
namespace GS
open PySem PyProof.Rows
open L2 hiding pe_int pe_bl pe_non pe_str pv pe_glob pe_bltn pe_op pe_cmpR pe_one pe_and pe_ifExp pe_ix po_none po_some pe_slice pa_nil pa_cons pe_lst pe_tup pe_dnewK pe_callB pe_callTy pe_bm pt_cmpR pt_val pt_not pw_and1 pw_or1 pw_and pw_or pg_name pgs_nil pgs_cons pg_tup pi_list pi_tup pi_range1 ps_ret ps_expr ps_set ps_asg ps_if ps_while ps_for pss_nil pss_cons pss_one
open L3
abbrev pAdd : Stmt := top9 7
abbrev pTh : Stmt := top9 8
abbrev pKn : Stmt := top9 9
abbrev pIsC : Stmt := top9 12
theorem decS (x y : Str) : decide (V.str x = V.str y) = decide (x = y) := decide_eq_decide.mpr ⟨V.str.inj, fun e => by rw [e]⟩
def rNth (K : PySem.W.Frag) : R2 := fun x y H Q => ∃ (i : Nat) (ds : List D) (d : D), y = .int (i : Nat) ∧ At K H (.tup ds) x ∧ ds[i]? = some d ∧ ∀ v, At K H d v → Q v H
theorem ixD {X : Cx} : IxR X (rNth X.K) := by
  intro value slice pins s σ H x y v u Q I rx ry h hs
  obtain ⟨i, ds, d, rfl, hx, hd, q⟩ := h
  obtain ⟨p, vs, w, rfl, h2, h3, h4⟩ := At.ix (i := i) hx hd
  exact ix_tup value slice pins s σ H _ _ v u Q I rx ry ⟨p, vs, _, w, rfl, rfl, h2, h3, q w h4⟩ hs
theorem pe_nth {X : Cx} {e : Expr} {te : TE} {n : Int} {j : Nat} {p pos : Pos} (he : LE X e te) : LE X (.Subscript e (.Constant (.int n) j p) pos) (tOp (rNth X.K) te (tC (.int n))) := pe_ix ixD he pe_int (fun _ _ => rfl)
theorem wF_things (a b : V) (l g : Addr) : (wF a b l g).lookup ("things" : Str) = some (.ref l) := rfl
theorem wF_given (a b : V) (l g : Addr) : (wF a b l g).lookup ("given" : Str) = some (.ref g) := rfl
theorem kdF_order (a b c d : V) : (kdF a b c d).lookup ("order" : Str) = some b := rfl
theorem AtAll.one1 {K : PySem.W.Frag} {H : Hp} {a : D} {x : V} (h : At K H a x) : AtAll K H [a] [x] := AtAll_cons.mpr ⟨x, [], rfl, h, AtAll_nil.mpr rfl⟩
theorem AtAll2 {K : PySem.W.Frag} {H : Hp} {a b : D} {x y : V} (h : At K H a x) (h2 : At K H b y) : AtAll K H [a, b] [x, y] := AtAll_cons.mpr ⟨x, _, rfl, h, AtAll.one1 h2⟩
section
variable {P : Program} {w : World} {K : PySem.W.Frag} {mg : Str → Option Value} {base : Heap} {f : Addr} {fd : FuncData} {c : Cl9}
/-! ### added -/
def spAdd (K : PySem.W.Frag) (c : Cl9) : Sp := fun vs H Q _ => ∃ (W l g : Addr) (os : List (Option (List Nat))) (o : Option (List Nat)) (v : V), vs = [.ref W, v] ∧ WAt K c H W l g os ∧ ObjAt K c H o v ∧ os.length ≤ 1000 ∧
  ∀ r H', But9 l H H' → WAt K c H' W l g (os ++ [o]) → At K H' (thD os.length) r → Q r H'
theorem scAdd : FnScope ["world", "thing"] ["world", "thing"] (defScope pAdd) := ⟨rfl, rfl, rfl, by decide +kernel, rfl, by decide +kernel, by decide +kernel⟩
theorem ok_Add (g : Glb9 mg) (z : Cs9 K c) (F : Fun K "added" "added" pAdd f fd) : FnOk P w K mg base CX0 1 f fd ["world", "thing"] (spAdd K c) := by
  refine F.okI scAdd (fun vs H Q E h => ?_) (fun cdv A outer s H vs Q E hr h => ?_)
  · obtain ⟨_, _, _, _, _, _, rfl, _⟩ := h; rfl
  obtain ⟨W, l, gv, os, o, v, rfl, hw, hv, hl, q⟩ := h
  refine ⟨_, pss_cons (ps_expr (pe_bm PySem.F.plainAttrs_list PySem.F.slot_list_append PySem.F.type_list_append mt_append (L3.pe_fld (pv 0)) (pa_cons (pv 1) pa_nil)))
    (pss_one (ps_ret (pe_tup (pa_cons pe_str (pa_cons (pe_op op_sub (pe_callB call_len_seq rfl g.nLen b9Len (pa_cons (L3.pe_fld (pv 0)) pa_nil)) pe_int) pa_nil))))), ?_⟩
  obtain ⟨⟨dx, a, b, h1⟩, tvs, h2, h3, h4⟩ := id hw
  refine ⟨_, rfl, W, c.W, dx, _, _, rfl, h1, z.wc, z.w3, wF_things .., .inl ⟨rfl, tvs, SqL.of h2⟩, _, rfl, l, tvs, v, rfl, rfl, h2, small1000 (by omega), ?_⟩
  have hw' := hw.add h2 hv
  have hb : But9 l H (upd H l (.lst (tvs ++ [v]))) := But9.put H _
  have h2' : upd H l (.lst (tvs ++ [v])) l = some (.lst (tvs ++ [v])) := upd_same
  revert hw' hb h2'
  generalize upd H l (.lst (tvs ++ [v])) = H1
  intro hw' hb h2'
  obtain ⟨⟨dx', a', b', h1'⟩, _⟩ := id hw'
  refine ⟨_, rfl, W, c.W, dx', _, _, rfl, h1', z.wc, z.w3, wF_things .., l, _, rfl, .inl (SqL.of h2'), _, _, rfl, rfl, ?_⟩
  refine ⟨by show 2 ≤ sizeLine; decide, fun p hp => ?_⟩
  have s1 : Same H1 (upd H1 p (.tup [.str "thing", .int (((tvs ++ [v]).length : Nat) - 1)])) := same_new hp _
  refine q _ _ (hb.trans (Same.but l s1)) (hw'.same s1) (At.new hp (AtAll2 (At_str.mpr rfl) (At_int.mpr (congrArg V.int ?_))))
  rw [List.length_append, List.length_singleton, h3]
  omega
/-! ### thing_of -/
def spTh (K : PySem.W.Frag) (c : Cl9) : Sp := fun vs H Q _ => ∃ (W l g : Addr) (os : List (Option (List Nat))) (x : V) (k : Str) (r : List D), vs = [.ref W, x] ∧ WAt K c H W l g os ∧ At K H (.tup (.str k :: r)) x ∧
  ((∃ (i : Nat) (o : Option (List Nat)), k = "thing" ∧ r = [.int (i : Nat)] ∧ os[i]? = some o ∧ ∀ v, ObjAt K c H o v → Q v H) ∨ (k ≠ "thing" ∧ Q .non H))
theorem scTh : FnScope ["world", "a"] ["world", "a"] (defScope pTh) := ⟨rfl, rfl, rfl, by decide +kernel, rfl, by decide +kernel, by decide +kernel⟩
theorem ok_Th (z : Cs9 K c) (F : Fun K "thing_of" "thing_of" pTh f fd) : FnOk P w K mg base CX0 1 f fd ["world", "a"] (spTh K c) := by
  refine F.okI scTh (fun vs H Q E h => ?_) (fun cdv A outer s H vs Q E hr h => ?_)
  · obtain ⟨_, _, _, _, _, _, _, rfl, _⟩ := h; rfl
  obtain ⟨W, l, gv, os, x, k, r, rfl, hw, hx, q⟩ := h
  refine ⟨_, pss_one (ps_ret (pe_ifExp (pt_cmpR op_eq (pe_nth (pv 1)) pe_str (nomark _)) (pe_ix (r := rIxL K) ix_list (L3.pe_fld (pv 0)) (pe_nth (pv 1)) (fun _ _ => rfl)) pe_non)), ?_⟩
  obtain ⟨⟨dx, a, b, h1⟩, tvs, h2, h3, h4⟩ := id hw
  refine ⟨_, rfl, 0, _, _, rfl, hx, rfl, fun yk hyk => ?_⟩
  rw [At_str.mp hyk]
  refine ⟨rfl, _, rfl, ?_⟩
  rw [decS]
  rcases q with ⟨i, o, rfl, rfl, ho, q⟩ | ⟨hk, q⟩
  · rw [decide_eq_true rfl]
    have hi : i < tvs.length := by rw [h3]; exact (List.getElem?_eq_some_iff.mp ho).1
    refine iteT ⟨_, rfl, W, c.W, dx, _, _, rfl, h1, z.wc, z.w3, wF_things .., _, rfl, 1, _, _, rfl, hx, rfl, fun yi hyi => ?_⟩
    rw [At_int.mp hyi]
    have ev : tvs[i]? = some tvs[i] := List.getElem?_eq_getElem hi
    obtain ⟨o', ho', hv⟩ := h4 i _ ev
    rw [ho] at ho'
    injection ho' with ho'
    subst ho'
    exact ⟨l, tvs, i, tvs[i], rfl, rfl, SqL.of h2, atI_nat ev, q _ hv⟩
  · rw [decide_eq_false hk]
    exact iteF q
/-! ### known -/
def spKn (K : PySem.W.Frag) (c : Cl9) : Sp := fun vs H Q _ => ∃ (W l g : Addr) (os : List (Option (List Nat))) (gv : List (Str × Nat)) (n : Str) (i : Nat), vs = [.ref W, .str n] ∧ WAt K c H W l g os ∧ GivAt K H g gv ∧ (n, i) ∈ gv ∧ ∀ v, At K H (thD i) v → Q v H
theorem scKn : FnScope ["world", "name"] ["world", "name"] (defScope pKn) := ⟨rfl, rfl, rfl, by decide +kernel, rfl, by decide +kernel, by decide +kernel⟩
theorem ok_Kn (z : Cs9 K c) (F : Fun K "known" "known" pKn f fd) : FnOk P w K mg base CX0 1 f fd ["world", "name"] (spKn K c) := by
  refine F.okI scKn (fun vs H Q E h => ?_) (fun cdv A outer s H vs Q E hr h => ?_)
  · obtain ⟨_, _, _, _, _, _, _, rfl, _⟩ := h; rfl
  obtain ⟨W, l, gd, os, gv, n, i, rfl, hw, hg, hn, q⟩ := h
  refine ⟨_, pss_one (ps_ret (.mk (L2.pe_dget1 (hu_of hr) (LE.out (L3.pe_fld (pv 0))) (LE.out (pv 1)) ⟨rfl, rfl, rfl, rfl⟩))), ?_⟩
  obtain ⟨⟨dx, a, b, h1⟩, _⟩ := id hw
  obtain ⟨kvs, hk, _, hv⟩ := hg
  obtain ⟨v, e, hA⟩ := hv n i hn
  refine ⟨_, rfl, W, c.W, dx, _, _, rfl, h1, z.wc, z.w4, wF_given .., gd, rfl, .inl ⟨kvs, .inl hk⟩, _, rfl, _, DGet.k (k := .inr n) hk, ?_⟩
  rw [e]
  exact q v hA
/-! ### is_class -/
def spIsC (K : PySem.W.Frag) (c : Cl9) : Sp := fun vs H Q _ => ∃ (W l g : Addr) (os : List (Option (List Nat))) (x : V) (k : Str) (r : List D), vs = [.ref W, x] ∧ WAt K c H W l g os ∧ At K H (.tup (.str k :: r)) x ∧
  ((∃ (i : Nat) (o : Option (List Nat)), k = "thing" ∧ r = [.int (i : Nat)] ∧ os[i]? = some o ∧ Q (.bl o.isSome) H) ∨ (k ≠ "thing" ∧ Q (.bl false) H))
theorem scIsC : FnScope ["world", "a"] ["world", "a"] (defScope pIsC) := ⟨rfl, rfl, rfl, by decide +kernel, rfl, by decide +kernel, by decide +kernel⟩
theorem ok_IsC (g : Glb9 mg) (z : Cs9 K c) (hK : mg "Kind" = some (.ref c.Kd)) (F : Fun K "is_class" "is_class" pIsC f fd) (dT : Def P w K mg base "thing_of" ["world", "a"] 1 (spTh K c)) : FnOk P w K mg base CX0 2 f fd ["world", "a"] (spIsC K c) := by
  refine F.okI scIsC (fun vs H Q E h => ?_) (fun cdv A outer s H vs Q E hr h => ?_)
  · obtain ⟨_, _, _, _, _, _, _, rfl, _⟩ := h; rfl
  obtain ⟨W, l, gv, os, x, k, r, rfl, hw, hx, q⟩ := h
  refine ⟨_, pss_one (ps_ret (pe_callB call_isO rfl g.nIsi b9Isi (pa_cons (L3.pe_def dT hr (by decide) rfl (pa_cons (pv 0) (pa_cons (pv 1) pa_nil))) (pa_cons (pe_glob (v := .ref c.Kd) rfl hK rfl) pa_nil)))), ?_⟩
  refine ⟨_, rfl, _, rfl, W, l, gv, os, x, k, r, rfl, hw, hx, ?_⟩
  rcases q with ⟨i, o, rfl, rfl, ho, q⟩ | ⟨hk, q⟩
  · refine .inl ⟨i, o, rfl, rfl, ho, fun v hv => ?_⟩
    cases o with
    | none =>
      obtain ⟨p, C, dx, fs, rfl, hp, hC⟩ := hv
      rcases hC with rfl | rfl
      · exact ⟨_, c.Kd, false, rfl, .inl ⟨p, _, dx, fs, rfl, hp, z.iF, z.tF⟩, q⟩
      · exact ⟨_, c.Kd, false, rfl, .inl ⟨p, _, dx, fs, rfl, hp, z.iG, z.tG⟩, q⟩
    | some ns =>
      obtain ⟨p, dx, v1, vo, v3, v4, rfl, hp, _⟩ := hv
      exact ⟨_, c.Kd, true, rfl, .inl ⟨p, _, dx, _, rfl, hp, z.iK, z.tK⟩, q⟩
  · exact .inr ⟨hk, _, c.Kd, false, rfl, .inr ⟨rfl, z.tN⟩, q⟩
end
end GS
set_option Elab.async false
set_option linter.all false
set_option maxRecDepth 100000
set_option maxHeartbeats 4000000
namespace GS
open PySem PyProof.Rows
open L2 hiding pe_int pe_bl pe_non pe_str pv pe_glob pe_bltn pe_op pe_cmpR pe_one pe_and pe_ifExp pe_ix po_none po_some pe_slice pa_nil pa_cons pe_lst pe_tup pe_dnewK pe_callB pe_callTy pe_bm pt_cmpR pt_val pt_not pw_and1 pw_or1 pw_and pw_or pg_name pgs_nil pgs_cons pg_tup pi_list pi_tup pi_range1 ps_ret ps_expr ps_set ps_asg ps_if ps_while ps_for pss_nil pss_cons pss_one
open L3
abbrev pFn : Stmt := top9 10
abbrev pNew : Stmt := top9 11
abbrev pCO : Stmt := top9 21
theorem b9Dict : bootBuiltins "dict" = some (.type "dict") := by decide +kernel
/-! ### dict(d) -/
def rDictD : List V → Hp → VK → Prop := fun xs H Q => ∃ (p : Addr) (kvs : List (Key × V)), xs = [.ref p] ∧ H p = some (.dK kvs) ∧ ∀ l, H l = none → Q (.ref l) (upd H l (.dK kvs))
theorem call_dictD {X : Cx} : CallR X (.type "dict") rDictD := by
  intro pins s σ H xs us Q I r h
  obtain ⟨p, kvs, rfl, hp, q⟩ := h
  obtain ⟨u, rfl, ru⟩ := vals1 r
  cases ru
  obtain ⟨hz, hs, vs, hkv, hd⟩ := (show ObjOk X.prog X.w H s.heap p (.dK kvs) from I.hok p _ hp)
  have hl : kvs.length = vs.length := hkv.length
  refine kt_call_dict hs hd (by omega) fun h' hd' hsb => ?_
  have keep : ∀ b o, s.heap.get? b = some o → h'.get? b = some o := fun b o e => (hsb.2 b (Nat.ne_of_lt (Heap.lt_size e))).trans (Heap.get?_push_of_some _ e)
  refine ⟨.ref s.heap.objs.size, _, I.laid (t' := s.toks) (o := .dK kvs) keep (Nat.le_refl _) ⟨hz, ?_, vs, hkv, hd'⟩, rfl, q _ (I.hok.fresh (Nat.le_refl _))⟩
  exact beq_false_of_ne (Nat.ne_of_gt I.big)
theorem new_ins {H1 : Hp} {C x dx : Addr} (hx : H1 x = none) (hd : H1 dx = none) (hne : dx ≠ x) : Same H1 (upd (upd H1 dx (.own x)) x (.ins C dx [])) ∧ upd (upd H1 dx (.own x)) x (.ins C dx []) x = some (.ins C dx []) := by
  refine ⟨(same_new hd _).trans (same_new ?_ _), upd_same⟩
  rw [upd_ne (Ne.symm hne)]; exact hx
theorem le_imp {X : Cx} {e : Expr} {t t' : TE} (h : LE X e t) (hi : ∀ σ H Q, t' σ H Q → t σ H Q) : LE X e t' := .mk fun pins s σ H Q I q => h.out pins s σ H Q I (hi σ H Q q)
section
variable {P : Program} {w : World} {K : PySem.W.Frag} {mg : Str → Option Value} {base : Heap} {f : Addr} {fd : FuncData} {c : Cl9}
/-! ### function -/
def spFn (K : PySem.W.Frag) (c : Cl9) : Sp := fun vs H Q _ => ∃ (W l g : Addr) (os : List (Option (List Nat))) (v1 v2 v3 v4 v5 v6 : V), vs = [.ref W, v1, v2, v3, v4, v5, v6] ∧ WAt K c H W l g os ∧ os.length ≤ 1000 ∧
  ∀ r H', But9 l H H' → WAt K c H' W l g (os ++ [none]) → At K H' (thD os.length) r → Q r H'
theorem scFn : FnScope ["world", "name", "params", "defaults", "code", "around", "gives"] ["world", "name", "params", "defaults", "code", "around", "gives"] (defScope pFn) := ⟨rfl, rfl, rfl, by decide +kernel, rfl, by decide +kernel, by decide +kernel⟩
theorem ok_Fn (M : MkDef P w K mg base "Function" c.F ["self", "name", "params", "defaults", "code", "around", "gives"] 1 (spFnI c.F)) (F : Fun K "function" "function" pFn f fd) (dA : Def P w K mg base "added" ["world", "thing"] 1 (spAdd K c)) : FnOk P w K mg base CX0 3 f fd ["world", "name", "params", "defaults", "code", "around", "gives"] (spFn K c) := by
  refine F.okI scFn (fun vs H Q E h => ?_) (fun cdv A outer s H vs Q E hr h => ?_)
  · obtain ⟨_, _, _, _, _, _, _, _, _, _, rfl, _⟩ := h; rfl
  obtain ⟨W, l, gv, os, v1, v2, v3, v4, v5, v6, rfl, hw, hl, q⟩ := h
  refine ⟨_, pss_one (ps_ret (L3.pe_def dA hr (by decide) rfl (pa_cons (pv 0) (pa_cons (L3.pe_mk M hr (by decide) rfl (pa_cons (pv 1) (pa_cons (pv 2) (pa_cons (pv 3) (pa_cons (pv 4) (pa_cons (pv 5) (pa_cons (pv 6) pa_nil))))))) pa_nil)))), ?_⟩
  refine ⟨_, rfl, _, rfl, _, rfl, _, rfl, _, rfl, _, rfl, _, rfl, fun x dx hx hdx hne => ?_⟩
  obtain ⟨s1, c1⟩ := new_ins (C := c.F) hx hdx hne
  revert s1 c1
  generalize upd (upd H dx (.own x)) x (.ins c.F dx []) = H1
  intro s1 c1
  refine ⟨x, dx, v1, v2, v3, v4, v5, v6, rfl, c1, fun H2 hB hx2 => ⟨rfl, ?_⟩⟩
  have s2 : Same H H2 := fun p o e => by
    rw [hB p (fun y => by rw [y, hx] at e; cases e)]; exact s1 _ _ e
  refine ⟨W, l, gv, os, none, _, rfl, hw.same s2, ⟨x, c.F, dx, _, rfl, hx2, .inl rfl⟩, hl, fun r H3 b3 w3 a3 => q r H3 ((Same.but l s2).trans b3) w3 a3⟩
/-! ### new_class -/
def spNew (K : PySem.W.Frag) (c : Cl9) : Sp := fun vs H Q _ => ∃ (W l g : Addr) (os : List (Option (List Nat))) (v1 v2 v4 : V) (d : Addr) (kvs : List (Key × V)) (ns : List Nat), vs = [.ref W, v1, v2, .ref d, v4] ∧ WAt K c H W l g os ∧ os.length ≤ 1000 ∧
  RowAt K H (ns.map thD) v2 ∧ ns.length ≤ 1000 ∧ H d = some (.dK kvs) ∧ ∀ r H', But9 l H H' → WAt K c H' W l g (os ++ [some (os.length :: ns)]) → At K H' (thD os.length) r → Q r H'
/-- (own,) + tuple(behind) -/
def tOwn (K : PySem.W.Frag) : TE := fun σ H Q => ∃ (x5 x2 : V) (d : D) (ds : List D), σ[5]? = some (some x5) ∧ σ[2]? = some (some x2) ∧ At K H d x5 ∧ RowAt K H ds x2 ∧ ds.length ≤ 1000 ∧ ∀ v H', Same H H' → At K H' (.tup (d :: ds)) v → Q v H'
theorem scNew : FnScope ["world", "name", "behind", "fields", "is_given", "own"] ["world", "name", "behind", "fields", "is_given"] (defScope pNew) := ⟨rfl, rfl, rfl, by decide +kernel, rfl, by decide +kernel, by decide +kernel⟩
theorem ok_New (g : Glb9 mg) (z : Cs9 K c) (M : MkDef P w K mg base "Kind" c.Kd ["self", "name", "order", "fields", "is_given"] 1 (spKdI c.Kd)) (F : Fun K "new_class" "new_class" pNew f fd) (dA : Def P w K mg base "added" ["world", "thing"] 1 (spAdd K c)) : FnOk P w K mg base CX0 3 f fd ["world", "name", "behind", "fields", "is_given"] (spNew K c) := by
  refine F.okI scNew (fun vs H Q E h => ?_) (fun cdv A outer s H vs Q E hr h => ?_)
  · obtain ⟨_, _, _, _, _, _, _, _, _, _, rfl, _⟩ := h; rfl
  obtain ⟨W, l, gv, os, v1, v2, v4, d, kvs, ns, rfl, hw, hl, hb, hn, hd, q⟩ := h
  refine ⟨_, pss_cons (ps_set (i := 5) scNew.nd rfl (Or.inl rfl) (pe_tup (pa_cons pe_str (pa_cons (pe_callB call_len_seq rfl g.nLen b9Len (pa_cons (L3.pe_fld (pv 0)) pa_nil)) pa_nil))))
    (pss_one (ps_ret (L3.pe_def dA hr (by decide) rfl (pa_cons (pv 0) (pa_cons (L3.pe_mk M hr (by decide) rfl (pa_cons (pv 1) (pa_cons (le_imp (t' := tOwn K) (pe_op op_catT (pe_tup (pa_cons (pv 5) pa_nil)) (pe_callTy call_tuple_of rfl g.nTuple b9Tuple (pa_cons (pv 2) pa_nil))) ?cat) (pa_cons (pe_callTy call_dictD rfl g.nDict b9Dict (pa_cons (pv 3) pa_nil)) (pa_cons (pv 4) pa_nil))))) pa_nil))))), ?main⟩
  case cat =>
    rintro σ H Q ⟨x5, x2, d, ds, e5, e2, h5, hr2, hl, q⟩
    refine ⟨x5, e5, by show 1 ≤ sizeLine; decide, fun p hp => ?_⟩
    have s1 : Same H (upd H p (.tup [x5])) := same_new hp _
    have a1 : SqT K (upd H p (.tup [x5])) p [x5] := SqT.of upd_same
    revert s1 a1
    generalize upd H p (.tup [x5]) = H1
    intro s1 a1
    obtain ⟨pb, vb, rfl, hq, hA⟩ := hr2
    have lb := hA.len
    have fin : ∀ (b : Addr) (H2 : Hp), Same H1 H2 → SqT K H2 b vb → rCatT K (.ref p) (.ref b) H2 Q := fun b H2 s2 hb => by
      have s12 := s1.trans s2
      refine ⟨p, b, [x5], vb, rfl, rfl, Same.seqT s2 a1, hb, by simp, small (by rw [List.length_singleton]; omega), fun e => ?_, fun e r hr => ?_⟩
      · subst e
        have ed : ds = [] := List.length_eq_zero_iff.mp (by simpa using lb.symm)
        subst ed
        exact q _ _ s12 (At_tup.mpr ⟨p, _, rfl, Same.seqT s2 a1, AtAll.one1 (At.same s12 _ _ h5)⟩)
      · have s3 : Same H2 (upd H2 r (.tup ([x5] ++ vb))) := same_new hr _
        exact q _ _ (s12.trans s3) (At_tup.mpr ⟨r, _, rfl, SqT.of upd_same, AtAll_cons.mpr ⟨_, _, rfl, At.same (s12.trans s3) _ _ h5, AtAll.same (s12.trans s3) _ _ hA⟩⟩)
    refine ⟨_, e2, pb, vb, rfl, ?_⟩
    rcases hq with hq | hq
    · exact .inl ⟨s1.seq hq, fun b hb => fin b _ (same_new hb _) (SqT.of upd_same)⟩
    · exact .inr ⟨Same.seqT s1 hq, fin pb H1 (Same.refl _) (Same.seqT s1 hq)⟩
  case main =>
    obtain ⟨⟨dx, a, b, h1⟩, tvs, h2, h3, h4⟩ := id hw
    refine ⟨_, rfl, W, c.W, dx, _, _, rfl, h1, z.wc, z.w3, wF_things .., l, tvs, rfl, .inl (SqL.of h2), by show 2 ≤ sizeLine; decide, fun p hp => ?_⟩
    have s1 : Same H (upd H p (.tup [.str "thing", .int (tvs.length : Nat)])) := same_new hp _
    have a1 : At K (upd H p (.tup [.str "thing", .int (tvs.length : Nat)])) (thD os.length) (.ref p) := At.new hp (AtAll2 (At_str.mpr rfl) (At_int.mpr (by rw [h3])))
    revert s1 a1
    generalize upd H p (.tup [.str "thing", .int (tvs.length : Nat)]) = H1
    intro s1 a1
    refine ⟨_, rfl, _, rfl, _, _, thD os.length, ns.map thD, rfl, rfl, a1, hb.same s1, by rw [List.length_map]; exact hn, fun vo H2 s2 hvo => ?_⟩
    have s12 := s1.trans s2
    refine ⟨_, rfl, d, kvs, rfl, s12 _ _ hd, fun dn hdn => ?_⟩
    have s3 : Same H2 (upd H2 dn (.dK kvs)) := same_new hdn _
    revert s3
    generalize upd H2 dn (.dK kvs) = H3
    intro s3
    have s13 := s12.trans s3
    refine ⟨_, rfl, fun x dx' hx hdx hne => ?_⟩
    obtain ⟨s4, c4⟩ := new_ins (C := c.Kd) hx hdx hne
    revert s4 c4
    generalize upd (upd H3 dx' (.own x)) x (.ins c.Kd dx' []) = H4
    intro s4 c4
    refine ⟨x, dx', v1, vo, .ref dn, v4, rfl, c4, fun H5 hB hx5 => ⟨rfl, ?_⟩⟩
    have s5 : Same H3 H5 := fun p o e => by
      rw [hB p (fun y => by rw [y, hx] at e; cases e)]; exact s4 _ _ e
    have s15 := s13.trans s5
    refine ⟨W, l, gv, os, some (os.length :: ns), _, rfl, hw.same s15, ⟨x, dx', v1, vo, .ref dn, v4, rfl, hx5, At.same (s3.trans s5) _ _ hvo⟩, hl, fun r H6 b6 w6 a6 => q r H6 ((Same.but l s15).trans b6) w6 a6⟩
/-! ### class_of -/
theorem scCO : FnScope ["world", "name", "order", "fields"] ["world", "name", "order", "fields"] (defScope pCO) := ⟨rfl, rfl, rfl, by decide +kernel, rfl, by decide +kernel, by decide +kernel⟩
def spCO (K : PySem.W.Frag) (c : Cl9) : Sp := fun vs H Q _ => ∃ (W l g : Addr) (os : List (Option (List Nat))) (v1 v2 : V) (d : Addr) (kvs : List (Key × V)) (ns : List Nat), vs = [.ref W, v1, v2, .ref d] ∧ WAt K c H W l g os ∧ os.length ≤ 1000 ∧
  RowAt K H (ns.map thD) v2 ∧ ns.length ≤ 1000 ∧ H d = some (.dK kvs) ∧ ∀ r H', But9 l H H' → WAt K c H' W l g (os ++ [some (os.length :: ns)]) → At K H' (thD os.length) r → Q r H'
theorem ok_CO (F : Fun K "class_of" "class_of" pCO f fd) (dN : Def P w K mg base "new_class" ["world", "name", "behind", "fields", "is_given"] 3 (spNew K c)) : FnOk P w K mg base CX0 4 f fd ["world", "name", "order", "fields"] (spCO K c) := by
  refine F.okI scCO (fun vs H Q E h => ?_) (fun cdv A outer s H vs Q E hr h => ?_)
  · obtain ⟨_, _, _, _, _, _, _, _, _, rfl, _⟩ := h; rfl
  obtain ⟨W, l, gv, os, v1, v2, d, kvs, ns, rfl, hw, hl, hb, hn, hd, q⟩ := h
  refine ⟨_, pss_one (ps_ret (L3.pe_def dN hr (by decide) rfl (pa_cons (pv 0) (pa_cons (pv 1) (pa_cons (pv 2) (pa_cons (pv 3) (pa_cons pe_bl pa_nil))))))), ?_⟩
  exact ⟨_, rfl, _, rfl, _, rfl, _, rfl, W, l, gv, os, v1, v2, _, d, kvs, ns, rfl, hw, hl, hb, hn, hd, q⟩
end
end GS
set_option Elab.async false
set_option linter.all false
namespace GS
section
variable {α : Type} [DecidableEq α]
def cnt (d : α) (l : List α) : Nat := l.countP fun e => decide (e = d)
theorem cnt_cons (d a : α) (l : List α) : cnt d (a :: l) = cnt d l + if a = d then 1 else 0 := by
  unfold cnt
  rw [List.countP_cons]
  by_cases h : a = d
  · simp [h]
  · simp [h]
theorem cnt_zero {d : α} : ∀ {l : List α}, d ∉ l → cnt d l = 0
  | [], _ => rfl
  | a :: l, h => by
    rw [cnt_cons, cnt_zero (fun z => h (List.mem_cons_of_mem _ z)), if_neg (fun z => h (by rw [z]; exact List.mem_cons_self))]
theorem cnt_pos {d : α} : ∀ {l : List α}, d ∈ l → 1 ≤ cnt d l
  | a :: l, h => by
    rw [cnt_cons]
    by_cases e : a = d
    · rw [if_pos e]; omega
    · have : d ∈ l := by
        cases h with
        | head => exact absurd rfl e
        | tail _ z => exact z
      have := cnt_pos this
      omega
theorem cnt_nodup {d : α} : ∀ {l : List α}, l.Nodup → cnt d l ≤ 1
  | [], _ => Nat.zero_le _
  | a :: l, h => by
    rw [List.nodup_cons] at h
    rw [cnt_cons]
    by_cases e : a = d
    · rw [if_pos e, cnt_zero (e ▸ h.1)]; exact Nat.le_refl _
    · rw [if_neg e]; exact cnt_nodup h.2
theorem nodup_cnt : ∀ {l : List α}, (∀ d ∈ l, cnt d l ≤ 1) → l.Nodup
  | [], _ => List.nodup_nil
  | a :: l, h => by
    have h1 := h a List.mem_cons_self
    rw [cnt_cons, if_pos rfl] at h1
    refine List.nodup_cons.mpr ⟨fun z => by have := cnt_pos z; omega, nodup_cnt fun d hd => ?_⟩
    have := h d (List.mem_cons_of_mem _ hd)
    rw [cnt_cons] at this
    omega
theorem twice_iff (l : List α) : (l.any fun d => decide (1 < cnt d l)) = !decide l.Nodup := by
  by_cases h : l.Nodup
  · rw [decide_eq_true h]
    refine Bool.eq_false_iff.mpr fun z => ?_
    obtain ⟨d, _, hd⟩ := List.any_eq_true.mp z
    have := of_decide_eq_true hd
    have := cnt_nodup (d := d) h
    omega
  · rw [decide_eq_false h]
    cases e : (l.any fun d => decide (1 < cnt d l)) with
    | true => rfl
    | false =>
      refine absurd (nodup_cnt fun d hd => ?_) h
      have := List.any_eq_false.mp e d hd
      simp at this
      omega
end
/-- an order by numbers of things: what stands behind a class of these elders -/
def behindOf (ordOf : Nat → List Nat) (es : List Nat) : Option (List Nat) := (mg (es.map ordOf ++ [es])).bind fun l => if l.length ≤ 39 then some l else none
theorem nodup_map {α β : Type} {f : α → β} (hf : ∀ x y, f x = f y → x = y) {l : List α} : (l.map f).Nodup ↔ l.Nodup := by
  induction l with
  | nil => simp
  | cons a l ih =>
    rw [List.map_cons, List.nodup_cons, List.nodup_cons, ih]
    refine and_congr_left fun _ => not_congr ?_
    rw [List.mem_map]
    exact ⟨fun ⟨x, hx, e⟩ => hf _ _ e ▸ hx, fun h => ⟨a, h, rfl⟩⟩
end GS
set_option Elab.async false
set_option linter.all false
set_option maxRecDepth 100000
set_option maxHeartbeats 4000000
namespace GS
open PySem PyProof.Rows
open L2 hiding pe_int pe_bl pe_non pe_str pv pe_glob pe_bltn pe_op pe_cmpR pe_one pe_and pe_ifExp pe_ix po_none po_some pe_slice pa_nil pa_cons pe_lst pe_tup pe_dnewK pe_callB pe_callTy pe_bm pt_cmpR pt_val pt_not pw_and1 pw_or1 pw_and pw_or pg_name pgs_nil pgs_cons pg_tup pi_list pi_tup pi_range1 ps_ret ps_expr ps_set ps_asg ps_if ps_while ps_for pss_nil pss_cons pss_one
open L3
section
variable {X : Cx}
/-! ### t.count(x) of trees -/
theorem map_D {pins : List (Addr × Obj)} {σ : L2.St} {H : Hp} {s : Shared} (I : Inv X pins σ H s) {d : D} {x : V} {v : Value} (rx : RelV x v) (hx : At X.K H d x) {ds : List D} {xs : List V} {its : List Value} (ha : AtAll X.K H ds xs) (rv : Vals xs its) (A : Around) (hu : ∀ e ∈ ds, A.units + dep e < cLine) :
    ∃ f : Value → Bool, (∀ u ∈ its, SeqAt.EqAt A s u v (f u)) ∧ its.map f = ds.map fun e => eqD e d := by
  classical
  have l1 := rv.length
  have l2 := ha.len
  have fact : ∀ (i : Nat) (u : Value), its[i]? = some u → ∃ e y, ds[i]? = some e ∧ RelV y u ∧ At X.K H e y := fun i u hu => by
    have hi : i < its.length := (List.getElem?_eq_some_iff.mp hu).1
    obtain ⟨e, he⟩ : ∃ e, ds[i]? = some e := ⟨ds[i]'(by omega), by simp⟩
    obtain ⟨y, hy, hy2⟩ := ha.get he
    obtain ⟨u', hu', ru⟩ := rv.get hy
    rw [hu] at hu'
    cases hu'
    exact ⟨e, y, he, ru, hy2⟩
  have val : ∀ (i : Nat) (u : Value) (e : D), its[i]? = some u → ds[i]? = some e → (decide (∃ (j : Nat) (e' : D), its[j]? = some u ∧ ds[j]? = some e' ∧ eqD e' d = true)) = eqD e d := fun i u e hu he => by
    rw [Bool.eq_iff_iff, decide_eq_true_eq]
    constructor
    · rintro ⟨j, e', hj, hj2, h⟩
      obtain ⟨e1, y1, k1, k2, k3⟩ := fact i u hu
      obtain ⟨e2, y2, l1, l2, l3⟩ := fact j u hj
      rw [he] at k1; cases k1
      rw [hj2] at l1; cases l1
      have ey := RelV.inj k2 l2
      subst ey
      have := At.one I _ _ _ k3 l3
      rw [this]; exact h
    · exact fun h => ⟨i, e, hu, he, h⟩
  refine ⟨fun u => decide (∃ (j : Nat) (e' : D), its[j]? = some u ∧ ds[j]? = some e' ∧ eqD e' d = true), fun u hu' => ?_, ?_⟩
  · obtain ⟨i, hi⟩ := List.mem_iff_getElem?.mp hu'
    obtain ⟨e, y, he, ry, hy⟩ := fact i u hi
    dsimp only
    rw [val i u e hi he]
    exact eqAt_D I (dep e) e d A y x u v (Nat.le_refl _) ry rx hy hx (hu e (List.mem_of_getElem? he))
  · refine List.ext_getElem? fun i => ?_
    rw [List.getElem?_map, List.getElem?_map]
    by_cases hi : i < its.length
    · have e1 : its[i]? = some its[i] := List.getElem?_eq_getElem hi
      obtain ⟨e, y, he, _⟩ := fact i _ e1
      rw [e1, he, Option.map_some, Option.map_some, val i _ e e1 he]
    · rw [List.getElem?_eq_none (by omega), List.getElem?_eq_none (by omega)]; rfl
def rCountT (K : PySem.W.Frag) : V → List V → Hp → VK → Prop := fun x vs H Q => ∃ (y : V) (d : D) (ds : List D), vs = [y] ∧ At K H (.tup ds) x ∧ At K H d y ∧ (∀ e ∈ ds, El e) ∧ El d ∧ Q (.int (cnt d ds : Nat)) H
theorem mt_countT {k : Nat} (hr : Room k X.A) : MtM X "tuple.count" (rCountT X.K) := by
  intro pins s σ H x vs v us Q I rx rv h
  obtain ⟨y, d, ds, rfl, hx, hy, he, hd, q⟩ := h
  obtain ⟨p, xs, rfl, hq, ha⟩ := At_tup.mp hx
  cases rx
  obtain ⟨u, rfl, ru⟩ := rv.one
  obtain ⟨its, r, pl, hz⟩ := I.tuple hq
  obtain ⟨f, f1, f2⟩ := map_D I ru hy ha r X.A.in1 (fun e h => by have := hr.units; have := (he e h).dep; show X.A.units + 1 + _ < _; omega)
  obtain ⟨⟨cls, dd, data, sl⟩, ho, hc, n, hd'⟩ := id pl
  simp only at hc hd'
  subst hc hd'
  refine call_meets PySem.F.slot_tuple_count ⟨_, ho, rfl⟩ PySem.F.entry_tuple_count (PySem.F.args_tuple_count_2 _ _) (SeqAt.tuple_countAt p its.toArray n dd sl u f) ⟨ho, fun z hz => f1 z (by simpa using hz), ?_⟩
  refine ⟨.int _, H, I.tok _, ⟨_, rfl⟩, ?_⟩
  have e : its.countP f = cnt d ds := by
    have e1 : its.countP f = (its.map f).countP id := by rw [List.countP_map]; rfl
    rw [e1, f2, List.countP_map]
    unfold cnt
    refine List.countP_congr fun e he' => ?_
    show (eqD e d = true ↔ _)
    rw [eqD_dec (he e he').nb hd.nb]
  rw [show its.toArray.toList.countP f = its.countP f from rfl, e]
  exact q
/-! ### tuples that are known to have no dict -/
def PlT (H : Hp) (x : V) : Prop := ∃ p o vs, x = .ref p ∧ H p = some (.frz o (.tup vs)) ∧ o.dict = none
theorem PlT.same {H H' : Hp} {x : V} (s : Same H H') (h : PlT H x) : PlT H' x := let ⟨p, o, vs, e, h1, h2⟩ := h; ⟨p, o, vs, e, s _ _ h1, h2⟩
theorem At.newF {K : PySem.W.Frag} {H : Hp} {p : Addr} {o : Obj} {ds : List D} {vs : List V} (hp : H p = none) (h : AtAll K H ds vs) : At K (upd H p (.frz o (.tup vs))) (.tup ds) (.ref p) :=
  At_tup.mpr ⟨p, vs, rfl, .inl (.inr ⟨o, upd_same⟩), AtAll.same (same_new hp _) _ _ h⟩
def tTupF (t : TA) : TE := fun σ H Q => t σ H fun xs H1 => xs.length ≤ sizeLine ∧ ∀ p o, H1 p = none → o.dict = none → Q (.ref p) (upd H1 p (.frz o (.tup xs)))
theorem pe_tupF {es : List Expr} {t : TA} {pos : Pos} {x1 : Nat} (h : PA X es t) : PE X (.Tuple es x1 pos) (tTupF t) := by
  intro pins s σ H Q I hq
  refine wpAny_Tuple_spliced (thn (h pos pins s σ H _ I hq) fun us s1 ⟨xs, H1, I1, r, z, q⟩ => ⟨by rw [← r.length]; exact z, ?_⟩)
  have hf : H1 s1.heap.objs.size = none := I1.hok.fresh (Nat.le_refl _)
  refine ⟨.ref s1.heap.objs.size, upd H1 s1.heap.objs.size (.frz _ (.tup xs)), I1.laid (t' := s1.toks) (fun b u e => Heap.get?_push_of_some _ e) (Nat.le_refl _) ⟨Heap.get?_push_size _ rfl, ?_⟩, rfl, q _ _ hf rfl⟩
  exact ⟨z, us, r, ⟨_, Heap.get?_push_size _ rfl, rfl, _, rfl⟩⟩
def rTupF (K : PySem.W.Frag) : List V → Hp → VK → Prop := fun xs H Q => ∃ p ys, xs = [V.ref p] ∧ SqL K H p ys ∧ ∀ l o, H l = none → o.dict = none → Q (.ref l) (upd H l (.frz o (.tup ys)))
theorem call_tupleF : CallR X (.type "tuple") (rTupF X.K) := by
  intro pins s σ H xs us Q I r h
  obtain ⟨p, ys, rfl, hq, q⟩ := h
  obtain ⟨u, rfl, rx⟩ := vals1 r
  cases rx
  obtain ⟨its, r', pl, hz⟩ := I.list hq
  have hlen := r'.length
  refine call_tuple_list pl.isList (fun h' kp => ?_) (by simp only [List.size_toArray] <;> omega)
  have I1 : Inv X pins σ H { s with heap := h' } := I.kept (t' := s.toks) kp
  have I2 : Inv X pins σ (upd H h'.objs.size (.frz { cls := .type "tuple", data := .seq its.toArray } (.tup ys))) { s with heap := h'.push { cls := .type "tuple", data := .seq its.toArray } } :=
    I1.laid (t' := s.toks) (fun b o e => Heap.get?_push_of_some _ e) (Nat.le_refl _) (show ObjOk X.prog X.w _ _ _ (.frz _ (.tup ys)) from ⟨Heap.get?_push_size _ rfl, hz, its, r', IsTup.new _ _⟩)
  exact ⟨.ref h'.objs.size, _, I2, rfl, q _ _ (I1.hok.fresh (Nat.le_refl _)) rfl⟩
def tBMT (r : V → List V → Hp → VK → Prop) (to : TE) (t : TA) : TE := fun σ H Q => to σ H fun x H1 => PlT H1 x ∧ t σ H1 fun xs H2 => r x xs H2 Q
theorem pe_bmT {o e : Expr} {es : List Expr} {to : TE} {t : TA} {name : Str} {apos cpos : Pos} {id : String} {r : V → List V → Hp → VK → Prop} (slot : Slot "tuple" name id) (hty : typeOf (.builtin id) = pure (.type "method_descriptor")) (hm : MtR X id r) (ho : PE X o to) (ha : PA X (e :: es) t)
    (hbase : attributeBase o name X.env (eval o X.env) = eval o X.env := by rfl)
    (hfew : ((backTo cpos (starEach (e :: es) X.env)).all (fun x => !x.1) && (backToKw cpos (keywordEach [] X.env)).all (fun x => x.1.isSome)
      && decide ((e :: es).length + ([] : List Keyword).length + (if ([] : List Keyword).isEmpty then 0 else 1) < 30)) = true := by rfl)
    (hline : (apos.endLine == cpos.line) = true := by rfl) (hs : starEach (e :: es) X.env = (false, eval e X.env) :: starEach es X.env := by rfl) (hplain : (backTo cpos (starEach es X.env)).any (·.1) = false := by rfl) :
    PE X (.Call (.Attribute o name apos) (e :: es) [] cpos) (tBMT r to t) := by
  intro pins s σ H Q I h
  refine wpAny_Call_method_late hbase hfew hline rfl (thn (ho pins s σ H _ I h) fun v s1 ⟨x, H1, I1, r1, ty, q1⟩ => ?_)
  obtain ⟨p, ob, vs, rfl, hp, hd⟩ := ty
  cases (show v = Value.ref p from r1)
  obtain ⟨e1, hz, its, rv, o2, e2, c2, n2, d2⟩ := (show ObjOk X.prog X.w H1 s1.heap p (.frz ob (.tup vs)) from I1.hok p _ hp)
  rw [e1] at e2
  cases e2
  refine ⟨"tuple", id, PySem.F.plainAttrs_tuple, slot, hty, ⟨ob, e1, c2⟩, fun a e => by cases e; exact ⟨ob, e1, hd⟩, ?_⟩
  have hA := ha cpos pins s1 σ H1 _ I1 q1
  rw [hs] at hA ⊢
  refine Calls.callWith_builtin (by show (false || (backTo cpos (starEach es X.env)).any (·.1)) = false; rw [hplain] <;> rfl) (Calls.evalArgs_plain ?_)
  exact thn hA fun us s2 ⟨vs, H2, I2, r2, q2⟩ => hm pins s2 σ H2 _ vs _ us Q I2 r1 r2 q2
end
end GS
namespace L3
open PySem PyProof.Rows L2
section
variable {X : Cx} {o i : Expr} {pos : Pos} {td ty : TE}
theorem pe_countT {K : PySem.W.Frag} {k : Nat} {e : Expr} {apos cpos : Pos} {to : TE} {t : TA} (hr : Room k X.A) (hK : X.K = K) (ho : LE X o to) (ha : LA X [e] t)
    (hbase : attributeBase o "count" X.env (eval o X.env) = eval o X.env := by rfl)
    (hfew : ((backTo cpos (starEach [e] X.env)).all (fun x => !x.1) && (backToKw cpos (keywordEach [] X.env)).all (fun x => x.1.isSome)
      && decide ([e].length + ([] : List Keyword).length + (if ([] : List Keyword).isEmpty then 0 else 1) < 30)) = true := by rfl)
    (hline : (apos.endLine == cpos.line) = true := by rfl) (hs : starEach [e] X.env = (false, eval e X.env) :: starEach [] X.env := by rfl) (hplain : (backTo cpos (starEach [] X.env)).any (·.1) = false := by rfl) :
    LE X (.Call (.Attribute o "count" apos) [e] [] cpos) (GS.tBMT (GS.rCountT K) to t) := by
  subst hK
  exact .mk (GS.pe_bmT PySem.F.slot_tuple_count PySem.F.type_tuple_count (GS.mt_countT hr) ho.out ha.out hbase hfew hline hs hplain)
theorem pe_tupF {es : List Expr} {t : TA} {x1 : Nat} (h : LA X es t) : LE X (.Tuple es x1 pos) (GS.tTupF t) := .mk (GS.pe_tupF h.out)
theorem pe_fldK {K : PySem.W.Frag} {e : Expr} {f : Str} {ta : TE} (hK : X.K = K) (he : LE X e ta) (hb : attributeBase e f X.env (eval e X.env) = eval e X.env := by rfl) : LE X (.Attribute e f pos) (tFld K ta f) := by
  subst hK
  exact L3.pe_fld he hb
end
end L3
set_option Elab.async false
set_option linter.all false
set_option maxRecDepth 100000
set_option maxHeartbeats 4000000
namespace GS
open PySem PyProof.Rows
open L2 hiding pe_int pe_bl pe_non pe_str pv pe_glob pe_bltn pe_op pe_cmpR pe_one pe_and pe_ifExp pe_ix po_none po_some pe_slice pa_nil pa_cons pe_lst pe_tup pe_dnewK pe_callB pe_callTy pe_bm pt_cmpR pt_val pt_not pw_and1 pw_or1 pw_and pw_or pg_name pgs_nil pgs_cons pg_tup pi_list pi_tup pi_range1 ps_ret ps_expr ps_set ps_asg ps_if ps_while ps_for pss_nil pss_cons pss_one
open L3
abbrev pOrd : Stmt := top9 20
/-! ### order_of, as numbers -/
def dOf : Nat ⊕ D → D
  | .inl i => thD i
  | .inr d => d
def isC (os : List (Option (List Nat))) : Nat ⊕ D → Bool
  | .inl i => (os.getD i none).isSome
  | .inr _ => false
def idx : Nat ⊕ D → Nat
  | .inl i => i
  | .inr _ => 0
def ordOf (os : List (Option (List Nat))) (i : Nat) : List Nat := (os.getD i none).getD []
def fltD (x : Str) : D := .tup [.str "fault", .str x]
def ordR (os : List (Option (List Nat))) (ti : Nat) (es : List (Nat ⊕ D)) : D :=
  if es.all (isC os) = false then fltD "KindFault"
  else if ¬ (es.map idx).Nodup then fltD "OrderFault"
  else match behindOf (ordOf os) (if es = [] then [ti] else es.map idx) with
    | none => fltD "OrderFault"
    | some l => .tup [.str "value", .tup (l.map thD)]
/-- an elder: a thing that stands, or a value that is none -/
def EldOk (os : List (Option (List Nat))) : Nat ⊕ D → Prop
  | .inl i => i < os.length
  | .inr d => El d ∧ ∃ k r, d = .tup (.str k :: r) ∧ k ≠ "thing"
structure OsOk (os : List (Option (List Nat))) : Prop where
  nd : ∀ i, (ordOf os i).Nodup
  len : ∀ i, (ordOf os i).length ≤ 40
theorem El.th (i : Nat) : El (thD i) := by
  refine ⟨?_, ?_⟩
  · unfold thD
    rw [GS.nb, nbs, nbs, nbs, (El.str "thing").nb, (El.int (i : Nat)).nb]; rfl
  · unfold thD
    rw [GS.dep, deps, deps, deps, dep_str, dep_int]; decide
theorem EldOk.el {os : List (Option (List Nat))} : ∀ {e : Nat ⊕ D}, EldOk os e → El (dOf e)
  | .inl i, _ => El.th i
  | .inr _, h => h.1
theorem allC {os : List (Option (List Nat))} : ∀ {es : List (Nat ⊕ D)}, es.all (isC os) = true → es.map dOf = (es.map idx).map thD
  | [], _ => rfl
  | .inl i :: es, h => by
    rw [List.all_cons, Bool.and_eq_true] at h
    rw [List.map_cons, List.map_cons, List.map_cons, allC h.2]; rfl
  | .inr d :: es, h => by
    rw [List.all_cons, Bool.and_eq_true] at h
    exact absurd h.1 (by simp [isC])
section
variable {P : Program} {w : World} {K : PySem.W.Frag} {mg : Str → Option Value} {base : Heap} {f : Addr} {fd : FuncData} {c : Cl9}
theorem tot_le {α : Type} [DecidableEq α] {m : Nat} : ∀ {rs : List (List α)}, (∀ r ∈ rs, r.length ≤ m) → tot rs ≤ rs.length * m
  | [], _ => Nat.zero_le _
  | r :: rs, h => by
    have h1 := tot_le fun q hq => h q (List.mem_cons_of_mem _ hq)
    have h2 := h r List.mem_cons_self
    rw [tot_cons, List.length_cons, Nat.succ_mul]
    omega
/-- elders if len(elders) > 0 else (known(world, "Thing"),) -/
def tOwn2 (K : PySem.W.Frag) (c : Cl9) : TE := fun σ H Q => ∃ (W l g : Addr) (os : List (Option (List Nat))) (gv : List (Str × Nat)) (ti : Nat) (x : V) (es : List (Nat ⊕ D)), σ[0]? = some (some (.ref W)) ∧ σ[1]? = some (some x) ∧ WAt K c H W l g os ∧ GivAt K H g gv ∧ (("Thing" : Str), ti) ∈ gv ∧ At K H (.tup (es.map dOf)) x ∧ es.map dOf = (es.map idx).map thD ∧
  ∀ v H', Same H H' → At K H' (.tup ((if es = [] then [ti] else es.map idx).map thD)) v → Q v H'
theorem RowsAt.tups {K : PySem.W.Frag} {H : Hp} {f : Nat → List D} : ∀ {is : List Nat} {vs : List V}, Pairs (fun i v => At K H (.tup (f i)) v) is vs → RowsAt K H (is.map f) vs
  | _, _, .nil => .nil
  | _, _, .cons h1 h2 => .cons (RowAt.tup h1) (RowsAt.tups h2)
def spOrd (K : PySem.W.Frag) (c : Cl9) : Sp := fun vs H Q _ => ∃ (W l g : Addr) (os : List (Option (List Nat))) (gv : List (Str × Nat)) (ti : Nat) (x : V) (es : List (Nat ⊕ D)), vs = [.ref W, x] ∧ WAt K c H W l g os ∧ GivAt K H g gv ∧ (("Thing" : Str), ti) ∈ gv ∧ ti < os.length ∧ isC os (.inl ti) = true ∧ OsOk os ∧
  At K H (.tup (es.map dOf)) x ∧ PlT H x ∧ es.length ≤ 100 ∧ (∀ e ∈ es, EldOk os e) ∧ ∀ r H', Same H H' → At K H' (ordR os ti es) r → Q r H'
theorem scOrd : FnScope ["world", "elders", "own", "order"] ["world", "elders"] (defScope pOrd) := ⟨rfl, rfl, rfl, by decide +kernel, rfl, by decide +kernel, by decide +kernel⟩
theorem ok_Ord (g : Glb9 mg) (z : Cs9 K c) (hMost : ∃ t, mg "MOST_CLASSES" = some (.int 40 t)) (F : Fun K "order_of" "order_of" pOrd f fd) (dC : Def P w K mg base "is_class" ["world", "a"] 2 (spIsC K c)) (dT : Def P w K mg base "thing_of" ["world", "a"] 1 (spTh K c)) (dN : Def P w K mg base "known" ["world", "name"] 1 (spKn K c)) (dM : Def P w K mg base "merged" ["rows"] 4 (spMrg K)) : FnOk P w K mg base CX0 5 f fd ["world", "elders"] (spOrd K c) := by
  refine F.okI scOrd (fun vs H Q E h => ?_) (fun cdv A outer s H vs Q E hr h => ?_)
  · obtain ⟨_, _, _, _, _, _, _, _, rfl, _⟩ := h; rfl
  obtain ⟨W, l, gd, os, gv, ti, x, es, rfl, hw, hg, hti, hti2, hti3, hos, hx, hpl, hlen, hes, q⟩ := h
  refine ⟨_, pss_cons (ps_if (pt_not (pt_val (pe_callB (call_all rfl) rfl g.nAll b9All (pa_cons (.mk (L2.pe_compG (cl := [("world", s.heap.objs.size + 1)]) (Xs := ["elder"]) (Nf := ["world"]) (js := [0]) ?k1 rfl (LI.out (pi_tup (pv 1))) (fun C s0 H0 fp => LG.out (pg_name (i := 0) (show (["elder", "world"] : List Str).Nodup by decide +kernel) rfl (Or.inl rfl))) (fun C s0 H0 fp => pts_nil) (fun C s0 H0 fp => LE.out (L3.pe_def dC hr (by decide) rfl (pa_cons (pv 1) (pa_cons (pv 0) pa_nil)))))) pa_nil)))) (pss_one (ps_ret (pe_tup (pa_cons pe_str (pa_cons pe_str pa_nil))))) pss_nil)
    (pss_cons (ps_if (pt_val (pe_callB (call_any rfl) rfl g.nAny b9Any (pa_cons (.mk (L2.pe_compG (cl := [("elders", s.heap.objs.size + 2)]) (Xs := ["elder"]) (Nf := ["elders"]) (js := [1]) ?k2 rfl (LI.out (pi_tup (pv 1))) (fun C s0 H0 fp => LG.out (pg_name (i := 0) (show (["elder", "elders"] : List Str).Nodup by decide +kernel) rfl (Or.inl rfl))) (fun C s0 H0 fp => pts_nil) (fun C s0 H0 fp => LE.out (pe_cmpR op_gt (L3.pe_countT (K := K) (k := 4) hr rfl (pv 1) (pa_cons (pv 0) pa_nil)) pe_int (nomark _))))) pa_nil))) (pss_one (ps_ret (pe_tup (pa_cons pe_str (pa_cons pe_str pa_nil))))) pss_nil)
    (pss_cons (ps_set (i := 2) scOrd.nd rfl (Or.inl rfl) (le_imp (t' := tOwn2 K c) (pe_ifExp (pt_cmpR op_gt (pe_callB call_len_seq rfl g.nLen b9Len (pa_cons (pv 1) pa_nil)) pe_int (nomark _)) (pv 1) (pe_tup (pa_cons (L3.pe_def dN hr (by decide) rfl (pa_cons (pv 0) (pa_cons pe_str pa_nil))) pa_nil))) ?own))
    (pss_cons (ps_set (i := 3) scOrd.nd rfl (Or.inl rfl) (L3.pe_def dM hr (by decide) rfl (pa_cons (pe_op op_cat (.mk (L2.pe_compG (cl := [("world", s.heap.objs.size + 1)]) (Xs := ["elder"]) (Nf := ["world"]) (js := [0]) ?k3 rfl (LI.out (pi_tup (pv 2))) (fun C s0 H0 fp => LG.out (pg_name (i := 0) (show (["elder", "world"] : List Str).Nodup by decide +kernel) rfl (Or.inl rfl))) (fun C s0 H0 fp => pts_nil) (fun C s0 H0 fp => LE.out (L3.pe_fldK (K := K) rfl (L3.pe_def dT hr (by decide) rfl (pa_cons (pv 1) (pa_cons (pv 0) pa_nil))))))) (pe_lst (pa_cons (pv 2) pa_nil))) pa_nil)))
    (pss_cons (ps_if (LW.pt (pw_or (pt_cmpR op_isN (pv 3) pe_non (nomark _)) (pw_or1 (pt_cmpR op_gt (pe_op op_add (pe_callB call_len_seq rfl g.nLen b9Len (pa_cons (pv 3) pa_nil)) pe_int) (L3.pe_gint rfl hMost) (nomark _))))) (pss_one (ps_ret (pe_tup (pa_cons pe_str (pa_cons pe_str pa_nil))))) pss_nil)
    (pss_one (ps_ret (pe_tup (pa_cons pe_str (pa_cons (pe_callTy call_tuple_of rfl g.nTuple b9Tuple (pa_cons (pv 3) pa_nil)) pa_nil)))))))))  , ?main⟩
  case k1 =>
    refine ⟨rfl, by decide +kernel, rfl, by decide +kernel, fun y c h => ?_, fun y hy => ?_, rfl, fun j y h => ?_⟩
    · obtain ⟨rfl, rfl⟩ := look1 h; rfl
    · have hy' : ([(".0", .local), ("elder", .local), ("is_class", .globalImplicit), ("world", .cell)] : List (Str × NameKind)).lookup y = some .cell ∨ ([(".0", .local), ("elder", .local), ("is_class", .globalImplicit), ("world", .cell)] : List (Str × NameKind)).lookup y = some .free := hy
      rcases hy' with z | z
      · have m := PySem.mem_of_lookup z
        simp at m
        subst m
        exact ⟨_, rfl⟩
      · have m := PySem.mem_of_lookup z
        simp at m
    · match j, h with
      | 0, h => cases h; exact ⟨0, rfl, rfl, rfl, .inl rfl⟩
      | j + 1, h => simp at h
  case k2 =>
    refine ⟨rfl, by decide +kernel, rfl, by decide +kernel, fun y c h => ?_, fun y hy => ?_, rfl, fun j y h => ?_⟩
    · obtain ⟨rfl, rfl⟩ := look1 h; rfl
    · have hy' : ([(".0", .local), ("elder", .local), ("elders", .cell)] : List (Str × NameKind)).lookup y = some .cell ∨ ([(".0", .local), ("elder", .local), ("elders", .cell)] : List (Str × NameKind)).lookup y = some .free := hy
      rcases hy' with z | z
      · have m := PySem.mem_of_lookup z
        simp at m
        subst m
        exact ⟨_, rfl⟩
      · have m := PySem.mem_of_lookup z
        simp at m
    · match j, h with
      | 0, h => cases h; exact ⟨1, rfl, rfl, rfl, .inl rfl⟩
      | j + 1, h => simp at h
  case k3 =>
    refine ⟨rfl, by decide +kernel, rfl, by decide +kernel, fun y c h => ?_, fun y hy => ?_, rfl, fun j y h => ?_⟩
    · obtain ⟨rfl, rfl⟩ := look1 h; rfl
    · have hy' : ([(".0", .local), ("elder", .local), ("thing_of", .globalImplicit), ("world", .cell)] : List (Str × NameKind)).lookup y = some .cell ∨ ([(".0", .local), ("elder", .local), ("thing_of", .globalImplicit), ("world", .cell)] : List (Str × NameKind)).lookup y = some .free := hy
      rcases hy' with z | z
      · have m := PySem.mem_of_lookup z
        simp at m
        subst m
        exact ⟨_, rfl⟩
      · have m := PySem.mem_of_lookup z
        simp at m
    · match j, h with
      | 0, h => cases h; exact ⟨0, rfl, rfl, rfl, .inl rfl⟩
      | j + 1, h => simp at h
  case main =>
    obtain ⟨ax, xvs, rfl, sqx, hA⟩ := At_tup.mp hx
    have lx := hA.len
    rw [List.length_map] at lx
    have elAt : ∀ j, j < es.length → ∃ e, es[j]? = some e ∧ es.getD j (.inl 0) = e ∧ (es.map dOf).getD j .non = dOf e ∧ EldOk os e ∧ At K H (dOf e) (xvs.getD j .non) := fun j hj => by
      have e1 : es[j]? = some es[j] := List.getElem?_eq_getElem hj
      obtain ⟨v, hv, hAi⟩ := AtAll.get (i := j) hA (d := dOf es[j]) (by rw [List.getElem?_map, e1]; rfl)
      refine ⟨es[j], e1, by rw [List.getD_eq_getElem?_getD, e1]; rfl, by rw [List.getD_eq_getElem?_getD, List.getElem?_map, e1]; rfl, hes _ (List.getElem_mem hj), ?_⟩
      rw [List.getD_eq_getElem?_getD, hv]; exact hAi
    refine ⟨_, rfl, ax, rfl, ⟨xvs, sqx⟩, [.ref W], ⟨rfl, fun j i h => ?_⟩, compG_one (vs := [.ref W]) (tc := tTrue) xvs.length (fun i => xvs.getD i .non) (fun _ => true) (fun i v _ => v = .bl (isC os (es.getD i (.inl 0)))) (fun _ _ _ _ _ z => z) (by omega) (itt_stop sqx) (itt_go sqx) (itt_yld sqx) (fun i H2 Q' hi s2 k => k H2 (Same.refl _)) (fun j H1 D l' Q' hj _ s1 _ _ k => ?_) fun D H1 ys hD s1 hl1 hP => ?_⟩
    · match j, h with
      | 0, h => cases h; exact ⟨_, rfl, rfl⟩
      | j + 1, h => simp at h
    · obtain ⟨e, e1, e2, _, e4, e5⟩ := elAt j (by omega)
      rw [e2] at k
      have e5' := At.same s1 _ _ e5
      cases e with
      | inl i =>
        have hi : os[i]? = some os[i] := List.getElem?_eq_getElem e4
        have eg : os.getD i none = os[i] := by rw [List.getD_eq_getElem?_getD, hi]; rfl
        refine ⟨_, rfl, _, rfl, W, l, gd, os, _, "thing", [.int (i : Nat)], rfl, hw.same s1, e5', .inl ⟨i, os[i], rfl, rfl, hi, k _ _ (Same.refl _) ?_⟩⟩
        show V.bl _ = V.bl (os.getD i none).isSome
        rw [eg]
      | inr d =>
        obtain ⟨_, kk, r, rfl, hk⟩ := e4
        exact ⟨_, rfl, _, rfl, W, l, gd, os, _, kk, r, rfl, hw.same s1, e5', .inr ⟨hk, k _ _ (Same.refl _) rfl⟩⟩
    have e1 := hP.eq
    rw [List.filter_eq_self.mpr (fun _ _ => rfl), lx, range_map es (.inl 0) (fun e => V.bl (isC os e))] at e1
    refine ⟨D, es.map (isC os), rfl, SqL.of (by rw [hl1, e1, List.map_map]; rfl), _, rfl, ?_⟩
    have eall : (es.map (isC os)).all id = es.all (isC os) := by rw [List.all_map]; rfl
    rw [eall]
    have tell : ∀ (a b : Str) (H' : Hp), Same H H' → .tup [.str a, .str b] = ordR os ti es → 2 ≤ sizeLine ∧ ∀ p, H' p = none → Q (.ref p) (upd H' p (.tup [.str a, .str b])) := fun a b H' s' e => ⟨by decide, fun p hp => q _ _ (s'.trans (same_new hp _)) (by rw [← e]; exact At.new hp (AtAll2 (At_str.mpr rfl) (At_str.mpr rfl)))⟩
    cases hall : es.all (isC os) with
    | false =>
      refine iteT (tell "fault" "KindFault" H1 s1 ?_)
      rw [ordR, if_pos hall]; rfl
    | true =>
    refine iteF ?_
    have dm := allC hall
    have el0 : ∀ d ∈ es.map dOf, El d := fun d hd => by
      obtain ⟨e, he, rfl⟩ := List.mem_map.mp hd
      exact (hes e he).el
    have sqx1 := Same.seqT s1 sqx
    refine ⟨_, rfl, ax, rfl, ⟨xvs, sqx1⟩, [.ref ax], ⟨rfl, fun j i h => ?_⟩, compG_one (vs := [.ref ax]) (tc := tTrue) xvs.length (fun i => xvs.getD i .non) (fun _ => true) (fun i v _ => v = .bl (decide (1 < cnt ((es.map dOf).getD i .non) (es.map dOf)))) (fun _ _ _ _ _ z => z) (by omega) (itt_stop sqx1) (itt_go sqx1) (itt_yld sqx1) (fun i H2 Q' hi s2 k => k H2 (Same.refl _)) (fun j H2 D l' Q' hj _ s2 _ _ k => ?_) fun D2 H2 ys2 hD2 s2 hl2 hP2 => ?_⟩
    · match j, h with
      | 0, h => cases h; exact ⟨_, rfl, rfl⟩
      | j + 1, h => simp at h
    · obtain ⟨e, e1, e2, e3, e4, e5⟩ := elAt j (by omega)
      have s12 := s1.trans s2
      rw [e3] at k
      refine ⟨_, rfl, hpl.same s12, _, rfl, _, dOf e, es.map dOf, rfl, At.same s12 _ _ hx, At.same s12 _ _ e5, el0, e4.el, _, _, rfl, rfl, k _ _ (Same.refl _) (congrArg V.bl (decide_eq_decide.mpr (by omega)))⟩
    have f1 := hP2.eq
    have lm : xvs.length = (es.map dOf).length := by rw [List.length_map]; exact lx
    rw [List.filter_eq_self.mpr (fun _ _ => rfl), lm, range_map (es.map dOf) .non (fun d => V.bl (decide (1 < cnt d (es.map dOf))))] at f1
    refine ⟨D2, (es.map dOf).map fun d => decide (1 < cnt d (es.map dOf)), rfl, SqL.of (by rw [hl2, f1]; simp only [List.map_map]; rfl), _, rfl, ?_⟩
    have eany : ((es.map dOf).map fun d => decide (1 < cnt d (es.map dOf))).any id = !decide (es.map dOf).Nodup := by rw [← twice_iff, List.any_map]; rfl
    rw [eany]
    have ndm : (es.map dOf).Nodup ↔ (es.map idx).Nodup := by rw [dm]; exact nodup_map fun _ _ e => thD_inj e
    have s12 := s1.trans s2
    by_cases hnd : (es.map dOf).Nodup
    rotate_left
    · rw [decide_eq_false hnd]
      refine iteT (tell "fault" "OrderFault" H2 s12 ?_)
      rw [ordR, if_neg (by rw [hall]; simp), if_pos (fun z => hnd (ndm.mpr z))]; rfl
    rw [decide_eq_true hnd]
    refine iteF ⟨W, l, gd, os, gv, ti, .ref ax, es, rfl, rfl, hw.same s12, hg.same s12, hti, At.same s12 _ _ hx, dm, fun vo H3 s3 hvo => ?_⟩
    have s13 := s12.trans s3
    have eR : ordR os ti es = match behindOf (ordOf os) (if es = [] then [ti] else es.map idx) with
        | none => fltD "OrderFault"
        | some l => .tup [.str "value", .tup (l.map thD)] := by
      rw [ordR, if_neg (by rw [hall]; simp), if_neg (fun z => z (ndm.mp hnd))]
    have ownC : ∀ i ∈ (if es = [] then [ti] else es.map idx), i < os.length ∧ (os.getD i none).isSome = true := fun i hi => by
      split at hi
      · rw [List.mem_singleton] at hi; rw [hi]; exact ⟨hti2, hti3⟩
      · obtain ⟨e, he, rfl⟩ := List.mem_map.mp hi
        have h1 := List.all_eq_true.mp hall e he
        have h2 := hes e he
        cases e with
        | inl i => exact ⟨h2, h1⟩
        | inr d => cases h1
    have ownN : (if es = [] then [ti] else es.map idx).Nodup := by
      split
      · exact List.nodup_cons.mpr ⟨by simp, List.nodup_nil⟩
      · exact ndm.mp hnd
    have ownL : (if es = [] then [ti] else es.map idx).length ≤ 100 := by
      split
      · show 1 ≤ 100; decide
      · rw [List.length_map]; exact hlen
    rw [eR] at q tell
    generalize (if es = [] then [ti] else es.map idx) = own at *
    obtain ⟨ao, ovs, rfl, sqo, hAo⟩ := At_tup.mp hvo
    have lo := hAo.len
    rw [List.length_map] at lo
    refine ⟨_, rfl, ao, rfl, ⟨ovs, sqo⟩, [.ref W], ⟨rfl, fun j i h => ?_⟩, compG_one (vs := [.ref W]) (tc := tTrue) ovs.length (fun i => ovs.getD i .non) (fun _ => true) (fun i v H' => At K H' (.tup ((ordOf os (own.getD i 0)).map thD)) v) (fun _ _ _ _ s z => At.same s _ _ z) (by omega) (itt_stop sqo) (itt_go sqo) (itt_yld sqo) (fun i H2 Q' hi s2 k => k H2 (Same.refl _)) (fun j H4 D l' Q' hj _ s4 _ hDl k => ?_) fun D4 H4 ys4 hD4 s4 hl4 hP4 => ?_⟩
    · match j, h with
      | 0, h => cases h; exact ⟨_, rfl, rfl⟩
      | j + 1, h => simp at h
    · have hj' : j < own.length := by omega
      have eo : own.getD j 0 = own[j] := by rw [List.getD_eq_getElem?_getD, List.getElem?_eq_getElem hj']; rfl
      obtain ⟨hi1, hi2⟩ := ownC own[j] (List.getElem_mem hj')
      obtain ⟨v', hv', hAi⟩ := AtAll.get (i := j) hAo (d := thD own[j]) (by rw [List.getElem?_map, List.getElem?_eq_getElem hj']; rfl)
      have ev : ovs.getD j .non = v' := by rw [List.getD_eq_getElem?_getD, hv']; rfl
      rw [eo] at k
      rw [ev]
      generalize own[j] = i at *
      obtain ⟨ns, hns⟩ := Option.isSome_iff_exists.mp hi2
      have hoi : os[i]? = some (some ns) := by
        rw [List.getD_eq_getElem?_getD, List.getElem?_eq_getElem hi1] at hns
        rw [List.getElem?_eq_getElem hi1]
        exact congrArg some hns
      have eord : ordOf os i = ns := by unfold ordOf; rw [hns]; rfl
      rw [eord] at k
      refine ⟨_, rfl, _, rfl, W, l, gd, os, _, "thing", [.int (i : Nat)], rfl, (hw.same s13).same s4, At.same s4 _ _ hAi, .inl ⟨i, some ns, rfl, rfl, hoi, fun v hv => ?_⟩⟩
      obtain ⟨p, dx, v1, vo', v3, v4, rfl, hp, ho⟩ := hv
      exact ⟨p, c.Kd, dx, _, vo', rfl, hp, z.kc, z.k2, kdF_order .., k _ _ (Same.refl _) (At.wo hDl _ _ ho)⟩
    have s14 := s13.trans s4
    have hR4 := RowsAt.tups (f := fun i => (ordOf os (own.getD i 0)).map thD) (hP4.mono (fun i v z => At.same (wo_same H4 D4) _ _ z))
    rw [List.filter_eq_self.mpr (fun _ _ => rfl), lo, range_map own 0 (fun i => (ordOf os i).map thD)] at hR4
    have l4 := hR4.len
    rw [List.length_map] at l4
    refine ⟨_, rfl, by show 1 ≤ sizeLine; decide, fun p5 hp5 => ?_⟩
    have s5 : Same H4 (upd H4 p5 (.lst [.ref ao])) := same_new hp5 _
    have h5 : upd H4 p5 (.lst [.ref ao]) p5 = some (.lst [.ref ao]) := upd_same
    revert s5 h5
    generalize upd H4 p5 (.lst [.ref ao]) = H5
    intro s5 h5
    refine ⟨D4, p5, ys4, [.ref ao], rfl, rfl, s5 _ _ hl4, h5, small (by rw [List.length_singleton]; omega), fun p6 hp6 => ?_⟩
    have s6 : Same H5 (upd H5 p6 (.lst (ys4 ++ [.ref ao]))) := same_new hp6 _
    have h6 : upd H5 p6 (.lst (ys4 ++ [.ref ao])) p6 = some (.lst (ys4 ++ [.ref ao])) := upd_same
    revert s6 h6
    generalize upd H5 p6 (.lst (ys4 ++ [.ref ao])) = H6
    intro s6 h6
    have s46 := s5.trans s6
    have s16 := s14.trans s46
    have hR6 : RowsAt K H6 (own.map (fun i => (ordOf os i).map thD) ++ [own.map thD]) (ys4 ++ [.ref ao]) := (hR4.same s46).append (.cons (RowAt.tup (At.same (s4.trans s46) _ _ hvo)) .nil)
    have eD : own.map (fun i => (ordOf os i).map thD) ++ [own.map thD] = (own.map (ordOf os) ++ [own]).map (List.map thD) := by
      rw [List.map_append, List.map_map]; rfl
    have emg : GS.mg (own.map (fun i => (ordOf os i).map thD) ++ [own.map thD]) = (GS.mg (own.map (ordOf os) ++ [own])).map (List.map thD) := by
      rw [eD]
      exact mg_map (S := fun _ => True) (fun _ _ _ _ e => thD_inj e) fun _ _ _ _ => trivial
    have memR : ∀ r ∈ own.map (fun i => (ordOf os i).map thD) ++ [own.map thD], ∃ ns : List Nat, r = ns.map thD ∧ ns.Nodup ∧ ns.length ≤ 100 := fun r hr => by
      rcases List.mem_append.mp hr with h | h
      · obtain ⟨i, _, rfl⟩ := List.mem_map.mp h
        exact ⟨_, rfl, hos.nd i, Nat.le_trans (hos.len i) (by decide)⟩
      · rw [List.mem_singleton] at h
        exact ⟨own, h, ownN, ownL⟩
    have lenR : ∀ r ∈ own.map (fun i => (ordOf os i).map thD) ++ [own.map thD], r.length ≤ 100 := fun r hr => by
      obtain ⟨ns, rfl, _, h⟩ := memR r hr
      rw [List.length_map]; exact h
    have manyR : (own.map (fun i => (ordOf os i).map thD) ++ [own.map thD]).length ≤ 101 := by
      rw [List.length_append, List.length_map, List.length_singleton]; omega
    refine ⟨p6, _, _, rfl, SqL.of h6, hR6, ⟨fun ds hd e he => ?_, fun ds hd => Nat.le_trans (lenR ds hd) (by decide), by omega⟩, fun ds hd => ?_, ?_, fun H7 s7 hm => ?_, fun q7 H7 ws l7 s7 hm _ hq7 hA7 => ?_⟩
    · obtain ⟨ns, rfl, _, _⟩ := memR ds hd
      obtain ⟨i, _, rfl⟩ := List.mem_map.mp he
      exact El.th i
    · obtain ⟨ns, rfl, h, _⟩ := memR ds hd
      exact (nodup_map fun _ _ e => thD_inj e).mpr h
    · have := tot_le lenR
      omega
    · rw [emg, Option.map_eq_none_iff] at hm
      refine ⟨_, rfl, rfl, true, rfl, iteT (iteT (tell "fault" "OrderFault" H7 (s16.trans s7) ?_))⟩
      unfold behindOf
      rw [hm]; rfl
    · rw [emg, Option.map_eq_some_iff] at hm
      obtain ⟨ls, hm, rfl⟩ := hm
      have l7 := hA7.len
      rw [List.length_map] at l7
      have s17 := s16.trans s7
      by_cases hle : ls.length ≤ 39
      · have eb : behindOf (ordOf os) own = some ls := by unfold behindOf; rw [hm, Option.bind_some, if_pos hle]
        rw [eb] at q
        refine ⟨_, rfl, rfl, false, rfl, iteF ⟨_, rfl, q7, ws, rfl, .inl (SqL.of hq7), _, _, rfl, rfl, _, _, rfl, rfl, false, congrArg V.bl (decide_eq_false (by omega)), iteF ?_⟩⟩
        refine ⟨_, rfl, q7, ws, rfl, .inl ⟨SqL.of hq7, fun t ht => ⟨by show 2 ≤ sizeLine; decide, fun p hp => ?_⟩⟩⟩
        have s8 : Same H7 (upd H7 t (.tup ws)) := same_new ht _
        have a8 : At K (upd H7 t (.tup ws)) (.tup (ls.map thD)) (.ref t) := At.new ht hA7
        exact q _ _ ((s17.trans s8).trans (same_new hp _)) (At.new hp (AtAll2 (At_str.mpr rfl) a8))
      · have eb : behindOf (ordOf os) own = none := by unfold behindOf; rw [hm, Option.bind_some, if_neg hle]
        rw [eb] at tell
        exact ⟨_, rfl, rfl, false, rfl, iteF ⟨_, rfl, q7, ws, rfl, .inl (SqL.of hq7), _, _, rfl, rfl, _, _, rfl, rfl, true, congrArg V.bl (decide_eq_true (by omega)), iteT (tell "fault" "OrderFault" H7 s17 rfl)⟩⟩
  case own =>
    rintro σ H Q ⟨W, l, gd, os, gv, ti, x, es, e0, e1, hw, hg, hti, hx, dm, q⟩
    obtain ⟨ax, xvs, rfl, sqx, hA⟩ := At_tup.mp hx
    have lx := hA.len
    rw [List.length_map] at lx
    refine ⟨_, e1, ax, xvs, rfl, .inr sqx, _, _, rfl, rfl, ?_⟩
    by_cases he : es = []
    · subst he
      rw [if_pos rfl] at q
      have : xvs.length = 0 := lx
      refine ⟨false, congrArg V.bl (decide_eq_false (by omega)), iteF ⟨_, e0, W, l, gd, os, gv, "Thing", ti, rfl, hw, hg, hti, fun v hv => ⟨by show 1 ≤ sizeLine; decide, fun p hp => ?_⟩⟩⟩
      exact q _ _ (same_new hp _) (At.new hp (AtAll.one1 hv))
    · rw [if_neg he, ← dm] at q
      have : 0 < es.length := List.length_pos_iff.mpr he
      exact ⟨true, congrArg V.bl (decide_eq_true (by omega)), iteT ⟨_, e1, q _ _ (Same.refl _) hx⟩⟩
end
end GS
set_option Elab.async false
set_option linter.all false
set_option maxRecDepth 100000
set_option maxHeartbeats 4000000
namespace GS
open PySem PyProof.Rows
open L2 hiding pe_int pe_bl pe_non pe_str pv pe_glob pe_bltn pe_op pe_cmpR pe_one pe_and pe_ifExp pe_ix po_none po_some pe_slice pa_nil pa_cons pe_lst pe_tup pe_dnewK pe_callB pe_callTy pe_bm pt_cmpR pt_val pt_not pw_and1 pw_or1 pw_and pw_or pg_name pgs_nil pgs_cons pg_tup pi_list pi_tup pi_range1 ps_ret ps_expr ps_set ps_asg ps_if ps_while ps_for pss_nil pss_cons pss_one
open L3
abbrev pWI : Stmt := inCls 0 (top9 6)
/-! ### what a world gives -/
def TreeG (K : PySem.W.Frag) (mg : Str → Option Value) (x : Str) (ds : List D) : Prop := ∃ p vs, mg x = some (.ref p) ∧ ∀ H, SqT K H p vs ∧ AtAll K H ds vs
def gfN : List Str := ["say", "take", "isa", "elder", "count", "go", "throw", "shut"]
def gcN : List (Str × List Str) := [("Thing", []), ("Fault", ["Thing"]), ("NameFault", ["Fault", "Thing"]), ("KindFault", ["Fault", "Thing"]), ("NoughtFault", ["Fault", "Thing"]), ("GreatFault", ["Fault", "Thing"]), ("FieldFault", ["Fault", "Thing"]), ("OrderFault", ["Fault", "Thing"]), ("EndFault", ["Fault", "Thing"]), ("ShutFault", ["Fault", "Thing"]), ("DeepFault", ["Fault", "Thing"]), ("UnboundFault", ["NameFault", "Fault", "Thing"])]
def gfD : List D := gfN.map D.str
def gcD : List D := gcN.map fun x => .tup [.str x.1, .tup (x.2.map D.str)]
def allN : List Str := gfN ++ gcN.map (·.1)
def ixN9 (x : Str) : Nat := allN.findIdx (· == x)
def gv0 : List (Str × Nat) := allN.zipIdx
def os0 : List (Option (List Nat)) := gfN.map (fun _ => none) ++ gcN.map fun x => some ((x.1 :: x.2).map ixN9)
theorem allN_nd : allN.Nodup := by decide +kernel
theorem gc_ok : ∀ j, j < 12 → ∀ e ∈ (gcN.getD j ("", [])).2, (e, ixN9 e) ∈ gv0.take (8 + j) := by decide +kernel
theorem os_ok : ∀ j, j < 12 → os0[8 + j]? = some (some ((8 + j) :: (gcN.getD j ("", [])).2.map ixN9)) := by decide +kernel
theorem gv_f : ∀ j, j < 8 → gv0[j]? = some (gfN.getD j "", j) := by decide +kernel
theorem gv_c : ∀ j, j < 12 → gv0[8 + j]? = some ((gcN.getD j ("", [])).1, 8 + j) := by decide +kernel
theorem os_f : ∀ j, j < 8 → os0[j]? = some none := by decide +kernel
theorem WAt.put {K : PySem.W.Frag} {c : Cl9} {H : Hp} {W l g d : Addr} {os : List (Option (List Nat))} {kvs : List (Key × V)} {o : HO} (h : WAt K c H W l g os) (hd : H d = some (.dK kvs)) : WAt K c (upd H d o) W l g os := by
  obtain ⟨⟨dx, a, b, h1⟩, tvs, h2, h3, h4⟩ := h
  have f : Fx H (upd H d o) := fun p u e z => by
    rw [upd_ne (fun y => by rw [y, hd] at e; cases e; cases z)]; exact e
  have ne : l ≠ d := fun y => by rw [y, hd] at h2; cases h2
  exact ⟨⟨dx, a, b, f _ _ h1 rfl⟩, tvs, by rw [upd_ne ne]; exact h2, h3, fun i v e => let ⟨o, a, b⟩ := h4 i v e; ⟨o, a, b.fx f⟩⟩
theorem GivAt.put {K : PySem.W.Frag} {H : Hp} {g : Addr} {gv : List (Str × Nat)} {kvs : List (Key × V)} {n : Str} {i : Nat} {v : V} (hg : H g = some (.dK kvs)) (hl : kvs.length ≤ gv.length) (h : ∀ m j, (m, j) ∈ gv → ∃ v, valV kvs (.inr m) = some v ∧ At K H (thD j) v) (hv : At K H (thD i) v) (hn : ∀ j, (n, j) ∉ gv) : GivAt K (upd H g (.dK (putK kvs (.inr n) v))) g (gv ++ [(n, i)]) := by
  have f : Fx H (upd H g (.dK (putK kvs (.inr n) v))) := fun p u e z => by
    rw [upd_ne (fun y => by rw [y, hg] at e; cases e; cases z)]; exact e
  refine ⟨_, upd_same, by have := length_putK kvs (.inr n) v; rw [List.length_append, List.length_singleton]; omega, fun m j hm => ?_⟩
  rcases List.mem_append.mp hm with hm | hm
  · obtain ⟨u, e, a⟩ := h m j hm
    refine ⟨u, ?_, At.fx f _ _ a⟩
    rw [valV_put, if_neg (fun z => hn j (by injection z with z; rw [← z]; exact hm))]
    exact e
  · rw [List.mem_singleton] at hm
    obtain ⟨rfl, rfl⟩ := Prod.mk.inj hm
    exact ⟨v, by rw [valV_put, if_pos rfl], At.fx f _ _ hv⟩
theorem gv_new {j : Nat} {n : Str} {i : Nat} (h : gv0[j]? = some (n, i)) : ∀ k, (n, k) ∉ gv0.take j := by
  have hz : ∀ (m : Nat) (x : Str) (y : Nat), gv0[m]? = some (x, y) → allN[m]? = some x := fun m x y e => by
    unfold gv0 at e
    rw [List.getElem?_zipIdx] at e
    cases e2 : allN[m]? with
    | none => rw [e2] at e; cases e
    | some u => rw [e2] at e; injection e with e; injection e with e _; rw [e]
  intro k hk
  obtain ⟨m, hm, e⟩ := List.getElem_of_mem hk
  rw [List.length_take] at hm
  have e' : gv0[m]? = some (n, k) := by
    rw [List.getElem?_eq_some_iff]
    exact ⟨by omega, by rw [← e, List.getElem_take]⟩
  have h1 := hz _ _ _ h
  have h2 := hz _ _ _ e'
  have hj := (List.getElem?_eq_some_iff.mp h1).1
  have := (List.getElem?_inj hj allN_nd).mp (h1.trans h2.symm)
  omega
section
variable {P : Program} {w : World} {K : PySem.W.Frag} {mg : Str → Option Value} {base : Heap} {f : Addr} {fd : FuncData} {c : Cl9}
/-! ### World.__init__ -/
def spWI (K : PySem.W.Frag) (c : Cl9) : Sp := fun vs H Q _ => ∃ (x dx q : Addr), vs = [.ref x, .ref q] ∧ H x = some (.ins c.W dx []) ∧ SqL K H q [] ∧
  ∀ H' l g, (∀ p o, p ≠ x → H p = some o → H' p = some o) → WAt K c H' x l g os0 → GivAt K H' g gv0 → Q .non H'
theorem scWI : FnScope ["self", "inputs", "name", "behind"] ["self", "inputs"] (defScope pWI) := ⟨rfl, rfl, rfl, by decide +kernel, rfl, by decide +kernel, by decide +kernel⟩
theorem ok_WI (g : Glb9 mg) (z : Cs9 K c) (tf : TreeG K mg "GIVEN_FUNCTIONS" gfD) (tc : TreeG K mg "GIVEN_CLASSES" gcD) (M : MkDef P w K mg base "Given" c.G ["self", "name"] 1 (spGvI c.G)) (F : Fun K "__init__" "World.__init__" pWI f fd) (dA : Def P w K mg base "added" ["world", "thing"] 1 (spAdd K c)) (dN : Def P w K mg base "new_class" ["world", "name", "behind", "fields", "is_given"] 3 (spNew K c)) : FnOk P w K mg base CX0 4 f fd ["self", "inputs"] (spWI K c) := by
  refine F.okI scWI (fun vs H Q E h => ?_) (fun cdv A outer s H vs Q E hr h => ?_)
  · obtain ⟨_, _, _, rfl, _⟩ := h; rfl
  obtain ⟨x, dx, qi, rfl, hx, hq, q⟩ := h
  obtain ⟨pf, vf, mf, af⟩ := tf
  obtain ⟨pc, vc, mc, ac⟩ := tc
  refine ⟨_, pss_cons (L3.ps_fld (pv 0) (pe_lst pa_nil))
    (pss_cons (L3.ps_fld (pv 0) (pe_callTy call_list_of rfl g.nList b9List (pa_cons (pv 1) pa_nil)))
    (pss_cons (L3.ps_fld (pv 0) (pe_lst pa_nil))
    (pss_cons (L3.ps_fld (pv 0) (.mk L2.pe_dnewK))
    (pss_cons (ps_for PassesOwn.never rfl (pi_tup (pe_glob (v := .ref pf) rfl mf rfl)) (pg_name (i := 2) scWI.nd rfl (Or.inl rfl))
      (pss_one (.mk (L2.ps_dput (hu_of hr) (LE.out (L3.pe_fld (pv 0))) (LE.out (pv 2)) (LE.out (L3.pe_def dA hr (by decide) rfl (pa_cons (pv 0) (pa_cons (L3.pe_mk M hr (by decide) rfl (pa_cons (pv 2) pa_nil)) pa_nil)))) rfl))))
    (pss_one (ps_for PassesOwn.never rfl (pi_tup (pe_glob (v := .ref pc) rfl mc rfl)) (pg_tup rfl (pgs_cons (pg_name (i := 2) scWI.nd rfl (Or.inl rfl)) (pgs_cons (pg_name (i := 3) scWI.nd rfl (Or.inl rfl)) pgs_nil)))
      (pss_one (.mk (L2.ps_dput (hu_of hr) (LE.out (L3.pe_fld (pv 0))) (LE.out (pv 2)) (LE.out (L3.pe_def dN hr (by decide) rfl (pa_cons (pv 0) (pa_cons (pv 2) (pa_cons (.mk (L2.pe_compG (cl := [("self", s.heap.objs.size + 1)]) (Xs := ["elder"]) (Nf := ["self"]) (js := [0]) ?k rfl (LI.out (pi_tup (pv 3))) (fun C s0 H0 fp => LG.out (pg_name (i := 0) (show (["elder", "self"] : List Str).Nodup by decide +kernel) rfl (Or.inl rfl))) (fun C s0 H0 fp => pts_nil) (fun C s0 H0 fp => LE.out (L3.pe_dget (hu_of hr) (L3.pe_fldK (K := K) rfl (pv 1)) (pv 0))))) (pa_cons (.mk L2.pe_dnewK) (pa_cons pe_bl pa_nil))))))) rfl)))))))))  , ?main⟩
  case k =>
    refine ⟨rfl, by decide +kernel, rfl, by decide +kernel, fun y c h => ?_, fun y hy => ?_, rfl, fun j y h => ?_⟩
    · obtain ⟨rfl, rfl⟩ := look1 h; rfl
    · have hy' : ([(".0", .local), ("elder", .local), ("self", .cell)] : List (Str × NameKind)).lookup y = some .cell ∨ ([(".0", .local), ("elder", .local), ("self", .cell)] : List (Str × NameKind)).lookup y = some .free := hy
      rcases hy' with z | z
      · have m := PySem.mem_of_lookup z
        simp at m
        subst m
        exact ⟨_, rfl⟩
      · have m := PySem.mem_of_lookup z
        simp at m
    · match j, h with
      | 0, h => cases h; exact ⟨0, rfl, rfl, rfl, .inl rfl⟩
      | j + 1, h => simp at h
  case main =>
    have nx : ∀ {p o} {H' : Hp}, But9 x H H' → H' x = some o → H' p = none → H p = none := fun {p o H'} b e1 e2 => by
      cases e : H p with
      | none => rfl
      | some u =>
        by_cases hpx : p = x
        · rw [hpx, e1] at e2; cases e2
        · rw [b _ _ hpx e] at e2; cases e2
    have e1 : ∀ v1 : V, putF "lines" v1 ([] : List (Str × V)) = ([("lines", v1)] : List (Str × V)) := fun _ => rfl
    have e2 : ∀ v1 v2 : V, putF "left" v2 ([("lines", v1)] : List (Str × V)) = ([("lines", v1), ("left", v2)] : List (Str × V)) := fun _ _ => by rw [putF_ne (by decide +kernel)]; rfl
    have e3 : ∀ v1 v2 v3 : V, putF "things" v3 ([("lines", v1), ("left", v2)] : List (Str × V)) = ([("lines", v1), ("left", v2), ("things", v3)] : List (Str × V)) := fun _ _ _ => by rw [putF_ne (by decide +kernel), putF_ne (by decide +kernel)]; rfl
    have e4 : ∀ (v1 v2 : V) (l g : Addr), putF "given" (.ref g) ([("lines", v1), ("left", v2), ("things", .ref l)] : List (Str × V)) = wF v1 v2 l g := fun _ _ _ _ => by rw [putF_ne (by decide +kernel), putF_ne (by decide +kernel), putF_ne (by decide +kernel)]; rfl
    have pt : ∀ {H' : Hp} {o : HO}, But9 x H H' → But9 x H (upd H' x o) := fun b => b.trans (But9.put _ _)
    refine ⟨Nat.zero_le _, fun p1 hp1 => ?_⟩
    have b1 : But9 x H (upd H p1 (.lst [])) := Same.but x (same_new hp1 _)
    have x1 : upd H p1 (.lst []) x = some (.ins c.W dx []) := same_new hp1 _ _ _ hx
    revert b1 x1
    generalize upd H p1 (.lst []) = H1
    intro b1 x1
    refine ⟨_, rfl, x, c.W, dx, _, rfl, x1, z.wc, z.w1, by decide, ?_⟩
    rw [e1]
    have b2 := pt (o := .ins c.W dx [("lines", .ref p1)]) b1
    have x2 : upd H1 x (.ins c.W dx [("lines", .ref p1)]) x = some (.ins c.W dx [("lines", .ref p1)]) := upd_same
    revert b2 x2
    generalize upd H1 x (.ins c.W dx [("lines", .ref p1)]) = H2
    intro b2 x2
    have hq2 : SqL K H2 qi [] := by
      rcases hq with (h | ⟨o, h⟩) | h
      · exact .inl (.inl (b2 _ _ (fun y => by rw [y, hx] at h; cases h) h))
      · exact .inl (.inr ⟨o, b2 _ _ (fun y => by rw [y, hx] at h; cases h) h⟩)
      · exact .inr h
    refine ⟨_, rfl, qi, [], rfl, .inl hq2, fun p2 hp2 => ?_⟩
    have b3 : But9 x H (upd H2 p2 (.lst [])) := b2.trans (Same.but x (same_new hp2 _))
    have x3 : upd H2 p2 (.lst []) x = some (.ins c.W dx [("lines", .ref p1)]) := same_new hp2 _ _ _ x2
    revert b3 x3
    generalize upd H2 p2 (.lst []) = H3
    intro b3 x3
    refine ⟨_, rfl, x, c.W, dx, _, rfl, x3, z.wc, z.w2, Nat.lt_of_lt_of_le (Nat.lt_succ_self 1) (by decide), ?_⟩
    rw [e2]
    have b4 := pt (o := .ins c.W dx [("lines", .ref p1), ("left", .ref p2)]) b3
    have x4 : upd H3 x (.ins c.W dx [("lines", .ref p1), ("left", .ref p2)]) x = some (.ins c.W dx [("lines", .ref p1), ("left", .ref p2)]) := upd_same
    revert b4 x4
    generalize upd H3 x (.ins c.W dx [("lines", .ref p1), ("left", .ref p2)]) = H4
    intro b4 x4
    refine ⟨Nat.zero_le _, fun l hl => ?_⟩
    have hl0 : H l = none := nx b4 x4 hl
    have b5 : But9 x H (upd H4 l (.lst [])) := b4.trans (Same.but x (same_new hl _))
    have x5 : upd H4 l (.lst []) x = some (.ins c.W dx [("lines", .ref p1), ("left", .ref p2)]) := same_new hl _ _ _ x4
    have l5 : upd H4 l (.lst []) l = some (.lst []) := upd_same
    have nlx : l ≠ x := fun y => by rw [y, x4] at hl; cases hl
    revert b5 x5 l5
    generalize upd H4 l (.lst []) = H5
    intro b5 x5 l5
    refine ⟨_, rfl, x, c.W, dx, _, rfl, x5, z.wc, z.w3, Nat.lt_of_lt_of_le (Nat.lt_succ_self 2) (by decide), ?_⟩
    rw [e3]
    have b6 := pt (o := .ins c.W dx [("lines", .ref p1), ("left", .ref p2), ("things", .ref l)]) b5
    have x6 : upd H5 x (.ins c.W dx [("lines", .ref p1), ("left", .ref p2), ("things", .ref l)]) x = some (.ins c.W dx [("lines", .ref p1), ("left", .ref p2), ("things", .ref l)]) := upd_same
    have l6 : upd H5 x (.ins c.W dx [("lines", .ref p1), ("left", .ref p2), ("things", .ref l)]) l = some (.lst []) := by rw [upd_ne nlx]; exact l5
    revert b6 x6 l6
    generalize upd H5 x (.ins c.W dx [("lines", .ref p1), ("left", .ref p2), ("things", .ref l)]) = H6
    intro b6 x6 l6
    intro gd hgd
    have hg0 : H gd = none := nx b6 x6 hgd
    have b7 : But9 x H (upd H6 gd (.dK [])) := b6.trans (Same.but x (same_new hgd _))
    have x7 : upd H6 gd (.dK []) x = some (.ins c.W dx [("lines", .ref p1), ("left", .ref p2), ("things", .ref l)]) := same_new hgd _ _ _ x6
    have l7 : upd H6 gd (.dK []) l = some (.lst []) := same_new hgd _ _ _ l6
    have g7 : upd H6 gd (.dK []) gd = some (.dK []) := upd_same
    have ngx : gd ≠ x := fun y => by rw [y, x6] at hgd; cases hgd
    revert b7 x7 l7 g7
    generalize upd H6 gd (.dK []) = H7
    intro b7 x7 l7 g7
    refine ⟨_, rfl, x, c.W, dx, _, rfl, x7, z.wc, z.w4, Nat.lt_of_lt_of_le (Nat.lt_succ_self 3) (by decide), ?_⟩
    rw [e4]
    have b8 := pt (o := .ins c.W dx (wF (.ref p1) (.ref p2) l gd)) b7
    have x8 : upd H7 x (.ins c.W dx (wF (.ref p1) (.ref p2) l gd)) x = some (.ins c.W dx (wF (.ref p1) (.ref p2) l gd)) := upd_same
    have l8 : upd H7 x (.ins c.W dx (wF (.ref p1) (.ref p2) l gd)) l = some (.lst []) := by rw [upd_ne nlx]; exact l7
    have g8 : upd H7 x (.ins c.W dx (wF (.ref p1) (.ref p2) l gd)) gd = some (.dK []) := by rw [upd_ne ngx]; exact g7
    revert b8 x8 l8 g8
    generalize upd H7 x (.ins c.W dx (wF (.ref p1) (.ref p2) l gd)) = H8
    intro b8 x8 l8 g8
    have w8 : WAt K c H8 x l gd (os0.take 0) := ⟨⟨dx, _, _, x8⟩, [], l8, rfl, fun i v e => by simp at e⟩
    have v8 : GivAt K H8 gd (gv0.take 0) := ⟨[], g8, Nat.zero_le _, fun n i h => by simp at h⟩
    clear e1 e2 e3 e4 pt nx
    have lf : vf.length = 8 := (af H8).2.len
    have lc : vc.length = 12 := (ac H8).2.len
    have l20 : os0.length = 20 := by decide +kernel
    refine ⟨pf, rfl, ⟨vf, (af H8).1⟩, for_tup (K := K) (a := pf) (xs := vf) (fun i σ H' => (∃ o2 o3, σ = [some (.ref x), some (.ref qi), o2, o3]) ∧ But9 x H H' ∧ WAt K c H' x l gd (os0.take i) ∧ GivAt K H' gd (gv0.take i)) ⟨⟨_, _, rfl⟩, b8, w8, v8⟩ (fun i σ H' _ _ => (af H').1) ?t1 ?s1⟩
    case t1 =>
      rintro i n σ H' hn ⟨⟨o2, o3, rfl⟩, bH, wH, vH⟩
      have hi : i < 8 := by rw [← lf]; exact (List.getElem?_eq_some_iff.mp hn).1
      obtain ⟨v', hv', hAi⟩ := AtAll.get (i := i) (af H').2 (d := .str (gfN.getD i "")) (by
        unfold gfD
        rw [List.getElem?_map, List.getD_eq_getElem?_getD, List.getElem?_eq_getElem (show i < gfN.length from hi)]; rfl)
      have en : n = .str (gfN.getD i "") := by rw [hn] at hv'; cases hv'; exact At_str.mp hAi
      subst en
      refine ⟨_, rfl, _, rfl, fun y dy hy hdy hne => ?_⟩
      obtain ⟨s1, c1⟩ := new_ins (C := c.G) hy hdy hne
      revert s1 c1
      generalize upd (upd H' dy (.own y)) y (.ins c.G dy []) = H1
      intro s1 c1
      refine ⟨y, dy, _, rfl, c1, fun H2 hB hy2 => ⟨rfl, ?_⟩⟩
      have s2 : Same H' H2 := fun p o e => by
        rw [hB p (fun z => by rw [z, hy] at e; cases e)]; exact s1 _ _ e
      have ltk : (os0.take i).length = i := by rw [List.length_take, l20]; omega
      refine ⟨x, l, gd, os0.take i, none, _, rfl, wH.same s2, ⟨y, c.G, dy, _, rfl, hy2, .inr rfl⟩, by omega, fun r H3 b3 w3 a3 => ?_⟩
      rw [ltk] at a3
      obtain ⟨tv2, ht2⟩ : ∃ tv, H2 l = some (.lst tv) := let ⟨_, tv, h, _⟩ := wH.same s2; ⟨tv, h⟩
      obtain ⟨kvs, hk3, lk3, hv3⟩ := (vH.same s2).but b3 ht2
      obtain ⟨⟨dx3, a', b', h3⟩, _⟩ := id w3
      have gj := gv_f i hi
      refine ⟨_, rfl, x, c.W, dx3, _, _, rfl, h3, z.wc, z.w4, wF_given .., _, rfl, gd, _, rfl, DPut.k (k := .inr (gfN.getD i "")) hk3 ?_, ⟨_, _, rfl⟩, fun p o ne e => ?_, ?_, ?_⟩
      · rw [List.length_take] at lk3; exact small1000 (by omega)
      · rw [upd_ne (fun z => by rw [z, hg0] at e; cases e)]
        exact b3 _ _ (fun z => by rw [z, hl0] at e; cases e) (s2 _ _ (bH _ _ ne e))
      · have := w3.put (o := .dK (putK kvs (.inr (gfN.getD i "")) r)) hk3
        rw [List.take_add_one, os_f i hi]
        exact this
      · rw [List.take_add_one, gj]
        exact GivAt.put hk3 lk3 hv3 a3 (gv_new gj)
    case s1 =>
      rintro σ H' ⟨⟨o2, o3, rfl⟩, bH, wH, vH⟩
      rw [lf] at wH vH
      refine ⟨pc, rfl, ⟨vc, (ac H').1⟩, for_tup (K := K) (a := pc) (xs := vc) (fun i σ H' => (∃ o2 o3, σ = [some (.ref x), some (.ref qi), o2, o3]) ∧ But9 x H H' ∧ WAt K c H' x l gd (os0.take (8 + i)) ∧ GivAt K H' gd (gv0.take (8 + i))) ⟨⟨_, _, rfl⟩, bH, wH, vH⟩ (fun i σ H' _ _ => (ac H').1) ?t2 ?s2⟩
      case s2 =>
        rintro σ H' ⟨⟨o2, o3, rfl⟩, bH, wH, vH⟩
        rw [lc] at wH vH
        rw [List.take_of_length_le (by rw [l20]; decide)] at wH
        rw [List.take_of_length_le (by decide +kernel)] at vH
        exact q H' l gd bH wH vH
      case t2 =>
        clear wH vH bH
        rintro i n σ H' hn ⟨⟨o2, o3, rfl⟩, bH, wH, vH⟩
        have hi : i < 12 := by rw [← lc]; exact (List.getElem?_eq_some_iff.mp hn).1
        have hgc : gcN[i]? = some (gcN.getD i ("", [])) := by rw [List.getD_eq_getElem?_getD, List.getElem?_eq_getElem (show i < gcN.length from hi)]; rfl
        obtain ⟨v', hv', hAi⟩ := AtAll.get (i := i) (ac H').2 (d := .tup [.str (gcN.getD i ("", [])).1, .tup ((gcN.getD i ("", [])).2.map D.str)]) (by
          unfold gcD
          rw [List.getElem?_map, hgc]; rfl)
        rw [hn] at hv'
        cases hv'
        have hok := gc_ok i hi
        have hos := os_ok i hi
        have gj := gv_c i hi
        have lb : (gcN.getD i ("", [])).2.length ≤ 3 := (show ∀ j, j < 12 → (gcN.getD j ("", [])).2.length ≤ 3 by decide +kernel) i hi
        generalize gcN.getD i ("", []) = nb at *
        obtain ⟨nm, bs⟩ := nb
        obtain ⟨ap, avs, rfl, sqa, hAa⟩ := At_tup.mp hAi
        obtain ⟨u1, r1, rfl, hu1, hr1⟩ := AtAll_cons.mp hAa
        obtain ⟨u2, r2, rfl, hu2, hr2⟩ := AtAll_cons.mp hr1
        rw [AtAll_nil.mp hr2] at sqa
        rw [At_str.mp hu1] at sqa
        obtain ⟨bp, bvs, rfl, sqb, hAb⟩ := At_tup.mp hu2
        have lbv := hAb.len
        rw [List.length_map] at lbv
        replace lbv : bvs.length = bs.length := lbv
        replace lb : bs.length ≤ 3 := lb
        refine ⟨ap, _, rfl, sqa, rfl, _, _, rfl, _, _, rfl, rfl, ?_⟩
        obtain ⟨kv0, hk0, lk0, hv0⟩ := id vH
        obtain ⟨⟨dx0, a0, b0, hx0⟩, _⟩ := id wH
        refine ⟨_, rfl, _, rfl, _, rfl, bp, rfl, ⟨bvs, sqb⟩, [.ref x], ⟨rfl, fun j i h => ?_⟩, compG_one (vs := [.ref x]) (tc := tTrue) bvs.length (fun i => bvs.getD i .non) (fun _ => true) (fun i v H' => At K H' (thD (ixN9 (bs.getD i ""))) v) (fun _ _ _ _ s z => At.same s _ _ z) (by omega) (itt_stop sqb) (itt_go sqb) (itt_yld sqb) (fun i H2 Q' hi s2 k => k H2 (Same.refl _)) (fun j H1 D l' Q' hj _ s1 _ hDl k => ?_) fun D H1 ys hD s1 hl1 hP => ?_⟩
        · match j, h with
          | 0, h => cases h; exact ⟨_, rfl, rfl⟩
          | j + 1, h => simp at h
        · have hj' : j < bs.length := by omega
          have ej : bs[j]? = some bs[j] := List.getElem?_eq_getElem hj'
          have eo : bs.getD j "" = bs[j] := by rw [List.getD_eq_getElem?_getD, ej]; rfl
          obtain ⟨v', hv', hAj⟩ := AtAll.get (i := j) hAb (d := .str bs[j]) (by rw [List.getElem?_map, ej]; rfl)
          have ev : bvs.getD j .non = .str bs[j] := by rw [List.getD_eq_getElem?_getD, hv']; exact At_str.mp hAj
          rw [eo] at k
          rw [ev]
          obtain ⟨v, e, hA⟩ := hv0 _ _ (hok bs[j] (List.getElem_mem hj'))
          refine ⟨_, rfl, x, c.W, dx0, _, _, rfl, s1 _ _ hx0, z.wc, z.w4, wF_given .., _, rfl, gd, v, rfl, ?_, k v H1 (Same.refl _) (At.wo hDl _ _ (At.same s1 _ _ hA))⟩
          rw [← e]
          exact DGet.k (k := .inr bs[j]) (s1 _ _ hk0)
        · have hAy := (hP.mono (fun i v z => At.same (wo_same H1 D) _ _ z)).at
          rw [List.filter_eq_self.mpr (fun _ _ => rfl), lbv, range_map bs "" (fun e => thD (ixN9 e))] at hAy
          intro dn hdn
          have s2 : Same H1 (upd H1 dn (.dK [])) := same_new hdn _
          have d2 : upd H1 dn (.dK []) dn = some (.dK []) := upd_same
          revert s2 d2
          generalize upd H1 dn (.dK []) = H2
          intro s2 d2
          have s12 := s1.trans s2
          have ltk : (os0.take (8 + i)).length = 8 + i := by rw [List.length_take, l20]; omega
          have eT : bs.map (fun e => thD (ixN9 e)) = (bs.map ixN9).map thD := by rw [List.map_map]; rfl
          refine ⟨x, l, gd, os0.take (8 + i), _, .ref D, _, dn, [], bs.map ixN9, rfl, wH.same s12, by omega, ⟨D, ys, rfl, .inl (SqL.of (s2 _ _ hl1)), ?_⟩, by rw [List.length_map]; omega, d2, fun r H3 b3 w3 a3 => ?_⟩
          · rw [← eT]
            exact AtAll.same s2 _ _ hAy
          rw [ltk] at a3 w3
          obtain ⟨tv2, ht2⟩ : ∃ tv, H2 l = some (.lst tv) := let ⟨_, tv, h, _⟩ := wH.same s12; ⟨tv, h⟩
          obtain ⟨kvs, hk3, lk3, hv3⟩ := (vH.same s12).but b3 ht2
          obtain ⟨⟨dx3, a', b', h3⟩, _⟩ := id w3
          refine ⟨_, rfl, x, c.W, dx3, _, _, rfl, h3, z.wc, z.w4, wF_given .., _, rfl, gd, _, rfl, DPut.k (k := .inr nm) hk3 ?_, ⟨_, _, rfl⟩, fun p o ne e => ?_, ?_, ?_⟩
          · rw [List.length_take] at lk3; exact small1000 (by omega)
          · rw [upd_ne (fun z => by rw [z, hg0] at e; cases e)]
            exact b3 _ _ (fun z => by rw [z, hl0] at e; cases e) (s12 _ _ (bH _ _ ne e))
          · have := w3.put (o := .dK (putK kvs (.inr nm) r)) hk3
            rw [show 8 + (i + 1) = 8 + i + 1 from rfl, List.take_add_one, hos]
            exact this
          · rw [show 8 + (i + 1) = 8 + i + 1 from rfl, List.take_add_one, gj]
            exact GivAt.put hk3 lk3 hv3 a3 (gv_new gj)
end
end GS
set_option Elab.async false
set_option linter.all false
set_option maxRecDepth 100000
set_option maxHeartbeats 4000000
namespace GS
open PySem PyProof.Rows
open L2 hiding pe_int pe_bl pe_non pe_str pv pe_glob pe_bltn pe_op pe_cmpR pe_one pe_and pe_ifExp pe_ix po_none po_some pe_slice pa_nil pa_cons pe_lst pe_tup pe_dnewK pe_callB pe_callTy pe_bm pt_cmpR pt_val pt_not pw_and1 pw_or1 pw_and pw_or pg_name pgs_nil pgs_cons pg_tup pi_list pi_tup pi_range1 ps_ret ps_expr ps_set ps_asg ps_if ps_while ps_for pss_nil pss_cons pss_one
open L3
abbrev sAt9 : Stmt := top9 23
abbrev sCell9 : Stmt := top9 24
theorem atI_mem9 {α : Type} {xs : List α} {k : Int} (h0 : 0 ≤ k) (h1 : k < (xs.length : Nat)) : ∃ v, v ∈ xs ∧ atI xs k = some v := by
  obtain ⟨n, rfl⟩ : ∃ n : Nat, k = (n : Int) := ⟨k.toNat, by omega⟩
  have hn : n < xs.length := by omega
  exact ⟨xs[n], List.getElem_mem hn, atI_nat (by simp [hn])⟩
theorem ite_b9 {b : Bool} {A B : Prop} (h1 : b = true → A) (h2 : b = false → B) : if b = true then A else B := by
  cases b with
  | true => exact iteT (h1 rfl)
  | false => exact iteF (h2 rfl)
theorem But9.sqL {K : PySem.W.Frag} {a b : Addr} {H H' : Hp} {xs : List V} (h : But9 b H H') (ne : a ≠ b) (hs : SqL K H a xs) : SqL K H' a xs := by
  rcases hs with (e | ⟨o', e⟩) | e
  · exact .inl (.inl (h _ _ ne e))
  · exact .inl (.inr ⟨o', h _ _ ne e⟩)
  · exact .inr e
section
variable {P : Program} {w : World} {K : PySem.W.Frag} {mg : Str → Option Value} {base : Heap} {f : Addr} {fd : FuncData}
/-! ### _law_cell_at -/
def spAt9 (K : PySem.W.Frag) : Sp := fun vs H Q _ => ∃ (a : Addr) (ns : List Int) (k : Nat), vs = [.ref a, .int (k : Nat)] ∧ SqL K H a (ns.map V.int) ∧ ∀ i : Int, Q (.int i) H
theorem scAt9 : FnScope ["_law_script", "_law_k"] ["_law_script", "_law_k"] (defScope sAt9) := ⟨rfl, rfl, rfl, by decide +kernel, rfl, by decide +kernel, by decide +kernel⟩
theorem ok_At9 (g : Glb9 mg) (F : Fun K "_law_cell_at" "_law_cell_at" sAt9 f fd) : FnOk P w K mg base CX0 1 f fd ["_law_script", "_law_k"] (spAt9 K) := by
  refine F.okI scAt9 (fun vs H Q E h => ?_) (fun cdv A outer s H vs Q E hr h => ?_)
  · obtain ⟨_, _, _, rfl, _⟩ := h; rfl
  obtain ⟨a, ns, k, rfl, hS, q⟩ := h
  refine ⟨_, pss_cons (ps_if (pt_cmpR op_lt (pv 1) (pe_callB call_len_seq rfl g.nLen b9Len (pa_cons (pv 0) pa_nil)) (nomark _)) (pss_one (ps_ret (pe_ix (r := rIxL K) ix_list (pv 0) (pv 1) (fun _ _ => rfl)))) pss_nil)
    (pss_one (ps_ret pe_int)), ?_⟩
  refine ⟨_, rfl, _, rfl, a, _, rfl, .inl hS, _, _, rfl, rfl, _, rfl, ?_⟩
  refine ite_b9 (fun e => ?_) (fun e => q 0)
  have h1 := of_decide_eq_true e
  obtain ⟨v, hv, hat⟩ := atI_mem9 (k := (k : Nat)) (by omega) h1
  obtain ⟨i, _, rfl⟩ := List.mem_map.mp hv
  exact ⟨_, rfl, _, rfl, a, _, _, _, rfl, rfl, hS, hat, q i⟩
/-! ### _law_cell -/
structure Spot9 (K : PySem.W.Frag) (H : Hp) (a b : Addr) (n : Nat) : Prop where
  cells : ∃ ns : List Int, SqL K H a (ns.map V.int) ∧ ns.length ≤ 63
  ne : a ≠ b
  spot : H b = some (.lst [.int (n : Nat)])
theorem Spot9.go {H H' : Hp} {a b : Addr} {n n' : Nat} (h : Spot9 K H a b n) (hb : But9 b H H') (hs : H' b = some (.lst [.int (n' : Nat)])) : Spot9 K H' a b n' := by
  obtain ⟨⟨ns, h1, h2⟩, h3, _⟩ := h
  exact ⟨⟨ns, hb.sqL h3 h1, h2⟩, h3, hs⟩
def spCell9 (K : PySem.W.Frag) : Sp := fun vs H Q _ => ∃ (a b : Addr) (n : Nat), vs = [.ref a, .ref b] ∧ Spot9 K H a b n ∧ n ≤ 1000000000000 ∧
  ∀ i H', 0 ≤ i → i < 306783380 → But9 b H H' → H' b = some (.lst [.int ((n + 1 : Nat) : Int)]) → Q (.int i) H'
theorem scCell9 : FnScope ["_law_cells", "_law_spot", "_law_k", "_law_base"] ["_law_cells", "_law_spot"] (defScope sCell9) := ⟨rfl, rfl, rfl, by decide +kernel, rfl, by decide +kernel, by decide +kernel⟩
theorem ok_Cell9 (g : Glb9 mg) (F : Fun K "_law_cell" "_law_cell" sCell9 f fd) : FnOk P w K mg base CX0 1 f fd ["_law_cells", "_law_spot"] (spCell9 K) := by
  refine F.okI scCell9 (fun vs H Q E h => ?_) (fun cdv A outer s H vs Q E hr h => ?_)
  · obtain ⟨a, b, n, rfl, _⟩ := h; rfl
  obtain ⟨a, b, n, rfl, ⟨⟨ns, hS, h63⟩, hab, hb⟩, hn, q⟩ := h
  refine ⟨_, pss_cons (ps_asg (pe_op op_add (pe_ix ix_list (pv 1) pe_int (fun _ _ => rfl)) pe_int) (.mk (L2.pg_sub (L2.pv 1) L2.pe_int set_list)))
    (pss_cons (ps_set (i := 2) scCell9.nd rfl (Or.inl rfl) (pe_ix ix_list (pv 1) pe_int (fun _ _ => rfl)))
    (pss_cons (ps_set (i := 3) scCell9.nd rfl (Or.inl rfl) (pe_op op_add (pe_op op_mul (pe_op op_mul pe_int (pv 2)) (pv 2)) (pe_op op_mul pe_int (pv 2))))
    (pss_cons (ps_if (pt_cmpR op_gt (pe_callB call_len_seq rfl g.nLen b9Len (pa_cons (pv 0) pa_nil)) pe_int (nomark _))
      (pss_one (ps_set (i := 3) scCell9.nd rfl (Or.inl rfl) (pe_op op_add (pv 3) (pe_op op_mul (pe_ix ix_list (pv 0) (pe_op op_mod (pv 2) (pe_callB call_len_seq rfl g.nLen b9Len (pa_cons (pv 0) pa_nil))) (fun _ _ => rfl)) (pe_op op_add pe_int (pe_op op_fdiv (pv 2) (pe_callB call_len_seq rfl g.nLen b9Len (pa_cons (pv 0) pa_nil)))))))) pss_nil)
    (pss_one (ps_ret (pe_op op_fdiv (pe_op op_mod (pe_op op_mul (pv 3) pe_int) pe_int) pe_int)))))), ?_⟩
  have hS' : ∀ o, SqL K (upd H b o) a (ns.map V.int) := fun o => (But9.put H o).sqL hab hS
  have hix : ixN [V.int (n : Int)].length 0 = some 0 := by
    unfold ixN
    rw [if_pos (by decide), if_pos (by show (0 : Int) < ((1 : Nat) : Int); decide)]
    rfl
  refine ⟨_, rfl, b, _, _, _, rfl, rfl, SqL.of hb, atI_nat (j := 0) rfl, _, _, rfl, rfl, _, rfl, b, _, _, 0, rfl, rfl, hb, hix, ?_⟩
  have e1 : ((n : Int) + 1) = ((n + 1 : Nat) : Int) := by omega
  refine ⟨_, rfl, b, _, _, _, rfl, rfl, SqL.of upd_same, atI_nat (j := 0) rfl, ?_⟩
  dsimp only
  show tSeq _ _ _ _ (upd H b (.lst [V.int ((n : Int) + 1)]))
  rw [e1]
  generalize hm : n + 1 = m at q
  have hm1 : m ≤ 1000000000001 := by omega
  have fin : ∀ B : Int, 0 ≤ B * 48271 % 2147483647 / 7 ∧ B * 48271 % 2147483647 / 7 < 306783380 := fun B => by
    have := Int.emod_nonneg (B * 48271) (b := 2147483647) (by decide)
    have := Int.emod_lt_of_pos (B * 48271) (b := 2147483647) (by decide)
    omega
  refine ⟨_, rfl, _, _, rfl, rfl, .inl ⟨by decide, by decide⟩, _, rfl, _, _, rfl, rfl, .inr ⟨by omega, by omega⟩, _, rfl, _, _, rfl, rfl, .inl ⟨by decide, by decide⟩, _, _, rfl, rfl, ?_⟩
  refine ⟨_, rfl, a, _, rfl, .inl (hS' _), _, _, rfl, rfl, _, rfl, ?_⟩
  refine ite_b9 (fun e => ?_) (fun e => ?_)
  · have h0 : (0 : Int) < ((ns.map V.int).length : Nat) := of_decide_eq_true e
    have hlen : ((ns.map V.int).length : Nat) ≤ 63 := by rw [List.length_map]; exact h63
    have k0 := Int.emod_nonneg (m : Int) (b := ((ns.map V.int).length : Nat)) (by omega)
    have k1 := Int.emod_lt_of_pos (m : Int) (b := ((ns.map V.int).length : Nat)) h0
    obtain ⟨v, hv, hat⟩ := atI_mem9 k0 k1
    obtain ⟨z, _, rfl⟩ := List.mem_map.mp hv
    have d0 : 0 ≤ (m : Int) / ((ns.map V.int).length : Nat) := Int.ediv_nonneg (by omega) (by omega)
    have d1 : (m : Int) / ((ns.map V.int).length : Nat) ≤ m := Int.ediv_le_self _ (by omega)
    refine ⟨_, rfl, _, rfl, _, rfl, _, rfl, a, _, rfl, .inl (hS' _), _, _, rfl, rfl, h0, a, _, _, _, rfl, rfl, hS' _, hat, _, rfl, _, rfl, a, _, rfl, .inl (hS' _), _, _, rfl, rfl, ⟨h0, by show _ < (1073741824 : Int); omega⟩, _, _, rfl, rfl, _, _, rfl, rfl, .inr ⟨by show _ < 1 + (m : Int) / _; omega, by show 1 + (m : Int) / _ < _; omega⟩, _, _, rfl, rfl, ?_⟩
    refine ⟨_, rfl, _, _, rfl, rfl, .inr ⟨by decide, by decide⟩, _, _, rfl, rfl, (by show (0 : Int) < 2147483647; decide), _, _, rfl, rfl, ⟨by decide, by decide⟩, ?_⟩
    exact q _ _ (fin _).1 (fin _).2 (But9.put H _) upd_same
  · refine ⟨_, rfl, _, _, rfl, rfl, .inr ⟨by decide, by decide⟩, _, _, rfl, rfl, (by show (0 : Int) < 2147483647; decide), _, _, rfl, rfl, ⟨by decide, by decide⟩, ?_⟩
    exact q _ _ (fin _).1 (fin _).2 (But9.put H _) upd_same
end
end GS
set_option Elab.async false
set_option linter.all false
set_option maxRecDepth 100000
set_option maxHeartbeats 4000000
namespace GS
open PySem PyProof.Rows
open L2 hiding pe_int pe_bl pe_non pe_str pv pe_glob pe_bltn pe_op pe_cmpR pe_one pe_and pe_ifExp pe_ix po_none po_some pe_slice pa_nil pa_cons pe_lst pe_tup pe_dnewK pe_callB pe_callTy pe_bm pt_cmpR pt_val pt_not pw_and1 pw_or1 pw_and pw_or pg_name pgs_nil pgs_cons pg_tup pi_list pi_tup pi_range1 ps_ret ps_expr ps_set ps_asg ps_if ps_while ps_for pss_nil pss_cons pss_one
open L3
abbrev sLists : Stmt := top9 29
theorem b9Sort : bootBuiltins "sorted" = some (.builtin "sorted") := by decide +kernel
theorem vals_ints : ∀ {us : List Value} {ns : List Int}, IntsAre us ns → Vals (ns.map V.int) us
  | _, _, .nil => .nil
  | _, _, .cons n t h => .cons ⟨t, rfl⟩ (vals_ints h)
/-! ### sorted(ints) -/
def rSort (K : PySem.W.Frag) : List V → Hp → VK → Prop := fun xs H Q => ∃ (p : Addr) (ns : List Int), xs = [.ref p] ∧ SqL K H p (ns.map V.int) ∧ ns.length < 64 ∧ ∀ l (ms : List Int), H l = none → ms.Perm ns → Q (.ref l) (upd H l (.lst (ms.map V.int)))
theorem call_sortedI {X : Cx} : CallR X (.builtin "sorted") (rSort X.K) := by
  intro pins s σ H xs us Q I r h
  obtain ⟨p, ns, rfl, hq, h64, q⟩ := h
  obtain ⟨u, rfl, ru⟩ := vals1 r
  cases ru
  obtain ⟨its, rv, pl, hz⟩ := I.list hq
  have hl := rv.length
  rw [List.length_map] at hl
  refine sorted_ints pl.isList (intsAre_of rv) (by omega) fun out ns' a1 a2 a3 => ?_
  obtain ⟨e, he⟩ := sortedAll_at s.heap its out
  have hl2 := a2.length_eq
  refine ⟨.ref (s.heap.objs.size + 1), _, I.laid (t' := s.toks) (o := .lst (ns'.map V.int)) (fun b u q => sortedAll_old q) (Nat.le_succ _) ⟨?_, out.toList, e, vals_ints a1, he⟩, rfl, q _ ns' (I.hok.fresh (Nat.le_succ _)) a2⟩
  rw [List.length_map]
  exact small (by omega)
theorem inVi (z : Int) (l : List Int) : inV (.int z) (l.map V.int) = decide (z ∈ l) := by
  unfold inV
  rw [List.any_map]
  refine Bool.eq_iff_iff.mpr ?_
  rw [List.any_eq_true, decide_eq_true_iff]
  constructor
  · rintro ⟨x, hx, h⟩
    have h' : (x == z) = true := h
    rw [← eq_of_beq h']; exact hx
  · exact fun h => ⟨z, h, by show (z == z) = true; exact beq_self_eq_true z⟩
theorem notInVi (z : Int) (l : List Int) : (if true = true then !inV (.int z) (l.map V.int) else inV (.int z) (l.map V.int)) = !decide (z ∈ l) := by rw [if_pos rfl, inVi]
theorem flat_ints (l : List Int) : (l.map V.int).all flatV = true := by rw [List.all_map, List.all_eq_true]; exact fun _ _ => rfl
/-! ### rows of numbers -/
inductive IRows (H : Hp) (b p : Addr) : List (List Int) → List V → Prop
  | nil : IRows H b p [] []
  | snoc {nss : List (List Int)} {vs : List V} {ns : List Int} {q : Addr} : IRows H b p nss vs → H q = some (.lst (ns.map V.int)) → q ≠ b → q ≠ p → ns.Nodup → ns.length ≤ 6 → IRows H b p (nss ++ [ns]) (vs ++ [.ref q])
theorem IRows.keep {H H' : Hp} {b p : Addr} (h : ∀ q o, q ≠ b → q ≠ p → H q = some o → H' q = some o) : ∀ {nss : List (List Int)} {vs : List V}, IRows H b p nss vs → IRows H' b p nss vs
  | _, _, .nil => .nil
  | _, _, .snoc r e n1 n2 d l => .snoc (r.keep h) (h _ _ n1 n2 e) n1 n2 d l
theorem IRows.len {H : Hp} {b p : Addr} : ∀ {nss : List (List Int)} {vs : List V}, IRows H b p nss vs → vs.length = nss.length
  | _, _, .nil => rfl
  | _, _, .snoc r _ _ _ _ _ => by rw [List.length_append, List.length_append, r.len]; rfl
section
variable {P : Program} {w : World} {K : PySem.W.Frag} {mg : Str → Option Value} {base : Heap} {f : Addr} {fd : FuncData}
def spLists (K : PySem.W.Frag) : Sp := fun vs H Q _ => ∃ (a b : Addr) (n : Nat), vs = [.ref a, .ref b] ∧ Spot9 K H a b n ∧ n ≤ 100000000 ∧
  ∀ p H' n' nss rvs, But9 b H H' → H' b = some (.lst [.int (n' : Nat)]) → n' ≤ n + 100 → H p = none → p ≠ b → H' p = some (.lst rvs) → IRows H' b p nss rvs → nss.length ≤ 8 → Q (.ref p) H'
theorem scLists : FnScope ["_law_cells", "_law_spot", "_law_found", "_law_k", "_law_n", "_law_row", "_law_j", "_law_one"] ["_law_cells", "_law_spot"] (defScope sLists) := ⟨rfl, rfl, rfl, by decide +kernel, rfl, by decide +kernel, by decide +kernel⟩
theorem ok_Lists (g : Glb9 mg) (F : Fun K "_law_lists" "_law_lists" sLists f fd) (dC : Def P w K mg base "_law_cell" ["_law_cells", "_law_spot"] 1 (spCell9 K)) : FnOk P w K mg base CX0 2 f fd ["_law_cells", "_law_spot"] (spLists K) := by
  refine F.okI scLists (fun vs H Q E h => ?_) (fun cdv A outer s H vs Q E hr h => ?_)
  · obtain ⟨_, _, _, rfl, _⟩ := h; rfl
  obtain ⟨a, b, n, rfl, hS, hn, q⟩ := h
  refine ⟨_, pss_cons (ps_set (i := 2) scLists.nd rfl (Or.inl rfl) (pe_lst pa_nil))
    (pss_cons (ps_for PassesOwn.never rfl (pi_range1 rfl g.nRange (pa_cons (pe_op op_mod (L3.pe_def dC hr (by decide) rfl (pa_cons (pv 0) (pa_cons (pv 1) pa_nil))) pe_int) pa_nil)) (pg_name (i := 3) scLists.nd rfl (Or.inl rfl))
      (pss_cons (ps_set (i := 4) scLists.nd rfl (Or.inl rfl) (L3.pe_def dC hr (by decide) rfl (pa_cons (pv 0) (pa_cons (pv 1) pa_nil))))
      (pss_cons (ps_set (i := 5) scLists.nd rfl (Or.inl rfl) (pe_lst pa_nil))
      (pss_cons (ps_for PassesOwn.never rfl (pi_range1 rfl g.nRange (pa_cons (pe_op op_mod (pv 4) pe_int) pa_nil)) (pg_name (i := 6) scLists.nd rfl (Or.inl rfl))
        (pss_cons (ps_set (i := 7) scLists.nd rfl (Or.inl rfl) (pe_op op_mod (L3.pe_def dC hr (by decide) rfl (pa_cons (pv 0) (pa_cons (pv 1) pa_nil))) (pe_ix (r := rIxL K) ix_list (pe_lst (pa_cons pe_int (pa_cons pe_int pa_nil))) (pe_op op_mod (pe_op op_fdiv (pv 4) pe_int) pe_int) (fun _ _ => rfl))))
        (pss_one (ps_if (pt_cmpR op_notIn_seq (pv 7) (pv 5) rfl) (pss_one (ps_expr (pe_bm PySem.F.plainAttrs_list PySem.F.slot_list_append PySem.F.type_list_append mt_append (pv 5) (pa_cons (pv 7) pa_nil)))) pss_nil))))
      (pss_one (ps_expr (pe_bm PySem.F.plainAttrs_list PySem.F.slot_list_append PySem.F.type_list_append mt_append (pv 2) (pa_cons (pe_ifExp (pt_cmpR op_gt (pe_op op_mod (pe_op op_fdiv (pv 4) pe_int) pe_int) pe_int (nomark _)) (pe_callB call_sortedI rfl g.nSort b9Sort (pa_cons (pv 5) pa_nil)) (pv 5)) pa_nil))))))))
    (pss_one (ps_ret (pv 2)))), ?main⟩
  case main =>
    refine ⟨Nat.zero_le _, fun fl hfl => ?_⟩
    have nfb : fl ≠ b := fun z => by rw [z, hS.spot] at hfl; cases hfl
    have s1 : Same H (upd H fl (.lst [])) := same_new hfl _
    have f1 : upd H fl (.lst []) fl = some (.lst []) := upd_same
    revert s1 f1
    generalize upd H fl (.lst []) = H1
    intro s1 f1
    have S1 : Spot9 K H1 a b n := hS.go (Same.but b s1) (s1 _ _ hS.spot)
    refine ⟨_, rfl, _, rfl, a, b, n, rfl, S1, by omega, fun i0 H2 i00 i01 b2 h2 => ?_⟩
    refine ⟨_, _, rfl, rfl, (by show (0 : Int) < 9; decide), i0 % 9, rfl, by omega, by omega, ?_⟩
    have f2 : H2 fl = some (.lst []) := b2 _ _ nfb f1
    have S2 : Spot9 K H2 a b (n + 1) := S1.go b2 h2
    have B2 : But9 b H H2 := (Same.but b s1).trans b2
    have l9 : (i0 % 9).toNat ≤ 8 := by omega
    refine for_range (fun i σ H' => (∃ o3 o4 o5 o6 o7, σ = [some (.ref a), some (.ref b), some (.ref fl), o3, o4, o5, o6, o7]) ∧ ∃ n' nss rvs, But9 b H H' ∧ Spot9 K H' a b n' ∧ n' ≤ n + 1 + 8 * i ∧ H' fl = some (.lst rvs) ∧ IRows H' b fl nss rvs ∧ nss.length = i) ⟨⟨_, _, _, _, _, rfl⟩, n + 1, [], [], B2, S2, by omega, f2, .nil, rfl⟩ ?turn ?stop
    case stop =>
      rintro σ H' ⟨⟨o3, o4, o5, o6, o7, rfl⟩, n', nss, rvs, BH, SH, hn', hf, hR, hl⟩
      exact ⟨_, rfl, q fl H' n' nss rvs BH SH.spot (by omega) hfl nfb hf hR (by omega)⟩
    case turn =>
      rintro i σ H' hi ⟨⟨o3, o4, o5, o6, o7, rfl⟩, n', nss, rvs, BH, SH, hn', hf, hR, hl⟩
      refine ⟨_, rfl, _, rfl, a, b, n', rfl, SH, by omega, fun m H3 m0 m1 b3 h3 => ?_⟩
      refine ⟨Nat.zero_le _, fun rl hrl => ?_⟩
      have S3 : Spot9 K H3 a b (n' + 1) := SH.go b3 h3
      have f3 : H3 fl = some (.lst rvs) := b3 _ _ nfb hf
      have R3 := hR.keep (fun q o n1 n2 e => b3 q o n1 e)
      have s4 : Same H3 (upd H3 rl (.lst [])) := same_new hrl _
      have r4 : upd H3 rl (.lst []) rl = some (.lst []) := upd_same
      have nrb : rl ≠ b := fun z => by rw [z, h3] at hrl; cases hrl
      have nrf : rl ≠ fl := fun z => by rw [z, f3] at hrl; cases hrl
      have nra : H rl = none := by
        cases e : H rl with
        | none => rfl
        | some u => rw [b3 _ _ nrb (BH _ _ nrb e)] at hrl; cases hrl
      revert s4 r4
      generalize upd H3 rl (.lst []) = H4
      intro s4 r4
      refine ⟨_, rfl, _, _, rfl, rfl, (by show (0 : Int) < 7; decide), m % 7, rfl, by omega, by omega, ?_⟩
      have l7 : (m % 7).toNat ≤ 6 := by omega
      have toH : ∀ H', (∀ q o, q ≠ b → q ≠ rl → H4 q = some o → H' q = some o) → But9 b H H' := fun H' kp q o n1 e => kp q o n1 (fun z => by rw [z, nra] at e; cases e) (s4 _ _ (b3 _ _ n1 (BH _ _ n1 e)))
      refine for_range (fun j σ H' => (∃ o3 o6 o7, σ = [some (.ref a), some (.ref b), some (.ref fl), o3, some (.int m), some (.ref rl), o6, o7]) ∧ ∃ n2 ns, (∀ q o, q ≠ b → q ≠ rl → H4 q = some o → H' q = some o) ∧ Spot9 K H' a b n2 ∧ n2 ≤ n' + 1 + j ∧ H' rl = some (.lst (ns.map V.int)) ∧ ns.Nodup ∧ ns.length ≤ j) ⟨⟨_, _, _, rfl⟩, n' + 1, [], fun _ _ _ _ e => e, S3.go (Same.but b s4) (s4 _ _ h3), by omega, r4, List.nodup_nil, Nat.zero_le _⟩ ?turn2 ?stop2
      case turn2 =>
        rintro j σ H' hj ⟨⟨o3, o6, o7, rfl⟩, n2, ns, kp, S5, hn2, hr5, hnd, hlen⟩
        refine ⟨_, rfl, _, rfl, a, b, n2, rfl, S5, by omega, fun v H5 v0 v1 b5 h5 => ?_⟩
        refine ⟨by show 2 ≤ sizeLine; decide, fun p4 hp4 => ?_⟩
        have s6 : Same H5 (upd H5 p4 (.lst [.int 4, .int 9])) := same_new hp4 _
        have q6 : upd H5 p4 (.lst [.int 4, .int 9]) p4 = some (.lst [.int 4, .int 9]) := upd_same
        revert s6 q6
        generalize upd H5 p4 (.lst [.int 4, .int 9]) = H6
        intro s6 q6
        obtain ⟨v', hv', hat⟩ := atI_mem9 (xs := [V.int 4, V.int 9]) (k := m / 7 % 2) (by omega) (by show m / 7 % 2 < 2; omega)
        obtain ⟨zz, hz, rfl⟩ : ∃ zz : Int, 0 < zz ∧ v' = .int zz := by
          rcases List.mem_cons.mp hv' with e | e
          · exact ⟨4, by decide, e⟩
          · exact ⟨9, by decide, List.mem_singleton.mp e⟩
        refine ⟨_, rfl, _, _, rfl, rfl, ⟨by decide, by decide⟩, _, _, rfl, rfl, (by show (0 : Int) < 2; decide), p4, _, _, _, rfl, rfl, SqL.of q6, hat, _, _, rfl, rfl, hz, ?_⟩
        have B6 : But9 b H' H6 := b5.trans (Same.but b s6)
        have r6 : H6 rl = some (.lst (ns.map V.int)) := B6 _ _ nrb hr5
        have S6 : Spot9 K H6 a b (n2 + 1) := S5.go B6 (s6 _ _ h5)
        have kp6 : ∀ q o, q ≠ b → q ≠ rl → H4 q = some o → H6 q = some o := fun q o n1 n2 e => B6 q o n1 (kp q o n1 n2 e)
        refine ⟨_, rfl, _, rfl, rl, _, rfl, .inl (SqL.of r6), rfl, flat_ints ns, _, rfl, ?_⟩
        rw [notInVi]
        by_cases hin : v % zz ∈ ns
        · rw [decide_eq_true hin]
          exact iteF ⟨⟨_, _, _, rfl⟩, n2 + 1, ns, kp6, S6, by omega, r6, hnd, by omega⟩
        · rw [decide_eq_false hin]
          have lm : (ns.map V.int).length = ns.length := List.length_map ..
          have kp7 : ∀ q o, q ≠ b → q ≠ rl → H4 q = some o → upd H6 rl (.lst (ns.map V.int ++ [.int (v % zz)])) q = some o := fun q o n1 n2 e => by rw [upd_ne n2]; exact kp6 q o n1 n2 e
          refine iteT ⟨_, rfl, .inl ⟨rfl, _, SqL.of r6⟩, _, rfl, rl, _, _, rfl, rfl, r6, small1000 (by omega), ⟨_, _, _, rfl⟩, n2 + 1, ns ++ [v % zz], kp7, hS.go (toH _ kp7) ?_, by omega, ?_, ?_, by rw [List.length_append, List.length_singleton]; omega⟩
          · rw [upd_ne (Ne.symm nrb)]; exact S6.spot
          · rw [List.map_append]; exact upd_same
          · exact List.nodup_append.mpr ⟨hnd, List.nodup_cons.mpr ⟨by simp, List.nodup_nil⟩, fun x hx y hy z => hin (by rw [List.mem_singleton] at hy; rw [← hy, ← z]; exact hx)⟩
      case stop2 =>
        rintro σ H' ⟨⟨o3, o6, o7, rfl⟩, n2, ns, kp, S5, hn2, hr5, hnd, hlen⟩
        have f5 : H' fl = some (.lst rvs) := kp _ _ nfb (Ne.symm nrf) (s4 _ _ f3)
        have BH5 : But9 b H H' := fun q o n1 e => kp q o n1 (fun z => by rw [z, nra] at e; cases e) (s4 _ _ (b3 _ _ n1 (BH _ _ n1 e)))
        have R5 : IRows H' b fl nss rvs := by
          have hne : ∀ q o, q ≠ b → H3 q = some o → H' q = some o := fun q o n1 e => kp q o n1 (fun z => by rw [z, hrl] at e; cases e) (s4 _ _ e)
          exact R3.keep (fun q o n1 _ e => hne q o n1 e)
        refine ⟨_, rfl, .inl ⟨rfl, rvs, SqL.of f5⟩, _, rfl, _, _, rfl, rfl, ⟨by decide, by decide⟩, _, _, rfl, rfl, (by show (0 : Int) < 3; decide), _, _, rfl, rfl, _, rfl, ?_⟩
        have lr := hR.len
        have S7 : ∀ (H6 : Hp) (o : HO), Same H' H6 → Spot9 K (upd H6 fl o) a b n2 ∧ But9 b H (upd H6 fl o) := fun H6 o s6 => by
          have B7 : But9 b H (upd H6 fl o) := fun q u n1 e => by
            rw [upd_ne (fun z => by rw [z, hfl] at e; cases e)]; exact s6 _ _ (BH5 _ _ n1 e)
          exact ⟨hS.go B7 (by rw [upd_ne (Ne.symm nfb)]; exact s6 _ _ S5.spot), B7⟩
        have R7 : ∀ (H6 : Hp) (o : HO), Same H' H6 → IRows (upd H6 fl o) b fl nss rvs := fun H6 o s6 => R5.keep fun q u _ n2 e => by rw [upd_ne n2]; exact s6 _ _ e
        refine ite_b9 (fun e => ?_) (fun e => ?_)
        · refine ⟨_, rfl, rl, ns, rfl, SqL.of hr5, by omega, fun sl ms hsl hpm => ?_⟩
          have s6 : Same H' (upd H' sl (.lst (ms.map V.int))) := same_new hsl _
          have r6 : upd H' sl (.lst (ms.map V.int)) sl = some (.lst (ms.map V.int)) := upd_same
          have n1 : sl ≠ b := fun z => by rw [z, S5.spot] at hsl; cases hsl
          have n2' : sl ≠ fl := fun z => by rw [z, f5] at hsl; cases hsl
          revert s6 r6
          generalize upd H' sl (.lst (ms.map V.int)) = H6
          intro s6 r6
          exact ⟨fl, rvs, _, rfl, rfl, s6 _ _ f5, small1000 (by omega), ⟨_, _, _, _, _, rfl⟩, n2, nss ++ [ms], _, (S7 H6 _ s6).2, (S7 H6 _ s6).1, by omega, upd_same, .snoc (R7 H6 _ s6) (by rw [upd_ne n2']; exact r6) n1 n2' (hpm.nodup_iff.mpr hnd) (by rw [hpm.length_eq]; omega), by rw [List.length_append, hl]; rfl⟩
        · refine ⟨_, rfl, ?_⟩
          exact ⟨fl, rvs, _, rfl, rfl, f5, small1000 (by omega), ⟨_, _, _, _, _, rfl⟩, n2, nss ++ [ns], _, (S7 H' _ (Same.refl _)).2, (S7 H' _ (Same.refl _)).1, by omega, upd_same, .snoc (R7 H' _ (Same.refl _)) (by rw [upd_ne nrf]; exact hr5) nrb nrf hnd (by omega), by rw [List.length_append, hl]; rfl⟩
end
end GS
set_option Elab.async false
set_option linter.all false
set_option maxRecDepth 100000
set_option maxHeartbeats 4000000
namespace GS
open PySem PyProof.Rows
open L2 hiding pe_int pe_bl pe_non pe_str pv pe_glob pe_bltn pe_op pe_cmpR pe_one pe_and pe_ifExp pe_ix po_none po_some pe_slice pa_nil pa_cons pe_lst pe_tup pe_dnewK pe_callB pe_callTy pe_bm pt_cmpR pt_val pt_not pw_and1 pw_or1 pw_and pw_or pg_name pgs_nil pgs_cons pg_tup pi_list pi_tup pi_range1 ps_ret ps_expr ps_set ps_asg ps_if ps_while ps_for pss_nil pss_cons pss_one
open L3
abbrev sSame : Stmt := top9 25
theorem lookup2 {a b : Str} {x y c : Addr} {z : Str} (h : ([(a, x), (b, y)] : List (Str × Addr)).lookup z = some c) : (z = a ∧ c = x) ∨ (z = b ∧ c = y) := by
  rw [List.lookup_cons] at h
  split at h
  · rename_i e; exact .inl ⟨eq_of_beq e, by injection h with h; exact h.symm⟩
  · exact .inr (look1 h)
theorem tyVals : ∀ {Ts : List String} {its : List Value}, Vals (Ts.map V.ty) its → its = Ts.map Value.type
  | [], _, h => by rw [List.map_nil] at h; cases h; rfl
  | T :: Ts, _, h => by
    rw [List.map_cons] at h
    cases h with
    | cons a b => rw [tyVals b, show _ = Value.type T from a]; rfl
/-- a tree, or a list: its type -/
def TyAt (K : PySem.W.Frag) (H : Hp) (x : V) (T : String) : Prop := (∃ d, At K H d x ∧ T = tyD d) ∨ ∃ p us, x = .ref p ∧ SqL K H p us ∧ T = "list"
section
variable {X : Cx}
theorem kit_T {pins : List (Addr × Obj)} {σ : L2.St} {H : Hp} {s : Shared} {x : V} {u : Value} {T : String} (I : Inv X pins σ H s) (rx : RelV x u) (hx : TyAt X.K H x T) : ∃ HP, PySem.W.KitX X.K u (.type T) HP ∧ HP s.heap ∧ u ≠ Value.builtin "__main__.__loader__#opaque" := by
  rcases hx with ⟨d, h, rfl⟩ | ⟨p, us, rfl, h, rfl⟩
  · exact kit_D I rx h
  · cases (show u = Value.ref p from rx)
    obtain ⟨its, _, pl, _⟩ := I.list h
    obtain ⟨o, h1, h2, _⟩ := id pl.isList
    exact ⟨_, PySem.W.kitx_list, ⟨o, h1, h2⟩, (fun z => nomatch z)⟩
def rIsT (K : PySem.W.Frag) : List V → Hp → VK → Prop := fun xs H Q => ∃ (x : V) (T U : String) (b : Bool), xs = [x, .ty T] ∧ TyAt K H x U ∧ PySem.W.kitOne K (.type U) (.type T) = some b ∧ Q (.bl b) H
theorem call_isT : CallR X (.builtin "isinstance") (rIsT X.K) := by
  intro pins s σ H xs us Q I r h
  obtain ⟨x, T, U, b, rfl, hx, hk, q⟩ := h
  obtain ⟨u, w', rfl, r1, r2⟩ := vals2 r
  cases r2
  obtain ⟨HP, kx, hh, ne⟩ := kit_T I r1 hx
  exact PySem.W.kia_one kx I.kIn hh hk ne fun tk => ⟨.bl b, H, I.tok _, rfl, q⟩
def rIsTT (K : PySem.W.Frag) : List V → Hp → VK → Prop := fun xs H Q => ∃ (x : V) (p : Addr) (Ts : List String) (U : String) (b : Bool), xs = [x, .ref p] ∧ H p = some (.tup (Ts.map V.ty)) ∧ TyAt K H x U ∧ PySem.W.kitAny K (.type U) (Ts.map Value.type) = some b ∧ Q (.bl b) H
theorem call_isTT : CallR X (.builtin "isinstance") (rIsTT X.K) := by
  intro pins s σ H xs us Q I r h
  obtain ⟨x, p, Ts, U, b, rfl, hp, hx, hk, q⟩ := h
  obtain ⟨u, w', rfl, r1, r2⟩ := vals2 r
  cases r2
  obtain ⟨HP, kx, hh, ne⟩ := kit_T I r1 hx
  obtain ⟨_, its, rv, o, h1, h2, n, h3⟩ := (show ObjOk X.prog X.w H s.heap p (.tup (Ts.map V.ty)) from I.hok p _ hp)
  have hits : its = Ts.map Value.type := tyVals rv
  obtain ⟨oc, od, odt, osl⟩ := o
  dsimp only at h2 h3
  subst h2 h3 hits
  exact PySem.W.kia_tup kx I.kIn hh h1 hk ne fun tk => ⟨.bl b, H, I.tok _, rfl, q⟩
end
/-! ### _law_same, of what is the same -/
mutual
def slim : D → Bool
  | .tup xs => decide (xs.length ≤ 100) && slims xs
  | _ => true
def slims : List D → Bool
  | [] => true
  | x :: xs => slim x && slims xs
end
theorem slims_get : ∀ {ds : List D} {i : Nat} {d : D}, slims ds = true → ds[i]? = some d → slim d = true
  | [], _, _, _, e => by simp at e
  | x :: xs, 0, d, h, e => by
    rw [slims, Bool.and_eq_true] at h
    simp at e; subst e; exact h.1
  | x :: xs, i + 1, d, h, e => by
    rw [slims, Bool.and_eq_true] at h
    exact slims_get h.2 (by simpa using e)
section
variable {P : Program} {w : World} {K : PySem.W.Frag} {mg : Str → Option Value} {base : Heap} {f : Addr} {fd : FuncData}
def spSm (K : PySem.W.Frag) (n : Nat) : Sp := fun vs H Q _ => ∃ (x y : V), vs = [x, y] ∧ ((∃ d : D, At K H d x ∧ At K H d y ∧ dep d < n ∧ dep d ≤ 40 ∧ slim d = true) ∨ (∃ (p q : Addr) (us ws : List V) (ds : List D), x = .ref p ∧ y = .ref q ∧ SqL K H p us ∧ SqL K H q ws ∧ AtAll K H ds us ∧ AtAll K H ds ws ∧ deps ds + 1 < n ∧ deps ds ≤ 40 ∧ ds.length ≤ 100 ∧ slims ds = true)) ∧ ∀ H', Same H H' → Q (.bl true) H'
theorem scSm : FnScope ["_law_found", "_law_due"] ["_law_found", "_law_due"] (defScope sSame) := ⟨rfl, rfl, rfl, by decide +kernel, rfl, by decide +kernel, by decide +kernel⟩
theorem ok_Sm (g : Glb9 mg) (F : Fun K "_law_same" "_law_same" sSame f fd) (hm : mg "_law_same" = some (.ref f)) (hb : Binds K fd ["_law_found", "_law_due"] []) : ∀ n, FnOk P w K mg base CX0 n f fd ["_law_found", "_law_due"] (spSm K n)
  | 0 => ⟨fun vs H Q E h => by obtain ⟨_, _, rfl, _⟩ := h; rfl, fun A outer s H args us vs Q E _ _ _ _ h => by
      obtain ⟨_, _, _, h, _⟩ := h
      rcases h with ⟨_, _, _, h, _⟩ | ⟨_, _, _, _, _, _, _, _, _, _, _, h, _⟩
      · exact absurd h (Nat.not_lt_zero _)
      · exact absurd h (Nat.not_lt_zero _)⟩
  | n + 1 => by
    have dS : Def P w K mg base "_law_same" ["_law_found", "_law_due"] n (spSm K n) := ⟨f, fd, hm, F.kp, hb, ok_Sm g F hm hb n⟩
    refine F.okI scSm (fun vs H Q E h => ?_) (fun cdv A outer s H vs Q E hr h => ?_)
    · obtain ⟨_, _, rfl, _⟩ := h; rfl
    obtain ⟨x, y, rfl, hxy, q⟩ := h
    refine ⟨_, pss_cons (ps_if (pt_val (pe_callB call_isTT rfl g.nIsi b9Isi (pa_cons (pv 1) (pa_cons (pe_tup (pa_cons (pe_bltn (v := .ty "list") rfl g.nList b9List rfl) (pa_cons (pe_bltn (v := .ty "tuple") rfl g.nTuple b9Tuple rfl) pa_nil))) pa_nil))))
        (pss_cons (ps_if (LW.pt (pw_or (pt_cmpR op_ne (pe_callB call_isT rfl g.nIsi b9Isi (pa_cons (pv 0) (pa_cons (pe_bltn (v := .ty "list") rfl g.nList b9List rfl) pa_nil))) (pe_callB call_isT rfl g.nIsi b9Isi (pa_cons (pv 1) (pa_cons (pe_bltn (v := .ty "list") rfl g.nList b9List rfl) pa_nil))) (nomark _))
            (pw_or1 (pt_cmpR op_ne (pe_callB call_isT rfl g.nIsi b9Isi (pa_cons (pv 0) (pa_cons (pe_bltn (v := .ty "tuple") rfl g.nTuple b9Tuple rfl) pa_nil))) (pe_callB call_isT rfl g.nIsi b9Isi (pa_cons (pv 1) (pa_cons (pe_bltn (v := .ty "tuple") rfl g.nTuple b9Tuple rfl) pa_nil))) (nomark _))))) (pss_one (ps_ret pe_bl)) pss_nil)
        (pss_one (ps_ret (pe_and (pe_cmpR op_eq (pe_callB call_len_seq rfl g.nLen b9Len (pa_cons (pv 0) pa_nil)) (pe_callB call_len_seq rfl g.nLen b9Len (pa_cons (pv 1) pa_nil)) (nomark _))
          (pe_one (pe_callB (call_all rfl) rfl g.nAll b9All (pa_cons (.mk (L2.pe_compG (cl := [("_law_found", s.heap.objs.size + 1), ("_law_due", s.heap.objs.size + 2)]) (Xs := ["_law_k"]) (Nf := ["_law_found", "_law_due"]) (js := [0, 1]) ?k rfl (LI.out (pi_range1 rfl g.nRange (pa_cons (pe_callB call_len_seq rfl g.nLen b9Len (pa_cons (pv 1) pa_nil)) pa_nil))) (fun C s0 H0 fp => LG.out (pg_name (i := 0) (show (["_law_k", "_law_found", "_law_due"] : List Str).Nodup by decide +kernel) rfl (Or.inl rfl))) (fun C s0 H0 fp => pts_nil)
            (fun C s0 H0 fp => LE.out (L3.pe_def dS hr (Nat.le_refl _) rfl (pa_cons (pe_ix (r := rIx K) ix_seq (pv 1) (pv 0) (fun _ _ => rfl)) (pa_cons (pe_ix (r := rIx K) ix_seq (pv 2) (pv 0) (fun _ _ => rfl)) pa_nil)))))) pa_nil))))))) pss_nil)
      (pss_one (ps_ret (pe_and (pe_cmpR op_eq (pe_callB call_isT rfl g.nIsi b9Isi (pa_cons (pv 0) (pa_cons (pe_bltn (v := .ty "bool") rfl g.nBool b9Bool rfl) pa_nil))) (pe_callB call_isT rfl g.nIsi b9Isi (pa_cons (pv 1) (pa_cons (pe_bltn (v := .ty "bool") rfl g.nBool b9Bool rfl) pa_nil))) (nomark _)) (pe_one (pe_cmpR (op_eqD hr) (pv 0) (pv 1) (nomark _)))))), ?main⟩
    case k =>
      refine ⟨rfl, by decide +kernel, rfl, by decide +kernel, fun y c h => ?_, fun y hy => ?_, rfl, fun j y h => ?_⟩
      · rcases lookup2 h with ⟨rfl, rfl⟩ | ⟨rfl, rfl⟩ <;> rfl
      · have hy' : ([(".0", .local), ("_law_k", .local), ("_law_same", .globalImplicit), ("_law_due", .cell), ("_law_found", .cell)] : List (Str × NameKind)).lookup y = some .cell ∨ ([(".0", .local), ("_law_k", .local), ("_law_same", .globalImplicit), ("_law_due", .cell), ("_law_found", .cell)] : List (Str × NameKind)).lookup y = some .free := hy
        rcases hy' with z | z
        · have m := PySem.mem_of_lookup z
          simp at m
          rcases m with rfl | rfl
          · exact ⟨_, rfl⟩
          · exact ⟨_, rfl⟩
        · have m := PySem.mem_of_lookup z
          simp at m
      · match j, h with
        | 0, h => cases h; exact ⟨0, rfl, rfl, rfl, .inl rfl⟩
        | 1, h => cases h; exact ⟨1, rfl, rfl, rfl, .inl rfl⟩
        | j + 2, h => simp at h
    case main =>
      refine ⟨_, rfl, by show 2 ≤ sizeLine; decide, fun p hp => ?_⟩
      have s1 : Same H (upd H p (.tup [.ty "list", .ty "tuple"])) := same_new hp _
      have hp1 : upd H p (.tup [.ty "list", .ty "tuple"]) p = some (.tup [.ty "list", .ty "tuple"]) := upd_same
      revert s1 hp1
      generalize upd H p (.tup [.ty "list", .ty "tuple"]) = H1
      intro s1 hp1
      have key : (∃ (T : String) (b1 b2 : Bool) (px py : Addr) (vx vy : List V) (ds : List D), x = .ref px ∧ y = .ref py ∧ (SqL K H1 px vx ∨ SqT K H1 px vx) ∧ (SqL K H1 py vy ∨ SqT K H1 py vy) ∧ AtAll K H1 ds vx ∧ AtAll K H1 ds vy ∧ TyAt K H1 x T ∧ TyAt K H1 y T ∧ PySem.W.kitAny K (.type T) (["list", "tuple"].map Value.type) = some true ∧ PySem.W.kitOne K (.type T) (.type "list") = some b1 ∧ PySem.W.kitOne K (.type T) (.type "tuple") = some b2 ∧ deps ds < n ∧ deps ds ≤ 40 ∧ ds.length ≤ 100 ∧ slims ds = true) ∨
          (∃ d, At K H1 d x ∧ At K H1 d y ∧ dep d ≤ 40 ∧ PySem.W.kitAny K (.type (tyD d)) (["list", "tuple"].map Value.type) = some false ∧ ∃ b, PySem.W.kitOne K (.type (tyD d)) (.type "bool") = some b) := by
        rcases hxy with ⟨d, hx, hy, h1, h2, h3⟩ | ⟨px, py, us, ws, ds, rfl, rfl, q1, q2, a1, a2, h1, h2, h3, h4⟩
        · have hx1 := At.same s1 _ _ hx
          have hy1 := At.same s1 _ _ hy
          cases d with
          | tup ds =>
            obtain ⟨px, vx, ex, qx, ax⟩ := At_tup.mp hx1
            obtain ⟨py, vy, ey, qy, ay⟩ := At_tup.mp hy1
            rw [slim, Bool.and_eq_true, decide_eq_true_eq] at h3
            rw [dep] at h1 h2
            exact .inl ⟨"tuple", false, true, px, py, vx, vy, ds, ex, ey, .inr qx, .inr qy, ax, ay, .inl ⟨_, hx1, rfl⟩, .inl ⟨_, hy1, rfl⟩, rfl, rfl, rfl, by omega, by omega, h3.1, h3.2⟩
          | _ => exact .inr ⟨_, hx1, hy1, h2, rfl, _, rfl⟩
        · exact .inl ⟨"list", true, false, px, py, us, ws, ds, rfl, rfl, .inl (s1.seq q1), .inl (s1.seq q2), AtAll.same s1 _ _ a1, AtAll.same s1 _ _ a2, .inr ⟨px, us, rfl, s1.seq q1, rfl⟩, .inr ⟨py, ws, rfl, s1.seq q2, rfl⟩, rfl, rfl, rfl, by omega, h2, h3, h4⟩
      rcases key with ⟨T, b1, b2, px, py, vx, vy, ds, rfl, rfl, qx, qy, ax, ay, tx, ty, k1, k2, k3, hd, hd4, hlen, hsl⟩ | ⟨d, hx1, hy1, hd, k1, bb, k2⟩
      rotate_left
      · refine ⟨y, p, ["list", "tuple"], _, false, rfl, hp1, .inl ⟨d, hy1, rfl⟩, k1, _, rfl, iteF ?_⟩
        refine ⟨_, rfl, x, "bool", _, bb, rfl, .inl ⟨d, hx1, rfl⟩, k2, _, rfl, y, "bool", _, bb, rfl, .inl ⟨d, hy1, rfl⟩, k2, rfl, _, rfl, ?_⟩
        rw [decide_eq_true rfl]
        refine iteT ⟨_, rfl, _, rfl, _, _, hx1, hy1, Nat.le_trans hd (by decide), ?_⟩
        rw [eqD_refl]
        exact q _ s1
      have nn : ∀ b : Bool, (!decide (V.bl b = V.bl b)) = false := fun b => by simp
      refine ⟨_, p, ["list", "tuple"], T, true, rfl, hp1, ty, k1, _, rfl, iteT ?_⟩
      refine ⟨_, rfl, _, "list", T, b1, rfl, tx, k2, _, rfl, _, "list", T, b1, rfl, ty, k2, rfl, _, rfl, ?_⟩
      rw [nn]
      refine iteF ⟨_, rfl, _, "tuple", T, b2, rfl, tx, k3, _, rfl, _, "tuple", T, b2, rfl, ty, k3, rfl, _, rfl, ?_⟩
      rw [nn]
      have lx := ax.len
      have ly := ay.len
      refine iteF ⟨_, rfl, px, vx, rfl, qx, _, rfl, py, vy, rfl, qy, rfl, _, rfl, ?_⟩
      rw [lx, ly, decide_eq_true rfl]
      refine iteT ⟨_, rfl, py, vy, rfl, qy, _, rfl, by omega, by omega, ?_⟩
      refine ⟨[.ref px, .ref py], ⟨rfl, fun j i h => ?_⟩, compG_one (vs := [.ref px, .ref py]) (tc := tTrue) ds.length (fun i => .int (0 + (i : Nat))) (fun _ => true) (fun i v _ => v = .bl true) (fun _ _ _ _ _ z => z) (by omega) (fun H' _ => ?_) (fun i H' hi _ => ?_) (fun i H1 x H2 hi _ hy => ⟨hy.2, hy.1⟩) (fun i H2 Q' hi s2 k => k H2 (Same.refl _)) (fun j H2 D l' Q' hj _ s2 _ _ k => ?_) fun D H2 ys hD s2 hl2 hP => ?_⟩
      · match j, h with
        | 0, h => cases h; exact ⟨_, rfl, rfl⟩
        | 1, h => cases h; exact ⟨_, rfl, rfl⟩
        | j + 2, h => simp at h
      · show Int.toNat _ ≤ _
        omega
      · show i < Int.toNat _
        omega
      · have hdi : ds[j]? = some ds[j] := List.getElem?_eq_getElem hj
        obtain ⟨v1, hv1, hA1⟩ := AtAll.get ax hdi
        obtain ⟨v2, hv2, hA2⟩ := AtAll.get ay hdi
        have ei : (0 : Int) + (j : Nat) = (j : Nat) := by omega
        have ixx : ∀ (pz : Addr) (vz : List V) (v : V) (Q : VK), (SqL K H1 pz vz ∨ SqT K H1 pz vz) → vz[j]? = some v → Q v H2 → rIx K (.ref pz) (.int (0 + (j : Nat))) H2 Q := fun pz vz v Q hq hv hQ => by
          rw [ei]
          rcases hq with hq | hq
          · exact .inl ⟨pz, vz, _, v, rfl, rfl, s2.seq hq, atI_nat hv, hQ⟩
          · exact .inr (.inl ⟨pz, vz, _, v, rfl, rfl, Same.seqT s2 hq, atI_nat hv, hQ⟩)
        have hdd := dep_mem hdi
        refine ⟨_, rfl, _, rfl, ixx px vx v1 _ qx hv1 ⟨_, rfl, _, rfl, ixx py vy v2 _ qy hv2 ⟨v1, v2, rfl, .inl ⟨ds[j], At.same s2 _ _ hA1, At.same s2 _ _ hA2, by omega, by omega, slims_get hsl hdi⟩, fun H3 s3 => k _ H3 s3 rfl⟩⟩⟩
      · have e := hP.eq
        rw [List.filter_eq_self.mpr (fun _ _ => rfl)] at e
        refine ⟨D, (List.range ds.length).map fun _ => true, rfl, SqL.of (by rw [hl2, e, List.map_map]; rfl), ?_⟩
        rw [show ((List.range ds.length).map fun _ => true).all id = true from List.all_eq_true.mpr fun b hb => by obtain ⟨_, _, rfl⟩ := List.mem_map.mp hb; rfl]
        exact q _ (s1.trans s2)
end
end GS
set_option Elab.async false
set_option linter.all false
set_option maxRecDepth 100000
set_option maxHeartbeats 4000000
namespace L2
open PySem PySem.Spec PyProof.Rows PySem.Builtin PySem.Builtin.Str
/-! ### zip of two lists, walked -/
theorem Inv.turnedS {X : Cx} {pins : List (Addr × Obj)} {σ : St} {H : Hp} {s : Shared} {fp : List Addr} {h' : Heap} {t' : Nat} (I : Inv X pins σ H s) (k : ∀ b u, b ∉ fp → s.heap.get? b = some u → h'.get? b = some u)
    (hf : ∀ b ∈ fp, FpOk X pins H b) : Inv X pins σ H { s with heap := h', toks := t' } := by
  have nf : ∀ b u, H b = some u → b ∉ fp := fun b u e hb => by rw [(hf b hb).1] at e; cases e
  refine I.call' (ch := fp) (s' := { s with heap := h', toks := t' }) rfl ⟨fun b o q _ _ hx => k b o hx q, fun b o q _ _ hx => ⟨o.slots, k b o hx q⟩, fun b u q n _ => n, fun b o q hx => ⟨o, k b o hx q⟩, fun b xs q => q, fun b u xs q => q, fun b ps q => ⟨#[], ?_⟩⟩ ?_ I.bare
    fun b hb => ⟨(hf b hb).2.2.2.1, (hf b hb).2.1, (hf b hb).2.2.2.2.1, (hf b hb).2.2.2.2.2⟩
  · rw [q]; simp
  · intro b u e
    refine (I.hok b u e).stay (fun c v hc q => k c v ?_ q) (fun c q => q) fun c xs q => q
    rcases hc with z | z
    · rw [z]; exact nf b u e
    · exact nf c _ z
def Itz (K : PySem.W.Frag) (a b : Addr) : It :=
  ⟨fun i H => ∃ xs x ys y, SqL K H a xs ∧ xs[i]? = some x ∧ SqL K H b ys ∧ ys[i]? = some y, fun i H x H' => ∃ T u v, H T = none ∧ x = .ref T ∧ H' = upd H T (.tup [u, v]) ∧ (∀ xs, SqL K H a xs → xs[i]? = some u) ∧ ∀ ys, SqL K H b ys → ys[i]? = some v, fun i H => ∃ xs ys, SqL K H a xs ∧ SqL K H b ys ∧ (xs.length ≤ i ∨ ys.length ≤ i)⟩
theorem turn_zip {P : Program} {w : World} {K : PySem.W.Frag} {elts : List Expr} {x1 : Nat} {pos : Pos} {a b z TI TO i1 i2 : Addr} (D : ZipApart z TI TO i1 i2 a b) : Turn P w K (.Tuple elts x1 pos) (Itz K a b) [z, TI, TO, i1, i2] z (fun i h => IsZip h z TI TO .none ∧ IsPair h TI (.ref i1) (.ref i2) ∧ (∃ u v, IsPair h TO u v) ∧ h.IsListIter i1 a i ∧ h.IsListIter i2 b i) where
  mem := by simp
  obj := fun i h st c hc => by
    obtain ⟨h1, h2, ⟨u, v, h3⟩, ⟨o4, e4, c4, d4⟩, ⟨o5, e5, c5, d5⟩⟩ := st
    simp only [List.mem_cons, List.not_mem_nil, or_false] at hc
    rcases hc with rfl | rfl | rfl | rfl | rfl
    · exact ⟨_, h1, fun v z => by cases z⟩
    · exact ⟨_, h2, fun v z => by cases z⟩
    · exact ⟨_, h3, fun v z => by cases z⟩
    · exact ⟨_, e4, fun v z => by rw [d4] at z; cases z⟩
    · exact ⟨_, e5, fun v z => by rw [d5] at z; cases z⟩
  keep := fun i h h' st k => by
    obtain ⟨h1, h2, ⟨u, v, h3⟩, h4, h5⟩ := st
    exact ⟨k _ (by simp) _ h1, k _ (by simp) _ h2, ⟨u, v, k _ (by simp) _ h3⟩, h4.at fun o e => k _ (by simp) o e, h5.at fun o e => k _ (by simp) o e⟩
  item := by
    intro X hP hw hK hc i pins s σ H E I hf st hg
    subst hP hw hK
    obtain ⟨h1, h2, ⟨u0, v0, h3⟩, h4, h5⟩ := st
    obtain ⟨xs, x, ys, y, hq, hx, hq2, hy⟩ := hg
    obtain ⟨its, rv, p, hz⟩ := I.list hq
    obtain ⟨its2, rv2, p2, hz2⟩ := I.list hq2
    obtain ⟨u, hu, ru⟩ := rv.get hx
    obtain ⟨v, hv, rv'⟩ := rv2.get hy
    have hzl : z < s.heap.objs.size := Heap.lt_size h1
    refine wpAny_pyNext_zip_item D h1 h2 h3 h4 h5 p.isList p2.isList (x := u) (y := v) (by simpa using hu) (by simpa using hv) fun h' a1 a2 a3 a4 a5 a6 a7 => ?_
    refine ⟨_, rfl, wpAny_letOwnedTupleGo_zip a1 fun h'' b1 b2 => ?_⟩
    have kz : ∀ c o, c ≠ z → h'.get? c = some o → h''.get? c = some o := fun c o n e => (b2.2 c n).trans e
    have hlt : ∀ c ∈ [z, TI, TO, i1, i2], c < s.heap.objs.size := fun c hc => by
      obtain ⟨o4, e4, _⟩ := id h4
      obtain ⟨o5, e5, _⟩ := id h5
      simp only [List.mem_cons, List.not_mem_nil, or_false] at hc
      rcases hc with rfl | rfl | rfl | rfl | rfl
      · exact Heap.lt_size h1
      · exact Heap.lt_size h2
      · exact Heap.lt_size h3
      · exact Heap.lt_size e4
      · exact Heap.lt_size e5
    have hT : h''.get? s.heap.objs.size = some { cls := .type "tuple", data := .seq #[u, v] } := kz _ _ (Nat.ne_of_gt hzl) a5
    refine ⟨.ref s.heap.objs.size, upd H s.heap.objs.size (.tup [x, y]), ?_, rfl, ⟨_, x, y, I.hok.fresh (Nat.le_refl _), rfl, rfl, fun ws hw => by rw [I.list_inj hw hq]; exact hx, fun ws hw => by rw [I.list_inj hw hq2]; exact hy⟩, ⟨b1, kz _ _ D.TIz (a7 _ _ D.TIz D.TITO D.TIi1 D.TIi2 h2), ⟨_, _, kz _ _ D.TOz a2⟩, a3.at fun o e => kz _ o D.i1z e, a4.at fun o e => kz _ o D.i2z e⟩, fun c hc => ?_⟩
    · refine Inv.turnedNew (s := s) (h' := h'') (fp := [z, TI, TO, i1, i2]) (t' := s.toks) I (fun c o hc q => ?_) hf (Nat.le_refl _) ⟨by show 2 ≤ sizeLine; decide, _, .cons ru (.cons rv' .nil), ⟨_, hT, rfl, _, rfl⟩⟩
      simp only [List.mem_cons, List.not_mem_nil, or_false, not_or] at hc
      exact kz _ _ hc.1 (a7 c o hc.1 hc.2.2.1 hc.2.2.2.1 hc.2.2.2.2 q)
    · rw [upd_ne (Nat.ne_of_lt (hlt c hc))]
      exact (hf c hc).1
  done := by
    intro X hP hw hK hc i pins s σ H E I hf st hg
    subst hP hw hK
    obtain ⟨h1, h2, ⟨u0, v0, h3⟩, h4, h5⟩ := st
    obtain ⟨xs, ys, hq, hq2, hx⟩ := hg
    obtain ⟨its, rv, p, hz⟩ := I.list hq
    obtain ⟨its2, rv2, p2, hz2⟩ := I.list hq2
    have hl := rv.length
    have hl2 := rv2.length
    refine wpAny_pyNext_zip_end (I.ok.hd hc) D h1 h2 h3 h4 h5 p.isList p2.isList ?_ fun h' hk => ⟨rfl, Inv.turnedS (t' := s.toks) (fp := [z, TI, TO, i1, i2]) I (fun c o hc q => ?_) hf⟩
    · rcases hx with hx | hx
      · exact .inl (by simp; omega)
      · exact .inr (by simp; omega)
    · simp only [List.mem_cons, List.not_mem_nil, or_false, not_or] at hc
      exact hk c o hc.1 hc.2.2.1 hc.2.2.2.1 hc.2.2.2.2 q
  self := fun _ _ _ _ _ st h => wpAny_pyIter_zip st.1 h
theorem boot_zip : bootBuiltins "zip" = some (.type "zip") := by decide +kernel
section
variable {X : Cx} {elts : List Expr} {x1 : Nat} {tpos : Pos}
def iZip (K : PySem.W.Frag) (ta : TA) : TI := fun σ H R => ta σ H fun vs H1 => ∃ a b, vs = [.ref a, .ref b] ∧ (∃ xs, SqL K H1 a xs) ∧ (∃ ys, SqL K H1 b ys) ∧ R (Itz K a b) H1
theorem pi_zip {a b : Expr} {ta : TA} {p pos : Pos} (hg : Gl X "zip") (hm : X.mg "zip" = none) (ha : PA X [a, b] ta) (hs : starEach [a, b] X.env = (false, eval a X.env) :: starEach [b] X.env := by rfl) (hs2 : (backTo pos (starEach [b] X.env)).any (·.1) = false := by rfl) : PI X (.Tuple elts x1 tpos) (.Call (.Name "zip" p) [a, b] [] pos) (iZip X.K ta) := by
  intro pins s σ H R I h
  refine Call_ (ld_blt I hg hm boot_zip (PyProof.Rows.callWith_type1 (thn (ha pos pins s σ H _ I h) fun us s1 ⟨vs, H1, I1, r1, q1⟩ => ?_) hs hs2))
  obtain ⟨l1, l2, e, ⟨xs, hq⟩, ⟨ys, hq2⟩, q⟩ := q1
  subst e
  obtain ⟨u, v, rfl, ru, rv⟩ := vals2 r1
  cases ru
  cases rv
  obtain ⟨its, rv, p, hz⟩ := I1.list hq
  obtain ⟨its2, rv2, p2, hz2⟩ := I1.list hq2
  have lt1 : l1 < s1.heap.objs.size := let ⟨o, n, e, _⟩ := p; Heap.lt_size e
  have lt2 : l2 < s1.heap.objs.size := let ⟨o, n, e, _⟩ := p2; Heap.lt_size e
  refine call_zip_2 p.isList p2.isList fun h' hz hTI hTO hi1 hi2 hsz hk => wpAny_pyIter_zip hz ?_
  refine ⟨s1.heap.objs.size + 4, [s1.heap.objs.size + 4, s1.heap.objs.size + 2, s1.heap.objs.size + 3, s1.heap.objs.size, s1.heap.objs.size + 1], _, _, H1, rfl, I1.kept (t' := s1.toks) hk, turn_zip (zipApart_new lt1 lt2), ⟨hz, hTI, ⟨_, _, hTO⟩, hi1, hi2⟩, fun b hb => ?_, q⟩
  have hb' : s1.heap.objs.size ≤ b := by
    simp only [List.mem_cons, List.not_mem_nil, or_false] at hb
    rcases hb with rfl | rfl | rfl | rfl | rfl
    · exact Nat.le_add_right _ _
    · exact Nat.le_add_right _ _
    · exact Nat.le_add_right _ _
    · exact Nat.le_refl _
    · exact Nat.le_add_right _ _
  exact I1.fpOk hb' (I1.hok.fresh hb')
end
end L2
set_option Elab.async false
set_option linter.all false
set_option maxRecDepth 100000
set_option maxHeartbeats 4000000
namespace GS
open PySem PyProof.Rows
open L2 hiding pe_int pe_bl pe_non pe_str pv pe_glob pe_bltn pe_op pe_cmpR pe_one pe_and pe_ifExp pe_ix po_none po_some pe_slice pa_nil pa_cons pe_lst pe_tup pe_dnewK pe_callB pe_callTy pe_bm pt_cmpR pt_val pt_not pw_and1 pw_or1 pw_and pw_or pg_name pgs_nil pgs_cons pg_tup pi_list pi_tup pi_range1 ps_ret ps_expr ps_set ps_asg ps_if ps_while ps_for pss_nil pss_cons pss_one
open L3
section
variable {X : Cx}
/-! ### == of lists of trees -/
theorem fin_bl9 {pins : List (Addr × Obj)} {σ : L2.St} {H : Hp} {s : Shared} {Q : VK} {b b' : Bool} (I : Inv X pins σ H s) (q : Q (.bl b) H) (e : b' = b) : EP X pins σ Q (.bool b') s := by
  subst e
  exact ⟨.bl _, H, I, rfl, q⟩
def rEqL (X : Cx) : R2 := fun x y H Q => ∃ (p q : Addr) (us ws : List V) (ds es : List D), x = .ref p ∧ y = .ref q ∧ SqL X.K H p us ∧ SqL X.K H q ws ∧ AtAll X.K H ds us ∧ AtAll X.K H es ws ∧ deps ds ≤ 40 ∧ (∀ d ∈ ds, El d) ∧ (∀ d ∈ es, El d) ∧ Q (.bl (decide (ds = es))) H
theorem eqDs_dec {ds es : List D} (h1 : ∀ d ∈ ds, El d) (h2 : ∀ d ∈ es, El d) : eqDs ds es = decide (ds = es) := by
  induction ds generalizing es with
  | nil =>
    cases es with
    | nil => rw [eqDs]; exact (decide_eq_true rfl).symm
    | cons e es => rw [eqDs]; exact (decide_eq_false (by simp)).symm; all_goals nofun
  | cons d ds ih =>
    cases es with
    | nil => rw [eqDs]; exact (decide_eq_false (by simp)).symm; all_goals nofun
    | cons e es =>
      rw [eqDs, ih (fun x hx => h1 x (List.mem_cons_of_mem _ hx)) (fun x hx => h2 x (List.mem_cons_of_mem _ hx)), eqD_dec (h1 d List.mem_cons_self).nb (h2 e List.mem_cons_self).nb]
      by_cases a : d = e
      · subst a; simp
      · simp [a]
theorem op_eqL {k : Nat} (hr : Room k X.A) : OpR X (compareOp .Eq) (rEqL X) := by
  intro pins s σ H x y v u Q I rx ry h
  obtain ⟨p, q, us, ws, ds, es, rfl, rfl, hp, hq, ha, hb, hd, e1, e2, hQ⟩ := h
  cases rx; cases ry
  obtain ⟨its, r1, p1, z1⟩ := I.list hp
  obtain ⟨its2, r2, p2, z2⟩ := I.list hq
  have hu := hr.units
  have hS := sizes_eq r1 r2 ha hb
  have l1 : its.toArray.size = ds.length := by rw [List.size_toArray, ← r1.length]; exact ha.len
  have l2 : its2.toArray.size = es.length := by rw [List.size_toArray, ← r2.length]; exact hb.len
  by_cases hsz : its.toArray.size = its2.toArray.size
  · refine SeqAt.eq_listAt (e := fun j => eqD (ds.getD j .non) (es.getD j .non)) p1.isList p2.isList hsz (by omega) (items_eq I (A := X.A.in1) (n := deps ds) r1 r2 ha hb (Nat.le_refl _) (by show X.A.units + 1 + deps ds < cLine; omega)) (fin_bl9 I hQ ?_)
    rw [← eqDs_dec e1 e2, ← hS, hsz, Nat.min_self, beq_self_eq_true, Bool.and_true]
  · refine SeqAt.eq_list_lengthsAt p1.isList p2.isList (bne_iff_ne.mpr hsz) (by omega) (fin_bl9 I hQ ?_)
    refine (decide_eq_false fun z => hsz ?_).symm
    rw [l1, l2, z]
end
end GS
set_option Elab.async false
set_option linter.all false
set_option maxRecDepth 100000
set_option maxHeartbeats 4000000
namespace GS
open PySem PySem.Builtin PySem.Builtin.List
section
variable {P : Program} {w : World} {B : Around} {E : Value → Shared → Prop} {σ : Shared} {R : Result → Shared → Prop} {I : Addr} {fp wr : List Addr} {n : Nat} {Pv : Nat → Value → Prop} {St : Nat → Heap → Prop} {T : String}
/-! ### list(it) of an iterator that is told apart from lists and tuples -/
end
end GS
set_option Elab.async false
set_option linter.all false
set_option maxRecDepth 100000
set_option maxHeartbeats 4000000
namespace L2
open PySem PySem.Spec PyProof.Rows GS
/-! ### list(reversed(xs)), of a list -/
section
variable {X : Cx}
end
end L2
set_option Elab.async false
set_option linter.all false
set_option maxRecDepth 100000
set_option maxHeartbeats 4000000
namespace GS
open PySem PyProof.Rows
open L2 hiding pe_int pe_bl pe_non pe_str pv pe_glob pe_bltn pe_op pe_cmpR pe_one pe_and pe_ifExp pe_ix po_none po_some pe_slice pa_nil pa_cons pe_lst pe_tup pe_dnewK pe_callB pe_callTy pe_bm pt_cmpR pt_val pt_not pw_and1 pw_or1 pw_and pw_or pg_name pgs_nil pgs_cons pg_tup pi_list pi_tup pi_range1 ps_ret ps_expr ps_set ps_asg ps_if ps_while ps_for pss_nil pss_cons pss_one
open L3
theorem b9Set : bootBuiltins "set" = some (.type "set") := by decide +kernel
/-! ### the first of each text -/
def fms (val : Nat → Str) : Nat → List Str
  | 0 => []
  | i + 1 => if val i ∈ fms val i then fms val i else fms val i ++ [val i]
theorem fms_len (val : Nat → Str) : ∀ i, (fms val i).length ≤ i
  | 0 => Nat.le_refl _
  | i + 1 => by
    have := fms_len val i
    rw [fms]
    split
    · omega
    · rw [List.length_append, List.length_singleton]; omega
theorem fms_mem (val : Nat → Str) (x : Str) : ∀ i, x ∈ fms val i ↔ ∃ j, j < i ∧ val j = x
  | 0 => by
    rw [fms]
    exact ⟨fun h => (nomatch h), fun ⟨j, h, _⟩ => absurd h (Nat.not_lt_zero _)⟩
  | i + 1 => by
    rw [fms]
    have ih := fms_mem val x i
    have back : (∃ j, j < i + 1 ∧ val j = x) ↔ (∃ j, j < i ∧ val j = x) ∨ val i = x := by
      constructor
      · rintro ⟨j, h, e⟩
        by_cases hj : j = i
        · exact .inr (by rw [← hj]; exact e)
        · exact .inl ⟨j, by omega, e⟩
      · rintro (⟨j, h, e⟩ | e)
        · exact ⟨j, by omega, e⟩
        · exact ⟨i, by omega, e⟩
    rw [back]
    split
    · rename_i hm
      rw [ih]
      refine ⟨.inl, fun h => h.elim id fun e => ?_⟩
      rw [← e]
      exact (fms_mem val (val i) i).mp hm
    · rw [List.mem_append, List.mem_singleton, ih]
      exact ⟨fun h => h.imp id Eq.symm, fun h => h.imp id Eq.symm⟩
theorem fms_full (val : Nat → Str) : ∀ i, (fms val i).length = i ↔ ((List.range i).map val).Nodup
  | 0 => ⟨fun _ => List.nodup_nil, fun _ => rfl⟩
  | i + 1 => by
    have h0 := fms_len val i
    have ih := fms_full val i
    have hm := fms_mem val (val i) i
    rw [fms, List.range_succ, List.map_append, List.nodup_append]
    have hin : val i ∈ fms val i ↔ val i ∈ (List.range i).map val := by
      rw [hm, List.mem_map]
      exact ⟨fun ⟨j, a, b⟩ => ⟨j, List.mem_range.mpr a, b⟩, fun ⟨j, a, b⟩ => ⟨j, List.mem_range.mp a, b⟩⟩
    split
    · rename_i h
      refine ⟨fun z => by omega, fun ⟨_, _, z⟩ => absurd rfl (z _ (hin.mp h) (val i) (by simp))⟩
    · rename_i h
      rw [List.length_append, List.length_singleton, Nat.add_right_cancel_iff, ih]
      refine ⟨fun z => ⟨z, by simp, fun x hx y hy e => h (hin.mpr ?_)⟩, fun z => z.1⟩
      have : y = val i := by simpa using hy
      rw [← this, ← e]; exact hx
theorem entry_set_loop : entryFor table "set.update.loop" = some Builtin.«set.update.loop» := entryFor_of_tree (by kernel_rfl)
theorem plain_set_loop : plainId "set.update.loop" = true := by decide +kernel
section
variable {prog : Program} {w : World} {A : Around} {R : Result → Shared → Prop} {I : Addr} {fp wr : List Addr} {n : Nat} {P : Nat → Value → Prop} {St : Nat → Heap → Prop}
theorem codeAny_set_loop (W : Walks prog w A.in1 I fp wr n P St) (d : Addr) (hdf : d ∉ fp) (val : Nat → Str) (hP : ∀ i v, i < n → P i v → ∃ t, v = .str (val i) t) (hz : n + 1 < scanBound) :
    ∀ (k i : Nat) (s : Shared), n - i = k → i ≤ n → St i s.heap → s.heap.SetOf (strKind prog w) d (fun x => decide (x ∈ fms val i)) (fms val i).length →
      (∀ h' tk, (∀ b o, b ≠ d → b ∉ wr → s.heap.get? b = some o → h'.get? b = some o) → h'.SetOf (strKind prog w) d (fun x => decide (x ∈ fms val n)) (fms val n).length → R (.ok (.ret .none)) { s with heap := h', toks := tk }) →
      codeAny (model prog w) A (.builtin "set.update.loop" ⟨[.ref d, .ref I], []⟩) R s := by
  have hdw : d ∉ wr := fun h => hdf (W.sub _ h)
  intro k
  induction k with
  | zero =>
    intro i s hki hi hst hD hR
    have hin : i = n := by omega
    subst hin
    refine codeAny_builtin entry_set_loop ?_
    rw [Around.under_plainId plain_set_loop _]
    show wpAny _ A.in1 (pyNext (.ref I) >>= _) _ _ s
    refine wpAny_bind (W.done s _ _ hst fun h' tk hm => ?_)
    exact wpAny_pure (hR h' tk (fun b o _ hb e => hm b o hb e) (by
      obtain ⟨o, es, ep, t, ho, rest⟩ := hD
      exact ⟨o, es, ep, t, hm d _ hdw ho, rest⟩))
  | succ k ih =>
    intro i s hki hi hst hD hR
    have hlt : i < n := by omega
    refine codeAny_builtin entry_set_loop ?_
    rw [Around.under_plainId plain_set_loop _]
    show wpAny _ A.in1 (pyNext (.ref I) >>= _) _ _ s
    refine wpAny_bind (W.item i s _ _ hlt hst fun v h' tk hPv hst' hm => ?_)
    obtain ⟨t, rfl⟩ := hP i v hlt hPv
    have hD' : h'.SetOf (strKind prog w) d (fun x => decide (x ∈ fms val i)) (fms val i).length := by
      obtain ⟨o, es, ep, t, ho, rest⟩ := hD
      exact ⟨o, es, ep, t, hm d _ hdw ho, rest⟩
    have his : (strKind prog w).is (val i) (.str (val i) t) = true := by show (val i == val i) = true; exact beq_self_eq_true _
    have hl := fms_len val i
    refine wpAny_bind (wpAny_holding ?_)
    unfold setAdd
    refine wpAny_holding (wpAny_bind ((strKind prog w).pyHash his (wpAny_setAddHashed_of his rfl hD' (by omega) fun h2 hsb hD2 => ?_)))
    refine wpAny_pure ⟨plainId_quiet plain_set_loop _, ?_⟩
    have hD3 : h2.SetOf (strKind prog w) d (fun x => decide (x ∈ fms val (i + 1))) (fms val (i + 1)).length := by
      refine SetOf_congr hD2 (fun x => ?_) ?_
      · rw [fms]
        by_cases hx : val i ∈ fms val i
        · rw [if_pos hx]
          by_cases e : x = val i
          · rw [e, decide_eq_true hx]; rfl
          · rw [decide_eq_false e, Bool.or_false]
        · rw [if_neg hx]
          rw [Bool.eq_iff_iff, Bool.or_eq_true, decide_eq_true_iff, decide_eq_true_iff, decide_eq_true_iff, List.mem_append, List.mem_singleton]
      · rw [fms]
        by_cases hx : val i ∈ fms val i
        · rw [if_pos hx, decide_eq_true hx, if_pos rfl]
        · rw [if_neg hx, decide_eq_false hx, if_neg Bool.false_ne_true, List.length_append]; rfl
    refine ih (i + 1) _ (by omega) hlt (W.frame _ _ _ hst' fun b hb o e => ?_) hD3 fun h3 tk3 hk3 hD4 => ?_
    · rw [hsb.2 b (fun h : b = d => hdf (by rw [← h]; exact hb))]; exact e
    · exact hR h3 tk3 (fun b o hb hbw e => hk3 b o hb hbw ((hsb.2 b hb).trans (hm b o hbw e))) hD4
end
theorem strs_at {xs : List Str} : ∀ {us : List Value}, Vals (xs.map V.str) us → ∀ (i : Nat) (v : Value), us[i]? = some v → ∃ t, v = .str (xs.getD i "") t := by
  induction xs with
  | nil => intro us r i v e; rw [List.map_nil] at r; cases r; simp at e
  | cons x xs ih =>
    intro us r i v e
    rw [List.map_cons] at r
    cases r with
    | cons a b =>
      cases i with
      | zero => simp at e; subst e; exact a
      | succ i => exact ih b i v (by simpa using e)
section
variable {prog : Program} {w : World} {A : Around} {E : Value → Shared → Prop} {s : Shared} {Q Q₁ : Value → Shared → Prop} {args : List Value}
theorem callSet_codes (hct : checkTypeCall "set" ⟨args, []⟩ = pure ()) (hn : codeAny (model prog w) A.in1 (.call (.builtin "set.__new__") ⟨.type "set" :: args, []⟩) (wants Q₁ E) s)
    (hi : ∀ obj s₁, Q₁ obj s₁ → s₁.TypeIs obj "set" ∧ codeAny (model prog w) A.in1 (.call (.builtin "set.__init__") ⟨obj :: args, []⟩) (wants (fun r s₂ => r = .none ∧ Q obj s₂) E) s₁) : wpAny (model prog w) A (call (.type "set") args) Q E s := by
  obtain ⟨c, tl, hmro⟩ := F.called_set.mro
  have hmade := F.called_set.made
  have hsub := F.called_set.sub
  refine wpAny_call (codeAny_of_tree ?_)
  show wpAny _ _ (pure (Fin.again (.builtin "type.__call__" ⟨.type "set" :: args, []⟩))) _ _ s
  refine wpAny_pure ⟨Code.quiet_builtin _ (by decide +kernel), codeAny_builtin F.entry_type_call ?_⟩
  rw [Around.under_plain (weight_type_call_type "set" args []) rfl]
  have h1 := F.called_set.notType
  have h2 := F.called_set.canCreate
  unfold Builtin.«type.__call__»
  dsimp only
  refine wpAny_ite_false (by decide) (wpAny_ite_false (by decide +kernel) (wpAny_bind (wpAny_of_eq hct (wpAny_bind (wpAny_of_eq hmro (wpAny_ite_false rfl (wpAny_bind (wpAny_of_eq hmade (wpAny_bind (wpAny_pure (wpAny_bind (wpAny_holding (wpAny_call (codeAny_mono hn fun r s₁ hr => ?_))))))))))))))
  match r, hr with
  | .error e, hr => exact hr
  | .ok .next, hr => exact hr.elim
  | .ok .brk, hr => exact hr.elim
  | .ok .cont, hr => exact hr.elim
  | .ok (.ret obj), hr =>
    obtain ⟨hT, hI⟩ := hi obj s₁ hr
    have hli := F.called_set.init.lookup
    have hbi := F.called_set.init.bind obj
    refine wpAny_bind (wpAny_isInstance hT hsub (wpAny_ite_false rfl (wpAny_bind (wpAny_holding ?_))))
    unfold callSpecial?
    refine wpAny_bind (wpAny_specialOf hT hli (wpAny_holding (wpAny_bind (wpAny_of_eq hbi (wpAny_bind (wpAny_call (codeAny_mono hI fun r s₂ hr2 => ?_)))))))
    match r, hr2 with
    | .error e, hr => exact hr
    | .ok .next, hr => exact hr.elim
    | .ok .brk, hr => exact hr.elim
    | .ok .cont, hr => exact hr.elim
    | .ok (.ret v), hr =>
      obtain ⟨e, hq⟩ := (show v = Value.none ∧ Q obj s₂ from hr)
      subst e
      refine wpAny_pure ?_
      exact wpAny_pure hq
end
section
variable {X : Cx}
def tLenSet (K : PySem.W.Frag) (ta : TA) : TE := fun σ H Q => ta σ H fun vs H1 => ∃ (a : Addr) (xs : List Str), vs = [.ref a] ∧ SqL K H1 a (xs.map V.str) ∧ xs.length ≤ 1000 ∧ ∀ m : Nat, m ≤ xs.length → (m = xs.length ↔ xs.Nodup) → Q (.int (m : Nat)) H1
theorem pe_lenSet {a : Expr} {ta : TA} {p p2 pos pos2 : Pos} (hc : X.calm = true) (hg : Gl X "len") (hm : X.mg "len" = none) (hg2 : Gl X "set") (hm2 : X.mg "set" = none) (ha : PA X [a] ta) (hs : starEach [a] X.env = [(false, eval a X.env)] := by rfl)
    (hs2 : starEach [.Call (.Name "set" p2) [a] [] pos2] X.env = [(false, eval (.Call (.Name "set" p2) [a] [] pos2) X.env)] := by rfl) : PE X (.Call (.Name "len" p) [.Call (.Name "set" p2) [a] [] pos2] [] pos) (tLenSet X.K ta) := by
  intro pins s σ H Q I h
  refine wpAny_Call_Name_kw (ld_blt I hg hm b9Len (PyProof.Rows.callWith_builtin1 (spliced_more ?_ hs2) hs2 rfl))
  refine Call_ (ld_blt I hg2 hm2 b9Set (PyProof.Rows.callWith_type1 (thn (ha pos2 pins s σ H _ I h) fun us s1 ⟨vs, H1, I1, r1, q1⟩ => ?_) hs rfl))
  obtain ⟨l, xs, e, hq, hx, q⟩ := q1
  subst e
  obtain ⟨u, rfl, ru⟩ := vals1 r1
  cases ru
  obtain ⟨its, rv, pl, hz⟩ := I1.list hq
  have hL : s1.heap.IsList l its.toArray := pl.isList
  have hlen := rv.length
  rw [List.length_map] at hlen
  have hlt : l < s1.heap.objs.size := by obtain ⟨_, z, _⟩ := hL; exact Heap.lt_size z
  refine callSet_codes (Q₁ := fun obj s₁ => obj = .ref s1.heap.objs.size ∧ ∃ led, s₁ = { s1 with heap := s1.heap.push { cls := .type "set", data := .set #[] 0 (SetTable.fresh 0 0 led) } }) (F.typeCall_set_1 _) (code_set_new_1 _ fun led => ⟨rfl, led, rfl⟩) ?_
  rintro obj s₁ ⟨rfl, led, rfl⟩
  obtain ⟨hp, gn, dr, tk, os⟩ := s1
  dsimp only at *
  have hob : (hp.push { cls := .type "set", data := .set #[] 0 (SetTable.fresh 0 0 led) }).get? hp.objs.size = some { cls := .type "set", data := .set #[] 0 (SetTable.fresh 0 0 led) } := Heap.get?_push_size _ rfl
  have kp : ∀ b o, hp.get? b = some o → (hp.push { cls := .type "set", data := .set #[] 0 (SetTable.fresh 0 0 led) }).get? b = some o := fun b o e => Heap.get?_push_of_some _ e
  have hS : (hp.push { cls := .type "set", data := .set #[] 0 (SetTable.fresh 0 0 led) }).SetOf (strKind X.prog X.w) hp.objs.size (fun _ => false) 0 := Obj.SetObjOf.setOf (setObjOf_fresh led) hob (by decide)
  have hsz : (hp.push { cls := .type "set", data := .set #[] 0 (SetTable.fresh 0 0 led) }).objs.size = hp.objs.size + 1 := Heap.size_push ..
  have hL1 : (hp.push { cls := .type "set", data := .set #[] 0 (SetTable.fresh 0 0 led) }).IsList l its.toArray := hL.at fun o e => kp _ _ e
  generalize hP : hp.push { cls := .type "set", data := .set #[] 0 (SetTable.fresh 0 0 led) } = P at *
  have hT : ∀ tk', (⟨P, gn, dr, tk', os⟩ : Shared).TypeIs (.ref hp.objs.size) "set" := fun _ => ⟨_, hob, rfl⟩
  have hTl : ∀ tk', (⟨P, gn, dr, tk', os⟩ : Shared).TypeIs (.ref l) "list" := fun _ => by obtain ⟨o, e, c, _⟩ := hL1; exact ⟨o, e, c⟩
  refine ⟨hT _, codeAny_call_builtin F.called_set.init.plain F.entry_set_init (check_set_init_1 (hT _) ?_)⟩
  have f1 := F.sub_list_set
  have f2 := F.sub_list_frozenset
  unfold Builtin.«set.__init__»
  obtain ⟨⟨oc, od, odt, osl⟩, el, cl, nl, dl⟩ := id hL1
  dsimp only at cl dl
  subst cl dl
  repeat (any_goals (first | assumption | exact hT _ | exact hTl _ | ((with_reducible show wpAny _ _ (pyIter _) _ _ _); refine wpAny_pyIter_list hL1 ?_) | ((with_reducible show wpAny _ _ (runValue _) _ _ _); refine wpAny_runValue ?_; refine codeAny_set_loop (n := its.toArray.size) (Walks.list (A := X.A.in1.in1.in1) ?c0 P.objs.size l ?c1 its.toArray) hp.objs.size ?c2 (fun i => xs.getD i "") ?c3 ?c4 its.toArray.size 0 _ rfl (Nat.zero_le _) ⟨⟨_, Heap.get?_push_size _ rfl, rfl, rfl⟩, ?c5⟩ ?c6 ?c7) | wp_step))
  case c0 => exact I1.ok.hd hc
  case c1 => exact Nat.ne_of_lt (by rw [hsz]; exact Nat.lt_succ_of_lt hlt)
  case c2 =>
    intro m
    simp only [List.mem_cons, List.not_mem_nil, or_false] at m
    rcases m with m | m
    · exact absurd m (Nat.ne_of_lt (by rw [hsz]; exact Nat.lt_succ_self _))
    · exact Nat.ne_of_lt hlt m.symm
  case c3 => exact fun i v hi hv => strs_at rv i v (by simpa using hv)
  case c4 =>
    rw [List.size_toArray, ← hlen]
    show _ < 4096
    omega
  case c5 => exact hL1.at fun o e => Heap.get?_push_of_some _ e
  case c6 =>
    obtain ⟨o, es, ep, t, ho, r1, r2, r3, r4, r5⟩ := hS
    refine ⟨o, es, ep, t, Heap.get?_push_of_some _ ho, r1, r2, r3, fun k => ?_, r5⟩
    rw [← r4 k, fms]
    simp
  case c7 =>
    intro h' tk' hk hS'
    refine wpAny_pure (wpAny_pure ⟨rfl, spliced_none ?_⟩)
    have keep : ∀ b o, hp.get? b = some o → h'.get? b = some o := fun b o e => by
      have hb := Heap.lt_size e
      refine hk b o (Nat.ne_of_lt hb) ?_ (Heap.get?_push_of_some _ (kp _ _ e))
      rw [List.mem_singleton, hsz]
      exact Nat.ne_of_lt (Nat.lt_succ_of_lt hb)
    obtain ⟨o, es, ep, t, ho, r1, r2, r3, r4, r5, r6, r7⟩ := hS'
    have hfl := fms_len (fun i => xs.getD i "") its.toArray.size
    have hsx : its.toArray.size = xs.length := by rw [List.size_toArray]; exact hlen.symm
    rw [hsx] at r7 hfl
    refine call_len_set ho r1 r2 r6 (by omega) ⟨.int (es.size : Nat), H1, I1.kept (t' := _) keep, ⟨_, rfl⟩, q es.size (by omega) ?_⟩
    rw [r7, fms_full, range_getD]
end
end GS
set_option Elab.async false
set_option linter.all false
set_option maxRecDepth 100000
set_option maxHeartbeats 4000000
namespace GS
open PySem PyProof.Rows
open L2 hiding pe_int pe_bl pe_non pe_str pv pe_glob pe_bltn pe_op pe_cmpR pe_one pe_and pe_ifExp pe_ix po_none po_some pe_slice pa_nil pa_cons pe_lst pe_tup pe_dnewK pe_callB pe_callTy pe_bm pt_cmpR pt_val pt_not pw_and1 pw_or1 pw_and pw_or pg_name pgs_nil pgs_cons pg_tup pi_list pi_tup pi_range1 ps_ret ps_expr ps_set ps_asg ps_if ps_while ps_for pss_nil pss_cons pss_one
open L3
end GS
namespace L2
open PySem PySem.Spec PyProof.Rows PySem.Builtin PySem.Builtin.List GS
section
variable {X : Cx} {pins : List (Addr × Obj)} {σ : St} {H : Hp} {s : Shared}
/-! ### a dict held still, and let go -/
theorem HOk.swap {P : Program} {w : World} {h : Heap} {d : Addr} {u u' : HO} (k : HOk P w H h) (hd : H d = some u) (no : ∀ x, u ≠ .own x) (nt : ∀ xs, u ≠ .tup xs) (hu : ObjOk P w (upd H d u') h d u') : HOk P w (upd H d u') h := by
  intro b v e
  by_cases hb : b = d
  · subst hb
    rw [upd_same] at e
    cases e
    exact hu
  · rw [upd_ne hb] at e
    refine (k b v e).stay (fun c v _ q => q) (fun c q => ?_) fun c xs q => ?_
    · rw [upd_ne (fun z => by rw [z, hd] at q; cases q; exact no _ rfl)]; exact q
    · rw [upd_ne (fun z => by rw [z, hd] at q; cases q; exact nt _ rfl)]; exact q
theorem Inv.freeze {d : Addr} {kvs : List (Key × V)} {o : Obj} (I : Inv X pins σ H s) (hd : H d = some (.dK kvs)) (ho : s.heap.get? d = some o) : Inv X pins σ (upd H d (.frz o (.dK kvs))) s := by
  have hk : HOk X.prog X.w (upd H d (.frz o (.dK kvs))) s.heap := I.hok.swap hd (by nofun) (by nofun) ⟨ho, I.hok d _ hd⟩
  exact I.step (g' := s.gens) (d' := s.drawn) (t' := s.toks) (ch := []) (fun _ z => nomatch z) (fun b o _ _ _ e _ => e) (fun b o _ _ _ e _ => ⟨o.slots, e⟩) (fun b o _ _ n => by rw [upd_ne (fun z => by rw [z, hd] at n; cases n)]; exact n) (fun b o _ e => ⟨o, e⟩)
    (fun b xs e => by rw [upd_ne (fun z => by rw [z, hd] at e; cases e)]; exact e) (fun b o u e => by rw [upd_ne (fun z => by rw [z, hd] at e; cases e)]; exact e) (fun b ps e => by rw [upd_ne (fun z => by rw [z, hd] at e; cases e)]; exact ⟨#[], by rw [e]; simp⟩) (fun _ h => h) hk I.bare
theorem Inv.thaw {d : Addr} {kvs : List (Key × V)} {o : Obj} (I : Inv X pins σ H s) (hd : H d = some (.frz o (.dK kvs))) (hnf : ∀ o u, X.H₀ d ≠ some (.frz o u)) : Inv X pins σ (upd H d (.dK kvs)) s := by
  have hk : HOk X.prog X.w (upd H d (.dK kvs)) s.heap := I.hok.swap hd (by nofun) (by nofun) (I.hok d _ hd).2
  have nn : ∀ b, H b = none → upd H d (.dK kvs) b = none := fun b n => by rw [upd_ne (fun z => by rw [z, hd] at n; cases n)]; exact n
  refine ⟨I.ok, I.os, I.bare, ⟨I.base.keep, I.base.slot, fun b o e n hx => nn b (I.base.free b o e n hx), I.base.there, fun b xs e => ?_, fun b o u e => ?_, fun b ps e => ?_⟩, I.loc, I.cell, nn _ I.free, fun x c e => nn _ (I.freeC x c e), fun p hp => ?_, hk, I.len⟩
  · have := I.base.tups b xs e
    rw [upd_ne (fun z => by rw [z, hd] at this; cases this)]; exact this
  · have := I.base.frzs b o u e
    rw [upd_ne (fun z => hnf o u (by rw [← z]; exact e))]; exact this
  · obtain ⟨m, q⟩ := I.base.tbls b ps e
    exact ⟨m, by rw [upd_ne (fun z => by rw [z, hd] at q; cases q)]; exact q⟩
  · obtain ⟨a, b, c⟩ := I.pin p hp
    exact ⟨a, nn _ b, c⟩
def tThaw (t : TE) : TE := fun σ H Q => ∃ d, (∃ kvs, H d = some (.dK kvs)) ∧ t σ H fun v H' => ∃ o kvs, H' d = some (.frz o (.dK kvs)) ∧ Q v (upd H' d (.dK kvs))
theorem pe_thaw {e : Expr} {t : TE} (he : PE X e t) : PE X e (tThaw t) := by
  intro pins s σ H Q I h
  obtain ⟨d, ⟨kvs, hd⟩, h⟩ := h
  refine wpAny_mono (he pins s σ H _ I h) (fun v s1 ⟨x, H1, I1, r1, o, kvs', hd', q⟩ => ⟨x, _, I1.thaw hd' fun o u z => ?_, r1, q⟩) fun _ _ e => e
  have := I.base.frzs d o u z
  rw [hd] at this; cases this
/-! ### a dict's keys, walked -/
def Itd (d : Addr) (o : Obj) (kvs : List (Key × V)) : It :=
  ⟨fun i H => H d = some (.frz o (.dK kvs)) ∧ i < kvs.length, fun i H x H' => H' = H ∧ ∃ k v, kvs[i]? = some (k, v) ∧ x = kV k, fun i H => H d = some (.frz o (.dK kvs)) ∧ kvs.length ≤ i⟩
theorem kV_rel {P : Program} {w : World} {k : Key} {u : Value} (h : (mixKind P w).is k u = true) : RelV (kV k) u := by
  rcases keyIs_shape (show keyIs k u = true from h) with ⟨i, t, rfl, rfl⟩ | ⟨x, t, rfl, rfl⟩
  · exact ⟨t, rfl⟩
  · exact ⟨t, rfl⟩
theorem dict_at {d : Addr} {kvs : List (Key × V)} {o : Obj} {es : Array DictEntry} {ep : Nat} (I : Inv X pins σ H s) (hd : H d = some (.frz o (.dK kvs))) (hep : o.data = .dict es ep) : ∃ vs, KV kvs vs ∧ s.heap.DictAt (mixKind X.prog X.w) d vs ep := by
  obtain ⟨ho, _, _, vs, hkv, o', es', ep', ho', h1, h2, h3⟩ := (show ObjOk X.prog X.w H s.heap d (.frz o (.dK kvs)) from I.hok d _ hd)
  rw [ho] at ho'
  cases ho'
  rw [hep] at h2
  cases h2
  exact ⟨vs, hkv, o, es, ho, h1, hep, h3⟩
theorem turn_dict {P : Program} {w : World} {K : PySem.W.Frag} {tg : Expr} (d it : Addr) (o : Obj) (kvs : List (Key × V)) {es : Array DictEntry} {ep : Nat} (hep : o.data = .dict es ep) : Turn P w K tg (Itd d o kvs) [it] it (fun i h => h.IsKeyIter it d i kvs.length ep) where
  mem := by simp
  obj := fun i h st b hb => by
    have e : b = it := by simpa using hb
    subst e
    obtain ⟨o, e, c, d⟩ := st
    exact ⟨o, e, fun v z => by rw [d] at z; cases z⟩
  keep := fun i h h' st k => st.at fun o e => k it (by simp) o e
  item := by
    intro X hP hw hK hc i pins s σ H E I hf st hg
    subst hP hw hK
    obtain ⟨hd, hi⟩ := hg
    obtain ⟨vs, hkv, hD⟩ := dict_at I hd hep
    have hl := hkv.length
    obtain ⟨f0, f1, f2, f3, f4, f5⟩ := hf it (by simp)
    have e1 : kvs[i]? = some (kvs[i].1, kvs[i].2) := by rw [List.getElem?_eq_getElem hi]
    have e2 : vs[i]? = some (vs[i].1, vs[i].2) := by rw [List.getElem?_eq_getElem (by omega)]
    have ek : kvs[i].1 = vs[i].1 := by
      have := congrArg (fun l => l[i]?) hkv.keys
      simp only [List.getElem?_map] at this
      rw [e1, e2] at this
      injection this
    rw [hl] at st
    refine wpAny_pyNext_dict_item st hD e2 fun key h' hk st' sb => ?_
    have I1 : Inv X pins σ H { s with heap := h' } := I.turned (t' := s.toks) (fun b o hb e => (sb.2 b hb).trans e) f0 f1 f3 f4 f5
    obtain ⟨o', e, c, dd⟩ := id st'
    rw [← hl] at st'
    exact ⟨key, rfl, go_of (s := { s with heap := h' }) e c dd (by decide) ⟨kV kvs[i].1, H, I1, by rw [ek]; exact kV_rel hk, ⟨rfl, _, _, e1, rfl⟩, st', fun b hb => (hf b hb).1⟩⟩
  done := by
    intro X hP hw hK hc i pins s σ H E I hf st hg
    subst hP hw hK
    obtain ⟨hd, hi⟩ := hg
    obtain ⟨vs, hkv, hD⟩ := dict_at I hd hep
    have hl := hkv.length
    obtain ⟨f0, f1, f2, f3, f4, f5⟩ := hf it (by simp)
    rw [hl] at st
    exact wpAny_pyNext_dict_end (I.ok.hd hc) st hD (List.getElem?_eq_none (by omega)) fun h' eb => ⟨rfl, I.turned (t' := s.toks) (fun b o hb e => eb b o hb e) f0 f1 f3 f4 f5⟩
  self := fun _ _ _ _ _ st h => wpAny_pyIter_keyiter st h
def iDict (te : TE) : TI := fun σ H R => te σ H fun x H1 => ∃ d kvs, x = .ref d ∧ H1 d = some (.dK kvs) ∧ ∀ o, R (Itd d o kvs) (upd H1 d (.frz o (.dK kvs)))
theorem pi_dict {tg l : Expr} {tl : TE} (hl : PE X l tl) : PI X tg l (iDict tl) := by
  intro pins s σ H R I h
  refine thn (hl pins s σ H _ I h) fun v s1 ⟨x, H1, I1, r1, q1⟩ => ?_
  obtain ⟨d, kvs, e, hd, q⟩ := q1
  subst e
  cases r1
  obtain ⟨_, hs, vs, hkv, o, es, ep, ho, h1, h2, h3⟩ := (show ObjOk X.prog X.w H1 s1.heap d (.dK kvs) from I1.hok d _ hd)
  have hlen := hkv.length
  refine wpAny_pyIter_dict (kvs := vs) (ep := ep) hs ⟨o, es, ho, h1, h2, h3⟩ ?_
  have I2 := I1.freeze hd ho
  refine ⟨s1.heap.objs.size, [s1.heap.objs.size], _, _, _, rfl, I2.kept (t' := s1.toks) fun b o e => Heap.get?_push_of_some _ e, turn_dict d _ o kvs h2, ⟨_, Heap.get?_push_size _ rfl, rfl, by rw [hlen]; rfl⟩, fun b hb => ?_, q o⟩
  have e : b = s1.heap.objs.size := by simpa using hb
  subst e
  exact I2.fpOk (Nat.le_refl _) (I2.hok.fresh (Nat.le_refl _))
/-! ### len(d), list(d) -/
theorem call_len_dict : CallR X (.builtin "len") (fun xs H Q => ∃ d kvs, xs = [.ref d] ∧ H d = some (.dK kvs) ∧ Q (.int (kvs.length : Nat)) H) := by
  intro pins s σ H xs us Q I r h
  obtain ⟨d, kvs, rfl, hd, q⟩ := h
  obtain ⟨u, rfl, ru⟩ := vals1 r
  cases ru
  exact d_len I (.inl hd) fun t s' I' => ⟨.int (kvs.length : Nat), H, I', ⟨t, rfl⟩, q⟩
theorem dict_hint {P : Program} {w : World} {A : Around} {E : Value → Shared → Prop} {s : Shared} {d : Addr} {Q : Bool → Shared → Prop} (ht : s.TypeIs (.ref d) "dict") (q : Q false s) : wpAny (model P w) A (listLengthHint (.ref d)) Q E s := by
  unfold listLengthHint
  have k1 : typeLookup (.type "dict") "__len__" = pure (some (.builtin "dict.__len__")) := by rw [typeLookup_type, builtinLookup_eq_fast]; kernel_rfl
  have k3 : isSubtype (.type "dict") (.type "dict") = pure true := by rw [isSubtype_type]; kernel_rfl
  refine wpAny_bind (wpAny_specialOf ht k1 ?_)
  show wpAny _ _ (isInstance (.ref d) (.type "dict") >>= _) _ _ _
  refine wpAny_bind (wpAny_isInstance (T := "dict") (b := true) ht k3 ?_)
  show wpAny _ _ (typeOf (.ref d) >>= _) _ _ _
  refine wpAny_bind (wpAny_typeOf ht ?_)
  exact wpAny_pure q
theorem call_listDct {P : Program} {w : World} {B : Around} {E : Value → Shared → Prop} {s : Shared} {Q : Value → Shared → Prop} {d : Addr} {vs : List (Key × Value)} {ep : Nat} (hh : B.in1.in1.handled = none) (hs : (d == sysModules) = false) (hD : s.heap.DictAt (mixKind P w) d vs ep) (hn : vs.length ≤ sizeLine)
    (q : ∀ h tk acc c, (∀ b o, s.heap.get? b = some o → h.get? b = some o) → h.get? s.heap.objs.size = some { cls := .type "list", dict := none, data := .seq acc c, slots := #[] } → ItemsOf (fun i v => ∃ k x, vs[i]? = some (k, x) ∧ (mixKind P w).is k v = true) acc vs.length → Q (.ref s.heap.objs.size) { s with heap := h, toks := tk }) :
    wpAny (model P w) B (call (.type "list") [.ref d]) Q E s := by
  refine callType_codes (Q₁ := fun u s' => u = .ref s.heap.objs.size ∧ s' = { s with heap := s.heap.push { cls := .type "list", data := .seq #[] } }) F.called_list (F.typeCall_list_1 _) F.entry_list_init (code_list_new _ ⟨rfl, rfl⟩) fun u s' h => ?_
  obtain ⟨rfl, rfl⟩ := h
  have hS : (s.heap.push { cls := .type "list", data := .seq #[] }).get? s.heap.objs.size = some { cls := .type "list", data := .seq #[] } := Heap.get?_push_size _ rfl
  refine ⟨⟨_, hS, rfl⟩, F.args_list_init_2 _ _, ?_⟩
  have kp1 : ∀ b o, s.heap.get? b = some o → (s.heap.push { cls := .type "list", data := .seq #[] }).get? b = some o := fun b o e => Heap.get?_push_of_some _ e
  have hlt : d < s.heap.objs.size := hD.lt_size
  revert hS kp1
  generalize s.heap.push { cls := .type "list", data := .seq #[] } = h1
  intro hS kp1
  show wpAny _ _ (do let old ← listItems (.ref s.heap.objs.size); listUpdate (.ref s.heap.objs.size) (fun _ => #[]); letGo old.toList.reverse; listExtendWith (.ref s.heap.objs.size) (.ref d) .none) _ _ _
  refine wpAny_bind ?_
  unfold listItems
  refine wpAny_bind (wpAny_seqItems hS rfl (wpAny_pure ?_))
  show wpAny _ _ (updateSeq s.heap.objs.size (fun _ => #[]) >>= fun _ => letGo (#[] : Array Value).toList.reverse >>= fun _ => listExtendWith (.ref s.heap.objs.size) (.ref d) .none) _ _ _
  refine wpAny_bind (wpAny_updateSeq hS rfl (wpAny_bind (wpAny_letGo ?_)))
  have hS2 := Heap.get?_update_self (Obj.mapSeq (fun _ => (#[] : Array Value))) hS rfl
  have oth : ∀ b o, b ≠ s.heap.objs.size → h1.get? b = some o → (h1.update s.heap.objs.size (Obj.mapSeq (fun _ => (#[] : Array Value)))).get? b = some o := fun b o hb e => (Heap.get?_update_other _ _ (Ne.symm hb)).trans e
  have kp2 : ∀ b o, s.heap.get? b = some o → (h1.update s.heap.objs.size (Obj.mapSeq (fun _ => (#[] : Array Value)))).get? b = some o := fun b o e => oth b o (Nat.ne_of_lt (Heap.lt_size e)) (kp1 b o e)
  revert hS2 kp2
  generalize h1.update s.heap.objs.size (Obj.mapSeq (fun _ => (#[] : Array Value))) = h2
  intro hS2 kp2
  have hD2 : h2.DictAt (mixKind P w) d vs ep := hD.keep kp2
  have hT : ∀ h : Heap, h.DictAt (mixKind P w) d vs ep → ∀ (g : Array GenState) (dr : Drawn) tk os, (⟨h, g, dr, tk, os⟩ : Shared).TypeIs (.ref d) "dict" := fun h hd g dr tk os => hd.dictOf.typeIs (s := ⟨h, g, dr, tk, os⟩)
  have hneq : s.heap.objs.size ≠ d := Nat.ne_of_gt hlt
  unfold listExtendWith
  refine wpAny_bind (wpAny_typeOf (hT _ hD2 _ _ _ _) ?_)
  have e1 : listSameRef (.ref s.heap.objs.size) (.ref d) = false := by simp [listSameRef, hneq]
  have e2 : (Value.type "dict" == Value.type "list") = false := by decide
  have e3 : (Value.type "dict" == Value.type "tuple") = false := by decide
  simp only [e1, e2, e3, Bool.or_false, Bool.false_eq_true, if_false]
  refine wpAny_bind (wpAny_pyIter_dict hs hD2 (wpAny_bind (wpAny_holding ?_)))
  have kp3 : ∀ b o, h2.get? b = some o → (h2.push { cls := .type "dict_keyiterator", data := .fields #[.ref d, .int 0 0, .int (vs.length : Nat) 0, .int (ep : Nat) 0] }).get? b = some o := fun b o e => Heap.get?_push_of_some _ e
  have hI3 : (h2.push { cls := .type "dict_keyiterator", data := .fields #[.ref d, .int 0 0, .int (vs.length : Nat) 0, .int (ep : Nat) 0] }).IsKeyIter h2.objs.size d 0 vs.length ep := ⟨_, Heap.get?_push_size _ rfl, rfl, rfl⟩
  have hsz : s.heap.objs.size < h2.objs.size := Heap.lt_size hS2
  revert kp3 hI3
  generalize h2.push { cls := .type "dict_keyiterator", data := .fields #[.ref d, .int 0 0, .int (vs.length : Nat) 0, .int (ep : Nat) 0] } = h3
  intro kp3 hI3
  have hD3 : h3.DictAt (mixKind P w) d vs ep := hD2.keep kp3
  refine dict_hint (hT _ hD3 _ _ _ _) ?_
  have W := Walks.dictKeys (knd := mixKind P w) (A := B.in1.in1) hh h2.objs.size d (Nat.ne_of_lt (Nat.lt_trans hlt hsz)) vs ep
  have hSf : s.heap.objs.size ∉ [h2.objs.size, d] := fun m => by
    simp only [List.mem_cons, List.not_mem_nil, or_false] at m
    rcases m with m | m
    · exact Nat.ne_of_lt hsz m
    · exact hneq m
  have V := W.toS
  have key : ∀ (h : Heap) (c1 : Nat) tk, (∀ b o, b ≠ s.heap.objs.size → h3.get? b = some o → h.get? b = some o) → h.get? s.heap.objs.size = some { cls := .type "list", data := .seq #[] c1 } → codeAny (model P w) B.in1 (.builtin "list.extend.loop" ⟨[.ref s.heap.objs.size, .ref h2.objs.size, .none], []⟩) (wants (fun r s₂ => r = Value.none ∧ Q (.ref s.heap.objs.size) s₂) E) ⟨h, s.gens, s.drawn, tk, s.os⟩ := fun h c1 tk hk hs => by
    refine codeAny_extend_loopS V hn s.heap.objs.size hSf .none vs.length 0 _ #[] c1 rfl (Nat.zero_le _) (W.frame 0 h3 h ⟨hI3, hD3⟩ fun b hb o e => hk b o (fun z => hSf (z ▸ hb)) e) hs (ItemsOf.nil _) fun s' acc c' hm hS' hacc => ?_
    refine ⟨rfl, ?_⟩
    have := q s'.heap s'.toks acc c' (fun b o e => hm.heap b o (fun hmem => ?_) (hk b o (Nat.ne_of_lt (Heap.lt_size e)) (kp3 b o (kp2 b o e)))) hS' hacc
    · rw [Moved.eq_with hm]
      exact this
    · have hb := Heap.lt_size e
      rcases List.mem_cons.mp hmem with z | z
      · exact Nat.ne_of_lt hb z
      · exact Nat.ne_of_lt (Nat.lt_trans hb hsz) (List.mem_singleton.mp z)
  have hS3 := kp3 _ _ hS2
  refine wpAny_ite_split (fun _ => ?_) (fun _ => wpAny_pure ⟨plainId_quiet F.plain_extend_loop _, key _ _ _ (fun _ _ _ e => e) hS3⟩)
  refine wpAny_bind (wpAny_rule (wpAny_bind ?_))
  show wpAny _ _ (updateSeq s.heap.objs.size (·.push .none) >>= fun _ => updateSeq s.heap.objs.size (·.pop)) _ _ _
  refine wpAny_bind (wpAny_updateSeq hS3 rfl ?_)
  have hS4 := Heap.get?_update_self (Obj.mapSeq (·.push Value.none)) hS3 rfl
  refine wpAny_updateSeq (hz := by seq_fits) hS4 rfl ?_
  exact wpAny_pure ⟨plainId_quiet F.plain_extend_loop _, key _ _ _ (fun b o hb e => (Heap.get?_update_other _ _ (Ne.symm hb)).trans ((Heap.get?_update_other _ _ (Ne.symm hb)).trans e)) (Heap.get?_update_self (Obj.mapSeq (·.pop)) hS4 rfl)⟩
def rListD : List V → Hp → VK → Prop := fun xs H Q => ∃ (d : Addr) (kvs : List (Key × V)), xs = [.ref d] ∧ H d = some (.dK kvs) ∧ ∀ l, H l = none → Q (.ref l) (upd H l (.lst (kvs.map fun x => kV x.1)))
theorem call_listD (hc : X.calm = true) : CallR X (.type "list") rListD := by
  intro pins s σ H xs us Q I r h
  obtain ⟨d, kvs, rfl, hd, q⟩ := h
  obtain ⟨u, rfl, ru⟩ := vals1 r
  cases ru
  obtain ⟨hz, hs, vs, hkv, o, es, ep, ho, h1, h2, h3⟩ := (show ObjOk X.prog X.w H s.heap d (.dK kvs) from I.hok d _ hd)
  have hlen := hkv.length
  refine call_listDct (vs := vs) (ep := ep) (I.ok.hd hc) hs ⟨o, es, ho, h1, h2, h3⟩ (by omega) fun h tk acc c kp hS hacc => ?_
  refine ⟨.ref s.heap.objs.size, _, I.laid (t' := tk) kp (Nat.le_refl _) (show ObjOk X.prog X.w _ h _ (.lst (kvs.map fun x => kV x.1)) from ⟨by rw [List.length_map]; exact hz, acc.toList, c, ?_, hS⟩), rfl, q _ (I.hok.fresh (Nat.le_refl _))⟩
  obtain ⟨ha, hb⟩ := hacc
  have : ∀ (ks : List Key) (as : List Value), as.length = ks.length → (∀ (i : Nat) (v : Value), as[i]? = some v → ∃ k : Key, ks[i]? = some k ∧ (mixKind X.prog X.w).is k v = true) → Vals (ks.map kV) as := fun ks => by
    induction ks with
    | nil => intro as e _; rw [List.length_eq_zero_iff.mp e]; exact .nil
    | cons k ks ih =>
      intro as e hh
      cases as with
      | nil => cases e
      | cons a as =>
        obtain ⟨k', e1, e2⟩ := hh 0 a rfl
        have e1' : k = k' := by simpa using e1
        subst e1'
        exact .cons (kV_rel e2) (ih as (by simpa using e) fun i v hv => hh (i + 1) v (by simpa using hv))
  have key := this (kvs.map (·.1)) acc.toList (by rw [List.length_map, Array.length_toList, ha, hlen]) fun i v hv => by
    obtain ⟨k, x, e1, e2⟩ := hb i v (by simpa using hv)
    refine ⟨k, ?_, e2⟩
    rw [hkv.keys, List.getElem?_map, e1]; rfl
  rw [List.map_map] at key
  exact key
end
end L2
namespace L3
open PySem L2 GS
section
variable {X : Cx}
theorem pi_dict {tg l : Expr} {tl : TE} (hl : LE X l tl) : LI X tg l (iDict tl) := .mk (L2.pi_dict hl.out)
theorem pe_thaw {e : Expr} {t : TE} (he : LE X e t) : LE X e (tThaw t) := .mk (L2.pe_thaw he.out)
end
end L3
namespace GS
end GS
set_option Elab.async false
set_option linter.all false
set_option maxRecDepth 100000
set_option maxHeartbeats 4000000
namespace GS
open PySem PyProof.Rows
open L2 hiding pe_int pe_bl pe_non pe_str pv pe_glob pe_bltn pe_op pe_cmpR pe_one pe_and pe_ifExp pe_ix po_none po_some pe_slice pa_nil pa_cons pe_lst pe_tup pe_dnewK pe_callB pe_callTy pe_bm pt_cmpR pt_val pt_not pw_and1 pw_or1 pw_and pw_or pg_name pgs_nil pgs_cons pg_tup pi_list pi_tup pi_range1 ps_ret ps_expr ps_set ps_asg ps_if ps_while ps_for pss_nil pss_cons pss_one
open L3
/-! ### flat values -/
def FlD (d : D) : Prop := (∃ i, d = .int i) ∨ ∃ s, d = .str s
theorem FlD.el {d : D} (h : FlD d) : El d := by
  rcases h with ⟨i, rfl⟩ | ⟨s, rfl⟩
  · exact El.int i
  · exact El.str s
def fV : D → V
  | .int i => .int i
  | .str s => .str s
  | _ => .non
theorem fV_flat (d : D) : flatV (fV d) = true := by cases d <;> rfl
theorem flat_fVs (l : List D) : (l.map fV).all flatV = true := by rw [List.all_map, List.all_eq_true]; exact fun d _ => fV_flat d
theorem fV_eq {d e : D} (h1 : FlD d) (h2 : FlD e) : eqV (fV d) (fV e) = decide (d = e) := by
  rcases h1 with ⟨i, rfl⟩ | ⟨s, rfl⟩ <;> rcases h2 with ⟨j, rfl⟩ | ⟨t, rfl⟩
  · show (i == j) = _
    rw [Bool.eq_iff_iff, beq_iff_eq, decide_eq_true_iff]
    exact ⟨fun z => by rw [z], fun z => by injection z⟩
  · exact (decide_eq_false (by nofun)).symm
  · exact (decide_eq_false (by nofun)).symm
  · show (s == t) = _
    rw [Bool.eq_iff_iff, beq_iff_eq, decide_eq_true_iff]
    exact ⟨fun z => by rw [z], fun z => by injection z⟩
theorem fV_at {K : PySem.W.Frag} {H : Hp} {d : D} {v : V} (h : FlD d) : At K H d v ↔ v = fV d := by
  rcases h with ⟨i, rfl⟩ | ⟨s, rfl⟩
  · exact At_int
  · exact At_str
theorem fV_all {K : PySem.W.Frag} {H : Hp} : ∀ {ds : List D} {us : List V}, (∀ d ∈ ds, FlD d) → (AtAll K H ds us ↔ us = ds.map fV)
  | [], _, _ => AtAll_nil
  | d :: ds, us, h => by
    rw [AtAll_cons, List.map_cons]
    have h1 := h d List.mem_cons_self
    have h2 : ∀ x ∈ ds, FlD x := fun x hx => h x (List.mem_cons_of_mem _ hx)
    constructor
    · rintro ⟨v, r, rfl, a, b⟩
      rw [(fV_at h1).mp a, (fV_all h2).mp b]
    · rintro rfl
      exact ⟨_, _, rfl, (fV_at h1).mpr rfl, (fV_all h2).mpr rfl⟩
theorem inV_fV {d : D} {l : List D} (hd : FlD d) (hl : ∀ e ∈ l, FlD e) : inV (fV d) (l.map fV) = decide (d ∈ l) := by
  unfold inV
  rw [List.any_map, Bool.eq_iff_iff, List.any_eq_true, decide_eq_true_iff]
  constructor
  · rintro ⟨x, hx, h⟩
    have h' : eqV (fV x) (fV d) = true := h
    rw [fV_eq (hl x hx) hd, decide_eq_true_iff] at h'
    rw [← h']; exact hx
  · exact fun h => ⟨d, h, by show eqV (fV d) (fV d) = true; rw [fV_eq hd hd]; exact decide_eq_true rfl⟩
/-! ### what is left, by how far each row is read -/
def rst (n : Nat) (rw : Nat → List D) (a : Nat → Nat) : List (List D) := (List.range n).map fun i => (rw i).drop (a i)
def atL (n : Nat) (a : Nat → Nat) : List V := (List.range n).map fun i => V.int (a i : Nat)
noncomputable def nxt (rw : Nat → List D) (a : Nat → Nat) (c : D) (i : Nat) : Nat := if ((rw i).drop (a i)).take 1 = [c] then a i + 1 else a i
section
variable {n : Nat} {rw : Nat → List D} {a : Nat → Nat}
theorem atL_len : (atL n a).length = n := by rw [atL, List.length_map, List.length_range]
theorem atL_get {i : Nat} (h : i < n) : (atL n a)[i]? = some (.int (a i : Nat)) := by rw [atL, List.getElem?_map, List.getElem?_range h]; rfl
theorem atL_set {k b : Nat} : (atL n a).set k (.int (b : Nat)) = atL n (fun i => if i = k then b else a i) := by
  refine List.ext_getElem? fun j => ?_
  rw [List.getElem?_set]
  by_cases hj : j < n
  · rw [atL_get hj, atL_get hj, atL_len]
    by_cases e : k = j
    · rw [if_pos e, if_pos (by omega), if_pos e.symm]
    · rw [if_neg e, if_neg (fun z => e z.symm)]
  · have h1 : (atL n a)[j]? = none := List.getElem?_eq_none (by rw [atL_len]; omega)
    have h2 : ∀ a', (atL n a')[j]? = none := fun a' => List.getElem?_eq_none (by rw [atL_len]; omega)
    rw [h1, h2, atL_len]
    by_cases e : k = j
    · rw [if_pos e, if_neg (by omega)]
    · rw [if_neg e]
theorem rst_all : (rst n rw a).all List.isEmpty = ((List.range n).filter fun i => decide (a i < (rw i).length)).isEmpty := by
  unfold rst
  rw [List.all_map]
  induction List.range n with
  | nil => rfl
  | cons i l ih =>
    rw [List.all_cons, ih]
    by_cases h : a i < (rw i).length
    · rw [List.filter_cons_of_pos (by exact decide_eq_true h)]
      have : (List.isEmpty ∘ fun i => (rw i).drop (a i)) i = false := by
        show ((rw i).drop (a i)).isEmpty = false
        rw [List.isEmpty_eq_false_iff]
        intro z
        have := List.drop_eq_nil_iff.mp z
        omega
      rw [this]; rfl
    · rw [List.filter_cons_of_neg (by rw [decide_eq_false h]; exact Bool.false_ne_true)]
      have : (List.isEmpty ∘ fun i => (rw i).drop (a i)) i = true := by
        show ((rw i).drop (a i)).isEmpty = true
        rw [List.drop_eq_nil_iff.mpr (by omega)]; rfl
      rw [this]; rfl
theorem rst_heads : (rst n rw a).filterMap List.head? = ((List.range n).filter fun i => decide (a i < (rw i).length)).map fun i => (rw i).getD (a i) .non := by
  unfold rst
  induction List.range n with
  | nil => rfl
  | cons i l ih =>
    rw [List.map_cons, List.filterMap_cons, ih, List.head?_drop]
    by_cases h : a i < (rw i).length
    · rw [List.filter_cons_of_pos (by exact decide_eq_true h), List.map_cons, List.getElem?_eq_getElem h, List.getD_eq_getElem?_getD, List.getElem?_eq_getElem h]; rfl
    · rw [List.filter_cons_of_neg (by rw [decide_eq_false h]; exact Bool.false_ne_true), List.getElem?_eq_none (by omega)]
def bhd (rw : Nat → List D) (a : Nat → Nat) (j : Nat) : List D := ((List.range j).map fun i => (rw i).drop (a i + 1)).flatten
theorem bhd_succ (j : Nat) : bhd rw a (j + 1) = bhd rw a j ++ (rw j).drop (a j + 1) := by
  unfold bhd
  rw [List.range_succ, List.map_append, List.flatten_append]
  simp
theorem bhd_len (h : ∀ i, i < n → (rw i).length ≤ 100) : ∀ j, j ≤ n → (bhd rw a j).length ≤ 100 * j
  | 0, _ => Nat.le_refl _
  | j + 1, hj => by
    have h1 := bhd_len h j (by omega)
    have h2 := h j (by omega)
    rw [bhd_succ, List.length_append, List.length_drop]
    omega
theorem bhd_mem (c : D) : decide (c ∈ bhd rw a n) = isBehind c (rst n rw a) := by
  rw [Bool.eq_iff_iff, decide_eq_true_iff]
  unfold bhd isBehind rst
  rw [List.any_map, List.any_eq_true, List.mem_flatten]
  constructor
  · rintro ⟨l, hl, hc⟩
    obtain ⟨i, hi, rfl⟩ := List.mem_map.mp hl
    refine ⟨i, hi, ?_⟩
    show decide (c ∈ ((rw i).drop (a i)).tail) = true
    rw [decide_eq_true_iff, List.tail_drop]; exact hc
  · rintro ⟨i, hi, h⟩
    have h' : decide (c ∈ ((rw i).drop (a i)).tail) = true := h
    rw [decide_eq_true_iff, List.tail_drop] at h'
    exact ⟨_, List.mem_map.mpr ⟨i, hi, rfl⟩, h'⟩
theorem bhd_fl (h : ∀ i, ∀ d ∈ rw i, FlD d) (j : Nat) : ∀ d ∈ bhd rw a j, FlD d := fun d hd => by
  obtain ⟨l, hl, hc⟩ := List.mem_flatten.mp hd
  obtain ⟨i, hi, rfl⟩ := List.mem_map.mp hl
  exact h i d (List.mem_of_mem_drop hc)
theorem rst_nxt (c : D) : rst n rw (nxt rw a c) = (rst n rw a).map (offHd c) := by
  unfold rst
  rw [List.map_map]
  refine List.map_congr_left fun i _ => ?_
  show (rw i).drop (nxt rw a c i) = offHd c ((rw i).drop (a i))
  unfold nxt
  have e : (rw i).drop (a i + 1) = ((rw i).drop (a i)).tail := List.tail_drop.symm
  cases h : (rw i).drop (a i) with
  | nil => rw [if_neg (by simp), h]; rfl
  | cons x xs =>
    rw [offHd]
    by_cases hx : x = c
    · rw [if_pos (by simp [hx]), if_pos hx, e, h]; rfl
    · rw [if_neg (by simpa using hx), if_neg hx, h]
theorem rst_mem {r : List D} (h : r ∈ rst n rw a) : ∃ i, i < n ∧ r = (rw i).drop (a i) := by
  obtain ⟨i, hi, e⟩ := List.mem_map.mp h
  exact ⟨i, List.mem_range.mp hi, e.symm⟩
theorem free_fl (h : ∀ i, ∀ d ∈ rw i, FlD d) : ∀ c ∈ freeL (rst n rw a), FlD c := fun c hc => by
  obtain ⟨h1, _⟩ := List.mem_filter.mp hc
  rw [List.mem_filterMap] at h1
  obtain ⟨r, hr, e⟩ := h1
  obtain ⟨i, _, rfl⟩ := rst_mem hr
  exact h i c (List.mem_of_mem_drop (List.mem_of_mem_head? (by rw [e]; rfl)))
theorem tot_le9 (h : ∀ i, i < n → (rw i).length ≤ 100) : tot (rst n rw a) ≤ 100 * n := by
  have : ∀ l : List Nat, (∀ i ∈ l, (rw i).length ≤ 100) → tot (l.map fun i => (rw i).drop (a i)) ≤ 100 * l.length := fun l => by
    induction l with
    | nil => intro _; exact Nat.le_refl _
    | cons i l ih =>
      intro hl
      have h1 := ih fun j hj => hl j (List.mem_cons_of_mem _ hj)
      have h2 := hl i List.mem_cons_self
      rw [List.map_cons, tot_cons, List.length_drop, List.length_cons]
      omega
  have := this (List.range n) fun i hi => h i (List.mem_range.mp hi)
  rwa [List.length_range] at this
end
theorem rst_zero (dss : List (List D)) : rst dss.length (fun i => dss.getD i []) (fun _ => 0) = dss := by
  have := range_map dss [] id
  rw [List.map_id] at this
  exact this
theorem cut_from {xs : List V} (i j : Nat) : cutV xs (some (i : Nat)) (some (j : Nat)) = (xs.drop i).take (j - i) := by
  unfold cutV
  rw [HT.sIx_nat, HT.sIx_nat]
  by_cases h : i ≤ xs.length
  · rw [Nat.min_eq_left h]
    by_cases h2 : j ≤ xs.length
    · rw [Nat.min_eq_left h2]
    · rw [Nat.min_eq_right (by omega), List.take_of_length_le (by rw [List.length_drop]; omega), List.take_of_length_le (by rw [List.length_drop]; omega)]
  · rw [Nat.min_eq_right (by omega : xs.length ≤ i), List.drop_eq_nil_iff.mpr (Nat.le_refl _), List.drop_eq_nil_iff.mpr (by omega)]; simp
/-! ### rows that are lists, of numbers or texts -/
def LRows (K : PySem.W.Frag) (H : Hp) (dss : List (List D)) (vs : List V) : Prop := vs.length = dss.length ∧ ∀ i, i < dss.length → ∃ q, vs[i]? = some (.ref q) ∧ SqL K H q ((dss.getD i []).map fV)
theorem LRows.same {K : PySem.W.Frag} {H H' : Hp} (s : Same H H') {dss : List (List D)} {vs : List V} (h : LRows K H dss vs) : LRows K H' dss vs := ⟨h.1, fun i hi => let ⟨q, e, z⟩ := h.2 i hi; ⟨q, e, s.seq z⟩⟩
/-! ### walking two lists -/
section
variable {K : PySem.W.Frag} {H : Hp} {p q : Addr} {xs ys : List V}
theorem itz_stop (h1 : SqL K H p xs) (h2 : SqL K H q ys) (hl : xs.length = ys.length) : (Itz K p q).stop xs.length H := ⟨xs, ys, h1, h2, .inl (Nat.le_refl _)⟩
theorem itz_go (h1 : SqL K H p xs) (h2 : SqL K H q ys) (hl : xs.length = ys.length) {i : Nat} (hi : i < xs.length) : (Itz K p q).go i H := ⟨xs, xs[i], ys, ys[i], h1, List.getElem?_eq_getElem hi, h2, List.getElem?_eq_getElem (by omega)⟩
theorem itz_yld (h1 : SqL K H p xs) (h2 : SqL K H q ys) {i : Nat} {x : V} {H' : Hp} (hy : (Itz K p q).yld i H x H') : ∃ T u v, H T = none ∧ x = .ref T ∧ H' = upd H T (.tup [u, v]) ∧ xs[i]? = some u ∧ ys[i]? = some v := by
  obtain ⟨T, u, v, a, b, c, d, e⟩ := hy
  exact ⟨T, u, v, a, b, c, d xs h1, e ys h2⟩
theorem for_zip {g : TG} {tb : TS} {D : Ends} {σ : L2.St} {H : Hp} (Pv : Nat → L2.St → Hp → Prop) (h0 : Pv 0 σ H) (hl : xs.length = ys.length) (hq : ∀ i σ H, Pv i σ H → SqL K H p xs ∧ SqL K H q ys)
    (hs : ∀ i σ H T u v, i < xs.length → Pv i σ H → xs[i]? = some u → ys[i]? = some v → H T = none → g (.ref T) σ (upd H T (.tup [u, v])) fun σ2 H2 => tb { D with nx := Pv (i + 1), ct := Pv (i + 1), bk := D.nx } σ2 H2) (hd : ∀ σ H, Pv xs.length σ H → D.nx σ H) :
    ∃ W : Nat → Nat → L2.St → Hp → Prop, (∃ m, W 0 m σ H) ∧ ∀ i m σ H, W i m σ H →
      ((Itz K p q).stop i H ∧ D.nx σ H) ∨ ((Itz K p q).go i H ∧ ∃ N : L2.St → Hp → Prop, (∀ σ' H', N σ' H' → ∃ m', m' < m ∧ W (i + 1) m' σ' H') ∧ ∀ x H', (Itz K p q).yld i H x H' → g x σ H' fun σ2 H2 => tb { D with nx := N, ct := N, bk := D.nx } σ2 H2) := by
  refine ⟨fun i m σ H => m = xs.length - i ∧ i ≤ xs.length ∧ Pv i σ H, ⟨_, rfl, Nat.zero_le _, h0⟩, ?_⟩
  rintro i m σ H ⟨rfl, hi, pv⟩
  obtain ⟨a1, a2⟩ := hq i σ H pv
  by_cases hlt : i < xs.length
  · refine .inr ⟨itz_go a1 a2 (by omega) (by omega), Pv (i + 1), fun σ' H' p' => ⟨xs.length - (i + 1), by omega, rfl, hlt, p'⟩, fun x H' y => ?_⟩
    obtain ⟨T, u, v, hT, rfl, rfl, e1, e2⟩ := itz_yld a1 a2 y
    exact hs i σ H T u v hlt pv e1 e2 hT
  · have e : i = xs.length := by omega
    subst e
    exact .inl ⟨⟨xs, ys, a1, a2, .inl (by omega)⟩, hd σ H pv⟩
end
/-- a comprehension over two lists, that keeps all that stands and whose things stand in no heap -/
theorem compZ {K : PySem.W.Frag} {p q : Addr} {tc : TT} {te : TE} {H : Hp} {R : Addr → Hp → Prop} {vs xs ys : List V} (h1 : SqL K H p xs) (h2 : SqL K H q ys) (hl : xs.length = ys.length) (b : Nat → Bool) (f : Nat → V) (hn : xs.length ≤ 1000000)
    (htc : ∀ i H1 (Q' : Bool → Hp → Prop) u v, i < xs.length → Same H H1 → xs[i]? = some u → ys[i]? = some v → (∀ H2, Same H1 H2 → Q' (b i) H2) → tc (some u :: some v :: vs.map some) H1 Q')
    (hte : ∀ i H1 (Q' : VK) u v, i < xs.length → b i = true → Same H H1 → xs[i]? = some u → ys[i]? = some v → (∀ H2, Same H1 H2 → Q' (f i) H2) → te (some u :: some v :: vs.map some) H1 Q')
    (q' : ∀ D H', H D = none → Same H H' → H' D = some (.lst (((List.range xs.length).filter b).map f)) → R D H') :
    ∀ D, H D = none → ∃ W : Nat → Nat → List V → Hp → Prop, (∃ m, W 0 m [] (upd H D (.lst []))) ∧ ∀ i m zs H, W i m zs H →
      ((Itz K p q).stop i H ∧ R D H) ∨ ((Itz K p q).go i H ∧ ∀ x H' (ox : List (Option V)), ox.length = 2 → (Itz K p q).yld i H x H' → gTup K 2 (gCons (gName 0) (gCons (gName 1) gNil)) x (ox ++ vs.map some) H' fun σ2 H2 => ∃ ox2, ox2.length = 2 ∧ σ2 = ox2 ++ vs.map some ∧ tc σ2 H2 fun b H3 =>
        if b = true then te σ2 H3 fun v H4 => H4 D = some (.lst zs) ∧ zs.length < sizeLine ∧ ∃ m', m' < m ∧ W (i + 1) m' (zs ++ [v]) (upd H4 D (.lst (zs ++ [v]))) else ∃ m', m' < m ∧ W (i + 1) m' zs H3) := by
  intro D hD
  refine ⟨fun i m zs H' => m = xs.length - i ∧ i ≤ xs.length ∧ Same H H' ∧ H' D = some (.lst zs) ∧ zs = ((List.range i).filter b).map f, ⟨_, rfl, Nat.zero_le _, same_new hD _, upd_same, rfl⟩, ?_⟩
  rintro i m zs H1 ⟨rfl, hi, sH, hDl, hz⟩
  by_cases hlt : i < xs.length
  · refine .inr ⟨itz_go (sH.seq h1) (sH.seq h2) hl hlt, fun x H' ox hox hy => ?_⟩
    obtain ⟨T, u, v, hT, rfl, rfl, e1, e2⟩ := itz_yld (sH.seq h1) (sH.seq h2) hy
    obtain ⟨o1, o2, rfl⟩ : ∃ o1 o2, ox = [o1, o2] := by
      match ox, hox with
      | [o1, o2], _ => exact ⟨o1, o2, rfl⟩
    have s1 : Same H1 (upd H1 T (.tup [u, v])) := same_new hT _
    refine ⟨T, [u, v], rfl, .inl (.inl upd_same), rfl, u, [v], rfl, v, [], rfl, rfl, [some u, some v], rfl, rfl, htc i _ _ u v hlt (sH.trans s1) e1 e2 fun H2 s2 => ?_⟩
    have hl2 : ((List.range i).filter b).length ≤ i := Nat.le_trans (List.length_filter_le ..) (by simp)
    have er : (List.range (i + 1)).filter b = (List.range i).filter b ++ (if b i = true then [i] else []) := by
      rw [List.range_succ, List.filter_append, List.filter_cons, List.filter_nil]
    have s12 := s1.trans s2
    cases hb : b i with
    | false =>
      refine iteF ⟨xs.length - (i + 1), by omega, rfl, hlt, sH.trans s12, s12 _ _ hDl, ?_⟩
      rw [er, hb, if_neg Bool.false_ne_true, List.append_nil]
      exact hz
    | true =>
      refine iteT (hte i H2 _ u v hlt hb (sH.trans s12) e1 e2 fun H3 s3 => ?_)
      have s4 := s12.trans s3
      have lz : zs.length ≤ i := by rw [hz, List.length_map]; exact hl2
      refine ⟨s4 _ _ hDl, Nat.lt_of_lt_of_le (Nat.lt_succ_self _) (small (n := zs.length + 1) (by omega)), xs.length - (i + 1), by omega, rfl, hlt, same_upd (sH.trans s4) hD _, upd_same, ?_⟩
      rw [er, hb, if_pos rfl, List.map_append, hz]; rfl
  · have e : i = xs.length := by omega
    subst e
    refine .inl ⟨itz_stop (sH.seq h1) (sH.seq h2) hl, q' D H1 hD sH ?_⟩
    rw [hDl, hz]
end GS
set_option Elab.async false
set_option linter.all false
set_option maxRecDepth 100000
set_option maxHeartbeats 4000000
namespace GS
open PySem PyProof.Rows
open L2 hiding pe_int pe_bl pe_non pe_str pv pe_glob pe_bltn pe_op pe_cmpR pe_one pe_and pe_ifExp pe_ix po_none po_some pe_slice pa_nil pa_cons pe_lst pe_tup pe_dnewK pe_callB pe_callTy pe_bm pt_cmpR pt_val pt_not pw_and1 pw_or1 pw_and pw_or pg_name pgs_nil pgs_cons pg_tup pi_list pi_tup pi_range1 ps_ret ps_expr ps_set ps_asg ps_if ps_while ps_for pss_nil pss_cons pss_one
open L3
abbrev sLM : Stmt := top9 26
theorem deps_fl : ∀ {ds : List D}, (∀ d ∈ ds, FlD d) → deps ds = 0
  | [], _ => by rw [deps]
  | d :: ds, h => by
    rw [deps, deps_fl fun x hx => h x (List.mem_cons_of_mem _ hx)]
    rcases h d List.mem_cons_self with ⟨i, rfl⟩ | ⟨s, rfl⟩
    · rw [dep_int]; rfl
    · rw [dep_str]; rfl
theorem ixN_nat {n j : Nat} (h : j < n) : ixN n ((0 : Int) + (j : Nat)) = some j := by
  unfold ixN
  rw [if_pos (by omega), if_pos (by omega)]
  congr 1
  omega
section
variable {P : Program} {w : World} {K : PySem.W.Frag} {mg : Str → Option Value} {base : Heap} {f : Addr} {fd : FuncData}
def spLM (K : PySem.W.Frag) : Sp := fun vs H Q _ => ∃ (p : Addr) (rvs : List V) (dss : List (List D)), vs = [.ref p] ∧ SqL K H p rvs ∧ LRows K H dss rvs ∧ (∀ ds ∈ dss, ∀ d ∈ ds, FlD d) ∧ dss.length ≤ 1000 ∧ (∀ ds ∈ dss, ds.length ≤ 100) ∧
  (∀ H', Same H H' → GS.mg dss = none → Q .non H') ∧ (∀ q H' l, Same H H' → GS.mg dss = some l → H q = none → H' q = some (.lst (l.map fV)) → Q (.ref q) H')
theorem scLM : FnScope ["_law_rows", "_law_at", "_law_found", "_law_heads", "_law_behind", "_law_row", "_law_spot", "_law_free", "_law_k"] ["_law_rows"] (defScope sLM) := ⟨rfl, rfl, rfl, by decide +kernel, rfl, by decide +kernel, by decide +kernel⟩
theorem ok_LM (g : Glb9 mg) (F : Fun K "_law_merged" "_law_merged" sLM f fd) : FnOk P w K mg base CX0 1 f fd ["_law_rows"] (spLM K) := by
  refine F.okI scLM (fun vs H Q E h => ?_) (fun cdv A outer s H vs Q E hr h => ?_)
  · obtain ⟨_, _, _, rfl, _⟩ := h; rfl
  obtain ⟨p, rvs, dss, rfl, hp, hR, hfl, hmany, hlen, qn, qs⟩ := h
  refine ⟨_, pss_cons (ps_set (i := 1) scLM.nd rfl (Or.inr rfl) (pe_op op_rep (pe_lst (pa_cons pe_int pa_nil)) (pe_callB call_len_seq rfl g.nLen b9Len (pa_cons (pv 0) pa_nil))))
    (pss_cons (ps_set (i := 2) scLM.nd rfl (Or.inl rfl) (pe_lst pa_nil))
    (pss_cons (ps_while PassesOwn.never (pt_cmpR (op_neNil hr) (.mk (L2.pe_compG (cl := [("_law_rows", s.heap.objs.size + 1), ("_law_at", s.heap.objs.size + 2)]) (Xs := ["_law_k"]) (Nf := ["_law_rows", "_law_at"]) (js := [0, 1]) ?k1 rfl (LI.out (pi_range1 rfl g.nRange (pa_cons (pe_callB call_len_seq rfl g.nLen b9Len (pa_cons (pv 0) pa_nil)) pa_nil))) (fun C s0 H0 fp => LG.out (pg_name (i := 0) (show (["_law_k", "_law_rows", "_law_at"] : List Str).Nodup by decide +kernel) rfl (Or.inl rfl))) (fun C s0 H0 fp => pts_one (LT.out (pt_cmpR op_lt (pe_ix (r := rIxL K) ix_list (pv 2) (pv 0) (fun _ _ => rfl)) (pe_callB (r := rLen K) call_len_seq rfl g.nLen b9Len (pa_cons (pe_ix (r := rIxL K) ix_list (pv 1) (pv 0) (fun _ _ => rfl)) pa_nil)) (nomark _)))) (fun C s0 H0 fp => LE.out (pv 0)))) (pe_lst pa_nil) (nomark _))
      (pss_cons (.mk (L2.ps_setCompG (iy := 3) (cl := []) (Xs := ["_law_row", "_law_spot"]) (Nf := []) (js := []) (g := gTup K 2 (gCons (gName 0) (gCons (gName 1) gNil))) ?k2 rfl (L2.pi_zip rfl g.nZip (LA.out (pa_cons (pv 0) (pa_cons (pv 1) pa_nil)))) (fun C s0 H0 fp => LG.out (pg_tup rfl (pgs_cons (pg_name (i := 0) (show (["_law_row", "_law_spot"] : List Str).Nodup by decide +kernel) rfl (Or.inl rfl)) (pgs_cons (pg_name (i := 1) (show (["_law_row", "_law_spot"] : List Str).Nodup by decide +kernel) rfl (Or.inl rfl)) pgs_nil)))) (fun C s0 H0 fp => pts_one (LT.out (pt_cmpR op_lt (pv 1) (pe_callB (r := rLen K) call_len_seq rfl g.nLen b9Len (pa_cons (pv 0) pa_nil)) (nomark _)))) (fun C s0 H0 fp => LE.out (pe_ix (r := rIxL K) ix_list (pv 0) (pv 1) (fun _ _ => rfl))) scLM.nd rfl (Or.inl rfl)))
      (pss_cons (ps_set (i := 4) scLM.nd rfl (Or.inr rfl) (pe_lst pa_nil))
      (pss_cons (ps_for PassesOwn.never rfl (.mk (L2.pi_zip rfl g.nZip (LA.out (pa_cons (pv 0) (pa_cons (pv 1) pa_nil))))) (pg_tup rfl (pgs_cons (pg_name (i := 5) scLM.nd rfl (Or.inl rfl)) (pgs_cons (pg_name (i := 6) scLM.nd rfl (Or.inl rfl)) pgs_nil)))
        (pss_one (ps_expr (pe_bm PySem.F.plainAttrs_list PySem.F.slot_list_extend PySem.F.type_list_extend mt_extend (pv 4) (pa_cons (pe_slice sl_list (pv 5) (po_some (pe_op op_add (pv 6) pe_int)) po_none) pa_nil)))))
      (pss_cons (.mk (L2.ps_setCompG (iy := 7) (cl := [("_law_behind", s.heap.objs.size + 3)]) (Xs := ["_law_head"]) (Nf := ["_law_behind"]) (js := [4]) ?k3 rfl (LI.out (pi_list (pv 3))) (fun C s0 H0 fp => LG.out (pg_name (i := 0) (show (["_law_head", "_law_behind"] : List Str).Nodup by decide +kernel) rfl (Or.inl rfl))) (fun C s0 H0 fp => pts_one (LT.out (pt_cmpR (r := rIn K true) op_notIn_seq (pv 0) (pv 1) rfl))) (fun C s0 H0 fp => LE.out (pv 0)) scLM.nd rfl (Or.inl rfl)))
      (pss_cons (ps_if (pt_cmpR (op_eqNil hr) (pv 7) (pe_lst pa_nil) (nomark _)) (pss_one (ps_ret pe_non)) pss_nil)
      (pss_cons (ps_expr (pe_bm PySem.F.plainAttrs_list PySem.F.slot_list_append PySem.F.type_list_append mt_append (pv 2) (pa_cons (pe_ix (r := rIxL K) ix_list (pv 7) pe_int (fun _ _ => rfl)) pa_nil)))
      (pss_one (ps_for PassesOwn.never rfl (pi_range1 rfl g.nRange (pa_cons (pe_callB call_len_seq rfl g.nLen b9Len (pa_cons (pv 0) pa_nil)) pa_nil)) (pg_name (i := 8) scLM.nd rfl (Or.inl rfl))
        (pss_one (ps_if (pt_cmpR (op_eqL hr) (pe_slice sl_list (pe_ix (r := rIxL K) ix_list (pv 0) (pv 8) (fun _ _ => rfl)) (po_some (pe_ix (r := rIxL K) ix_list (pv 1) (pv 8) (fun _ _ => rfl))) (po_some (pe_op op_add (pe_ix (r := rIxL K) ix_list (pv 1) (pv 8) (fun _ _ => rfl)) pe_int))) (pe_lst (pa_cons (pe_ix (r := rIxL K) ix_list (pv 7) pe_int (fun _ _ => rfl)) pa_nil)) (nomark _))
          (pss_one (ps_asg (pe_op op_add (pe_ix (r := rIxL K) ix_list (pv 1) (pv 8) (fun _ _ => rfl)) pe_int) (.mk (L2.pg_sub (L2.pv 1) (L2.pv 8) set_list)))) pss_nil)))))))))))
    (pss_one (ps_ret (pv 2))))), ?main⟩
  case k1 =>
    refine ⟨rfl, by decide +kernel, rfl, by decide +kernel, fun y c h => ?_, fun y hy => ?_, rfl, fun j y h => ?_⟩
    · rcases lookup2 h with ⟨rfl, rfl⟩ | ⟨rfl, rfl⟩ <;> rfl
    · have hy' : ([(".0", .local), ("_law_k", .local), ("len", .globalImplicit), ("_law_at", .cell), ("_law_rows", .cell)] : List (Str × NameKind)).lookup y = some .cell ∨ ([(".0", .local), ("_law_k", .local), ("len", .globalImplicit), ("_law_at", .cell), ("_law_rows", .cell)] : List (Str × NameKind)).lookup y = some .free := hy
      rcases hy' with z | z
      · have m := PySem.mem_of_lookup z
        simp at m
        rcases m with rfl | rfl
        · exact ⟨_, rfl⟩
        · exact ⟨_, rfl⟩
      · have m := PySem.mem_of_lookup z
        simp at m
    · match j, h with
      | 0, h => cases h; exact ⟨0, rfl, rfl, rfl, .inl rfl⟩
      | 1, h => cases h; exact ⟨1, rfl, rfl, rfl, .inl rfl⟩
      | j + 2, h => simp at h
  case k2 =>
    refine ⟨rfl, by decide +kernel, rfl, by decide +kernel, fun y c h => by simp at h, fun y hy => ?_, rfl, fun j y h => by simp at h⟩
    have hy' : ([(".0", .local), ("_law_row", .local), ("_law_spot", .local), ("len", .globalImplicit)] : List (Str × NameKind)).lookup y = some .cell ∨ ([(".0", .local), ("_law_row", .local), ("_law_spot", .local), ("len", .globalImplicit)] : List (Str × NameKind)).lookup y = some .free := hy
    rcases hy' with z | z
    · have m := PySem.mem_of_lookup z
      simp at m
    · have m := PySem.mem_of_lookup z
      simp at m
  case k3 =>
    refine ⟨rfl, by decide +kernel, rfl, by decide +kernel, fun y c h => ?_, fun y hy => ?_, rfl, fun j y h => ?_⟩
    · obtain ⟨rfl, rfl⟩ := look1 h; rfl
    · have hy' : ([(".0", .local), ("_law_head", .local), ("_law_behind", .cell)] : List (Str × NameKind)).lookup y = some .cell ∨ ([(".0", .local), ("_law_head", .local), ("_law_behind", .cell)] : List (Str × NameKind)).lookup y = some .free := hy
      rcases hy' with z | z
      · have m := PySem.mem_of_lookup z
        simp at m
        subst m
        exact ⟨_, rfl⟩
      · have m := PySem.mem_of_lookup z
        simp at m
    · match j, h with
      | 0, h => cases h; exact ⟨4, rfl, rfl, rfl, .inl rfl⟩
      | j + 1, h => simp at h
  case main =>
    obtain ⟨lR, hR⟩ := id hR
    obtain ⟨n, en⟩ : ∃ n, n = dss.length := ⟨_, rfl⟩
    obtain ⟨rw', erw⟩ : ∃ rw' : Nat → List D, rw' = fun i => dss.getD i [] := ⟨_, rfl⟩
    have hrl : ∀ i, i < n → (rw' i).length ≤ 100 := fun i hi => by
      rw [erw]
      show (dss.getD i []).length ≤ 100
      rw [List.getD_eq_getElem?_getD, List.getElem?_eq_getElem (by omega)]
      exact hlen _ (List.getElem_mem _)
    have hfl' : ∀ i, ∀ d ∈ rw' i, FlD d := fun i d hd => by
      rw [erw] at hd
      have hd' : d ∈ dss.getD i [] := hd
      rw [List.getD_eq_getElem?_getD] at hd'
      by_cases hi : i < dss.length
      · rw [List.getElem?_eq_getElem hi] at hd'
        exact hfl _ (List.getElem_mem _) d hd'
      · rw [List.getElem?_eq_none (by omega)] at hd'
        cases hd'
    have hrow : ∀ i, i < n → ∃ q, rvs[i]? = some (.ref q) ∧ SqL K H q ((rw' i).map fV) := fun i hi => by rw [erw]; exact hR i (by omega)
    have e0 : rst n rw' (fun _ => 0) = dss := by rw [en, erw]; exact rst_zero dss
    rw [← en] at lR hmany
    refine ⟨by show 1 ≤ sizeLine; decide, fun zl hzl => ?_⟩
    have sz : Same H (upd H zl (.lst [.int 0])) := same_new hzl _
    have cz : upd H zl (.lst [.int 0]) zl = some (.lst [.int 0]) := upd_same
    revert sz cz
    generalize upd H zl (.lst [.int 0]) = H1
    intro sz cz
    refine ⟨_, rfl, p, rvs, rfl, .inl (sz.seq hp), zl, _, _, rfl, rfl, cz, by omega, by omega, ?_, fun al hal => ?_⟩
    · show 1 * Int.toNat (rvs.length : Nat) ≤ sizeLine
      exact small (by omega)
    have eal : (List.replicate (Int.toNat (rvs.length : Nat)) [V.int 0]).flatten = atL n (fun _ => 0) := by
      rw [Int.toNat_natCast, lR, List.flatten_replicate_singleton, atL, List.map_const', List.length_range]; rfl
    rw [eal]
    have s2 : Same H (upd H1 al (.lst (atL n fun _ => 0))) := sz.trans (same_new hal _)
    have c2 : upd H1 al (.lst (atL n fun _ => 0)) al = some (.lst (atL n fun _ => 0)) := upd_same
    have hal0 : H al = none := sz.free hal
    revert s2 c2
    generalize upd H1 al (.lst (atL n fun _ => 0)) = H2
    intro s2 c2
    refine ⟨Nat.zero_le _, fun fl hfl2 => ?_⟩
    have naf : al ≠ fl := fun z => by rw [← z, c2] at hfl2; cases hfl2
    have hfl0 : H fl = none := s2.free hfl2
    have s3 : Same H (upd H2 fl (.lst [])) := s2.trans (same_new hfl2 _)
    have a3 : upd H2 fl (.lst []) al = some (.lst (atL n fun _ => 0)) := by rw [upd_ne naf]; exact c2
    have c3 : upd H2 fl (.lst []) fl = some (.lst []) := upd_same
    revert s3 a3 c3
    generalize upd H2 fl (.lst []) = H3
    intro s3 a3 c3
    refine ⟨fun m σ H' => ∃ (a : Nat → Nat) (os : List D) (o3 o4 o5 o6 o7 o8 : Option V), σ = [some (.ref p), some (.ref al), some (.ref fl), o3, o4, o5, o6, o7, o8] ∧ Same H H' ∧ H' al = some (.lst (atL n a)) ∧ H' fl = some (.lst (os.map fV)) ∧ GS.mg dss = (GS.mg (rst n rw' a)).map (os ++ ·) ∧ m = tot (rst n rw' a) ∧ tot (rst n rw' a) + os.length ≤ 100 * n, ⟨_, fun _ => 0, [], none, none, none, none, none, none, rfl, s3, a3, c3, ?_, rfl, ?_⟩, ?_⟩
    · rw [e0]; cases GS.mg dss <;> rfl
    · have := tot_le9 (n := n) (rw := rw') (a := fun _ => 0) hrl
      simpa using this
    rintro m σ H4 ⟨a, os, o3, o4, o5, o6, o7, o8, rfl, s4, a4, c4, hm, rfl, hto⟩
    have ge : ∀ (H' : Hp), Same H H' → ∀ i, i < n → ∃ q, atI rvs ((0 : Int) + (i : Nat)) = some (.ref q) ∧ SqL K H' q ((rw' i).map fV) := fun H' s' i hi => by
      obtain ⟨q, e, z⟩ := hrow i hi
      refine ⟨q, ?_, s'.seq z⟩
      rw [show (0 : Int) + (i : Nat) = (i : Nat) by omega]
      exact atI_nat e
    have ga : ∀ (a : Nat → Nat) (i : Nat), i < n → atI (atL n a) ((0 : Int) + (i : Nat)) = some (.int (a i : Nat)) := fun a i hi => by
      rw [show (0 : Int) + (i : Nat) = (i : Nat) by omega]
      exact atI_nat (atL_get hi)
    refine ⟨_, rfl, p, rvs, rfl, .inl (s4.seq hp), _, rfl, by omega, by omega, ?_⟩
    refine ⟨[.ref p, .ref al], ⟨rfl, fun j i h => ?_⟩, compG_one (vs := [.ref p, .ref al]) n (fun i => .int (0 + (i : Nat))) (fun i => decide (a i < (rw' i).length)) (fun i v _ => v = .int (i : Nat)) (fun _ _ _ _ _ z => z) (by omega) (fun H' _ => ?_) (fun i H' hi _ => ?_) (fun i H1 x H2 hi _ hy => ⟨hy.2, hy.1⟩) (fun i H5 Q' hi s5 k => ?_) (fun j H5 D l' Q' hj _ s5 _ _ k => ?_) fun D H5 ys hD s5 hl5 hP => ?_⟩
    · match j, h with
      | 0, h => cases h; exact ⟨_, rfl, rfl⟩
      | 1, h => cases h; exact ⟨_, rfl, rfl⟩
      | j + 2, h => simp at h
    · show Int.toNat _ ≤ _
      omega
    · show i < Int.toNat _
      omega
    · obtain ⟨q, e1, z1⟩ := ge H5 (s4.trans s5) i hi
      refine ⟨_, rfl, _, rfl, al, _, _, _, rfl, rfl, SqL.of (s5 _ _ a4), ga a i hi, _, rfl, _, rfl, p, _, _, _, rfl, rfl, (s4.trans s5).seq hp, e1, q, _, rfl, .inl z1, _, _, rfl, rfl, _, rfl, ?_⟩
      have e : decide (((a i : Nat) : Int) < (((rw' i).map fV).length : Nat)) = decide (a i < (rw' i).length) := by
        rw [List.length_map]
        exact decide_eq_decide.mpr (by omega)
      rw [e]
      exact k H5 (Same.refl _)
    · exact ⟨_, rfl, k _ _ (Same.refl _) (by rw [Int.zero_add])⟩
    have eys := hP.eq
    have hnil : ys.isEmpty = (rst n rw' a).all List.isEmpty := by
      rw [rst_all, eys]
      cases (List.range n).filter fun i => decide (a i < (rw' i).length) <;> rfl
    refine ⟨Nat.zero_le _, fun nl hnl => ⟨D, nl, ys, rfl, rfl, SqL.of (by rw [upd_ne (fun z => by rw [← z, hl5] at hnl; cases hnl)]; exact hl5), SqL.of upd_same, _, rfl, ?_⟩⟩
    have s6 : Same H4 (upd H5 nl (.lst [])) := s5.trans (same_new hnl _)
    revert s6
    generalize upd H5 nl (.lst []) = H6
    intro s6
    rw [hnil]
    cases hall : (rst n rw' a).all List.isEmpty with
    | true =>
      refine iteF ⟨_, rfl, qs fl H6 os (s4.trans s6) ?_ hfl0 (s6 _ _ c4)⟩
      rw [hm, mg_done hall, Option.map_some, List.append_nil]
    | false =>
    have hna : ¬ (rst n rw' a).all List.isEmpty = true := by rw [hall]; exact Bool.false_ne_true
    refine iteT ⟨_, fun σ' H' h => h, ?_⟩
    have s6' := s4.trans s6
    have a6 := s6 _ _ a4
    have c6 := s6 _ _ c4
    have lat : rvs.length = (atL n a).length := by rw [lR, atL_len]
    refine ⟨_, rfl, _, rfl, p, al, rfl, ⟨_, s6'.seq hp⟩, ⟨_, SqL.of a6⟩, [], ⟨rfl, fun j i h => by simp at h⟩, compZ (vs := []) (s6'.seq hp) (SqL.of a6) lat (fun i => decide (a i < (rw' i).length)) (fun i => fV ((rw' i).getD (a i) .non)) (by omega) (fun i H7 Q' u v hi s7 hu hv k => ?_) (fun i H7 Q' u v hi hb s7 hu hv k => ?_) fun hl H7 hhl s7 c7 => ?_⟩
    · obtain ⟨q, e1, z1⟩ := hrow i (by omega)
      rw [e1] at hu
      rw [atL_get (by omega)] at hv
      cases hu
      cases hv
      refine ⟨_, rfl, _, rfl, q, _, rfl, .inl ((s6'.trans s7).seq z1), _, _, rfl, rfl, _, rfl, ?_⟩
      have e : decide (((a i : Nat) : Int) < (((rw' i).map fV).length : Nat)) = decide (a i < (rw' i).length) := by
        rw [List.length_map]
        exact decide_eq_decide.mpr (by omega)
      rw [e]
      exact k H7 (Same.refl _)
    · obtain ⟨q, e1, z1⟩ := hrow i (by omega)
      rw [e1] at hu
      rw [atL_get (by omega)] at hv
      cases hu
      cases hv
      have hlt := of_decide_eq_true hb
      refine ⟨_, rfl, _, rfl, q, _, _, _, rfl, rfl, (s6'.trans s7).seq z1, atI_nat (v := fV ((rw' i).getD (a i) .non)) ?_, k H7 (Same.refl _)⟩
      rw [List.getElem?_map, List.getD_eq_getElem?_getD, List.getElem?_eq_getElem hlt]; rfl
    rw [lR] at c7
    have ehd : ((List.range n).filter fun i => decide (a i < (rw' i).length)).map (fun i => fV ((rw' i).getD (a i) .non)) = ((rst n rw' a).filterMap List.head?).map fV := by
      rw [rst_heads, List.map_map]; rfl
    rw [ehd] at c7
    have s7' := s6'.trans s7
    have a7 := s7 _ _ a6
    refine ⟨Nat.zero_le _, fun bl hbl => ?_⟩
    have s8 : Same H7 (upd H7 bl (.lst [])) := same_new hbl _
    have b8 : upd H7 bl (.lst []) bl = some (.lst []) := upd_same
    have hbl0 : H bl = none := s7'.free hbl
    revert s8 b8
    generalize upd H7 bl (.lst []) = H8
    intro s8 b8
    refine ⟨_, rfl, _, rfl, p, al, rfl, ⟨_, (s7'.trans s8).seq hp⟩, ⟨_, SqL.of (s8 _ _ a7)⟩, for_zip (fun j σ H' => (∃ o5 o6 o7 o8, σ = [some (.ref p), some (.ref al), some (.ref fl), some (.ref hl), some (.ref bl), o5, o6, o7, o8]) ∧ Same H7 H' ∧ H' bl = some (.lst ((bhd rw' a j).map fV))) ⟨⟨_, _, _, _, rfl⟩, s8, b8⟩ lat (fun j σ H' hj => ⟨(s7'.trans hj.2.1).seq hp, SqL.of (hj.2.1 _ _ a7)⟩) ?turn ?stop⟩
    case turn =>
      rintro j σ H' T u v hj ⟨⟨o5, o6, o7, o8, rfl⟩, sj, bj⟩ hu hv hT
      obtain ⟨q, e1, z1⟩ := hrow j (by omega)
      rw [e1] at hu
      rw [atL_get (by omega)] at hv
      cases hu
      cases hv
      have sT : Same H' (upd H' T (.tup [.ref q, .int (a j : Nat)])) := same_new hT _
      have cT : upd H' T (.tup [.ref q, .int (a j : Nat)]) T = some (.tup [.ref q, .int (a j : Nat)]) := upd_same
      revert sT cT
      generalize upd H' T (.tup [.ref q, .int (a j : Nat)]) = H9
      intro sT cT
      have s9 := sj.trans sT
      have b9 := sT _ _ bj
      refine ⟨T, _, rfl, .inl (.inl cT), rfl, _, _, rfl, _, _, rfl, rfl, ?_⟩
      refine ⟨_, rfl, .inl ⟨rfl, _, SqL.of b9⟩, _, rfl, _, rfl, _, _, rfl, rfl, _, rfl, _, _, rfl, (s7'.trans s9).seq z1, fun xl hxl => ?_⟩
      have ec : cutV ((rw' j).map fV) (some ((a j : Nat) + (1 : Int))) none = ((rw' j).drop (a j + 1)).map fV := by
        rw [show ((a j : Nat) : Int) + 1 = ((a j + 1 : Nat) : Int) by omega, cut_drop, List.map_drop]
      rw [ec]
      have nxb : bl ≠ xl := fun z => by rw [← z, b9] at hxl; cases hxl
      have lb := bhd_len (rw := rw') (a := a) hrl j (by omega)
      have lj := hrl j (by omega)
      refine ⟨bl, xl, _, _, rfl, rfl, by rw [upd_ne nxb]; exact b9, upd_same, small ?_, ⟨_, _, _, _, rfl⟩, ?_, ?_⟩
      · rw [List.length_map, List.length_map, List.length_drop]; omega
      · exact same_upd (s9.trans (same_new hxl _)) hbl _
      · rw [upd_same, bhd_succ, List.map_append]
    case stop =>
    rintro σ H9 ⟨⟨o5, o6, o7, o8, rfl⟩, s9, b9⟩
    rw [lR] at b9
    have c9 := s9 _ _ c7
    have a9 := s9 _ _ a7
    have s9' := s7'.trans s9
    have f9 := s9 _ _ (s7 _ _ c6)
    obtain ⟨hds, ehds⟩ : ∃ hds, hds = (rst n rw' a).filterMap List.head? := ⟨_, rfl⟩
    have lh : hds.length ≤ n := by
      rw [ehds]
      refine Nat.le_trans (List.length_filterMap_le ..) ?_
      rw [rst, List.length_map, List.length_range]; exact Nat.le_refl _
    have hhf : ∀ i, i < hds.length → FlD (hds.getD i .non) := fun i hi => by
      rw [List.getD_eq_getElem?_getD, List.getElem?_eq_getElem hi]
      have hm' := List.getElem_mem hi
      generalize hds[i] = c at hm'
      rw [ehds, List.mem_filterMap] at hm'
      obtain ⟨r, hr', e⟩ := hm'
      obtain ⟨i, _, rfl⟩ := rst_mem hr'
      exact hfl' i _ (List.mem_of_mem_drop (List.mem_of_mem_head? (by rw [e]; rfl)))
    rw [← ehds] at c9
    have gh : ∀ i, i < hds.length → (hds.map fV).getD i .non = fV (hds.getD i .non) := fun i hi => by
      rw [List.getD_eq_getElem?_getD, List.getD_eq_getElem?_getD, List.getElem?_map, List.getElem?_eq_getElem hi]; rfl
    refine ⟨_, rfl, hl, rfl, ⟨_, SqL.of c9⟩, [.ref bl], ⟨rfl, fun j i h => ?_⟩, compG_one (vs := [.ref bl]) (hds.map fV).length (fun i => (hds.map fV).getD i .non) (fun i => !isBehind (hds.getD i .non) (rst n rw' a)) (fun i v _ => v = fV (hds.getD i .non)) (fun _ _ _ _ _ z => z) (by rw [List.length_map]; omega) (itl_stop (SqL.of c9)) (itl_go (SqL.of c9)) (itl_yld (SqL.of c9)) (fun i H10 Q' hi s10 k => ?_) (fun i H10 D l' Q' hi _ s10 _ _ k => ?_) fun gl H10 ys hgl s10 g10 hP10 => ?_⟩
    · match j, h with
      | 0, h => cases h; exact ⟨_, rfl, rfl⟩
      | j + 1, h => simp at h
    · rw [List.length_map] at hi
      rw [gh i hi]
      refine ⟨_, rfl, _, rfl, bl, _, rfl, .inl (SqL.of (s10 _ _ b9)), fV_flat _, flat_fVs _, _, rfl, ?_⟩
      rw [if_pos rfl, inV_fV (hhf i hi) (bhd_fl hfl' n), bhd_mem]
      exact k H10 (Same.refl _)
    · rw [List.length_map] at hi
      rw [gh i hi]
      exact ⟨_, rfl, k _ _ (Same.refl _) rfl⟩
    have efr : ys = (freeL (rst n rw' a)).map fV := by
      rw [hP10.eq, List.length_map, range_filter hds .non (fun c => !isBehind c (rst n rw' a)) fV, ehds]; rfl
    rw [efr] at g10
    have s10' := s9'.trans s10
    have a10 := s10 _ _ a9
    have f10 := s10 _ _ f9
    refine ⟨_, rfl, Nat.zero_le _, fun nl2 hnl2 => ⟨gl, nl2, _, rfl, rfl, SqL.of (by rw [upd_ne (fun z => by rw [← z, g10] at hnl2; cases hnl2)]; exact g10), SqL.of upd_same, _, rfl, ?_⟩⟩
    have s11 : Same H10 (upd H10 nl2 (.lst [])) := same_new hnl2 _
    revert s11
    generalize upd H10 nl2 (.lst []) = H11
    intro s11
    cases hf : freeL (rst n rw' a) with
    | nil =>
      refine iteT (qn H11 (s10'.trans s11) ?_)
      rw [hm, mg_stuck hna hf]; rfl
    | cons c cs =>
    rw [hf] at g10
    have g11 := s11 _ _ g10
    have a11 := s11 _ _ a10
    have f11 := s11 _ _ f10
    have s11' := s10'.trans s11
    have hcf : c ∈ freeL (rst n rw' a) := by rw [hf]; exact List.mem_cons_self
    have hcfl := free_fl hfl' c hcf
    have at0 : atI ((c :: cs).map fV) 0 = some (fV c) := atI_nat (j := 0) rfl
    refine iteF ⟨_, rfl, .inl ⟨rfl, _, SqL.of f11⟩, _, rfl, gl, _, _, _, rfl, rfl, SqL.of g11, at0, fl, _, _, rfl, rfl, f11, Nat.lt_of_lt_of_le (Nat.lt_succ_self _) (small (n := (os.map fV).length + 1) (by rw [List.length_map]; omega)), ?_⟩
    have ngf : gl ≠ fl := fun z => by rw [z, f9] at hgl; cases hgl
    have nga : gl ≠ al := fun z => by rw [z, a9] at hgl; cases hgl
    have s12 : Same H (upd H11 fl (.lst (os.map fV ++ [fV c]))) := same_upd s11' hfl0 _
    have a12 : upd H11 fl (.lst (os.map fV ++ [fV c])) al = some (.lst (atL n a)) := by rw [upd_ne naf]; exact a11
    have g12 : upd H11 fl (.lst (os.map fV ++ [fV c])) gl = some (.lst ((c :: cs).map fV)) := by rw [upd_ne ngf]; exact g11
    have f12 : upd H11 fl (.lst (os.map fV ++ [fV c])) fl = some (.lst ((os ++ [c]).map fV)) := by rw [List.map_append]; exact upd_same
    revert s12 a12 g12 f12
    generalize upd H11 fl (.lst (os.map fV ++ [fV c])) = H12
    intro s12 a12 g12 f12
    have hlt := tot_off_lt c (List.mem_filter.mp hcf).1
    refine ⟨_, rfl, p, rvs, rfl, .inl (s12.seq hp), _, rfl, by omega, by omega, ?_⟩
    refine for_range (fun j σ H' => (∃ o5 o6 o8, σ = [some (.ref p), some (.ref al), some (.ref fl), some (.ref hl), some (.ref bl), o5, o6, some (.ref gl), o8]) ∧ Same H H' ∧ H' al = some (.lst (atL n fun i => if i < j then nxt rw' a c i else a i)) ∧ H' gl = some (.lst ((c :: cs).map fV)) ∧ H' fl = some (.lst ((os ++ [c]).map fV))) ⟨⟨_, _, _, rfl⟩, s12, by simpa using a12, g12, f12⟩ ?turn2 ?stop2
    case stop2 =>
      rintro σ H13 ⟨⟨o5, o6, o8, rfl⟩, s13, a13, g13, f13⟩
      have ea : atL n (fun i => if i < Int.toNat (rvs.length : Nat) then nxt rw' a c i else a i) = atL n (nxt rw' a c) := by
        rw [Int.toNat_natCast, lR]
        exact List.map_congr_left fun i hi => by
          show V.int ((if i < n then nxt rw' a c i else a i : Nat) : Int) = _
          rw [if_pos (List.mem_range.mp hi)]
      rw [ea] at a13
      refine ⟨tot (rst n rw' (nxt rw' a c)), by rw [rst_nxt]; exact hlt, nxt rw' a c, os ++ [c], _, _, _, _, _, _, rfl, s13, a13, f13, ?_, rfl, ?_⟩
      · rw [hm, mg_next hf, rst_nxt, Option.map_map]
        refine congrFun (congrArg Option.map (funext fun l => ?_)) _
        show os ++ c :: l = os ++ [c] ++ l
        rw [List.append_assoc]; rfl
      · rw [rst_nxt, List.length_append, List.length_singleton]; omega
    case turn2 =>
      rintro j σ H13 hj ⟨⟨o5, o6, o8, rfl⟩, s13, a13, g13, f13⟩
      have hj' : j < n := by omega
      obtain ⟨q, e1, z1⟩ := ge H13 s13 j hj'
      have ej : (if j < j then nxt rw' a c j else a j) = a j := if_neg (Nat.lt_irrefl _)
      have gaj := ga (fun i => if i < j then nxt rw' a c i else a i) j hj'
      rw [ej] at gaj
      refine ⟨_, rfl, _, rfl, p, rvs, _, _, rfl, rfl, s13.seq hp, e1, _, rfl, _, rfl, al, _, _, _, rfl, rfl, SqL.of a13, gaj, _, rfl, _, rfl, _, rfl, al, _, _, _, rfl, rfl, SqL.of a13, gaj, _, _, rfl, rfl, _, rfl, q, _, rfl, z1, fun xl hxl => ?_⟩
      have ec : cutV ((rw' j).map fV) (some (a j : Nat)) (some ((a j : Nat) + (1 : Int))) = (((rw' j).drop (a j)).take 1).map fV := by
        rw [show ((a j : Nat) : Int) + 1 = ((a j + 1 : Nat) : Int) by omega, cut_from, Nat.add_sub_cancel_left, List.map_take, List.map_drop]
      rw [ec]
      have s14 : Same H13 (upd H13 xl (.lst ((((rw' j).drop (a j)).take 1).map fV))) := same_new hxl _
      have x14 : upd H13 xl (.lst ((((rw' j).drop (a j)).take 1).map fV)) xl = some (.lst ((((rw' j).drop (a j)).take 1).map fV)) := upd_same
      revert s14 x14
      generalize upd H13 xl (.lst ((((rw' j).drop (a j)).take 1).map fV)) = H14
      intro s14 x14
      refine ⟨_, rfl, gl, _, _, _, rfl, rfl, SqL.of (s14 _ _ g13), at0, by show 1 ≤ sizeLine; decide, fun ol hol => ?_⟩
      have s15 : Same H14 (upd H14 ol (.lst [fV c])) := same_new hol _
      have x15 : upd H14 ol (.lst [fV c]) ol = some (.lst [fV c]) := upd_same
      revert s15 x15
      generalize upd H14 ol (.lst [fV c]) = H15
      intro s15 x15
      have sA := s14.trans s15
      have hft : ∀ d ∈ ((rw' j).drop (a j)).take 1, FlD d := fun d hd => hfl' j d (List.mem_of_mem_drop (List.mem_of_mem_take hd))
      have hfc : ∀ d ∈ [c], FlD d := fun d hd => by rw [List.mem_singleton] at hd; rw [hd]; exact hcfl
      refine ⟨xl, ol, _, _, _, [c], rfl, rfl, SqL.of (s15 _ _ x14), SqL.of x15, (fV_all hft).mpr rfl, (fV_all hfc).mpr rfl, by rw [deps_fl hft]; exact Nat.zero_le _, fun d hd => (hft d hd).el, fun d hd => (hfc d hd).el, _, rfl, ?_⟩
      have hgo : ∀ b : Nat, b = nxt rw' a c j → atL n (fun i => if i = j then b else if i < j then nxt rw' a c i else a i) = atL n (fun i => if i < j + 1 then nxt rw' a c i else a i) := fun b hb => List.map_congr_left fun i hi => by
        show V.int ((if i = j then b else if i < j then nxt rw' a c i else a i : Nat) : Int) = V.int ((if i < j + 1 then nxt rw' a c i else a i : Nat) : Int)
        by_cases e : i = j
        · rw [if_pos e, if_pos (by omega), hb, e]
        · by_cases e2 : i < j
          · rw [if_neg e, if_pos e2, if_pos (by omega)]
          · rw [if_neg e, if_neg e2, if_neg (by omega)]
      by_cases hc : ((rw' j).drop (a j)).take 1 = [c]
      · rw [decide_eq_true hc]
        refine iteT ⟨_, rfl, _, rfl, al, _, _, _, rfl, rfl, SqL.of (sA _ _ a13), gaj, _, _, rfl, rfl, _, rfl, _, rfl, al, _, _, j, rfl, rfl, sA _ _ a13, by rw [atL_len]; exact ixN_nat hj', ⟨_, _, _, rfl⟩, same_upd (s13.trans sA) hal0 _, ?_, ?_, ?_⟩
        · rw [upd_same, show (fun i j : Int => V.int (i + j)) ((a j : Nat) : Int) 1 = V.int ((a j + 1 : Nat) : Int) by rw [Int.natCast_add]; rfl, atL_set, hgo (a j + 1) (by unfold nxt; rw [if_pos hc])]
        · rw [upd_ne nga]; exact sA _ _ g13
        · rw [upd_ne (Ne.symm naf)]; exact sA _ _ f13
      · rw [decide_eq_false hc]
        refine iteF ⟨⟨_, _, _, rfl⟩, s13.trans sA, ?_, sA _ _ g13, sA _ _ f13⟩
        rw [sA _ _ a13, ← hgo (a j) (by unfold nxt; rw [if_neg hc])]
        refine congrArg (fun z => some (HO.lst z)) (List.map_congr_left fun i hi => ?_)
        show V.int ((if i < j then nxt rw' a c i else a i : Nat) : Int) = V.int ((if i = j then a j else if i < j then nxt rw' a c i else a i : Nat) : Int)
        by_cases e : i = j
        · rw [if_pos e, if_neg (by omega), e]
        · rw [if_neg e]
end
end GS
set_option Elab.async false
set_option linter.all false
set_option maxRecDepth 100000
set_option maxHeartbeats 4000000
namespace GS
open PySem PyProof.Rows
open L2 hiding pe_int pe_bl pe_non pe_str pv pe_glob pe_bltn pe_op pe_cmpR pe_one pe_and pe_ifExp pe_ix po_none po_some pe_slice pa_nil pa_cons pe_lst pe_tup pe_dnewK pe_callB pe_callTy pe_bm pt_cmpR pt_val pt_not pw_and1 pw_or1 pw_and pw_or pg_name pgs_nil pgs_cons pg_tup pi_list pi_tup pi_range1 ps_ret ps_expr ps_set ps_asg ps_if ps_while ps_for pss_nil pss_cons pss_one
open L3
abbrev sGO : Stmt := top9 27
/-! ### the law's table of orders -/
def OrAt (H : Hp) (ors : List (Str × List Str)) (kvs : List (Key × V)) (N : Addr → Prop) : Prop := kvs.length = ors.length ∧ ∀ (i : Nat) (n : Str) (r : List Str), ors[i]? = some (n, r) → ∃ q : Addr, kvs[i]? = some (.inr n, .ref q) ∧ H q = some (.lst (r.map V.str)) ∧ N q
theorem OrAt.mono {H H' : Hp} {ors : List (Str × List Str)} {kvs : List (Key × V)} {N N' : Addr → Prop} (h : OrAt H ors kvs N) (f : ∀ q xs, N q → H q = some (.lst xs) → H' q = some (.lst xs) ∧ N' q) : OrAt H' ors kvs N' :=
  ⟨h.1, fun i n r e => by obtain ⟨q, a, b, c⟩ := h.2 i n r e; exact ⟨q, a, (f q _ c b).1, (f q _ c b).2⟩⟩
theorem OrAt.snoc {H : Hp} {ors : List (Str × List Str)} {kvs : List (Key × V)} {N : Addr → Prop} {n : Str} {r : List Str} {q : Addr} (h : OrAt H ors kvs N) (hq : H q = some (.lst (r.map V.str))) (hN : N q) : OrAt H (ors ++ [(n, r)]) (kvs ++ [(.inr n, .ref q)]) N := by
  refine ⟨by rw [List.length_append, List.length_append, h.1]; rfl, fun i m s e => ?_⟩
  by_cases hi : i < ors.length
  · rw [List.getElem?_append_left hi] at e
    obtain ⟨p, a, b, c⟩ := h.2 i m s e
    exact ⟨p, by rw [List.getElem?_append_left (by rw [h.1]; exact hi)]; exact a, b, c⟩
  · have hlt := (List.getElem?_eq_some_iff.mp e).1
    rw [List.length_append, List.length_singleton] at hlt
    have ei : i = ors.length := by omega
    subst ei
    rw [List.getElem?_append_right (Nat.le_refl _), Nat.sub_self] at e
    cases e
    refine ⟨q, ?_, hq, hN⟩
    rw [← h.1, List.getElem?_append_right (Nat.le_refl _), Nat.sub_self]; rfl
theorem valV_at {n : Str} {v : V} : ∀ {kvs : List (Key × V)} {i : Nat}, (kvs.map (·.1)).Nodup → kvs[i]? = some (.inr n, v) → valV kvs (.inr n) = some v
  | [], _, _, e => by simp at e
  | p :: r, 0, _, e => by
    have e' : p = (.inr n, v) := by simpa using e
    rw [valV_pos (by rw [e']), e']
  | p :: r, i + 1, h, e => by
    rw [List.map_cons, List.nodup_cons] at h
    have e' : r[i]? = some (.inr n, v) := by simpa using e
    rw [valV_neg (fun z => h.1 (by rw [z]; exact List.mem_map.mpr ⟨_, List.mem_of_getElem? e', rfl⟩))]
    exact valV_at h.2 e'
theorem valV_none {k : Key} : ∀ {kvs : List (Key × V)}, k ∉ kvs.map (·.1) → valV kvs k = none
  | [], _ => rfl
  | p :: r, h => by
    rw [List.map_cons, List.mem_cons, not_or] at h
    rw [valV_neg (fun z => h.1 z.symm)]
    exact valV_none h.2
theorem OrAt.keys {H : Hp} {ors : List (Str × List Str)} {kvs : List (Key × V)} {N : Addr → Prop} (h : OrAt H ors kvs N) : kvs.map (·.1) = ors.map fun x => (.inr x.1 : Key) := by
  refine List.ext_getElem? fun i => ?_
  rw [List.getElem?_map, List.getElem?_map]
  by_cases hi : i < ors.length
  · obtain ⟨q, a, _⟩ := h.2 i ors[i].1 ors[i].2 (by rw [List.getElem?_eq_getElem hi])
    rw [a, List.getElem?_eq_getElem hi]; rfl
  · rw [List.getElem?_eq_none (by rw [h.1]; omega), List.getElem?_eq_none (by omega)]; rfl
theorem keys_nd {ors : List (Str × List Str)} (h : (ors.map (·.1)).Nodup) : (ors.map fun x => (.inr x.1 : Key)).Nodup := by
  have : (ors.map fun x => (.inr x.1 : Key)) = (ors.map (·.1)).map (fun x => (.inr x : Key)) := by rw [List.map_map]; rfl
  rw [this, nodup_map (fun x y z => by injection z)]
  exact h
theorem OrAt.get {H : Hp} {ors : List (Str × List Str)} {kvs : List (Key × V)} {N : Addr → Prop} (h : OrAt H ors kvs N) (hn : (ors.map (·.1)).Nodup) {n : Str} {r : List Str} (e : (n, r) ∈ ors) : ∃ q, valV kvs (.inr n) = some (.ref q) ∧ H q = some (.lst (r.map V.str)) ∧ N q := by
  obtain ⟨i, hi, ei⟩ := List.getElem_of_mem e
  obtain ⟨q, a, b, c⟩ := h.2 i n r (by rw [List.getElem?_eq_getElem hi, ei])
  exact ⟨q, valV_at (by rw [h.keys]; exact keys_nd hn) a, b, c⟩
theorem OrAt.out {H : Hp} {ors : List (Str × List Str)} {kvs : List (Key × V)} {N : Addr → Prop} (h : OrAt H ors kvs N) {n : Str} (e : n ∉ ors.map (·.1)) : valV kvs (.inr n) = none := by
  refine valV_none ?_
  rw [h.keys]
  intro z
  obtain ⟨x, hx, ex⟩ := List.mem_map.mp z
  injection ex with ex
  exact e (List.mem_map.mpr ⟨x, hx, ex⟩)
def kv2 (p1 p2 : Addr) : List (Key × V) := [(.inr "Thing", .ref p1), (.inr "Fault", .ref p2)]
def ors0 : List (Str × List Str) := gcN.map fun x => (x.1, x.1 :: x.2)
def wds9 : List Str := ["Name", "Kind", "Nought", "Great", "Field", "Order", "End", "Shut", "Deep"]
theorem ors0_2 : ∀ i, i < 9 → ors0[2 + i]? = some (wds9.getD i "" ++ "Fault", [wds9.getD i "" ++ "Fault", "Fault", "Thing"]) := by decide +kernel
theorem ors0_nd : (ors0.map (·.1)).Nodup := by decide +kernel
theorem wds_len : ∀ i, i < 9 → (wds9.getD i "").length ≤ 10 := by decide +kernel
section
variable {P : Program} {w : World} {K : PySem.W.Frag} {mg : Str → Option Value} {base : Heap} {f : Addr} {fd : FuncData}
def spGO : Sp := fun vs H Q _ => vs = [] ∧ ∀ (d : Addr) (H' : Hp) (kvs : List (Key × V)), Same H H' → H d = none → H' d = some (.dK kvs) → OrAt H' ors0 kvs (fun q => H q = none) → Q (.ref d) H'
theorem scGO : FnScope ["_law_found", "_law_word"] [] (defScope sGO) := ⟨rfl, rfl, rfl, by decide +kernel, rfl, by decide +kernel, by decide +kernel⟩
theorem ok_GO (g : Glb9 mg) (F : Fun K "_law_given_orders" "_law_given_orders" sGO f fd) : FnOk P w K mg base CX0 1 f fd [] spGO := by
  refine F.okI scGO (fun vs H Q E h => ?_) (fun cdv A outer s H vs Q E hr h => ?_)
  · obtain ⟨rfl, _⟩ := h; rfl
  obtain ⟨rfl, q⟩ := h
  refine ⟨_, pss_cons (ps_set (i := 0) scGO.nd rfl (Or.inl rfl) (L3.pe_disp (L3.pps_cons pe_str (pe_lst (pa_cons pe_str pa_nil)) (L3.pps_cons pe_str (pe_lst (pa_cons pe_str (pa_cons pe_str pa_nil))) L3.pps_nil))))
    (pss_cons (ps_for PassesOwn.never rfl (pi_list (pe_lst (pa_cons pe_str (pa_cons pe_str (pa_cons pe_str (pa_cons pe_str (pa_cons pe_str (pa_cons pe_str (pa_cons pe_str (pa_cons pe_str (pa_cons pe_str pa_nil))))))))))) (pg_name (i := 1) scGO.nd rfl (Or.inl rfl))
      (pss_one (.mk (L2.ps_dput (hu_of hr) (LE.out (pv 0)) (LE.out (pe_op op_add_str (pv 1) pe_str)) (LE.out (pe_lst (pa_cons (pe_op op_add_str (pv 1) pe_str) (pa_cons pe_str (pa_cons pe_str pa_nil))))) rfl))))
    (pss_cons (.mk (L2.ps_dput (hu_of hr) (LE.out (pv 0)) (LE.out pe_str) (LE.out (pe_lst (pa_cons pe_str (pa_cons pe_str (pa_cons pe_str (pa_cons pe_str pa_nil)))))) rfl))
    (pss_one (ps_ret (pv 0))))), ?main⟩
  case main =>
    intro d hd
    have s1 : Same H (upd H d (.dK [])) := same_new hd _
    have d1 : upd H d (.dK []) d = some (.dK []) := upd_same
    revert s1 d1
    generalize upd H d (.dK []) = H1
    intro s1 d1
    refine ⟨by show 1 ≤ sizeLine; decide, fun p1 hp1 => ?_⟩
    have hp10 : H p1 = none := s1.free hp1
    have s2 : Same H1 (upd H1 p1 (.lst [.str "Thing"])) := same_new hp1 _
    have c2 : upd H1 p1 (.lst [.str "Thing"]) p1 = some (.lst ((["Thing"] : List Str).map V.str)) := upd_same
    revert s2 c2
    generalize upd H1 p1 (.lst [.str "Thing"]) = H2
    intro s2 c2
    refine ⟨by show 2 ≤ sizeLine; decide, fun p2 hp2 => ?_⟩
    have hp20 : H p2 = none := (s1.trans s2).free hp2
    have s3 : Same H2 (upd H2 p2 (.lst [.str "Fault", .str "Thing"])) := same_new hp2 _
    have c3 : upd H2 p2 (.lst [.str "Fault", .str "Thing"]) p2 = some (.lst ((["Fault", "Thing"] : List Str).map V.str)) := upd_same
    revert s3 c3
    generalize upd H2 p2 (.lst [.str "Fault", .str "Thing"]) = H3
    intro s3 c3
    have d3 : H3 d = some (.dK []) := s3 _ _ (s2 _ _ d1)
    refine ⟨d3, (kv2 p1 p2), rfl, by show 2 ≤ 15; decide, ?_⟩
    have em : mergeK [] (kv2 p1 p2) = (kv2 p1 p2) := by
      show putK (putK ([] : List (Key × V)) (Sum.inr "Thing" : Key) (V.ref p1)) (Sum.inr "Fault" : Key) (V.ref p2) = _
      have e1 : putK ([] : List (Key × V)) (Sum.inr "Thing" : Key) (V.ref p1) = [((Sum.inr "Thing" : Key), V.ref p1)] := putK_new _ rfl
      have e2 : valV [((Sum.inr "Thing" : Key), V.ref p1)] (Sum.inr "Fault" : Key) = none := by rw [valV_neg (show ¬ ((Sum.inr "Thing" : Key) = (Sum.inr "Fault" : Key)) from by decide +kernel)]; rfl
      rw [e1, putK_new _ e2]; rfl
    rw [em]
    have nd1 : p1 ≠ d := fun z => by rw [z, d1] at hp1; cases hp1
    have nd2 : p2 ≠ d := fun z => by rw [z, s2 _ _ d1] at hp2; cases hp2
    have s4 : Same H (upd H3 d (.dK (kv2 p1 p2))) := same_upd (s1.trans (s2.trans s3)) hd _
    have d4 : upd H3 d (.dK (kv2 p1 p2)) d = some (.dK (kv2 p1 p2)) := upd_same
    have r1 : upd H3 d (.dK (kv2 p1 p2)) p1 = some (.lst ((["Thing"] : List Str).map V.str)) := by rw [upd_ne nd1]; exact s3 _ _ c2
    have r2 : upd H3 d (.dK (kv2 p1 p2)) p2 = some (.lst ((["Fault", "Thing"] : List Str).map V.str)) := by rw [upd_ne nd2]; exact c3
    revert s4 d4 r1 r2
    generalize upd H3 d (.dK (kv2 p1 p2)) = H4
    intro s4 d4 r1 r2
    have o4 : OrAt H4 (ors0.take 2) (kv2 p1 p2) (fun q => H q = none) := by
      have h0 : OrAt H4 [] [] (fun q => H q = none) := ⟨rfl, fun i n r e => by simp at e⟩
      exact (h0.snoc (n := "Thing") r1 hp10).snoc (n := "Fault") r2 hp20
    have put : ∀ (H' : Hp) (j : Nat) (kvs : List (Key × V)) (n : Str) (r : List Str) (q' : Addr), Same H H' → H' d = some (.dK kvs) → OrAt H' (ors0.take j) kvs (fun q => H q = none) → ors0[j]? = some (n, r) → H q' = none → q' ≠ d → H' q' = some (.lst (r.map V.str)) →
        Same H (upd H' d (.dK (putK kvs (.inr n) (.ref q')))) ∧ OrAt (upd H' d (.dK (putK kvs (.inr n) (.ref q')))) (ors0.take (j + 1)) (putK kvs (.inr n) (.ref q')) (fun q => H q = none) := fun H' j kvs n r q' s' d' o' ej hq' nq hl' => by
      have hn : n ∉ (ors0.take j).map (·.1) := fun z => by
        obtain ⟨x, hx, ex⟩ := List.mem_map.mp z
        obtain ⟨i, hi, ei⟩ := List.getElem_of_mem hx
        rw [List.length_take] at hi
        have e1 : (ors0.map (·.1))[i]? = some n := by
          rw [List.getElem?_map, List.getElem?_eq_getElem (by omega)]
          rw [List.getElem_take] at ei
          rw [ei, ← ex]; rfl
        have e2 : (ors0.map (·.1))[j]? = some n := by rw [List.getElem?_map, ej]; rfl
        have hj := (List.getElem?_eq_some_iff.mp e2).1
        have := (List.getElem?_inj hj ors0_nd).mp (e2.trans e1.symm)
        omega
      rw [putK_new _ (o'.out hn), List.take_add_one, ej]
      refine ⟨same_upd s' hd _, ?_⟩
      refine (o'.mono (N' := fun q => H q = none) fun q xs hq e => ⟨?_, hq⟩).snoc ?_ hq'
      · rw [upd_ne (fun z => by rw [z, d'] at e; cases e)]; exact e
      · rw [upd_ne nq]; exact hl'
    refine ⟨by show 9 ≤ sizeLine; decide, fun wl hwl => ?_⟩
    have ndw : d ≠ wl := fun z => by rw [← z, d4] at hwl; cases hwl
    have hwl0 : H wl = none := s4.free hwl
    have e9 : ([.str "Name", .str "Kind", .str "Nought", .str "Great", .str "Field", .str "Order", .str "End", .str "Shut", .str "Deep"] : List V) = wds9.map V.str := rfl
    rw [e9]
    have s5 : Same H4 (upd H4 wl (.lst (wds9.map V.str))) := same_new hwl _
    have c5 : upd H4 wl (.lst (wds9.map V.str)) wl = some (.lst (wds9.map V.str)) := upd_same
    revert s5 c5
    generalize upd H4 wl (.lst (wds9.map V.str)) = H5
    intro s5 c5
    refine ⟨wl, rfl, ⟨_, SqL.of c5⟩, for_list (K := K) (xs := wds9.map V.str) (fun j σ H' => (∃ o1, σ = [some (.ref d), o1]) ∧ Same H H' ∧ H' wl = some (.lst (wds9.map V.str)) ∧ ∃ kvs, H' d = some (.dK kvs) ∧ OrAt H' (ors0.take (2 + j)) kvs (fun q => H q = none)) ⟨⟨_, rfl⟩, s4.trans s5, c5, _, s5 _ _ d4, o4.mono fun q xs hq e => ⟨s5 _ _ e, hq⟩⟩ (fun j σ H' _ h => SqL.of h.2.2.1) ?turn ?stop⟩
    case turn =>
      rintro j x σ H' hx ⟨⟨o1, rfl⟩, sj, cj, kvs, dj, oj⟩
      have hj : j < 9 := by have := (List.getElem?_eq_some_iff.mp hx).1; rw [List.length_map] at this; exact this
      have ex : x = .str (wds9.getD j "") := by
        rw [List.getElem?_map, List.getElem?_eq_getElem (show j < wds9.length from hj)] at hx
        injection hx with hx
        rw [← hx, List.getD_eq_getElem?_getD, List.getElem?_eq_getElem (show j < wds9.length from hj)]; rfl
      subst ex
      have lw := wds_len j hj
      have ej := ors0_2 j hj
      generalize wds9.getD j "" = wd at lw ej
      have l5 : ("Fault" : Str).length = 5 := by decide +kernel
      refine ⟨_, rfl, _, _, rfl, rfl, small (by omega), by show 3 ≤ sizeLine; decide, fun rl hrl => ?_⟩
      have ndr : rl ≠ d := fun z => by rw [z, dj] at hrl; cases hrl
      have ndw' : rl ≠ wl := fun z => by rw [z, cj] at hrl; cases hrl
      have s6 : Same H' (upd H' rl (.lst [.str (wd ++ "Fault"), .str "Fault", .str "Thing"])) := same_new hrl _
      have c6 : upd H' rl (.lst [.str (wd ++ "Fault"), .str "Fault", .str "Thing"]) rl = some (.lst (([wd ++ "Fault", "Fault", "Thing"] : List Str).map V.str)) := upd_same
      revert s6 c6
      generalize upd H' rl (.lst [.str (wd ++ "Fault"), .str "Fault", .str "Thing"]) = H6
      intro s6 c6
      have hkl : kvs.length ≤ 12 := by rw [oj.1, List.length_take]; exact Nat.le_trans (Nat.min_le_right _ _) (by decide)
      obtain ⟨s7, o7⟩ := put H6 (2 + j) kvs _ _ rl (sj.trans s6) (s6 _ _ dj) (oj.mono fun q xs hq e => ⟨s6 _ _ e, hq⟩) ej (sj.free hrl) ndr c6
      exact ⟨_, rfl, _, rfl, _, _, rfl, rfl, small (by omega), d, _, rfl, DPut.k (k := .inr (wd ++ "Fault")) (s6 _ _ dj) (small1000 (by omega)), ⟨_, rfl⟩, s7, by rw [upd_ne (Ne.symm ndw)]; exact s6 _ _ cj, _, upd_same, o7⟩
    case stop =>
      rintro σ H' ⟨⟨o1, rfl⟩, sj, cj, kvs, dj, oj⟩
      have oj' : OrAt H' (ors0.take 11) kvs (fun q => H q = none) := oj
      refine ⟨by show 4 ≤ sizeLine; decide, fun rl hrl => ?_⟩
      have ndr : rl ≠ d := fun z => by rw [z, dj] at hrl; cases hrl
      have s6 : Same H' (upd H' rl (.lst [.str "UnboundFault", .str "NameFault", .str "Fault", .str "Thing"])) := same_new hrl _
      have c6 : upd H' rl (.lst [.str "UnboundFault", .str "NameFault", .str "Fault", .str "Thing"]) rl = some (.lst ((["UnboundFault", "NameFault", "Fault", "Thing"] : List Str).map V.str)) := upd_same
      revert s6 c6
      generalize upd H' rl (.lst [.str "UnboundFault", .str "NameFault", .str "Fault", .str "Thing"]) = H6
      intro s6 c6
      have hkl : kvs.length ≤ 12 := by rw [oj'.1, List.length_take]; exact Nat.le_trans (Nat.min_le_right _ _) (by decide)
      obtain ⟨s7, o7⟩ := put H6 11 kvs "UnboundFault" _ rl (sj.trans s6) (s6 _ _ dj) (oj'.mono fun q xs hq e => ⟨s6 _ _ e, hq⟩) (by decide +kernel) (sj.free hrl) ndr c6
      refine ⟨_, rfl, d, _, rfl, DPut.k (k := .inr "UnboundFault") (s6 _ _ dj) (small1000 (by omega)), _, rfl, q d _ _ s7 hd upd_same ?_⟩
      exact o7
end
end GS
set_option Elab.async false
set_option linter.all false
set_option maxRecDepth 100000
set_option maxHeartbeats 4000000
namespace GS
open PySem PyProof.Rows
open L2 hiding pe_int pe_bl pe_non pe_str pv pe_glob pe_bltn pe_op pe_cmpR pe_one pe_and pe_ifExp pe_ix po_none po_some pe_slice pa_nil pa_cons pe_lst pe_tup pe_dnewK pe_callB pe_callTy pe_bm pt_cmpR pt_val pt_not pw_and1 pw_or1 pw_and pw_or pg_name pgs_nil pgs_cons pg_tup pi_list pi_tup pi_range1 ps_ret ps_expr ps_set ps_asg ps_if ps_while ps_for pss_nil pss_cons pss_one
open L3
abbrev sLO : Stmt := top9 28
/-! ### the law's own order, by names -/
def wnt (els : List Str) : List Str := if els = [] then ["Thing"] else els
def rowS (ors : List (Str × List Str)) (n : Str) : List Str := ((ors.find? fun x => decide (x.1 = n)).map (·.2)).getD []
def lawB (ors : List (Str × List Str)) (ws : List Str) : Option (List Str) := (GS.mg (ws.map (rowS ors) ++ [ws])).bind fun l => if l.length ≤ 39 then some l else none
def lawR (ors : List (Str × List Str)) (els : List Str) : Sum Str (List Str) :=
  if ((wnt els).all fun n => decide (n ∈ ors.map (·.1))) = false then .inl "KindFault"
  else if ¬ (wnt els).Nodup then .inl "OrderFault"
  else match lawB ors (wnt els) with
    | none => .inl "OrderFault"
    | some l => .inr l
theorem rowS_eq {ors : List (Str × List Str)} (hn : (ors.map (·.1)).Nodup) {n : Str} {r : List Str} (h : (n, r) ∈ ors) : rowS ors n = r := by
  induction ors with
  | nil => cases h
  | cons x xs ih =>
    rw [List.map_cons, List.nodup_cons] at hn
    unfold rowS
    by_cases hx : x.1 = n
    · rw [List.find?_cons_of_pos (by simpa using hx)]
      rcases List.mem_cons.mp h with e | e
      · rw [← e]; rfl
      · exact absurd (List.mem_map.mpr ⟨_, e, hx.symm⟩) hn.1
    · rw [List.find?_cons_of_neg (by simpa using hx)]
      rcases List.mem_cons.mp h with e | e
      · exact absurd (by rw [← e]) hx
      · exact ih hn.2 e
theorem rowS_len {ors : List (Str × List Str)} (h : ∀ n r, (n, r) ∈ ors → r.length ≤ 40) (n : Str) : (rowS ors n).length ≤ 40 := by
  unfold rowS
  cases e : ors.find? fun x => decide (x.1 = n) with
  | none => exact Nat.zero_le _
  | some x => exact h x.1 x.2 (List.mem_of_find?_eq_some e)
theorem name_row {ors : List (Str × List Str)} {n : Str} (h : n ∈ ors.map (·.1)) : ∃ r, (n, r) ∈ ors := by
  obtain ⟨x, hx, e⟩ := List.mem_map.mp h
  exact ⟨x.2, by rw [← e]; exact hx⟩
theorem strD_inj (x y : Str) (h : D.str x = D.str y) : x = y := by injection h
theorem mg_str (rs : List (List Str)) : GS.mg (rs.map (List.map D.str)) = (GS.mg rs).map (List.map D.str) := mg_map (S := fun _ => True) (fun x y _ _ z => strD_inj x y z) (fun _ _ _ _ => trivial)
theorem fV_strs (l : List Str) : (l.map D.str).map fV = l.map V.str := by rw [List.map_map]; rfl
theorem Pairs.nth {P : Nat → V → Prop} {is : List Nat} {vs : List V} (h : Pairs P is vs) : ∀ (j i : Nat), is[j]? = some i → ∃ v : V, vs[j]? = some v ∧ P i v := by
  induction h with
  | nil => intro j i e; simp at e
  | cons h1 h2 ih =>
    intro j i e
    cases j with
    | zero =>
      have e' := Option.some.inj (show some _ = some i from e)
      subst e'
      exact ⟨_, rfl, h1⟩
    | succ j => exact ih j i (by simpa using e)
namespace L3x
theorem pt_dnotin {X : Cx} {i o : Expr} {pos : Pos} {ty td : TE} (hu : X.A.units + 1 < cLine) (hi : LE X i ty) (ho : LE X o td) (hm : behindInMarks .NotIn o = false := by rfl) : LT X (.Compare i [.NotIn] [o] pos) (tB (tDNotIn ty td)) := .mk (L2.pt_cmp (L2.pc_dnotin hu hi.out ho.out) hm)
end L3x
section
variable {P : Program} {w : World} {K : PySem.W.Frag} {mg : Str → Option Value} {base : Heap} {f : Addr} {fd : FuncData}
def spLO (K : PySem.W.Frag) : Sp := fun vs H Q _ => ∃ (d e : Addr) (kvs : List (Key × V)) (ors : List (Str × List Str)) (N : Addr → Prop) (els : List Str), vs = [.ref d, .ref e] ∧ H d = some (.dK kvs) ∧ OrAt H ors kvs N ∧ (ors.map (·.1)).Nodup ∧ (∀ n r, (n, r) ∈ ors → r.length ≤ 40) ∧ SqL K H e (els.map V.str) ∧ els.length ≤ 100 ∧
  (∀ H' x, Same H H' → lawR ors els = .inl x → Q (.str x) H') ∧ (∀ q H' l, Same H H' → lawR ors els = .inr l → H q = none → H' q = some (.lst (l.map V.str)) → Q (.ref q) H')
def tWnt (K : PySem.W.Frag) : TE := fun σ H Q => ∃ (e : Addr) (els : List Str), σ[1]? = some (some (.ref e)) ∧ SqL K H e (els.map V.str) ∧ ∀ we H', Same H H' → SqL K H' we ((wnt els).map V.str) → Q (.ref we) H'
theorem scLO : FnScope ["_law_orders", "_law_elders_here", "_law_wanted", "_law_found"] ["_law_orders", "_law_elders_here"] (defScope sLO) := ⟨rfl, rfl, rfl, by decide +kernel, rfl, by decide +kernel, by decide +kernel⟩
theorem ok_LO (g : Glb9 mg) (F : Fun K "_law_order" "_law_order" sLO f fd) (dM : Def P w K mg base "_law_merged" ["_law_rows"] 1 (spLM K)) : FnOk P w K mg base CX0 2 f fd ["_law_orders", "_law_elders_here"] (spLO K) := by
  refine F.okI scLO (fun vs H Q E h => ?_) (fun cdv A outer s H vs Q E hr h => ?_)
  · obtain ⟨_, _, _, _, _, _, rfl, _⟩ := h; rfl
  obtain ⟨d, e, kvs, ors, N, els, rfl, hd, hO, hnd, hlen, he, hel, qs, ql⟩ := h
  refine ⟨_, pss_cons (ps_set (i := 2) scLO.nd rfl (Or.inl rfl) (le_imp (t' := tWnt K) (pe_ifExp (pt_cmpR (op_neNil hr) (pv 1) (pe_lst pa_nil) (nomark _)) (pv 1) (pe_lst (pa_cons pe_str pa_nil))) ?own))
    (pss_cons (ps_if (pt_cmpR (op_neNil hr) (.mk (L2.pe_compG (cl := [("_law_orders", s.heap.objs.size + 1)]) (Xs := ["_law_name"]) (Nf := ["_law_orders"]) (js := [0]) ?k1 rfl (LI.out (pi_list (pv 2))) (fun C s0 H0 fp => LG.out (pg_name (i := 0) (show (["_law_name", "_law_orders"] : List Str).Nodup by decide +kernel) rfl (Or.inl rfl))) (fun C s0 H0 fp => pts_one (LT.out (L3x.pt_dnotin (hu_of hr) (pv 0) (pv 1)))) (fun C s0 H0 fp => LE.out (pv 0)))) (pe_lst pa_nil) (nomark _)) (pss_one (ps_ret pe_str)) pss_nil)
    (pss_cons (ps_if (pt_cmpR op_lt (.mk (pe_lenSet rfl rfl g.nLen rfl g.nSet (LA.out (pa_cons (pv 2) pa_nil)))) (pe_callB call_len_seq rfl g.nLen b9Len (pa_cons (pv 2) pa_nil)) (nomark _)) (pss_one (ps_ret pe_str)) pss_nil)
    (pss_cons (ps_set (i := 3) scLO.nd rfl (Or.inl rfl) (L3.pe_def dM hr (by decide) rfl (pa_cons (pe_op op_cat (.mk (L2.pe_compG (cl := [("_law_orders", s.heap.objs.size + 1)]) (Xs := ["_law_name"]) (Nf := ["_law_orders"]) (js := [0]) ?k2 rfl (LI.out (pi_list (pv 2))) (fun C s0 H0 fp => LG.out (pg_name (i := 0) (show (["_law_name", "_law_orders"] : List Str).Nodup by decide +kernel) rfl (Or.inl rfl))) (fun C s0 H0 fp => pts_nil) (fun C s0 H0 fp => LE.out (L3.pe_dget (hu_of hr) (pv 1) (pv 0))))) (pe_lst (pa_cons (pe_callTy call_list_of rfl g.nList b9List (pa_cons (pv 2) pa_nil)) pa_nil))) pa_nil)))
    (pss_one (ps_ret (pe_ifExp (LW.pt (pw_or (pt_cmpR op_isN (pv 3) pe_non (nomark _)) (pw_or1 (pt_cmpR op_gt (pe_callB call_len_seq rfl g.nLen b9Len (pa_cons (pv 3) pa_nil)) pe_int (nomark _))))) pe_str (pv 3))))))), ?main⟩
  case k1 | k2 =>
    refine ⟨rfl, by decide +kernel, rfl, by decide +kernel, fun y c h => ?_, fun y hy => ?_, rfl, fun j y h => ?_⟩
    · obtain ⟨rfl, rfl⟩ := look1 h; rfl
    · have hy' : ([(".0", .local), ("_law_name", .local), ("_law_orders", .cell)] : List (Str × NameKind)).lookup y = some .cell ∨ ([(".0", .local), ("_law_name", .local), ("_law_orders", .cell)] : List (Str × NameKind)).lookup y = some .free := hy
      rcases hy' with z | z
      · have m := PySem.mem_of_lookup z
        simp at m
        subst m
        exact ⟨_, rfl⟩
      · have m := PySem.mem_of_lookup z
        simp at m
    · match j, h with
      | 0, h => cases h; exact ⟨0, rfl, rfl, rfl, .inl rfl⟩
      | j + 1, h => simp at h
  case own =>
    rintro σ H Q ⟨e, els, e1, hq, q⟩
    refine ⟨_, e1, Nat.zero_le _, fun nl hnl => ⟨e, nl, _, rfl, rfl, (same_new hnl _).seq hq, SqL.of upd_same, _, rfl, ?_⟩⟩
    have s1 : Same H (upd H nl (.lst [])) := same_new hnl _
    revert s1
    generalize upd H nl (.lst []) = H1
    intro s1
    cases els with
    | nil =>
      refine iteF ⟨by show 1 ≤ sizeLine; decide, fun p hp => q p _ (s1.trans (same_new hp _)) (SqL.of upd_same)⟩
    | cons x xs => exact iteT ⟨_, e1, q e _ s1 (by rw [wnt, if_neg (by simp)]; exact s1.seq hq)⟩
  case main =>
    refine ⟨e, els, rfl, he, fun we H1 s1 hw => ?_⟩
    have hwl : (wnt els).length ≤ 100 := by
      unfold wnt
      split
      · decide
      · exact hel
    obtain ⟨ws, ews⟩ : ∃ ws, ws = wnt els := ⟨_, rfl⟩
    rw [← ews] at hw hwl
    have hd1 := s1 _ _ hd
    have hO1 : OrAt H1 ors kvs N := hO.mono fun q xs hq e => ⟨s1 _ _ e, hq⟩
    have gw : ∀ i, i < ws.length → (ws.map V.str).getD i .non = .str (ws.getD i "") := fun i hi => by
      rw [List.getD_eq_getElem?_getD, List.getD_eq_getElem?_getD, List.getElem?_map, List.getElem?_eq_getElem hi]; rfl
    have hR : lawR ors els = if (ws.all fun n => decide (n ∈ ors.map (·.1))) = false then .inl "KindFault" else if ¬ ws.Nodup then .inl "OrderFault" else match lawB ors ws with | none => .inl "OrderFault" | some l => .inr l := by rw [ews]; rfl
    refine ⟨_, rfl, we, rfl, ⟨_, hw⟩, [.ref d], ⟨rfl, fun j i h => ?_⟩, compG_one (vs := [.ref d]) (ws.map V.str).length (fun i => (ws.map V.str).getD i .non) (fun i => !decide (ws.getD i "" ∈ ors.map (·.1))) (fun i v _ => v = .str (ws.getD i "")) (fun _ _ _ _ _ z => z) (by rw [List.length_map]; omega) (itl_stop hw) (itl_go hw) (itl_yld hw) (fun i H2 Q' hi s2 k => ?_) (fun i H2 D l' Q' hi _ s2 _ _ k => ?_) fun gl H2 ys hgl s2 g2 hP => ?_⟩
    · match j, h with
      | 0, h => cases h; exact ⟨_, rfl, rfl⟩
      | j + 1, h => simp at h
    · rw [List.length_map] at hi
      rw [gw i hi]
      by_cases hin : ws.getD i "" ∈ ors.map (·.1)
      · obtain ⟨r, hr'⟩ := name_row hin
        obtain ⟨q, a, _⟩ := hO1.get hnd hr'
        refine ⟨_, rfl, _, rfl, d, _, rfl, DGet.k (k := .inr (ws.getD i "")) (s2 _ _ hd1), _, rfl, ?_⟩
        rw [a]
        have := k H2 (Same.refl _)
        rw [decide_eq_true hin] at this
        exact this
      · refine ⟨_, rfl, _, rfl, d, _, rfl, DGet.k (k := .inr (ws.getD i "")) (s2 _ _ hd1), _, rfl, ?_⟩
        rw [hO1.out hin]
        have := k H2 (Same.refl _)
        rw [decide_eq_false hin] at this
        exact this
    · rw [List.length_map] at hi
      rw [gw i hi]
      exact ⟨_, rfl, k _ _ (Same.refl _) rfl⟩
    refine ⟨Nat.zero_le _, fun nl hnl => ⟨gl, nl, ys, rfl, rfl, SqL.of (by rw [upd_ne (fun z => by rw [← z, g2] at hnl; cases hnl)]; exact g2), SqL.of upd_same, _, rfl, ?_⟩⟩
    have s3 : Same H1 (upd H2 nl (.lst [])) := s2.trans (same_new hnl _)
    revert s3
    generalize upd H2 nl (.lst []) = H3
    intro s3
    have hys : ys.isEmpty = ws.all fun n => decide (n ∈ ors.map (·.1)) := by
      have e1 := hP.eq
      rw [List.length_map, range_filter ws "" (fun n => !decide (n ∈ ors.map (·.1))) V.str] at e1
      rw [e1, Bool.eq_iff_iff, List.isEmpty_iff, List.map_eq_nil_iff, List.filter_eq_nil_iff, List.all_eq_true]
      exact ⟨fun z n hn => by have := z n hn; simpa using this, fun z n hn => by rw [z n hn]; exact Bool.false_ne_true⟩
    rw [hys]
    cases hall : ws.all fun n => decide (n ∈ ors.map (·.1)) with
    | false =>
      refine iteT (qs H3 "KindFault" (s1.trans s3) ?_)
      rw [hR, hall, if_pos rfl]
    | true =>
    have hin : ∀ n ∈ ws, n ∈ ors.map (·.1) := fun n hn => of_decide_eq_true (List.all_eq_true.mp hall n hn)
    rw [if_neg (by rw [hall]; decide)] at hR
    refine iteF ⟨_, rfl, we, ws, rfl, s3.seq hw, by omega, fun m hm1 hm2 => ⟨_, rfl, we, _, rfl, .inl (s3.seq hw), _, _, rfl, rfl, _, rfl, ?_⟩⟩
    rw [List.length_map]
    by_cases hnw : ws.Nodup
    rotate_left
    · rw [decide_eq_true (show ((m : Nat) : Int) < (ws.length : Nat) by have : m ≠ ws.length := fun z => hnw (hm2.mp z); omega)]
      refine iteT (qs H3 "OrderFault" (s1.trans s3) ?_)
      rw [hR, if_pos hnw]
    rw [if_neg (fun z => z hnw)] at hR
    rw [decide_eq_false (show ¬ ((m : Nat) : Int) < (ws.length : Nat) by have := hm2.mpr hnw; omega)]
    have hw3 := s3.seq hw
    have hd3 := s3 _ _ hd1
    have hO3 : OrAt H3 ors kvs N := hO1.mono fun q xs hq e => ⟨s3 _ _ e, hq⟩
    refine iteF ⟨_, rfl, we, rfl, ⟨_, hw3⟩, [.ref d], ⟨rfl, fun j i h => ?_⟩, compG_one (vs := [.ref d]) (tc := tTrue) (ws.map V.str).length (fun i => (ws.map V.str).getD i .non) (fun _ => true) (fun i v _ => ∃ q, v = .ref q ∧ H3 q = some (.lst ((rowS ors (ws.getD i "")).map V.str))) (fun _ _ _ _ _ z => z) (by rw [List.length_map]; omega) (itl_stop hw3) (itl_go hw3) (itl_yld hw3) (fun i H4 Q' hi s4 k => k H4 (Same.refl _)) (fun i H4 D l' Q' hi _ s4 _ _ k => ?_) fun rl H4 ys2 hrl s4 r4 hP4 => ?_⟩
    · match j, h with
      | 0, h => cases h; exact ⟨_, rfl, rfl⟩
      | j + 1, h => simp at h
    · rw [List.length_map] at hi
      rw [gw i hi]
      have hgi : ws.getD i "" ∈ ws := by
        rw [List.getD_eq_getElem?_getD, List.getElem?_eq_getElem hi]; exact List.getElem_mem hi
      obtain ⟨r, hr'⟩ := name_row (hin _ hgi)
      obtain ⟨q, a, b, _⟩ := hO3.get hnd hr'
      refine ⟨_, rfl, _, rfl, d, .ref q, rfl, ?_, k _ _ (Same.refl _) ⟨q, rfl, by rw [rowS_eq hnd hr']; exact b⟩⟩
      rw [← a]
      exact DGet.k (k := .inr (ws.getD i "")) (s4 _ _ hd3)
    rw [List.filter_eq_self.mpr (fun _ _ => rfl), List.length_map] at hP4
    have hP4' : ys2.length = ws.length ∧ ∀ i, i < ws.length → ∃ q, ys2[i]? = some (.ref q) ∧ H3 q = some (.lst ((rowS ors (ws.getD i "")).map V.str)) := by
      refine ⟨by rw [hP4.len, List.length_range], fun i hi => ?_⟩
      obtain ⟨v, e1, q, e2, e3⟩ := hP4.nth i i (by rw [List.getElem?_range hi])
      exact ⟨q, by rw [e1, e2], e3⟩
    have hw4 := s4.seq hw3
    refine ⟨_, rfl, we, _, rfl, .inl hw4, fun cl hcl => ⟨by show 1 ≤ sizeLine; decide, fun ol hol => ?_⟩⟩
    have s5 : Same H4 (upd H4 cl (.lst (ws.map V.str))) := same_new hcl _
    have c5 : upd H4 cl (.lst (ws.map V.str)) cl = some (.lst (ws.map V.str)) := upd_same
    revert s5 c5 hol
    generalize upd H4 cl (.lst (ws.map V.str)) = H5
    intro hol s5 c5
    have s6 : Same H5 (upd H5 ol (.lst [.ref cl])) := same_new hol _
    have c6 : upd H5 ol (.lst [.ref cl]) ol = some (.lst [.ref cl]) := upd_same
    revert s6 c6
    generalize upd H5 ol (.lst [.ref cl]) = H6
    intro s6 c6
    have s46 := s5.trans s6
    have r6 := s46 _ _ r4
    refine ⟨rl, ol, _, _, rfl, rfl, r6, c6, small (by rw [hP4'.1, List.length_singleton]; omega), fun al hal => ?_⟩
    have s7 : Same H6 (upd H6 al (.lst (ys2 ++ [.ref cl]))) := same_new hal _
    have c7 : upd H6 al (.lst (ys2 ++ [.ref cl])) al = some (.lst (ys2 ++ [.ref cl])) := upd_same
    revert s7 c7
    generalize upd H6 al (.lst (ys2 ++ [.ref cl])) = H7
    intro s7 c7
    have s37 : Same H3 H7 := s4.trans (s46.trans s7)
    have s07 : Same H H7 := s1.trans (s3.trans s37)
    obtain ⟨rs, ers⟩ : ∃ rs : List (List Str), rs = ws.map (rowS ors) ++ [ws] := ⟨_, rfl⟩
    have hrs : rs.length = ws.length + 1 := by rw [ers, List.length_append, List.length_map]; rfl
    have hLR : LRows K H7 (rs.map (List.map D.str)) (ys2 ++ [.ref cl]) := by
      refine ⟨by rw [List.length_append, List.length_map, hrs, hP4'.1]; rfl, fun i hi => ?_⟩
      rw [List.length_map, hrs] at hi
      have eg : ((rs.map (List.map D.str)).getD i []).map fV = (rs.getD i []).map V.str := by
        rw [List.getD_eq_getElem?_getD, List.getD_eq_getElem?_getD, List.getElem?_map, List.getElem?_eq_getElem (by omega)]
        exact fV_strs _
      rw [eg, ers]
      by_cases hi' : i < ws.length
      · obtain ⟨q, a, b⟩ := hP4'.2 i hi'
        refine ⟨q, by rw [List.getElem?_append_left (by rw [hP4'.1]; exact hi')]; exact a, SqL.of ?_⟩
        have : (ws.map (rowS ors) ++ [ws]).getD i [] = rowS ors (ws.getD i "") := by
          rw [List.getD_eq_getElem?_getD, List.getElem?_append_left (by rw [List.length_map]; exact hi'), List.getElem?_map, List.getD_eq_getElem?_getD, List.getElem?_eq_getElem hi']; rfl
        rw [this]
        exact s37 _ _ b
      · have ei : i = ws.length := by omega
        subst ei
        refine ⟨cl, by rw [← hP4'.1, List.getElem?_append_right (Nat.le_refl _), Nat.sub_self]; rfl, SqL.of ?_⟩
        have : (ws.map (rowS ors) ++ [ws]).getD ws.length [] = ws := by
          rw [List.getD_eq_getElem?_getD, List.getElem?_append_right (by rw [List.length_map]; exact Nat.le_refl _), List.length_map, Nat.sub_self]; rfl
        rw [this]
        exact s7 _ _ (s6 _ _ c5)
    have fB : ∀ o : Option (List Str), GS.mg rs = o → GS.mg (rs.map (List.map D.str)) = o.map (List.map D.str) := fun o e => by rw [mg_str, e]
    refine ⟨al, _, rs.map (List.map D.str), rfl, SqL.of c7, hLR, fun ds hds x hx => ?_, by rw [List.length_map]; omega, fun ds hds => ?_, fun H8 s8 hn8 => ?_, fun q H8 l s8 hl8 hq8 c8 => ?_⟩
    · obtain ⟨r, _, rfl⟩ := List.mem_map.mp hds
      obtain ⟨y, _, rfl⟩ := List.mem_map.mp hx
      exact .inr ⟨y, rfl⟩
    · obtain ⟨r, hr', rfl⟩ := List.mem_map.mp hds
      rw [List.length_map]
      rw [ers] at hr'
      rcases List.mem_append.mp hr' with z | z
      · obtain ⟨n, _, rfl⟩ := List.mem_map.mp z
        have := rowS_len hlen n
        omega
      · rw [List.mem_singleton] at z
        rw [z]; exact hwl
    · have hmn : GS.mg rs = none := by
        cases e : GS.mg rs with
        | none => rfl
        | some l => rw [fB _ e] at hn8; cases hn8
      refine ⟨_, rfl, rfl, true, rfl, iteT (iteT (qs H8 "OrderFault" (s07.trans s8) ?_))⟩
      rw [hR]
      unfold lawB
      rw [← ers, hmn]; rfl
    · obtain ⟨l0, hl0, rfl⟩ : ∃ l0, GS.mg rs = some l0 ∧ l = l0.map D.str := by
        cases e : GS.mg rs with
        | none => rw [fB _ e] at hl8; cases hl8
        | some l0 => rw [fB _ e] at hl8; injection hl8 with hl8; exact ⟨l0, rfl, hl8.symm⟩
      rw [fV_strs] at c8
      refine ⟨_, rfl, rfl, false, rfl, iteF ⟨_, rfl, q, _, rfl, .inl (SqL.of c8), _, _, rfl, rfl, _, rfl, ?_⟩⟩
      rw [List.length_map]
      have hq0 : H q = none := s07.free hq8
      have eB : lawB ors ws = if l0.length ≤ 39 then some l0 else none := by unfold lawB; rw [← ers, hl0]; rfl
      rw [eB] at hR
      by_cases h39 : l0.length ≤ 39
      · rw [decide_eq_false (by omega)]
        rw [if_pos h39] at hR
        exact iteF ⟨_, rfl, ql q H8 l0 (s07.trans s8) hR hq0 c8⟩
      · rw [decide_eq_true (by omega)]
        rw [if_neg h39] at hR
        exact iteT (qs H8 "OrderFault" (s07.trans s8) hR)
end
end GS
set_option Elab.async false
set_option linter.all false
set_option maxRecDepth 100000
set_option maxHeartbeats 4000000
namespace GS
open PySem PyProof.Rows
open L2 hiding pe_int pe_bl pe_non pe_str pv pe_glob pe_bltn pe_op pe_cmpR pe_one pe_and pe_ifExp pe_ix po_none po_some pe_slice pa_nil pa_cons pe_lst pe_tup pe_dnewK pe_callB pe_callTy pe_bm pt_cmpR pt_val pt_not pw_and1 pw_or1 pw_and pw_or pg_name pgs_nil pgs_cons pg_tup pi_list pi_tup pi_range1 ps_ret ps_expr ps_set ps_asg ps_if ps_while ps_for pss_nil pss_cons pss_one
open L3
abbrev sEl : Stmt := top9 30
theorem b9Max : bootBuiltins "max" = some (.builtin "max") := by decide +kernel
section
variable {P : Program} {w : World} {K : PySem.W.Frag} {mg : Str → Option Value} {base : Heap} {f : Addr} {fd : FuncData}
def spEl (K : PySem.W.Frag) : Sp := fun vs H Q _ => ∃ (a b p q : Addr) (n : Nat) (ns ods : List Str), vs = [.ref a, .ref b, .ref p, .ref q] ∧ Spot9 K H a b n ∧ n ≤ 100000000 ∧ SqL K H p (ns.map V.str) ∧ p ≠ b ∧ 0 < ns.length ∧ ns.length ≤ 1000 ∧ SqL K H q (ods.map V.str) ∧ q ≠ b ∧ 0 < ods.length ∧ ods.length ≤ 1000 ∧
  ∀ (l : Addr) (H' : Hp) (n' : Nat) (els : List Str), But9 b H H' → H' b = some (.lst [.int (n' : Nat)]) → n' ≤ n + 100 → H l = none → l ≠ b → H' l = some (.lst (els.map V.str)) → els.length ≤ 3 → (∀ x ∈ els, x ∈ ns ∨ x ∈ ods) → Q (.ref l) H'
def tLow (K : PySem.W.Frag) : TE := fun σ H Q => ∃ (p : Addr) (m : Int) (xs : List V), σ[6]? = some (some (.int m)) ∧ σ[2]? = some (some (.ref p)) ∧ SqL K H p xs ∧ 0 < xs.length ∧ ∀ lo : Int, 0 ≤ lo → lo < (xs.length : Nat) → Q (.int lo) H
theorem scEl : FnScope ["_law_cells", "_law_spot", "_law_names", "_law_odd", "_law_found", "_law_k", "_law_n", "_law_low"] ["_law_cells", "_law_spot", "_law_names", "_law_odd"] (defScope sEl) := ⟨rfl, rfl, rfl, by decide +kernel, rfl, by decide +kernel, by decide +kernel⟩
theorem ok_El (g : Glb9 mg) (F : Fun K "_law_elders" "_law_elders" sEl f fd) (dC : Def P w K mg base "_law_cell" ["_law_cells", "_law_spot"] 1 (spCell9 K)) : FnOk P w K mg base CX0 2 f fd ["_law_cells", "_law_spot", "_law_names", "_law_odd"] (spEl K) := by
  refine F.okI scEl (fun vs H Q E h => ?_) (fun cdv A outer s H vs Q E hr h => ?_)
  · obtain ⟨_, _, _, _, _, _, _, rfl, _⟩ := h; rfl
  obtain ⟨a, b, p, q0, n, ns, ods, rfl, hS, hn, hp, npb, hns0, hns, ho, nqb, hod0, hod, q⟩ := h
  refine ⟨_, pss_cons (ps_set (i := 4) scEl.nd rfl (Or.inl rfl) (pe_lst pa_nil))
    (pss_cons (ps_for PassesOwn.never rfl (pi_range1 rfl g.nRange (pa_cons (pe_op op_mod (pe_op op_fdiv (L3.pe_def dC hr (by decide) rfl (pa_cons (pv 0) (pa_cons (pv 1) pa_nil))) pe_int) pe_int) pa_nil)) (pg_name (i := 5) scEl.nd rfl (Or.inl rfl))
      (pss_cons (ps_set (i := 6) scEl.nd rfl (Or.inl rfl) (L3.pe_def dC hr (by decide) rfl (pa_cons (pv 0) (pa_cons (pv 1) pa_nil))))
      (pss_cons (ps_set (i := 7) scEl.nd rfl (Or.inl rfl) (le_imp (t' := tLow K) (pe_ifExp (pt_cmpR op_gt (pe_op op_mod (pv 6) pe_int) pe_int (nomark _)) (pe_callB (call_max2 rfl) rfl g.nMax b9Max (pa_cons pe_int (pa_cons (pe_op op_sub (pe_callB (r := rLen K) call_len_seq rfl g.nLen b9Len (pa_cons (pv 2) pa_nil)) pe_int) pa_nil))) pe_int) ?low))
      (pss_cons (ps_expr (pe_bm PySem.F.plainAttrs_list PySem.F.slot_list_append PySem.F.type_list_append mt_append (pv 4) (pa_cons (pe_ix (r := rIxL K) ix_list (pv 2) (pe_op op_add (pv 7) (pe_op op_mod (pe_op op_fdiv (pv 6) pe_int) (pe_op op_sub (pe_callB (r := rLen K) call_len_seq rfl g.nLen b9Len (pa_cons (pv 2) pa_nil)) (pv 7)))) (fun _ _ => rfl)) pa_nil)))
      (pss_one (ps_if (pt_cmpR op_eq (pe_op op_mod (pe_op op_fdiv (pv 6) pe_int) pe_int) pe_int (nomark _)) (pss_one (ps_asg (pe_ix (r := rIxL K) ix_list (pv 3) (pe_op op_mod (pe_op op_fdiv (pv 6) pe_int) (pe_callB (r := rLen K) call_len_seq rfl g.nLen b9Len (pa_cons (pv 3) pa_nil))) (fun _ _ => rfl)) (.mk (L2.pg_sub (L2.pv 4) (L2.pv 5) set_list)))) pss_nil))))))
    (pss_one (ps_ret (pv 4)))), ?main⟩
  case low =>
    rintro σ H Q ⟨p, m, xs, e6, e2, hq, hx, q⟩
    refine ⟨_, e6, _, _, rfl, rfl, (by show (0 : Int) < 3; decide), _, _, rfl, rfl, _, rfl, ite_b9 (fun _ => ?_) (fun _ => q 0 (Int.le_refl _) (by omega))⟩
    refine ⟨_, e2, p, xs, rfl, .inl hq, _, _, rfl, rfl, 0, _, rfl, q _ ?_ ?_⟩
    · split <;> omega
    · split <;> omega
  case main =>
    refine ⟨Nat.zero_le _, fun fl hfl => ?_⟩
    have nfb : fl ≠ b := fun z => by rw [z, hS.spot] at hfl; cases hfl
    have s1 : Same H (upd H fl (.lst [])) := same_new hfl _
    have f1 : upd H fl (.lst []) fl = some (.lst []) := upd_same
    revert s1 f1
    generalize upd H fl (.lst []) = H1
    intro s1 f1
    have S1 : Spot9 K H1 a b n := hS.go (Same.but b s1) (s1 _ _ hS.spot)
    refine ⟨_, rfl, _, rfl, a, b, n, rfl, S1, by omega, fun i0 H2 i00 i01 b2 h2 => ?_⟩
    refine ⟨_, _, rfl, rfl, ⟨by decide, by decide⟩, _, _, rfl, rfl, (by show (0 : Int) < 4; decide), i0 / 3 % 4, rfl, by omega, by omega, ?_⟩
    have f2 : H2 fl = some (.lst []) := b2 _ _ nfb f1
    have S2 : Spot9 K H2 a b (n + 1) := S1.go b2 h2
    have B2 : But9 b H H2 := (Same.but b s1).trans b2
    have l4 : (i0 / 3 % 4).toNat ≤ 3 := by omega
    refine for_range (fun i σ H' => (∃ o5 o6 o7, σ = [some (.ref a), some (.ref b), some (.ref p), some (.ref q0), some (.ref fl), o5, o6, o7]) ∧ ∃ (n' : Nat) (els : List Str), But9 b H H' ∧ Spot9 K H' a b n' ∧ n' ≤ n + 1 + i ∧ H' fl = some (.lst (els.map V.str)) ∧ els.length = i ∧ ∀ x ∈ els, x ∈ ns ∨ x ∈ ods) ⟨⟨_, _, _, rfl⟩, n + 1, [], B2, S2, by omega, f2, rfl, fun x hx => by cases hx⟩ ?turn ?stop
    case stop =>
      rintro σ H' ⟨⟨o5, o6, o7, rfl⟩, n', els, BH, SH, hn', hf, hl, hin⟩
      exact ⟨_, rfl, q fl H' n' els BH SH.spot (by omega) hfl nfb hf (by omega) hin⟩
    case turn =>
      rintro i σ H' hi ⟨⟨o5, o6, o7, rfl⟩, n', els, BH, SH, hn', hf, hl, hin⟩
      refine ⟨_, rfl, _, rfl, a, b, n', rfl, SH, by omega, fun m H3 m0 m1 b3 h3 => ?_⟩
      have S3 : Spot9 K H3 a b (n' + 1) := SH.go b3 h3
      have f3 : H3 fl = some (.lst (els.map V.str)) := b3 _ _ nfb hf
      have B3 := BH.trans b3
      have hp3 := But9.sqL B3 npb hp
      have ho3 := But9.sqL B3 nqb ho
      refine ⟨p, m, _, rfl, rfl, hp3, by rw [List.length_map]; exact hns0, fun lo lo0 lo1 => ?_⟩
      have llen : (ns.map V.str).length = ns.length := List.length_map ..
      have hpos : (0 : Int) < ((ns.map V.str).length : Nat) - lo := by omega
      obtain ⟨v1, hv1, hat1⟩ := atI_mem9 (xs := ns.map V.str) (k := lo + m / 3 % (((ns.map V.str).length : Nat) - lo)) (by have := Int.emod_nonneg (m / 3) (show ((ns.map V.str).length : Int) - lo ≠ 0 by omega); omega) (by have := Int.emod_lt_of_pos (m / 3) hpos; omega)
      obtain ⟨x1, hx1, rfl⟩ := List.mem_map.mp hv1
      have le1 : (els.map V.str).length = i := by rw [List.length_map]; exact hl
      refine ⟨_, rfl, .inl ⟨rfl, _, SqL.of f3⟩, _, rfl, _, rfl, _, rfl, _, _, rfl, rfl, ⟨by decide, by decide⟩, _, rfl, p, _, rfl, .inl hp3, _, rfl, _, _, rfl, rfl, _, _, rfl, rfl, hpos, _, _, rfl, rfl, p, _, _, _, rfl, rfl, hp3, hat1, fl, _, _, rfl, rfl, f3, small1000 (by omega), ?_⟩
      have e1 : els.map V.str ++ [V.str x1] = (els ++ [x1]).map V.str := by rw [List.map_append]; rfl
      rw [e1]
      have f4 : upd H3 fl (.lst ((els ++ [x1]).map V.str)) fl = some (.lst ((els ++ [x1]).map V.str)) := upd_same
      have B4 : But9 b H (upd H3 fl (.lst ((els ++ [x1]).map V.str))) := fun r u n1 e => by
        rw [upd_ne (fun z => by rw [z, hfl] at e; cases e)]; exact B3 _ _ n1 e
      have h4 : upd H3 fl (.lst ((els ++ [x1]).map V.str)) b = some (.lst [.int ((n' + 1 : Nat) : Int)]) := by rw [upd_ne (Ne.symm nfb)]; exact h3
      revert f4 B4 h4
      generalize upd H3 fl (.lst ((els ++ [x1]).map V.str)) = H4
      intro f4 B4 h4
      have S4 : Spot9 K H4 a b (n' + 1) := hS.go B4 h4
      have ho4 := But9.sqL B4 nqb ho
      have le4 : (els ++ [x1]).length = i + 1 := by rw [List.length_append, hl]; rfl
      refine ⟨_, rfl, _, _, rfl, rfl, ⟨by decide, by decide⟩, _, _, rfl, rfl, (by show (0 : Int) < 13; decide), rfl, _, rfl, ite_b9 (fun _ => ?_) (fun _ => ?_)⟩
      · have lo' : (ods.map V.str).length = ods.length := List.length_map ..
        obtain ⟨v2, hv2, hat2⟩ := atI_mem9 (xs := ods.map V.str) (k := m / 91 % ((ods.map V.str).length : Nat)) (Int.emod_nonneg _ (by omega)) (Int.emod_lt_of_pos _ (by omega))
        obtain ⟨x2, hx2, rfl⟩ := List.mem_map.mp hv2
        refine ⟨_, rfl, _, rfl, _, _, rfl, rfl, ⟨by decide, by decide⟩, _, rfl, q0, _, rfl, .inl ho4, _, _, rfl, rfl, (by show (0 : Int) < ((ods.map V.str).length : Nat); omega), q0, _, _, _, rfl, rfl, ho4, hat2, _, rfl, _, rfl, fl, _, _, i, rfl, rfl, f4, by rw [List.length_map, le4]; exact ixN_nat (by omega), ?_⟩
        have e5 : ((els ++ [x1]).map V.str).set i (V.str x2) = ((els ++ [x1]).set i x2).map V.str := by rw [List.map_set]
        rw [e5]
        refine ⟨⟨_, _, _, rfl⟩, n' + 1, (els ++ [x1]).set i x2, fun r u n1 e => ?_, ?_, by omega, upd_same, by rw [List.length_set]; exact le4, fun x hx => ?_⟩
        · rw [upd_ne (fun z => by rw [z, hfl] at e; cases e)]; exact B4 _ _ n1 e
        · refine hS.go (fun r u n1 e => ?_) ?_
          · rw [upd_ne (fun z => by rw [z, hfl] at e; cases e)]; exact B4 _ _ n1 e
          · rw [upd_ne (Ne.symm nfb)]; exact h4
        · rcases List.mem_or_eq_of_mem_set hx with z | z
          · rcases List.mem_append.mp z with z | z
            · exact hin x z
            · rw [List.mem_singleton] at z
              rw [z]; exact .inl hx1
          · rw [z]; exact .inr hx2
      · refine ⟨⟨_, _, _, rfl⟩, n' + 1, els ++ [x1], B4, S4, by omega, f4, le4, fun x hx => ?_⟩
        rcases List.mem_append.mp hx with z | z
        · exact hin x z
        · rw [List.mem_singleton] at z
          rw [z]; exact .inl hx1
end
end GS
set_option Elab.async false
set_option linter.all false
set_option maxRecDepth 100000
set_option maxHeartbeats 4000000
namespace GS
open PySem PyProof.Rows
open L2 hiding pe_int pe_bl pe_non pe_str pv pe_glob pe_bltn pe_op pe_cmpR pe_one pe_and pe_ifExp pe_ix po_none po_some pe_slice pa_nil pa_cons pe_lst pe_tup pe_dnewK pe_callB pe_callTy pe_bm pt_cmpR pt_val pt_not pw_and1 pw_or1 pw_and pw_or pg_name pgs_nil pgs_cons pg_tup pi_list pi_tup pi_range1 ps_ret ps_expr ps_set ps_asg ps_if ps_while ps_for pss_nil pss_cons pss_one
open L3
/-! ### the law's tables beside the store's -/
def thE (ths : List (Str × (Nat ⊕ D))) (n : Str) : Nat ⊕ D := ((ths.find? fun x => decide (x.1 = n)).map (·.2)).getD (.inl 0)
theorem thE_eq {ths : List (Str × (Nat ⊕ D))} (hn : (ths.map (·.1)).Nodup) {n : Str} {e : Nat ⊕ D} (h : (n, e) ∈ ths) : thE ths n = e := by
  induction ths with
  | nil => cases h
  | cons x xs ih =>
    rw [List.map_cons, List.nodup_cons] at hn
    unfold thE
    by_cases hx : x.1 = n
    · rw [List.find?_cons_of_pos (by simpa using hx)]
      rcases List.mem_cons.mp h with e | e
      · rw [← e]; rfl
      · exact absurd (List.mem_map.mpr ⟨_, e, hx.symm⟩) hn.1
    · rw [List.find?_cons_of_neg (by simpa using hx)]
      rcases List.mem_cons.mp h with e | e
      · exact absurd (by rw [← e]) hx
      · exact ih hn.2 e
theorem name_th {ths : List (Str × (Nat ⊕ D))} {n : Str} (h : n ∈ ths.map (·.1)) : ∃ e, (n, e) ∈ ths := by
  obtain ⟨x, hx, e⟩ := List.mem_map.mp h
  exact ⟨x.2, by rw [← e]; exact hx⟩
structure Tb (os : List (Option (List Nat))) (ors : List (Str × List Str)) (ths : List (Str × (Nat ⊕ D))) (ix : Str → Nat) : Prop where
  nd : (ors.map (·.1)).Nodup
  ndT : (ths.map (·.1)).Nodup
  osok : OsOk os
  cls : ∀ n r, (n, r) ∈ ors → (n, Sum.inl (ix n)) ∈ ths ∧ os[ix n]? = some (some (r.map ix)) ∧ ∀ m ∈ r, m ∈ ors.map (·.1)
  inj : ∀ n m, n ∈ ors.map (·.1) → m ∈ ors.map (·.1) → ix n = ix m → n = m
  old : ∀ n e, (n, e) ∈ ths → EldOk os e
  odd : ∀ n e, (n, e) ∈ ths → n ∉ ors.map (·.1) → isC os e = false
  thing : ("Thing" : Str) ∈ ors.map (·.1) ∧ ix "Thing" = 8
def resD (ix : Str → Nat) : Sum Str (List Str) → D
  | .inl x => fltD x
  | .inr l => .tup [.str "value", .tup ((l.map ix).map thD)]
section
variable {os : List (Option (List Nat))} {ors : List (Str × List Str)} {ths : List (Str × (Nat ⊕ D))} {ix : Str → Nat}
theorem Tb.os1 (T : Tb os ors ths ix) {n : Str} (h : n ∈ ors.map (·.1)) : os[ix n]? = some (some ((rowS ors n).map ix)) := by
  obtain ⟨r, hr⟩ := name_row h
  rw [rowS_eq T.nd hr]
  exact (T.cls n r hr).2.1
theorem Tb.row (T : Tb os ors ths ix) {n : Str} (h : n ∈ ors.map (·.1)) : ordOf os (ix n) = (rowS ors n).map ix := by
  unfold ordOf
  rw [List.getD_eq_getElem?_getD, T.os1 h]; rfl
theorem Tb.rowIn (T : Tb os ors ths ix) {n m : Str} (h : n ∈ ors.map (·.1)) (hm : m ∈ rowS ors n) : m ∈ ors.map (·.1) := by
  obtain ⟨r, hr⟩ := name_row h
  rw [rowS_eq T.nd hr] at hm
  exact (T.cls n r hr).2.2 m hm
theorem Tb.lens (T : Tb os ors ths ix) : ∀ n r, (n, r) ∈ ors → r.length ≤ 40 := fun n r h => by
  have h1 := T.osok.len (ix n)
  rw [T.row (List.mem_map.mpr ⟨_, h, rfl⟩), List.length_map, rowS_eq T.nd h] at h1
  exact h1
theorem Tb.thC (T : Tb os ors ths ix) {n : Str} (h : n ∈ ors.map (·.1)) : thE ths n = .inl (ix n) := by
  obtain ⟨r, hr⟩ := name_row h
  exact thE_eq T.ndT (T.cls n r hr).1
theorem Tb.inT (T : Tb os ors ths ix) {n : Str} (h : n ∈ ors.map (·.1)) : n ∈ ths.map (·.1) := by
  obtain ⟨r, hr⟩ := name_row h
  exact List.mem_map.mpr ⟨_, (T.cls n r hr).1, rfl⟩
theorem Tb.isC (T : Tb os ors ths ix) {n : Str} (h : n ∈ ths.map (·.1)) : isC os (thE ths n) = decide (n ∈ ors.map (·.1)) := by
  by_cases hn : n ∈ ors.map (·.1)
  · rw [T.thC hn, decide_eq_true hn, GS.isC, List.getD_eq_getElem?_getD, T.os1 hn]; rfl
  · obtain ⟨e, he⟩ := name_th h
    rw [decide_eq_false hn, thE_eq T.ndT he]
    exact T.odd n e he hn
theorem Tb.all (T : Tb os ors ths ix) : ∀ {els : List Str}, (∀ x ∈ els, x ∈ ths.map (·.1)) → (els.map (thE ths)).all (GS.isC os) = els.all fun n => decide (n ∈ ors.map (·.1))
  | [], _ => rfl
  | x :: xs, h => by
    rw [List.map_cons, List.all_cons, List.all_cons, T.isC (h x List.mem_cons_self), T.all fun y hy => h y (List.mem_cons_of_mem _ hy)]
theorem Tb.idx (T : Tb os ors ths ix) : ∀ {els : List Str}, (∀ x ∈ els, x ∈ ors.map (·.1)) → (els.map (thE ths)).map GS.idx = els.map ix
  | [], _ => rfl
  | x :: xs, h => by
    rw [List.map_cons, List.map_cons, List.map_cons, T.idx fun y hy => h y (List.mem_cons_of_mem _ hy), T.thC (h x List.mem_cons_self)]; rfl
theorem nodup_on {α β : Type} {f : α → β} : ∀ {l : List α}, (∀ x y, x ∈ l → y ∈ l → f x = f y → x = y) → ((l.map f).Nodup ↔ l.Nodup)
  | [], _ => by simp
  | x :: xs, h => by
    rw [List.map_cons, List.nodup_cons, List.nodup_cons, nodup_on fun a b ha hb => h a b (List.mem_cons_of_mem _ ha) (List.mem_cons_of_mem _ hb)]
    refine and_congr (not_congr ⟨fun z => ?_, fun z => List.mem_map.mpr ⟨x, z, rfl⟩⟩) Iff.rfl
    obtain ⟨y, hy, e⟩ := List.mem_map.mp z
    rw [← h y x (List.mem_cons_of_mem _ hy) List.mem_cons_self e]; exact hy
theorem Tb.behind (T : Tb os ors ths ix) {ws : List Str} (h : ∀ x ∈ ws, x ∈ ors.map (·.1)) : behindOf (ordOf os) (ws.map ix) = (lawB ors ws).map (List.map ix) := by
  have e1 : (ws.map ix).map (ordOf os) ++ [ws.map ix] = (ws.map (rowS ors) ++ [ws]).map (List.map ix) := by
    rw [List.map_append, List.map_map, List.map_map, List.map_singleton]
    congr 1
    refine List.map_congr_left fun x hx => ?_
    exact T.row (h x hx)
  unfold behindOf lawB
  rw [e1, mg_map (S := fun x => x ∈ ors.map (·.1)) (fun x y hx hy e => T.inj x y hx hy e) (fun r hr x hx => ?_)]
  · cases mg (ws.map (rowS ors) ++ [ws]) with
    | none => rfl
    | some l =>
      rw [Option.map_some, Option.bind_some, Option.bind_some, List.length_map]
      by_cases hl : l.length ≤ 39
      · rw [if_pos hl, if_pos hl]; rfl
      · rw [if_neg hl, if_neg hl]; rfl
  · rcases List.mem_append.mp hr with hr | hr
    · obtain ⟨y, hy, e⟩ := List.mem_map.mp hr
      rw [← e] at hx
      exact T.rowIn (h y hy) hx
    · rw [List.mem_singleton.mp hr] at hx
      exact h x hx
theorem Tb.ord (T : Tb os ors ths ix) {els : List Str} (h : ∀ x ∈ els, x ∈ ths.map (·.1)) : ordR os 8 (els.map (thE ths)) = resD ix (lawR ors els) := by
  have fin : ∀ ws : List Str, (∀ x ∈ ws, x ∈ ors.map (·.1)) → (match behindOf (ordOf os) (ws.map ix) with | none => fltD "OrderFault" | some l => D.tup [.str "value", .tup (l.map thD)]) = resD ix (match lawB ors ws with | none => .inl "OrderFault" | some l => .inr l) := fun ws hw => by
    rw [T.behind hw]
    cases lawB ors ws with
    | none => rfl
    | some l => rfl
  cases els with
  | nil =>
    have a1 : ∀ x ∈ (["Thing"] : List Str), x ∈ ors.map (·.1) := fun x hx => by rw [List.mem_singleton.mp hx]; exact T.thing.1
    have e1 : lawR ors [] = match lawB ors [("Thing" : Str)] with | none => .inl "OrderFault" | some l => .inr l := by
      unfold lawR
      rw [if_neg (show ¬ ((wnt []).all fun n => decide (n ∈ ors.map (·.1))) = false from by rw [Bool.not_eq_false, List.all_eq_true]; exact fun x hx => decide_eq_true (a1 x hx)), if_neg (fun z => z (show (wnt []).Nodup by decide))]
      try rfl
    have e2 : ordR os 8 (([] : List Str).map (thE ths)) = match behindOf (ordOf os) ((["Thing"] : List Str).map ix) with | none => fltD "OrderFault" | some l => D.tup [.str "value", .tup (l.map thD)] := by
      unfold ordR
      rw [if_neg (show ¬ ((([] : List Str).map (thE ths)).all (GS.isC os)) = false from fun z => Bool.noConfusion z), if_neg (fun z => z (show ((([] : List Str).map (thE ths)).map GS.idx).Nodup from List.nodup_nil)), if_pos (show (([] : List Str).map (thE ths)) = [] from rfl), List.map_cons, List.map_nil, T.thing.2]
      try rfl
    rw [e1, e2, fin _ a1]
  | cons y ys =>
    have ew : wnt (y :: ys) = y :: ys := if_neg (by simp)
    have e1 : lawR ors (y :: ys) = if ((y :: ys).all fun n => decide (n ∈ ors.map (·.1))) = false then .inl "KindFault" else if ¬ (y :: ys).Nodup then .inl "OrderFault" else match lawB ors (y :: ys) with | none => .inl "OrderFault" | some l => .inr l := by
      unfold lawR
      rw [ew]
      try rfl
    have e2 : ordR os 8 ((y :: ys).map (thE ths)) = if ((y :: ys).all fun n => decide (n ∈ ors.map (·.1))) = false then fltD "KindFault" else if ¬ (((y :: ys).map (thE ths)).map GS.idx).Nodup then fltD "OrderFault" else match behindOf (ordOf os) (((y :: ys).map (thE ths)).map GS.idx) with | none => fltD "OrderFault" | some l => D.tup [.str "value", .tup (l.map thD)] := by
      unfold ordR
      rw [T.all h, if_neg (show ¬ ((y :: ys).map (thE ths)) = [] by simp)]
      try rfl
    cases ha : (y :: ys).all fun n => decide (n ∈ ors.map (·.1)) with
    | false => rw [e1, e2, if_pos ha, if_pos ha]; rfl
    | true =>
      have hin : ∀ x ∈ (y :: ys), x ∈ ors.map (·.1) := fun x hx => of_decide_eq_true (List.all_eq_true.mp ha x hx)
      have hf : ¬ ((y :: ys).all fun n => decide (n ∈ ors.map (·.1))) = false := by rw [ha]; exact fun z => Bool.noConfusion z
      rw [if_neg hf] at e1 e2
      rw [T.idx hin] at e2
      have hnd : ((y :: ys).map ix).Nodup ↔ (y :: ys).Nodup := nodup_on fun a b h1 h2 => T.inj a b (hin a h1) (hin b h2)
      by_cases hn : (y :: ys).Nodup
      · rw [if_neg (fun z => z hn)] at e1
        rw [if_neg (fun z => z (hnd.mpr hn))] at e2
        rw [e1, e2]
        exact fin _ hin
      · rw [if_pos hn] at e1
        rw [if_pos (fun z => hn (hnd.mp z))] at e2
        rw [e1, e2]; rfl
theorem lawR_in (T : Tb os ors ths ix) {els l : List Str} (h : lawR ors els = .inr l) : l.Nodup ∧ l.length ≤ 39 ∧ ∀ x ∈ l, x ∈ ors.map (·.1) := by
  unfold lawR at h
  by_cases ha : ((wnt els).all fun n => decide (n ∈ ors.map (·.1))) = false
  · rw [if_pos ha] at h; cases h
  rw [if_neg ha] at h
  have hin : ∀ x ∈ wnt els, x ∈ ors.map (·.1) := fun x hx => of_decide_eq_true (List.all_eq_true.mp (Bool.not_eq_false _ ▸ ha) x hx)
  by_cases hn : (wnt els).Nodup
  rotate_left
  · rw [if_pos hn] at h; cases h
  rw [if_neg (fun z => z hn)] at h
  cases e : lawB ors (wnt els) with
  | none => rw [e] at h; cases h
  | some m =>
    rw [e] at h
    injection h with h
    subst h
    unfold lawB at e
    cases em : mg ((wnt els).map (rowS ors) ++ [wnt els]) with
    | none => rw [em] at e; cases e
    | some k =>
      rw [em, Option.bind_some] at e
      by_cases hl : k.length ≤ 39
      · rw [if_pos hl] at e
        injection e with e
        subst e
        refine ⟨mg_nodup em, hl, fun x hx => ?_⟩
        obtain ⟨r, hr, hx⟩ := (mg_mem em).mp hx
        rcases List.mem_append.mp hr with hr | hr
        · obtain ⟨y, hy, ey⟩ := List.mem_map.mp hr
          rw [← ey] at hx
          exact T.rowIn (hin y hy) hx
        · rw [List.mem_singleton.mp hr] at hx
          exact hin x hx
      · rw [if_neg hl] at e; cases e
def ixM (ix : Str → Nat) (nm : Str) (k : Nat) (n : Str) : Nat := if n = nm then k else ix n
theorem ixM_new (ix : Str → Nat) (nm : Str) (k : Nat) : ixM ix nm k nm = k := if_pos rfl
theorem ixM_old {ix : Str → Nat} {nm : Str} {k : Nat} {n : Str} (h : n ≠ nm) : ixM ix nm k n = ix n := if_neg h
theorem ixM_map {ix : Str → Nat} {nm : Str} {k : Nat} : ∀ {l : List Str}, nm ∉ l → l.map (ixM ix nm k) = l.map ix
  | [], _ => rfl
  | x :: xs, h => by
    rw [List.mem_cons, not_or] at h
    rw [List.map_cons, List.map_cons, ixM_old (fun z => h.1 z.symm), ixM_map h.2]
theorem EldOk.more {o : Option (List Nat)} : ∀ {e : Nat ⊕ D}, EldOk os e → EldOk (os ++ [o]) e
  | .inl i, h => by
    have h' : i < os.length := h
    show i < (os ++ [o]).length
    rw [List.length_append]; omega
  | .inr _, h => h
theorem isC_more {o : Option (List Nat)} : ∀ {e : Nat ⊕ D}, EldOk os e → GS.isC (os ++ [o]) e = GS.isC os e
  | .inl i, h => by
    have h' : i < os.length := h
    show ((os ++ [o]).getD i none).isSome = (os.getD i none).isSome
    rw [List.getD_eq_getElem?_getD, List.getD_eq_getElem?_getD, List.getElem?_append_left h']
  | .inr _, _ => rfl
theorem ordOf_more {o : Option (List Nat)} (i : Nat) : ordOf (os ++ [o]) i = ordOf os i ∨ (i = os.length ∧ ordOf (os ++ [o]) i = o.getD []) := by
  unfold ordOf
  rw [List.getD_eq_getElem?_getD, List.getD_eq_getElem?_getD]
  by_cases hi : i < os.length
  · exact .inl (by rw [List.getElem?_append_left hi])
  · by_cases h2 : i = os.length
    · subst h2
      refine .inr ⟨rfl, ?_⟩
      rw [List.getElem?_append_right (Nat.le_refl _), Nat.sub_self]; rfl
    · refine .inl ?_
      rw [List.getElem?_eq_none (by rw [List.length_append, List.length_singleton]; omega), List.getElem?_eq_none (by omega)]
theorem Tb.snoc (T : Tb os ors ths ix) {nm : Str} {l : List Str} (hn : nm ∉ ths.map (·.1)) (h1 : l.Nodup) (h2 : l.length ≤ 39) (h3 : ∀ x ∈ l, x ∈ ors.map (·.1)) :
    Tb (os ++ [some (os.length :: l.map ix)]) (ors ++ [(nm, nm :: l)]) (ths ++ [(nm, .inl os.length)]) (ixM ix nm os.length) := by
  have hno : nm ∉ ors.map (·.1) := fun z => hn (T.inT z)
  have hlt : ∀ n, n ∈ ors.map (·.1) → ix n < os.length := fun n h => (List.getElem?_eq_some_iff.mp (T.os1 h)).1
  have inM : ∀ n, n ∈ (ors ++ [(nm, nm :: l)]).map (·.1) ↔ n ∈ ors.map (·.1) ∨ n = nm := fun n => by rw [List.map_append, List.mem_append]; simp
  have ne : ∀ n, n ∈ ors.map (·.1) → n ≠ nm := fun n h z => hno (z ▸ h)
  have hnl : nm ∉ l := fun z => hno (h3 _ z)
  have hnum : (l.map ix).Nodup := (nodup_on fun a b ha hb => T.inj a b (h3 a ha) (h3 b hb)).mpr h1
  refine ⟨?_, ?_, ⟨fun i => ?_, fun i => ?_⟩, fun n r h => ?_, fun n m h h' e => ?_, fun n e h => ?_, fun n e h h' => ?_, ?_, ?_⟩
  · rw [List.map_append, List.nodup_append]
    exact ⟨T.nd, by simp, fun a ha b hb e => by rw [List.mem_singleton.mp hb] at e; exact ne a ha e⟩
  · rw [List.map_append, List.nodup_append]
    exact ⟨T.ndT, by simp, fun a ha b hb e => by rw [List.mem_singleton.mp hb] at e; exact hn (by rw [show a = nm from e] at ha; exact ha)⟩
  · rcases ordOf_more (os := os) (o := some (os.length :: l.map ix)) i with e | ⟨_, e⟩
    · rw [e]; exact T.osok.nd i
    · rw [e]
      show (os.length :: l.map ix).Nodup
      rw [List.nodup_cons]
      refine ⟨fun z => ?_, hnum⟩
      obtain ⟨y, hy, ey⟩ := List.mem_map.mp z
      have := hlt y (h3 y hy)
      omega
  · rcases ordOf_more (os := os) (o := some (os.length :: l.map ix)) i with e | ⟨_, e⟩
    · rw [e]; exact T.osok.len i
    · rw [e]
      show (os.length :: l.map ix).length ≤ 40
      rw [List.length_cons, List.length_map]; omega
  · rcases List.mem_append.mp h with h | h
    · obtain ⟨a, b, c⟩ := T.cls n r h
      have hin : n ∈ ors.map (·.1) := List.mem_map.mpr ⟨_, h, rfl⟩
      rw [ixM_old (ne n hin), ixM_map (fun z => hno (c _ z))]
      refine ⟨List.mem_append_left _ a, ?_, fun m hm => (inM m).mpr (.inl (c m hm))⟩
      rw [List.getElem?_append_left (hlt n hin)]; exact b
    · obtain ⟨rfl, rfl⟩ := Prod.mk.inj (List.mem_singleton.mp h)
      rw [List.map_cons, ixM_new, ixM_map hnl]
      refine ⟨List.mem_append_right _ (List.mem_singleton.mpr rfl), ?_, fun m hm => (inM m).mpr ?_⟩
      · rw [List.getElem?_append_right (Nat.le_refl _), Nat.sub_self]; rfl
      · rcases List.mem_cons.mp hm with z | z
        · exact .inr z
        · exact .inl (h3 m z)
  · rcases (inM n).mp h with h | h <;> rcases (inM m).mp h' with h' | h'
    · rw [ixM_old (ne n h), ixM_old (ne m h')] at e
      exact T.inj n m h h' e
    · rw [ixM_old (ne n h), h', ixM_new] at e
      have := hlt n h
      omega
    · rw [ixM_old (ne m h'), h, ixM_new] at e
      have := hlt m h'
      omega
    · rw [h, h']
  · rcases List.mem_append.mp h with h | h
    · exact (T.old n e h).more
    · obtain ⟨rfl, rfl⟩ := Prod.mk.inj (List.mem_singleton.mp h)
      show os.length < (os ++ [_]).length
      rw [List.length_append, List.length_singleton]; omega
  · rcases List.mem_append.mp h with h | h
    · rw [isC_more (T.old n e h)]
      exact T.odd n e h fun z => h' ((inM n).mpr (.inl z))
    · obtain ⟨rfl, rfl⟩ := Prod.mk.inj (List.mem_singleton.mp h)
      exact absurd ((inM n).mpr (.inr rfl)) h'
  · exact (inM _).mpr (.inl T.thing.1)
  · rw [ixM_old (ne _ T.thing.1)]; exact T.thing.2
theorem dOf_new {e : Nat ⊕ D} (h : EldOk os e) : dOf e ≠ thD os.length := by
  cases e with
  | inl i =>
    have h' : i < os.length := h
    exact fun z => by have := thD_inj z; omega
  | inr d =>
    obtain ⟨_, k, r, rfl, hk⟩ := h
    intro z
    injection z with z
    injection z with z _
    injection z with z
    exact hk z
end
end GS
set_option Elab.async false
set_option linter.all false
set_option maxRecDepth 100000
set_option maxHeartbeats 4000000
namespace GS
open PySem PyProof.Rows
open L2 hiding pe_int pe_bl pe_non pe_str pv pe_glob pe_bltn pe_op pe_cmpR pe_one pe_and pe_ifExp pe_ix po_none po_some pe_slice pa_nil pa_cons pe_lst pe_tup pe_dnewK pe_callB pe_callTy pe_bm pt_cmpR pt_val pt_not pw_and1 pw_or1 pw_and pw_or pg_name pgs_nil pgs_cons pg_tup pi_list pi_tup pi_range1 ps_ret ps_expr ps_set ps_asg ps_if ps_while ps_for pss_nil pss_cons pss_one
open L3
abbrev sMd : Stmt := top9 31
/-! ### the law's table of things -/
def ThAt (K : PySem.W.Frag) (H : Hp) (ths : List (Str × (Nat ⊕ D))) (kvs : List (Key × V)) : Prop := kvs.length = ths.length ∧ ∀ (i : Nat) (n : Str) (e : Nat ⊕ D), ths[i]? = some (n, e) → ∃ v : V, kvs[i]? = some (.inr n, v) ∧ At K H (dOf e) v
section
variable {K : PySem.W.Frag} {H H' : Hp} {ths : List (Str × (Nat ⊕ D))} {kvs : List (Key × V)}
theorem ThAt.fx (f : Fx H H') (h : ThAt K H ths kvs) : ThAt K H' ths kvs :=
  ⟨h.1, fun i n e x => by obtain ⟨v, a, b⟩ := h.2 i n e x; exact ⟨v, a, At.fx f _ _ b⟩⟩
theorem ThAt.keys (h : ThAt K H ths kvs) : kvs.map (·.1) = ths.map fun x => (.inr x.1 : Key) := by
  refine List.ext_getElem? fun i => ?_
  rw [List.getElem?_map, List.getElem?_map]
  by_cases hi : i < ths.length
  · obtain ⟨v, a, _⟩ := h.2 i ths[i].1 ths[i].2 (by rw [List.getElem?_eq_getElem hi])
    rw [a, List.getElem?_eq_getElem hi]; rfl
  · rw [List.getElem?_eq_none (by rw [h.1]; omega), List.getElem?_eq_none (by omega)]; rfl
theorem keys_ndT {α : Type} {xs : List (Str × α)} (h : (xs.map (·.1)).Nodup) : (xs.map fun x => (.inr x.1 : Key)).Nodup := by
  have : (xs.map fun x => (.inr x.1 : Key)) = (xs.map (·.1)).map (fun x => (.inr x : Key)) := by rw [List.map_map]; rfl
  rw [this, nodup_map (fun x y z => by injection z)]
  exact h
theorem ThAt.get (h : ThAt K H ths kvs) (hn : (ths.map (·.1)).Nodup) {n : Str} {e : Nat ⊕ D} (m : (n, e) ∈ ths) : ∃ v, valV kvs (.inr n) = some v ∧ At K H (dOf e) v := by
  obtain ⟨i, hi, ei⟩ := List.getElem_of_mem m
  obtain ⟨v, a, b⟩ := h.2 i n e (by rw [List.getElem?_eq_getElem hi, ei])
  exact ⟨v, valV_at (by rw [h.keys]; exact keys_ndT hn) a, b⟩
theorem ThAt.out (h : ThAt K H ths kvs) {n : Str} (e : n ∉ ths.map (·.1)) : valV kvs (.inr n) = none := by
  refine valV_none ?_
  rw [h.keys]
  intro z
  obtain ⟨x, hx, ex⟩ := List.mem_map.mp z
  injection ex with ex
  exact e (List.mem_map.mpr ⟨x, hx, ex⟩)
theorem ThAt.snoc (h : ThAt K H ths kvs) {n : Str} {e : Nat ⊕ D} {v : V} (hv : At K H (dOf e) v) : ThAt K H (ths ++ [(n, e)]) (kvs ++ [(.inr n, v)]) := by
  refine ⟨by rw [List.length_append, List.length_append, h.1]; rfl, fun i m s x => ?_⟩
  by_cases hi : i < ths.length
  · rw [List.getElem?_append_left hi] at x
    obtain ⟨p, a, b⟩ := h.2 i m s x
    exact ⟨p, by rw [List.getElem?_append_left (by rw [h.1]; exact hi)]; exact a, b⟩
  · have hlt := (List.getElem?_eq_some_iff.mp x).1
    rw [List.length_append, List.length_singleton] at hlt
    have ei : i = ths.length := by omega
    subst ei
    rw [List.getElem?_append_right (Nat.le_refl _), Nat.sub_self] at x
    cases x
    refine ⟨v, ?_, hv⟩
    rw [← h.1, List.getElem?_append_right (Nat.le_refl _), Nat.sub_self]; rfl
end
theorem thE_mem {ths : List (Str × (Nat ⊕ D))} (hn : (ths.map (·.1)).Nodup) {n : Str} (h : n ∈ ths.map (·.1)) : (n, thE ths n) ∈ ths := by
  obtain ⟨e, he⟩ := name_th h
  rw [thE_eq hn he]; exact he
theorem Tb.dofs {os : List (Option (List Nat))} {ors : List (Str × List Str)} {ths : List (Str × (Nat ⊕ D))} {ix : Str → Nat} (T : Tb os ors ths ix) : ∀ {l : List Str}, (∀ x ∈ l, x ∈ ors.map (·.1)) → (l.map (thE ths)).map dOf = (l.map ix).map thD
  | [], _ => rfl
  | x :: xs, h => by
    rw [List.map_cons, List.map_cons, List.map_cons, List.map_cons, T.dofs fun y hy => h y (List.mem_cons_of_mem _ hy), T.thC (h x List.mem_cons_self)]; rfl
/-- the world and the law's two tables -/
structure St9 (K : PySem.W.Frag) (c : Cl9) (H : Hp) (W l g od td : Addr) (N : Addr → Prop) (os : List (Option (List Nat))) (ors : List (Str × List Str)) (ths : List (Str × (Nat ⊕ D))) (ix : Str → Nat) : Prop where
  w : WAt K c H W l g os
  gv : GivAt K H g gv0
  o : ∃ kvs, H od = some (.dK kvs) ∧ OrAt H ors kvs N
  t : ∃ kvs, H td = some (.dK kvs) ∧ ThAt K H ths kvs
  tb : Tb os ors ths ix
  n1 : od ≠ td
  n2 : g ≠ od
  n3 : g ≠ td
  nf : ∀ p, H p = none → N p
  nl : ¬ N l
def Fr3 (l od td : Addr) (H H' : Hp) : Prop := ∀ p o, p ≠ l → p ≠ od → p ≠ td → H p = some o → H' p = some o
theorem Same.fr3 {H H' : Hp} (s : Same H H') (l od td : Addr) : Fr3 l od td H H' := fun p o _ _ _ e => s p o e
theorem St9.same {K : PySem.W.Frag} {c : Cl9} {H H' : Hp} {W l g od td : Addr} {N : Addr → Prop} {os : List (Option (List Nat))} {ors : List (Str × List Str)} {ths : List (Str × (Nat ⊕ D))} {ix : Str → Nat} (s : Same H H') (S : St9 K c H W l g od td N os ors ths ix) : St9 K c H' W l g od td N os ors ths ix := by
  obtain ⟨k1, a1, b1⟩ := S.o
  obtain ⟨k2, a2, b2⟩ := S.t
  exact ⟨S.w.same s, S.gv.same s, ⟨k1, s _ _ a1, b1.mono fun q xs hq e => ⟨s _ _ e, hq⟩⟩, ⟨k2, s _ _ a2, b2.fx (Same.fx s)⟩, S.tb, S.n1, S.n2, S.n3, fun p e => S.nf p (s.free e), S.nl⟩
def rEqK (K : PySem.W.Frag) : R2 := fun x y H Q => ∃ d e, At K H d x ∧ At K H e y ∧ dep d ≤ 60 ∧ Q (.bl (eqD d e)) H
theorem op_eqK {X : Cx} {k : Nat} (hr : Room k X.A) : OpR X (compareOp .Eq) (rEqK X.K) := op_eqD hr
theorem dep_flt (x : Str) : dep (fltD x) = 1 := by
  unfold fltD
  rw [GS.dep, deps, deps, deps, dep_str, dep_str]; rfl
theorem slim_flt (x : Str) : slim (fltD x) = true := by
  unfold fltD
  rw [slim, slims, slims, slims, slim, slim]
  · rfl
  all_goals nofun
theorem deps_th : ∀ ns : List Nat, deps (ns.map thD) ≤ 1
  | [] => by rw [List.map_nil, deps]; exact Nat.zero_le _
  | n :: ns => by
    have h1 := deps_th ns
    have h2 : dep (thD n) = 1 := by
      unfold thD
      rw [GS.dep, deps, deps, deps, dep_str, dep_int]; rfl
    rw [List.map_cons, deps, h2]; omega
theorem slims_th : ∀ ns : List Nat, slims (ns.map thD) = true
  | [] => by rw [List.map_nil, slims]
  | n :: ns => by
    have h2 : slim (thD n) = true := by
      unfold thD
      rw [slim, slims, slims, slims, slim, slim]
      · rfl
      all_goals nofun
    rw [List.map_cons, slims, h2, slims_th ns]; rfl
theorem dep_res (ix : Str → Nat) (l : List Str) : dep (resD ix (.inr l)) ≤ 3 := by
  have h := deps_th (l.map ix)
  show dep (.tup [.str "value", .tup ((l.map ix).map thD)]) ≤ 3
  rw [GS.dep, deps, deps, deps, dep_str, GS.dep]; omega
theorem slim_res (ix : Str → Nat) {l : List Str} (h : l.length ≤ 100) : slim (resD ix (.inr l)) = true := by
  show slim (.tup [.str "value", .tup ((l.map ix).map thD)]) = true
  rw [slim, slims, slims, slims, slim, slim, slims_th, List.length_map, List.length_map, decide_eq_true h]
  · rfl
  all_goals nofun
theorem gv0_thing : (("Thing" : Str), 8) ∈ gv0 := by decide +kernel
section
variable {P : Program} {w : World} {K : PySem.W.Frag} {mg : Str → Option Value} {base : Heap} {f : Addr} {fd : FuncData} {c : Cl9}
def spMd (K : PySem.W.Frag) (c : Cl9) : Sp := fun vs H Q _ => ∃ (W l g od td el : Addr) (nm : Str) (N : Addr → Prop) (os : List (Option (List Nat))) (ors : List (Str × List Str)) (ths : List (Str × (Nat ⊕ D))) (ix : Str → Nat) (els : List Str), vs = [.ref W, .ref od, .ref td, .ref el, .str nm] ∧
  St9 K c H W l g od td N os ors ths ix ∧ os.length ≤ 900 ∧ ors.length ≤ 900 ∧ ths.length ≤ 900 ∧ SqL K H el (els.map V.str) ∧ els.length ≤ 100 ∧ (∀ x ∈ els, x ∈ ths.map (·.1)) ∧ nm ∉ ths.map (·.1) ∧
  ∀ H' os' ors' ths' ix', Fr3 l od td H H' → St9 K c H' W l g od td N os' ors' ths' ix' → os'.length ≤ os.length + 1 → ors'.length ≤ ors.length + 1 → ths'.length ≤ ths.length + 1 → (∀ x ∈ ths'.map (·.1), x ∈ ths.map (·.1) ∨ x = nm) → (∀ x ∈ ths.map (·.1), x ∈ ths'.map (·.1)) → Q (.bl true) H'
/-- the things of a list of names -/
def tThs (K : PySem.W.Frag) (i : Nat) : TE := fun σ H Q => ∃ (td p : Addr) (kvs : List (Key × V)) (ths : List (Str × (Nat ⊕ D))) (ns : List Str), σ[2]? = some (some (.ref td)) ∧ σ[i]? = some (some (.ref p)) ∧ H td = some (.dK kvs) ∧ ThAt K H ths kvs ∧ (ths.map (·.1)).Nodup ∧ SqL K H p (ns.map V.str) ∧ ns.length ≤ 1000 ∧ (∀ x ∈ ns, x ∈ ths.map (·.1)) ∧
  ∀ q vs H', Same H H' → SqL K H' q vs → AtAll K H' ((ns.map (thE ths)).map dOf) vs → Q (.ref q) H'
theorem scMd : FnScope ["_law_world", "_law_orders", "_law_things", "_law_elders_here", "_law_name", "_law_due", "_law_handed", "_law_found"] ["_law_world", "_law_orders", "_law_things", "_law_elders_here", "_law_name"] (defScope sMd) := ⟨rfl, rfl, rfl, by decide +kernel, rfl, by decide +kernel, by decide +kernel⟩
theorem ok_Md (g : Glb9 mg) (F : Fun K "_law_made" "_law_made" sMd f fd) (dLO : Def P w K mg base "_law_order" ["_law_orders", "_law_elders_here"] 2 (spLO K)) (dO : Def P w K mg base "order_of" ["world", "elders"] 5 (spOrd K c)) (dS : Def P w K mg base "_law_same" ["_law_found", "_law_due"] 5 (spSm K 5)) (dC : Def P w K mg base "class_of" ["world", "name", "order", "fields"] 4 (spCO K c)) : FnOk P w K mg base CX0 6 f fd ["_law_world", "_law_orders", "_law_things", "_law_elders_here", "_law_name"] (spMd K c) := by
  refine F.okI scMd (fun vs H Q E h => ?_) (fun cdv A outer s H vs Q E hr h => ?_)
  · obtain ⟨_, _, _, _, _, _, _, _, _, _, _, _, _, rfl, _⟩ := h; rfl
  obtain ⟨W, l, gd, od, td, el, nm, N, os, ors, ths, ix, els, rfl, S, hos, hors, hths, hel, hle, hin, hnm, q⟩ := h
  refine ⟨_, pss_cons (ps_set (i := 5) scMd.nd rfl (Or.inl rfl) (L3.pe_def dLO hr (by decide) rfl (pa_cons (pv 1) (pa_cons (pv 3) pa_nil))))
    (pss_cons (ps_set (i := 6) scMd.nd rfl (Or.inl rfl) (pe_callTy call_tupleF rfl g.nTuple b9Tuple (pa_cons (le_imp (t' := tThs K 3) (.mk (L2.pe_compG (cl := [("_law_things", s.heap.objs.size + 1)]) (Xs := ["_law_one"]) (Nf := ["_law_things"]) (js := [2]) ?k1 rfl (LI.out (pi_list (pv 3))) (fun C s0 H0 fp => LG.out (pg_name (i := 0) (show (["_law_one", "_law_things"] : List Str).Nodup by decide +kernel) rfl (Or.inl rfl))) (fun C s0 H0 fp => pts_nil) (fun C s0 H0 fp => LE.out (L3.pe_dget (hu_of hr) (pv 1) (pv 0))))) ?th1) pa_nil)))
    (pss_cons (ps_set (i := 7) scMd.nd rfl (Or.inl rfl) (L3.pe_def dO hr (by decide) rfl (pa_cons (pv 0) (pa_cons (pv 6) pa_nil))))
    (pss_cons (ps_if (pt_val (pe_callB call_isT rfl g.nIsi b9Isi (pa_cons (pv 5) (pa_cons (pe_bltn (v := .ty "str") rfl g.nStr b9Str rfl) pa_nil)))) (pss_one (ps_ret (L3.pe_def dS hr (by decide) rfl (pa_cons (pv 7) (pa_cons (pe_tup (pa_cons pe_str (pa_cons (pv 5) pa_nil))) pa_nil))))) pss_nil)
    (pss_cons (ps_if (LW.pt (pw_or (pt_not (pt_val (L3.pe_def dS hr (by decide) rfl (pa_cons (pv 7) (pa_cons (pe_tup (pa_cons pe_str (pa_cons (pe_callTy call_tuple_of rfl g.nTuple b9Tuple (pa_cons (le_imp (t' := tThs K 5) (.mk (L2.pe_compG (cl := [("_law_things", s.heap.objs.size + 1)]) (Xs := ["_law_one"]) (Nf := ["_law_things"]) (js := [2]) ?k2 rfl (LI.out (pi_list (pv 5))) (fun C s0 H0 fp => LG.out (pg_name (i := 0) (show (["_law_one", "_law_things"] : List Str).Nodup by decide +kernel) rfl (Or.inl rfl))) (fun C s0 H0 fp => pts_nil) (fun C s0 H0 fp => LE.out (L3.pe_dget (hu_of hr) (pv 1) (pv 0))))) ?th2) pa_nil)) pa_nil))) pa_nil))))) (pw_or1 (pt_cmpR (op_neD hr) (L3.pe_def dO hr (by decide) rfl (pa_cons (pv 0) (pa_cons (pv 6) pa_nil))) (pv 7) (nomark _))))) (pss_one (ps_ret pe_bl)) pss_nil)
    (pss_cons (.mk (L2.ps_dput (hu_of hr) (LE.out (pv 1)) (LE.out (pv 4)) (LE.out (pe_op op_cat (pe_lst (pa_cons (pv 4) pa_nil)) (pv 5))) rfl))
    (pss_cons (.mk (L2.ps_dput (hu_of hr) (LE.out (pv 2)) (LE.out (pv 4)) (LE.out (L3.pe_def dC hr (by decide) rfl (pa_cons (pv 0) (pa_cons pe_str (pa_cons (pe_nth (pv 7)) (pa_cons (L3.pe_disp (L3.pps_cons pe_str (pe_tup (pa_cons pe_str (pa_cons pe_int pa_nil))) L3.pps_nil)) pa_nil)))))) rfl))
    (pss_one (ps_ret (pe_cmpR (op_eqNil hr) (L3.pe_thaw (.mk (L2.pe_compG (cl := [("_law_things", s.heap.objs.size + 1), ("_law_name", s.heap.objs.size + 2)]) (Xs := ["_law_one"]) (Nf := ["_law_things", "_law_name"]) (js := [2, 4]) ?k3 rfl (LI.out (L3.pi_dict (pv 2))) (fun C s0 H0 fp => LG.out (pg_name (i := 0) (show (["_law_one", "_law_things", "_law_name"] : List Str).Nodup by decide +kernel) rfl (Or.inl rfl))) (fun C s0 H0 fp => pts_one (LT.out (LW.pt (pw_and (pt_cmpR op_ne (pv 0) (pv 2) (nomark _)) (pw_and1 (pt_cmpR (r := rEqK K) (op_eqK hr) (L3.pe_dget (hu_of hr) (pv 1) (pv 0)) (L3.pe_dget (hu_of hr) (pv 1) (pv 2)) (nomark _))))))) (fun C s0 H0 fp => LE.out (pv 0))))) (pe_lst pa_nil) (nomark _)))))))))), ?main⟩
  case k1 | k2 =>
    refine ⟨rfl, by decide +kernel, rfl, by decide +kernel, fun y c h => ?_, fun y hy => ?_, rfl, fun j y h => ?_⟩
    · obtain ⟨rfl, rfl⟩ := look1 h; rfl
    · have hy' : ([(".0", .local), ("_law_one", .local), ("_law_things", .cell)] : List (Str × NameKind)).lookup y = some .cell ∨ ([(".0", .local), ("_law_one", .local), ("_law_things", .cell)] : List (Str × NameKind)).lookup y = some .free := hy
      rcases hy' with z | z
      · have m := PySem.mem_of_lookup z
        simp at m
        subst m
        exact ⟨_, rfl⟩
      · have m := PySem.mem_of_lookup z
        simp at m
    · match j, h with
      | 0, h => cases h; exact ⟨2, rfl, rfl, rfl, .inl rfl⟩
      | j + 1, h => simp at h
  case k3 =>
    refine ⟨rfl, by decide +kernel, rfl, by decide +kernel, fun y c h => ?_, fun y hy => ?_, rfl, fun j y h => ?_⟩
    · rcases lookup2 h with ⟨rfl, rfl⟩ | ⟨rfl, rfl⟩ <;> rfl
    · have hy' : ([(".0", .local), ("_law_one", .local), ("_law_name", .cell), ("_law_things", .cell)] : List (Str × NameKind)).lookup y = some .cell ∨ ([(".0", .local), ("_law_one", .local), ("_law_name", .cell), ("_law_things", .cell)] : List (Str × NameKind)).lookup y = some .free := hy
      rcases hy' with z | z
      · have m := PySem.mem_of_lookup z
        simp at m
        rcases m with rfl | rfl
        · exact ⟨_, rfl⟩
        · exact ⟨_, rfl⟩
      · have m := PySem.mem_of_lookup z
        simp at m
    · match j, h with
      | 0, h => cases h; exact ⟨2, rfl, rfl, rfl, .inl rfl⟩
      | 1, h => cases h; exact ⟨4, rfl, rfl, rfl, .inl rfl⟩
      | j + 2, h => simp at h
  case th1 | th2 =>
    rintro σ H Q ⟨td, p, kvs, ths, ns, e2, e3, hd, hT, hnd, hp, hl, hin, q⟩
    have gw : ∀ i, i < ns.length → (ns.map V.str).getD i .non = .str (ns.getD i "") := fun i hi => by
      rw [List.getD_eq_getElem?_getD, List.getD_eq_getElem?_getD, List.getElem?_map, List.getElem?_eq_getElem hi]; rfl
    refine ⟨_, e3, p, rfl, ⟨_, hp⟩, [.ref td], ⟨rfl, fun j i h => ?_⟩, compG_one (vs := [.ref td]) (tc := tTrue) (ns.map V.str).length (fun i => (ns.map V.str).getD i .non) (fun _ => true) (fun i v H' => At K H' (dOf (thE ths (ns.getD i ""))) v) (fun _ _ _ _ s z => At.same s _ _ z) (by rw [List.length_map]; omega) (itl_stop hp) (itl_go hp) (itl_yld hp) (fun i H4 Q' hi s4 k => k H4 (Same.refl _)) (fun i H4 D l' Q' hi _ s4 hD hl4 k => ?_) fun rl H4 ys hrl s4 r4 hP => ?_⟩
    · match j, h with
      | 0, h => cases h; exact ⟨_, rfl, e2⟩
      | j + 1, h => simp at h
    · rw [List.length_map] at hi
      rw [gw i hi]
      have hgi : ns.getD i "" ∈ ns := by
        rw [List.getD_eq_getElem?_getD, List.getElem?_eq_getElem hi]; exact List.getElem_mem hi
      obtain ⟨v, a, b⟩ := hT.get hnd (thE_mem hnd (hin _ hgi))
      refine ⟨_, rfl, _, rfl, td, v, rfl, ?_, k _ _ (Same.refl _) (At.wo hl4 _ _ (At.same s4 _ _ b))⟩
      rw [← a]
      exact DGet.k (k := .inr (ns.getD i "")) (s4 _ _ hd)
    · rw [List.filter_eq_self.mpr (fun _ _ => rfl), List.length_map] at hP
      refine q rl ys H4 s4 (SqL.of r4) ?_
      have hA := AtAll.same (wo_same H4 rl) _ _ hP.at
      have e : (List.range ns.length).map (fun i => dOf (thE ths (ns.getD i ""))) = (ns.map (thE ths)).map dOf := by
        rw [List.map_map]
        have := range_filter ns "" (fun _ => true) (fun n => dOf (thE ths n))
        rw [List.filter_eq_self.mpr (fun _ _ => rfl), List.filter_eq_self.mpr (fun _ _ => rfl)] at this
        exact this
      rw [← e]; exact hA
  case main =>
    obtain ⟨okv, hod, hO⟩ := S.o
    obtain ⟨tkv, htd, hT⟩ := S.t
    have T := S.tb
    have h8 := T.os1 T.thing.1
    rw [T.thing.2] at h8
    have lt8 : 8 < os.length := (List.getElem?_eq_some_iff.mp h8).1
    have is8 : isC os (.inl 8) = true := by
      show (os.getD 8 none).isSome = true
      rw [List.getD_eq_getElem?_getD, h8]; rfl
    have eld : ∀ e ∈ els.map (thE ths), EldOk os e := fun e he => by
      obtain ⟨n, hn, rfl⟩ := List.mem_map.mp he
      exact T.old n _ (thE_mem T.ndT (hin n hn))
    have eR := T.ord hin
    refine ⟨_, rfl, _, rfl, od, el, okv, ors, N, els, rfl, hod, hO, T.nd, T.lens, hel, hle, fun H1 x s1 hR => ?_, fun dl H1 lr s1 hR hdl hd1 => ?_⟩
    · refine ⟨td, el, tkv, ths, els, rfl, rfl, s1 _ _ htd, hT.fx (Same.fx s1), T.ndT, s1.seq hel, by omega, hin, fun p vs H2 s2 hp2 hA2 => ⟨p, vs, rfl, hp2, fun tp o htp ho => ?_⟩⟩
      have s3 : Same H2 (upd H2 tp (.frz o (.tup vs))) := same_new htp _
      have a3 : At K (upd H2 tp (.frz o (.tup vs))) (.tup ((els.map (thE ths)).map dOf)) (.ref tp) := At.newF htp hA2
      have p3 : PlT (upd H2 tp (.frz o (.tup vs))) (.ref tp) := ⟨tp, o, vs, rfl, upd_same, ho⟩
      revert s3 a3 p3
      generalize upd H2 tp (.frz o (.tup vs)) = H3
      intro s3 a3 p3
      have s13 := s1.trans (s2.trans s3)
      have S3 := S.same s13
      refine ⟨_, rfl, _, rfl, W, l, gd, os, gv0, 8, .ref tp, els.map (thE ths), rfl, S3.w, S3.gv, gv0_thing, lt8, is8, T.osok, a3, p3, by rw [List.length_map]; exact hle, eld, fun r H4 s4 a4 => ?_⟩
      rw [eR, hR] at a4
      have s14 := s13.trans s4
      refine ⟨_, rfl, .str x, "str", "str", true, rfl, .inl ⟨.str x, At_str.mpr rfl, rfl⟩, rfl, true, rfl, iteT ?_⟩
      refine ⟨_, rfl, _, rfl, by show 2 ≤ sizeLine; decide, fun dp hdp => ⟨r, .ref dp, rfl, .inl ⟨fltD x, At.same (same_new hdp _) _ _ a4, At.new hdp (AtAll2 (At_str.mpr rfl) (At_str.mpr rfl)), by rw [dep_flt]; decide, by rw [dep_flt]; decide, slim_flt x⟩, fun H5 s5 => ?_⟩⟩
      · have s15 := s14.trans ((same_new hdp _).trans s5)
        exact q H5 os ors ths ix (Same.fr3 s15 l od td) (S.same s15) (Nat.le_succ _) (Nat.le_succ _) (Nat.le_succ _) (fun y hy => .inl hy) (fun y hy => hy)
    · obtain ⟨l1, l2, l3⟩ := lawR_in T hR
      refine ⟨td, el, tkv, ths, els, rfl, rfl, s1 _ _ htd, hT.fx (Same.fx s1), T.ndT, s1.seq hel, by omega, hin, fun p vs H2 s2 hp2 hA2 => ⟨p, vs, rfl, hp2, fun tp o htp ho => ?_⟩⟩
      have s3 : Same H2 (upd H2 tp (.frz o (.tup vs))) := same_new htp _
      have a3 : At K (upd H2 tp (.frz o (.tup vs))) (.tup ((els.map (thE ths)).map dOf)) (.ref tp) := At.newF htp hA2
      have p3 : PlT (upd H2 tp (.frz o (.tup vs))) (.ref tp) := ⟨tp, o, vs, rfl, upd_same, ho⟩
      revert s3 a3 p3
      generalize upd H2 tp (.frz o (.tup vs)) = H3
      intro s3 a3 p3
      have s23 := s2.trans s3
      have s13 := s1.trans s23
      have S3 := S.same s13
      have d3 := s23 _ _ hd1
      refine ⟨_, rfl, _, rfl, W, l, gd, os, gv0, 8, .ref tp, els.map (thE ths), rfl, S3.w, S3.gv, gv0_thing, lt8, is8, T.osok, a3, p3, by rw [List.length_map]; exact hle, eld, fun r H4 s4 a4 => ?_⟩
      rw [eR, hR] at a4
      have s14 := s13.trans s4
      have d4 := s4 _ _ d3
      have eT : (lr.map (thE ths)).map dOf = (lr.map ix).map thD := T.dofs l3
      refine ⟨_, rfl, .ref dl, "str", "list", false, rfl, .inr ⟨dl, _, rfl, SqL.of d4, rfl⟩, rfl, false, rfl, iteF ?_⟩
      refine ⟨_, rfl, td, dl, tkv, ths, lr, rfl, rfl, s14 _ _ htd, hT.fx (Same.fx s14), T.ndT, SqL.of d4, by omega, fun y hy => T.inT (l3 y hy), fun p5 vs5 H5 s5 hp5 hA5 => ⟨p5, vs5, rfl, .inl ⟨hp5, fun t5 ht5 => ⟨by show 2 ≤ sizeLine; decide, fun dp hdp => ?_⟩⟩⟩⟩
      rw [eT] at hA5
      have s6 : Same H5 (upd (upd H5 t5 (.tup vs5)) dp (.tup [.str "value", .ref t5])) := (same_new ht5 _).trans (same_new hdp _)
      have a6 : At K (upd (upd H5 t5 (.tup vs5)) dp (.tup [.str "value", .ref t5])) (resD ix (.inr lr)) (.ref dp) := At.new hdp (AtAll2 (At_str.mpr rfl) (At.new ht5 hA5))
      revert s6 a6
      generalize upd (upd H5 t5 (.tup vs5)) dp (.tup [.str "value", .ref t5]) = H6
      intro s6 a6
      have s46 := s5.trans s6
      have hdp : dep (resD ix (.inr lr)) ≤ 3 := dep_res ix lr
      refine ⟨r, .ref dp, rfl, .inl ⟨resD ix (.inr lr), At.same s46 _ _ a4, a6, by omega, by omega, slim_res ix (by omega)⟩, fun H7 s7 => ⟨true, rfl, iteF ?_⟩⟩
      have s47 := s46.trans s7
      have s17 := s14.trans s47
      have S7 := S.same s17
      refine ⟨_, rfl, _, rfl, W, l, gd, os, gv0, 8, .ref tp, els.map (thE ths), rfl, S7.w, S7.gv, gv0_thing, lt8, is8, T.osok, At.same (s4.trans s47) _ _ a3, p3.same (s4.trans s47), by rw [List.length_map]; exact hle, eld, fun r2 H8 s8 a8 => ?_⟩
      rw [eR, hR] at a8
      have s48 := s47.trans s8
      have s18 := s14.trans s48
      have a4' := At.same s48 _ _ a4
      refine ⟨_, rfl, _, _, a8, a4', by omega, false, congrArg V.bl (by rw [eqD_refl]; rfl), iteF ?_⟩
      have d8 := s48 _ _ d4
      refine ⟨_, rfl, by show 1 ≤ sizeLine; decide, fun nl hnl => ⟨_, rfl, nl, dl, _, _, rfl, rfl, upd_same, by rw [upd_ne (fun z => by rw [← z, d8] at hnl; cases hnl)]; exact d8, small (by rw [List.length_map, List.length_singleton]; omega), fun cl hcl => ?_⟩⟩
      have s9 : Same H8 (upd (upd H8 nl (.lst [.str nm])) cl (.lst ([.str nm] ++ lr.map V.str))) := (same_new hnl _).trans (same_new hcl _)
      have c9 : upd (upd H8 nl (.lst [.str nm])) cl (.lst ([.str nm] ++ lr.map V.str)) cl = some (.lst ((nm :: lr).map V.str)) := upd_same
      have hcl8 : H8 cl = none := (same_new hnl _).free hcl
      revert s9 c9
      generalize upd (upd H8 nl (.lst [.str nm])) cl (.lst ([.str nm] ++ lr.map V.str)) = H9
      intro s9 c9
      have s19 := s18.trans s9
      have S9 := S.same s19
      have hno : nm ∉ ors.map (·.1) := fun z => hnm (T.inT z)
      have hod9 := s19 _ _ hod
      have ncod : cl ≠ od := fun z => by rw [z, s18 _ _ hod] at hcl8; cases hcl8
      have nctd : cl ≠ td := fun z => by rw [z, s18 _ _ htd] at hcl8; cases hcl8
      obtain ⟨lvs, hl8, _⟩ := (S.same s18).w.t
      have ncl : cl ≠ l := fun z => by rw [z, hl8] at hcl8; cases hcl8
      refine ⟨_, rfl, _, rfl, od, _, rfl, DPut.k (k := .inr nm) hod9 (small1000 (by rw [hO.1]; omega)), ?_⟩
      rw [putK_new _ (hO.out hno)]
      have f10 : Fr3 l od td H9 (upd H9 od (.dK (okv ++ [(.inr nm, .ref cl)]))) := fun p o _ n2 _ e => by rw [upd_ne n2]; exact e
      have w10 : WAt K c (upd H9 od (.dK (okv ++ [(.inr nm, .ref cl)]))) W l gd os := S9.w.put hod9
      have o10 : upd H9 od (.dK (okv ++ [(.inr nm, .ref cl)])) od = some (.dK (okv ++ [(.inr nm, .ref cl)])) := upd_same
      have t10 : upd H9 od (.dK (okv ++ [(.inr nm, .ref cl)])) td = some (.dK tkv) := by rw [upd_ne (Ne.symm S.n1)]; exact s19 _ _ htd
      have c10 : upd H9 od (.dK (okv ++ [(.inr nm, .ref cl)])) cl = some (.lst ((nm :: lr).map V.str)) := by rw [upd_ne ncod]; exact c9
      have a10 : At K (upd H9 od (.dK (okv ++ [(.inr nm, .ref cl)]))) (resD ix (.inr lr)) r := At.fx (fun p o e z => by rw [upd_ne (fun y => by rw [y, hod9] at e; cases e; cases z)]; exact e) _ _ (At.same s9 _ _ a4')
      revert f10 w10 o10 t10 c10 a10
      generalize upd H9 od (.dK (okv ++ [(.inr nm, .ref cl)])) = H10
      intro f10 w10 o10 t10 c10 a10
      refine ⟨_, rfl, _, rfl, 1, [.str "value", .tup ((lr.map ix).map thD)], _, rfl, a10, rfl, fun v hv dd hdd => ⟨by show 2 ≤ sizeLine; decide, fun np hnp => ?_⟩⟩
      have ndp : np ≠ dd := fun z => by rw [z, upd_same] at hnp; cases hnp
      refine ⟨by rw [upd_ne (Ne.symm ndp)]; exact upd_same, [(.inr "f", .ref np)], rfl, by show 1 ≤ 15; decide, ?_⟩
      generalize hkv : mergeK [] [((.inr "f" : Key), V.ref np)] = fkv
      have s11 : Same H10 (upd (upd (upd H10 dd (.dK [])) np (.tup [.str "number", .int 1])) dd (.dK fkv)) := same_upd ((same_new hdd _).trans (same_new hnp _)) hdd _
      have e11 : upd (upd (upd H10 dd (.dK [])) np (.tup [.str "number", .int 1])) dd (.dK fkv) dd = some (.dK fkv) := upd_same
      revert s11 e11
      generalize upd (upd (upd H10 dd (.dK [])) np (.tup [.str "number", .int 1])) dd (.dK fkv) = H11
      intro s11 e11
      refine ⟨W, l, gd, os, .str "c", v, dd, fkv, lr.map ix, rfl, w10.same s11, by omega, RowAt.tup (At.same s11 _ _ hv), by rw [List.length_map]; omega, e11, fun r' H12 b12 w12 a12 => ?_⟩
      obtain ⟨hlv, hl0, _⟩ := S.w.t
      have ntl : td ≠ l := fun z => by rw [z, hl0] at htd; cases htd
      have nol : od ≠ l := fun z => by rw [z, hl0] at hod; cases hod
      have t12 : H12 td = some (.dK tkv) := b12 _ _ ntl (s11 _ _ t10)
      have o12 := b12 _ _ nol (s11 _ _ o10)
      have c12 := b12 _ _ ncl (s11 _ _ c10)
      have f12 : Fr3 l od td H H12 := fun p o n1 n2 n3 e => b12 p o n1 (s11 _ _ (f10 p o n1 n2 n3 (s19 _ _ e)))
      refine ⟨_, rfl, _, rfl, td, _, rfl, DPut.k (k := .inr nm) t12 (small1000 (by rw [hT.1]; omega)), ?_⟩
      rw [putK_new _ (hT.out hnm)]
      have f13 : Fr3 l od td H (upd H12 td (.dK (tkv ++ [(.inr nm, r')]))) := fun p o n1 n2 n3 e => by rw [upd_ne n3]; exact f12 p o n1 n2 n3 e
      have w13 : WAt K c (upd H12 td (.dK (tkv ++ [(.inr nm, r')]))) W l gd _ := w12.put t12
      have o13 : upd H12 td (.dK (tkv ++ [(.inr nm, r')])) od = some (.dK (okv ++ [(.inr nm, .ref cl)])) := by rw [upd_ne S.n1]; exact o12
      have t13 : upd H12 td (.dK (tkv ++ [(.inr nm, r')])) td = some (.dK (tkv ++ [(.inr nm, r')])) := upd_same
      have c13 : upd H12 td (.dK (tkv ++ [(.inr nm, r')])) cl = some (.lst ((nm :: lr).map V.str)) := by rw [upd_ne nctd]; exact c12
      have a13 : At K (upd H12 td (.dK (tkv ++ [(.inr nm, r')]))) (dOf (.inl os.length)) r' := At.fx (fun p o e z => by rw [upd_ne (fun y => by rw [y, t12] at e; cases e; cases z)]; exact e) _ _ a12
      revert f13 w13 o13 t13 c13 a13
      generalize upd H12 td (.dK (tkv ++ [(.inr nm, r')])) = H13
      intro f13 w13 o13 t13 c13 a13
      have x13 : Fx H H13 := fun p o e z => f13 p o (fun y => by rw [y, hl0] at e; cases e; cases z) (fun y => by rw [y, hod] at e; cases e; cases z) (fun y => by rw [y, htd] at e; cases e; cases z) e
      have T13 := T.snoc hnm l1 l2 l3
      have hT13 : ThAt K H13 (ths ++ [(nm, .inl os.length)]) (tkv ++ [(.inr nm, r')]) := (hT.fx x13).snoc a13
      obtain ⟨gkv, hg1, hg2, hg3⟩ := S.gv
      have ngl : gd ≠ l := fun z => by rw [z, hl0] at hg1; cases hg1
      obtain ⟨hlv', hl13, _⟩ := w13.t
      have S13 : St9 K c H13 W l gd od td N (os ++ [some (os.length :: lr.map ix)]) (ors ++ [(nm, nm :: lr)]) (ths ++ [(nm, .inl os.length)]) (ixM ix nm os.length) := by
        refine ⟨w13, ⟨gkv, f13 _ _ ngl S.n2 S.n3 hg1, hg2, fun n i e => ?_⟩, ⟨_, o13, OrAt.snoc (hO.mono fun q xs hq e => ⟨f13 q _ (fun z => S.nl (z ▸ hq)) (fun z => by rw [z, hod] at e; cases e) (fun z => by rw [z, htd] at e; cases e) e, hq⟩) c13 (S.nf cl (s18.free hcl8))⟩, ⟨_, t13, hT13⟩, T13, S.n1, S.n2, S.n3, fun p e => S.nf p ?_, S.nl⟩
        · obtain ⟨u, a, b⟩ := hg3 n i e
          exact ⟨u, a, At.fx x13 _ _ b⟩
        · cases hp : H p with
          | none => rfl
          | some o =>
            have h1 : p ≠ l := fun z => by rw [z, hl13] at e; cases e
            have h2 : p ≠ od := fun z => by rw [z, o13] at e; cases e
            have h3 : p ≠ td := fun z => by rw [z, t13] at e; cases e
            rw [f13 p o h1 h2 h3 hp] at e; cases e
      have fin : ∀ H', Same H13 H' → Q (.bl true) H' := fun H' s' => by
        refine q H' _ _ _ _ (fun p o n1 n2 n3 e => s' _ _ (f13 p o n1 n2 n3 e)) (S13.same s') (by rw [List.length_append]; exact Nat.le_refl _) (by rw [List.length_append]; exact Nat.le_refl _) (by rw [List.length_append]; exact Nat.le_refl _) (fun y hy => ?_) (fun y hy => ?_)
        · rw [List.map_append] at hy
          rcases List.mem_append.mp hy with hy | hy
          · exact .inl hy
          · exact .inr (List.mem_singleton.mp hy)
        · rw [List.map_append]; exact List.mem_append_left _ hy
      generalize hkk : tkv ++ [((.inr nm : Key), r')] = kvs at t13 hT13
      generalize htt : ths ++ [(nm, (Sum.inl os.length : Nat ⊕ D))] = ths' at hT13 T13
      have hk1 : kvs.length = ths'.length := hT13.1
      have hkl : kvs.length ≤ 1000 := by rw [← hkk, List.length_append, List.length_singleton, hT.1]; omega
      refine ⟨td, ⟨_, t13⟩, _, rfl, td, kvs, rfl, t13, fun o => ⟨[.ref td, .str nm], ⟨rfl, fun j i h => ?_⟩, ?_⟩⟩
      · match j, h with
        | 0, h => cases h; exact ⟨_, rfl, rfl⟩
        | 1, h => cases h; exact ⟨_, rfl, rfl⟩
        | j + 2, h => simp at h
      have sfz : ∀ p u, p ≠ td → H13 p = some u → upd H13 td (.frz o (.dK kvs)) p = some u := fun p u n e => by rw [upd_ne n]; exact e
      have tfz : upd H13 td (.frz o (.dK kvs)) td = some (.frz o (.dK kvs)) := upd_same
      revert sfz tfz
      generalize upd H13 td (.frz o (.dK kvs)) = H14
      intro sfz tfz
      have x14 : Fx H13 H14 := fun p u e z => sfz p u (fun y => by rw [y, t13] at e; cases e; cases z) e
      have hT14 := hT13.fx x14
      have nmIn : (nm, (Sum.inl os.length : Nat ⊕ D)) ∈ ths' := by rw [← htt]; exact List.mem_append_right _ (List.mem_singleton.mpr rfl)
      obtain ⟨vn, hvn, avn⟩ := hT14.get T13.ndT nmIn
      refine compG_one (vs := [.ref td, .str nm]) kvs.length (fun i => .str (ths'.getD i ("", .inl 0)).1) (fun _ => false) (fun _ _ _ => True) (fun _ _ _ _ _ z => z) (by omega) (fun H5 s5 => ⟨s5 _ _ tfz, Nat.le_refl _⟩) (fun i H5 hi s5 => ⟨s5 _ _ tfz, hi⟩) (fun i H5 x H6 hi s5 hy => ?_) (fun i H5 Q' hi s5 k => ?_) (fun i H5 D l' Q' hi hb => nomatch hb) fun gl H5 ys hgl s5 g5 hP => ?_
      · obtain ⟨rfl, k, u, ek, rfl⟩ := hy
        refine ⟨?_, rfl⟩
        obtain ⟨v1, e1, _⟩ := hT13.2 i (ths'[i]'(by omega)).1 (ths'[i]'(by omega)).2 (by rw [List.getElem?_eq_getElem (by omega)])
        rw [ek] at e1
        injection e1 with e1
        injection e1 with e1 _
        rw [e1, List.getD_eq_getElem?_getD, List.getElem?_eq_getElem (by omega)]; rfl
      · have hi' : i < ths'.length := by omega
        have eg : ths'.getD i ("", .inl 0) = ths'[i] := by rw [List.getD_eq_getElem?_getD, List.getElem?_eq_getElem hi']; rfl
        rw [eg]
        have mi : (ths'[i].1, ths'[i].2) ∈ ths' := List.getElem_mem hi'
        generalize ths'[i].1 = n at mi
        generalize ths'[i].2 = e at mi
        have k' := k H5 (Same.refl _)
        have d5 := s5 _ _ tfz
        by_cases hn : n = nm
        · subst hn
          exact ⟨_, rfl, _, rfl, rfl, false, congrArg V.bl (by simp), iteF k'⟩
        · obtain ⟨v1, e1, a1⟩ := hT14.get T13.ndT mi
          have mo : (n, e) ∈ ths := by
            rw [← htt] at mi
            rcases List.mem_append.mp mi with mi | mi
            · exact mi
            · exact absurd (Prod.mk.inj (List.mem_singleton.mp mi)).1 hn
          have eo := T.old n e mo
          refine ⟨_, rfl, _, rfl, rfl, true, congrArg V.bl (by simp [hn]), iteT ?_⟩
          refine ⟨_, rfl, _, rfl, td, v1, rfl, .inl ⟨kvs, .inr n, .inr ⟨o, d5⟩, rfl, e1.symm⟩, _, rfl, _, rfl, td, vn, rfl, .inl ⟨kvs, .inr nm, .inr ⟨o, d5⟩, rfl, hvn.symm⟩, dOf e, thD os.length, At.same s5 _ _ a1, At.same s5 _ _ avn, Nat.le_trans eo.el.dep (by decide), false, congrArg V.bl ?_, k'⟩
          rw [eqD_dec eo.el.nb (El.th _).nb]
          exact decide_eq_false (dOf_new eo)
      · have ey : ys = [] := by
          have := hP.len
          have e0 : (List.range kvs.length).filter (fun _ => false) = [] := by simp
          rw [e0] at this
          exact List.eq_nil_of_length_eq_zero this
        subst ey
        have ngt : gl ≠ td := fun z => by rw [z, tfz] at hgl; cases hgl
        have s6 : Same H13 (upd H5 td (.dK kvs)) := fun p u e => by
          by_cases hp : p = td
          · subst hp; rw [upd_same, ← t13]; exact e
          · rw [upd_ne hp]; exact s5 _ _ (sfz p u hp e)
        have g6 : upd H5 td (.dK kvs) gl = some (.lst []) := by rw [upd_ne ngt]; exact g5
        refine ⟨o, kvs, s5 _ _ tfz, ?_⟩
        revert s6 g6
        generalize upd H5 td (.dK kvs) = H6
        intro s6 g6
        exact ⟨Nat.zero_le _, fun nl2 hnl2 => ⟨gl, nl2, [], rfl, rfl, SqL.of (by rw [upd_ne (fun z => by rw [← z, g6] at hnl2; cases hnl2)]; exact g6), SqL.of upd_same, fin _ (s6.trans (same_new hnl2 _))⟩⟩
end
end GS
set_option Elab.async false
set_option linter.all false
set_option maxRecDepth 100000
set_option maxHeartbeats 4000000
namespace GS
open PySem PyProof.Rows
open L2 hiding pe_int pe_bl pe_non pe_str pv pe_glob pe_bltn pe_op pe_cmpR pe_one pe_and pe_ifExp pe_ix po_none po_some pe_slice pa_nil pa_cons pe_lst pe_tup pe_dnewK pe_callB pe_callTy pe_bm pt_cmpR pt_val pt_not pw_and1 pw_or1 pw_and pw_or pg_name pgs_nil pgs_cons pg_tup pi_list pi_tup pi_range1 ps_ret ps_expr ps_set ps_asg ps_if ps_while ps_for pss_nil pss_cons pss_one
open L3
section
variable {X : Cx}
/-! ### != of lists of lists that hold the same -/
def rNeLL (X : Cx) : R2 := fun x y H Q => ∃ (p q : Addr) (us ws : List V) (dss : List (List D)), x = .ref p ∧ y = .ref q ∧ SqL X.K H p us ∧ SqL X.K H q ws ∧ LRows X.K H dss us ∧ LRows X.K H dss ws ∧ (∀ ds ∈ dss, ∀ d ∈ ds, FlD d) ∧ Q (.bl false) H
theorem op_neLL {k : Nat} (hr : Room k X.A) : OpR X (compareOp .NotEq) (rNeLL X) := by
  intro pins s σ H x y v u Q I rx ry h
  obtain ⟨p, q, us, ws, dss, rfl, rfl, hp, hq, ha, hb, hf, hQ⟩ := h
  cases rx; cases ry
  obtain ⟨its, r1, p1, z1⟩ := I.list hp
  obtain ⟨its2, r2, p2, z2⟩ := I.list hq
  have hu := hr.units
  have l1 : its.toArray.size = dss.length := by rw [List.size_toArray, ← r1.length]; exact ha.1
  have l2 : its2.toArray.size = dss.length := by rw [List.size_toArray, ← r2.length]; exact hb.1
  have e : (!(List.range its.toArray.size).all fun _ => true) = false := by
    rw [List.all_eq_true.mpr fun _ _ => rfl]; rfl
  refine SeqAt.RcNeAt.lists (e := fun _ => true) p1.isList p2.isList (by omega) (by omega) (fun j k1 k2 => ?_) _ _ _ _ (fin_bl9 I hQ e)
  have hj : j < dss.length := by omega
  obtain ⟨a, e1, h1⟩ := ha.2 j hj
  obtain ⟨b, e2, h2⟩ := hb.2 j hj
  obtain ⟨u1, v1, g1⟩ := r1.get e1
  obtain ⟨u2, v2, g2⟩ := r2.get e2
  cases g1; cases g2
  have x1 : its.toArray[j] = .ref a := by
    rw [List.getElem_toArray]
    exact (List.getElem?_eq_some_iff.mp v1).2
  have x2 : its2.toArray[j] = .ref b := by
    rw [List.getElem_toArray]
    exact (List.getElem?_eq_some_iff.mp v2).2
  rw [x1, x2]
  obtain ⟨jts, s1, t1, w1⟩ := I.list h1
  obtain ⟨jts2, s2, t2, w2⟩ := I.list h2
  by_cases hab : a = b
  · subst hab
    exact SeqAt.EqAt.same _
  have fl : ∀ d ∈ dss.getD j [], FlD d := by
    rw [List.getD_eq_getElem?_getD, List.getElem?_eq_getElem hj]
    exact hf _ (List.getElem_mem hj)
  generalize dss.getD j [] = ds at h1 h2 s1 s2 fl
  have A1 : AtAll X.K H ds (ds.map fV) := (fV_all fl).mpr rfl
  have m1 : jts.toArray.size = jts2.toArray.size := by rw [List.size_toArray, List.size_toArray, ← s1.length, ← s2.length]
  have hd0 := deps_fl fl
  have hall : ((List.range jts.toArray.size).all fun j => eqD (ds.getD j .non) (ds.getD j .non)) = true := by
    rw [List.all_eq_true]
    exact fun i _ => eqD_refl _
  have R := SeqAt.RcAt.lists (A := X.A.in1) (e := fun j => eqD (ds.getD j .non) (ds.getD j .non)) t1.isList t2.isList m1 (by show X.A.units + 1 < cLine; omega) (items_eq I (A := X.A.in1.in1) (n := deps ds) s1 s2 A1 A1 (Nat.le_refl _) (by show X.A.units + 1 + 1 + deps ds < cLine; omega))
  rw [hall] at R
  exact SeqAt.EqAt.of_refs hab R
end
/-! ### a loop over a dict's keys -/
theorem for_dict {d : Addr} {o : Obj} {kvs : List (Key × V)} {g : TG} {tb : TS} {D : Ends} {σ : L2.St} {H : Hp} (Pv : Nat → L2.St → Hp → Prop) (h0 : Pv 0 σ H) (hq : ∀ i σ H, Pv i σ H → H d = some (.frz o (.dK kvs)))
    (hs : ∀ i σ H k v, i < kvs.length → Pv i σ H → kvs[i]? = some (k, v) → g (kV k) σ H fun σ2 H2 => tb { D with nx := Pv (i + 1), ct := Pv (i + 1), bk := D.nx } σ2 H2) (hd : ∀ σ H, Pv kvs.length σ H → D.nx σ H) :
    ∃ W : Nat → Nat → L2.St → Hp → Prop, (∃ m, W 0 m σ H) ∧ ∀ i m σ H, W i m σ H →
      ((Itd d o kvs).stop i H ∧ D.nx σ H) ∨ ((Itd d o kvs).go i H ∧ ∃ N : L2.St → Hp → Prop, (∀ σ' H', N σ' H' → ∃ m', m' < m ∧ W (i + 1) m' σ' H') ∧ ∀ x H', (Itd d o kvs).yld i H x H' → g x σ H' fun σ2 H2 => tb { D with nx := N, ct := N, bk := D.nx } σ2 H2) := by
  refine ⟨fun i m σ H => m = kvs.length - i ∧ i ≤ kvs.length ∧ Pv i σ H, ⟨_, rfl, Nat.zero_le _, h0⟩, ?_⟩
  rintro i m σ H ⟨rfl, hi, pv⟩
  have a1 := hq i σ H pv
  by_cases hlt : i < kvs.length
  · refine .inr ⟨⟨a1, hlt⟩, Pv (i + 1), fun σ' H' p' => ⟨kvs.length - (i + 1), by omega, rfl, hlt, p'⟩, fun x H' y => ?_⟩
    obtain ⟨rfl, k, v, e1, rfl⟩ := y
    exact hs i σ _ k v hlt pv e1
  · have e : i = kvs.length := by omega
    subst e
    exact .inl ⟨⟨a1, Nat.le_refl _⟩, hd σ H pv⟩
/-! ### the law's rows of numbers -/
def intD (nss : List (List Int)) : List (List D) := nss.map (List.map D.int)
theorem fV_ints (l : List Int) : (l.map D.int).map fV = l.map V.int := by rw [List.map_map]; rfl
theorem intD_fl (nss : List (List Int)) : ∀ ds ∈ intD nss, ∀ d ∈ ds, FlD d := fun ds h d hd => by
  obtain ⟨ns, _, rfl⟩ := List.mem_map.mp h
  obtain ⟨i, _, rfl⟩ := List.mem_map.mp hd
  exact .inl ⟨i, rfl⟩
theorem IRows.facts {H : Hp} {b p : Addr} {nss : List (List Int)} {vs : List V} (h : IRows H b p nss vs) : ∀ i, i < nss.length → ∃ q, vs[i]? = some (.ref q) ∧ H q = some (.lst ((nss.getD i []).map V.int)) ∧ q ≠ b ∧ q ≠ p ∧ (nss.getD i []).Nodup ∧ (nss.getD i []).length ≤ 6 := by
  induction h with
  | nil => intro i hi; simp at hi
  | @snoc nss vs ns q h1 h2 h3 h4 h5 h6 ih =>
    intro i hi
    have hl := h1.len
    by_cases hlt : i < nss.length
    · obtain ⟨q', a, b', c⟩ := ih i hlt
      have e : (nss ++ [ns]).getD i [] = nss.getD i [] := by rw [List.getD_eq_getElem?_getD, List.getD_eq_getElem?_getD, List.getElem?_append_left hlt]
      rw [e]
      exact ⟨q', by rw [List.getElem?_append_left (by omega)]; exact a, b', c⟩
    · rw [List.length_append, List.length_singleton] at hi
      have ei : i = nss.length := by omega
      subst ei
      have e : (nss ++ [ns]).getD nss.length [] = ns := by rw [List.getD_eq_getElem?_getD, List.getElem?_append_right (Nat.le_refl _), Nat.sub_self]; rfl
      rw [e]
      exact ⟨q, by rw [← hl, List.getElem?_append_right (Nat.le_refl _), Nat.sub_self]; rfl, h2, h3, h4, h5, h6⟩
theorem intD_get (nss : List (List Int)) (i : Nat) : (intD nss).getD i [] = (nss.getD i []).map D.int := by
  unfold intD
  rw [List.getD_eq_getElem?_getD, List.getD_eq_getElem?_getD, List.getElem?_map]
  cases nss[i]? <;> rfl
theorem LRows.of {K : PySem.W.Frag} {H : Hp} {nss : List (List Int)} {vs : List V} (hl : vs.length = nss.length) (h : ∀ i, i < nss.length → ∃ q, vs[i]? = some (.ref q) ∧ H q = some (.lst ((nss.getD i []).map V.int))) : LRows K H (intD nss) vs := by
  refine ⟨by rw [hl, intD, List.length_map], fun i hi => ?_⟩
  rw [intD, List.length_map] at hi
  obtain ⟨q, a, b⟩ := h i hi
  exact ⟨q, a, SqL.of (by rw [intD_get, fV_ints]; exact b)⟩
theorem LRows.rows {K : PySem.W.Frag} {H : Hp} : ∀ {dss : List (List D)} {vs : List V}, LRows K H dss vs → (∀ ds ∈ dss, ∀ d ∈ ds, FlD d) → RowsAt K H dss vs
  | [], vs, h, _ => by
    rw [List.eq_nil_of_length_eq_zero h.1]; exact .nil
  | ds :: dss, [], h, _ => absurd h.1 (by simp)
  | ds :: dss, v :: vs, h, hf => by
    obtain ⟨q, e, hs⟩ := h.2 0 (Nat.zero_lt_succ _)
    have ev : v = .ref q := by simpa using e
    refine .cons ⟨q, _, ev, .inl hs, (fV_all (hf ds List.mem_cons_self)).mpr rfl⟩ (LRows.rows ⟨by simpa using h.1, fun i hi => ?_⟩ fun x hx => hf x (List.mem_cons_of_mem _ hx))
    obtain ⟨q', e', hs'⟩ := h.2 (i + 1) (Nat.succ_lt_succ hi)
    exact ⟨q', by simpa using e', hs'⟩
end GS
set_option Elab.async false
set_option linter.all false
set_option maxRecDepth 100000
set_option maxHeartbeats 4000000
namespace GS
open PySem PyProof.Rows
open L2 hiding pe_int pe_bl pe_non pe_str pv pe_glob pe_bltn pe_op pe_cmpR pe_one pe_and pe_ifExp pe_ix po_none po_some pe_slice pa_nil pa_cons pe_lst pe_tup pe_dnewK pe_callB pe_callTy pe_bm pt_cmpR pt_val pt_not pw_and1 pw_or1 pw_and pw_or pg_name pgs_nil pgs_cons pg_tup pi_list pi_tup pi_range1 ps_ret ps_expr ps_set ps_asg ps_if ps_while ps_for pss_nil pss_cons pss_one
open L3
theorem mergeApp9 : ∀ (more kvs : List (Key × V)), ((kvs ++ more).map (·.1)).Nodup → mergeK kvs more = kvs ++ more
  | [], kvs, _ => by rw [List.append_nil]; rfl
  | p :: r, kvs, h => by
    have hn : p.1 ∉ kvs.map (·.1) := fun m => by
      rw [List.map_append, List.nodup_append] at h
      exact h.2.2 _ m _ (by simp) rfl
    show mergeK (putK kvs p.1 p.2) r = _
    rw [putK_new p.2 (valV_none hn), mergeApp9 r (kvs ++ [(p.1, p.2)]) (by simpa using h)]
    simp
/-! ### the tables as the law lays them -/
def oddT : List (Str × (Nat ⊕ D)) := [("one", .inr (.tup [.str "number", .int 1])), ("two", .inr (.tup [.str "text", .str "Thing"])), ("three", .inr (.tup [.str "none"])), ("four", .inl 0), ("five", .inl 20)]
def clsT : List (Str × (Nat ⊕ D)) := gcN.map fun x => (x.1, .inl (ixN9 x.1))
def ths0 : List (Str × (Nat ⊕ D)) := clsT ++ oddT
def os1 : List (Option (List Nat)) := os0 ++ [none]
theorem os1_len : os1.length = 21 := by decide +kernel
theorem os1_nd : ∀ i, i < 21 → (ordOf os1 i).Nodup := by decide +kernel
theorem os1_le : ∀ i, i < 21 → (ordOf os1 i).length ≤ 40 := by decide +kernel
theorem os1_gc : ∀ x ∈ gcN, os1[ixN9 x.1]? = some (some ((x.1 :: x.2).map ixN9)) := by decide +kernel
theorem gc_in : ∀ x ∈ gcN, ∀ m ∈ x.1 :: x.2, m ∈ ors0.map (·.1) := by decide +kernel
theorem gc_inj : ∀ n ∈ ors0.map (·.1), ∀ m ∈ ors0.map (·.1), ixN9 n = ixN9 m → n = m := by decide +kernel
theorem gc_lt : ∀ x ∈ gcN, ixN9 x.1 < 21 := by decide +kernel
theorem ths0_nd : (ths0.map (·.1)).Nodup := by decide +kernel
theorem os1_odd : (os1.getD 0 none).isSome = false ∧ (os1.getD 20 none).isSome = false := by decide +kernel
theorem ix_thing : ("Thing" : Str) ∈ ors0.map (·.1) ∧ ixN9 "Thing" = 8 := by decide +kernel
theorem oddT_ok : ∀ x ∈ oddT, EldOk os1 x.2 ∧ isC os1 x.2 = false := by
  intro x hx
  simp only [oddT, List.mem_cons, List.not_mem_nil, or_false] at hx
  rcases hx with rfl | rfl | rfl | rfl | rfl
  · refine ⟨⟨⟨?_, ?_⟩, _, _, rfl, by decide +kernel⟩, rfl⟩
    · rw [GS.nb, nbs, nbs, nbs, (El.str "number").nb, (El.int 1).nb]; rfl
    · rw [GS.dep, deps, deps, deps, dep_str, dep_int]; decide
  · refine ⟨⟨⟨?_, ?_⟩, _, _, rfl, by decide +kernel⟩, rfl⟩
    · rw [GS.nb, nbs, nbs, nbs, (El.str "text").nb, (El.str "Thing").nb]; rfl
    · rw [GS.dep, deps, deps, deps, dep_str, dep_str]; decide
  · refine ⟨⟨⟨?_, ?_⟩, _, _, rfl, by decide +kernel⟩, rfl⟩
    · rw [GS.nb, nbs, nbs, (El.str "none").nb]; rfl
    · rw [GS.dep, deps, deps, dep_str]; decide
  · exact ⟨show 0 < os1.length by rw [os1_len]; decide, os1_odd.1⟩
  · exact ⟨show 20 < os1.length by rw [os1_len]; decide, os1_odd.2⟩
theorem tb0 : Tb os1 ors0 ths0 ixN9 := by
  have out : ∀ i, ¬ i < 21 → ordOf os1 i = [] := fun i hi => by
    unfold ordOf
    rw [List.getD_eq_getElem?_getD, List.getElem?_eq_none (by rw [os1_len]; omega)]; rfl
  refine ⟨ors0_nd, ths0_nd, ⟨fun i => ?_, fun i => ?_⟩, fun n r h => ?_, fun n m h1 h2 e => gc_inj n h1 m h2 e, fun n e h => ?_, fun n e h hn => ?_, ix_thing⟩
  · by_cases hi : i < 21
    · exact os1_nd i hi
    · rw [out i hi]; exact List.nodup_nil
  · by_cases hi : i < 21
    · exact os1_le i hi
    · rw [out i hi]; exact Nat.zero_le _
  · obtain ⟨x, hx, e⟩ := List.mem_map.mp h
    obtain ⟨rfl, rfl⟩ := Prod.mk.inj e
    exact ⟨List.mem_append_left _ (List.mem_map.mpr ⟨x, hx, rfl⟩), os1_gc x hx, gc_in x hx⟩
  · rcases List.mem_append.mp h with h | h
    · obtain ⟨x, hx, e'⟩ := List.mem_map.mp h
      obtain ⟨rfl, rfl⟩ := Prod.mk.inj e'
      show ixN9 x.1 < os1.length
      rw [os1_len]; exact gc_lt x hx
    · exact (oddT_ok _ h).1
  · rcases List.mem_append.mp h with h | h
    · obtain ⟨x, hx, e'⟩ := List.mem_map.mp h
      obtain ⟨rfl, rfl⟩ := Prod.mk.inj e'
      exact absurd (gc_in x hx _ List.mem_cons_self) hn
    · exact (oddT_ok _ h).2
/-! ### the names that the law gives -/
def strI (i : Int) : Str := Str.ofString (toString i)
def nms : List Str := ths0.map (·.1) ++ ((List.range 11).map (fun j => ("c" : Str) ++ strI (0 + (j : Nat))) ++ (List.range 42).map fun j => ("d" : Str) ++ strI (0 + (j : Nat)))
theorem nms_nd : nms.Nodup := by decide +kernel
theorem nms_c : ∀ k, k < 11 → nms[17 + k]? = some (("c" : Str) ++ strI (0 + (k : Nat))) := by decide +kernel
theorem nms_d : ∀ k, k < 42 → nms[28 + k]? = some (("d" : Str) ++ strI (0 + (k : Nat))) := by decide +kernel
theorem nms_0 : ths0.map (·.1) = nms.take 17 := by decide +kernel
theorem str_len : ∀ k, k < 42 → (strI (0 + (k : Nat))).length ≤ 10 := by decide +kernel
theorem nms_new {k : Nat} {x : Str} (h : nms[k]? = some x) : x ∉ nms.take k := fun z => by
  obtain ⟨i, hi, ei⟩ := List.getElem_of_mem z
  rw [List.length_take] at hi
  have e1 : nms[i]? = some x := by
    rw [List.getElem_take] at ei
    rw [List.getElem?_eq_getElem (by omega), ei]
  have hj := (List.getElem?_eq_some_iff.mp h).1
  have := (List.getElem?_inj hj nms_nd).mp (h.trans e1.symm)
  omega
theorem nms_next {k : Nat} {x y : Str} (h : nms[k]? = some x) (hy : y ∈ nms.take k ∨ y = x) : y ∈ nms.take (k + 1) := by
  rw [List.take_add_one, h]
  rcases hy with hy | rfl
  · exact List.mem_append_left _ hy
  · exact List.mem_append_right _ (List.mem_singleton.mpr rfl)
theorem nms_le {j k : Nat} (h : j ≤ k) {x : Str} (hx : x ∈ nms.take j) : x ∈ nms.take k := (List.take_sublist_take_left h).subset hx
theorem log_small {k : Nat} (h : k < 42) : ((0 : Int) + (k : Nat)).natAbs.log2 < 1920 := by
  have e : ((0 : Int) + (k : Nat)).natAbs = k := by omega
  rw [e]
  exact Nat.lt_of_le_of_lt (Nat.log2_le_self k) (by omega)
/-! ### what stays -/
theorem St9.but {K : PySem.W.Frag} {c : Cl9} {H H' : Hp} {W l g od td b : Addr} {N : Addr → Prop} {os : List (Option (List Nat))} {ors : List (Str × List Str)} {ths : List (Str × (Nat ⊕ D))} {ix : Str → Nat} {xs : List V} {o' : HO} (S : St9 K c H W l g od td N os ors ths ix) (B : But9 b H H') (hb : H b = some (.lst xs)) (hb' : H' b = some o') (nbl : b ≠ l) (nN : ¬ N b) : St9 K c H' W l g od td N os ors ths ix := by
  have f : Fx H H' := B.fx hb
  obtain ⟨k1, a1, b1⟩ := S.o
  obtain ⟨k2, a2, b2⟩ := S.t
  obtain ⟨k3, a3, l3, b3⟩ := S.gv
  obtain ⟨⟨dx, x1, x2, h1⟩, tvs, h2, h3, h4⟩ := S.w
  have kd : ∀ {p : Addr} {kvs : List (Key × V)}, H p = some (.dK kvs) → p ≠ b := fun e z => by rw [z, hb] at e; cases e
  refine ⟨⟨⟨dx, x1, x2, f _ _ h1 rfl⟩, tvs, B _ _ (Ne.symm nbl) h2, h3, fun i v e => ?_⟩, ⟨k3, B _ _ (kd a3) a3, l3, fun n i e => ?_⟩, ⟨k1, B _ _ (kd a1) a1, b1.mono fun q ys hq e => ⟨B _ _ (fun z => nN (z ▸ hq)) e, hq⟩⟩, ⟨k2, B _ _ (kd a2) a2, b2.fx f⟩, S.tb, S.n1, S.n2, S.n3, fun p e => S.nf p ?_, S.nl⟩
  · obtain ⟨o, x, y⟩ := h4 i v e
    exact ⟨o, x, y.fx f⟩
  · obtain ⟨v, x, y⟩ := b3 n i e
    exact ⟨v, x, At.fx f _ _ y⟩
  · cases hp : H p with
    | none => rfl
    | some o =>
      have : p ≠ b := fun z => by rw [z, hb'] at e; cases e
      rw [B p o this hp] at e; cases e
theorem Spot9.fr3 {K : PySem.W.Frag} {H H' : Hp} {a b l od td : Addr} {n : Nat} (h : Spot9 K H a b n) (F : Fr3 l od td H H') (a1 : a ≠ l) (a2 : a ≠ od) (a3 : a ≠ td) (b1 : b ≠ l) (b2 : b ≠ od) (b3 : b ≠ td) : Spot9 K H' a b n := by
  obtain ⟨⟨ns, h1, h2⟩, h3, h4⟩ := h
  refine ⟨⟨ns, ?_, h2⟩, h3, F _ _ b1 b2 b3 h4⟩
  rcases h1 with (e | ⟨o', e⟩) | e
  · exact .inl (.inl (F _ _ a1 a2 a3 e))
  · exact .inl (.inr ⟨o', F _ _ a1 a2 a3 e⟩)
  · exact .inr e
theorem GivAt.upd9 {K : PySem.W.Frag} {H : Hp} {g d : Addr} {gv : List (Str × Nat)} {kvs : List (Key × V)} {o : HO} (h : GivAt K H g gv) (hd : H d = some (.dK kvs)) (ne : g ≠ d) : GivAt K (upd H d o) g gv := by
  obtain ⟨k, h1, h2, h3⟩ := h
  refine ⟨k, by rw [upd_ne ne]; exact h1, h2, fun n i e => ?_⟩
  obtain ⟨v, a, b⟩ := h3 n i e
  exact ⟨v, a, At.fx (fun p u e z => by rw [upd_ne (fun y => by rw [y, hd] at e; cases e; cases z)]; exact e) _ _ b⟩
theorem GivAt.but9 {K : PySem.W.Frag} {H H' : Hp} {g l : Addr} {gv : List (Str × Nat)} {xs : List V} (h : GivAt K H g gv) (B : But9 l H H') (hl : H l = some (.lst xs)) : GivAt K H' g gv := by
  obtain ⟨k, h1, h2, h3⟩ := h
  refine ⟨k, B _ _ (fun z => by rw [z, hl] at h1; cases h1) h1, h2, fun n i e => ?_⟩
  obtain ⟨v, a, b⟩ := h3 n i e
  exact ⟨v, a, At.fx (B.fx hl) _ _ b⟩
theorem ThAt.app {K : PySem.W.Frag} {H : Hp} {xs ys : List (Str × (Nat ⊕ D))} {k k' : List (Key × V)} (h : ThAt K H xs k) (h' : ThAt K H ys k') : ThAt K H (xs ++ ys) (k ++ k') := by
  refine ⟨by rw [List.length_append, List.length_append, h.1, h'.1], fun i n e x => ?_⟩
  by_cases hi : i < xs.length
  · rw [List.getElem?_append_left hi] at x
    rw [List.getElem?_append_left (by rw [h.1]; exact hi)]
    exact h.2 i n e x
  · rw [List.getElem?_append_right (by omega)] at x
    rw [List.getElem?_append_right (by rw [h.1]; omega), h.1]
    exact h'.2 _ n e x
theorem pairs_dict {K : PySem.W.Frag} {H : Hp} {nm : Nat → Str} {dd : Nat → D} {is : List Nat} {ys : List V} (h : Pairs (fun i v => ∃ (tp : Addr) (u : V), v = .ref tp ∧ H tp = some (.tup [.str (nm i), u]) ∧ At K H (dd i) u) is ys) :
    ∃ (ps : List Addr) (kvs : List (Key × V)), ys = ps.map V.ref ∧ ps.length = kvs.length ∧ kvs.length = is.length ∧ (∀ (j : Nat) (a : Addr) (kv : Key × V), ps[j]? = some a → kvs[j]? = some kv → H a = some (.tup [kV kv.1, kv.2])) ∧ ∀ (j i : Nat), is[j]? = some i → ∃ u, kvs[j]? = some (.inr (nm i), u) ∧ At K H (dd i) u := by
  induction h with
  | nil => exact ⟨[], [], rfl, rfl, rfl, fun j a kv e => by simp at e, fun j i e => by simp at e⟩
  | @cons i v is vs h1 h2 ih =>
    obtain ⟨tp, u, rfl, h3, h4⟩ := h1
    obtain ⟨ps, kvs, rfl, e2, e3, e4, e5⟩ := ih
    refine ⟨tp :: ps, (.inr (nm i), u) :: kvs, rfl, by rw [List.length_cons, List.length_cons, e2], by rw [List.length_cons, List.length_cons, e3], fun j a kv x y => ?_, fun j k x => ?_⟩
    · cases j with
      | zero =>
        have x' : tp = a := by simpa using x
        have y' : ((.inr (nm i) : Key), u) = kv := by simpa using y
        subst x' y'
        exact h3
      | succ j => exact e4 j a kv (by simpa using x) (by simpa using y)
    · cases j with
      | zero =>
        have x' : i = k := by simpa using x
        subst x'
        exact ⟨u, rfl, h4⟩
      | succ j => exact e5 j k (by simpa using x)
theorem ors0_len : ors0.length = 12 := by decide +kernel
theorem gv_ors : ∀ i, i < 12 → ((ors0.getD i ("", [])).1, ixN9 (ors0.getD i ("", [])).1) ∈ gv0 := by decide +kernel
theorem ors_cls (i : Nat) (h : i < 12) : clsT[i]? = some ((ors0.getD i ("", [])).1, .inl (ixN9 (ors0.getD i ("", [])).1)) := by
  have hl : gcN.length = 12 := by decide +kernel
  unfold clsT ors0
  rw [List.getElem?_map, List.getD_eq_getElem?_getD, List.getElem?_map, List.getElem?_eq_getElem (by omega)]; rfl
theorem cls_nd : (clsT.map (·.1)).Nodup := by decide +kernel
theorem cls_len : clsT.length = 12 := by decide +kernel
theorem gv_say : (("say" : Str), 0) ∈ gv0 := by decide +kernel
theorem law_given : ∀ i, i < 12 → lawR ors0 [(ors0.getD i ("", [])).1] = .inr (ors0.getD i ("", [])).2 := by decide +kernel
theorem ors_row : ∀ i, i < 12 → ors0[i]? = some ((ors0.getD i ("", [])).1, (ors0.getD i ("", [])).2) := by decide +kernel
theorem os0_len : os0.length = 20 := by decide +kernel
theorem os0_0 : os0[0]? = some none := by decide +kernel
theorem thD_thaw {K : PySem.W.Frag} {H : Hp} {d : Addr} {o : Obj} {kvs : List (Key × V)} {o' : HO} {i : Nat} {u : V} (hd : H d = some (.frz o (.dK kvs))) (h : At K H (thD i) u) : At K (upd H d o') (thD i) u := by
  obtain ⟨p, vs, rfl, sq, hA⟩ := At_tup.mp h
  obtain ⟨x, xs, rfl, h1, h2⟩ := AtAll_cons.mp hA
  obtain ⟨y, ys, rfl, h3, h4⟩ := AtAll_cons.mp h2
  have e4 := AtAll_nil.mp h4
  subst e4
  rw [At_str.mp h1, At_int.mp h3] at *
  refine At_tup.mpr ⟨p, _, rfl, ?_, AtAll2 (At_str.mpr rfl) (At_int.mpr rfl)⟩
  rcases sq with (e | ⟨o', e⟩) | e
  · exact .inl (.inl (by rw [upd_ne (fun z => by rw [z, hd] at e; cases e)]; exact e))
  · exact .inl (.inr ⟨o', by rw [upd_ne (fun z => by rw [z, hd] at e; cases e)]; exact e⟩)
  · exact .inr e
end GS
set_option Elab.async false
set_option linter.all false
set_option maxRecDepth 100000
set_option maxHeartbeats 4000000
namespace GS
open PySem PyProof.Rows
open L2 hiding pe_int pe_bl pe_non pe_str pv pe_glob pe_bltn pe_op pe_cmpR pe_one pe_and pe_ifExp pe_ix po_none po_some pe_slice pa_nil pa_cons pe_lst pe_tup pe_dnewK pe_callB pe_callTy pe_bm pt_cmpR pt_val pt_not pw_and1 pw_or1 pw_and pw_or pg_name pgs_nil pgs_cons pg_tup pi_list pi_tup pi_range1 ps_ret ps_expr ps_set ps_asg ps_if ps_while ps_for pss_nil pss_cons pss_one
open L3
abbrev sLaw9 : Stmt := top9 32
theorem b9Int : bootBuiltins "int" = some (.type "int") := by decide +kernel
abbrev lawN : List Str := ["_law_script", "_law_cells", "_law_spot", "_law_more", "_law_turn", "_law_rows", "_law_handed", "_law_world", "_law_orders", "_law_name", "_law_things", "_law_odd", "_law_k", "_law_elders_here", "_law_last"]
section
variable {P : Program} {w : World} {K : PySem.W.Frag} {mg : Str → Option Value} {base : Heap} {f : Addr} {fd : FuncData} {c : Cl9}
def spLaw9 (K : PySem.W.Frag) : Sp := fun vs H Q _ => ∃ (a : Addr) (ns : List Int), vs = [.ref a] ∧ SqL K H a (ns.map V.int) ∧ ns.length ≤ 63 ∧ ∀ H', Q (.bl true) H'
theorem scLaw9 : FnScope lawN ["_law_script"] (defScope sLaw9) := ⟨rfl, rfl, rfl, by decide +kernel, rfl, by decide +kernel, by decide +kernel⟩
def rLstO (K : PySem.W.Frag) : List V → Hp → VK → Prop := fun xs H Q => ∃ p ys, xs = [V.ref p] ∧ (SqL K H p ys ∨ SqT K H p ys) ∧ ∀ l, H l = none → Q (.ref l) (upd H l (.lst ys))
theorem slims_fl : ∀ {ds : List D}, (∀ d ∈ ds, FlD d) → slims ds = true
  | [], _ => by rw [slims]
  | d :: ds, h => by
    rw [slims, slims_fl fun x hx => h x (List.mem_cons_of_mem _ hx)]
    rcases h d List.mem_cons_self with ⟨i, rfl⟩ | ⟨s, rfl⟩
    · rw [slim]; rfl; all_goals nofun
    · rw [slim]; rfl; all_goals nofun
def oddN : List Str := ["one", "two", "three", "four", "five"]
/-- what stands at every turn of the two loops that make classes -/
def LpI (K : PySem.W.Frag) (c : Cl9) (H : Hp) (W l g od td qd a b : Addr) (N : Addr → Prop) (okq : List (Key × V)) (cs : List V) (nB k : Nat) (ls : List Str) : Prop := ∃ (n : Nat) (os : List (Option (List Nat))) (ors : List (Str × List Str)) (ths : List (Str × (Nat ⊕ D))) (ix : Str → Nat), Spot9 K H a b n ∧ n ≤ nB ∧ St9 K c H W l g od td N os ors ths ix ∧ H qd = some (.dK okq) ∧ H a = some (.lst cs) ∧ os.length ≤ 21 + k ∧ ors.length ≤ 12 + k ∧ ths.length ≤ 17 + k ∧ (∀ x ∈ ths.map (·.1), x ∈ nms.take (17 + k)) ∧ ∀ x ∈ ls, x ∈ ths.map (·.1)
theorem or_keys {H : Hp} {ors : List (Str × List Str)} {kvs : List (Key × V)} {N : Addr → Prop} (h : OrAt H ors kvs N) : kvs.map (fun x => kV x.1) = (ors.map (·.1)).map V.str := by
  have e := congrArg (List.map kV) h.keys
  rw [List.map_map, List.map_map] at e
  rw [List.map_map]; exact e
theorem th_keys {K : PySem.W.Frag} {H : Hp} {ths : List (Str × (Nat ⊕ D))} {kvs : List (Key × V)} (h : ThAt K H ths kvs) : kvs.map (fun x => kV x.1) = (ths.map (·.1)).map V.str := by
  have e := congrArg (List.map kV) h.keys
  rw [List.map_map, List.map_map] at e
  rw [List.map_map]; exact e
/-- the three turns of lists -/
def sTurns (K : PySem.W.Frag) : TS := fun D σ H => ∃ (sc : Option V) (a b : Addr) (m : Option V) (r : List (Option V)) (xs : List V), σ = sc :: some (.ref a) :: some (.ref b) :: m :: none :: none :: none :: r ∧ Spot9 K H a b 0 ∧ H a = some (.lst xs) ∧
  ∀ o4 o5 o6 H' n, Spot9 K H' a b n → n ≤ 300 → H' a = some (.lst xs) → D.nx (sc :: some (.ref a) :: some (.ref b) :: m :: o4 :: o5 :: o6 :: r) H'
theorem ok_Law9 (g : Glb9 mg) (F : Fun K "law" "law" sLaw9 f fd) (dAt : Def P w K mg base "_law_cell_at" ["_law_script", "_law_k"] 1 (spAt9 K)) (dLi : Def P w K mg base "_law_lists" ["_law_cells", "_law_spot"] 2 (spLists K)) (dM : Def P w K mg base "merged" ["rows"] 4 (spMrg K)) (dLM : Def P w K mg base "_law_merged" ["_law_rows"] 1 (spLM K)) (dS : Def P w K mg base "_law_same" ["_law_found", "_law_due"] 5 (spSm K 5))
    (MW : MkDef P w K mg base "World" c.W ["self", "inputs"] 4 (spWI K c)) (dGO : Def P w K mg base "_law_given_orders" [] 1 spGO) (dK : Def P w K mg base "known" ["world", "name"] 1 (spKn K c)) (dFn : Def P w K mg base "function" ["world", "name", "params", "defaults", "code", "around", "gives"] 3 (spFn K c)) (dO : Def P w K mg base "order_of" ["world", "elders"] 5 (spOrd K c))
    (dEl : Def P w K mg base "_law_elders" ["_law_cells", "_law_spot", "_law_names", "_law_odd"] 2 (spEl K)) (dMd : Def P w K mg base "_law_made" ["_law_world", "_law_orders", "_law_things", "_law_elders_here", "_law_name"] 6 (spMd K c)) : FnOk P w K mg base CX0 7 f fd ["_law_script"] (spLaw9 K) := by
  refine F.okI scLaw9 (fun vs H Q E h => ?_) (fun cdv A outer s H vs Q E hr h => ?_)
  · obtain ⟨_, _, rfl, _⟩ := h; rfl
  obtain ⟨sc, ns, rfl, hS, h63, q⟩ := h
  refine ⟨_, pss_cons (ps_set (i := 1) scLaw9.nd rfl (Or.inl rfl) (pe_slice sl_list (pv 0) (po_some pe_int) (po_some pe_int)))
    (pss_cons (ps_set (i := 2) scLaw9.nd rfl (Or.inl rfl) (pe_lst (pa_cons pe_int pa_nil)))
    (pss_cons (ps_set (i := 3) scLaw9.nd rfl (Or.inl rfl) (L3.pe_def dAt hr (by decide) rfl (pa_cons (pv 0) (pa_cons pe_int pa_nil))))
    (pss_cons (ps_imp (t' := sTurns K) (ps_for PassesOwn.never rfl (pi_range1 rfl g.nRange (pa_cons pe_int pa_nil)) (pg_name (i := 4) scLaw9.nd rfl (Or.inl rfl))
      (pss_cons (ps_set (i := 5) scLaw9.nd rfl (Or.inl rfl) (L3.pe_def dLi hr (by decide) rfl (pa_cons (pv 1) (pa_cons (pv 2) pa_nil))))
      (pss_cons (.mk (L2.ps_setCompG (iy := 6) (cl := []) (Xs := ["_law_row"]) (Nf := []) (js := []) ?k0 rfl (LI.out (pi_list (pv 5))) (fun C s0 H0 fp => LG.out (pg_name (i := 0) (show (["_law_row"] : List Str).Nodup by decide +kernel) rfl (Or.inl rfl))) (fun C s0 H0 fp => pts_nil) (fun C s0 H0 fp => LE.out (pe_callTy (r := rLstO K) call_list_of rfl g.nList b9List (pa_cons (pv 0) pa_nil))) scLaw9.nd rfl (Or.inl rfl)))
      (pss_cons (ps_if (LW.pt (pw_or (LW.pt (pw_and (pt_not (pt_val (L3.pe_def dS hr (by decide) rfl (pa_cons (L3.pe_def dM hr (by decide) rfl (pa_cons (pv 6) pa_nil)) (pa_cons (L3.pe_def dLM hr (by decide) rfl (pa_cons (pv 5) pa_nil)) pa_nil))))) (pw_and1 (pt_cmpR op_notN (L3.pe_def dLM hr (by decide) rfl (pa_cons (pv 5) pa_nil)) pe_non (nomark _))))) (pw_or1 (pt_cmpR (op_neLL hr) (pv 6) (pv 5) (nomark _))))) (pss_one (ps_ret pe_bl)) pss_nil)
      (pss_one (ps_if (LW.pt (pw_and (pt_cmpR op_isN (L3.pe_def dLM hr (by decide) rfl (pa_cons (pv 5) pa_nil)) pe_non (nomark _)) (pw_and1 (pt_cmpR op_notN (L3.pe_def dM hr (by decide) rfl (pa_cons (pv 6) pa_nil)) pe_non (nomark _))))) (pss_one (ps_ret pe_bl)) pss_nil)))))) ?turns)
    (pss_cons (ps_set (i := 7) scLaw9.nd rfl (Or.inr rfl) (L3.pe_mk MW hr (by decide) rfl (pa_cons (pe_lst pa_nil) pa_nil)))
    (pss_cons (ps_set (i := 8) scLaw9.nd rfl (Or.inl rfl) (L3.pe_def0 dGO hr (by decide) rfl))
    (pss_cons (ps_set (i := 10) scLaw9.nd rfl (Or.inr rfl) (pe_callTy (call_dictP rfl) rfl g.nDict b9Dict (pa_cons (L3.pe_thaw (.mk (L2.pe_compG (cl := [("_law_world", s.heap.objs.size + 1)]) (Xs := ["_law_name"]) (Nf := ["_law_world"]) (js := [7]) ?k1 rfl (LI.out (L3.pi_dict (pv 8))) (fun C s0 H0 fp => LG.out (pg_name (i := 0) (show (["_law_name", "_law_world"] : List Str).Nodup by decide +kernel) rfl (Or.inl rfl))) (fun C s0 H0 fp => pts_nil) (fun C s0 H0 fp => LE.out (pe_tup (pa_cons (pv 0) (pa_cons (L3.pe_def dK hr (by decide) rfl (pa_cons (pv 1) (pa_cons (pv 0) pa_nil))) pa_nil))))))) pa_nil)))
    (pss_cons (ps_set (i := 11) scLaw9.nd rfl (Or.inl rfl) (L3.pe_disp (L3.pps_cons pe_str (pe_tup (pa_cons pe_str (pa_cons pe_int pa_nil))) (L3.pps_cons pe_str (pe_tup (pa_cons pe_str (pa_cons pe_str pa_nil))) (L3.pps_cons pe_str (pe_tup (pa_cons pe_str pa_nil)) (L3.pps_cons pe_str (L3.pe_def dK hr (by decide) rfl (pa_cons (pv 7) (pa_cons pe_str pa_nil))) L3.pps_nil))))))
    (pss_cons (.mk (L2.ps_dput (hu_of hr) (LE.out (pv 11)) (LE.out pe_str) (LE.out (L3.pe_def dFn hr (by decide) rfl (pa_cons (pv 7) (pa_cons pe_str (pa_cons pe_int (pa_cons (pe_tup pa_nil) (pa_cons pe_int (pa_cons pe_int (pa_cons pe_bl pa_nil))))))))) rfl))
    (pss_cons (ps_expr (L3.pe_dupd (pv 10) (pv 11)))
    (pss_cons (ps_for PassesOwn.never rfl (L3.pi_dict (L3.pe_def0 dGO hr (by decide) rfl)) (pg_name (i := 9) scLaw9.nd rfl (Or.inl rfl))
      (pss_one (ps_if (pt_cmpR (op_neD hr) (L3.pe_def dO hr (by decide) rfl (pa_cons (pv 7) (pa_cons (L3.pe_tupF (pa_cons (L3.pe_dget (hu_of hr) (pv 10) (pv 9)) pa_nil)) pa_nil))) (pe_tup (pa_cons pe_str (pa_cons (pe_callTy call_tuple_of rfl g.nTuple b9Tuple (pa_cons (.mk (L2.pe_compG (cl := [("_law_things", s.heap.objs.size + 2)]) (Xs := ["_law_one"]) (Nf := ["_law_things"]) (js := [10]) ?k2 rfl (LI.out (pi_list (L3.pe_dget (hu_of hr) (pv 8) (pv 9)))) (fun C s0 H0 fp => LG.out (pg_name (i := 0) (show (["_law_one", "_law_things"] : List Str).Nodup by decide +kernel) rfl (Or.inl rfl))) (fun C s0 H0 fp => pts_nil) (fun C s0 H0 fp => LE.out (L3.pe_dget (hu_of hr) (pv 1) (pv 0))))) pa_nil)) pa_nil))) (nomark _)) (pss_one (ps_ret pe_bl)) pss_nil)))
    (pss_cons (ps_for PassesOwn.never rfl (pi_range1 rfl g.nRange (pa_cons (pe_op op_mod (pv 3) pe_int) pa_nil)) (pg_name (i := 12) scLaw9.nd rfl (Or.inl rfl))
      (pss_cons (ps_set (i := 13) scLaw9.nd rfl (Or.inl rfl) (L3.pe_def dEl hr (by decide) rfl (pa_cons (pv 1) (pa_cons (pv 2) (pa_cons (pe_callTy (call_listD rfl) rfl g.nList b9List (pa_cons (pv 8) pa_nil)) (pa_cons (pe_callTy (call_listD rfl) rfl g.nList b9List (pa_cons (pv 11) pa_nil)) pa_nil))))))
      (pss_one (ps_if (pt_not (pt_val (L3.pe_def dMd hr (by decide) rfl (pa_cons (pv 7) (pa_cons (pv 8) (pa_cons (pv 10) (pa_cons (pv 13) (pa_cons (pe_op op_add_str pe_str (pe_callTy call_str_int rfl g.nStr b9Str (pa_cons (pv 12) pa_nil))) pa_nil)))))))) (pss_one (ps_ret pe_bl)) pss_nil))))
    (pss_cons (ps_set (i := 14) scLaw9.nd rfl (Or.inl rfl) (pe_ix (r := rIxL K) ix_list (pe_callTy (call_listD rfl) rfl g.nList b9List (pa_cons (pv 8) pa_nil)) (pe_op op_mod (pe_op op_fdiv (pv 3) pe_int) (pe_callB call_len_dict rfl g.nLen b9Len (pa_cons (pv 8) pa_nil))) (fun _ _ => rfl)))
    (pss_cons (ps_for PassesOwn.never rfl (pi_range1 rfl g.nRange (pa_cons (pe_ix (r := rIxL K) ix_list (pe_lst (pa_cons pe_int (pa_cons (pe_op op_add pe_int (pe_op op_mod (pe_op op_fdiv (pv 3) pe_int) pe_int)) pa_nil))) (pe_callTy call_int1 rfl g.nInt b9Int (pa_cons (pe_cmpR op_eq (pe_op op_mod (pe_op op_fdiv (pv 3) pe_int) pe_int) pe_int (nomark _)) pa_nil)) (fun _ _ => rfl)) pa_nil)) (pg_name (i := 12) scLaw9.nd rfl (Or.inl rfl))
      (pss_cons (ps_if (pt_not (pt_val (L3.pe_def dMd hr (by decide) rfl (pa_cons (pv 7) (pa_cons (pv 8) (pa_cons (pv 10) (pa_cons (pe_lst (pa_cons (pv 14) pa_nil)) (pa_cons (pe_op op_add_str pe_str (pe_callTy call_str_int rfl g.nStr b9Str (pa_cons (pv 12) pa_nil))) pa_nil)))))))) (pss_one (ps_ret pe_bl)) pss_nil)
      (pss_one (ps_set (i := 14) scLaw9.nd rfl (Or.inl rfl) (pe_ifExp (L3.pt_din (hu_of hr) (pe_op op_add_str pe_str (pe_callTy call_str_int rfl g.nStr b9Str (pa_cons (pv 12) pa_nil))) (pv 8)) (pe_op op_add_str pe_str (pe_callTy call_str_int rfl g.nStr b9Str (pa_cons (pv 12) pa_nil))) (pv 14))))))
    (pss_one (ps_ret pe_bl))))))))))))))), ?main⟩
  case k0 =>
    refine ⟨rfl, by decide +kernel, rfl, by decide +kernel, fun y c h => (by cases h), fun y hy => ?_, rfl, fun j y h => (by simp at h)⟩
    have hy' : ([(".0", .local), ("_law_row", .local), ("list", .globalImplicit)] : List (Str × NameKind)).lookup y = some .cell ∨ ([(".0", .local), ("_law_row", .local), ("list", .globalImplicit)] : List (Str × NameKind)).lookup y = some .free := hy
    rcases hy' with z | z <;> (have m := PySem.mem_of_lookup z; simp at m)
  case k1 =>
    refine ⟨rfl, by decide +kernel, rfl, by decide +kernel, fun y c h => ?_, fun y hy => ?_, rfl, fun j y h => ?_⟩
    · obtain ⟨rfl, rfl⟩ := look1 h; rfl
    · have hy' : ([(".0", .local), ("_law_name", .local), ("known", .globalImplicit), ("_law_world", .cell)] : List (Str × NameKind)).lookup y = some .cell ∨ ([(".0", .local), ("_law_name", .local), ("known", .globalImplicit), ("_law_world", .cell)] : List (Str × NameKind)).lookup y = some .free := hy
      rcases hy' with z | z
      · have m := PySem.mem_of_lookup z
        simp at m
        subst m
        exact ⟨_, rfl⟩
      · have m := PySem.mem_of_lookup z
        simp at m
    · match j, h with
      | 0, h => cases h; exact ⟨7, rfl, rfl, rfl, .inl rfl⟩
      | j + 1, h => simp at h
  case k2 =>
    refine ⟨rfl, by decide +kernel, rfl, by decide +kernel, fun y c h => ?_, fun y hy => ?_, rfl, fun j y h => ?_⟩
    · obtain ⟨rfl, rfl⟩ := look1 h; rfl
    · have hy' : ([(".0", .local), ("_law_one", .local), ("_law_things", .cell)] : List (Str × NameKind)).lookup y = some .cell ∨ ([(".0", .local), ("_law_one", .local), ("_law_things", .cell)] : List (Str × NameKind)).lookup y = some .free := hy
      rcases hy' with z | z
      · have m := PySem.mem_of_lookup z
        simp at m
        subst m
        exact ⟨_, rfl⟩
      · have m := PySem.mem_of_lookup z
        simp at m
    · match j, h with
      | 0, h => cases h; exact ⟨10, rfl, rfl, rfl, .inl rfl⟩
      | j + 1, h => simp at h
  case turns =>
    rintro D0 σ H ⟨sc, a, b, m, r, xs, rfl, hS, hax, q⟩
    refine ⟨3, rfl, by decide, by decide, for_range (n := 3) (fun j σ H' => ∃ o4 o5 o6 n, σ = sc :: some (.ref a) :: some (.ref b) :: m :: o4 :: o5 :: o6 :: r ∧ Spot9 K H' a b n ∧ n ≤ 100 * j ∧ H' a = some (.lst xs)) ⟨none, none, none, 0, rfl, hS, Nat.zero_le _, hax⟩ ?turn ?stop⟩
    case stop =>
      rintro σ H1 ⟨o4, o5, o6, n, rfl, hS1, hn, hx1⟩
      exact q o4 o5 o6 H1 n hS1 (by omega) hx1
    case turn =>
      rintro j σ H1 hj ⟨o4, o5, o6, n, rfl, hS1, hn, hx1⟩
      have hx2 := hS1.ne
      refine ⟨_, rfl, _, rfl, a, b, n, rfl, hS1, by omega, fun p H2 n' nss rvs hB hb hn' hp hpb hp2 hI hl => ?_⟩
      have hS2 := hS1.go hB hb
      have fc := hI.facts
      have hlr := hI.len
      have gi : ∀ i, i < nss.length → ∃ q, rvs.getD i .non = .ref q ∧ H2 q = some (.lst ((nss.getD i []).map V.int)) := fun i hi => by
        obtain ⟨q, e, h1, _⟩ := fc i hi
        exact ⟨q, by rw [List.getD_eq_getElem?_getD, e]; rfl, h1⟩
      refine ⟨_, rfl, p, rfl, ⟨_, SqL.of hp2⟩, [], ⟨rfl, fun j i h => (by simp at h)⟩, compG_one (vs := []) (tc := tTrue) rvs.length (fun i => rvs.getD i .non) (fun _ => true) (fun i v H' => ∃ q, v = .ref q ∧ H' q = some (.lst ((nss.getD i []).map V.int))) (fun i v H' H'' s z => by obtain ⟨q, e, h⟩ := z; exact ⟨q, e, s _ _ h⟩) (by omega) (itl_stop (SqL.of hp2)) (itl_go (SqL.of hp2)) (itl_yld (SqL.of hp2)) (fun i H4 Q' hi s4 k => k H4 (Same.refl _)) (fun i H4 D l' Q' hi _ s4 hD hl4 k => ?_) fun hd H3 ys hhd s3 h3 hP => ?_⟩
      · obtain ⟨q, e, h1⟩ := gi i (by omega)
        rw [e]
        refine ⟨_, rfl, q, _, rfl, .inl (SqL.of (s4 _ _ h1)), fun cl hcl => k _ _ (same_new hcl _) ⟨cl, rfl, ?_⟩⟩
        rw [wo_at (fun z => by rw [z, hl4] at hcl; cases hcl)]
        exact upd_same
      rw [List.filter_eq_self.mpr (fun _ _ => rfl)] at hP
      have hly : ys.length = nss.length := by rw [hP.len, List.length_range]; exact hlr
      have La : LRows K H3 (intD nss) rvs := LRows.of hlr fun i hi => by
        obtain ⟨q, e, h1, _⟩ := fc i hi
        exact ⟨q, e, s3 _ _ h1⟩
      have Lb : LRows K H3 (intD nss) ys := LRows.of hly fun i hi => by
        obtain ⟨v, e1, q, rfl, h2⟩ := hP.nth i i (by rw [List.getElem?_range (by omega)])
        exact ⟨q, e1, wo_same H3 hd _ _ h2⟩
      have hfl := intD_fl nss
      have hlen : (intD nss).length ≤ 8 := by rw [intD, List.length_map]; exact hl
      have row : ∀ ds ∈ intD nss, ds.Nodup ∧ ds.length ≤ 6 := fun ds hds => by
        obtain ⟨i, hi, ei⟩ := List.getElem_of_mem hds
        have hi' : i < nss.length := by rw [intD, List.length_map] at hi; exact hi
        obtain ⟨_, _, _, _, _, h5, h6⟩ := fc i hi'
        have e : ds = (nss.getD i []).map D.int := by rw [← intD_get, List.getD_eq_getElem?_getD, List.getElem?_eq_getElem hi]; exact ei.symm
        rw [e, List.length_map, nodup_map (fun x y z => by injection z)]
        exact ⟨h5, h6⟩
      have hok : RowsOk (intD nss) := ⟨fun ds h1 d h2 => (hfl ds h1 d h2).el, fun ds h1 => Nat.le_trans (row ds h1).2 (by decide), by omega⟩
      have htot : tot (intD nss) ≤ 100000 := Nat.le_trans (tot_le fun r hr => (row r hr).2) (by omega)
      have h100 : ∀ ds ∈ intD nss, ds.length ≤ 100 := fun ds hds => Nat.le_trans (row ds hds).2 (by decide)
      have p3 := s3 _ _ hp2
      have xdone : ∀ H6, Same H3 H6 → H6 a = some (.lst xs) := fun H6 s6 => s6 _ _ (s3 _ _ (hB _ _ hx2 hx1))
      have done : ∀ H6, Same H3 H6 → Spot9 K H6 a b n' := fun H6 s6 => hS2.go (Same.but b (s3.trans s6)) ((s3.trans s6) _ _ hb)
      refine ⟨_, rfl, hd, ys, intD nss, rfl, SqL.of h3, Lb.rows hfl, hok, fun ds hds => (row ds hds).1, htot, fun H4 s4 hm => ?_, fun q4 H4 ws l s4 hm hq4 h4 hA4 => ?_⟩
      · refine ⟨_, rfl, p, rvs, intD nss, rfl, SqL.of (s4 _ _ p3), La.same s4, hfl, by omega, h100, fun H5 s5 hm' => ?_, fun q5 H5 l s5 hm' => absurd (hm.symm.trans hm') (by simp)⟩
        refine ⟨.non, .non, rfl, .inl ⟨.non, At_non.mpr rfl, At_non.mpr rfl, by rw [dep_non]; decide, by rw [dep_non]; decide, rfl⟩, fun H6 s6 => ⟨true, rfl, iteF (iteF ?_)⟩⟩
        have s36 := s4.trans (s5.trans s6)
        refine ⟨_, rfl, _, rfl, hd, p, ys, rvs, intD nss, rfl, rfl, SqL.of (s36 _ _ h3), SqL.of (s36 _ _ p3), Lb.same s36, La.same s36, hfl, false, rfl, iteF ?_⟩
        refine ⟨_, rfl, p, rvs, intD nss, rfl, SqL.of (s36 _ _ p3), La.same s36, hfl, by omega, h100, fun H7 s7 hm' => ?_, fun q5 H5 l s5 hm' => absurd (hm.symm.trans hm') (by simp)⟩
        have s37 := s36.trans s7
        refine ⟨rfl, true, rfl, iteT ?_⟩
        refine ⟨_, rfl, hd, ys, intD nss, rfl, SqL.of (s37 _ _ h3), (Lb.same s37).rows hfl, hok, fun ds hds => (row ds hds).1, htot, fun H8 s8 hm' => ?_, fun q4 H4 ws l s4 hm' => absurd (hm.symm.trans hm') (by simp)⟩
        exact ⟨rfl, false, rfl, iteF ⟨_, _, _, n', rfl, done _ (s37.trans s8), by omega, xdone _ (s37.trans s8)⟩⟩
      · have lfl : ∀ d ∈ l, FlD d := fun d hd => by
          obtain ⟨r, hr, hx⟩ := (mg_mem hm).mp hd
          exact hfl r hr d hx
        have ll : l.length ≤ 100 := Nat.le_trans (mg_len hm) (Nat.le_trans (tot_le fun r hr => (row r hr).2) (by omega))
        have ld := deps_fl lfl
        refine ⟨_, rfl, p, rvs, intD nss, rfl, SqL.of (s4 _ _ p3), La.same s4, hfl, by omega, h100, fun H5 s5 hm' => absurd (hm.symm.trans hm') (by simp), fun q5 H5 l5 s5 hm' hq5 h5 => ?_⟩
        have el : l = l5 := Option.some.inj (hm.symm.trans hm')
        subst el
        refine ⟨.ref q4, .ref q5, rfl, .inr ⟨q4, q5, ws, l.map fV, l, rfl, rfl, SqL.of (s5 _ _ h4), SqL.of h5, AtAll.same s5 _ _ hA4, (fV_all lfl).mpr rfl, by omega, by omega, ll, slims_fl lfl⟩, fun H6 s6 => ⟨true, rfl, iteF (iteF ?_)⟩⟩
        have s36 := s4.trans (s5.trans s6)
        refine ⟨_, rfl, _, rfl, hd, p, ys, rvs, intD nss, rfl, rfl, SqL.of (s36 _ _ h3), SqL.of (s36 _ _ p3), Lb.same s36, La.same s36, hfl, false, rfl, iteF ?_⟩
        refine ⟨_, rfl, p, rvs, intD nss, rfl, SqL.of (s36 _ _ p3), La.same s36, hfl, by omega, h100, fun H7 s7 hm' => absurd (hm.symm.trans hm') (by simp), fun q7 H7 l7 s7 hm' hq7 h7 => ?_⟩
        exact ⟨rfl, false, rfl, iteF (iteF ⟨_, _, _, n', rfl, done _ (s36.trans s7), by omega, xdone _ (s36.trans s7)⟩)⟩
  case main =>
    refine ⟨_, rfl, 1, rfl, 40, rfl, sc, _, rfl, hS, fun a ha => ⟨by show 1 ≤ sizeLine; decide, fun b hb => ?_⟩⟩
    have ec : cutV (ns.map V.int) (some 1) (some 40) = ((ns.drop 1).take 39).map V.int := by
      rw [List.map_take, List.map_drop]
      exact cut_from 1 40
    rw [ec] at hb ⊢
    have s1 : Same H (upd (upd H a (.lst (((ns.drop 1).take 39).map V.int))) b (.lst [.int 0])) := (same_new ha _).trans (same_new hb _)
    have nab : a ≠ b := fun z => by rw [← z, upd_same] at hb; cases hb
    have a1 : upd (upd H a (.lst (((ns.drop 1).take 39).map V.int))) b (.lst [.int 0]) a = some (.lst (((ns.drop 1).take 39).map V.int)) := by rw [upd_ne nab]; exact upd_same
    have b1 : upd (upd H a (.lst (((ns.drop 1).take 39).map V.int))) b (.lst [.int 0]) b = some (.lst [.int (0 : Nat)]) := upd_same
    revert s1 a1 b1
    generalize upd (upd H a (.lst (((ns.drop 1).take 39).map V.int))) b (.lst [.int 0]) = H1
    intro s1 a1 b1
    refine ⟨_, rfl, sc, ns, 0, rfl, s1.seq hS, fun m => ?_⟩
    have hS1 : Spot9 K H1 a b 0 := ⟨⟨_, SqL.of a1, by rw [List.length_take, List.length_drop]; omega⟩, nab, b1⟩
    refine ⟨_, a, b, _, _, _, rfl, hS1, a1, fun o4 o5 o6 H2 n0 hS2 hn0 a2 => ?_⟩
    refine ⟨Nat.zero_le _, fun el hel W dx hW hdx ndx => ?_⟩
    have nWl : W ≠ el := fun z => by rw [z, upd_same] at hW; cases hW
    have ndl : dx ≠ el := fun z => by rw [z, upd_same] at hdx; cases hdx
    refine ⟨W, dx, el, rfl, upd_same, SqL.of (by rw [upd_ne (Ne.symm nWl), upd_ne (Ne.symm ndl)]; exact upd_same), fun H3 l g0 fr hw hg => ⟨rfl, ?_⟩⟩
    have s23 : Same H2 H3 := fun p o e => by
      have h1 : p ≠ el := fun z => by rw [z, hel] at e; cases e
      have h2 : p ≠ W := fun z => by rw [upd_ne (fun y => h1 (z.trans y)), ← z, e] at hW; cases hW
      have h3 : p ≠ dx := fun z => by rw [upd_ne (fun y => h1 (z.trans y)), ← z, e] at hdx; cases hdx
      exact fr p o h2 (by rw [upd_ne h2, upd_ne h3, upd_ne h1]; exact e)
    have b2 := hS2.spot
    have b3 := s23 _ _ b2
    have a3 := s23 _ _ a2
    obtain ⟨tvs, hl3, hlt, hob⟩ := hw.t
    have nbl : b ≠ l := fun z => by
      rw [← z, b3] at hl3
      injection hl3 with hl3; injection hl3 with hl3
      rw [← hl3, os0_len] at hlt; cases hlt
    have nal : a ≠ l := fun z => by
      rw [← z, a3] at hl3
      injection hl3 with hl3; injection hl3 with hl3
      have h0 : 0 < tvs.length := by rw [hlt, os0_len]; decide
      obtain ⟨o, e1, e2⟩ := hob 0 tvs[0] (List.getElem?_eq_getElem h0)
      rw [os0_0] at e1
      cases e1
      obtain ⟨p, _, _, _, e3, _⟩ := e2
      have e4 : tvs[0]? = some (.ref p) := by rw [List.getElem?_eq_getElem h0, e3]
      rw [← hl3, List.getElem?_map] at e4
      cases e5 : ((ns.drop 1).take 39)[0]? with
      | none => rw [e5] at e4; cases e4
      | some i => rw [e5] at e4; cases e4
    refine ⟨rfl, fun od H4 okv s4 hod0 hod hO => ?_⟩
    have w4 := hw.same s4
    have g4 := hg.same s4
    obtain ⟨gkv0, hg3, _, _⟩ := id hg
    have ngo : g0 ≠ od := fun z => by rw [z, hod0] at hg3; cases hg3
    have lok : okv.length = 12 := hO.1.trans ors0_len
    refine ⟨od, ⟨_, hod⟩, _, rfl, od, okv, rfl, hod, fun o => ⟨[.ref W], ⟨rfl, fun j i h => ?_⟩, ?_⟩⟩
    · match j, h with
      | 0, h => cases h; exact ⟨_, rfl, rfl⟩
      | j + 1, h => simp at h
    have sfz : ∀ p u, p ≠ od → H4 p = some u → upd H4 od (.frz o (.dK okv)) p = some u := fun p u n e => by rw [upd_ne n]; exact e
    have tfz : upd H4 od (.frz o (.dK okv)) od = some (.frz o (.dK okv)) := upd_same
    have wfz : WAt K c (upd H4 od (.frz o (.dK okv))) W l g0 os0 := w4.put hod
    have gfz : GivAt K (upd H4 od (.frz o (.dK okv))) g0 gv0 := g4.upd9 hod ngo
    revert sfz tfz wfz gfz
    generalize upd H4 od (.frz o (.dK okv)) = Hf
    intro sfz tfz wfz gfz
    refine compG_one (vs := [.ref W]) (tc := tTrue) okv.length (fun i => .str (ors0.getD i ("", [])).1) (fun _ => true) (fun i v H' => ∃ (tp : Addr) (u : V), v = .ref tp ∧ H' tp = some (.tup [.str (ors0.getD i ("", [])).1, u]) ∧ At K H' (thD (ixN9 (ors0.getD i ("", [])).1)) u) (fun i v H' H'' s z => by obtain ⟨tp, u, e, h1, h2⟩ := z; exact ⟨tp, u, e, s _ _ h1, At.same s _ _ h2⟩) (by omega) (fun H5 s5 => ⟨s5 _ _ tfz, Nat.le_refl _⟩) (fun i H5 hi s5 => ⟨s5 _ _ tfz, hi⟩) (fun i H5 x H6 hi s5 hy => ?_) (fun i H5 Q' hi s5 k => k H5 (Same.refl _)) (fun i H5 D' l' Q' hi _ s5 hD hl5 k => ?_) fun gl H5 ys hgl s5 h5 hP => ?_
    · obtain ⟨rfl, k, u, ek, rfl⟩ := hy
      refine ⟨?_, rfl⟩
      obtain ⟨q', e1, _⟩ := hO.2 i _ _ (ors_row i (by omega))
      rw [ek] at e1
      injection e1 with e1
      injection e1 with e1 _
      rw [e1]; rfl
    · refine ⟨_, rfl, _, rfl, _, rfl, W, l, g0, os0, gv0, _, _, rfl, wfz.same s5, gfz.same s5, gv_ors i (by omega), fun v hv => ⟨by show 2 ≤ sizeLine; decide, fun tp htp => k _ _ (same_new htp _) ⟨tp, v, rfl, ?_, ?_⟩⟩⟩
      · rw [wo_at (fun z => by rw [z, hl5] at htp; cases htp)]; exact upd_same
      · exact At.wo (l := l') (by rw [upd_ne (fun z => by rw [← z, hl5] at htp; cases htp)]; exact hl5) _ _ (At.same (same_new htp _) _ _ hv)
    rw [List.filter_eq_self.mpr (fun _ _ => rfl)] at hP
    have ngl : gl ≠ od := fun z => by rw [z, tfz] at hgl; cases hgl
    refine ⟨o, okv, s5 _ _ tfz, ?_⟩
    have s46 : Same H4 (upd H5 od (.dK okv)) := fun p u e => by
      by_cases hp : p = od
      · subst hp; rw [upd_same, ← hod]; exact e
      · rw [upd_ne hp]; exact s5 _ _ (sfz p u hp e)
    have g6 : upd H5 od (.dK okv) gl = some (.lst ys) := by rw [upd_ne ngl]; exact h5
    have hP6 : Pairs (fun i v => ∃ (tp : Addr) (u : V), v = .ref tp ∧ (upd H5 od (.dK okv)) tp = some (.tup [.str (ors0.getD i ("", [])).1, u]) ∧ At K (upd H5 od (.dK okv)) (thD (ixN9 (ors0.getD i ("", [])).1)) u) (List.range okv.length) ys := by
      refine hP.mono fun i v z => ?_
      obtain ⟨tp, u, e, h1, h2⟩ := z
      have h1' := wo_same H5 gl _ _ h1
      have nto : tp ≠ od := fun z => by rw [z, s5 _ _ tfz] at h1'; cases h1'
      refine ⟨tp, u, e, by rw [upd_ne nto]; exact h1', thD_thaw (s5 _ _ tfz) (At.same (wo_same H5 gl) _ _ h2)⟩
    revert s46 g6 hP6
    generalize upd H5 od (.dK okv) = H6
    intro s46 g6 hP6
    obtain ⟨ps, tkv, rfl, lp1, lp2, hp1, hp2⟩ := pairs_dict hP6
    have lt : tkv.length = 12 := by rw [lp2, List.length_range]; exact lok
    have hT6 : ThAt K H6 clsT tkv := by
      refine ⟨by rw [lt, cls_len], fun i n e x => ?_⟩
      have hi : i < 12 := by have := (List.getElem?_eq_some_iff.mp x).1; rw [cls_len] at this; exact this
      rw [ors_cls i hi] at x
      injection x with x
      obtain ⟨rfl, rfl⟩ := Prod.mk.inj x
      obtain ⟨u, a1, b1⟩ := hp2 i i (by rw [List.getElem?_range (by omega)])
      exact ⟨u, a1, b1⟩
    have knd : (tkv.map (·.1)).Nodup := by rw [hT6.keys]; exact keys_ndT cls_nd
    refine ⟨gl, ps, tkv, rfl, SqL.of g6, lp1, fun i x kv e1 e2 => .inl (.inl (hp1 i x kv e1 e2)), small (by omega), fun td htd => ?_⟩
    rw [mergeApp9 _ _ (by rw [List.nil_append]; exact knd), List.nil_append]
    have s7 : Same H6 (upd H6 td (.dK tkv)) := same_new htd _
    have t7 : upd H6 td (.dK tkv) td = some (.dK tkv) := upd_same
    revert s7 t7
    generalize upd H6 td (.dK tkv) = H7
    intro s7 t7
    have s47 := s46.trans s7
    have s37 := s4.trans s47
    have ntd3 : H3 td = none := (s4.trans s46).free htd
    intro qd hqd
    have nqd7 : H7 qd = none := hqd
    refine ⟨by show 2 ≤ sizeLine; decide, fun t1 ht1 => ⟨by show 2 ≤ sizeLine; decide, fun t2 ht2 => ⟨by show 1 ≤ sizeLine; decide, fun t3 ht3 => ?_⟩⟩⟩
    have s8a : Same (upd H7 qd (.dK [])) (upd (upd (upd (upd H7 qd (.dK [])) t1 (.tup [.str "number", .int 1])) t2 (.tup [.str "text", .str "Thing"])) t3 (.tup [.str "none"])) := (same_new ht1 _).trans ((same_new ht2 _).trans (same_new ht3 _))
    have x1 : At K (upd (upd (upd (upd H7 qd (.dK [])) t1 (.tup [.str "number", .int 1])) t2 (.tup [.str "text", .str "Thing"])) t3 (.tup [.str "none"])) (.tup [.str "number", .int 1]) (.ref t1) := At.same ((same_new ht2 _).trans (same_new ht3 _)) _ _ (At.new ht1 (AtAll2 (At_str.mpr rfl) (At_int.mpr rfl)))
    have x2 : At K (upd (upd (upd (upd H7 qd (.dK [])) t1 (.tup [.str "number", .int 1])) t2 (.tup [.str "text", .str "Thing"])) t3 (.tup [.str "none"])) (.tup [.str "text", .str "Thing"]) (.ref t2) := At.same (same_new ht3 _) _ _ (At.new ht2 (AtAll2 (At_str.mpr rfl) (At_str.mpr rfl)))
    have x3 : At K (upd (upd (upd (upd H7 qd (.dK [])) t1 (.tup [.str "number", .int 1])) t2 (.tup [.str "text", .str "Thing"])) t3 (.tup [.str "none"])) (.tup [.str "none"]) (.ref t3) := At.new ht3 (AtAll.one1 (At_str.mpr rfl))
    revert s8a x1 x2 x3
    generalize upd (upd (upd (upd H7 qd (.dK [])) t1 (.tup [.str "number", .int 1])) t2 (.tup [.str "text", .str "Thing"])) t3 (.tup [.str "none"]) = H8
    intro s8a x1 x2 x3
    have s78 : Same H7 H8 := (same_new nqd7 _).trans s8a
    have q8 : H8 qd = some (.dK []) := s8a _ _ upd_same
    refine ⟨_, rfl, W, l, g0, os0, gv0, "say", 0, rfl, w4.same (s47.trans s78), g4.same (s47.trans s78), gv_say, fun v4 x4 => ⟨q8, [(.inr "one", .ref t1), (.inr "two", .ref t2), (.inr "three", .ref t3), (.inr "four", v4)], rfl, by show 4 ≤ 15; decide, ?_⟩⟩
    have knd4 : (([(.inr "one", .ref t1), (.inr "two", .ref t2), (.inr "three", .ref t3), (.inr "four", v4)] : List (Key × V)).map (·.1)).Nodup := by
      show ([.inr "one", .inr "two", .inr "three", .inr "four"] : List Key).Nodup
      decide +kernel
    rw [mergeApp9 _ _ (by rw [List.nil_append]; exact knd4), List.nil_append]
    generalize hq4 : ([(.inr "one", .ref t1), (.inr "two", .ref t2), (.inr "three", .ref t3), (.inr "four", v4)] : List (Key × V)) = qkv
    have f9 : Fx H8 (upd H8 qd (.dK qkv)) := fun p u e z => by rw [upd_ne (fun y => by rw [y, q8] at e; cases e; cases z)]; exact e
    have s79 : Same H7 (upd H8 qd (.dK qkv)) := same_upd s78 nqd7 _
    have q9 : upd H8 qd (.dK qkv) qd = some (.dK qkv) := upd_same
    revert f9 s79 q9
    generalize upd H8 qd (.dK qkv) = H9
    intro f9 s79 q9
    refine ⟨_, rfl, Nat.zero_le _, fun te hte => ?_⟩
    have s9b : Same H9 (upd H9 te (.tup [])) := same_new hte _
    revert s9b
    generalize upd H9 te (.tup []) = H9b
    intro s9b
    have s49 := s47.trans (s79.trans s9b)
    have s39 := s4.trans s49
    refine ⟨W, l, g0, os0, .str "f", .int 0, .ref te, .int 0, .int 0, .bl false, rfl, w4.same s49, by rw [os0_len]; decide, fun v5 H10 b10 w10 a10 => ?_⟩
    have q9b := s9b _ _ q9
    have hl9 := s39 _ _ hl3
    have nql : qd ≠ l := fun z => by rw [z, s37 _ _ hl3] at nqd7; cases nqd7
    have q10 := b10 _ _ nql q9b
    refine ⟨_, rfl, qd, _, rfl, DPut.k (k := .inr "five") q10 (small1000 (by rw [← hq4]; show 4 ≤ 1000; decide)), ?_⟩
    have five : valV qkv (.inr "five") = none := by
      rw [← hq4, valV_neg (show ¬ ((Sum.inr "one" : Key) = (Sum.inr "five" : Key)) from by decide +kernel), valV_neg (show ¬ ((Sum.inr "two" : Key) = (Sum.inr "five" : Key)) from by decide +kernel), valV_neg (show ¬ ((Sum.inr "three" : Key) = (Sum.inr "five" : Key)) from by decide +kernel), valV_neg (show ¬ ((Sum.inr "four" : Key) = (Sum.inr "five" : Key)) from by decide +kernel)]
      rfl
    rw [putK_new _ five]
    have b11 : ∀ p o, p ≠ qd → H10 p = some o → upd H10 qd (.dK (qkv ++ [(.inr "five", v5)])) p = some o := fun p o n e => by rw [upd_ne n]; exact e
    have q11 : upd H10 qd (.dK (qkv ++ [(.inr "five", v5)])) qd = some (.dK (qkv ++ [(.inr "five", v5)])) := upd_same
    have w11 : WAt K c (upd H10 qd (.dK (qkv ++ [(.inr "five", v5)]))) W l g0 (os0 ++ [none]) := w10.put q10
    revert b11 q11 w11
    generalize upd H10 qd (.dK (qkv ++ [(.inr "five", v5)])) = H11
    intro b11 q11 w11
    have ntq : td ≠ qd := fun z => by rw [← z, t7] at nqd7; cases nqd7
    have ntl : td ≠ l := fun z => by rw [z, hl3] at ntd3; cases ntd3
    have t11 : H11 td = some (.dK tkv) := b11 _ _ ntq (b10 _ _ ntl (s9b _ _ (s79 _ _ t7)))
    have x11 : Fx H10 H11 := fun p u e z => b11 p u (fun y => by rw [y, q10] at e; cases e; cases z) e
    have x910 : Fx H9b H10 := b10.fx hl9
    have x8 : Fx H8 H11 := fun p u e z => x11 _ _ (x910 _ _ (s9b _ _ (f9 _ _ e z)) z) z
    have ho11 : ThAt K H11 oddT (qkv ++ [(.inr "five", v5)]) := by
      have h0 : ThAt K H11 [] [] := ⟨rfl, fun i n e x => by simp at x⟩
      have h4 := (((h0.snoc (n := "one") (e := .inr _) (At.fx x8 _ _ x1)).snoc (n := "two") (e := .inr _) (At.fx x8 _ _ x2)).snoc (n := "three") (e := .inr _) (At.fx x8 _ _ x3)).snoc (n := "four") (e := .inl 0) (At.fx x8 _ _ x4)
      have h5 := h4.snoc (n := "five") (e := .inl 20) (At.fx x11 _ _ (show At K H10 (thD 20) v5 from by rw [← os0_len]; exact a10))
      rw [← hq4]
      exact h5
    have x611 : Fx H6 H11 := fun p u e z => x11 _ _ (x910 _ _ (s9b _ _ (s79 _ _ (s7 _ _ e))) z) z
    have hT11 : ThAt K H11 ths0 (tkv ++ (qkv ++ [(.inr "five", v5)])) := (hT6.fx x611).app ho11
    have lq : (qkv ++ [((.inr "five" : Key), v5)]).length = 5 := ho11.1
    generalize qkv ++ [((.inr "five" : Key), v5)] = okq at q11 ho11 hT11 lq
    refine ⟨_, rfl, td, rfl, .inl ⟨_, .inl t11⟩, _, rfl, qd, tkv, okq, rfl, ntq, t11, q11, small (by omega), ?_⟩
    rw [mergeApp9 _ _ (by rw [hT11.keys]; exact keys_ndT ths0_nd)]
    have b12 : ∀ p o, p ≠ td → H11 p = some o → upd H11 td (.dK (tkv ++ okq)) p = some o := fun p o n e => by rw [upd_ne n]; exact e
    have t12 : upd H11 td (.dK (tkv ++ okq)) td = some (.dK (tkv ++ okq)) := upd_same
    have w12 : WAt K c (upd H11 td (.dK (tkv ++ okq))) W l g0 os1 := w11.put t11
    revert b12 t12 w12
    generalize upd H11 td (.dK (tkv ++ okq)) = H12
    intro b12 t12 w12
    have q12 := b12 _ _ (Ne.symm ntq) q11
    have B12 : But9 l H3 H12 := fun p o n e => by
      have n1 : p ≠ td := fun z => by rw [z, ntd3] at e; cases e
      have n2 : p ≠ qd := fun z => by rw [z] at e; rw [s37 _ _ e] at nqd7; cases nqd7
      exact b12 _ _ n1 (b11 _ _ n2 (b10 _ _ n (s39 _ _ e)))
    have C12 : ∀ p o, p ≠ l → p ≠ td → p ≠ qd → H6 p = some o → H12 p = some o := fun p o n n1 n2 e => b12 _ _ n1 (b11 _ _ n2 (b10 _ _ n (s9b _ _ (s79 _ _ (s7 _ _ e)))))
    have not6 : ∀ {p o}, H6 p = some o → p ≠ td ∧ p ≠ qd := fun {p o} e => ⟨fun z => (by rw [z, htd] at e; cases e), fun z => (by rw [z] at e; rw [s7 _ _ e] at nqd7; cases nqd7)⟩
    have x12 : Fx H11 H12 := fun p u e z => b12 p u (fun y => by rw [y, t11] at e; cases e; cases z) e
    have nol : od ≠ l := fun z => by rw [z, hl3] at hod0; cases hod0
    have hod6 := s46 _ _ hod
    have hod12 := C12 _ _ nol (not6 hod6).1 (not6 hod6).2 hod6
    have O12 : OrAt H12 ors0 okv (fun q => H3 q = none) := hO.mono fun q xs hq e => ⟨C12 _ _ (fun z => by rw [z, hl3] at hq; cases hq) (not6 (s46 _ _ e)).1 (not6 (s46 _ _ e)).2 (s46 _ _ e), hq⟩
    have ngt : g0 ≠ td := fun z => by rw [z, ntd3] at hg3; cases hg3
    obtain ⟨tvs2, hl12, _⟩ := id w12.t
    have S12 : St9 K c H12 W l g0 od td (fun q => H3 q = none) os1 ors0 ths0 ixN9 := by
      refine ⟨w12, hg.but9 B12 hl3, ⟨_, hod12, O12⟩, ⟨_, t12, hT11.fx x12⟩, tb0, fun z => (not6 hod6).1 z, ngo, ngt, fun p e => ?_, fun z => by rw [hl3] at z; cases z⟩
      cases hp : H3 p with
      | none => rfl
      | some o =>
        rw [B12 p o (fun z => by rw [z, hl12] at e; cases e) hp] at e; cases e
    have P12 : Spot9 K H12 a b n0 := by
      have h3 : Spot9 K H3 a b n0 := hS2.go (Same.but b s23) b3
      exact ⟨⟨_, SqL.of (B12 _ _ nal a3), by rw [List.length_take, List.length_drop]; omega⟩, nab, B12 _ _ nbl b3⟩
    have A12 := B12 _ _ nal a3
    have nN : ¬ H3 b = none := fun z => by rw [z] at b3; cases b3
    have nqo : qd ≠ od := fun z => (not6 hod6).2 z.symm
    have kq : okq.map (fun x => kV x.1) = oddN.map V.str := th_keys ho11
    have hLp : ∀ Hx, Same H12 Hx → LpI K c Hx W l g0 od td qd a b (fun q => H3 q = none) okq (((ns.drop 1).take 39).map V.int) 300 0 oddN := fun Hx sx => by
      refine ⟨n0, os1, ors0, ths0, ixN9, P12.go (Same.but b sx) (sx _ _ P12.spot), hn0, S12.same sx, sx _ _ q12, sx _ _ A12, by rw [os1_len]; omega, by rw [ors0_len]; omega, by rw [← List.length_map (as := ths0) (f := (·.1)), nms_0, List.length_take]; omega, fun x hx => by rw [nms_0] at hx; exact hx, fun x hx => ?_⟩
      rw [show ths0.map (·.1) = clsT.map (·.1) ++ oddN from by rw [ths0, List.map_append]; rfl]
      exact List.mem_append_right _ hx
    refine ⟨rfl, fun gd H13 gkv s13 hgd0 hgd hO2 => ⟨gd, gkv, rfl, hgd, fun o => ?_⟩⟩
    have sF : Same H12 (upd H13 gd (.frz o (.dK gkv))) := same_upd s13 hgd0 _
    have gF : upd H13 gd (.frz o (.dK gkv)) gd = some (.frz o (.dK gkv)) := upd_same
    revert sF gF
    generalize upd H13 gd (.frz o (.dK gkv)) = HF
    intro sF gF
    have lg : gkv.length = 12 := hO2.1.trans ors0_len
    refine for_dict (fun j σ H' => (∃ o9, σ = [some (.ref sc), some (.ref a), some (.ref b), some (.int m), o4, o5, o6, some (.ref W), some (.ref od), o9, some (.ref td), some (.ref qd), none, none, none]) ∧ Same HF H') ⟨⟨none, rfl⟩, Same.refl _⟩ (fun j σ H' h => h.2 _ _ gF) ?gturn ?gstop
    case gturn =>
      rintro i σ H' k v hi ⟨⟨o9, rfl⟩, sj⟩ ek
      have hi' : i < 12 := by omega
      obtain ⟨q1, e1, _⟩ := hO2.2 i _ _ (ors_row i hi')
      rw [ek] at e1
      injection e1 with e1
      obtain ⟨rfl, rfl⟩ := Prod.mk.inj e1
      have lw := law_given i hi'
      have mm : ((ors0.getD i ("", [])).1, (ors0.getD i ("", [])).2) ∈ ors0 := List.mem_of_getElem? (ors_row i hi')
      have l40 := tb0.lens _ _ mm
      have rin := (tb0.cls _ _ mm).2.2
      generalize (ors0.getD i ("", [])).1 = n at lw mm
      generalize (ors0.getD i ("", [])).2 = row at lw mm l40 rin
      have nin : n ∈ ors0.map (·.1) := List.mem_map.mpr ⟨_, mm, rfl⟩
      have sk := sF.trans sj
      have Sk := S12.same sk
      have hTk : ThAt K H' ths0 (tkv ++ okq) := (hT11.fx x12).fx (Same.fx sk)
      have tdk := sk _ _ t12
      have odk := sk _ _ hod12
      have Ok : OrAt H' ors0 okv (fun q => H3 q = none) := O12.mono fun q xs hq e => ⟨sk _ _ e, hq⟩
      obtain ⟨v1, y1, z1⟩ := hTk.get ths0_nd (thE_mem ths0_nd (tb0.inT nin))
      refine ⟨_, rfl, _, rfl, _, rfl, td, v1, rfl, by rw [← y1]; exact DGet.k (k := .inr n) tdk, by show 1 ≤ sizeLine; decide, fun p o' hp ho => ?_⟩
      have s14 : Same H' (upd H' p (.frz o' (.tup [v1]))) := same_new hp _
      have a14 : At K (upd H' p (.frz o' (.tup [v1]))) (.tup ((([n] : List Str).map (thE ths0)).map dOf)) (.ref p) := At.newF hp (AtAll.one1 z1)
      have p14 : PlT (upd H' p (.frz o' (.tup [v1]))) (.ref p) := ⟨p, o', [v1], rfl, upd_same, ho⟩
      revert s14 a14 p14
      generalize upd H' p (.frz o' (.tup [v1])) = H14
      intro s14 a14 p14
      have S14 := Sk.same s14
      have eR := tb0.ord (els := [n]) (fun x hx => by rw [List.mem_singleton.mp hx]; exact tb0.inT nin)
      rw [lw] at eR
      refine ⟨W, l, g0, os1, gv0, 8, .ref p, ([n] : List Str).map (thE ths0), rfl, S14.w, S14.gv, gv0_thing, by rw [os1_len]; decide, by decide +kernel, tb0.osok, a14, p14, by show 1 ≤ 100; decide, fun e he => ?_, fun r H15 s15 a15 => ?_⟩
      · obtain ⟨y, hy, rfl⟩ := List.mem_map.mp he
        rw [List.mem_singleton.mp hy]
        exact tb0.old n _ (thE_mem ths0_nd (tb0.inT nin))
      rw [eR] at a15
      have sk15 : Same H' H15 := s14.trans s15
      obtain ⟨q2, y2, z2, _⟩ := Ok.get ors0_nd mm
      have z2' := sk15 _ _ z2
      have hp2 : SqL K H15 q2 (row.map V.str) := SqL.of z2'
      have gw : ∀ i, i < row.length → (row.map V.str).getD i .non = .str (row.getD i "") := fun i hi => by
        rw [List.getD_eq_getElem?_getD, List.getD_eq_getElem?_getD, List.getElem?_map, List.getElem?_eq_getElem hi]; rfl
      have hT15 := hTk.fx (Same.fx sk15)
      refine ⟨_, rfl, _, rfl, od, .ref q2, rfl, by rw [← y2]; exact DGet.k (k := .inr n) (sk15 _ _ odk), q2, rfl, ⟨_, hp2⟩, [.ref td], ⟨rfl, fun j i h => ?_⟩, compG_one (vs := [.ref td]) (tc := tTrue) (row.map V.str).length (fun i => (row.map V.str).getD i .non) (fun _ => true) (fun i v H' => At K H' (dOf (thE ths0 (row.getD i ""))) v) (fun _ _ _ _ s z => At.same s _ _ z) (by rw [List.length_map]; omega) (itl_stop hp2) (itl_go hp2) (itl_yld hp2) (fun i H4 Q' hi s4 k => k H4 (Same.refl _)) (fun i H4 D' l' Q' hi _ s4 hD hl4 k => ?_) fun rl H16 ys hrl s16 r16 hP => ?_⟩
      · match j, h with
        | 0, h => cases h; exact ⟨_, rfl, rfl⟩
        | j + 1, h => simp at h
      · rw [List.length_map] at hi
        rw [gw i hi]
        have hgi : row.getD i "" ∈ row := by
          rw [List.getD_eq_getElem?_getD, List.getElem?_eq_getElem hi]; exact List.getElem_mem hi
        obtain ⟨v, a, b⟩ := hT15.get ths0_nd (thE_mem ths0_nd (tb0.inT (rin _ hgi)))
        refine ⟨_, rfl, _, rfl, td, v, rfl, ?_, k _ _ (Same.refl _) (At.wo hl4 _ _ (At.same s4 _ _ b))⟩
        rw [← a]
        exact DGet.k (k := .inr (row.getD i "")) (s4 _ _ (sk15 _ _ tdk))
      rw [List.filter_eq_self.mpr (fun _ _ => rfl), List.length_map] at hP
      have hA := AtAll.same (wo_same H16 rl) _ _ hP.at
      have e : (List.range row.length).map (fun i => dOf (thE ths0 (row.getD i ""))) = (row.map (thE ths0)).map dOf := by
        rw [List.map_map]
        have := range_filter row "" (fun _ => true) (fun n => dOf (thE ths0 n))
        rw [List.filter_eq_self.mpr (fun _ _ => rfl), List.filter_eq_self.mpr (fun _ _ => rfl)] at this
        exact this
      rw [e, tb0.dofs rin] at hA
      refine ⟨rl, ys, rfl, .inl ⟨SqL.of r16, fun t5 ht5 => ⟨by show 2 ≤ sizeLine; decide, fun dp hdp => ?_⟩⟩⟩
      have a17 : At K (upd (upd H16 t5 (.tup ys)) dp (.tup [.str "value", .ref t5])) (resD ixN9 (.inr row)) (.ref dp) := At.new hdp (AtAll2 (At_str.mpr rfl) (At.new ht5 hA))
      have s17 : Same H16 (upd (upd H16 t5 (.tup ys)) dp (.tup [.str "value", .ref t5])) := (same_new ht5 _).trans (same_new hdp _)
      exact ⟨_, _, At.same (s16.trans s17) _ _ a15, a17, Nat.le_trans (dep_res ixN9 row) (by decide), false, congrArg V.bl (by rw [eqD_refl]; rfl), iteF ⟨⟨_, rfl⟩, sj.trans (sk15.trans (s16.trans s17))⟩⟩
    case gstop =>
      rintro σ H14 ⟨⟨o9, rfl⟩, sj⟩
      have hI0 := hLp H14 (sF.trans sj)
      clear hLp
      refine ⟨_, rfl, m, 11, rfl, rfl, by show (0 : Int) < 11; decide, m % 11, rfl, by omega, by omega, for_range (n := (m % 11).toNat) (fun j σ H' => (∃ o9 o12 o13, σ = [some (.ref sc), some (.ref a), some (.ref b), some (.int m), o4, o5, o6, some (.ref W), some (.ref od), o9, some (.ref td), some (.ref qd), o12, o13, none]) ∧ LpI K c H' W l g0 od td qd a b (fun q => H3 q = none) okq (((ns.drop 1).take 39).map V.int) (300 + 100 * j) j oddN) ⟨⟨_, _, _, rfl⟩, hI0⟩ ?cturn ?cstop⟩
      case cturn =>
        rintro j σ H1 hj ⟨⟨o9, o12, o13, rfl⟩, n, os, ors, ths, ix, hS, hn, S, hq, hac, l1, l2, l3, nm1, nm2⟩
        have hj' : j < 11 := by omega
        obtain ⟨ok1, ho1, hO1⟩ := id S.o
        obtain ⟨tk1, ht1, hT1⟩ := id S.t
        refine ⟨_, rfl, _, rfl, _, rfl, od, ok1, rfl, ho1, fun p hp => ⟨_, rfl, qd, okq, rfl, by rw [upd_ne (fun z => by rw [z] at hq; rw [hq] at hp; cases hp)]; exact hq, fun p2 hp2 => ?_⟩⟩
        have c1 : upd (upd H1 p (.lst (ok1.map fun x => kV x.1))) p2 (.lst (okq.map fun x => kV x.1)) p2 = some (.lst (oddN.map V.str)) := by rw [kq]; exact upd_same
        have npp : p2 ≠ p := fun z => by rw [z, upd_same] at hp2; cases hp2
        have c2 : upd (upd H1 p (.lst (ok1.map fun x => kV x.1))) p2 (.lst (okq.map fun x => kV x.1)) p = some (.lst ((ors.map (·.1)).map V.str)) := by rw [upd_ne (Ne.symm npp), ← or_keys hO1]; exact upd_same
        have s2 : Same H1 (upd (upd H1 p (.lst (ok1.map fun x => kV x.1))) p2 (.lst (okq.map fun x => kV x.1))) := (same_new hp _).trans (same_new hp2 _)
        have hp20 : H1 p2 = none := (same_new hp _).free hp2
        revert c1 c2 s2
        generalize upd (upd H1 p (.lst (ok1.map fun x => kV x.1))) p2 (.lst (okq.map fun x => kV x.1)) = H2
        intro c1 c2 s2
        have hb1 := hS.spot
        have hS2 : Spot9 K H2 a b n := hS.go (Same.but b s2) (s2 _ _ hb1)
        refine ⟨a, b, p, p2, n, ors.map (·.1), oddN, rfl, hS2, by omega, SqL.of c2, fun z => (by rw [z, hb1] at hp; cases hp), by rw [List.length_map]; have := List.length_pos_of_mem S.tb.thing.1; rw [List.length_map] at this; exact this, by rw [List.length_map]; omega, SqL.of c1, fun z => (by rw [z, hb1] at hp20; cases hp20), by decide, by decide, fun el H4 n' els B4 hb4 hn' hel nel hel4 hlen hin => ?_⟩
        have S4 := (S.same s2).but B4 hS2.spot hb4 nbl nN
        have ex : ((0 : Int) + (j : Nat)) = ((0 : Int) + (j : Nat)) := rfl
        have slen := str_len j (by omega)
        have l1c : ("c" : Str).length = 1 := by decide +kernel
        refine ⟨_, rfl, _, rfl, _, rfl, _, rfl, _, rfl, _, rfl, log_small (by omega), ("c" : Str), strI (0 + (j : Nat)), rfl, rfl, small (by omega), ?_⟩
        refine ⟨W, l, g0, od, td, el, ("c" : Str) ++ strI (0 + (j : Nat)), fun q => H3 q = none, os, ors, ths, ix, els, rfl, S4, by omega, by omega, by omega, SqL.of hel4, by omega, fun x hx => ?_, fun z => nms_new (nms_c j hj') (nm1 _ z), fun H5 os' ors' ths' ix' F5 S5 e1 e2 e3 e4 e5 => ?_⟩
        · rcases hin x hx with h | h
          · exact S.tb.inT h
          · exact nm2 x h
        have hq2 := s2 _ _ hq
        have ha2 := s2 _ _ hac
        have ho2 := s2 _ _ ho1
        have ht2 := s2 _ _ ht1
        have nbq : qd ≠ b := fun z => by rw [z, hS2.spot] at hq2; cases hq2
        have hq4 := B4 _ _ nbq hq2
        have ha4 := B4 _ _ nab ha2
        have nao : a ≠ od := fun z => by rw [z, ho2] at ha2; cases ha2
        have nat' : a ≠ td := fun z => by rw [z, ht2] at ha2; cases ha2
        have nbo : b ≠ od := fun z => by rw [z, ho1] at hb1; cases hb1
        have nbt : b ≠ td := fun z => by rw [z, ht1] at hb1; cases hb1
        refine ⟨true, rfl, iteF ⟨⟨_, _, _, rfl⟩, n', os', ors', ths', ix', (hS2.go B4 hb4).fr3 F5 nal nao nat' nbl nbo nbt, by omega, S5, F5 _ _ nql nqo (Ne.symm ntq) hq4, F5 _ _ nal nao nat' ha4, by omega, by omega, by omega, fun x hx => nms_next (nms_c j hj') ((e4 x hx).imp (nm1 x) id), fun x hx => e5 x (nm2 x hx)⟩⟩
      case cstop =>
        rintro σ H1 ⟨⟨o9, o12, o13, rfl⟩, n, os, ors, ths, ix, hS, hn, S, hq, hac, l1, l2, l3, nm1, nm2⟩
        have h10 : (m % 11).toNat ≤ 10 := by omega
        generalize (m % 11).toNat = k10 at hn l1 l2 l3 nm1 h10
        obtain ⟨ok1, ho1, hO1⟩ := id S.o
        refine ⟨_, rfl, od, ok1, rfl, ho1, fun p hp => ?_⟩
        have c1 : upd H1 p (.lst (ok1.map fun x => kV x.1)) p = some (.lst ((ors.map (·.1)).map V.str)) := by rw [← or_keys hO1]; exact upd_same
        have s2 : Same H1 (upd H1 p (.lst (ok1.map fun x => kV x.1))) := same_new hp _
        revert c1 s2
        generalize upd H1 p (.lst (ok1.map fun x => kV x.1)) = H2
        intro c1 s2
        have hpos : 0 < ok1.length := by
          rw [hO1.1]
          have := List.length_pos_of_mem S.tb.thing.1
          rw [List.length_map] at this; exact this
        have hxl : ((ors.map (·.1)).map V.str).length = ok1.length := by rw [List.length_map, List.length_map, hO1.1]
        obtain ⟨vL, mL, aL⟩ := atI_mem9 (xs := (ors.map (·.1)).map V.str) (k := m / 11 % ((ok1.length : Nat) : Int)) (Int.emod_nonneg _ (by omega)) (by rw [hxl]; exact Int.emod_lt_of_pos _ (by omega))
        obtain ⟨last, hlast, rfl⟩ := List.mem_map.mp mL
        refine ⟨_, rfl, m, 11, rfl, rfl, ⟨by decide, by decide⟩, _, rfl, od, ok1, rfl, s2 _ _ ho1, m / 11, ((ok1.length : Nat) : Int), rfl, rfl, by show (0 : Int) < (ok1.length : Nat); omega, p, _, _, .str last, rfl, rfl, SqL.of c1, aL, ?_⟩
        have hI : LpI K c H2 W l g0 od td qd a b (fun q => H3 q = none) okq (((ns.drop 1).take 39).map V.int) 100000 11 (last :: oddN) := by
          refine ⟨n, os, ors, ths, ix, hS.go (Same.but b s2) (s2 _ _ hS.spot), by omega, S.same s2, s2 _ _ hq, s2 _ _ hac, by omega, by omega, by omega, fun x hx => nms_le (by omega) (nm1 x hx), fun x hx => ?_⟩
          rcases List.mem_cons.mp hx with rfl | hx
          · exact S.tb.inT hlast
          · exact nm2 x hx
        clear hI0 nm1 nm2 S hS hn hq hac hO1 aL mL
        have hv : ∃ v : Int, atI [V.int 0, V.int (36 + m / 66 % 6)] (if decide (V.int (m / 11 % 6) = V.int 1) = true then 1 else 0) = some (.int v) ∧ 0 ≤ v ∧ v ≤ 41 := by
          cases decide (V.int (m / 11 % 6) = V.int 1) with
          | true => exact ⟨36 + m / 66 % 6, rfl, by omega, by omega⟩
          | false => exact ⟨0, rfl, by omega, by omega⟩
        obtain ⟨v, hv1, hv2, hv3⟩ := hv
        refine ⟨_, rfl, m, 66, rfl, rfl, ⟨by decide, by decide⟩, m / 66, 6, rfl, rfl, by show (0 : Int) < 6; decide, 36, m / 66 % 6, rfl, rfl, by show 2 ≤ sizeLine; decide, fun lp hlp => ?_⟩
        have s3 : Same H2 (upd H2 lp (.lst [.int 0, .int (36 + m / 66 % 6)])) := same_new hlp _
        have c3 : upd H2 lp (.lst [.int 0, .int (36 + m / 66 % 6)]) lp = some (.lst [.int 0, .int (36 + m / 66 % 6)]) := upd_same
        revert s3 c3
        generalize upd H2 lp (.lst [.int 0, .int (36 + m / 66 % 6)]) = H4
        intro s3 c3
        have hI4 : LpI K c H4 W l g0 od td qd a b (fun q => H3 q = none) okq (((ns.drop 1).take 39).map V.int) 100000 11 (last :: oddN) := by
          obtain ⟨n, os, ors, ths, ix, hS, hn, S, hq, hac, l1, l2, l3, nm1, nm2⟩ := hI
          exact ⟨n, os, ors, ths, ix, hS.go (Same.but b s3) (s3 _ _ hS.spot), hn, S.same s3, s3 _ _ hq, s3 _ _ hac, l1, l2, l3, nm1, nm2⟩
        clear hI
        refine ⟨_, rfl, m, 11, rfl, rfl, ⟨by decide, by decide⟩, m / 11, 6, rfl, rfl, by show (0 : Int) < 6; decide, rfl, .inr ⟨_, rfl, lp, _, _, .int v, rfl, rfl, SqL.of c3, hv1, v, rfl, by omega, by omega, ?_⟩⟩
        refine for_range (n := v.toNat) (fun j σ H' => ∃ o9 o12 o13 last, σ = [some (.ref sc), some (.ref a), some (.ref b), some (.int m), o4, o5, o6, some (.ref W), some (.ref od), o9, some (.ref td), some (.ref qd), o12, o13, some (.str last)] ∧ LpI K c H' W l g0 od td qd a b (fun q => H3 q = none) okq (((ns.drop 1).take 39).map V.int) 100000 (11 + j) (last :: oddN)) ⟨_, _, _, last, rfl, hI4⟩ ?dturn ?dstop
        case dstop =>
          rintro σ H5 _
          exact q _
        case dturn =>
          rintro j σ H1 hj ⟨o9, o12, o13, last, rfl, n, os, ors, ths, ix, hS, hn, S, hq, hac, l1, l2, l3, nm1, nm2⟩
          have hj' : j < 42 := by omega
          obtain ⟨ok1, ho1, hO1⟩ := id S.o
          obtain ⟨tk1, ht1, hT1⟩ := id S.t
          have hb1 := hS.spot
          have slen := str_len j hj'
          have l1d : ("d" : Str).length = 1 := by decide +kernel
          have nmd : nms[17 + (11 + j)]? = some (("d" : Str) ++ strI (0 + (j : Nat))) := by
            have := nms_d j hj'
            rw [show 17 + (11 + j) = 28 + j by omega]; exact this
          refine ⟨_, rfl, _, rfl, _, rfl, _, rfl, by show 1 ≤ sizeLine; decide, fun el hel => ?_⟩
          have s4 : Same H1 (upd H1 el (.lst [.str last])) := same_new hel _
          have c4 : upd H1 el (.lst [.str last]) el = some (.lst (([last] : List Str).map V.str)) := upd_same
          revert s4 c4
          generalize upd H1 el (.lst [.str last]) = H5
          intro s4 c4
          refine ⟨_, rfl, _, rfl, log_small hj', ("d" : Str), strI (0 + (j : Nat)), rfl, rfl, small (by omega), ?_⟩
          refine ⟨W, l, g0, od, td, el, ("d" : Str) ++ strI (0 + (j : Nat)), fun q => H3 q = none, os, ors, ths, ix, [last], rfl, S.same s4, by omega, by omega, by omega, SqL.of c4, by show 1 ≤ 100; decide, fun x hx => ?_, fun z => nms_new nmd (nm1 _ z), fun H6 os' ors' ths' ix' F5 S5 e1 e2 e3 e4 e5 => ?_⟩
          · rw [List.mem_singleton.mp hx]; exact nm2 last List.mem_cons_self
          have hq5 := s4 _ _ hq
          have ha5 := s4 _ _ hac
          have hS5 : Spot9 K H5 a b n := hS.go (Same.but b s4) (s4 _ _ hb1)
          have nao : a ≠ od := fun z => by rw [z, ho1] at hac; cases hac
          have nat' : a ≠ td := fun z => by rw [z, ht1] at hac; cases hac
          have nbo : b ≠ od := fun z => by rw [z, ho1] at hb1; cases hb1
          have nbt : b ≠ td := fun z => by rw [z, ht1] at hb1; cases hb1
          obtain ⟨ok6, ho6, hO6⟩ := id S5.o
          have nxt : ∀ last', last' ∈ ths'.map (·.1) → LpI K c H6 W l g0 od td qd a b (fun q => H3 q = none) okq (((ns.drop 1).take 39).map V.int) 100000 (11 + (j + 1)) (last' :: oddN) := fun last' hl' => by
            refine ⟨n, os', ors', ths', ix', hS5.fr3 F5 nal nao nat' nbl nbo nbt, hn, S5, F5 _ _ nql nqo (Ne.symm ntq) hq5, F5 _ _ nal nao nat' ha5, by omega, by omega, by omega, fun x hx => nms_next nmd ((e4 x hx).imp (nm1 x) id), fun x hx => ?_⟩
            rcases List.mem_cons.mp hx with rfl | hx
            · exact hl'
            · exact e5 x (nm2 x (List.mem_cons_of_mem _ hx))
          refine ⟨true, rfl, iteF ?_⟩
          refine ⟨_, rfl, _, rfl, log_small hj', ("d" : Str), strI (0 + (j : Nat)), rfl, rfl, small (by omega), _, rfl, od, valV ok6 (.inr (("d" : Str) ++ strI (0 + (j : Nat)))), rfl, DGet.k (k := .inr (("d" : Str) ++ strI (0 + (j : Nat)))) ho6, _, rfl, ?_⟩
          cases hval : valV ok6 (.inr (("d" : Str) ++ strI (0 + (j : Nat)))) with
          | none => exact iteF ⟨_, rfl, _, _, _, _, rfl, nxt last (e5 last (nm2 last List.mem_cons_self))⟩
          | some u =>
            have hin6 : ("d" : Str) ++ strI (0 + (j : Nat)) ∈ ors'.map (·.1) := Decidable.byContradiction fun z => by rw [hO6.out z] at hval; cases hval
            exact iteT ⟨_, rfl, _, rfl, log_small hj', ("d" : Str), strI (0 + (j : Nat)), rfl, rfl, small (by omega), _, _, _, _, rfl, nxt _ (S5.tb.inT hin6)⟩
end
end GS
set_option Elab.async false
set_option linter.all false
set_option maxRecDepth 100000
set_option maxHeartbeats 4000000
namespace GS
open PySem PyProof.Rows
open L2 hiding pe_int pe_bl pe_non pe_str pv pe_glob pe_bltn pe_op pe_cmpR pe_one pe_and pe_ifExp pe_ix po_none po_some pe_slice pa_nil pa_cons pe_lst pe_tup pe_dnewK pe_callB pe_callTy pe_bm pt_cmpR pt_val pt_not pw_and1 pw_or1 pw_and pw_or pg_name pgs_nil pgs_cons pg_tup pi_list pi_tup pi_range1 ps_ret ps_expr ps_set ps_asg ps_if ps_while ps_for pss_nil pss_cons pss_one
open L3
/-! ### what the top has written -/
def FunAt9 (K : PySem.W.Frag) (mg : Str → Option Value) (name : Str) (st : Stmt) : Prop := ∃ (f : Addr) (fd : FuncData), mg name = some (.ref f) ∧ Fun K name name st f fd
theorem fun_at9 {K : PySem.W.Frag} {h : Heap} {mg : Str → Option Value} {name : Str} {st : Stmt} {f : Addr} {oc : Value} {od an : Option Addr} {osl : Array (Option Value)} {kV doc pm cdv ct : Value} (X : K.In h) (G : h.Ns mainGlobals mg)
    (a : PySem.W.nsIn K mainGlobals name = some (some (.ref f))) (l : K.lookup f = some ⟨oc, od, .func (PySem.W.fnOf name name (defArgs st) (defBody st) (defScope st) .none kV doc pm an cdv ct), osl⟩)
    (c : PySem.W.codeIn K cdv name = true) (k : PySem.W.keepIn K (.ref f) = true) : FunAt9 K mg name st := ⟨f, _, PySem.W.mg_of X G a, fun_mk l c k⟩
def IniAt9 (K : PySem.W.Frag) (mg : Str → Option Value) (name qual : Str) (st : Stmt) (C : Addr) : Prop := ∃ (f : Addr) (fd : FuncData), mg name = some (.ref C) ∧ Mk K C f ∧ Fun K "__init__" qual st f fd
theorem ini_at9 {K : PySem.W.Frag} {h : Heap} {mg : Str → Option Value} {name qual : Str} {st : Stmt} {C f : Addr} {oc : Value} {od an : Option Addr} {osl : Array (Option Value)} {kV doc pm cdv ct : Value} (X : K.In h) (G : h.Ns mainGlobals mg)
    (a : PySem.W.nsIn K mainGlobals name = some (some (.ref C))) (m : Mk K C f) (l : K.lookup f = some ⟨oc, od, .func (PySem.W.fnOf "__init__" qual (defArgs st) (defBody st) (defScope st) .none kV doc pm an cdv ct), osl⟩) (cc : PySem.W.codeIn K cdv qual = true) (k : PySem.W.keepIn K (.ref f) = true) : IniAt9 K mg name qual st C :=
  ⟨f, _, PySem.W.mg_of X G a, m, fun_mk l cc k⟩
structure Cz (K : PySem.W.Frag) (mg : Str → Option Value) (c : Cl9) : Prop where
  z : Cs9 K c
  iF : IniAt9 K mg "Function" "Function.__init__" pFnI c.F
  iG : IniAt9 K mg "Given" "Given.__init__" pGvI c.G
  iK : IniAt9 K mg "Kind" "Kind.__init__" pKdI c.Kd
  iW : IniAt9 K mg "World" "World.__init__" pWI c.W
theorem cz_at {K : PySem.W.Frag} {mg : Str → Option Value} {F G Kd W : Addr} (jF : IniAt9 K mg "Function" "Function.__init__" pFnI F) (jG : IniAt9 K mg "Given" "Given.__init__" pGvI G) (jK : IniAt9 K mg "Kind" "Kind.__init__" pKdI Kd) (jW : IniAt9 K mg "World" "World.__init__" pWI W) (kc : Cls K Kd) (k1 : NoAttr K Kd "name") (k2 : NoAttr K Kd "order") (k3 : NoAttr K Kd "fields") (k4 : NoAttr K Kd "is_given") (wc : Cls K W) (w1 : NoAttr K W "lines") (w2 : NoAttr K W "left") (w3 : NoAttr K W "things") (w4 : NoAttr K W "given") (gc : Cls K G) (g1 : NoAttr K G "name") (fc : Cls K F) (f1 : NoAttr K F "name") (f2 : NoAttr K F "params") (f3 : NoAttr K F "defaults") (f4 : NoAttr K F "code") (f5 : NoAttr K F "around") (f6 : NoAttr K F "gives") (iK : OwnI K Kd) (iG : OwnI K G) (iF : OwnI K F) (tK : PySem.W.kitOne K (.ref Kd) (.ref Kd) = some true) (tG : PySem.W.kitOne K (.ref G) (.ref Kd) = some false) (tF : PySem.W.kitOne K (.ref F) (.ref Kd) = some false) (tN : PySem.W.kitOne K (.type "NoneType") (.ref Kd) = some false) : ∃ c, Cz K mg c :=
  ⟨⟨F, G, Kd, W⟩, ⟨kc, k1, k2, k3, k4, wc, w1, w2, w3, w4, gc, g1, fc, f1, f2, f3, f4, f5, f6, iK, iG, iF, tK, tG, tF, tN⟩, jF, jG, jK, jW⟩
/-! ### tuples that the top wrote -/
def strVs : List Str → List Value → Bool
  | [], [] => true
  | x :: xs, .str y _ :: vs => x == y && strVs xs vs
  | _, _ => false
def itsK (K : PySem.W.Frag) : Value → Option (List Value)
  | .ref a => match K.lookup a with
    | some ⟨.type "tuple", _, .seq its _, _⟩ => if its.size ≤ sizeLine then some its.toList else none
    | _ => none
  | _ => none
def strsK (K : PySem.W.Frag) (xs : List Str) (v : Value) : Bool := match itsK K v with
  | some vs => strVs xs vs
  | none => false
def pairK (K : PySem.W.Frag) (x : Str × List Str) (v : Value) : Bool := match itsK K v with
  | some [.str y _, u] => x.1 == y && strsK K x.2 u
  | _ => false
def pairVs (K : PySem.W.Frag) : List (Str × List Str) → List Value → Bool
  | [], [] => true
  | x :: xs, v :: vs => pairK K x v && pairVs K xs vs
  | _, _ => false
def pairsK (K : PySem.W.Frag) (xs : List (Str × List Str)) (v : Value) : Bool := match itsK K v with
  | some vs => pairVs K xs vs
  | none => false
theorem itsK_sq {K : PySem.W.Frag} {v : Value} {vs : List Value} (h : itsK K v = some vs) : ∃ a, v = .ref a ∧ ∀ (H : Hp) (us : List V), Vals us vs → SqT K H a us := by
  unfold itsK at h
  split at h
  · rename_i a
    refine ⟨a, rfl, fun H us r => ?_⟩
    split at h
    · rename_i d its n sl hl
      split at h
      · rename_i hz
        injection h with h
        exact .inr ⟨_, its, n, hl, rfl, rfl, hz, by rw [h]; exact r⟩
      · cases h
    · cases h
  · cases h
theorem strVs_at {K : PySem.W.Frag} : ∀ {xs : List Str} {vs : List Value}, strVs xs vs = true → Vals (xs.map V.str) vs
  | [], [], _ => .nil
  | [], _ :: _, h => by simp [strVs] at h
  | x :: xs, [], h => by simp [strVs] at h
  | x :: xs, v :: vs, h => by
    cases v with
    | str y t =>
      rw [strVs, Bool.and_eq_true] at h
      exact .cons ⟨t, by rw [eq_of_beq h.1]⟩ (strVs_at (K := K) h.2)
    | _ => simp [strVs] at h
theorem strs_all {K : PySem.W.Frag} {H : Hp} : ∀ (xs : List Str), AtAll K H (xs.map D.str) (xs.map V.str)
  | [] => AtAll_nil.mpr rfl
  | x :: xs => AtAll_cons.mpr ⟨_, _, rfl, At_str.mpr rfl, strs_all xs⟩
theorem strsK_at {K : PySem.W.Frag} {xs : List Str} {v : Value} (h : strsK K xs v = true) : ∃ a, v = .ref a ∧ ∀ H, SqT K H a (xs.map V.str) := by
  unfold strsK at h
  split at h
  · rename_i vs e
    obtain ⟨a, rfl, q⟩ := itsK_sq e
    exact ⟨a, rfl, fun H => q H _ (strVs_at (K := K) h)⟩
  · cases h
theorem pairK_at {K : PySem.W.Frag} {x : Str × List Str} {v : Value} (h : pairK K x v = true) : ∃ a, v = .ref a ∧ ∀ H, At K H (.tup [.str x.1, .tup (x.2.map D.str)]) (.ref a) := by
  unfold pairK at h
  split at h
  · rename_i y t u e
    rw [Bool.and_eq_true] at h
    obtain ⟨a, rfl, q⟩ := itsK_sq e
    obtain ⟨b, rfl, q2⟩ := strsK_at h.2
    refine ⟨a, rfl, fun H => At_tup.mpr ⟨a, [.str x.1, .ref b], rfl, q H _ (.cons ⟨t, by rw [eq_of_beq h.1]⟩ (.cons rfl .nil)), AtAll2 (At_str.mpr rfl) (At_tup.mpr ⟨b, _, rfl, q2 H, strs_all x.2⟩)⟩⟩
  · cases h
theorem pairVs_at {K : PySem.W.Frag} : ∀ {xs : List (Str × List Str)} {vs : List Value}, pairVs K xs vs = true → ∃ us : List V, Vals us vs ∧ ∀ H, AtAll K H (xs.map fun x => .tup [.str x.1, .tup (x.2.map D.str)]) us
  | [], [], _ => ⟨[], .nil, fun _ => AtAll_nil.mpr rfl⟩
  | [], _ :: _, h => by simp [pairVs] at h
  | x :: xs, [], h => by simp [pairVs] at h
  | x :: xs, v :: vs, h => by
    rw [pairVs, Bool.and_eq_true] at h
    obtain ⟨a, rfl, q⟩ := pairK_at h.1
    obtain ⟨us, r, q2⟩ := pairVs_at h.2
    exact ⟨.ref a :: us, .cons rfl r, fun H => AtAll_cons.mpr ⟨_, _, rfl, q H, q2 H⟩⟩
theorem tree_f {K : PySem.W.Frag} {h : Heap} {mg : Str → Option Value} {p : Addr} (X : K.In h) (G : h.Ns mainGlobals mg) (a : PySem.W.nsIn K mainGlobals "GIVEN_FUNCTIONS" = some (some (.ref p))) (e : strsK K gfN (.ref p) = true) : TreeG K mg "GIVEN_FUNCTIONS" gfD := by
  obtain ⟨q, eq, r⟩ := strsK_at e
  cases eq
  exact ⟨p, _, PySem.W.mg_of X G a, fun H => ⟨r H, strs_all gfN⟩⟩
theorem tree_c {K : PySem.W.Frag} {h : Heap} {mg : Str → Option Value} {p : Addr} (X : K.In h) (G : h.Ns mainGlobals mg) (a : PySem.W.nsIn K mainGlobals "GIVEN_CLASSES" = some (some (.ref p))) (e : pairsK K gcN (.ref p) = true) : TreeG K mg "GIVEN_CLASSES" gcD := by
  unfold pairsK at e
  split at e
  · rename_i vs ev
    obtain ⟨q, eq, r⟩ := itsK_sq ev
    cases eq
    obtain ⟨us, r1, r2⟩ := pairVs_at e
    exact ⟨p, us, PySem.W.mg_of X G a, fun H => ⟨r H us r1, r2 H⟩⟩
  · cases e
theorem int_at9 {K : PySem.W.Frag} {h : Heap} {mg : Str → Option Value} {name : Str} {x z : Int} {t : Tok} (X : K.In h) (G : h.Ns mainGlobals mg) (a : PySem.W.nsIn K mainGlobals name = some (some (.int x t))) (e : x = z) : ∃ t, mg name = some (.int z t) := ⟨t, by rw [← e]; exact PySem.W.mg_of X G a⟩
section
variable {P : Program} {w : World} {K : PySem.W.Frag} {mg : Str → Option Value}
theorem law_of9 (g : Glb9 mg) (cz : ∃ c, Cz K mg c) (tf : TreeG K mg "GIVEN_FUNCTIONS" gfD) (tc : TreeG K mg "GIVEN_CLASSES" gcD) (hM : ∃ t, mg "MOST_CLASSES" = some (.int 40 t)) (f1 : FunAt9 K mg "added" pAdd) (f2 : FunAt9 K mg "thing_of" pTh) (f3 : FunAt9 K mg "known" pKn) (f4 : FunAt9 K mg "function" pFn) (f5 : FunAt9 K mg "new_class" pNew) (f6 : FunAt9 K mg "is_class" pIsC) (f7 : FunAt9 K mg "is_same" pSame) (f8 : FunAt9 K mg "is_behind_head" pBeh) (f9 : FunAt9 K mg "place_of_free" pFree) (f10 : FunAt9 K mg "without_head" pWo) (f11 : FunAt9 K mg "merged" pMrg) (f12 : FunAt9 K mg "order_of" pOrd) (f13 : FunAt9 K mg "class_of" pCO) (f14 : FunAt9 K mg "_law_cell_at" sAt9) (f15 : FunAt9 K mg "_law_cell" sCell9) (f16 : FunAt9 K mg "_law_same" sSame) (f17 : FunAt9 K mg "_law_merged" sLM) (f18 : FunAt9 K mg "_law_given_orders" sGO) (f19 : FunAt9 K mg "_law_order" sLO) (f20 : FunAt9 K mg "_law_lists" sLists) (f21 : FunAt9 K mg "_law_elders" sEl) (f22 : FunAt9 K mg "_law_made" sMd) (f23 : FunAt9 K mg "law" sLaw9)
    {fa : Addr} (hfa : mg "law" = some (.ref fa)) :
    ∃ fd : FuncData, (∀ (s : Shared) (v : Value), BindsTo s fd ⟨[v], []⟩ [("_law_script", v)]) ∧ ∀ base : Heap, FnOk P w K mg base CX0 7 fa fd ["_law_script"] (spLaw9 K) := by
  obtain ⟨c, z, ⟨aF, dF, mF, kF, FF⟩, ⟨aG, dG, mG, kG, FG⟩, ⟨aK, dK, mK, kK, FK⟩, ⟨aW, dW, mW, kW, FW⟩⟩ := cz
  obtain ⟨a1, d1, m1, F1⟩ := f1
  obtain ⟨a2, d2, m2, F2⟩ := f2
  obtain ⟨a3, d3, m3, F3⟩ := f3
  obtain ⟨a4, d4, m4, F4⟩ := f4
  obtain ⟨a5, d5, m5, F5⟩ := f5
  obtain ⟨a6, d6, m6, F6⟩ := f6
  obtain ⟨a7, d7, m7, F7⟩ := f7
  obtain ⟨a8, d8, m8, F8⟩ := f8
  obtain ⟨a9, d9, m9, F9⟩ := f9
  obtain ⟨a10, d10, m10, F10⟩ := f10
  obtain ⟨a11, d11, m11, F11⟩ := f11
  obtain ⟨a12, d12, m12, F12⟩ := f12
  obtain ⟨a13, d13, m13, F13⟩ := f13
  obtain ⟨a14, d14, m14, F14⟩ := f14
  obtain ⟨a15, d15, m15, F15⟩ := f15
  obtain ⟨a16, d16, m16, F16⟩ := f16
  obtain ⟨a17, d17, m17, F17⟩ := f17
  obtain ⟨a18, d18, m18, F18⟩ := f18
  obtain ⟨a19, d19, m19, F19⟩ := f19
  obtain ⟨a20, d20, m20, F20⟩ := f20
  obtain ⟨a21, d21, m21, F21⟩ := f21
  obtain ⟨a22, d22, m22, F22⟩ := f22
  obtain ⟨a23, d23, m23, F23⟩ := f23
  rw [m23] at hfa
  have ea : a23 = fa := by injection hfa with e; injection e
  subst ea
  refine ⟨d23, fun s v => ?_, fun base => ?_⟩
  · obtain ⟨oc, od, kV, doc, pm, an, cdv, ct, osl, rfl, lk, hcd⟩ := F23.ex
    exact .of_eq rfl
  have D1 : Def P w K mg base "added" ["world", "thing"] 1 (spAdd K c) := def_mk F1 m1 (F1.binds fun _ _ _ _ _ _ us hl => match us, hl with | [_, _], _ => rfl) (ok_Add g z F1)
  have D2 : Def P w K mg base "thing_of" ["world", "a"] 1 (spTh K c) := def_mk F2 m2 (F2.binds fun _ _ _ _ _ _ us hl => match us, hl with | [_, _], _ => rfl) (ok_Th z F2)
  have D3 : Def P w K mg base "known" ["world", "name"] 1 (spKn K c) := def_mk F3 m3 (F3.binds fun _ _ _ _ _ _ us hl => match us, hl with | [_, _], _ => rfl) (ok_Kn z F3)
  have MF : MkDef P w K mg base "Function" c.F ["self", "name", "params", "defaults", "code", "around", "gives"] 1 (spFnI c.F) := ⟨aF, dF, mF, kF, (FF.binds fun _ _ _ _ _ _ us hl => match us, hl with | [_, _, _, _, _, _, _], _ => rfl), ok_FnI z FF⟩
  have MG : MkDef P w K mg base "Given" c.G ["self", "name"] 1 (spGvI c.G) := ⟨aG, dG, mG, kG, (FG.binds fun _ _ _ _ _ _ us hl => match us, hl with | [_, _], _ => rfl), ok_GvI z FG⟩
  have MK : MkDef P w K mg base "Kind" c.Kd ["self", "name", "order", "fields", "is_given"] 1 (spKdI c.Kd) := ⟨aK, dK, mK, kK, (FK.binds fun _ _ _ _ _ _ us hl => match us, hl with | [_, _, _, _, _], _ => rfl), ok_KdI z FK⟩
  have D4 : Def P w K mg base "function" ["world", "name", "params", "defaults", "code", "around", "gives"] 3 (spFn K c) := def_mk F4 m4 (F4.binds fun _ _ _ _ _ _ us hl => match us, hl with | [_, _, _, _, _, _, _], _ => rfl) (ok_Fn MF F4 D1)
  have D5 : Def P w K mg base "new_class" ["world", "name", "behind", "fields", "is_given"] 3 (spNew K c) := def_mk F5 m5 (F5.binds fun _ _ _ _ _ _ us hl => match us, hl with | [_, _, _, _, _], _ => rfl) (ok_New g z MK F5 D1)
  have D6 : Def P w K mg base "is_class" ["world", "a"] 2 (spIsC K c) := def_mk F6 m6 (F6.binds fun _ _ _ _ _ _ us hl => match us, hl with | [_, _], _ => rfl) (ok_IsC g z mK F6 D2)
  have D7 : Def P w K mg base "is_same" ["one", "other"] 1 (spSame9 K) := def_mk F7 m7 (F7.binds fun _ _ _ _ _ _ us hl => match us, hl with | [_, _], _ => rfl) (ok_Is g F7)
  have D8 : Def P w K mg base "is_behind_head" ["thing", "row"] 2 (spBeh K) := def_mk F8 m8 (F8.binds fun _ _ _ _ _ _ us hl => match us, hl with | [_, _], _ => rfl) (ok_Beh g F8 D7)
  have D9 : Def P w K mg base "place_of_free" ["rows"] 3 (spFree K) := def_mk F9 m9 (F9.binds fun _ _ _ _ _ _ us hl => match us, hl with | [_], _ => rfl) (ok_Free g F9 D8)
  have D10 : Def P w K mg base "without_head" ["rows", "head"] 2 (spWo K) := def_mk F10 m10 (F10.binds fun _ _ _ _ _ _ us hl => match us, hl with | [_, _], _ => rfl) (ok_Wo g F10 D7)
  have D11 : Def P w K mg base "merged" ["rows"] 4 (spMrg K) := def_mk F11 m11 (F11.binds fun _ _ _ _ _ _ us hl => match us, hl with | [_], _ => rfl) (ok_Mrg g F11 D9 D10)
  have D12 : Def P w K mg base "order_of" ["world", "elders"] 5 (spOrd K c) := def_mk F12 m12 (F12.binds fun _ _ _ _ _ _ us hl => match us, hl with | [_, _], _ => rfl) (ok_Ord g z hM F12 D6 D2 D3 D11)
  have D13 : Def P w K mg base "class_of" ["world", "name", "order", "fields"] 4 (spCO K c) := def_mk F13 m13 (F13.binds fun _ _ _ _ _ _ us hl => match us, hl with | [_, _, _, _], _ => rfl) (ok_CO F13 D5)
  have D14 : Def P w K mg base "_law_cell_at" ["_law_script", "_law_k"] 1 (spAt9 K) := def_mk F14 m14 (F14.binds fun _ _ _ _ _ _ us hl => match us, hl with | [_, _], _ => rfl) (ok_At9 g F14)
  have D15 : Def P w K mg base "_law_cell" ["_law_cells", "_law_spot"] 1 (spCell9 K) := def_mk F15 m15 (F15.binds fun _ _ _ _ _ _ us hl => match us, hl with | [_, _], _ => rfl) (ok_Cell9 g F15)
  have b16 : Binds K d16 ["_law_found", "_law_due"] [] := (F16.binds fun _ _ _ _ _ _ us hl => match us, hl with | [_, _], _ => rfl)
  have D16 : Def P w K mg base "_law_same" ["_law_found", "_law_due"] 5 (spSm K 5) := def_mk F16 m16 b16 (ok_Sm g F16 m16 b16 5)
  have D17 : Def P w K mg base "_law_merged" ["_law_rows"] 1 (spLM K) := def_mk F17 m17 (F17.binds fun _ _ _ _ _ _ us hl => match us, hl with | [_], _ => rfl) (ok_LM g F17)
  have D18 : Def P w K mg base "_law_given_orders" [] 1 (spGO) := def_mk F18 m18 (F18.binds fun _ _ _ _ _ _ us hl => match us, hl with | [], _ => rfl) (ok_GO g F18)
  have D19 : Def P w K mg base "_law_order" ["_law_orders", "_law_elders_here"] 2 (spLO K) := def_mk F19 m19 (F19.binds fun _ _ _ _ _ _ us hl => match us, hl with | [_, _], _ => rfl) (ok_LO g F19 D17)
  have D20 : Def P w K mg base "_law_lists" ["_law_cells", "_law_spot"] 2 (spLists K) := def_mk F20 m20 (F20.binds fun _ _ _ _ _ _ us hl => match us, hl with | [_, _], _ => rfl) (ok_Lists g F20 D15)
  have D21 : Def P w K mg base "_law_elders" ["_law_cells", "_law_spot", "_law_names", "_law_odd"] 2 (spEl K) := def_mk F21 m21 (F21.binds fun _ _ _ _ _ _ us hl => match us, hl with | [_, _, _, _], _ => rfl) (ok_El g F21 D15)
  have D22 : Def P w K mg base "_law_made" ["_law_world", "_law_orders", "_law_things", "_law_elders_here", "_law_name"] 6 (spMd K c) := def_mk F22 m22 (F22.binds fun _ _ _ _ _ _ us hl => match us, hl with | [_, _, _, _, _], _ => rfl) (ok_Md g F22 D19 D12 D16 D13)
  have MW : MkDef P w K mg base "World" c.W ["self", "inputs"] 4 (spWI K c) := ⟨aW, dW, mW, kW, (FW.binds fun _ _ _ _ _ _ us hl => match us, hl with | [_, _], _ => rfl), ok_WI g z tf tc MG FW D1 D5⟩
  exact ok_Law9 g F23 D14 D20 D11 D17 D16 MW D18 D3 D4 D12 D21 D22
end
theorem walk9 {l : PySem.W.OpenLaw} {q : Program} {loose : List Str} {XP : (Str → Option Value) → Heap → Prop} {YP : World → Heap → Prop} {d : DefRec} {K : Params → PySem.W.Frag} (hn : l.most = some 63) (hdf : d.params.defaults = [])
    (hY : ∀ (w : World) (h : Heap), YP w h → (K w.params).In h)
    (F : ∀ (w : World) (mg : Str → Option Value) (fa : Addr) (h : Heap), (K w.params).In h → h.Ns mainGlobals mg → mg d.name = some (.ref fa) →
      ∃ fd : FuncData, (∀ (s : Shared) (u : Value), BindsTo s fd ⟨[u], []⟩ [("_law_script", u)]) ∧ ∀ base : Heap, FnOk l.prog w (K w.params) mg base CX0 7 fa fd ["_law_script"] (spLaw9 (K w.params))) :
    PySem.W.WalkO q loose XP YP l.row.toRowW d [] (fun f vs => PySem.call f vs) :=
  L2.walk_of (n := 63) (k := 7) (x := "_law_script") (CX := fun _ => CX0) (sp := fun w => spLaw9 (K w.params)) hn (by decide) hdf ⟨rfl, by decide, by decide, rfl⟩ hY (fun w mg fa h a b c => let ⟨fd, p, q⟩ := F w mg fa h a b c; ⟨fd, p, fun base _ _ => q base⟩) (fun _ _ a ns hl _ hS => ⟨a, ns, rfl, hS, hl, fun _ => rfl⟩) fun _ _ _ _ _ z => z
end GS
open PySem PySem.W
set_option maxRecDepth 100000 in
set_option maxHeartbeats 0 in
theorem PySem.Challenge.cw_grassnake_k09_orders_of_classes_holds : PySem.Challenge.rw_grassnake_k09_orders_of_classes.Holds := by
  refine holds_law GS.said9 fun said => ?_
  refine W.holds_open (q := GS.q9) (loose := []) (Xt := fun s => xlAt GS.q9 [] s && recOk (RowW.records (OpenRow.toRowW (OpenLaw.row GS.r9))) s) (XP := XL GS.q9 []) (Yf := Hook.obs (kHook GS.K9h GS.asK9h GS.eK9h)) (Ya := Hook.val (kHook GS.K9h GS.asK9h GS.eK9h)) (YP := Hook.says (kHook GS.K9h GS.asK9h GS.eK9h)) (N := 3574) GS.left9 (Hook.of _) (Hook.keeps _) (fun s e => xl_of s (Bool.and_eq_true_iff.mp e).1) XL.keeps (by rfl) (by rfl) (by rfl) (fun s e => recFacts_of (Bool.and_eq_true_iff.mp e).2) (by rfl) said (by decide +kernel) ⟨rfl, rfl, rfl, rfl, rfl, by decide +kernel⟩ ?hw ?hc
  case hw => w_witness2
  k_fill
  refine GS.walk9 (l := GS.r9) rfl rfl (fun w h Y => PySem.W.kIn_of Y) ?F
  case F =>
    intro w mg fa h KX G hmg
    have g : GS.Glb9 mg := by
      refine' ⟨?_, ?_, ?_, ?_, ?_, ?_, ?_, ?_, ?_, ?_, ?_, ?_, ?_, ?_, ?_, ?_⟩
      all_goals (refine' PySem.W.mg_none_of KX G ?a; (case a => k_is))
    have hM : ∃ t, mg "MOST_CLASSES" = some (.int 40 t) := by
      refine' GS.int_at9 KX G ?a ?e; (case a => k_is); (case e => decide)
    have tf : GS.TreeG (L2.KOf KX) mg "GIVEN_FUNCTIONS" GS.gfD := by
      dsimp only [L2.KOf]
      refine' GS.tree_f KX G ?a ?e; (case a => k_is); (case e => kernel_rfl)
    have tc : GS.TreeG (L2.KOf KX) mg "GIVEN_CLASSES" GS.gcD := by
      dsimp only [L2.KOf]
      refine' GS.tree_c KX G ?a ?e; (case a => k_is); (case e => kernel_rfl)
    have cz : ∃ c, GS.Cz (L2.KOf KX) mg c := by
      dsimp only [L2.KOf]
      refine' GS.cz_at (GS.ini_at9 KX G ?_ ⟨?_, ?_, ?_, ?_⟩ ?_ ?_ ?_) (GS.ini_at9 KX G ?_ ⟨?_, ?_, ?_, ?_⟩ ?_ ?_ ?_) (GS.ini_at9 KX G ?_ ⟨?_, ?_, ?_, ?_⟩ ?_ ?_ ?_) (GS.ini_at9 KX G ?_ ⟨?_, ?_, ?_, ?_⟩ ?_ ?_ ?_) ⟨?_, ?_, ?_, ?_⟩ ?_ ?_ ?_ ?_ ⟨?_, ?_, ?_, ?_⟩ ?_ ?_ ?_ ?_ ⟨?_, ?_, ?_, ?_⟩ ?_ ⟨?_, ?_, ?_, ?_⟩ ?_ ?_ ?_ ?_ ?_ ?_ ⟨?_, ?_, ?_, ?_, ?_, ?_⟩ ⟨?_, ?_, ?_, ?_, ?_, ?_⟩ ⟨?_, ?_, ?_, ?_, ?_, ?_⟩ ?_ ?_ ?_ ?_
      repeat any_goals first | k_is | (unfold L2.NoAttr; k_is) | rfl
    refine GS.law_of9 g cz tf tc hM ?_ ?_ ?_ ?_ ?_ ?_ ?_ ?_ ?_ ?_ ?_ ?_ ?_ ?_ ?_ ?_ ?_ ?_ ?_ ?_ ?_ ?_ ?_ hmg
    all_goals ((try dsimp only [L2.KOf]); refine' GS.fun_at9 KX G ?_ ?_ ?_ ?_; repeat any_goals k_is)
