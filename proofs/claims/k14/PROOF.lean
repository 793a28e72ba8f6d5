import PyProof.Rows.All
import OpenK.AllK
import Wide.All
import Wide.FinOn
import Lean
import PyProof.EqAt
import PyProof.EqKinds
import PyProof.TupleCall
import PyProof.CompFree
import PyProof.StrWalks
import PyProof.ReprRoads
import PyProof.ReprLen
import PyProof.ToksMono
import KE.IntTextLaws
import PyProof.NeKinds
import PyProof.CallFns
import PyProof.CompUse
import KE.KDictOf
import PyProof.AttrMissHeap
import PyProof.Walks
import KE.KIsAll
import PyProof.Rows.FStr
import PyProof.DictWalks
import PyProof.DictIter
import PySem.Challenge.RW_grassnake_k14_faults
set_option Elab.async false
set_option linter.all false
set_option maxRecDepth 100000
set_option maxHeartbeats 4000000
namespace GS
open PySem
noncomputable section
abbrev p9 := PySem.Challenge.pw_grassnake_k14_faults
abbrev r9 := PySem.Challenge.rw_grassnake_k14_faults
noncomputable def tp9 (i : Nat) : Stmt := p9.main.body.getD i (.Pass ⟨0, 0, 0, 0⟩)
def iC (i : Nat) : Stmt → Stmt
  | .ClassDef _ _ _ body _ _ _ _ _ _ _ => body.getD i (.Pass ⟨0, 0, 0, 0⟩)
  | _ => .Pass ⟨0, 0, 0, 0⟩
def fA (s : Stmt) : Arguments := match s with
  | .FunctionDef _ a _ _ _ _ _ _ _ _ => a
  | _ => { posonlyargs := [], args := [], vararg := none, kwonlyargs := [], kw_defaults := [], kwarg := none, defaults := [] }
def fB (s : Stmt) : List Stmt := match s with
  | .FunctionDef _ _ b _ _ _ _ _ _ _ => b
  | _ => []
def fS (s : Stmt) : Scope := match s with
  | .FunctionDef _ _ _ _ _ _ c _ _ _ => c
  | _ => { kind := .function, names := [], isGenerator := false, isCoroutine := false }
def eO (P : Params) (k : Str) (t : Nat) (v : Value) : DictEntry := ⟨PyData.keyHash P k, .str k t, v⟩
def eR (P : Params) (k : Str) (t a : Nat) : DictEntry := eO P k t (.ref a)
def dO (es : List DictEntry) (n : Nat) : Obj := ⟨.type "dict", none, .dict es.toArray n, #[]⟩
def tO (vs : List Value) : Obj := ⟨.type "tuple", none, .seq vs.toArray 0, #[]⟩
def fO (m : Str) (t : Nat) (st : Stmt) (n q : Str) (c : Nat) : Obj := ⟨.type "function", none, .func (PySem.W.fnOf n q (fA st) (fB st) (fS st) .none .none .none (.str m t) none (.ref c) .none), #[]⟩
def fD (m : Str) (t : Nat) (st : Stmt) (n q : Str) (c d : Nat) : Obj := ⟨.type "function", none, .func (PySem.W.fnOf n q (fA st) (fB st) (fS st) (.ref d) .none .none (.str m t) none (.ref c) .none), #[]⟩
noncomputable def cO (a : Nat) (v : Bool) (n q : Str) (t l k u : Nat) : Obj := ⟨.type "code", none, .fields #[.str n t, .str q (t + 1), .str "/claim/cut.py" (t + 2), .int l 0, .int k 0, .int 0 0, .int 0 0, .int 3 0, .ref (if v then a - 5 else a - 3), .bool true, .int 181 0, .ref (if v then a - 4 else a - 2), .none, if v then .ref (a - 3) else .none, if v then .ref (a - 2) else .none, .ref (a - 1), .int u 0, .int l 0, .str "/claim/cut.py" (u + 1)], #[]⟩
noncomputable def kO (n : Str) (bs mro : List Value) (ns : Nat) (sub : List Value) (sl : Array (Option Value)) : Obj := ⟨.type "type", none, .cls { name := n, bases := bs, mro := mro, ns := ns, qualname := n, subclasses := sub }, sl⟩
abbrev oT (a : Nat) (n : Str) := cO a true n n
abbrev oF (a : Nat) (n : Str) := cO a false n n
abbrev fm1 := fO "grassnake.store" 187
abbrev fn1 (i : Nat) (n : Str) := fm1 (tp9 i) n n
abbrev fm2 := fO "grassnake.faults" 631
abbrev fn2 (i : Nat) (n : Str) := fm2 (tp9 i) n n
abbrev fm3 := fO "grassnake.fields" 704
abbrev fn3 (i : Nat) (n : Str) := fm3 (tp9 i) n n
abbrev fm4 := fO "grassnake.calls" 799
abbrev fn4 (i : Nat) (n : Str) := fm4 (tp9 i) n n
abbrev fm5 := fO "grassnake.orders" 971
abbrev fn5 (i : Nat) (n : Str) := fm5 (tp9 i) n n
abbrev fm6 := fO "law_grassnake_k14_faults" 1023
abbrev fn6 (i : Nat) (n : Str) := fm6 (tp9 i) n n
noncomputable def rO (n q : Str) (st : Stmt) : Obj := ⟨.none, none, .func { PySem.W.fnOf n q (fA st) (fB st) (fS st) .none .none .none .none none .none .none with globals := 0 }, #[]⟩
noncomputable abbrev rN (i : Nat) (n : Str) := rO n n (tp9 i)
def nO (vs : List Value) : Obj := ⟨.none, none, .fields vs.toArray, #[]⟩
def gO (c : String) (vs : List Value) : Obj := ⟨.type c, none, .fields vs.toArray, #[]⟩
def qO (sl : List (Option Value)) : Obj := { cls := .type "frame", slots := sl.toArray }
def nT (xs : List (Nat × Nat × Nat)) : Obj := nO (xs.flatMap fun t => [.int t.1 0, .int t.2.1 0, .ref t.2.2])
def t12 : List (Nat × Nat × Nat) := [(6,0,48),(15,0,69),(19,0,90),(24,0,111),(31,0,132),(36,0,153),(44,0,174),(49,0,195),(60,0,214),(63,0,221),(65,0,228),(67,0,235),(69,0,242),(71,0,249),(74,0,256),(76,0,263),(78,0,268),(81,0,275),(83,0,282),(85,0,289),(87,0,296),(89,0,303),(91,0,310),(96,0,318),(102,0,325),(105,0,332),(109,0,339),(113,0,346),(118,0,353),(124,0,360),(132,0,367),(138,0,374),(143,0,381),(145,0,388),(148,0,395),(160,0,402),(162,0,409),(168,0,416),(170,0,423),(180,0,430),(188,0,447),(194,0,454),(205,0,461),(208,0,468),(211,0,475),(213,0,482),(215,0,489),(217,0,496),(221,0,503),(224,0,510),(233,0,517),(238,0,524),(246,0,531),(265,0,538),(276,0,545),(278,0,550),(280,0,555),(286,0,560),(289,0,565),(300,0,570),(310,0,577),(313,0,584),(317,0,591),(324,0,596),(333,0,603),(336,0,608),(354,0,613),(366,0,618),(378,0,623),(383,0,628),(392,0,635),(405,0,640)]
def o11 (P : Params) : Obj := tO []
def oR (P : Params) : List Obj := gO "code" [(.str "<module>" 182),(.str "<module>" 183),(.str "/claim/cut.py" 184),(.int 1 0),(.int 0 0),(.int 0 0),(.int 0 0),(.int 0 0),(.ref 11),(.bool false),(.int 181 0),(.ref 12),.none,.none,.none,.none,(.int 185 0),(.int 1 0),(.str "/claim/cut.py" 186)]::
  qO [some (.ref 13),some (.ref 3),some (.ref 3),none,some (.str "__main__" 164),none,some (.ref 0)]::
  tO [(.str "none" 189)]::
  tO [(.str "say" 191),(.str "take" 192),(.str "isa" 193),(.str "elder" 194),(.str "count" 195),(.str "go" 196),(.str "throw" 197),(.str "shut" 198)]::
  tO []::
  tO [(.str "Thing" 200),(.ref 17)]::
  tO [(.str "Thing" 202)]::
  tO [(.str "Fault" 201),(.ref 19)]::
  tO [(.str "Fault" 204),(.str "Thing" 205)]::
  tO [(.str "NameFault" 203),(.ref 21)]::
  tO [(.str "Fault" 207),(.str "Thing" 208)]::
  tO [(.str "KindFault" 206),(.ref 23)]::
  tO [(.str "Fault" 210),(.str "Thing" 211)]::
  tO [(.str "NoughtFault" 209),(.ref 25)]::
  tO [(.str "Fault" 213),(.str "Thing" 214)]::
  tO [(.str "GreatFault" 212),(.ref 27)]::
  tO [(.str "Fault" 216),(.str "Thing" 217)]::
  tO [(.str "FieldFault" 215),(.ref 29)]::
  tO [(.str "Fault" 219),(.str "Thing" 220)]::
  tO [(.str "OrderFault" 218),(.ref 31)]::
  tO [(.str "Fault" 222),(.str "Thing" 223)]::
  tO [(.str "EndFault" 221),(.ref 33)]::
  tO [(.str "Fault" 225),(.str "Thing" 226)]::
  tO [(.str "ShutFault" 224),(.ref 35)]::
  tO [(.str "Fault" 228),(.str "Thing" 229)]::
  tO [(.str "DeepFault" 227),(.ref 37)]::
  tO [(.str "NameFault" 231),(.str "Fault" 232),(.str "Thing" 233)]::
  tO [(.str "UnboundFault" 230),(.ref 39)]::
  tO [(.ref 18),(.ref 20),(.ref 22),(.ref 24),(.ref 26),(.ref 28),(.ref 30),(.ref 32),(.ref 34),(.ref 36),(.ref 38),(.ref 40)]::
  tO [(.str "word" 235),(.str "cause" 236),(.str "context" 237)]::
  tO []::
  gO "builtin_function_or_method" [(.builtin "type.__prepare__"),(.type "type")]::
  dO [eO P "__module__" 246 (.str "grassnake.store" 187),eO P "__qualname__" 248 (.str "Function" 247),eO P "__firstlineno__" 250 (.int 6 249),eR P "__init__" 263 56,eR P "__static_attributes__" 270 57] 5::
  tO []::
  nO [(.int 8 0),(.int 4 0),(.ref 55)]::
  gO "code" [(.str "Function" 241),(.str "Function" 242),(.str "/claim/cut.py" 243),(.int 6 0),(.int 0 0),(.int 0 0),(.int 0 0),(.int 0 0),(.ref 46),(.bool false),(.int 181 0),(.ref 47),.none,.none,.none,.none,(.int 244 0),(.int 6 0),(.str "/claim/cut.py" 245)]::
  qO [some (.ref 48),some (.ref 3),some (.ref 45),none,some (.str "grassnake.store" 187),none,some (.ref 0)]::
  tO []::
  nO []::
  tO [(.str "self" 254),(.str "name" 255),(.str "params" 256),(.str "defaults" 257),(.str "code" 258),(.str "around" 259),(.str "gives" 260)]::
  tO []::
  rO "__init__" "Function.__init__" (iC 0 (tp9 5))::
  cO 55 true "__init__" "Function.__init__" 251 8 7 261::
  fm1 (iC 0 (tp9 5)) "__init__" "Function.__init__" 55::
  tO [(.str "around" 264),(.str "code" 265),(.str "defaults" 266),(.str "gives" 267),(.str "name" 268),(.str "params" 269)]::
  dO [eO P "__module__" 246 (.str "grassnake.store" 187),eO P "__firstlineno__" 250 (.int 6 249),eR P "__init__" 263 56,eR P "__static_attributes__" 270 57,eR P "__dict__" 272 60,eR P "__weakref__" 274 61,eO P "__doc__" 275 .none] 4::
  kO "Function" [(.type "object")] [(.ref 59),(.type "object")] 58 [] #[none,none,some (.str "Function" 239),some (.str "Function" 247),some (.builtin "object.__new__"),some (.bool true)]::
  gO "getset_descriptor" [(.str "__dict__" 271),(.ref 59),(.builtin "function.__dict__"),(.builtin "function.__dict__#set")]::
  gO "getset_descriptor" [(.str "__weakref__" 273),(.ref 59),(.builtin "ExceptionGroup.__weakref__"),.none]::
  gO "super" [(.ref 59),(.ref 59),(.ref 59)]::
  gO "builtin_function_or_method" [(.builtin "object.__init_subclass__"),(.ref 59)]::
  tO []::
  gO "builtin_function_or_method" [(.builtin "type.__prepare__"),(.type "type")]::
  dO [eO P "__module__" 285 (.str "grassnake.store" 187),eO P "__qualname__" 287 (.str "Given" 286),eO P "__firstlineno__" 289 (.int 15 288),eR P "__init__" 297 77,eR P "__static_attributes__" 299 78] 5::
  tO []::
  nO [(.int 17 0),(.int 4 0),(.ref 76)]::
  gO "code" [(.str "Given" 280),(.str "Given" 281),(.str "/claim/cut.py" 282),(.int 15 0),(.int 0 0),(.int 0 0),(.int 0 0),(.int 0 0),(.ref 67),(.bool false),(.int 181 0),(.ref 68),.none,.none,.none,.none,(.int 283 0),(.int 15 0),(.str "/claim/cut.py" 284)]::
  qO [some (.ref 69),some (.ref 3),some (.ref 66),none,some (.str "grassnake.store" 187),none,some (.ref 0)]::
  tO []::
  nO []::
  tO [(.str "self" 293),(.str "name" 294)]::
  tO []::
  rO "__init__" "Given.__init__" (iC 0 (tp9 6))::
  cO 76 true "__init__" "Given.__init__" 290 17 2 295::
  fm1 (iC 0 (tp9 6)) "__init__" "Given.__init__" 76::
  tO [(.str "name" 298)]::
  dO [eO P "__module__" 285 (.str "grassnake.store" 187),eO P "__firstlineno__" 289 (.int 15 288),eR P "__init__" 297 77,eR P "__static_attributes__" 299 78,eR P "__dict__" 301 81,eR P "__weakref__" 303 82,eO P "__doc__" 304 .none] 4::
  kO "Given" [(.type "object")] [(.ref 80),(.type "object")] 79 [] #[none,none,some (.str "Given" 278),some (.str "Given" 286),some (.builtin "object.__new__"),some (.bool true)]::
  gO "getset_descriptor" [(.str "__dict__" 300),(.ref 80),(.builtin "function.__dict__"),(.builtin "function.__dict__#set")]::
  gO "getset_descriptor" [(.str "__weakref__" 302),(.ref 80),(.builtin "ExceptionGroup.__weakref__"),.none]::
  gO "super" [(.ref 80),(.ref 80),(.ref 80)]::
  gO "builtin_function_or_method" [(.builtin "object.__init_subclass__"),(.ref 80)]::
  tO []::
  gO "builtin_function_or_method" [(.builtin "type.__prepare__"),(.type "type")]::
  dO [eO P "__module__" 314 (.str "grassnake.store" 187),eO P "__qualname__" 316 (.str "Method" 315),eO P "__firstlineno__" 318 (.int 19 317),eR P "__init__" 327 98,eR P "__static_attributes__" 330 99] 5::
  tO []::
  nO [(.int 21 0),(.int 4 0),(.ref 97)]::
  gO "code" [(.str "Method" 309),(.str "Method" 310),(.str "/claim/cut.py" 311),(.int 19 0),(.int 0 0),(.int 0 0),(.int 0 0),(.int 0 0),(.ref 88),(.bool false),(.int 181 0),(.ref 89),.none,.none,.none,.none,(.int 312 0),(.int 19 0),(.str "/claim/cut.py" 313)]::
  qO [some (.ref 90),some (.ref 3),some (.ref 87),none,some (.str "grassnake.store" 187),none,some (.ref 0)]::
  tO []::
  nO []::
  tO [(.str "self" 322),(.str "target" 323),(.str "owner" 324)]::
  tO []::
  rO "__init__" "Method.__init__" (iC 0 (tp9 7))::
  cO 97 true "__init__" "Method.__init__" 319 21 3 325::
  fm1 (iC 0 (tp9 7)) "__init__" "Method.__init__" 97::
  tO [(.str "owner" 328),(.str "target" 329)]::
  dO [eO P "__module__" 314 (.str "grassnake.store" 187),eO P "__firstlineno__" 318 (.int 19 317),eR P "__init__" 327 98,eR P "__static_attributes__" 330 99,eR P "__dict__" 332 102,eR P "__weakref__" 334 103,eO P "__doc__" 335 .none] 4::
  kO "Method" [(.type "object")] [(.ref 101),(.type "object")] 100 [] #[none,none,some (.str "Method" 307),some (.str "Method" 315),some (.builtin "object.__new__"),some (.bool true)]::
  gO "getset_descriptor" [(.str "__dict__" 331),(.ref 101),(.builtin "function.__dict__"),(.builtin "function.__dict__#set")]::
  gO "getset_descriptor" [(.str "__weakref__" 333),(.ref 101),(.builtin "ExceptionGroup.__weakref__"),.none]::
  gO "super" [(.ref 101),(.ref 101),(.ref 101)]::
  gO "builtin_function_or_method" [(.builtin "object.__init_subclass__"),(.ref 101)]::
  tO []::
  gO "builtin_function_or_method" [(.builtin "type.__prepare__"),(.type "type")]::
  dO [eO P "__module__" 345 (.str "grassnake.store" 187),eO P "__qualname__" 347 (.str "Kind" 346),eO P "__firstlineno__" 349 (.int 24 348),eR P "__init__" 360 119,eR P "__static_attributes__" 365 120] 5::
  tO []::
  nO [(.int 26 0),(.int 4 0),(.ref 118)]::
  gO "code" [(.str "Kind" 340),(.str "Kind" 341),(.str "/claim/cut.py" 342),(.int 24 0),(.int 0 0),(.int 0 0),(.int 0 0),(.int 0 0),(.ref 109),(.bool false),(.int 181 0),(.ref 110),.none,.none,.none,.none,(.int 343 0),(.int 24 0),(.str "/claim/cut.py" 344)]::
  qO [some (.ref 111),some (.ref 3),some (.ref 108),none,some (.str "grassnake.store" 187),none,some (.ref 0)]::
  tO []::
  nO []::
  tO [(.str "self" 353),(.str "name" 354),(.str "order" 355),(.str "fields" 356),(.str "is_given" 357)]::
  tO []::
  rO "__init__" "Kind.__init__" (iC 0 (tp9 8))::
  cO 118 true "__init__" "Kind.__init__" 350 26 5 358::
  fm1 (iC 0 (tp9 8)) "__init__" "Kind.__init__" 118::
  tO [(.str "fields" 361),(.str "is_given" 362),(.str "name" 363),(.str "order" 364)]::
  dO [eO P "__module__" 345 (.str "grassnake.store" 187),eO P "__firstlineno__" 349 (.int 24 348),eR P "__init__" 360 119,eR P "__static_attributes__" 365 120,eR P "__dict__" 367 123,eR P "__weakref__" 369 124,eO P "__doc__" 370 .none] 4::
  kO "Kind" [(.type "object")] [(.ref 122),(.type "object")] 121 [] #[none,none,some (.str "Kind" 338),some (.str "Kind" 346),some (.builtin "object.__new__"),some (.bool true)]::
  gO "getset_descriptor" [(.str "__dict__" 366),(.ref 122),(.builtin "function.__dict__"),(.builtin "function.__dict__#set")]::
  gO "getset_descriptor" [(.str "__weakref__" 368),(.ref 122),(.builtin "ExceptionGroup.__weakref__"),.none]::
  gO "super" [(.ref 122),(.ref 122),(.ref 122)]::
  gO "builtin_function_or_method" [(.builtin "object.__init_subclass__"),(.ref 122)]::
  tO []::
  gO "builtin_function_or_method" [(.builtin "type.__prepare__"),(.type "type")]::
  dO [eO P "__module__" 380 (.str "grassnake.store" 187),eO P "__qualname__" 382 (.str "Object" 381),eO P "__firstlineno__" 384 (.int 31 383),eR P "__init__" 393 140,eR P "__static_attributes__" 396 141] 5::
  tO []::
  nO [(.int 33 0),(.int 4 0),(.ref 139)]::
  gO "code" [(.str "Object" 375),(.str "Object" 376),(.str "/claim/cut.py" 377),(.int 31 0),(.int 0 0),(.int 0 0),(.int 0 0),(.int 0 0),(.ref 130),(.bool false),(.int 181 0),(.ref 131),.none,.none,.none,.none,(.int 378 0),(.int 31 0),(.str "/claim/cut.py" 379)]::
  qO [some (.ref 132),some (.ref 3),some (.ref 129),none,some (.str "grassnake.store" 187),none,some (.ref 0)]::
  tO []::
  nO []::
  tO [(.str "self" 388),(.str "kind" 389),(.str "fields" 390)]::
  tO []::
  rO "__init__" "Object.__init__" (iC 0 (tp9 9))::
  cO 139 true "__init__" "Object.__init__" 385 33 3 391::
  fm1 (iC 0 (tp9 9)) "__init__" "Object.__init__" 139::
  tO [(.str "fields" 394),(.str "kind" 395)]::
  dO [eO P "__module__" 380 (.str "grassnake.store" 187),eO P "__firstlineno__" 384 (.int 31 383),eR P "__init__" 393 140,eR P "__static_attributes__" 396 141,eR P "__dict__" 398 144,eR P "__weakref__" 400 145,eO P "__doc__" 401 .none] 4::
  kO "Object" [(.type "object")] [(.ref 143),(.type "object")] 142 [] #[none,none,some (.str "Object" 373),some (.str "Object" 381),some (.builtin "object.__new__"),some (.bool true)]::
  gO "getset_descriptor" [(.str "__dict__" 397),(.ref 143),(.builtin "function.__dict__"),(.builtin "function.__dict__#set")]::
  gO "getset_descriptor" [(.str "__weakref__" 399),(.ref 143),(.builtin "ExceptionGroup.__weakref__"),.none]::
  gO "super" [(.ref 143),(.ref 143),(.ref 143)]::
  gO "builtin_function_or_method" [(.builtin "object.__init_subclass__"),(.ref 143)]::
  tO []::
  gO "builtin_function_or_method" [(.builtin "type.__prepare__"),(.type "type")]::
  dO [eO P "__module__" 411 (.str "grassnake.store" 187),eO P "__qualname__" 413 (.str "Giver" 412),eO P "__firstlineno__" 415 (.int 36 414),eR P "__init__" 425 161,eR P "__static_attributes__" 431 162] 5::
  tO []::
  nO [(.int 38 0),(.int 4 0),(.ref 160)]::
  gO "code" [(.str "Giver" 406),(.str "Giver" 407),(.str "/claim/cut.py" 408),(.int 36 0),(.int 0 0),(.int 0 0),(.int 0 0),(.int 0 0),(.ref 151),(.bool false),(.int 181 0),(.ref 152),.none,.none,.none,.none,(.int 409 0),(.int 36 0),(.str "/claim/cut.py" 410)]::
  qO [some (.ref 153),some (.ref 3),some (.ref 150),none,some (.str "grassnake.store" 187),none,some (.ref 0)]::
  tO []::
  nO []::
  tO [(.str "self" 419),(.str "name" 420),(.str "frame" 421),(.str "many" 422)]::
  tO []::
  rO "__init__" "Giver.__init__" (iC 0 (tp9 10))::
  cO 160 true "__init__" "Giver.__init__" 416 38 4 423::
  fm1 (iC 0 (tp9 10)) "__init__" "Giver.__init__" 160::
  tO [(.str "frame" 426),(.str "handed" 427),(.str "many" 428),(.str "name" 429),(.str "state" 430)]::
  dO [eO P "__module__" 411 (.str "grassnake.store" 187),eO P "__firstlineno__" 415 (.int 36 414),eR P "__init__" 425 161,eR P "__static_attributes__" 431 162,eR P "__dict__" 433 165,eR P "__weakref__" 435 166,eO P "__doc__" 436 .none] 4::
  kO "Giver" [(.type "object")] [(.ref 164),(.type "object")] 163 [] #[none,none,some (.str "Giver" 404),some (.str "Giver" 412),some (.builtin "object.__new__"),some (.bool true)]::
  gO "getset_descriptor" [(.str "__dict__" 432),(.ref 164),(.builtin "function.__dict__"),(.builtin "function.__dict__#set")]::
  gO "getset_descriptor" [(.str "__weakref__" 434),(.ref 164),(.builtin "ExceptionGroup.__weakref__"),.none]::
  gO "super" [(.ref 164),(.ref 164),(.ref 164)]::
  gO "builtin_function_or_method" [(.builtin "object.__init_subclass__"),(.ref 164)]::
  tO []::
  gO "builtin_function_or_method" [(.builtin "type.__prepare__"),(.type "type")]::
  dO [eO P "__module__" 446 (.str "grassnake.store" 187),eO P "__qualname__" 448 (.str "View" 447),eO P "__firstlineno__" 450 (.int 44 449),eR P "__init__" 459 182,eR P "__static_attributes__" 462 183] 5::
  tO []::
  nO [(.int 46 0),(.int 4 0),(.ref 181)]::
  gO "code" [(.str "View" 441),(.str "View" 442),(.str "/claim/cut.py" 443),(.int 44 0),(.int 0 0),(.int 0 0),(.int 0 0),(.int 0 0),(.ref 172),(.bool false),(.int 181 0),(.ref 173),.none,.none,.none,.none,(.int 444 0),(.int 44 0),(.str "/claim/cut.py" 445)]::
  qO [some (.ref 174),some (.ref 3),some (.ref 171),none,some (.str "grassnake.store" 187),none,some (.ref 0)]::
  tO []::
  nO []::
  tO [(.str "self" 454),(.str "kind" 455),(.str "owner" 456)]::
  tO []::
  rO "__init__" "View.__init__" (iC 0 (tp9 11))::
  cO 181 true "__init__" "View.__init__" 451 46 3 457::
  fm1 (iC 0 (tp9 11)) "__init__" "View.__init__" 181::
  tO [(.str "kind" 460),(.str "owner" 461)]::
  dO [eO P "__module__" 446 (.str "grassnake.store" 187),eO P "__firstlineno__" 450 (.int 44 449),eR P "__init__" 459 182,eR P "__static_attributes__" 462 183,eR P "__dict__" 464 186,eR P "__weakref__" 466 187,eO P "__doc__" 467 .none] 4::
  kO "View" [(.type "object")] [(.ref 185),(.type "object")] 184 [] #[none,none,some (.str "View" 439),some (.str "View" 447),some (.builtin "object.__new__"),some (.bool true)]::
  gO "getset_descriptor" [(.str "__dict__" 463),(.ref 185),(.builtin "function.__dict__"),(.builtin "function.__dict__#set")]::
  gO "getset_descriptor" [(.str "__weakref__" 465),(.ref 185),(.builtin "ExceptionGroup.__weakref__"),.none]::
  gO "super" [(.ref 185),(.ref 185),(.ref 185)]::
  gO "builtin_function_or_method" [(.builtin "object.__init_subclass__"),(.ref 185)]::
  tO []::
  gO "builtin_function_or_method" [(.builtin "type.__prepare__"),(.type "type")]::
  dO [eO P "__module__" 477 (.str "grassnake.store" 187),eO P "__qualname__" 479 (.str "World" 478),eO P "__firstlineno__" 481 (.int 49 480),eR P "__init__" 487 201,eR P "__static_attributes__" 492 202] 5::
  tO []::
  nO [(.int 51 0),(.int 4 0),(.ref 200)]::
  gO "code" [(.str "World" 472),(.str "World" 473),(.str "/claim/cut.py" 474),(.int 49 0),(.int 0 0),(.int 0 0),(.int 0 0),(.int 0 0),(.ref 193),(.bool false),(.int 181 0),(.ref 194),.none,.none,.none,.none,(.int 475 0),(.int 49 0),(.str "/claim/cut.py" 476)]::
  qO [some (.ref 195),some (.ref 3),some (.ref 192),none,some (.str "grassnake.store" 187),none,some (.ref 0)]::
  tO []::
  nO []::
  rO "__init__" "World.__init__" (iC 0 (tp9 12))::
  cO 200 false "__init__" "World.__init__" 482 51 2 485::
  fm1 (iC 0 (tp9 12)) "__init__" "World.__init__" 200::
  tO [(.str "given" 488),(.str "left" 489),(.str "lines" 490),(.str "things" 491)]::
  dO [eO P "__module__" 477 (.str "grassnake.store" 187),eO P "__firstlineno__" 481 (.int 49 480),eR P "__init__" 487 201,eR P "__static_attributes__" 492 202,eR P "__dict__" 494 205,eR P "__weakref__" 496 206,eO P "__doc__" 497 .none] 4::
  kO "World" [(.type "object")] [(.ref 204),(.type "object")] 203 [] #[none,none,some (.str "World" 470),some (.str "World" 478),some (.builtin "object.__new__"),some (.bool true)]::
  gO "getset_descriptor" [(.str "__dict__" 493),(.ref 204),(.builtin "function.__dict__"),(.builtin "function.__dict__#set")]::
  gO "getset_descriptor" [(.str "__weakref__" 495),(.ref 204),(.builtin "ExceptionGroup.__weakref__"),.none]::
  gO "super" [(.ref 204),(.ref 204),(.ref 204)]::
  gO "builtin_function_or_method" [(.builtin "object.__init_subclass__"),(.ref 204)]::
  tO []::
  nO []::
  tO [(.str "world" 503),(.str "thing" 504)]::
  tO []::
  rN 13 "added"::
  oT 214 "added" 500 60 2 505::
  fn1 13 "added" 214::
  tO []::
  nO []::
  tO [(.str "world" 511),(.str "a" 512)]::
  tO []::
  rN 14 "thing_of"::
  oT 221 "thing_of" 508 63 2 513::
  fn1 14 "thing_of" 221::
  tO []::
  nO []::
  tO [(.str "world" 519),(.str "name" 520)]::
  tO []::
  rN 15 "known"::
  oT 228 "known" 516 65 2 521::
  fn1 15 "known" 228::
  tO []::
  nO []::
  tO [(.str "world" 527),(.str "name" 528),(.str "params" 529),(.str "defaults" 530),(.str "code" 531),(.str "around" 532),(.str "gives" 533)]::
  tO []::
  rN 16 "function"::
  oT 235 "function" 524 67 7 534::
  fn1 16 "function" 235::
  tO []::
  nO []::
  tO [(.str "world" 540),(.str "target" 541),(.str "owner" 542)]::
  tO []::
  rN 17 "new_method"::
  oT 242 "new_method" 537 69 3 543::
  fn1 17 "new_method" 242::
  tO []::
  nO []::
  tO [(.str "world" 549),(.str "name" 550),(.str "behind" 551),(.str "fields" 552),(.str "is_given" 553),(.str "own" 554)]::
  tO []::
  rN 18 "new_class"::
  oT 249 "new_class" 546 71 5 555::
  fn1 18 "new_class" 249::
  tO []::
  nO []::
  tO [(.str "world" 561),(.str "a" 562)]::
  tO []::
  rN 19 "is_class"::
  oT 256 "is_class" 558 74 2 563::
  fn1 19 "is_class" 256::
  tO []::
  nO []::
  tO [(.str "world" 569),(.str "a" 570)]::
  tO []::
  rN 20 "is_fault_class"::
  oT 263 "is_fault_class" 566 76 2 571::
  fn1 20 "is_fault_class" 263::
  tO []::
  nO []::
  rN 21 "new_object"::
  oF 268 "new_object" 574 78 2 577::
  fn1 21 "new_object" 268::
  tO []::
  nO []::
  tO [(.str "world" 583),(.str "kind" 584),(.str "owner" 585)]::
  tO []::
  rN 22 "new_view"::
  oT 275 "new_view" 580 81 3 586::
  fn1 22 "new_view" 275::
  tO []::
  nO []::
  tO [(.str "world" 592),(.str "many" 593)]::
  tO []::
  rN 23 "new_count"::
  oT 282 "new_count" 589 83 2 594::
  fn1 23 "new_count" 282::
  tO []::
  nO []::
  tO [(.str "world" 600),(.str "a" 601)]::
  tO []::
  rN 24 "is_giver"::
  oT 289 "is_giver" 597 85 2 602::
  fn1 24 "is_giver" 289::
  tO []::
  nO []::
  tO [(.str "world" 608),(.str "g" 609)]::
  tO []::
  rN 25 "frame_of"::
  oT 296 "frame_of" 605 87 2 610::
  fn1 25 "frame_of" 296::
  tO []::
  nO []::
  tO [(.str "world" 616),(.str "g" 617)]::
  tO []::
  rN 26 "state_of"::
  oT 303 "state_of" 613 89 2 618::
  fn1 26 "state_of" 303::
  tO []::
  nO []::
  tO [(.str "world" 624),(.str "g" 625),(.str "state" 626),(.str "thing" 627)]::
  tO []::
  rN 27 "set_state"::
  oT 310 "set_state" 621 91 3 628::
  fn1 27 "set_state" 310::
  tO [.none]::
  tO []::
  nO []::
  tO [(.str "world" 638),(.str "name" 639),(.str "word" 640),(.str "fault" 641),(.str "fields" 642)]::
  tO []::
  rN 30 "made"::
  oT 318 "made" 635 96 3 643::
  fD "grassnake.faults" 631 (tp9 30) "made" "made" 318 312::
  tO []::
  nO []::
  tO [(.str "world" 649),(.str "a" 650),(.str "thing" 651)]::
  tO []::
  rN 31 "is_fault"::
  oT 325 "is_fault" 646 102 2 652::
  fn2 31 "is_fault" 325::
  tO []::
  nO []::
  tO [(.str "world" 658),(.str "a" 659)]::
  tO []::
  rN 32 "raised_of"::
  oT 332 "raised_of" 655 105 2 660::
  fn2 32 "raised_of" 332::
  tO []::
  nO []::
  tO [(.str "world" 666),(.str "fault" 667),(.str "cause" 668),(.str "held" 669),(.str "fields" 670)]::
  tO []::
  rN 33 "bind_raised"::
  oT 339 "bind_raised" 663 109 4 671::
  fn2 33 "bind_raised" 339::
  tO []::
  nO []::
  tO [(.str "world" 677),(.str "fault" 678),(.str "a" 679),(.str "kind" 680)]::
  tO []::
  rN 34 "fits"::
  oT 346 "fits" 674 113 3 681::
  fn2 34 "fits" 346::
  tO []::
  nO []::
  tO [(.str "world" 687),(.str "fault" 688),(.str "fields" 689),(.str "name" 690)]::
  tO []::
  rN 35 "fault_behind"::
  oT 353 "fault_behind" 684 118 2 691::
  fn2 35 "fault_behind" 353::
  tO []::
  nO []::
  tO [(.str "world" 697),(.str "fault" 698),(.str "names" 699),(.str "behind" 700)]::
  tO []::
  rN 36 "names_of"::
  oT 360 "names_of" 694 124 2 701::
  fn2 36 "names_of" 360::
  tO []::
  nO []::
  tO [(.str "world" 709),(.str "classes" 710),(.str "name" 711),(.str "one" 712),(.str "fields" 713)]::
  tO []::
  rN 38 "found_in"::
  oT 367 "found_in" 706 132 3 714::
  fn3 38 "found_in" 367::
  tO []::
  nO []::
  tO [(.str "world" 720),(.str "owner" 721),(.str "classes" 722),(.str "name" 723),(.str "found" 724)]::
  tO []::
  rN 39 "found_by_way"::
  oT 374 "found_by_way" 717 138 4 725::
  fn3 39 "found_by_way" 374::
  tO []::
  nO []::
  tO [(.str "world" 731),(.str "owner" 732)]::
  tO []::
  rN 40 "order_of_owner"::
  oT 381 "order_of_owner" 728 143 2 733::
  fn3 40 "order_of_owner" 381::
  tO []::
  nO []::
  tO [(.str "world" 739),(.str "view" 740),(.str "name" 741),(.str "order" 742)]::
  tO []::
  rN 41 "found_of_view"::
  oT 388 "found_of_view" 736 145 3 743::
  fn3 41 "found_of_view" 388::
  tO []::
  nO []::
  tO [(.str "world" 749),(.str "a" 750),(.str "name" 751),(.str "thing" 752),(.str "found" 753)]::
  tO []::
  rN 42 "field_of"::
  oT 395 "field_of" 746 148 3 754::
  fn3 42 "field_of" 395::
  tO []::
  nO []::
  tO [(.str "thing" 760)]::
  tO []::
  rN 43 "can_be_put"::
  oT 402 "can_be_put" 757 160 1 761::
  fn3 43 "can_be_put" 402::
  tO []::
  nO []::
  tO [(.str "world" 767),(.str "a" 768),(.str "name" 769),(.str "v" 770),(.str "thing" 771)]::
  tO []::
  rN 44 "put_field"::
  oT 409 "put_field" 764 162 4 772::
  fn3 44 "put_field" 409::
  tO []::
  nO []::
  tO [(.str "word" 778),(.str "name" 779)]::
  tO []::
  rN 45 "named"::
  oT 416 "named" 775 168 2 780::
  fn3 45 "named" 416::
  tO []::
  nO []::
  tO [(.str "world" 786),(.str "thing" 787)]::
  tO []::
  rN 46 "text_of_thing"::
  oT 423 "text_of_thing" 783 170 2 788::
  fn3 46 "text_of_thing" 423::
  tO []::
  nO []::
  tO [(.str "world" 794),(.str "a" 795)]::
  tO []::
  rN 47 "text_of"::
  oT 430 "text_of" 791 180 2 796::
  fn3 47 "text_of" 430::
  tO [(.str "fault" 803),(.str "KindFault" 804)]::
  dO [eR P "say" 806 434,eR P "take" 809 435,eR P "isa" 812 436,eR P "elder" 815 437,eR P "count" 818 438,eR P "go" 821 439,eR P "throw" 824 440,eR P "shut" 827 441] 8::
  tO [(.int 1 807),(.int 1 808)]::
  tO [(.int 0 810),(.int 0 811)]::
  tO [(.int 2 813),(.int 2 814)]::
  tO [(.int 2 816),(.int 2 817)]::
  tO [(.int 1 819),(.int 1 820)]::
  tO [(.int 1 822),(.int 2 823)]::
  tO [(.int 2 825),(.int 2 826)]::
  tO [(.int 1 828),(.int 1 829)]::
  tO []::
  nO []::
  tO [(.str "world" 842),(.str "f" 843),(.str "values" 844),(.str "target" 845),(.str "lacking" 846)]::
  tO []::
  rN 52 "entered"::
  oT 447 "entered" 839 188 3 847::
  fn4 52 "entered" 447::
  tO []::
  nO []::
  tO [(.str "world" 853),(.str "kind" 854),(.str "values" 855),(.str "made" 856),(.str "start" 857),(.str "is_method" 858)]::
  tO []::
  rN 53 "object_of"::
  oT 454 "object_of" 850 194 3 859::
  fn4 53 "object_of" 454::
  tO []::
  nO []::
  tO [(.str "world" 865),(.str "x" 866)]::
  tO []::
  rN 54 "said"::
  oT 461 "said" 862 205 2 867::
  fn4 54 "said" 461::
  tO []::
  nO []::
  tO [(.str "world" 873),(.str "n" 874)]::
  tO []::
  rN 55 "taken_input"::
  oT 468 "taken_input" 870 208 1 875::
  fn4 55 "taken_input" 468::
  tO []::
  nO []::
  tO [(.str "world" 881),(.str "x" 882),(.str "kind" 883)]::
  tO []::
  rN 56 "is_under"::
  oT 475 "is_under" 878 211 3 884::
  fn4 56 "is_under" 475::
  tO []::
  nO []::
  tO [(.str "world" 890),(.str "x" 891),(.str "kind" 892)]::
  tO []::
  rN 57 "told_isa"::
  oT 482 "told_isa" 887 213 3 893::
  fn4 57 "told_isa" 482::
  tO []::
  nO []::
  tO [(.str "world" 899),(.str "kind" 900),(.str "x" 901)]::
  tO []::
  rN 58 "viewed"::
  oT 489 "viewed" 896 215 3 902::
  fn4 58 "viewed" 489::
  tO []::
  nO []::
  tO [(.str "world" 908),(.str "n" 909)]::
  tO []::
  rN 59 "counted"::
  oT 496 "counted" 905 217 2 910::
  fn4 59 "counted" 496::
  tO []::
  nO []::
  tO [(.str "world" 916),(.str "g" 917),(.str "state" 918)]::
  tO []::
  rN 60 "state_to_go"::
  oT 503 "state_to_go" 913 221 2 919::
  fn4 60 "state_to_go" 503::
  tO []::
  nO []::
  tO [(.str "world" 925),(.str "g" 926),(.str "v" 927),(.str "state" 928)]::
  tO []::
  rN 61 "gone_on"::
  oT 510 "gone_on" 922 224 3 929::
  fn4 61 "gone_on" 510::
  tO []::
  nO []::
  tO [(.str "world" 935),(.str "g" 936),(.str "fault" 937),(.str "state" 938)]::
  tO []::
  rN 62 "thrown"::
  oT 517 "thrown" 932 233 3 939::
  fn4 62 "thrown" 517::
  tO []::
  nO []::
  tO [(.str "world" 945),(.str "g" 946),(.str "state" 947)]::
  tO []::
  rN 63 "shut_down"::
  oT 524 "shut_down" 942 238 2 948::
  fn4 63 "shut_down" 524::
  tO []::
  nO []::
  tO [(.str "world" 954),(.str "name" 955),(.str "values" 956),(.str "bounds" 957)]::
  tO []::
  rN 64 "called_given"::
  oT 531 "called_given" 951 246 3 958::
  fn4 64 "called_given" 531::
  tO []::
  nO []::
  tO [(.str "world" 964),(.str "a" 965),(.str "values" 966),(.str "thing" 967)]::
  tO []::
  rN 65 "called"::
  oT 538 "called" 961 265 3 968::
  fn4 65 "called" 538::
  tO []::
  nO []::
  tO [(.str "one" 978),(.str "other" 979)]::
  tO []::
  rN 68 "is_same"::
  oT 545 "is_same" 975 276 2 980::
  fn5 68 "is_same" 545::
  tO []::
  nO []::
  rN 69 "is_behind_head"::
  oF 550 "is_behind_head" 983 278 2 986::
  fn5 69 "is_behind_head" 550::
  tO []::
  nO []::
  rN 70 "place_of_free"::
  oF 555 "place_of_free" 989 280 1 992::
  fn5 70 "place_of_free" 555::
  tO []::
  nO []::
  rN 71 "without_head"::
  oF 560 "without_head" 995 286 2 998::
  fn5 71 "without_head" 560::
  tO []::
  nO []::
  rN 72 "merged"::
  oF 565 "merged" 1001 289 1 1004::
  fn5 72 "merged" 565::
  tO []::
  nO []::
  rN 73 "order_of"::
  oF 570 "order_of" 1007 300 2 1010::
  fn5 73 "order_of" 570::
  tO []::
  nO []::
  tO [(.str "world" 1016),(.str "name" 1017),(.str "order" 1018),(.str "fields" 1019)]::
  tO []::
  rN 74 "class_of"::
  oT 577 "class_of" 1013 310 4 1020::
  fn5 74 "class_of" 577::
  tO []::
  nO []::
  tO [(.str "_law_script" 1028),(.str "_law_k" 1029)]::
  tO []::
  rN 76 "_law_cell_at"::
  oT 584 "_law_cell_at" 1025 313 2 1030::
  fn6 76 "_law_cell_at" 584::
  tO []::
  nO []::
  tO [(.str "_law_cells" 1036),(.str "_law_spot" 1037),(.str "_law_k" 1038),(.str "_law_base" 1039)]::
  tO []::
  rN 77 "_law_cell"::
  oT 591 "_law_cell" 1033 317 2 1040::
  fn6 77 "_law_cell" 591::
  tO []::
  nO []::
  rN 78 "_law_drawn_names"::
  oF 596 "_law_drawn_names" 1043 324 1 1046::
  fn6 78 "_law_drawn_names" 596::
  tO []::
  nO []::
  tO [(.str "_law_n" 1052),(.str "_law_some" 1053)]::
  tO []::
  rN 79 "_law_plain"::
  oT 603 "_law_plain" 1049 333 1 1054::
  fn6 79 "_law_plain" 603::
  tO []::
  nO []::
  rN 80 "_law_classes"::
  oF 608 "_law_classes" 1057 336 4 1060::
  fn6 80 "_law_classes" 608::
  tO []::
  nO []::
  rN 81 "_law_made_right"::
  oF 613 "_law_made_right" 1063 354 3 1066::
  fn6 81 "_law_made_right" 613::
  tO []::
  nO []::
  rN 82 "_law_looked"::
  oF 618 "_law_looked" 1069 366 4 1072::
  fn6 82 "_law_looked" 618::
  tO []::
  nO []::
  rN 83 "_law_fits_right"::
  oF 623 "_law_fits_right" 1075 378 4 1078::
  fn6 83 "_law_fits_right" 623::
  tO []::
  nO []::
  rN 84 "_law_names"::
  oF 628 "_law_names" 1081 383 3 1084::
  fn6 84 "_law_names" 628::
  tO []::
  nO []::
  tO [(.str "_law_world" 1090),(.str "_law_things" 1091),(.str "_law_faults" 1092),(.str "_law_rows" 1093),(.str "_law_n" 1094),(.str "_law_one" 1095),(.str "_law_other" 1096),(.str "_law_name" 1097),(.str "_law_value" 1098),(.str "_law_held" 1099),(.str "_law_cause" 1100)]::
  tO []::
  rN 85 "_law_bound"::
  oT 635 "_law_bound" 1087 392 5 1101::
  fn6 85 "_law_bound" 635::
  tO []::
  nO []::
  rN 86 "law"::
  oF 640 "law" 1104 405 1 1107::
  fn6 86 "law" 640::[]
def oAll (P : Params) (g : Obj) (m : Nat) : List Obj := W.boot_o_0 P :: W.boot_o_1 P :: W.boot_o_2 P :: g :: W.boot_o_4 P :: W.boot_o_5 P :: W.boot_o_6 P :: W.boot_o_7 P :: W.boot_o_8 P :: W.boot_o_9 P :: W.boot_o_10 P :: o11 P :: nT (t12.take m) :: oR P
def ev : List Obj → List Obj
  | [] => []
  | [x] => [x]
  | x :: _ :: r => x :: ev r
def bt : Nat → List Obj → W.BT
  | 0, _ => .nil
  | _, [] => .nil
  | f + 1, x :: r => .node x (bt f (ev r)) (bt f (ev r.tail))
def l0 (P : Params) : List Obj := (oAll P (W.boot_o_3 P) 0).take 15
def l1 (P : Params) : List Obj := (oAll P (dO [eO P "__name__" 165 (.str "grassnake.store" 187),eO P "__doc__" 166 .none,eO P "__package__" 167 .none,eO P "__loader__" 168 (.builtin "__main__.__loader__#opaque"),eO P "__spec__" 169 .none,eR P "__annotations__" 170 6,eR P "__builtins__" 171 4,eO P "__file__" 173 (.str "/claim/cut.py" 172),eO P "__cached__" 174 .none,eR P "NONE" 190 15,eR P "GIVEN_FUNCTIONS" 199 16,eR P "GIVEN_CLASSES" 234 41,eR P "FAULT_FIELDS" 238 42,eR P "Function" 277 59,eR P "Given" 306 80,eR P "Method" 337 101,eR P "Kind" 372 122,eR P "Object" 403 143,eR P "Giver" 438 164,eR P "View" 469 185,eR P "World" 499 204,eR P "added" 507 215,eR P "thing_of" 515 222,eR P "known" 523 229,eR P "function" 536 236,eR P "new_method" 545 243] 26) 13).take 244
def l2 (P : Params) : List Obj := (oAll P (dO [eO P "__name__" 165 (.str "grassnake.fields" 704),eO P "__doc__" 166 .none,eO P "__package__" 167 .none,eO P "__loader__" 168 (.builtin "__main__.__loader__#opaque"),eO P "__spec__" 169 .none,eR P "__annotations__" 170 6,eR P "__builtins__" 171 4,eO P "__file__" 173 (.str "/claim/cut.py" 172),eO P "__cached__" 174 .none,eR P "NONE" 190 15,eR P "GIVEN_FUNCTIONS" 199 16,eR P "GIVEN_CLASSES" 234 41,eR P "FAULT_FIELDS" 238 42,eR P "Function" 277 59,eR P "Given" 306 80,eR P "Method" 337 101,eR P "Kind" 372 122,eR P "Object" 403 143,eR P "Giver" 438 164,eR P "View" 469 185,eR P "World" 499 204,eR P "added" 507 215,eR P "thing_of" 515 222,eR P "known" 523 229,eR P "function" 536 236,eR P "new_method" 545 243,eR P "new_class" 557 250,eR P "is_class" 565 257,eR P "is_fault_class" 573 264,eR P "new_object" 579 269,eR P "new_view" 588 276,eR P "new_count" 596 283,eR P "is_giver" 604 290,eR P "frame_of" 612 297,eR P "state_of" 620 304,eR P "set_state" 630 311,eO P "MOST_NAMES" 634 (.int 8 633),eR P "made" 645 319,eR P "is_fault" 654 326,eR P "raised_of" 662 333,eR P "bind_raised" 673 340,eR P "fits" 683 347,eR P "fault_behind" 693 354,eR P "names_of" 703 361,eR P "found_in" 716 368,eR P "found_by_way" 727 375,eR P "order_of_owner" 735 382,eR P "found_of_view" 745 389,eR P "field_of" 756 396,eR P "can_be_put" 763 403,eR P "put_field" 774 410] 51) 37).take 411
def l3 (P : Params) : List Obj := (oAll P (dO [eO P "__name__" 165 (.str "grassnake.calls" 799),eO P "__doc__" 166 .none,eO P "__package__" 167 .none,eO P "__loader__" 168 (.builtin "__main__.__loader__#opaque"),eO P "__spec__" 169 .none,eR P "__annotations__" 170 6,eR P "__builtins__" 171 4,eO P "__file__" 173 (.str "/claim/cut.py" 172),eO P "__cached__" 174 .none,eR P "NONE" 190 15,eR P "GIVEN_FUNCTIONS" 199 16,eR P "GIVEN_CLASSES" 234 41,eR P "FAULT_FIELDS" 238 42,eR P "Function" 277 59,eR P "Given" 306 80,eR P "Method" 337 101,eR P "Kind" 372 122,eR P "Object" 403 143,eR P "Giver" 438 164,eR P "View" 469 185,eR P "World" 499 204,eR P "added" 507 215,eR P "thing_of" 515 222,eR P "known" 523 229,eR P "function" 536 236,eR P "new_method" 545 243,eR P "new_class" 557 250,eR P "is_class" 565 257,eR P "is_fault_class" 573 264,eR P "new_object" 579 269,eR P "new_view" 588 276,eR P "new_count" 596 283,eR P "is_giver" 604 290,eR P "frame_of" 612 297,eR P "state_of" 620 304,eR P "set_state" 630 311,eO P "MOST_NAMES" 634 (.int 8 633),eR P "made" 645 319,eR P "is_fault" 654 326,eR P "raised_of" 662 333,eR P "bind_raised" 673 340,eR P "fits" 683 347,eR P "fault_behind" 693 354,eR P "names_of" 703 361,eR P "found_in" 716 368,eR P "found_by_way" 727 375,eR P "order_of_owner" 735 382,eR P "found_of_view" 745 389,eR P "field_of" 756 396,eR P "can_be_put" 763 403,eR P "put_field" 774 410,eR P "named" 782 417,eR P "text_of_thing" 790 424,eR P "text_of" 798 431,eO P "MOST_COUNT" 802 (.int 10000 801),eR P "KIND_FAULT" 805 432,eR P "VALUES_OF_GIVEN" 838 433,eR P "entered" 849 448,eR P "object_of" 861 455,eR P "said" 869 462] 60) 43).take 463
def l4 (P : Params) : List Obj := (oAll P (dO [eO P "__name__" 165 (.str "law_grassnake_k14_faults" 1023),eO P "__doc__" 166 .none,eO P "__package__" 167 .none,eO P "__loader__" 168 (.builtin "__main__.__loader__#opaque"),eO P "__spec__" 169 .none,eR P "__annotations__" 170 6,eR P "__builtins__" 171 4,eO P "__file__" 173 (.str "/claim/cut.py" 172),eO P "__cached__" 174 .none,eR P "NONE" 190 15,eR P "GIVEN_FUNCTIONS" 199 16,eR P "GIVEN_CLASSES" 234 41,eR P "FAULT_FIELDS" 238 42,eR P "Function" 277 59,eR P "Given" 306 80,eR P "Method" 337 101,eR P "Kind" 372 122,eR P "Object" 403 143,eR P "Giver" 438 164,eR P "View" 469 185,eR P "World" 499 204,eR P "added" 507 215,eR P "thing_of" 515 222,eR P "known" 523 229,eR P "function" 536 236,eR P "new_method" 545 243,eR P "new_class" 557 250,eR P "is_class" 565 257,eR P "is_fault_class" 573 264,eR P "new_object" 579 269,eR P "new_view" 588 276,eR P "new_count" 596 283,eR P "is_giver" 604 290,eR P "frame_of" 612 297,eR P "state_of" 620 304,eR P "set_state" 630 311,eO P "MOST_NAMES" 634 (.int 8 633),eR P "made" 645 319,eR P "is_fault" 654 326,eR P "raised_of" 662 333,eR P "bind_raised" 673 340,eR P "fits" 683 347,eR P "fault_behind" 693 354,eR P "names_of" 703 361,eR P "found_in" 716 368,eR P "found_by_way" 727 375,eR P "order_of_owner" 735 382,eR P "found_of_view" 745 389,eR P "field_of" 756 396,eR P "can_be_put" 763 403,eR P "put_field" 774 410,eR P "named" 782 417,eR P "text_of_thing" 790 424,eR P "text_of" 798 431,eO P "MOST_COUNT" 802 (.int 10000 801),eR P "KIND_FAULT" 805 432,eR P "VALUES_OF_GIVEN" 838 433,eR P "entered" 849 448,eR P "object_of" 861 455,eR P "said" 869 462,eR P "taken_input" 877 469,eR P "is_under" 886 476,eR P "told_isa" 895 483,eR P "viewed" 904 490,eR P "counted" 912 497,eR P "state_to_go" 921 504,eR P "gone_on" 931 511,eR P "thrown" 941 518,eR P "shut_down" 950 525,eR P "called_given" 960 532,eR P "called" 970 539,eO P "MOST_CLASSES" 974 (.int 40 973),eR P "is_same" 982 546,eR P "is_behind_head" 988 551,eR P "place_of_free" 994 556,eR P "without_head" 1000 561,eR P "merged" 1006 566,eR P "order_of" 1012 571,eR P "class_of" 1022 578,eR P "_law_cell_at" 1032 585,eR P "_law_cell" 1042 592,eR P "_law_drawn_names" 1048 597,eR P "_law_plain" 1056 604,eR P "_law_classes" 1062 609,eR P "_law_made_right" 1068 614,eR P "_law_looked" 1074 619,eR P "_law_fits_right" 1080 624,eR P "_law_names" 1086 629,eR P "_law_bound" 1103 636,eR P "law" 1109 641] 90) 72).take 642
noncomputable abbrev pr9 : Program := r9.row.prog
noncomputable def env9 : Env := { scope := pr9.main.scope, locals := mainNs, globals := mainNs, cells := [], code := .ref 13, frame := some 14 }
noncomputable abbrev b9 : List Stmt := W.behindTheImports pr9
noncomputable abbrev c9 : Code := .body b9 env9
abbrev z9 : Pos := ⟨0, 0, 0, 0⟩
noncomputable abbrev tf9 : List Frame := [W.topFrame z9]
noncomputable def st9 (l : List Obj) (n t : Nat) (os : OsState) : W.SharedT := ⟨bt 12 l, n, {}, #[], {}, t, os⟩
noncomputable def lA : List Stmt := p9.main.body.take 18
noncomputable def lB : List Stmt := (p9.main.body.drop 18).take 27
noncomputable def lC : List Stmt := (p9.main.body.drop 45).take 10
noncomputable def lD : List Stmt := p9.main.body.drop 55
def K9h (P : Params) : W.Frag := (nat_lit 2,⟨.none,none,.dict #[] 0,#[]⟩)::
  (nat_lit 3,dO [eO P "__name__" 165 (.str "law_grassnake_k14_faults" 1023),eO P "__doc__" 166 .none,eO P "__package__" 167 .none,eO P "__loader__" 168 (.builtin "__main__.__loader__#opaque"),eO P "__spec__" 169 .none,eR P "__annotations__" 170 6,eR P "__builtins__" 171 4,eO P "__file__" 173 (.str "/claim/cut.py" 172),eO P "__cached__" 174 .none,eR P "NONE" 190 15,eR P "GIVEN_FUNCTIONS" 199 16,eR P "GIVEN_CLASSES" 234 41,eR P "FAULT_FIELDS" 238 42,eR P "Function" 277 59,eR P "Given" 306 80,eR P "Method" 337 101,eR P "Kind" 372 122,eR P "Object" 403 143,eR P "Giver" 438 164,eR P "View" 469 185,eR P "World" 499 204,eR P "added" 507 215,eR P "thing_of" 515 222,eR P "known" 523 229,eR P "function" 536 236,eR P "new_method" 545 243,eR P "new_class" 557 250,eR P "is_class" 565 257,eR P "is_fault_class" 573 264,eR P "new_object" 579 269,eR P "new_view" 588 276,eR P "new_count" 596 283,eR P "is_giver" 604 290,eR P "frame_of" 612 297,eR P "state_of" 620 304,eR P "set_state" 630 311,eO P "MOST_NAMES" 634 (.int 8 633),eR P "made" 645 319,eR P "is_fault" 654 326,eR P "raised_of" 662 333,eR P "bind_raised" 673 340,eR P "fits" 683 347,eR P "fault_behind" 693 354,eR P "names_of" 703 361,eR P "found_in" 716 368,eR P "found_by_way" 727 375,eR P "order_of_owner" 735 382,eR P "found_of_view" 745 389,eR P "field_of" 756 396,eR P "can_be_put" 763 403,eR P "put_field" 774 410,eR P "named" 782 417,eR P "text_of_thing" 790 424,eR P "text_of" 798 431,eO P "MOST_COUNT" 802 (.int 10000 801),eR P "KIND_FAULT" 805 432,eR P "VALUES_OF_GIVEN" 838 433,eR P "entered" 849 448,eR P "object_of" 861 455,eR P "said" 869 462,eR P "taken_input" 877 469,eR P "is_under" 886 476,eR P "told_isa" 895 483,eR P "viewed" 904 490,eR P "counted" 912 497,eR P "state_to_go" 921 504,eR P "gone_on" 931 511,eR P "thrown" 941 518,eR P "shut_down" 950 525,eR P "called_given" 960 532,eR P "called" 970 539,eO P "MOST_CLASSES" 974 (.int 40 973),eR P "is_same" 982 546,eR P "is_behind_head" 988 551,eR P "place_of_free" 994 556,eR P "without_head" 1000 561,eR P "merged" 1006 566,eR P "order_of" 1012 571,eR P "class_of" 1022 578,eR P "_law_cell_at" 1032 585,eR P "_law_cell" 1042 592,eR P "_law_drawn_names" 1048 597,eR P "_law_plain" 1056 604,eR P "_law_classes" 1062 609,eR P "_law_made_right" 1068 614,eR P "_law_looked" 1074 619,eR P "_law_fits_right" 1080 624,eR P "_law_names" 1086 629,eR P "_law_bound" 1103 636,eR P "law" 1109 641] 90)::
  (nat_lit 15,tO [(.str "none" 189)])::
  (nat_lit 16,tO [(.str "say" 191),(.str "take" 192),(.str "isa" 193),(.str "elder" 194),(.str "count" 195),(.str "go" 196),(.str "throw" 197),(.str "shut" 198)])::
  (nat_lit 17,tO [])::
  (nat_lit 18,tO [(.str "Thing" 200),(.ref 17)])::
  (nat_lit 19,tO [(.str "Thing" 202)])::
  (nat_lit 20,tO [(.str "Fault" 201),(.ref 19)])::
  (nat_lit 21,tO [(.str "Fault" 204),(.str "Thing" 205)])::
  (nat_lit 22,tO [(.str "NameFault" 203),(.ref 21)])::
  (nat_lit 23,tO [(.str "Fault" 207),(.str "Thing" 208)])::
  (nat_lit 24,tO [(.str "KindFault" 206),(.ref 23)])::
  (nat_lit 25,tO [(.str "Fault" 210),(.str "Thing" 211)])::
  (nat_lit 26,tO [(.str "NoughtFault" 209),(.ref 25)])::
  (nat_lit 27,tO [(.str "Fault" 213),(.str "Thing" 214)])::
  (nat_lit 28,tO [(.str "GreatFault" 212),(.ref 27)])::
  (nat_lit 29,tO [(.str "Fault" 216),(.str "Thing" 217)])::
  (nat_lit 30,tO [(.str "FieldFault" 215),(.ref 29)])::
  (nat_lit 31,tO [(.str "Fault" 219),(.str "Thing" 220)])::
  (nat_lit 32,tO [(.str "OrderFault" 218),(.ref 31)])::
  (nat_lit 33,tO [(.str "Fault" 222),(.str "Thing" 223)])::
  (nat_lit 34,tO [(.str "EndFault" 221),(.ref 33)])::
  (nat_lit 35,tO [(.str "Fault" 225),(.str "Thing" 226)])::
  (nat_lit 36,tO [(.str "ShutFault" 224),(.ref 35)])::
  (nat_lit 37,tO [(.str "Fault" 228),(.str "Thing" 229)])::
  (nat_lit 38,tO [(.str "DeepFault" 227),(.ref 37)])::
  (nat_lit 39,tO [(.str "NameFault" 231),(.str "Fault" 232),(.str "Thing" 233)])::
  (nat_lit 40,tO [(.str "UnboundFault" 230),(.ref 39)])::
  (nat_lit 41,tO [(.ref 18),(.ref 20),(.ref 22),(.ref 24),(.ref 26),(.ref 28),(.ref 30),(.ref 32),(.ref 34),(.ref 36),(.ref 38),(.ref 40)])::
  (nat_lit 42,tO [(.str "word" 235),(.str "cause" 236),(.str "context" 237)])::
  (nat_lit 55,cO 55 true "__init__" "Function.__init__" 251 8 7 261)::
  (nat_lit 56,fm1 (iC 0 (tp9 5)) "__init__" "Function.__init__" 55)::
  (nat_lit 58,dO [eO P "__module__" 246 (.str "grassnake.store" 187),eO P "__firstlineno__" 250 (.int 6 249),eR P "__init__" 263 56,eR P "__static_attributes__" 270 57,eR P "__dict__" 272 60,eR P "__weakref__" 274 61,eO P "__doc__" 275 .none] 4)::
  (nat_lit 59,kO "Function" [(.type "object")] [(.ref 59),(.type "object")] 58 [] #[none,none,some (.str "Function" 239),some (.str "Function" 247),some (.builtin "object.__new__"),some (.bool true)])::
  (nat_lit 76,cO 76 true "__init__" "Given.__init__" 290 17 2 295)::
  (nat_lit 77,fm1 (iC 0 (tp9 6)) "__init__" "Given.__init__" 76)::
  (nat_lit 79,dO [eO P "__module__" 285 (.str "grassnake.store" 187),eO P "__firstlineno__" 289 (.int 15 288),eR P "__init__" 297 77,eR P "__static_attributes__" 299 78,eR P "__dict__" 301 81,eR P "__weakref__" 303 82,eO P "__doc__" 304 .none] 4)::
  (nat_lit 80,kO "Given" [(.type "object")] [(.ref 80),(.type "object")] 79 [] #[none,none,some (.str "Given" 278),some (.str "Given" 286),some (.builtin "object.__new__"),some (.bool true)])::
  (nat_lit 100,dO [eO P "__module__" 314 (.str "grassnake.store" 187),eO P "__firstlineno__" 318 (.int 19 317),eR P "__init__" 327 98,eR P "__static_attributes__" 330 99,eR P "__dict__" 332 102,eR P "__weakref__" 334 103,eO P "__doc__" 335 .none] 4)::
  (nat_lit 101,kO "Method" [(.type "object")] [(.ref 101),(.type "object")] 100 [] #[none,none,some (.str "Method" 307),some (.str "Method" 315),some (.builtin "object.__new__"),some (.bool true)])::
  (nat_lit 118,cO 118 true "__init__" "Kind.__init__" 350 26 5 358)::
  (nat_lit 119,fm1 (iC 0 (tp9 8)) "__init__" "Kind.__init__" 118)::
  (nat_lit 121,dO [eO P "__module__" 345 (.str "grassnake.store" 187),eO P "__firstlineno__" 349 (.int 24 348),eR P "__init__" 360 119,eR P "__static_attributes__" 365 120,eR P "__dict__" 367 123,eR P "__weakref__" 369 124,eO P "__doc__" 370 .none] 4)::
  (nat_lit 122,kO "Kind" [(.type "object")] [(.ref 122),(.type "object")] 121 [] #[none,none,some (.str "Kind" 338),some (.str "Kind" 346),some (.builtin "object.__new__"),some (.bool true)])::
  (nat_lit 139,cO 139 true "__init__" "Object.__init__" 385 33 3 391)::
  (nat_lit 140,fm1 (iC 0 (tp9 9)) "__init__" "Object.__init__" 139)::
  (nat_lit 142,dO [eO P "__module__" 380 (.str "grassnake.store" 187),eO P "__firstlineno__" 384 (.int 31 383),eR P "__init__" 393 140,eR P "__static_attributes__" 396 141,eR P "__dict__" 398 144,eR P "__weakref__" 400 145,eO P "__doc__" 401 .none] 4)::
  (nat_lit 143,kO "Object" [(.type "object")] [(.ref 143),(.type "object")] 142 [] #[none,none,some (.str "Object" 373),some (.str "Object" 381),some (.builtin "object.__new__"),some (.bool true)])::
  (nat_lit 163,dO [eO P "__module__" 411 (.str "grassnake.store" 187),eO P "__firstlineno__" 415 (.int 36 414),eR P "__init__" 425 161,eR P "__static_attributes__" 431 162,eR P "__dict__" 433 165,eR P "__weakref__" 435 166,eO P "__doc__" 436 .none] 4)::
  (nat_lit 164,kO "Giver" [(.type "object")] [(.ref 164),(.type "object")] 163 [] #[none,none,some (.str "Giver" 404),some (.str "Giver" 412),some (.builtin "object.__new__"),some (.bool true)])::
  (nat_lit 181,cO 181 true "__init__" "View.__init__" 451 46 3 457)::
  (nat_lit 182,fm1 (iC 0 (tp9 11)) "__init__" "View.__init__" 181)::
  (nat_lit 184,dO [eO P "__module__" 446 (.str "grassnake.store" 187),eO P "__firstlineno__" 450 (.int 44 449),eR P "__init__" 459 182,eR P "__static_attributes__" 462 183,eR P "__dict__" 464 186,eR P "__weakref__" 466 187,eO P "__doc__" 467 .none] 4)::
  (nat_lit 185,kO "View" [(.type "object")] [(.ref 185),(.type "object")] 184 [] #[none,none,some (.str "View" 439),some (.str "View" 447),some (.builtin "object.__new__"),some (.bool true)])::
  (nat_lit 200,cO 200 false "__init__" "World.__init__" 482 51 2 485)::
  (nat_lit 201,fm1 (iC 0 (tp9 12)) "__init__" "World.__init__" 200)::
  (nat_lit 203,dO [eO P "__module__" 477 (.str "grassnake.store" 187),eO P "__firstlineno__" 481 (.int 49 480),eR P "__init__" 487 201,eR P "__static_attributes__" 492 202,eR P "__dict__" 494 205,eR P "__weakref__" 496 206,eO P "__doc__" 497 .none] 4)::
  (nat_lit 204,kO "World" [(.type "object")] [(.ref 204),(.type "object")] 203 [] #[none,none,some (.str "World" 470),some (.str "World" 478),some (.builtin "object.__new__"),some (.bool true)])::
  (nat_lit 214,oT 214 "added" 500 60 2 505)::
  (nat_lit 215,fn1 13 "added" 214)::
  (nat_lit 221,oT 221 "thing_of" 508 63 2 513)::
  (nat_lit 222,fn1 14 "thing_of" 221)::
  (nat_lit 228,oT 228 "known" 516 65 2 521)::
  (nat_lit 229,fn1 15 "known" 228)::
  (nat_lit 235,oT 235 "function" 524 67 7 534)::
  (nat_lit 236,fn1 16 "function" 235)::
  (nat_lit 249,oT 249 "new_class" 546 71 5 555)::
  (nat_lit 250,fn1 18 "new_class" 249)::
  (nat_lit 256,oT 256 "is_class" 558 74 2 563)::
  (nat_lit 257,fn1 19 "is_class" 256)::
  (nat_lit 263,oT 263 "is_fault_class" 566 76 2 571)::
  (nat_lit 264,fn1 20 "is_fault_class" 263)::
  (nat_lit 268,oF 268 "new_object" 574 78 2 577)::
  (nat_lit 269,fn1 21 "new_object" 268)::
  (nat_lit 275,oT 275 "new_view" 580 81 3 586)::
  (nat_lit 276,fn1 22 "new_view" 275)::
  (nat_lit 312,tO [.none])::
  (nat_lit 318,oT 318 "made" 635 96 3 643)::
  (nat_lit 319,fD "grassnake.faults" 631 (tp9 30) "made" "made" 318 312)::
  (nat_lit 325,oT 325 "is_fault" 646 102 2 652)::
  (nat_lit 326,fn2 31 "is_fault" 325)::
  (nat_lit 332,oT 332 "raised_of" 655 105 2 660)::
  (nat_lit 333,fn2 32 "raised_of" 332)::
  (nat_lit 339,oT 339 "bind_raised" 663 109 4 671)::
  (nat_lit 340,fn2 33 "bind_raised" 339)::
  (nat_lit 346,oT 346 "fits" 674 113 3 681)::
  (nat_lit 347,fn2 34 "fits" 346)::
  (nat_lit 353,oT 353 "fault_behind" 684 118 2 691)::
  (nat_lit 354,fn2 35 "fault_behind" 353)::
  (nat_lit 360,oT 360 "names_of" 694 124 2 701)::
  (nat_lit 361,fn2 36 "names_of" 360)::
  (nat_lit 367,oT 367 "found_in" 706 132 3 714)::
  (nat_lit 368,fn3 38 "found_in" 367)::
  (nat_lit 374,oT 374 "found_by_way" 717 138 4 725)::
  (nat_lit 375,fn3 39 "found_by_way" 374)::
  (nat_lit 381,oT 381 "order_of_owner" 728 143 2 733)::
  (nat_lit 382,fn3 40 "order_of_owner" 381)::
  (nat_lit 395,oT 395 "field_of" 746 148 3 754)::
  (nat_lit 396,fn3 42 "field_of" 395)::
  (nat_lit 402,oT 402 "can_be_put" 757 160 1 761)::
  (nat_lit 403,fn3 43 "can_be_put" 402)::
  (nat_lit 409,oT 409 "put_field" 764 162 4 772)::
  (nat_lit 410,fn3 44 "put_field" 409)::
  (nat_lit 416,oT 416 "named" 775 168 2 780)::
  (nat_lit 417,fn3 45 "named" 416)::
  (nat_lit 423,oT 423 "text_of_thing" 783 170 2 788)::
  (nat_lit 424,fn3 46 "text_of_thing" 423)::
  (nat_lit 430,oT 430 "text_of" 791 180 2 796)::
  (nat_lit 431,fn3 47 "text_of" 430)::
  (nat_lit 433,dO [eR P "say" 806 434,eR P "take" 809 435,eR P "isa" 812 436,eR P "elder" 815 437,eR P "count" 818 438,eR P "go" 821 439,eR P "throw" 824 440,eR P "shut" 827 441] 8)::
  (nat_lit 434,tO [(.int 1 807),(.int 1 808)])::
  (nat_lit 435,tO [(.int 0 810),(.int 0 811)])::
  (nat_lit 436,tO [(.int 2 813),(.int 2 814)])::
  (nat_lit 437,tO [(.int 2 816),(.int 2 817)])::
  (nat_lit 438,tO [(.int 1 819),(.int 1 820)])::
  (nat_lit 439,tO [(.int 1 822),(.int 2 823)])::
  (nat_lit 440,tO [(.int 2 825),(.int 2 826)])::
  (nat_lit 441,tO [(.int 1 828),(.int 1 829)])::
  (nat_lit 454,oT 454 "object_of" 850 194 3 859)::
  (nat_lit 455,fn4 53 "object_of" 454)::
  (nat_lit 475,oT 475 "is_under" 878 211 3 884)::
  (nat_lit 476,fn4 56 "is_under" 475)::
  (nat_lit 489,oT 489 "viewed" 896 215 3 902)::
  (nat_lit 490,fn4 58 "viewed" 489)::
  (nat_lit 531,oT 531 "called_given" 951 246 3 958)::
  (nat_lit 532,fn4 64 "called_given" 531)::
  (nat_lit 538,oT 538 "called" 961 265 3 968)::
  (nat_lit 539,fn4 65 "called" 538)::
  (nat_lit 545,oT 545 "is_same" 975 276 2 980)::
  (nat_lit 546,fn5 68 "is_same" 545)::
  (nat_lit 550,oF 550 "is_behind_head" 983 278 2 986)::
  (nat_lit 551,fn5 69 "is_behind_head" 550)::
  (nat_lit 555,oF 555 "place_of_free" 989 280 1 992)::
  (nat_lit 556,fn5 70 "place_of_free" 555)::
  (nat_lit 560,oF 560 "without_head" 995 286 2 998)::
  (nat_lit 561,fn5 71 "without_head" 560)::
  (nat_lit 565,oF 565 "merged" 1001 289 1 1004)::
  (nat_lit 566,fn5 72 "merged" 565)::
  (nat_lit 570,oF 570 "order_of" 1007 300 2 1010)::
  (nat_lit 571,fn5 73 "order_of" 570)::
  (nat_lit 577,oT 577 "class_of" 1013 310 4 1020)::
  (nat_lit 578,fn5 74 "class_of" 577)::
  (nat_lit 584,oT 584 "_law_cell_at" 1025 313 2 1030)::
  (nat_lit 585,fn6 76 "_law_cell_at" 584)::
  (nat_lit 591,oT 591 "_law_cell" 1033 317 2 1040)::
  (nat_lit 592,fn6 77 "_law_cell" 591)::
  (nat_lit 596,oF 596 "_law_drawn_names" 1043 324 1 1046)::
  (nat_lit 597,fn6 78 "_law_drawn_names" 596)::
  (nat_lit 603,oT 603 "_law_plain" 1049 333 1 1054)::
  (nat_lit 604,fn6 79 "_law_plain" 603)::
  (nat_lit 608,oF 608 "_law_classes" 1057 336 4 1060)::
  (nat_lit 609,fn6 80 "_law_classes" 608)::
  (nat_lit 613,oF 613 "_law_made_right" 1063 354 3 1066)::
  (nat_lit 614,fn6 81 "_law_made_right" 613)::
  (nat_lit 618,oF 618 "_law_looked" 1069 366 4 1072)::
  (nat_lit 619,fn6 82 "_law_looked" 618)::
  (nat_lit 623,oF 623 "_law_fits_right" 1075 378 4 1078)::
  (nat_lit 624,fn6 83 "_law_fits_right" 623)::
  (nat_lit 628,oF 628 "_law_names" 1081 383 3 1084)::
  (nat_lit 629,fn6 84 "_law_names" 628)::
  (nat_lit 635,oT 635 "_law_bound" 1087 392 5 1101)::
  (nat_lit 636,fn6 85 "_law_bound" 635)::
  (nat_lit 640,oF 640 "law" 1104 405 1 1107)::
  (nat_lit 641,fn6 86 "law" 640)::[]
noncomputable def asK9h : List Nat := [2,3,15,16,17,18,19,20,21,22,23,24,25,26,27,28,29,30,31,32,33,34,35,36,37,38,39,40,41,42,55,56,58,59,76,77,79,80,100,101,118,119,121,122,139,140,142,143,163,164,181,182,184,185,200,201,203,204,214,215,221,222,228,229,235,236,249,250,256,257,263,264,268,269,275,276,312,318,319,325,326,332,333,339,340,346,347,353,354,360,361,367,368,374,375,381,382,395,396,402,403,409,410,416,417,423,424,430,431,433,434,435,436,437,438,439,440,441,454,455,475,476,489,490,531,532,538,539,545,546,550,551,555,556,560,561,565,566,570,571,577,578,584,585,591,592,596,597,603,604,608,609,613,614,618,619,623,624,628,629,635,636,640,641]
abbrev lo9 : List Str := ["made", "VALUES_OF_GIVEN"]
theorem eK9h (P : Params) : asK9h = (K9h P).map (·.1) := by kernel_rfl
noncomputable def q9 : Program := { p9 with main := { p9.main with body := [1,2,3,4,5,6,7,8,9,10,11,12,13,14,15,16,17,18,19,20,21,22,23,24,25,26,27,29,31,32,33,34,35,36,38,39,40,41,42,43,44,45,46,47,49,50,51,52,53,54,55,56,57,58,59,60,61,62,63,64,65,67,68,69,70,71,72,73,74,76,77,78,79,80,81,82,83,84,85,86].filterMap fun i => p9.main.body[i]? } }
theorem said9 : r9.wellSaid = true := by decide +kernel
end
end GS
set_option Elab.async false
set_option linter.all false
set_option maxRecDepth 100000
set_option maxHeartbeats 4000000
namespace GS
open PySem
theorem pre9 (w : World) (os : OsState) : W.topGo treeTable pr9 w 11 (some (.ref 6)) 12 ⟨W.boot_heap w.params, #[], W.boot_drawn, W.boot_toks, os⟩ (W.topStub pr9) = some (⟨⟨(l0 w.params).toArray, {}⟩, #[], {}, 187, os⟩, ⟨denote treeTable c9, c9, z9, tf9⟩) := by kernel_rfl
theorem blk9 (w : World) (os : OsState) : W.segRun treeTable pr9 w 11 (some (.ref 6)) 1 1 ⟨⟨(l0 w.params).toArray, {}⟩, #[], {}, 187, os⟩ (W.blockOf b9 env9 c9 z9 tf9) = some (.next, (st9 (l0 w.params) 15 187 os).abs, c9, z9) := by kernel_rfl
theorem pA9 (w : World) (os : OsState) : W.segRunT treeTable pr9 w 11 (some (.ref 6)) 1 2109 (st9 (l0 w.params) 15 187 os) (W.piecesOf lA env9 c9 z9 tf9) = some (.next, st9 (l1 w.params) 244 546 os, c9, ⟨69, 0, 70, 46⟩) := by kernel_rfl
theorem pB9 (w : World) (os : OsState) : W.segRunT treeTable pr9 w 11 (some (.ref 6)) 1 779 (st9 (l1 w.params) 244 546 os) (W.piecesOf lB env9 c9 ⟨69, 0, 70, 46⟩ tf9) = some (.next, st9 (l2 w.params) 411 775 os, c9, ⟨162, 0, 167, 26⟩) := by kernel_rfl
def qC (os : OsState) (w : World) : Prop := W.segRunT treeTable pr9 w 11 (some (.ref 6)) 1 372 (st9 (l2 w.params) 411 775 os) (W.piecesOf lC env9 c9 ⟨162, 0, 167, 26⟩ tf9) = some (.next, st9 (l3 w.params) 463 870 os, c9, ⟨205, 0, 207, 26⟩)
theorem pCf (os : OsState) (w : World) : qC os (w.withFollow "special-get-raises" false) := by unfold qC; kernel_rfl
theorem pCt (os : OsState) (w : World) : qC os (w.withFollow "special-get-raises" true) := by unfold qC; kernel_rfl
theorem pD9 (w : World) (os : OsState) : W.segRunT treeTable pr9 w 11 (some (.ref 6)) 1 878 (st9 (l3 w.params) 463 870 os) (W.piecesOf lD env9 c9 ⟨205, 0, 207, 26⟩ tf9) = some (.next, st9 (l4 w.params) 642 1110 os, c9, ⟨405, 0, 436, 159⟩) := by kernel_rfl
theorem fin9 (w : World) (os : OsState) : W.topRun treeTable pr9 w 11 (some (.ref 6)) 2 (st9 (l4 w.params) 642 1110 os).abs ⟨W.doneF .next, c9, ⟨405, 0, 436, 159⟩, tf9⟩ = some ⟨⟨(l4 w.params).toArray, {}⟩, #[], {}, 1110, os⟩ := by kernel_rfl
theorem eb9 : b9 = lA ++ (lB ++ (lC ++ (lD ++ []))) := by kernel_rfl
theorem run9 (w : World) (os : OsState) : W.topRun treeTable pr9 w 11 (some (.ref 6)) (12 + (1 + (2109 + (779 + (372 + (878 + 2)))))) ⟨W.boot_heap w.params, #[], W.boot_drawn, W.boot_toks, os⟩ (W.topStub pr9) = some ⟨⟨(l4 w.params).toArray, {}⟩, #[], {}, 1110, os⟩ := by
  refine W.go_top (pre9 w os) (W.piece_block (blk9 w os) ?_)
  have e : W.restOf b9 env9 c9 z9 tf9 = W.restOf (lA ++ (lB ++ (lC ++ (lD ++ [])))) env9 c9 z9 tf9 := congrArg (fun l => W.restOf l env9 c9 z9 tf9) eb9
  rw [e]
  exact W.piece_app (W.segRun_of (pA9 w os)) (W.piece_app (W.segRun_of (pB9 w os)) (W.piece_app (W.segRun_of (W.byRow2 "special-get-raises" (pCf os) (pCt os) w)) (W.piece_app (W.segRun_of (pD9 w os)) (W.piece_nil (fin9 w os)))))
theorem left9 : W.LeftO pr9 q9 lo9 (fun s => W.xlAt q9 [] s && W.recOk (W.RowW.records (W.OpenRow.toRowW (W.OpenLaw.row r9))) s) (W.Hook.obs (W.kHook K9h asK9h eK9h)) (W.Hook.val (W.kHook K9h asK9h eK9h)) 8376 :=
  W.LeftO.of_pieces (M := 12 + (1 + (2109 + (779 + (372 + (878 + 2)))))) (H₀ := fun P => W.boot_heap P) (H₁ := fun P => ⟨(l4 P).toArray, {}⟩) (W.boot_open (by kernel_rfl) rfl (fun s => by rfl)) (fun w => by kernel_rfl) run9 rfl (fun w => by kernel_rfl)
end GS
set_option Elab.async false
set_option linter.all false
set_option maxRecDepth 100000
namespace L2
open PySem PySem.Spec PyProof.Rows
abbrev Key:=Sum Int Str
def keyIs:Key→Value→Bool
 | .inl k,v=>Value.isInt k v
 | .inr x,v=>Value.isStrOf x v
def keyH (w:World):Key→Int
 | .inl k=>hashInt k
 | .inr x=>hashStr w x
theorem keyIs_shape:∀{k:Key} {v:Value},keyIs k v=true→(∃i t,k=Sum.inl i∧v=Value.int i t)∨(∃x t,k=Sum.inr x∧v=Value.str x t)
 | .inl i,v,h=>by
  obtain ⟨t,e⟩:=Value.isInt_shape (k:=i) (v:=v) h
  exact .inl ⟨i,t,rfl,e⟩
 | .inr x,v,h=>by
  obtain ⟨t,e⟩:=Value.isStrOf_shape (x:=x) (v:=v) h
  exact .inr ⟨x,t,rfl,e⟩
theorem keyIs_int (i:Int) (t:Tok):keyIs (.inl i) (.int i t)=true:=by simp[keyIs,Value.isInt]
theorem keyIs_str (x:Str) (t:Tok):keyIs (.inr x) (.str x t)=true:=by simp[keyIs,Value.isStrOf]
theorem key_ll (a b:Int):decide ((Sum.inl a:Key)=Sum.inl b)=(a == b):=by
 by_cases e:a=b
 ·subst e; simp
 ·have h:¬(Sum.inl a:Key)=Sum.inl b:=fun q=>e (Sum.inl.inj q)
  rw[decide_eq_false h]
  exact (beq_eq_false_iff_ne.mpr e).symm
theorem key_rr (a b:Str):decide ((Sum.inr a:Key)=Sum.inr b)=decide (a=b):=by
 by_cases e:a=b
 ·subst e; simp
 ·have h:¬(Sum.inr a:Key)=Sum.inr b:=fun q=>e (Sum.inr.inj q)
  rw[decide_eq_false h,decide_eq_false e]
theorem key_lr (a:Int) (b:Str):decide ((Sum.inl a:Key)=Sum.inr b)=false:=decide_eq_false (fun q=>nomatch q)
theorem key_rl (a:Str) (b:Int):decide ((Sum.inr a:Key)=Sum.inl b)=false:=decide_eq_false (fun q=>nomatch q)
def mixKind (prog:Program) (w:World):PySem.KeyKind prog w Key where
 is:=keyIs
 hash:=keyH w
 inj:=fun v a b ha hb=>by
  rcases keyIs_shape ha with ⟨i,t,rfl,rfl⟩ | ⟨x,t,rfl,rfl⟩
  ·rcases keyIs_shape hb with ⟨j,u,rfl,e⟩ | ⟨y,u,rfl,e⟩
   ·injection e with e1 _; rw[e1]
   ·exact nomatch e
  ·rcases keyIs_shape hb with ⟨j,u,rfl,e⟩ | ⟨y,u,rfl,e⟩
   ·exact nomatch e
   ·injection e with e1 _; rw[e1]
 byValue:=fun k v h=>by
  rcases keyIs_shape h with ⟨i,t,rfl,rfl⟩ | ⟨x,t,rfl,rfl⟩ <;> rfl
 pyHash:=fun hv h=>by
  rcases keyIs_shape hv with ⟨i,t,rfl,rfl⟩ | ⟨x,t,rfl,rfl⟩
  ·exact wpAny_pyHash_int h
  ·exact wpAny_pyHash_str h
 eqBool:=fun hu hv h=>by
  rcases keyIs_shape hu with ⟨i,t,rfl,rfl⟩ | ⟨x,t,rfl,rfl⟩
  ·rcases keyIs_shape hv with ⟨j,u,rfl,rfl⟩ | ⟨y,u,rfl,rfl⟩
   ·rw[key_ll] at h; exact wpAny_eqBool_int h
   ·rw[key_lr] at h; exact SeqAt.EqAt.int_str i t y u _ _ _ _ h
  ·rcases keyIs_shape hv with ⟨j,u,rfl,rfl⟩ | ⟨y,u,rfl,rfl⟩
   ·rw[key_rl] at h; exact SeqAt.EqAt.str_int x t j u _ _ _ _ h
   ·rw[key_rr] at h; exact wpAny_eqBool_str h
 «strs»:=fun k x t v h=>by
  rcases keyIs_shape h with ⟨i,u,rfl,e⟩ | ⟨y,u,rfl,e⟩
  ·exact nomatch e
  ·injection e with e1 _
   subst e1
   cases v <;> rfl
theorem mixKind_int (prog:Program) (w:World) (i:Int) (t:Tok):(mixKind prog w).is (.inl i) (.int i t)=true:=keyIs_int i t
theorem mixKind_str (prog:Program) (w:World) (x:Str) (t:Tok):(mixKind prog w).is (.inr x) (.str x t)=true:=keyIs_str x t
end L2
namespace L2
open PySem PySem.Spec PyProof.Rows
inductive V where
 | non | bl (b:Bool) | int (i:Int) | str (x:Str) | byt (b:Array UInt8) | flt (b:UInt64) | ref (a:Addr) | ty (n:String)
 deriving DecidableEq
def RelV:V→Value→Prop
 | .non,u=>u=Value.none
 | .bl b,u=>u=Value.bool b
 | .int i,u=>∃t,u=Value.int i t
 | .str x,u=>∃t,u=Value.str x t
 | .byt b,u=>∃t,u=Value.bytes b t
 | .flt b,u=>∃t,u=Value.float b t
 | .ref a,u=>u=Value.ref a
 | .ty n,u=>u=Value.type n
abbrev Vals:List V→List Value→Prop:=Paired RelV
theorem Vals.length {xs:List V} {us:List Value} (r:Vals xs us):xs.length=us.length:=Paired.length r
theorem Vals.get:∀{xs:List V} {us:List Value} {i:Nat} {x:V},Vals xs us→xs[i]?=some x→∃u,us[i]?=some u∧RelV x u
 | _,_,_,_,.nil,e=>by simp at e
 | _,_,0,_,.cons r _,e=>by simp at e; subst e; exact ⟨_,rfl,r⟩
 | _,_,i+1,x,.cons _ t,e=>by
  obtain ⟨u,h1,h2⟩:=Vals.get (i:=i) (x:=x) t (by simpa using e)
  exact ⟨u,by simpa using h1,h2⟩
theorem Vals.set {x:V} {u:Value} (r:RelV x u):∀{xs:List V} {us:List Value} (i:Nat),Vals xs us→Vals (xs.set i x) (us.set i u)
 | _,_,_,.nil=>.nil
 | _,_,0,.cons _ t=>.cons r t
 | _,_,i+1,.cons q t=>.cons q (Vals.set r i t)
theorem Vals.append:∀{xs ys:List V} {us ws:List Value},Vals xs us→Vals ys ws→Vals (xs++ys) (us++ws)
 | _,_,_,_,.nil,s=>s
 | _,_,_,_,.cons r t,s=>.cons r (Vals.append t s)
theorem Vals.take:∀{xs:List V} {us:List Value} (n:Nat),Vals xs us→Vals (xs.take n) (us.take n)
 | _,_,0,_=>.nil
 | _,_,_+1,.nil=>.nil
 | _,_,n+1,.cons r t=>.cons r (Vals.take n t)
theorem Vals.drop:∀{xs:List V} {us:List Value} (n:Nat),Vals xs us→Vals (xs.drop n) (us.drop n)
 | _,_,0,r=>r
 | _,_,_+1,.nil=>.nil
 | _,_,n+1,.cons _ t=>Vals.drop n t
def RelO:Option V→Option Value→Prop
 | some v,some u=>RelV v u
 | none,none=>True
 | _,_=>False
def KV {κ:Type}:List (κ×V)→List (κ×Value)→Prop:=Paired fun (p:κ×V) (q:κ×Value)=>p.1=q.1∧RelV p.2 q.2
def kV:Key→V
 | .inl i=>.int i
 | .inr x=>.str x
inductive HO where
 | lst (xs:List V)
 | tup (xs:List V)
 | dK (kvs:List (Key×V)) | dT (kvs:List (List Key×V))
 | set (S:Int→Bool) (n:Nat)
 | ins (C dx:Addr) (fs:List (Str×V))
 | own (x:Addr)
 | xd (fs:List (Str×V))
 | met (f x:Addr)
 | rng (lo hi:Int)
 | frz (o:Obj) (u:HO)
 | tbl (ps:Array Value)
 | ext (φ:Heap→Prop)
abbrev Hp:=Addr→Option HO
def upd (H:Hp) (a:Addr) (o:HO):Hp:=fun b=>if b=a then some o else H b
theorem upd_same {H:Hp} {a:Addr} {o:HO}:upd H a o a=some o:=by unfold upd; rw[if_pos rfl]
theorem upd_ne {H:Hp} {a b:Addr} {o:HO} (h:b≠a):upd H a o b=H b:=by unfold upd; rw[if_neg h]
theorem ne_of {H:Hp} {a b:Addr} {o u:HO} (h:H a=some o) (h':H b=some u) (d:o≠u):a≠b:=by
 intro e; subst e; rw[h] at h'; exact d (Option.some.inj h')
theorem ne_of_none {H:Hp} {a b:Addr} {o:HO} (h:H a=some o) (h':H b=none):a≠b:=by
 intro e; subst e; rw[h] at h'; cases h'
section
variable (P:Program) (w:World)
def ObjOk (H:Hp) (h:Heap) (a:Addr):HO→Prop
 | .lst xs=>xs.length≤sizeLine∧∃(its:List Value) (n:Nat),Vals xs its∧h.get? a=some { cls:=.type "list",data:=.seq its.toArray n }
 | .tup xs=>xs.length≤sizeLine∧∃its:List Value,Vals xs its∧IsTup h a its.toArray
 | .dK kvs=>kvs.length≤sizeLine∧(a == sysModules)=false∧∃vs,KV kvs vs∧h.DictOf (mixKind P w) a vs
 | .dT kvs=>kvs.length≤sizeLine∧(a == sysModules)=false∧∃xs:List (List Key×Addr×Value),
   Paired (fun (p:List Key×V) (q:List Key×Addr×Value)=>p.1=q.1∧H q.2.1=some (.tup (p.1.map kV))∧RelV p.2 q.2.2) kvs xs∧
   ∃o es ep,h.get? a=some o∧o.ExactDict∧o.data=.dict es ep∧es.toList=xs.map (entryOfKey (tupleKind (mixKind P w)))∧(xs.map (·.1)).Nodup
 | .set S n=>h.SetOf (intKind P w) a S n
 | .ins C dx fs=>H dx=some (.own a)∧fs.length≤1000∧dx≠a∧h.get? a=some (PySem.W.instObj C dx)∧
   ∃mA,h.Ns1 dx mA∧(∀f,RelO (fs.lookup f) (mA f))∧PySem.Within mA (fs.map (·.1))
 | .own _=>∃o,h.get? a=some o
 | .xd fs=>∃mA,h.Ns1 a mA∧∀f,RelO (fs.lookup f) (mA f)
 | .rng lo hi=>∃t u v,h.get? a=some { cls:=.type "range",data:=.fields #[.int lo t,.int hi u,.int 1 v] }
 | .frz o u=>h.get? a=some o∧ObjOk H h a u
 | .tbl ps=>h.get? a=some { cls:=.none,data:=.fields ps }
 | .met f x=>h.get? a=some (PySem.W.methodObj (.ref f) (.ref x))
 | .ext φ=>φ h∧(∃o,h.get? a=some o)∧∀h1 h2:Heap,φ h1→(∀o,h1.get? a=some o→h2.get? a=some o)→φ h2
def HOk (H:Hp) (h:Heap):Prop:=∀a o,H a=some o→ObjOk P w H h a o
end
section
variable {P:Program} {w:World} {H H':Hp} {h h':Heap} {a:Addr} {o:HO}
theorem ObjOk.lt (x:ObjOk P w H h a o):a < h.objs.size:=by
 cases o with
 | lst xs=>obtain ⟨_,_,_,_,e⟩:=x; exact Heap.lt_size e
 | tup xs=>obtain ⟨_,_,_,p⟩:=x; exact p.lt
 | dK kvs=>obtain ⟨_,_,_,_,o,_,_,e,_⟩:=x; exact Heap.lt_size e
 | dT kvs=>obtain ⟨_,_,_,_,o,_,_,e,_⟩:=x; exact Heap.lt_size e
 | set S n=>obtain ⟨o,_,_,_,e,_⟩:=x; exact Heap.lt_size e
 | ins C dx fs=>obtain ⟨_,_,_,e,_⟩:=x; exact Heap.lt_size e
 | own y=>obtain ⟨_,e⟩:=x; exact Heap.lt_size e
 | xd fs=>obtain ⟨_,⟨_,_,_,e,_⟩,_⟩:=x; exact Heap.lt_size e
 | rng lo hi=>obtain ⟨_,_,_,e⟩:=x; exact Heap.lt_size e
 | frz ob u=>obtain ⟨e,_⟩:=x; exact Heap.lt_size e
 | tbl ps=>exact Heap.lt_size (show h.get? a=some _ from x)
 | met f y=>exact Heap.lt_size (show h.get? a=some _ from x)
 | ext φ=>obtain ⟨_,⟨_,e⟩,_⟩:=x; exact Heap.lt_size e
theorem Paired.mapP {α β:Type} {F G:α→β→Prop}:∀{l₁:List α} {l₂:List β},Paired F l₁ l₂→(∀a b,F a b→G a b)→Paired G l₁ l₂
 | _,_,.nil,_=>.nil
 | _,_,.cons r t,f=>.cons (f _ _ r) (Paired.mapP t f)
theorem ObjOk.stay (x:ObjOk P w H h a o) (k:∀b u,(b=a∨H b=some (.own a))→h.get? b=some u→h'.get? b=some u)
  (ho:∀b,H b=some (.own a)→H' b=some (.own a)) (ht:∀b xs,H b=some (.tup xs)→H' b=some (.tup xs)):ObjOk P w H' h' a o:=by
 induction o with
 | lst xs=>obtain ⟨z,its,n,r,e⟩:=x; exact ⟨z,its,n,r,k _ _ (.inl rfl) e⟩
 | tup xs=>obtain ⟨z,its,r,ob,e,c⟩:=x; exact ⟨z,its,r,ob,k _ _ (.inl rfl) e,c⟩
 | dK kvs=>obtain ⟨z,y,vs,r,ob,es,ep,e,c⟩:=x; exact ⟨z,y,vs,r,ob,es,ep,k _ _ (.inl rfl) e,c⟩
 | dT kvs=>
  obtain ⟨z,y,xs,r,ob,es,ep,e,c⟩:=x
  exact ⟨z,y,xs,Paired.mapP r fun p q z=>⟨z.1,ht _ _ z.2.1,z.2.2⟩,ob,es,ep,k _ _ (.inl rfl) e,c⟩
 | set S n=>obtain ⟨ob,es,ep,t,e,c⟩:=x; exact ⟨ob,es,ep,t,k _ _ (.inl rfl) e,c⟩
 | ins C dx fs=>
  obtain ⟨d,z,ne,e,mA,⟨od,es,ep,e2,c⟩,r⟩:=x
  exact ⟨ho _ d,z,ne,k _ _ (.inl rfl) e,mA,⟨od,es,ep,k _ _ (.inr d) e2,c⟩,r⟩
 | own y=>obtain ⟨ob,e⟩:=x; exact ⟨ob,k _ _ (.inl rfl) e⟩
 | xd fs=>obtain ⟨mA,⟨od,es,ep,e,c⟩,r⟩:=x; exact ⟨mA,⟨od,es,ep,k _ _ (.inl rfl) e,c⟩,r⟩
 | rng lo hi=>obtain ⟨t,u,v,e⟩:=x; exact ⟨t,u,v,k _ _ (.inl rfl) e⟩
 | frz ob u ih=>obtain ⟨e,q⟩:=x; exact ⟨k _ _ (.inl rfl) e,ih q⟩
 | tbl ps=>
  have e:h.get? a=some { cls:=.none,data:=.fields ps }:=x
  show h'.get? a=some { cls:=.none,data:=.fields ps }
  exact k a _ (.inl rfl) e
 | met f y=>
  have e:h.get? a=some (PySem.W.methodObj (.ref f) (.ref y)):=x
  show h'.get? a=some (PySem.W.methodObj (.ref f) (.ref y))
  exact k a _ (.inl rfl) e
 | ext φ=>obtain ⟨p,⟨o,e⟩,st⟩:=x; exact ⟨st _ _ p fun o q=>k _ _ (.inl rfl) q,⟨o,k _ _ (.inl rfl) e⟩,st⟩
theorem HOk.lt (x:HOk P w H h) (e:H a=some o):a < h.objs.size:=(x a o e).lt
theorem HOk.fresh (x:HOk P w H h) (e:h.objs.size≤a):H a=none:=by
 cases q:H a with
 | none=>rfl
 | some u=>exact absurd (Nat.lt_of_lt_of_le (x.lt q) e) (Nat.lt_irrefl _)
theorem HOk.kept (x:HOk P w H h) (k:∀b u,h.get? b=some u→h'.get? b=some u):HOk P w H h':=fun a o e=>
 (x a o e).stay (fun b u _ q=>k b u q) (fun _ q=>q) fun _ _ q=>q
theorem HOk.laid (x:HOk P w H h) (k:∀b u,h.get? b=some u→h'.get? b=some u) (hp:h.objs.size≤a) (new:ObjOk P w (upd H a o) h' a o):HOk P w (upd H a o) h':=fun b u e=>by
 have hn:=x.fresh hp
 by_cases hb:b=a
 ·subst hb; rw[upd_same] at e; cases e; exact new
 ·rw[upd_ne hb] at e
  exact (x b u e).stay (fun c v _ q=>k c v q) (fun c q=>by rw[upd_ne (ne_of_none q hn)]; exact q) fun c xs q=>by rw[upd_ne (ne_of_none q hn)]; exact q
end
def Rd (H:Hp) (a:Addr) (u:HO):Prop:=H a=some u∨∃o,H a=some (.frz o u)
theorem Rd.ok {P:Program} {w:World} {H:Hp} {h:Heap} {a:Addr} {u:HO} (r:Rd H a u) (x:HOk P w H h):ObjOk P w H h a u:=by
 rcases r with r | ⟨o,r⟩
 ·exact x a u r
 ·obtain ⟨_,q⟩:=x a _ r
  exact q
def Mut:Option HO→Prop
 | some (.lst _)=>True
 | some (.dK _)=>True
 | some (.dT _)=>True
 | some (.set _ _)=>True
 | some (.ins _ _ _)=>True
 | some (.ext _)=>True
 | _=>False
section
variable {P:Program} {w:World} {H:Hp} {h h':Heap} {x e:Addr} {o':HO}
theorem HOk.write (ok:HOk P w H h) (mu:Mut (H x)) (he:e=x∨H e=some (.own x)) (k:∀b u,b≠e→h.get? b=some u→h'.get? b=some u) (heo:∃u,h'.get? e=some u)
  (new:ObjOk P w (upd H x o') h' x o'):HOk P w (upd H x o') h':=fun b u q=>by
 have nown:∀c y,H c=some (.own y)→c≠x:=fun c y r z=>by subst z; rw[r] at mu; exact mu
 have ntup:∀c xs,H c=some (.tup xs)→c≠x:=fun c xs r z=>by subst z; rw[r] at mu; exact mu
 by_cases hb:b=x
 ·subst hb; rw[upd_same] at q; cases q; exact new
 ·rw[upd_ne hb] at q
  by_cases hbe:b=e
  ·have q':H b=some (.own x):=by
    rcases he with z | z
    ·exact absurd (hbe.trans z) hb
    ·rw[hbe]; exact z
   rw[q] at q'; cases q'
   obtain ⟨v,hv⟩:=heo
   exact ⟨v,by rw[hbe]; exact hv⟩
  ·refine (ok b u q).stay (fun c v hc r=>k c v ?_ r) (fun c r=>by rw[upd_ne (nown c b r)]; exact r) fun c xs r=>by rw[upd_ne (ntup c xs r)]; exact r
   rcases hc with rfl | hc
   ·exact hbe
   ·rintro rfl
    rcases he with z | z
    ·exact nown c b hc z
    ·rw[hc] at z; cases z; exact hb rfl
end
structure Un (fs ex:List Addr) (H H':Hp) (h h':Heap):Prop where
 keep:∀b o,h.get? b=some o→H b=none→b ∉ fs→b ∉ ex→h'.get? b=some o
 slot:∀b o,h.get? b=some o→H b=none→b∈fs→b ∉ ex→∃sl,h'.get? b=some { o with slots:=sl }
 free:∀b o,h.get? b=some o→H b=none→b ∉ ex→H' b=none
 there:∀b o,h.get? b=some o→b ∉ ex→∃o',h'.get? b=some o'
 tups:∀b xs,H b=some (.tup xs)→H' b=some (.tup xs)
 frzs:∀b o u,H b=some (.frz o u)→H' b=some (.frz o u)
 tbls:∀b ps,H b=some (.tbl ps)→∃more,H' b=some (.tbl (ps++more))
section
variable {fs fs' ex ex':List Addr} {H H1 H2:Hp} {h h1 h2 h':Heap} {a x e:Addr} {o:HO}
theorem Un.any (u:Un fs ex H H1 h h1) {b:Addr} {ob:Obj} (q:h.get? b=some ob) (n:H b=none) (hx:b ∉ ex):∃sl,h1.get? b=some { ob with slots:=sl }:=by
 by_cases hb:b∈fs
 ·exact u.slot b ob q n hb hx
 ·exact ⟨ob.slots,u.keep b ob q n hb hx⟩
theorem Un.kept (k:∀b u,h.get? b=some u→h'.get? b=some u):Un fs ex H H h h':=
 ⟨fun b ob q _ _ _=>k b ob q,fun b ob q _ _ _=>⟨ob.slots,k b ob q⟩,fun _ _ _ n _=>n,fun b ob q _=>⟨ob,k b ob q⟩,fun _ _ q=>q,fun _ _ _ q=>q,fun _ ps q=>⟨#[],by rw[q]; simp⟩⟩
theorem Un.refl:Un fs ex H H h h:=Un.kept fun _ _ q=>q
theorem Un.laid (k:∀b u,h.get? b=some u→h'.get? b=some u) (hp:h.objs.size≤a) (hn:H a=none):Un fs ex H (upd H a o) h h' where
 keep:=fun b u q _ _ _=>k b u q
 slot:=fun b u q _ _ _=>⟨u.slots,k b u q⟩
 free:=fun b u q n _=>by rw[upd_ne (Nat.ne_of_lt (Nat.lt_of_lt_of_le (Heap.lt_size q) hp))]; exact n
 there:=fun b u q _=>⟨u,k b u q⟩
 tups:=fun b xs q=>by rw[upd_ne (ne_of_none q hn)]; exact q
 frzs:=fun b u xs q=>by rw[upd_ne (ne_of_none q hn)]; exact q
 tbls:=fun b ps q=>⟨#[],by rw[upd_ne (ne_of_none q hn),q]; simp⟩
theorem Un.write (mu:Mut (H x)) (he:e=x∨H e=some (.own x)) (k:∀b u,b≠e→h.get? b=some u→h'.get? b=some u) (heo:∃u,h'.get? e=some u):Un fs ex H (upd H x o) h h':=by
 have hx:∀b,H b=none→b≠x:=fun b n z=>by subst z; rw[n] at mu; exact mu
 have hb:∀b,H b=none→b≠e:=fun b n z=>by
  subst z
  rcases he with r | r
  ·exact hx b n r
  ·rw[n] at r; cases r
 have hm:∀b u,H b=some u→¬Mut (some u)→b≠x:=fun b u q nm z=>by subst z; rw[q] at mu; exact nm mu
 refine ⟨fun b u q n _ _=>k b u (hb b n) q,fun b u q n _ _=>⟨u.slots,k b u (hb b n) q⟩,fun b u q n _=>by rw[upd_ne (hx b n)]; exact n,fun b u q _=>?_,
  fun b xs q=>by rw[upd_ne (hm b _ q fun z=>z)]; exact q,fun b u xs q=>by rw[upd_ne (hm b _ q fun z=>z)]; exact q,fun b ps q=>⟨#[],by rw[upd_ne (hm b _ q fun z=>z),q]; simp⟩⟩
 by_cases hbe:b=e
 ·subst hbe; exact heo
 ·exact ⟨u,k b u hbe q⟩
end
def trk (h:Heap) (H:Hp):List Addr:=(List.range h.objs.size).filter fun a=>(H a).isSome
def hidT (h:Heap) (H:Hp):Heap:=PySem.W.hideAll h (trk h H)
theorem hidT_size (h:Heap) (H:Hp):(hidT h H).objs.size=h.objs.size:=PySem.W.hideAll_size _ _
theorem hidT_get {h:Heap} {H:Hp} {b:Addr} {o:Obj} (e:h.get? b=some o) (n:H b=none):(hidT h H).get? b=some o:=
 PySem.W.hideAll_get _ e fun hm=>by
  have q:(H b).isSome=true:=(List.mem_filter.mp hm).2
  rw[n] at q; simp at q
theorem of_hidT {h:Heap} {H:Hp} {b:Addr} {o:Obj} (e:(hidT h H).get? b=some o):h.get? b=some o∧H b=none:=by
 have e':h.get? b=some o:=PySem.W.of_hideAll (trk h H) e
 refine ⟨e',?_⟩
 cases q:H b with
 | none=>rfl
 | some x=>
  have hm:b∈trk h H:=List.mem_filter.mpr ⟨List.mem_range.mpr (Heap.lt_size e'),by simp[q]⟩
  have z:(hidT h H).get? b=none:=PySem.W.hideAll_none (trk h H) hm
  rw[z] at e; cases e
end L2
namespace L2
open PySem PySem.Spec PyProof.Rows
structure Mod (K:PySem.W.Frag) (mg:Str→Option Value) (base:Heap):Prop where
 kin:K.In base
 glob:base.Ns mainGlobals mg
 blt:∃mb,base.Ns builtinsNs mb∧∀x:Str,x≠"__name__"→mb x=bootBuiltins x
 nolimit:base.NoLimit
structure Cx where
 prog:Program
 w:World
 K:PySem.W.Frag
 mg:Str→Option Value
 base:Heap
 A:Around
 N:List Str
 s₀:Shared
 H₀:Hp
 env:Env
 outer:List Env
 stack:List Env
 ex:List Addr
 fn:Str→Bool
 calm:Bool
 pn:List (Addr×Obj)
 xe:Value→Shared→Prop
def frs (l:List Env):List Addr:=l.filterMap (·.frame)
abbrev Cx.fs (X:Cx):List Addr:=frs X.outer
def Vis (sc:Scope) (x:Str):Prop:=sc.names.lookup x=some .local∨sc.names.lookup x=some .cell∨sc.names.lookup x=some .free
def Loc (sc:Scope) (x:Str):Prop:=sc.names.lookup x=some .local∨sc.names.lookup x=some .cell
def Look (env:Env) (h:Heap) (m:Str→Option Value) (x:Str) (u:Value):Prop:=
 (env.kindOf x=some .local∧m x=some u)∨((env.kindOf x=some .cell∨env.kindOf x=some .free)∧∃c,env.cells.lookup x=some c∧h.IsCell c (some u))
structure Cx.Ok (X:Cx):Prop where
 mod:Mod X.K X.mg X.base
 kind:X.env.scope.kind=.function
 glob:X.env.globals=mainGlobals
 blt:X.env.builtins=builtinsNs
 above:X.s₀.heap.objs.size≤X.env.locals
 inj:∀x y c,X.env.cells.lookup x=some c→X.env.cells.lookup y=some c→x=y
 has:∀x,(X.env.kindOf x=some .cell∨X.env.kindOf x=some .free)→∃c,X.env.cells.lookup x=some c
 cab:∀x c,X.fn x=true→X.env.cells.lookup x=some c→X.s₀.heap.objs.size≤c
 hd:X.calm=true→X.A.handled=none
 frames:X.A.frames=some X.stack
 stk:X.stack=X.outer∨(X.stack=X.env::X.outer∧X.env.frame=some X.env.locals)
 exf:∀b∈X.ex,b≠X.env.locals∧∀x c,X.env.cells.lookup x=some c→c≠b
 bs:∀b o,X.base.get? b=some o→X.s₀.heap.get? b=some o∧X.H₀ b=none
 bsz:X.base.objs.size≤X.s₀.heap.objs.size
 noex:∀b o,X.base.get? b=some o→b ∉ X.ex
 exfs:∀b∈X.ex,b ∉ X.fs
 funs:X.s₀.heap.FunFrames X.base X.outer
 frf:∀b∈X.fs,X.H₀ b=none
structure Inv (X:Cx) (pins:List (Addr×Obj)) (σ:List (Option V)) (H:Hp) (s:Shared):Prop where
 ok:X.Ok
 os:s.os=X.s₀.os
 bare:AllBare s.gens
 base:Un X.fs X.ex X.H₀ H X.s₀.heap s.heap
 loc:∃m,s.heap.Ns X.env.locals m∧∀(i:Nat) (x:Str) (v:V),X.N[i]?=some x→σ[i]?=some (some v)→Vis X.env.scope x→∃u,RelV v u∧Look X.env s.heap m x u
 cell:∀x c,X.env.cells.lookup x=some c→∃v,s.heap.IsCell c v
 free:H X.env.locals=none
 freeC:∀x c,X.env.cells.lookup x=some c→H c=none
 pin:∀p∈X.pn++pins,s.heap.get? p.1=some p.2∧H p.1=none∧p.1≠X.env.locals∧p.1 ∉ X.fs∧∀v,p.2.data≠.cell v
 hok:HOk X.prog X.w H s.heap
 len:σ.length=X.N.length
section
variable {X:Cx} {pins:List (Addr×Obj)} {σ:List (Option V)} {H H':Hp} {s:Shared} {h':Heap}
theorem Cx.Ok.nofr (ok:X.Ok) {b:Addr} {o:Obj} (e:X.base.get? b=some o):b ∉ X.fs:=fun hb=>by
 have:=(ok.funs.mem hb).1
 rw[e] at this; cases this
theorem Inv.bs (I:Inv X pins σ H s):∀b o,X.base.get? b=some o→s.heap.get? b=some o∧H b=none:=fun b o e=>
 ⟨I.base.keep b o (I.ok.bs b o e).1 (I.ok.bs b o e).2 (I.ok.nofr e) (I.ok.noex b o e),I.base.free b o (I.ok.bs b o e).1 (I.ok.bs b o e).2 (I.ok.noex b o e)⟩
theorem Inv.bk (I:Inv X pins σ H s):∀b o,X.base.get? b=some o→s.heap.get? b=some o:=fun b o e=>(I.bs b o e).1
theorem Inv.mod (I:Inv X pins σ H s):Mod X.K X.mg X.base:=I.ok.mod
theorem Inv.kIn (I:Inv X pins σ H s):X.K.In s.heap:=I.ok.mod.kin.keeps I.bk
theorem Inv.lt (I:Inv X pins σ H s):X.env.locals < s.heap.objs.size:=let ⟨_,hn,_⟩:=I.loc; hn.lt
theorem Inv.sz (I:Inv X pins σ H s):X.s₀.heap.objs.size≤s.heap.objs.size:=Nat.le_trans I.ok.above (Nat.le_of_lt I.lt)
theorem Inv.nofs (I:Inv X pins σ H s) {a:Addr} (h:s.heap.objs.size≤a):a ∉ X.fs:=fun hb=>by
 obtain ⟨_,o,ho,_⟩:=I.ok.funs.mem hb
 exact absurd (Nat.lt_of_lt_of_le (Heap.lt_size ho) (Nat.le_trans I.sz h)) (Nat.lt_irrefl _)
theorem Inv.cne (I:Inv X pins σ H s):∀x c,X.env.cells.lookup x=some c→c≠X.env.locals:=fun x c e z=>by
 obtain ⟨v,o,ho,hd⟩:=I.cell x c e
 obtain ⟨m,⟨o',es,ep,ho',hd',_⟩,_⟩:=I.loc
 rw[z,ho'] at ho; cases ho; rw[hd'] at hd; cases hd
theorem Inv.funs (I:Inv X pins σ H s):s.heap.FunFrames X.base X.outer:=by
 have all:∀(l:List Env),(∀b∈frs l,b∈X.fs)→X.s₀.heap.FunFrames X.base l→s.heap.FunFrames X.base l:=by
  intro l
  induction l with
  | nil=>intro _ _; trivial
  | cons env r ih=>
   intro hs hl
   obtain ⟨hk,⟨L,o,hf,hn,ho,hd⟩,hr⟩:=hl
   have hL:L∈X.fs:=hs L (by unfold frs; rw[List.filterMap_cons,hf]; exact List.mem_cons_self)
   obtain ⟨sl,e⟩:=I.base.slot L o ho (I.ok.frf L hL) hL fun z=>I.ok.exfs L z hL
   exact ⟨hk,⟨L,_,hf,hn,e,hd⟩,ih (fun b hb=>hs b (by unfold frs; rw[List.filterMap_cons,hf]; exact List.mem_cons_of_mem _ hb)) hr⟩
 exact all X.outer (fun _ hb=>hb) I.ok.funs
theorem Inv.stack (I:Inv X pins σ H s):s.heap.FunFrames X.base X.stack:=by
 rcases I.ok.stk with e | ⟨e,hf⟩
 ·rw[e]; exact I.funs
 ·rw[e]
  obtain ⟨m,hn,_⟩:=I.loc
  refine .cons (by rw[I.ok.kind]; decide) hf hn ?_ I.funs
  exact Heap.get?_none_of_le (Nat.le_trans I.ok.bsz I.ok.above)
theorem Inv.stkSub (I:Inv X pins σ H s):∀b∈frs X.stack,b∈X.env.locals::X.fs:=fun b hb=>by
 rcases I.ok.stk with e | ⟨e,hf⟩
 ·rw[e] at hb; exact List.mem_cons_of_mem _ hb
 ·rw[e] at hb
  unfold frs at hb
  rw[List.filterMap_cons,hf] at hb
  exact hb
theorem Inv.stkFree (I:Inv X pins σ H s):∀b∈frs X.stack,H b=none:=fun b hb=>by
 rcases List.mem_cons.mp (I.stkSub b hb) with e | hb
 ·rw[e]; exact I.free
 ·obtain ⟨_,o,ho,_⟩:=I.ok.funs.mem hb
  exact I.base.free b o ho (I.ok.frf b hb) fun z=>I.ok.exfs b z hb
theorem Inv.step {g':Array GenState} {t':Nat} {d':Drawn} {ch:List Addr} (I:Inv X pins σ H s)
  (hch:∀b∈ch,(b∈X.ex∨X.s₀.heap.objs.size≤b)∧b≠X.env.locals∧(∀x c,X.env.cells.lookup x=some c→c≠b)∧∀p∈X.pn++pins,p.1≠b)
  (keep:∀b o,b≠X.env.locals→b ∉ X.fs→b ∉ ch→s.heap.get? b=some o→H b=none→h'.get? b=some o)
  (slot:∀b o,b≠X.env.locals→b∈X.fs→b ∉ ch→s.heap.get? b=some o→H b=none→∃sl,h'.get? b=some { o with slots:=sl }) (free:∀b o,b ∉ ch→s.heap.get? b=some o→H b=none→H' b=none)
  (there:∀b o,b ∉ ch→s.heap.get? b=some o→∃o',h'.get? b=some o')
  (tups:∀b xs,H b=some (.tup xs)→H' b=some (.tup xs)) (frzs:∀b o u,H b=some (.frz o u)→H' b=some (.frz o u)) (tbls:∀b ps,H b=some (.tbl ps)→∃more,H' b=some (.tbl (ps++more)))
  (ns:∀m,s.heap.Ns X.env.locals m→h'.Ns X.env.locals m) (hok:HOk X.prog X.w H' h') (hg:AllBare g'):
  Inv X pins σ H' { s with heap:=h',gens:=g',drawn:=d',toks:=t' }:=by
 have neL:∀b o,X.s₀.heap.get? b=some o→b≠X.env.locals:=fun b o e=>Nat.ne_of_lt (Nat.lt_of_lt_of_le (Heap.lt_size e) I.ok.above)
 have neC:∀b o,X.s₀.heap.get? b=some o→b ∉ X.ex→b ∉ ch:=fun b o e hx hb=>by
  rcases (hch b hb).1 with z | z
  ·exact hx z
  ·exact absurd (Nat.lt_of_lt_of_le (Heap.lt_size e) z) (Nat.lt_irrefl _)
 have cellK:∀x c,X.env.cells.lookup x=some c→∀v,s.heap.IsCell c v→h'.IsCell c v:=fun x c e v ⟨o,ho,hd⟩=>by
  have nch:c ∉ ch:=fun z=>(hch c z).2.2.1 x c e rfl
  by_cases hc:c∈X.fs
  ·obtain ⟨sl,q⟩:=slot c o (I.cne x c e) hc nch ho (I.freeC x c e)
   exact ⟨_,q,hd⟩
  ·exact ⟨o,keep c o (I.cne x c e) hc nch ho (I.freeC x c e),hd⟩
 refine ⟨I.ok,I.os,hg,⟨fun b o e n hb hx=>?_,fun b o e n hb hx=>?_,fun b o e n hx=>?_,fun b o e hx=>?_,fun b xs e=>tups b xs (I.base.tups b xs e),fun b o xs e=>frzs b o xs (I.base.frzs b o xs e),fun b ps e=>?_⟩,?_,fun x c e=>?_,?_,fun x c e=>?_,fun p hp=>?_,hok,I.len⟩
 ·exact keep b o (neL b o e) hb (neC b o e hx) (I.base.keep b o e n hb hx) (I.base.free b o e n hx)
 ·obtain ⟨sl,e1⟩:=I.base.slot b o e n hb hx
  obtain ⟨sl',e2⟩:=slot b _ (neL b o e) hb (neC b o e hx) e1 (I.base.free b o e n hx)
  exact ⟨sl',e2⟩
 ·obtain ⟨o',e1⟩:=I.base.there b o e hx
  exact free b o' (neC b o e hx) e1 (I.base.free b o e n hx)
 ·obtain ⟨o',e1⟩:=I.base.there b o e hx
  exact there b o' (neC b o e hx) e1
 ·obtain ⟨m1,e1⟩:=I.base.tbls b ps e
  obtain ⟨m2,e2⟩:=tbls b _ e1
  exact ⟨m1++m2,by rw[e2,Array.append_assoc]⟩
 ·obtain ⟨m,hn,hl⟩:=I.loc
  refine ⟨m,ns m hn,fun i x v e1 e2 e3=>?_⟩
  obtain ⟨u,r,l⟩:=hl i x v e1 e2 e3
  refine ⟨u,r,?_⟩
  rcases l with l | ⟨k,c,e,z⟩
  ·exact .inl l
  ·exact .inr ⟨k,c,e,cellK x c e _ z⟩
 ·obtain ⟨v,z⟩:=I.cell x c e
  exact ⟨v,cellK x c e v z⟩
 ·obtain ⟨m,⟨o,_,_,ho,_⟩,_⟩:=I.loc
  exact free _ o (fun z=>(hch _ z).2.1 rfl) ho I.free
 ·obtain ⟨v,o,ho,hd⟩:=I.cell x c e
  exact free c o (fun z=>(hch c z).2.2.1 x c e rfl) ho (I.freeC x c e)
 ·obtain ⟨e,n,ne,nf,d⟩:=I.pin p hp
  have nch:p.1 ∉ ch:=fun z=>(hch p.1 z).2.2.2 p hp rfl
  exact ⟨keep p.1 p.2 ne nf nch e n,free p.1 p.2 nch e n,ne,nf,d⟩
theorem Inv.un {t':Nat} (I:Inv X pins σ H s) (u:Un X.fs [] H H' s.heap h') (hok:HOk X.prog X.w H' h'):Inv X pins σ H' { s with heap:=h',toks:=t' }:=by
 obtain ⟨m,⟨o,es,ep,ho,r⟩,_⟩:=id I.loc
 obtain ⟨sl,hL⟩:=u.any ho I.free (by simp)
 exact I.step (g':=s.gens) (d':=s.drawn) (ch:=[]) (fun _ z=>nomatch z) (fun b o _ hb _ e n=>u.keep b o e n hb (by simp)) (fun b o _ hb _ e n=>u.slot b o e n hb (by simp)) (fun b o _ e n=>u.free b o e n (by simp)) (fun b o _ e=>u.there b o e (by simp)) u.tups u.frzs u.tbls (fun m' hm=>by
  obtain ⟨o',es',ep',ho',r'⟩:=hm
  rw[ho] at ho'; cases ho'
  exact ⟨_,es',ep',hL,r'⟩) hok I.bare
theorem Inv.call {g':Array GenState} {t':Nat} {d':Drawn} {ch:List Addr} (I:Inv X pins σ H s) (u:Un (frs X.stack) ch H H' s.heap h') (hok:HOk X.prog X.w H' h') (hg:AllBare g')
  (hch:∀b∈ch,(b∈X.ex∨X.s₀.heap.objs.size≤b)∧b≠X.env.locals∧(∀x c,X.env.cells.lookup x=some c→c≠b)∧∀p∈X.pn++pins,p.1≠b):
  Inv X pins σ H' { s with heap:=h',gens:=g',drawn:=d',toks:=t' }:=by
 obtain ⟨m,⟨o,es,ep,ho,r⟩,_⟩:=id I.loc
 obtain ⟨sl,hL⟩:=u.any ho I.free fun z=>(hch _ z).2.1 rfl
 exact I.step (ch:=ch) hch (fun b o hL hb hc e n=>u.keep b o e n (fun z=>(List.mem_cons.mp (I.stkSub b z)).elim hL hb) hc) (fun b o _ _ hc e n=>u.any e n hc) (fun b o hc e n=>u.free b o e n hc) (fun b o hc e=>u.there b o e hc) u.tups u.frzs u.tbls (fun m' hm=>by
  obtain ⟨o',es',ep',ho',r'⟩:=hm
  rw[ho] at ho'; cases ho'
  exact ⟨_,es',ep',hL,r'⟩) hok hg
theorem Inv.turned {t':Nat} {it:Addr} (I:Inv X pins σ H s) (k:∀b o,b≠it→s.heap.get? b=some o→h'.get? b=some o) (hn:H it=none) (hL:it≠X.env.locals)
  (h1:it∈X.ex∨X.s₀.heap.objs.size≤it) (h2:∀x c,X.env.cells.lookup x=some c→c≠it) (h3:∀p∈X.pn++pins,p.1≠it):Inv X pins σ H { s with heap:=h',toks:=t' }:=by
 have nit:∀b u,H b=some u→b≠it:=fun b u e z=>by rw[z,hn] at e; cases e
 refine I.step (g':=s.gens) (d':=s.drawn) (ch:=[it]) (fun b hb=>?_) (fun b o _ _ hc e _=>k b o (fun z=>hc (by simp[z])) e) (fun b o _ _ hc e _=>⟨o.slots,k b o (fun z=>hc (by simp[z])) e⟩) (fun _ _ _ _ n=>n)
  (fun b o hc e=>⟨o,k b o (fun z=>hc (by simp[z])) e⟩) (fun _ _ e=>e) (fun _ _ _ e=>e) (fun b ps e=>⟨#[],by rw[e]; simp⟩) (fun m hm=>?_) (fun b u e=>?_) I.bare
 ·have e:b=it:=by simpa using hb
  subst e
  exact ⟨h1,hL,h2,h3⟩
 ·obtain ⟨o,es,ep,ho,r⟩:=hm
  exact ⟨o,es,ep,k _ o (Ne.symm hL) ho,r⟩
 ·refine (I.hok b u e).stay (fun c v hc q=>k c v ?_ q) (fun _ q=>q) fun _ _ q=>q
  rcases hc with z | z
  ·rw[z]; exact nit b u e
  ·exact nit c _ z
theorem Inv.tok (I:Inv X pins σ H s) (t:Nat):Inv X pins σ H { s with toks:=t }:=I.un (h':=s.heap) (t':=t) Un.refl I.hok
theorem Inv.kept {t':Nat} (I:Inv X pins σ H s) (k:∀b u,s.heap.get? b=some u→h'.get? b=some u):Inv X pins σ H { s with heap:=h',toks:=t' }:=I.un (Un.kept k) (I.hok.kept k)
theorem Inv.laid {a:Addr} {o:HO} {t':Nat} (I:Inv X pins σ H s) (k:∀b u,s.heap.get? b=some u→h'.get? b=some u) (hp:s.heap.objs.size≤a) (new:ObjOk X.prog X.w (upd H a o) h' a o):
  Inv X pins σ (upd H a o) { s with heap:=h',toks:=t' }:=I.un (Un.laid k hp (I.hok.fresh hp)) (I.hok.laid k hp new)
theorem Inv.write {x e:Addr} {o:HO} {t':Nat} (I:Inv X pins σ H s) (mu:Mut (H x)) (he:e=x∨H e=some (.own x)) (k:∀b u,b≠e→s.heap.get? b=some u→h'.get? b=some u) (heo:∃u,h'.get? e=some u)
  (new:ObjOk X.prog X.w (upd H x o) h' x o):Inv X pins σ (upd H x o) { s with heap:=h',toks:=t' }:=I.un (Un.write mu he k heo) (I.hok.write mu he k heo new)
theorem Inv.pins_of {pins':List (Addr×Obj)} (I:Inv X pins σ H s) (h:∀p∈pins',s.heap.get? p.1=some p.2∧H p.1=none∧p.1≠X.env.locals∧p.1 ∉ X.fs∧∀v,p.2.data≠.cell v):Inv X pins' σ H s:=
 ⟨I.ok,I.os,I.bare,I.base,I.loc,I.cell,I.free,I.freeC,fun p hp=>(List.mem_append.mp hp).elim (fun z=>I.pin p (List.mem_append_left _ z)) (h p),I.hok,I.len⟩
theorem nodup_ix {N:List Str} (hN:N.Nodup) {i j:Nat} {x:Str} (a:N[i]?=some x) (b:N[j]?=some x):i=j:=by
 obtain ⟨h1,e1⟩:=List.getElem?_eq_some_iff.mp a
 obtain ⟨h2,e2⟩:=List.getElem?_eq_some_iff.mp b
 exact (List.getElem_inj hN).mp (e1.trans e2.symm)
theorem store_ok2 {M:Model} {A:Around} {E:Value→Shared→Prop} {i:Nat} {x:Str} {v:V} {u:Value} {Q:Unit→Shared→Prop} (I:Inv X pins σ H s) (hN:X.N.Nodup) (hi:X.N[i]?=some x) (hx:Loc X.env.scope x) (r:RelV v u)
  (h:∀s',Inv X pins (σ.set i (some v)) H s'→(∃a,Heap.SameBut a s.heap s'.heap∧(a=X.env.locals∨X.env.cells.lookup x=some a))→Q () s') (hf:X.fn x=true∨X.env.scope.names.lookup x=some .local:=by first | exact .inl rfl | exact .inr rfl | assumption):wpAny M A (storeName X.env x u) Q E s:=by
 obtain ⟨m,hn,hl⟩:=id I.loc
 have hcls:(X.env.scope.kind == .class || (X.env.scope.kind == .module && X.env.locals != X.env.globals))=false:=by rw[I.ok.kind]; rfl
 have hiσ:i < σ.length:=by rw[I.len]; exact (List.getElem?_eq_some_iff.mp hi).1
 have cne:=I.cne
 have tracked:∀{a:Addr} {h':Heap},(∃o,s.heap.get? a=some o∧H a=none)→Heap.SameBut a s.heap h'→HOk X.prog X.w H h':=fun {a h'} ha hs b ob e=>by
  obtain ⟨_,_,hfree⟩:=ha
  refine (I.hok b ob e).stay (fun c w' hc q=>(hs.2 c ?_).trans q) (fun _ q=>q) fun _ _ q=>q
  rintro rfl
  rcases hc with rfl | hc
  ·rw[hfree] at e; cases e
  ·rw[hfree] at hc; cases hc
 rcases hx with hk | hk
 ·refine wpAny_storeName_local hk hn (fun h' hn' hs=>?_) hcls
  obtain ⟨oL,_,_,hoL,_⟩:=id hn
  refine h _ ⟨I.ok,I.os,I.bare,⟨fun b o e n hb hx=>?_,fun b o e n hb hx=>?_,I.base.free,fun b o e hx=>?_,I.base.tups,I.base.frzs,I.base.tbls⟩,⟨_,hn',fun j y v' e1 e2 e3=>?_⟩,fun y c e=>?_,I.free,I.freeC,fun p hp=>?_,tracked ⟨oL,hoL,I.free⟩ hs,by simpa using I.len⟩ ⟨_,hs,.inl rfl⟩
  ·exact (hs.2 b (Nat.ne_of_lt (Nat.lt_of_lt_of_le (Heap.lt_size e) I.ok.above))).trans (I.base.keep b o e n hb hx)
  ·obtain ⟨sl,e1⟩:=I.base.slot b o e n hb hx
   exact ⟨sl,(hs.2 b (Nat.ne_of_lt (Nat.lt_of_lt_of_le (Heap.lt_size e) I.ok.above))).trans e1⟩
  ·obtain ⟨o',e1⟩:=I.base.there b o e hx
   exact ⟨o',(hs.2 b (Nat.ne_of_lt (Nat.lt_of_lt_of_le (Heap.lt_size e) I.ok.above))).trans e1⟩
  ·by_cases hj:j=i
   ·subst hj
    rw[hi] at e1; cases e1
    rw[List.getElem?_set_self hiσ] at e2
    cases e2
    exact ⟨u,r,.inl ⟨hk,by simp⟩⟩
   ·rw[List.getElem?_set_ne (Ne.symm hj)] at e2
    obtain ⟨u',r',q⟩:=hl j y v' e1 e2 e3
    refine ⟨u',r',?_⟩
    rcases q with ⟨k,e⟩ | ⟨k,c,e,z⟩
    ·refine .inl ⟨k,?_⟩
     have:y≠x:=fun e=>hj (nodup_ix hN e1 (e ▸ hi))
     simp[this,e]
    ·exact .inr ⟨k,c,e,z.sameBut hs (cne y c e)⟩
  ·obtain ⟨w',z⟩:=I.cell y c e
   exact ⟨w',z.sameBut hs (cne y c e)⟩
  ·obtain ⟨e,n,ne,nf,d⟩:=I.pin p hp
   exact ⟨(hs.2 p.1 ne).trans e,n,ne,nf,d⟩
 ·have hfn:X.fn x=true:=by
   rcases hf with z | z
   ·exact z
   ·rw[z] at hk; cases hk
  obtain ⟨c,hc⟩:=I.ok.has x (.inl hk)
  obtain ⟨w',z⟩:=I.cell x c hc
  refine wpAny_storeName_cell I.ok.kind hk hc z (fun h' hc' hs=>?_)
  obtain ⟨oc,hoc,hocd⟩:=id z
  refine h { s with heap:=h' } ⟨I.ok,I.os,I.bare,⟨fun b o e n hb hx=>?_,fun b o e n hb hx=>?_,I.base.free,fun b o e hx=>?_,I.base.tups,I.base.frzs,I.base.tbls⟩,⟨m,hn.sameBut hs (Ne.symm (cne x c hc)),fun j y v' e1 e2 e3=>?_⟩,fun y c' e=>?_,I.free,I.freeC,fun p hp=>?_,tracked ⟨oc,hoc,I.freeC x c hc⟩ hs,by simpa using I.len⟩ ⟨c,hs,.inr hc⟩
  ·exact (hs.2 b (Nat.ne_of_lt (Nat.lt_of_lt_of_le (Heap.lt_size e) (I.ok.cab x c hfn hc)))).trans (I.base.keep b o e n hb hx)
  ·obtain ⟨sl,e1⟩:=I.base.slot b o e n hb hx
   exact ⟨sl,(hs.2 b (Nat.ne_of_lt (Nat.lt_of_lt_of_le (Heap.lt_size e) (I.ok.cab x c hfn hc)))).trans e1⟩
  ·obtain ⟨o',e1⟩:=I.base.there b o e hx
   exact ⟨o',(hs.2 b (Nat.ne_of_lt (Nat.lt_of_lt_of_le (Heap.lt_size e) (I.ok.cab x c hfn hc)))).trans e1⟩
  ·by_cases hj:j=i
   ·subst hj
    rw[hi] at e1; cases e1
    rw[List.getElem?_set_self hiσ] at e2
    cases e2
    exact ⟨u,r,.inr ⟨.inl hk,c,hc,hc'⟩⟩
   ·rw[List.getElem?_set_ne (Ne.symm hj)] at e2
    obtain ⟨u',r',q⟩:=hl j y v' e1 e2 e3
    refine ⟨u',r',?_⟩
    rcases q with q | ⟨k,c',e,z'⟩
    ·exact .inl q
    ·refine .inr ⟨k,c',e,z'.sameBut hs ?_⟩
     rintro rfl
     exact hj (nodup_ix hN e1 (I.ok.inj _ _ _ e hc ▸ hi))
  ·by_cases hcc:c'=c
   ·subst hcc; exact ⟨_,hc'⟩
   ·obtain ⟨w2,z2⟩:=I.cell y c' e
    exact ⟨w2,z2.sameBut hs hcc⟩
  ·obtain ⟨e,n,ne,nf,d⟩:=I.pin p hp
   refine ⟨(hs.2 p.1 ?_).trans e,n,ne,nf,d⟩
   intro q
   rw[q,hoc] at e
   have q':oc=p.2:=Option.some.inj e
   exact d w' (by rw[← q']; exact hocd)
theorem store_ok {M:Model} {A:Around} {E:Value→Shared→Prop} {i:Nat} {x:Str} {v:V} {u:Value} {Q:Unit→Shared→Prop} (I:Inv X pins σ H s) (hN:X.N.Nodup) (hi:X.N[i]?=some x) (hx:Loc X.env.scope x) (r:RelV v u)
  (h:∀s',Inv X pins (σ.set i (some v)) H s'→Q () s') (hf:X.fn x=true∨X.env.scope.names.lookup x=some .local:=by first | exact .inl rfl | exact .inr rfl | assumption):wpAny M A (storeName X.env x u) Q E s:=
 store_ok2 I hN hi hx r (fun s' I' _=>h s' I') hf
theorem Inv.call' {s':Shared} {ch:List Addr} (I:Inv X pins σ H s) (ho:s'.os=s.os) (u:Un (frs X.stack) ch H H' s.heap s'.heap) (hok:HOk X.prog X.w H' s'.heap) (hg:AllBare s'.gens)
  (hch:∀b∈ch,(b∈X.ex∨X.s₀.heap.objs.size≤b)∧b≠X.env.locals∧(∀x c,X.env.cells.lookup x=some c→c≠b)∧∀p∈X.pn++pins,p.1≠b):Inv X pins σ H' s':=by
 obtain ⟨h',g',d',t',o'⟩:=s'
 have e:o'=s.os:=ho
 subst e
 exact I.call (g':=g') (t':=t') (d':=d') u hok hg hch
end
abbrev XK:=Value→Option Addr→Hp→Prop
abbrev St:=List (Option V)
abbrev VK:=V→Hp→Prop
abbrev TE:=St→Hp→VK→Prop
abbrev TT:=St→Hp→(Bool→Hp→Prop)→Prop
abbrev TA:=St→Hp→(List V→Hp→Prop)→Prop
structure Ends where
 nx:St→Hp→Prop
 rt:VK
 bk:St→Hp→Prop:=fun _ _=>False
 ct:St→Hp→Prop:=fun _ _=>False
abbrev TS:=Ends→St→Hp→Prop
def EP (X:Cx) (pins:List (Addr×Obj)) (σ:St) (Q:VK) (u:Value) (s':Shared):Prop:=∃v H',Inv X pins σ H' s'∧RelV v u∧Q v H'
def TP (X:Cx) (pins:List (Addr×Obj)) (σ:St) (Q:Bool→Hp→Prop) (b:Bool) (s':Shared):Prop:=∃H',Inv X pins σ H' s'∧Q b H'
def AP (X:Cx) (pins:List (Addr×Obj)) (σ:St) (Q:List V→Hp→Prop) (us:List Value) (s':Shared):Prop:=∃vs H',Inv X pins σ H' s'∧Vals vs us∧Q vs H'
def SP (X:Cx) (pins:List (Addr×Obj)) (D:Ends) (f:Flow) (s':Shared):Prop:=
 match f with
 | .next=>∃σ' H',Inv X pins σ' H' s'∧D.nx σ' H'
 | .brk=>∃σ' H',Inv X pins σ' H' s'∧D.bk σ' H'
 | .cont=>∃σ' H',Inv X pins σ' H' s'∧D.ct σ' H'
 | .ret u=>∃v σ' H',Inv X pins σ' H' s'∧RelV v u∧D.rt v H'
def PE (X:Cx) (e:Expr) (t:TE):Prop:=
 ∀(pins:List (Addr×Obj)) (s:Shared) (σ:St) (H:Hp) (Q:VK),Inv X pins σ H s→t σ H Q→wpAny (model X.prog X.w) X.A (eval e X.env) (EP X pins σ Q) X.xe s
def PT (X:Cx) (e:Expr) (t:TT):Prop:=
 ∀(pins:List (Addr×Obj)) (s:Shared) (σ:St) (H:Hp) (Q:Bool→Hp→Prop),Inv X pins σ H s→t σ H Q→wpAny (model X.prog X.w) X.A (isTrue e X.env (eval e X.env)) (TP X pins σ Q) X.xe s
def PW (X:Cx) (e:Expr) (t:TT):Prop:=
 ∀(whole:Sem Value) (pins:List (Addr×Obj)) (s:Shared) (σ:St) (H:Hp) (Q:Bool→Hp→Prop),Inv X pins σ H s→t σ H Q→wpAny (model X.prog X.w) X.A (isTrue e X.env whole) (TP X pins σ Q) X.xe s
theorem PW.pt {X:Cx} {e:Expr} {t:TT} (h:PW X e t):PT X e t:=h _
def PA (X:Cx) (es:List Expr) (t:TA):Prop:=
 ∀(pos:Pos) (pins:List (Addr×Obj)) (s:Shared) (σ:St) (H:Hp) (Q:List V→Hp→Prop),Inv X pins σ H s→t σ H Q→wpAny (model X.prog X.w) X.A (spliced (backTo pos (starEach es X.env))) (AP X pins σ Q) X.xe s
def PS (X:Cx) (st:Stmt) (t:TS):Prop:=
 ∀(pins:List (Addr×Obj)) (s:Shared) (σ:St) (H:Hp) (D:Ends),Inv X pins σ H s→t D σ H→wpAny (model X.prog X.w) X.A (exec st X.env) (SP X pins D) X.xe s
def PSs (X:Cx) (st:List Stmt) (t:TS):Prop:=
 ∀(pins:List (Addr×Obj)) (s:Shared) (σ:St) (H:Hp) (D:Ends),Inv X pins σ H s→t D σ H→wpAny (model X.prog X.w) X.A (execs st X.env) (SP X pins D) X.xe s
theorem thn {α:Type} {t:Sem α} {Q Q':α→Shared→Prop} {M:Model} {A:Around} {E:Value→Shared→Prop} {s:Shared} (h:wpAny M A t Q E s) (hQ:∀a s,Q a s→Q' a s):wpAny M A t Q' E s:=wpAny_mono h hQ fun _ _ x=>x
end L2
namespace L2
open PySem PySem.Spec PyProof.Rows
section
variable {X:Cx}
theorem bin {a b:Expr} {ta tb:TE} (ha:PE X a ta) (hb:PE X b tb) {pins:List (Addr×Obj)} {s:Shared} {σ:St} {H:Hp} {R:V→V→Hp→Prop} (I:Inv X pins σ H s) (h:ta σ H fun x H1=>tb σ H1 fun y H2=>R x y H2)
  {α:Type} {Q:α→Shared→Prop} {f:Value→Value→Sem α}
  (hf:∀v u s2 x y H2,Inv X pins σ H2 s2→RelV x v→RelV y u→R x y H2→wpAny (model X.prog X.w) X.A (f v u) Q X.xe s2):
  wpAny (model X.prog X.w) X.A (eval a X.env) (fun v s₁=>wpAny (model X.prog X.w) X.A (eval b X.env) (fun u s₂=>wpAny (model X.prog X.w) X.A (f v u) Q X.xe s₂) X.xe s₁) X.xe s:=by
 refine thn (ha pins s σ H _ I h) fun v s1 ⟨x,H1,I1,r1,q1⟩=>?_
 refine thn (hb pins s1 σ H1 _ I1 q1) fun u s2 ⟨y,H2,I2,r2,q2⟩=>?_
 exact hf v u s2 x y H2 I2 r1 r2 q2
def tVar (i:Nat):TE:=fun σ H Q=>∃v,σ[i]?=some (some v)∧Q v H
def tC (v:V):TE:=fun _ H Q=>Q v H
theorem pe_var {i:Nat} {x:Str} {pos:Pos} (hN:X.N[i]?=some x) (hv:Vis X.env.scope x) (hd:(x == ("__debug__":Str))=false:=by decide) (hcd:(x == ("__classdict__":Str))=false:=by decide):PE X (.Name x pos) (tVar i):=by
 intro pins s σ H Q I h
 obtain ⟨v,e,h⟩:=h
 obtain ⟨m,hn,hl⟩:=I.loc
 obtain ⟨u,r,l⟩:=hl i x v hN e hv
 have fin:EP X pins σ Q u s:=⟨v,H,I,r,h⟩
 rcases l with ⟨hk,hm⟩ | ⟨hk,c,hc,hcell⟩
 ·exact wpAny_Name (wpAny_loadName_local I.ok.kind hk hn hm fin) hd
 ·rcases hk with hk | hk
  ·exact wpAny_Name (wpAny_loadName_cell I.ok.kind hk hc hcell fin) hd
  ·exact wpAny_Name (wpAny_loadName_free I.ok.kind hk hc hcell fin hcd) hd
theorem pe_int {i j pos}:PE X (.Constant (.int i) j pos) (tC (.int i)):=fun _ _ _ H _ I h=>wpAny_Constant_int ⟨.int i,H,I.tok _,⟨_,rfl⟩,h⟩
theorem pe_bl {b j pos}:PE X (.Constant (.bool b) j pos) (tC (.bl b)):=fun _ _ _ H _ I h=>Constant_bool ⟨.bl b,H,I,rfl,h⟩
theorem pe_non {j pos}:PE X (.Constant .none j pos) (tC .non):=fun _ _ _ H _ I h=>Constant_none ⟨.non,H,I,rfl,h⟩
theorem pe_str {x j pos}:PE X (.Constant (.str x) j pos) (tC (.str x)):=fun _ _ _ H _ I h=>Calls.Constant_str ⟨.str x,H,I.tok _,⟨_,rfl⟩,h⟩
def Gl (X:Cx) (x:Str):Prop:=X.env.kindOf x=some .globalImplicit
theorem ld_glob {E:Value→Shared→Prop} {pins:List (Addr×Obj)} {s:Shared} {σ:St} {H:Hp} {x:Str} {u:Value} {pos:Pos} {Q:Value→Shared→Prop} (I:Inv X pins σ H s) (hg:Gl X x) (hm:X.mg x=some u) (h:Q u s)
  (hd:(x == ("__debug__":Str))=false:=by decide):wpAny (model X.prog X.w) X.A (eval (.Name x pos) X.env) Q E s:=
 Calls.Name_function_global I.ok.kind hg (Calls.loadGlobal_global (by rw[I.ok.glob]; exact I.mod.glob.keeps I.bk) hm h) hd
theorem ld_blt {E:Value→Shared→Prop} {pins:List (Addr×Obj)} {s:Shared} {σ:St} {H:Hp} {x:Str} {u:Value} {pos:Pos} {Q:Value→Shared→Prop} (I:Inv X pins σ H s) (hg:Gl X x) (hm:X.mg x=none) (hv:bootBuiltins x=some u) (h:Q u s)
  (hn:x≠"__name__":=by decide) (hd:(x == ("__debug__":Str))=false:=by decide):wpAny (model X.prog X.w) X.A (eval (.Name x pos) X.env) Q E s:=by
 obtain ⟨mb,h1,h2⟩:=I.mod.blt
 exact Calls.Name_function_global I.ok.kind hg (Calls.loadGlobal_builtin (by rw[I.ok.glob]; exact I.mod.glob.keeps I.bk) hm (by rw[I.ok.blt]; exact h1.keeps I.bk) ((h2 x hn).trans hv) h) hd
theorem pe_glob {x:Str} {v:V} {u:Value} {pos:Pos} (hg:Gl X x) (hm:X.mg x=some u) (r:RelV v u) (hd:(x == ("__debug__":Str))=false:=by decide):PE X (.Name x pos) (tC v):=
 fun _ _ _ H _ I h=>ld_glob I hg hm ⟨v,H,I,r,h⟩ hd
theorem pe_bltn {x:Str} {v:V} {u:Value} {pos:Pos} (hg:Gl X x) (hm:X.mg x=none) (hv:bootBuiltins x=some u) (r:RelV v u) (hn:x≠"__name__":=by decide) (hd:(x == ("__debug__":Str))=false:=by decide):PE X (.Name x pos) (tC v):=
 fun _ _ _ H _ I h=>ld_blt I hg hm hv ⟨v,H,I,r,h⟩ hn hd
variable {a b:Expr} {ta tb:TE} {pos:Pos}
def PC (X:Cx) (op:CmpOp) (a b:Expr) (t:TE):Prop:=
 ∀(pins:List (Addr×Obj)) (s:Shared) (σ:St) (H:Hp) (Q:VK),Inv X pins σ H s→t σ H Q→
  wpAny (model X.prog X.w) X.A (eval a X.env) (fun v s₁=>wpAny (model X.prog X.w) X.A (eval b X.env) (fun u s₂=>wpAny (model X.prog X.w) X.A (compareOp op v u) (EP X pins σ Q) X.xe s₂) X.xe s₁) X.xe s
def tB (t:TE):TT:=fun σ H Q=>t σ H fun x H1=>∃c,x=.bl c∧Q c H1
theorem pt_cmp {op:CmpOp} {t:TE} (h:PC X op a b t) (h1:behindInMarks op b=false:=by first | exact nobehind _ (by decide) (by decide) | rfl):PT X (.Compare a [op] [b] pos) (tB t):=by
 intro pins s σ H Q I hw
 refine wpAny_isTrue_Compare1 (thn (h pins s σ H _ I hw) fun v s1 h1=>thn h1 fun u s2 h2=>thn h2 fun c s3 ⟨x,H1,I1,r1,q1⟩=>?_) h1
 obtain ⟨d,rfl,q⟩:=q1
 cases r1
 exact wpAny_truthy_bool ⟨H1,I1,q⟩
theorem pt_val {e:Expr} {t:TE} (h:PE X e t) (he:∀whole,isTrue e X.env whole=(do let v ← whole; standAt e.pos; holding [v] (truthy v)):=by intro _; rfl):PT X e (tB t):=by
 intro pins s σ H Q I hw
 refine isTrue_plain (thn (h pins s σ H _ I hw) fun v s1 ⟨x,H1,I1,r1,q1⟩=>?_) (he _)
 obtain ⟨d,rfl,q⟩:=q1
 cases r1
 exact wpAny_truthy_bool ⟨H1,I1,q⟩
variable {tA tB':TT} {rest:List Expr}
def tAnd (t u:TT):TT:=fun σ H Q=>t σ H fun c H1=>if c=true then u σ H1 Q else Q false H1
def tOr (t u:TT):TT:=fun σ H Q=>t σ H fun c H1=>if c=true then Q true H1 else u σ H1 Q
def tNot (t:TT):TT:=fun σ H Q=>t σ H fun c H1=>Q (!c) H1
theorem pw_and1 (ha:PT X a tA):PW X (.BoolOp .And [a] pos) tA:=by
 intro wh pins s σ H Q I h
 refine isTrue_and (thn (ha pins s σ H Q I h) fun c s1 e=>?_)
 cases c with
 | true=>exact isTrue_and_nil e
 | false=>exact e
theorem pw_or1 (ha:PT X a tA):PW X (.BoolOp .Or [a] pos) tA:=by
 intro wh pins s σ H Q I h
 refine isTrue_or (thn (ha pins s σ H Q I h) fun c s1 e=>?_)
 cases c with
 | false=>exact isTrue_or_nil e
 | true=>exact e
theorem pw_and (ha:PT X a tA) (hb:PW X (.BoolOp .And (b::rest) pos) tB'):PW X (.BoolOp .And (a::b::rest) pos) (tAnd tA tB'):=by
 intro wh pins s σ H Q I h
 refine isTrue_and (thn (ha pins s σ H _ I h) fun c s1 ⟨H1,I1,q1⟩=>?_)
 cases c with
 | true=>exact hb wh pins s1 σ H1 Q I1 q1
 | false=>exact ⟨H1,I1,q1⟩
theorem pw_or (ha:PT X a tA) (hb:PW X (.BoolOp .Or (b::rest) pos) tB'):PW X (.BoolOp .Or (a::b::rest) pos) (tOr tA tB'):=by
 intro wh pins s σ H Q I h
 refine isTrue_or (thn (ha pins s σ H _ I h) fun c s1 ⟨H1,I1,q1⟩=>?_)
 cases c with
 | true=>exact ⟨H1,I1,q1⟩
 | false=>exact hb wh pins s1 σ H1 Q I1 q1
theorem pt_not (ha:PT X a tA):PT X (.UnaryOp .Not a pos) (tNot tA):=by
 intro pins s σ H Q I h
 exact isTrue_not (ha pins s σ H (fun c H1=>Q (!c) H1) I h)
def tAndV (ta tb:TE):TE:=fun σ H Q=>ta σ H fun x H1=>∃c,x=.bl c∧if c=true then tb σ H1 Q else Q (.bl false) H1
def tOrV (ta tb:TE):TE:=fun σ H Q=>ta σ H fun x H1=>∃c,x=.bl c∧if c=true then Q (.bl true) H1 else tb σ H1 Q
theorem pe_one {op} {t:TE} (h:PE X a t):PE X (.BoolOp op [a] pos) t:=fun pins s σ H Q I hw=>BoolOp_one (h pins s σ H Q I hw)
theorem pe_and (ha:PE X a ta) (hb:PE X (.BoolOp .And (b::rest) pos) tb):PE X (.BoolOp .And (a::b::rest) pos) (tAndV ta tb):=by
 intro pins s σ H Q I h
 refine BoolOp_and (thn (ha pins s σ H _ I h) fun v s1 ⟨x,H1,I1,r1,q1⟩=>?_)
 obtain ⟨c,rfl,q1⟩:=q1
 cases r1
 refine wpAny_truthy_bool ?_
 cases c with
 | true=>exact hb pins s1 σ H1 Q I1 q1
 | false=>exact ⟨.bl false,H1,I1,rfl,q1⟩
theorem pe_or (ha:PE X a ta) (hb:PE X (.BoolOp .Or (b::rest) pos) tb):PE X (.BoolOp .Or (a::b::rest) pos) (tOrV ta tb):=by
 intro pins s σ H Q I h
 refine BoolOp_or (thn (ha pins s σ H _ I h) fun v s1 ⟨x,H1,I1,r1,q1⟩=>?_)
 obtain ⟨c,rfl,q1⟩:=q1
 cases r1
 refine wpAny_truthy_bool ?_
 cases c with
 | false=>exact hb pins s1 σ H1 Q I1 q1
 | true=>exact ⟨.bl true,H1,I1,rfl,q1⟩
def tIf (t:TT) (ta tb:TE):TE:=fun σ H Q=>t σ H fun c H1=>if c=true then ta σ H1 Q else tb σ H1 Q
theorem pe_ifExp {c:Expr} (hc:PT X c tA) (ha:PE X a ta) (hb:PE X b tb):PE X (.IfExp c a b pos) (tIf tA ta tb):=by
 intro pins s σ H Q I h
 refine wpAny_IfExp (thn (hc pins s σ H _ I h) fun d s1 ⟨H1,I1,q1⟩=>?_)
 cases d with
 | true=>exact ha pins s1 σ H1 Q I1 q1
 | false=>exact hb pins s1 σ H1 Q I1 q1
end
end L2
namespace L2
open PySem PySem.Spec PyProof.Rows
def SqL (K:PySem.W.Frag) (H:Hp) (a:Addr) (xs:List V):Prop:=
 Rd H a (.lst xs)∨
  ∃(o:Obj) (its:Array Value) (n:Nat),K.lookup a=some o∧o.cls=.type "list"∧o.dict=none∧o.data=.seq its n∧its.size≤sizeLine∧Vals xs its.toList
def SqT (K:PySem.W.Frag) (H:Hp) (a:Addr) (xs:List V):Prop:=
 Rd H a (.tup xs)∨
  ∃(o:Obj) (its:Array Value) (n:Nat),K.lookup a=some o∧o.cls=.type "tuple"∧o.data=.seq its n∧its.size≤sizeLine∧Vals xs its.toList
def absV:Value→Option V
 | .none=>some .non
 | .bool b=>some (.bl b)
 | .int i _=>some (.int i)
 | .str x _=>some (.str x)
 | .bytes b _=>some (.byt b)
 | .float b _=>some (.flt b)
 | .ref a=>some (.ref a)
 | .type n=>some (.ty n)
 | _=>none
theorem RelV.abs {x:V} {u:Value} (r:RelV x u):absV u=some x:=by
 cases x with
 | non=>cases r; rfl
 | bl _=>cases r; rfl
 | int _=>obtain ⟨t,rfl⟩:=r; rfl
 | str _=>obtain ⟨t,rfl⟩:=r; rfl
 | byt _=>obtain ⟨t,rfl⟩:=r; rfl
 | flt _=>obtain ⟨t,rfl⟩:=r; rfl
 | ref _=>cases r; rfl
 | ty _=>cases r; rfl
theorem RelV.inj {x y:V} {u:Value} (r:RelV x u) (q:RelV y u):x=y:=Option.some.inj (r.abs.symm.trans q.abs)
theorem Vals.inj:∀{xs ys:List V} {us:List Value},Vals xs us→Vals ys us→xs=ys
 | _,_,_,.nil,.nil=>rfl
 | _,_,_,.cons r t,.cons r' t'=>by rw[r.inj r',Vals.inj t t']
section
variable {X:Cx} {pins:List (Addr×Obj)} {σ:St} {H:Hp} {s:Shared} {a:Addr} {xs ys:List V}
theorem SqL.of {K:PySem.W.Frag} (h:H a=some (.lst xs)):SqL K H a xs:=.inl (.inl h)
theorem SqT.of {K:PySem.W.Frag} (h:H a=some (.tup xs)):SqT K H a xs:=.inl (.inl h)
theorem Inv.list (I:Inv X pins σ H s) (h:SqL X.K H a xs):∃its:List Value,Vals xs its∧PlainL s.heap a its.toArray∧xs.length≤sizeLine:=by
 rcases h with h | ⟨o,its,n,hk,hc,hd,hs,hz,r⟩
 ·obtain ⟨z,its,n,r,e⟩:=h.ok I.hok
  exact ⟨its,r,⟨_,n,e,rfl,rfl,rfl⟩,z⟩
 ·refine ⟨its.toList,r,⟨o,n,I.kIn a o hk,hc,hd,by simpa using hs⟩,?_⟩
  have e:=r.length
  simp only [Array.length_toList] at e
  omega
theorem Inv.tuple (I:Inv X pins σ H s) (h:SqT X.K H a xs):∃its:List Value,Vals xs its∧IsTup s.heap a its.toArray∧xs.length≤sizeLine:=by
 rcases h with h | ⟨o,its,n,hk,hc,hs,hz,r⟩
 ·obtain ⟨z,its,r,p⟩:=h.ok I.hok
  exact ⟨its,r,p,z⟩
 ·refine ⟨its.toList,r,⟨o,I.kIn a o hk,hc,n,by simpa using hs⟩,?_⟩
  have e:=r.length
  simp only [Array.length_toList] at e
  omega
theorem Inv.list_inj (I:Inv X pins σ H s) (h:SqL X.K H a xs) (h':SqL X.K H a ys):xs=ys:=by
 obtain ⟨its,r,⟨o,n,e,_,_,d⟩,_⟩:=I.list h
 obtain ⟨its',r',⟨o',n',e',_,_,d'⟩,_⟩:=I.list h'
 rw[e] at e'; cases e'
 rw[d] at d'
 injection d' with d1 _
 have:its=its':=by simpa using congrArg Array.toList d1
 subst this
 exact r.inj r'
theorem Inv.tuple_inj (I:Inv X pins σ H s) (h:SqT X.K H a xs) (h':SqT X.K H a ys):xs=ys:=by
 obtain ⟨its,r,⟨o,e,_,n,d⟩,_⟩:=I.tuple h
 obtain ⟨its',r',⟨o',e',_,n',d'⟩,_⟩:=I.tuple h'
 rw[e] at e'; cases e'
 rw[d] at d'
 injection d' with d1 _
 have:its=its':=by simpa using congrArg Array.toList d1
 subst this
 exact r.inj r'
end
abbrev Cx.wish (X:Cx) (E:Value→Shared→Prop):Cx:={ X with xe:=E }
abbrev Cx.nox (X:Cx):Cx:=X.wish fun _ _=>False
theorem Cx.Ok.wish {X:Cx} (ok:X.Ok) (E:Value→Shared→Prop):(X.wish E).Ok:=
 ⟨ok.mod,ok.kind,ok.glob,ok.blt,ok.above,ok.inj,ok.has,ok.cab,ok.hd,ok.frames,ok.stk,ok.exf,ok.bs,ok.bsz,ok.noex,ok.exfs,ok.funs,ok.frf⟩
theorem Cx.Ok.unwish {X:Cx} {E:Value→Shared→Prop} (ok:(X.wish E).Ok):X.Ok:=
 ⟨ok.mod,ok.kind,ok.glob,ok.blt,ok.above,ok.inj,ok.has,ok.cab,ok.hd,ok.frames,ok.stk,ok.exf,ok.bs,ok.bsz,ok.noex,ok.exfs,ok.funs,ok.frf⟩
section
variable {X:Cx} {pins:List (Addr×Obj)} {σ:St} {H:Hp} {s:Shared} {E:Value→Shared→Prop}
theorem Inv.wish (I:Inv X pins σ H s) (E:Value→Shared→Prop):Inv (X.wish E) pins σ H s:=⟨I.ok.wish E,I.os,I.bare,I.base,I.loc,I.cell,I.free,I.freeC,I.pin,I.hok,I.len⟩
theorem Inv.unwish (I:Inv (X.wish E) pins σ H s):Inv X pins σ H s:=⟨I.ok.unwish,I.os,I.bare,I.base,I.loc,I.cell,I.free,I.freeC,I.pin,I.hok,I.len⟩
theorem SP.unwish {D:Ends} {f:Flow} {s':Shared} (h:SP (X.wish E) pins D f s'):SP X pins D f s':=by
 cases f with
 | next=>obtain ⟨σ',H',I,q⟩:=h; exact ⟨σ',H',I.unwish,q⟩
 | brk=>obtain ⟨σ',H',I,q⟩:=h; exact ⟨σ',H',I.unwish,q⟩
 | cont=>obtain ⟨σ',H',I,q⟩:=h; exact ⟨σ',H',I.unwish,q⟩
 | ret u=>obtain ⟨v,σ',H',I,r,q⟩:=h; exact ⟨v,σ',H',I.unwish,r,q⟩
theorem PSs.nox {st:List Stmt} {t:TS} (h:PSs X.nox st t):PSs X st t:=fun pins s σ H D I hw=>
 wpAny_mono (h pins s σ H D (I.wish _) hw) (fun _ _ q=>q.unwish) fun _ _ z=>False.elim z
end
section
variable {X:Cx} {st:Stmt} {rest:List Stmt} {t u:TS} {e:Expr} {te:TE} {pos:Pos}
def tNext:TS:=fun D σ H=>D.nx σ H
def tSeq (t u:TS):TS:=fun D σ H=>t { D with nx:=u D } σ H
theorem pss_nil:PSs X [] tNext:=fun _ _ σ H _ I h=>wpAny_execs_nil ⟨σ,H,I,h⟩
theorem pss_cons (h1:PS X st t) (h2:PSs X rest u):PSs X (st::rest) (tSeq t u):=by
 intro pins s σ H D I h
 refine wpAny_execs_cons (thn (h1 pins s σ H { D with nx:=u D } I h) fun f s1 q=>?_)
 cases f with
 | next=>
  obtain ⟨σ',H',I',q⟩:=q
  exact h2 pins s1 σ' H' D I' q
 | ret v=>exact q
 | brk=>exact q
 | cont=>exact q
theorem pss_one (h1:PS X st t):PSs X [st] t:=by
 intro pins s σ H D I h
 refine wpAny_execs_cons (thn (h1 pins s σ H D I h) fun f s1 q=>?_)
 cases f with
 | next=>exact wpAny_execs_nil q
 | ret v=>exact q
 | brk=>exact q
 | cont=>exact q
theorem Inv.quiet {pins:List (Addr×Obj)} {σ:St} {H:Hp} {s:Shared} (I:Inv X pins σ H s):interactive X.env=false:=by simp[interactive,I.ok.kind]
def tDrop (te:TE):TS:=fun D σ H=>te σ H fun _ H1=>D.nx σ H1
theorem ps_expr (he:PE X e te) (hs:swapsWith e none pos.line X.env=pure false:=by rfl):PS X (.Expr e pos) (tDrop te):=by
 intro pins s σ H D I h
 exact wpAny_Expr_any (thn (he pins s σ H _ I h) fun v s1 ⟨x,H1,I1,r1,q1⟩=>⟨σ,H1,I1,q1⟩) I.quiet hs
def tRet (te:TE):TS:=fun D σ H=>te σ H D.rt
theorem ps_ret (he:PE X e te):PS X (.Return (some e) pos) (tRet te):=by
 intro pins s σ H D I h
 exact wpAny_Return_some (thn (he pins s σ H _ I h) fun v s1 ⟨x,H1,I1,r1,q1⟩=>⟨x,σ,H1,I1,r1,q1⟩)
def tIfS (c:TT) (t u:TS):TS:=fun D σ H=>c σ H fun b H1=>if b=true then t D σ H1 else u D σ H1
theorem ps_if {c:Expr} {a b:List Stmt} {tc:TT} (hc:PT X c tc) (ha:PSs X a t) (hb:PSs X b u):PS X (.If c a b pos) (tIfS tc t u):=by
 intro pins s σ H D I h
 refine wpAny_If (thn (hc pins s σ H _ I h) fun d s1 ⟨H1,I1,q1⟩=>?_)
 cases d with
 | true=>exact ha pins s1 σ H1 D I1 q1
 | false=>exact hb pins s1 σ H1 D I1 q1
end
abbrev TG:=V→St→Hp→(St→Hp→Prop)→Prop
abbrev TGs:=List V→St→Hp→(St→Hp→Prop)→Prop
def PG (X:Cx) (target:Expr) (t:TG):Prop:=
 ∀(pins:List (Addr×Obj)) (s:Shared) (σ:St) (H:Hp) (v:V) (u:Value) (Q:St→Hp→Prop),Inv X pins σ H s→RelV v u→t v σ H Q→
  wpAny (model X.prog X.w) X.A (assign target X.env u) (fun _ s'=>∃σ' H',Inv X pins σ' H' s'∧Q σ' H') X.xe s
def PGs (X:Cx) (ts:List Expr) (t:TGs):Prop:=
 ∀(pins:List (Addr×Obj)) (s:Shared) (σ:St) (H:Hp) (vs:List V) (us:List Value) (Q:St→Hp→Prop),Inv X pins σ H s→Vals vs us→t vs σ H Q→
  wpAny (model X.prog X.w) X.A (assignInOrder ((assignEach ts X.env).map (·.2)) us) (fun _ s'=>∃σ' H',Inv X pins σ' H' s'∧Q σ' H') X.xe s
abbrev TSet:=V→V→V→Hp→(Hp→Prop)→Prop
def PSet (X:Cx) (t:TSet):Prop:=
 ∀(pins:List (Addr×Obj)) (s:Shared) (σ:St) (H:Hp) (o i v:V) (ov iv u:Value) (Q:Hp→Prop),Inv X pins σ H s→RelV o ov→RelV i iv→RelV v u→t o i v H Q→
  wpAny (model X.prog X.w) X.A (setItem ov iv u) (fun _ s'=>∃H',Inv X pins σ H' s'∧Q H') X.xe s
section
variable {X:Cx} {pos:Pos}
def gName (i:Nat):TG:=fun v σ H Q=>Q (σ.set i (some v)) H
theorem pg_name {i:Nat} {x:Str} (hN:X.N.Nodup) (hi:X.N[i]?=some x) (hx:Loc X.env.scope x) (hf:X.fn x=true∨X.env.scope.names.lookup x=some .local:=by first | exact .inl rfl | exact .inr rfl | assumption):PG X (.Name x pos) (gName i):=by
 intro pins s σ H v u Q I r h
 exact wpAny_assign_Name (store_ok I hN hi hx r (fun s' I'=>⟨_,H,I',h⟩) hf)
def gNil:TGs:=fun vs σ H Q=>vs=[]∧Q σ H
def gCons (t:TG) (u:TGs):TGs:=fun vs σ H Q=>∃v r,vs=v::r∧t v σ H fun σ' H'=>u r σ' H' Q
theorem pgs_nil:PGs X [] gNil:=by
 intro pins s σ H vs us Q I r h
 obtain ⟨e,h⟩:=h
 subst e
 cases r
 exact assignInOrder_nil ⟨σ,H,I,h⟩
theorem pgs_cons {e:Expr} {es:List Expr} {t:TG} {u:TGs} (h1:PG X e t) (h2:PGs X es u)
  (hs:(assignEach (e::es) X.env).map (·.2)=assign e X.env::(assignEach es X.env).map (·.2):=by rfl):PGs X (e::es) (gCons t u):=by
 intro pins s σ H vs us Q I r h
 obtain ⟨v,vr,e1,h⟩:=h
 subst e1
 cases r with
 | cons r rr=>
  rw[hs]
  refine assignInOrder_cons (thn (h1 pins s σ H _ _ _ I r h) fun _ s1 ⟨σ1,H1,I1,q1⟩=>?_)
  exact h2 pins s1 σ1 H1 _ _ Q I1 rr q1
def gTup (K:PySem.W.Frag) (n:Nat) (t:TGs):TG:=fun v σ H Q=>∃a xs,v=.ref a∧SqT K H a xs∧xs.length=n∧t xs σ H Q
theorem pg_tup {es:List Expr} {k:Nat} {t:TGs} {n:Nat} (hc:X.calm=true) (h:PGs X es t)
  (hn:(assignEach es X.env).length=n:=by rfl) (hst:(assignEach es X.env).findIdx? (·.1)=none:=by rfl):PG X (.Tuple es k pos) (gTup X.K n t):=by
 intro pins s σ H v u Q I r hw
 obtain ⟨a,xs,e1,hq,hl,hw⟩:=hw
 subst e1
 cases r
 obtain ⟨its,rv,ht,hz⟩:=I.tuple hq
 refine assign_Tuple_tuple (I.ok.hd hc) ht (by simp[hn,← hl,rv.length]) hst fun h' hx=>?_
 have I1:Inv X pins σ H { s with heap:=h' }:=I.kept (t':=s.toks) fun b o e=>hx b o (Nat.ne_of_lt (Heap.lt_size e)) e
 exact h pins _ σ H xs _ Q I1 (by simpa using rv) hw
def gSub (to ti:TE) (t:TSet):TG:=fun v σ H Q=>to σ H fun o H1=>ti σ H1 fun i H2=>t o i v H2 fun H3=>Q σ H3
theorem pg_sub {o i:Expr} {to ti:TE} {t:TSet} (ho:PE X o to) (hi:PE X i ti) (hs:PSet X t)
  (ha:∀v,assign (.Subscript o i pos) X.env v=(do
   let ov ← holding [v] (eval o X.env)
   let iv ← holding [v,ov] (eval i X.env)
   standAt pos
   holding [v,ov,iv] (setItem ov iv v)
   release [v,ov,iv] []):=by intro _; rfl):PG X (.Subscript o i pos) (gSub to ti t):=by
 intro pins s σ H v u Q I r h
 rw[ha]
 refine wpAny_bind (wpAny_holding (thn (ho pins s σ H _ I h) fun ov s1 ⟨x,H1,I1,r1,q1⟩=>?_))
 refine wpAny_bind (wpAny_holding (thn (hi pins s1 σ H1 _ I1 q1) fun iv s2 ⟨y,H2,I2,r2,q2⟩=>?_))
 refine wpAny_bind (wpAny_standAt (wpAny_bind (wpAny_holding (thn (hs pins s2 σ H2 x y v ov iv u _ I2 r1 r2 r q2) fun _ s3 ⟨H3,I3,q3⟩=>?_))))
 exact wpAny_release ⟨σ,H3,I3,q3⟩
def tAsg (te:TE) (g:TG):TS:=fun D σ H=>te σ H fun x H1=>g x σ H1 D.nx
theorem ps_asg {tg e:Expr} {te:TE} {g:TG} (he:PE X e te) (hg:PG X tg g) (hs:swapsWithSole [tg] e pos.line X.env=pure false:=by rfl) (hw:swappedStores [tg] e X.env=pure none:=by rfl)
  (h1:(assignEach [tg] X.env).map (·.2)=[assign tg X.env]:=by rfl):PS X (.Assign [tg] e pos) (tAsg te g):=by
 intro pins s σ H D I h
 refine wpAny_Assign_stores (thn (he pins s σ H _ I h) fun v s1 ⟨x,H1,I1,r1,q1⟩=>?_) hs hw
 rw[h1]
 exact thn (hg pins s1 σ H1 x v _ I1 r1 q1) fun _ s2 q=>q
theorem ps_set {i:Nat} {x:Str} {e:Expr} {te:TE} {pos':Pos} (hN:X.N.Nodup) (hi:X.N[i]?=some x) (hx:Loc X.env.scope x) (he:PE X e te) (hs:swapsWith e (some (.Name x pos')) pos.line X.env=pure false:=by rfl) (hf:X.fn x=true∨X.env.scope.names.lookup x=some .local:=by first | exact .inl rfl | exact .inr rfl | assumption):
  PS X (.Assign [.Name x pos'] e pos) (tAsg te (gName i)):=by
 intro pins s σ H D I h
 refine wpAny_Assign_Name (thn (he pins s σ H _ I h) fun v s1 ⟨y,H1,I1,r1,q1⟩=>?_) hs
 exact store_ok I1 hN hi hx r1 (fun s2 I2=>⟨_,H1,I2,q1⟩) hf
end
section
variable {X:Cx} {pos:Pos}
def tWhile (c:TT) (tb:TS):TS:=fun D σ H=>∃W:Nat→St→Hp→Prop,(∃m,W m σ H)∧∀m σ H,W m σ H→
 c σ H fun b H1=>if b=true then ∃N:St→Hp→Prop,(∀σ' H',N σ' H'→∃m',m' < m∧W m' σ' H')∧tb { D with nx:=N,ct:=N,bk:=D.nx } σ H1 else D.nx σ H1
theorem ps_while {c:Expr} {body:List Stmt} {tc:TT} {tb:TS} (hp:PassesOwn (model X.prog X.w) X.A X.env X.xe) (hc:PT X c tc) (hb:PSs X body tb):PS X (.While c body [] pos) (tWhile tc tb):=by
 intro pins s σ H D I h
 obtain ⟨W,⟨m0,w0⟩,turn⟩:=h
 refine wpAny_While (codeAny_whileLoop (fun n s'=>∃σ' H',Inv X pins σ' H' s'∧W n σ' H') ?_ m0 ⟨σ,H,I,w0⟩)
 rintro n s1 ⟨σ1,H1,I1,w1⟩
 refine wpAny_passesOwn hp (thn (hc pins s1 σ1 H1 _ I1 (turn n σ1 H1 w1)) fun b s2 ⟨H2,I2,q2⟩=>?_)
 cases b with
 | true=>
  obtain ⟨N,hN,q2⟩:=q2
  rw[if_pos rfl]
  refine wpAny_passesOwn hp (thn (hb pins s2 σ1 H2 _ I2 q2) fun f s3 q3=>?_)
  cases f with
  | next=>
   obtain ⟨σ3,H3,I3,n3⟩:=q3
   obtain ⟨m',hm,w3⟩:=hN σ3 H3 n3
   exact ⟨m',hm,σ3,H3,I3,w3⟩
  | cont=>
   obtain ⟨σ3,H3,I3,n3⟩:=q3
   obtain ⟨m',hm,w3⟩:=hN σ3 H3 n3
   exact ⟨m',hm,σ3,H3,I3,w3⟩
  | brk=>exact q3
  | ret v=>exact q3
 | false=>
  rw[if_neg Bool.false_ne_true]
  exact wpAny_execs_nil ⟨σ1,H2,I2,q2⟩
end
structure It where
 go:Nat→Hp→Prop
 yld:Nat→Hp→V→Hp→Prop
 stop:Nat→Hp→Prop
def FpOk (X:Cx) (pins:List (Addr×Obj)) (H:Hp) (b:Addr):Prop:=
 H b=none∧b≠X.env.locals∧b ∉ X.fs∧(b∈X.ex∨X.s₀.heap.objs.size≤b)∧(∀x c,X.env.cells.lookup x=some c→c≠b)∧∀p∈X.pn++pins,p.1≠b
theorem Inv.fpOk {X:Cx} {pins:List (Addr×Obj)} {σ:St} {H H':Hp} {s:Shared} {b:Addr} (I:Inv X pins σ H s) (hb:s.heap.objs.size≤b) (hn:H' b=none):FpOk X pins H' b:=by
 refine ⟨hn,Nat.ne_of_gt (Nat.lt_of_lt_of_le I.lt hb),I.nofs hb,.inr (Nat.le_trans I.sz hb),fun x c e z=>?_,fun p hp z=>?_⟩
 ·obtain ⟨v,q⟩:=I.cell x c e
  exact absurd (Nat.lt_of_lt_of_le q.lt (by rw[z]; exact hb)) (Nat.lt_irrefl _)
 ·exact absurd (Nat.lt_of_lt_of_le (Heap.lt_size (I.pin p hp).1) (by rw[z]; exact hb)) (Nat.lt_irrefl _)
structure Turn (P:Program) (w:World) (K:PySem.W.Frag) (tg:Expr) (J:It) (fp:List Addr) (it:Addr) (tn:Nat→Heap→Prop):Prop where
 mem:it∈fp
 obj:∀i h,tn i h→∀b∈fp,∃o,h.get? b=some o∧∀v,o.data≠.cell v
 keep:∀i h h',tn i h→(∀b∈fp,∀o,h.get? b=some o→h'.get? b=some o)→tn i h'
 item:∀(X:Cx),X.prog=P→X.w=w→X.K=K→X.calm=true→∀(i:Nat) (pins:List (Addr×Obj)) (s:Shared) (σ:St) (H:Hp) (E:Value→Shared→Prop),Inv X pins σ H s→(∀b∈fp,FpOk X pins H b)→tn i s.heap→J.go i H→
  wpAny (model P w) X.A (pyNext (.ref it)) (fun r s1=>∃u,r=some u∧
   wpAny (model P w) X.A (letOwnedTupleGo tg (.ref it) u) (fun _ s2=>∃x H',Inv X pins σ H' s2∧RelV x u∧J.yld i H x H'∧tn (i+1) s2.heap∧∀b∈fp,H' b=none) E s1) E s
 done:∀(X:Cx),X.prog=P→X.w=w→X.K=K→X.calm=true→∀(i:Nat) (pins:List (Addr×Obj)) (s:Shared) (σ:St) (H:Hp) (E:Value→Shared→Prop),Inv X pins σ H s→(∀b∈fp,FpOk X pins H b)→tn i s.heap→J.stop i H→
  wpAny (model P w) X.A (pyNext (.ref it)) (fun r s1=>r=none∧Inv X pins σ H s1) E s
 self:∀(A:Around) (i:Nat) (s:Shared) (Q:Value→Shared→Prop) (E:Value→Shared→Prop),tn i s.heap→Q (.ref it) s→wpAny (model P w) A (pyIter (.ref it)) Q E s
abbrev TI:=St→Hp→(It→Hp→Prop)→Prop
def PIE (X:Cx) (pins:List (Addr×Obj)) (σ:St) (tg:Expr) (R:It→Hp→Prop) (itv:Value) (s2:Shared):Prop:=
 ∃(it:Addr) (fp:List Addr) (tn:Nat→Heap→Prop) (J:It) (H':Hp),itv=.ref it∧Inv X pins σ H' s2∧Turn X.prog X.w X.K tg J fp it tn∧tn 0 s2.heap∧(∀b∈fp,FpOk X pins H' b)∧R J H'
def PI (X:Cx) (tg iter:Expr) (wi:TI):Prop:=
 ∀(pins:List (Addr×Obj)) (s:Shared) (σ:St) (H:Hp) (R:It→Hp→Prop),Inv X pins σ H s→wi σ H R→
  wpAny (model X.prog X.w) X.A (eval iter X.env) (fun v s1=>wpAny (model X.prog X.w) X.A (pyIter v) (PIE X pins σ tg R) X.xe s1) X.xe s
theorem go_of {M:Model} {A:Around} {E:Value→Shared→Prop} {s:Shared} {tg:Expr} {it:Addr} {u:Value} {o:Obj} {n:String} {vs:Array Value} {Q:Unit→Shared→Prop} (ho:s.heap.get? it=some o) (hc:o.cls=.type n) (hd:o.data=.fields vs)
  (hn:["enumerate","zip","dict_itemiterator","dict_reverseitemiterator","odict_iterator","itertools.zip_longest","itertools.pairwise"].contains n=false) (hQ:Q () s):wpAny M A (letOwnedTupleGo tg (.ref it) u) Q E s:=by
 unfold letOwnedTupleGo
 cases tg <;> first
  | exact wpAny_pure hQ
  | (cases u <;> first
    | exact wpAny_pure hQ
    | (refine wpAny_bind (wpAny_load ho ?_)
       rw[hc,hd]
       show wpAny M A (if (["enumerate","zip","dict_itemiterator","dict_reverseitemiterator","odict_iterator","itertools.zip_longest","itertools.pairwise"].contains n && vs[0]? == some (rawInt _))=true then _ else _) Q E s
       rw[if_neg (by intro h; rw[hn,Bool.false_and] at h; cases h)]
       exact wpAny_pure hQ))
def Itl (K:PySem.W.Frag) (a:Addr):It:=
 ⟨fun i H=>∃xs x,SqL K H a xs∧xs[i]?=some x,fun i H x H'=>H'=H∧∀xs,SqL K H a xs→xs[i]?=some x,fun i H=>∃xs,SqL K H a xs∧xs.length≤i⟩
def Itt (K:PySem.W.Frag) (a:Addr):It:=
 ⟨fun i H=>∃xs x,SqT K H a xs∧xs[i]?=some x,fun i H x H'=>H'=H∧∀xs,SqT K H a xs→xs[i]?=some x,fun i H=>∃xs,SqT K H a xs∧xs.length≤i⟩
def Itr (lo:Int) (n:Nat):It:=⟨fun i _=>i < n,fun i H x H'=>H'=H∧x=.int (lo+i),fun i _=>n≤i⟩
theorem turn_list {P:Program} {w:World} {K:PySem.W.Frag} {tg:Expr} (a it:Addr):Turn P w K tg (Itl K a) [it] it (fun i h=>h.IsListIter it a i) where
 mem:=by simp
 obj:=fun i h st b hb=>by
  have e:b=it:=by simpa using hb
  subst e
  obtain ⟨o,e,c,d⟩:=st
  exact ⟨o,e,fun v z=>by rw[d] at z; cases z⟩
 keep:=fun i h h' st k=>st.at fun o e=>k it (by simp) o e
 item:=by
  intro X hP hw hK hc i pins s σ H E I hf st hg
  subst hP hw hK
  obtain ⟨xs,x,hq,hx⟩:=hg
  obtain ⟨its,rv,p,hz⟩:=I.list hq
  obtain ⟨u,hu,ru⟩:=rv.get hx
  obtain ⟨f0,f1,f2,f3,f4,f5⟩:=hf it (by simp)
  refine wpAny_pyNext_list_item st p.isList (x:=u) (by simpa using hu) fun h' st' sb=>?_
  have I1:Inv X pins σ H { s with heap:=h' }:=I.turned (t':=s.toks) (fun b o hb e=>(sb.2 b hb).trans e) f0 f1 f3 f4 f5
  obtain ⟨o,e,c,d⟩:=id st'
  exact ⟨u,rfl,go_of (s:={ s with heap:=h' }) e c d (by decide) ⟨x,H,I1,ru,⟨rfl,fun ys hy=>by rw[I.list_inj hy hq]; exact hx⟩,st',fun b hb=>(hf b hb).1⟩⟩
 done:=by
  intro X hP hw hK hc i pins s σ H E I hf st hg
  subst hP hw hK
  obtain ⟨xs,hq,hx⟩:=hg
  obtain ⟨its,rv,p,hz⟩:=I.list hq
  obtain ⟨f0,f1,f2,f3,f4,f5⟩:=hf it (by simp)
  have hl:=rv.length
  exact wpAny_pyNext_list_end (I.ok.hd hc) st p.isList (by simp; omega) fun h' eb=>⟨rfl,I.turned (t':=s.toks) (fun b o hb e=>eb b o hb e) f0 f1 f3 f4 f5⟩
 self:=fun _ _ _ _ _ st h=>wpAny_pyIter_listiter st h
theorem turn_tuple {P:Program} {w:World} {K:PySem.W.Frag} {tg:Expr} (a it:Addr):Turn P w K tg (Itt K a) [it] it (fun i h=>h.IsTupleIter it a i) where
 mem:=by simp
 obj:=fun i h st b hb=>by
  have e:b=it:=by simpa using hb
  subst e
  obtain ⟨o,e,c,d⟩:=st
  exact ⟨o,e,fun v z=>by rw[d] at z; cases z⟩
 keep:=fun i h h' st k=>st.at fun o e=>k it (by simp) o e
 item:=by
  intro X hP hw hK hc i pins s σ H E I hf st hg
  subst hP hw hK
  obtain ⟨xs,x,hq,hx⟩:=hg
  obtain ⟨its,rv,p,hz⟩:=I.tuple hq
  obtain ⟨u,hu,ru⟩:=rv.get hx
  obtain ⟨f0,f1,f2,f3,f4,f5⟩:=hf it (by simp)
  refine wpAny_pyNext_tuple_item st (show s.heap.IsTuple a its.toArray from p) (x:=u) (by simpa using hu) fun h' st' sb=>?_
  have I1:Inv X pins σ H { s with heap:=h' }:=I.turned (t':=s.toks) (fun b o hb e=>(sb.2 b hb).trans e) f0 f1 f3 f4 f5
  obtain ⟨o,e,c,d⟩:=id st'
  exact ⟨u,rfl,go_of (s:={ s with heap:=h' }) e c d (by decide) ⟨x,H,I1,ru,⟨rfl,fun ys hy=>by rw[I.tuple_inj hy hq]; exact hx⟩,st',fun b hb=>(hf b hb).1⟩⟩
 done:=by
  intro X hP hw hK hc i pins s σ H E I hf st hg
  subst hP hw hK
  obtain ⟨xs,hq,hx⟩:=hg
  obtain ⟨its,rv,p,hz⟩:=I.tuple hq
  obtain ⟨f0,f1,f2,f3,f4,f5⟩:=hf it (by simp)
  have hl:=rv.length
  exact wpAny_pyNext_tuple_end (I.ok.hd hc) st (show s.heap.IsTuple a its.toArray from p) (by simp; omega) fun h' eb=>⟨rfl,I.turned (t':=s.toks) (fun b o hb e=>eb b o hb e) f0 f1 f3 f4 f5⟩
 self:=fun _ _ _ _ _ st h=>wpAny_pyIter_tupleiter st h
theorem turn_range {P:Program} {w:World} {K:PySem.W.Frag} {tg:Expr} (it:Addr) (lo:Int) (n:Nat):Turn P w K tg (Itr lo n) [it] it (fun i h=>IsRangeIter h it (lo+(i:Nat) * 1) ((n:Int) - (i:Nat)) 1) where
 mem:=by simp
 obj:=fun i h st b hb=>by
  have e:b=it:=by simpa using hb
  subst e
  exact ⟨_,st,fun v z=>by
   have z':Data.fields _=Data.cell v:=z
   cases z'⟩
 keep:=fun i h h' st k=>k it (by simp) _ st
 item:=by
  intro X hP hw hK hc i pins s σ H E I hf st hg
  subst hP hw hK
  obtain ⟨f0,f1,f2,f3,f4,f5⟩:=hf it (by simp)
  have W:=Walks.range (prog:=X.prog) (w:=X.w) (I.ok.hd hc) it lo 1 n
  refine W.item i s _ _ hg st fun v h' tk hv st' kk=>?_
  obtain ⟨t,rfl⟩:=hv
  have I1:Inv X pins σ H { s with heap:=h',toks:=tk }:=I.turned (fun b o hb e=>kk b o (by simpa using hb) e) f0 f1 f3 f4 f5
  refine ⟨_,rfl,go_of (s:={ s with heap:=h',toks:=tk }) (n:="range_iterator") st' rfl rfl (by decide) ⟨.int (lo+i),H,I1,⟨t,?_⟩,⟨rfl,rfl⟩,st',fun b hb=>(hf b hb).1⟩⟩
  rw[Int.mul_one]
 done:=by
  intro X hP hw hK hc i pins s σ H E I hf st hg
  subst hP hw hK
  obtain ⟨f0,f1,f2,f3,f4,f5⟩:=hf it (by simp)
  exact wpAny_pyNext_range_end (I.ok.hd hc) st (by have:n≤i:=hg; omega) fun h' eb=>⟨rfl,I.turned (t':=s.toks) (fun b o hb e=>eb b o hb e) f0 f1 f3 f4 f5⟩
 self:=fun _ _ _ _ _ st h=>wpAny_pyIter_rangeiter st h
end L2
namespace L2
open PySem PySem.Spec PyProof.Rows
section
variable {X:Cx} {tg:Expr}
def iList (K:PySem.W.Frag) (tl:TE):TI:=fun σ H R=>tl σ H fun x H1=>∃a,x=.ref a∧(∃xs,SqL K H1 a xs)∧R (Itl K a) H1
def iTup (K:PySem.W.Frag) (tl:TE):TI:=fun σ H R=>tl σ H fun x H1=>∃a,x=.ref a∧(∃xs,SqT K H1 a xs)∧R (Itt K a) H1
theorem pi_list {l:Expr} {tl:TE} (hl:PE X l tl):PI X tg l (iList X.K tl):=by
 intro pins s σ H R I h
 refine thn (hl pins s σ H _ I h) fun v s1 ⟨x,H1,I1,r1,q1⟩=>?_
 obtain ⟨a,e,⟨xs,hq⟩,q⟩:=q1
 subst e
 cases r1
 obtain ⟨its,rv,p,hz⟩:=I1.list hq
 refine wpAny_pyIter_list p.isList ?_
 refine ⟨s1.heap.objs.size,[s1.heap.objs.size],_,_,H1,rfl,I1.kept (t':=s1.toks) fun b o e=>Heap.get?_push_of_some _ e,turn_list a _,⟨_,Heap.get?_push_size _ rfl,rfl,rfl⟩,fun b hb=>?_,q⟩
 have e:b=s1.heap.objs.size:=by simpa using hb
 subst e
 exact I1.fpOk (Nat.le_refl _) (I1.hok.fresh (Nat.le_refl _))
theorem pi_tup {l:Expr} {tl:TE} (hl:PE X l tl):PI X tg l (iTup X.K tl):=by
 intro pins s σ H R I h
 refine thn (hl pins s σ H _ I h) fun v s1 ⟨x,H1,I1,r1,q1⟩=>?_
 obtain ⟨a,e,⟨xs,hq⟩,q⟩:=q1
 subst e
 cases r1
 obtain ⟨its,rv,p,hz⟩:=I1.tuple hq
 refine wpAny_pyIter_tuple (show s1.heap.IsTuple a its.toArray from p) ?_
 refine ⟨s1.heap.objs.size,[s1.heap.objs.size],_,_,H1,rfl,I1.kept (t':=s1.toks) fun b o e=>Heap.get?_push_of_some _ e,turn_tuple a _,⟨_,Heap.get?_push_size _ rfl,rfl,rfl⟩,fun b hb=>?_,q⟩
 have e:b=s1.heap.objs.size:=by simpa using hb
 subst e
 exact I1.fpOk (Nat.le_refl _) (I1.hok.fresh (Nat.le_refl _))
theorem range_it {pins:List (Addr×Obj)} {σ:St} {H:Hp} {s:Shared} {R:It→Hp→Prop} {E:Value→Shared→Prop} {lo hi:Int} {t u v:Tok} {tk:Nat} (I:Inv X pins σ H s) (h1:-(2 ^ 62)≤lo) (h2:lo < 2 ^ 62) (h3:-(2 ^ 62)≤hi) (h4:hi < 2 ^ 62)
  (q:R (Itr lo (hi - lo).toNat) H):wpAny (model X.prog X.w) X.A (pyIter (.ref s.heap.objs.size)) (PIE X pins σ tg R) E { s with heap:=s.heap.push { cls:=.type "range",data:=.fields #[.int lo t,.int hi u,.int 1 v] },toks:=tk }:=by
 refine wpAny_pyIter_range (IsRange.new ..) (small_one h1 h2 h3 h4) ?_
 have I1:Inv X pins σ H { s with heap:=s.heap.push { cls:=.type "range",data:=.fields #[.int lo t,.int hi u,.int 1 v] },toks:=tk }:=I.kept fun b o e=>Heap.get?_push_of_some _ e
 refine ⟨(s.heap.push { cls:=.type "range",data:=.fields #[.int lo t,.int hi u,.int 1 v] }).objs.size,[(s.heap.push { cls:=.type "range",data:=.fields #[.int lo t,.int hi u,.int 1 v] }).objs.size],_,_,H,rfl,
  I1.kept (t':=tk) fun b o e=>Heap.get?_push_of_some _ e,turn_range _ lo (hi - lo).toNat,?_,fun b hb=>?_,q⟩
 ·have e1:lo+((0:Nat):Int) * 1=lo:=by simp
  have e2:(((hi - lo).toNat:Nat):Int) - ((0:Nat):Int)=Builtin.Range.rangeSize lo hi 1:=by rw[rangeSize_one]; split <;> omega
  show IsRangeIter _ _ (lo+((0:Nat):Int) * 1) ((((hi - lo).toNat:Nat):Int) - ((0:Nat):Int)) 1
  rw[e1,e2]
  exact Heap.get?_push_size _ rfl
 ·have e:b=(s.heap.push { cls:=.type "range",data:=.fields #[.int lo t,.int hi u,.int 1 v] }).objs.size:=by simpa using hb
  subst e
  exact I1.fpOk (Nat.le_refl _) (I1.hok.fresh (Nat.le_refl _))
def iRng1 (ta:TA):TI:=fun σ H R=>ta σ H fun vs H1=>∃j:Int,vs=[.int j]∧-(2 ^ 62)≤j∧j < 2 ^ 62∧R (Itr 0 j.toNat) H1
theorem pi_range1 {a:Expr} {ta:TA} {p pos:Pos} (hg:Gl X "range") (hm:X.mg "range"=none) (ha:PA X [a] ta) (hs:starEach [a] X.env=[(false,eval a X.env)]:=by rfl):PI X tg (.Call (.Name "range" p) [a] [] pos) (iRng1 ta):=by
 intro pins s σ H R I h
 refine Call_ (ld_blt I hg hm boot_range (PyProof.Rows.callWith_type1 (thn (ha pos pins s σ H _ I h) fun us s1 ⟨vs,H1,I1,r1,q1⟩=>?_) hs rfl))
 obtain ⟨j,e,q1,q2,q⟩:=q1
 subst e
 cases r1 with
 | cons r rr=>
  cases rr
  obtain ⟨t,rfl⟩:=r
  exact call_range_1 (range_it I1 (by omega) (by omega) q1 q2 (by simpa using q))
def tFor (wi:TI) (g:TG) (tb:TS):TS:=fun D σ H=>wi σ H fun J H1=>∃W:Nat→Nat→St→Hp→Prop,(∃m,W 0 m σ H1)∧∀i m σ H,W i m σ H→
 (J.stop i H∧D.nx σ H)∨(J.go i H∧∃N:St→Hp→Prop,(∀σ' H',N σ' H'→∃m',m' < m∧W (i+1) m' σ' H')∧∀x H',J.yld i H x H'→g x σ H' fun σ2 H2=>tb { D with nx:=N,ct:=N,bk:=D.nx } σ2 H2)
def pinsAt (fp:List Addr) (h:Heap):List (Addr×Obj):=fp.filterMap fun b=>(h.get? b).map fun o=>(b,o)
theorem mem_pinsAt {fp:List Addr} {h:Heap} {b:Addr} {o:Obj} (hb:b∈fp) (e:h.get? b=some o):(b,o)∈pinsAt fp h:=List.mem_filterMap.mpr ⟨b,hb,by rw[e]; rfl⟩
theorem of_pinsAt {fp:List Addr} {h:Heap} {p:Addr×Obj} (hp:p∈pinsAt fp h):p.1∈fp∧h.get? p.1=some p.2:=by
 obtain ⟨b,hb,e⟩:=List.mem_filterMap.mp hp
 cases q:h.get? b with
 | none=>rw[q] at e; cases e
 | some o=>
  rw[q] at e
  have e':(b,o)=p:=Option.some.inj e
  subst e'
  exact ⟨hb,q⟩
theorem Inv.pinned {pins:List (Addr×Obj)} {σ:St} {H:Hp} {s:Shared} {fp:List Addr} (I:Inv X pins σ H s) (hf:∀b∈fp,FpOk X pins H b) (ho:∀b∈fp,∃o,s.heap.get? b=some o∧∀v,o.data≠.cell v):Inv X (pins++pinsAt fp s.heap) σ H s:=
 I.pins_of fun p hp=>(List.mem_append.mp hp).elim (fun z=>I.pin p (List.mem_append_right _ z)) fun z=>by
  obtain ⟨hb,e⟩:=of_pinsAt z
  obtain ⟨f0,f1,f2,_⟩:=hf p.1 hb
  obtain ⟨o,e',d⟩:=ho p.1 hb
  rw[e] at e'; cases e'
  exact ⟨e,f0,f1,f2,d⟩
theorem Inv.unpinned {pins pl:List (Addr×Obj)} {σ:St} {H:Hp} {s:Shared} (I:Inv X (pins++pl) σ H s):Inv X pins σ H s:=I.pins_of fun p hp=>I.pin p (List.mem_append_right _ (List.mem_append_left _ hp))
theorem ps_for {iter:Expr} {body:List Stmt} {wi:TI} {g:TG} {tb:TS} {pos:Pos} (hp:PassesOwn (model X.prog X.w) X.A X.env X.xe) (hc:X.calm=true) (hi:PI X tg iter wi) (hg:PG X tg g) (hb:PSs X body tb)
  (hs:∀x,foldedSetIterable iter X.env x=pure x:=by intro _; rfl):PS X (.For tg iter body [] pos) (tFor wi g tb):=by
 intro pins s σ H D I h
 refine wpAny_For (thn (hi pins s σ H _ I h) fun v s1 h1=>thn h1 fun itv s2 h2=>?_) hs
 obtain ⟨it,fp,tn,J,H2,e,I2,T,st2,f2,W,⟨m0,w0⟩,turn⟩:=h2
 subst e
 have stat:∀{H':Hp},(∀b∈fp,H' b=none)→∀b∈fp,FpOk X pins H' b:=fun hn b hb=>⟨hn b hb,(f2 b hb).2⟩
 refine codeAny_forLoop_any (fun n s'=>∃i σ' H',Inv X pins σ' H' s'∧tn i s'.heap∧(∀b∈fp,H' b=none)∧W i n σ' H') ?_ m0 ⟨0,σ,H2,I2,st2,fun b hb=>(f2 b hb).1,w0⟩
 rintro n s3 ⟨i,σ3,H3,I3,st3,fr3,w3⟩
 rcases turn i n σ3 H3 w3 with ⟨stop,qn⟩ | ⟨go,N,hN,step⟩
 ·refine wpAny_passesOwn hp (thn (T.done X rfl rfl rfl hc i pins s3 σ3 H3 X.xe I3 (stat fr3) st3 stop) fun r s4 ⟨hr,I4⟩=>?_)
  subst hr
  exact wpAny_execs_nil ⟨σ3,H3,I4,qn⟩
 ·refine wpAny_passesOwn hp (thn (T.item X rfl rfl rfl hc i pins s3 σ3 H3 X.xe I3 (stat fr3) st3 go) fun r s4 ⟨u,hr,h4⟩=>?_)
  subst hr
  refine wpAny_passesOwn hp (thn h4 fun _ s5 ⟨x,H5,I5,r5,y5,st5,fr5⟩=>?_)
  have I5':=I5.pinned (stat fr5) (T.obj _ _ st5)
  refine wpAny_passesOwn hp (thn (hg _ s5 σ3 H5 x u _ I5' r5 (step x H5 y5)) fun _ s6 ⟨σ6,H6,I6,q6⟩=>?_)
  refine wpAny_passesOwn hp (thn (hb _ s6 σ6 H6 _ I6 q6) fun f s7 q7=>?_)
  have again:∀{σ7:St} {H7:Hp},Inv X (pins++pinsAt fp s5.heap) σ7 H7 s7→N σ7 H7→∃m,m < n∧∃i σ' H',Inv X pins σ' H' s7∧tn i s7.heap∧(∀b∈fp,H' b=none)∧W i m σ' H':=fun {σ7 H7} I7 n7=>by
   obtain ⟨m',hm,w7⟩:=hN σ7 H7 n7
   refine ⟨m',hm,i+1,σ7,H7,I7.unpinned,T.keep _ _ _ st5 fun b hb o e=>(I7.pin (b,o) (List.mem_append_right _ (List.mem_append_right _ (mem_pinsAt hb e)))).1,fun b hb=>?_,w7⟩
   obtain ⟨o,e,d⟩:=T.obj _ _ st5 b hb
   exact (I7.pin (b,o) (List.mem_append_right _ (List.mem_append_right _ (mem_pinsAt hb e)))).2.1
  cases f with
  | next=>obtain ⟨σ7,H7,I7,n7⟩:=q7; exact again I7 n7
  | cont=>obtain ⟨σ7,H7,I7,n7⟩:=q7; exact again I7 n7
  | brk=>obtain ⟨σ7,H7,I7,q7⟩:=q7; exact ⟨σ7,H7,I7.unpinned,q7⟩
  | ret v=>obtain ⟨x7,σ7,H7,I7,r7,q7⟩:=q7; exact ⟨x7,σ7,H7,I7.unpinned,r7,q7⟩
end
theorem for_list {K:PySem.W.Frag} {a:Addr} {xs:List V} {g:TG} {tb:TS} {D:Ends} {σ:St} {H:Hp} (Pv:Nat→St→Hp→Prop) (h0:Pv 0 σ H) (hl:∀i σ H,i≤xs.length→Pv i σ H→SqL K H a xs)
  (hs:∀i x σ H,xs[i]?=some x→Pv i σ H→g x σ H fun σ2 H2=>tb { D with nx:=Pv (i+1),ct:=Pv (i+1),bk:=D.nx } σ2 H2) (hd:∀σ H,Pv xs.length σ H→D.nx σ H):
  ∃W:Nat→Nat→St→Hp→Prop,(∃m,W 0 m σ H)∧∀i m σ H,W i m σ H→
   ((Itl K a).stop i H∧D.nx σ H)∨((Itl K a).go i H∧∃N:St→Hp→Prop,(∀σ' H',N σ' H'→∃m',m' < m∧W (i+1) m' σ' H')∧∀x H',(Itl K a).yld i H x H'→g x σ H' fun σ2 H2=>tb { D with nx:=N,ct:=N,bk:=D.nx } σ2 H2):=by
 refine ⟨fun i m σ H=>m=xs.length - i∧i≤xs.length∧Pv i σ H,⟨xs.length,by simp,Nat.zero_le _,h0⟩,?_⟩
 rintro i m σ H ⟨rfl,hi,p⟩
 have q:=hl i σ H hi p
 by_cases hlt:i < xs.length
 ·refine .inr ⟨⟨xs,xs[i],q,by simp[hlt]⟩,Pv (i+1),fun σ' H' p'=>⟨xs.length - (i+1),by omega,rfl,hlt,p'⟩,fun x H' y=>?_⟩
  obtain ⟨e,y⟩:=y
  subst e
  exact hs i x σ _ (y xs q) p
 ·have e:i=xs.length:=by omega
  subst e
  exact .inl ⟨⟨xs,q,Nat.le_refl _⟩,hd σ H p⟩
theorem for_tup {K:PySem.W.Frag} {a:Addr} {xs:List V} {g:TG} {tb:TS} {D:Ends} {σ:St} {H:Hp} (Pv:Nat→St→Hp→Prop) (h0:Pv 0 σ H) (hl:∀i σ H,i≤xs.length→Pv i σ H→SqT K H a xs)
  (hs:∀i x σ H,xs[i]?=some x→Pv i σ H→g x σ H fun σ2 H2=>tb { D with nx:=Pv (i+1),ct:=Pv (i+1),bk:=D.nx } σ2 H2) (hd:∀σ H,Pv xs.length σ H→D.nx σ H):
  ∃W:Nat→Nat→St→Hp→Prop,(∃m,W 0 m σ H)∧∀i m σ H,W i m σ H→
   ((Itt K a).stop i H∧D.nx σ H)∨((Itt K a).go i H∧∃N:St→Hp→Prop,(∀σ' H',N σ' H'→∃m',m' < m∧W (i+1) m' σ' H')∧∀x H',(Itt K a).yld i H x H'→g x σ H' fun σ2 H2=>tb { D with nx:=N,ct:=N,bk:=D.nx } σ2 H2):=by
 refine ⟨fun i m σ H=>m=xs.length - i∧i≤xs.length∧Pv i σ H,⟨xs.length,by simp,Nat.zero_le _,h0⟩,?_⟩
 rintro i m σ H ⟨rfl,hi,p⟩
 have q:=hl i σ H hi p
 by_cases hlt:i < xs.length
 ·refine .inr ⟨⟨xs,xs[i],q,by simp[hlt]⟩,Pv (i+1),fun σ' H' p'=>⟨xs.length - (i+1),by omega,rfl,hlt,p'⟩,fun x H' y=>?_⟩
  obtain ⟨e,y⟩:=y
  subst e
  exact hs i x σ _ (y xs q) p
 ·have e:i=xs.length:=by omega
  subst e
  exact .inl ⟨⟨xs,q,Nat.le_refl _⟩,hd σ H p⟩
theorem for_range {lo:Int} {n:Nat} {g:TG} {tb:TS} {D:Ends} {σ:St} {H:Hp} (Pv:Nat→St→Hp→Prop) (h0:Pv 0 σ H)
  (hs:∀i σ H,i < n→Pv i σ H→g (.int (lo+i)) σ H fun σ2 H2=>tb { D with nx:=Pv (i+1),ct:=Pv (i+1),bk:=D.nx } σ2 H2) (hd:∀σ H,Pv n σ H→D.nx σ H):
  ∃W:Nat→Nat→St→Hp→Prop,(∃m,W 0 m σ H)∧∀i m σ H,W i m σ H→
   ((Itr lo n).stop i H∧D.nx σ H)∨((Itr lo n).go i H∧∃N:St→Hp→Prop,(∀σ' H',N σ' H'→∃m',m' < m∧W (i+1) m' σ' H')∧∀x H',(Itr lo n).yld i H x H'→g x σ H' fun σ2 H2=>tb { D with nx:=N,ct:=N,bk:=D.nx } σ2 H2):=by
 refine ⟨fun i m σ H=>m=n - i∧i≤n∧Pv i σ H,⟨n,by simp,Nat.zero_le _,h0⟩,?_⟩
 rintro i m σ H ⟨rfl,hi,p⟩
 by_cases hlt:i < n
 ·refine .inr ⟨hlt,Pv (i+1),fun σ' H' p'=>⟨n - (i+1),by omega,rfl,hlt,p'⟩,fun x H' y=>?_⟩
  obtain ⟨e,y⟩:=y
  subst e y
  exact hs i σ _ hlt p
 ·have e:i=n:=by omega
  subst e
  exact .inl ⟨Nat.le_refl _,hd σ H p⟩
end L2
namespace L2
open PySem PySem.Spec PyProof.Rows
abbrev R2:=V→V→Hp→VK→Prop
def OpR (X:Cx) (f:Value→Value→Sem Value) (r:R2):Prop:=
 ∀(pins:List (Addr×Obj)) (s:Shared) (σ:St) (H:Hp) (x y:V) (v u:Value) (Q:VK),Inv X pins σ H s→RelV x v→RelV y u→r x y H Q→
  wpAny (model X.prog X.w) X.A (f v u) (EP X pins σ Q) X.xe s
def UnR (X:Cx) (f:Value→Sem Value) (r:V→Hp→VK→Prop):Prop:=
 ∀(pins:List (Addr×Obj)) (s:Shared) (σ:St) (H:Hp) (x:V) (v:Value) (Q:VK),Inv X pins σ H s→RelV x v→r x H Q→
  wpAny (model X.prog X.w) X.A (f v) (EP X pins σ Q) X.xe s
def CallR (X:Cx) (f:Value) (r:List V→Hp→VK→Prop):Prop:=
 ∀(pins:List (Addr×Obj)) (s:Shared) (σ:St) (H:Hp) (xs:List V) (us:List Value) (Q:VK),Inv X pins σ H s→Vals xs us→r xs H Q→
  wpAny (model X.prog X.w) X.A (call f us) (EP X pins σ Q) X.xe s
def tOp (r:R2) (ta tb:TE):TE:=fun σ H Q=>ta σ H fun x H1=>tb σ H1 fun y H2=>r x y H2 Q
def tUn (r:V→Hp→VK→Prop) (ta:TE):TE:=fun σ H Q=>ta σ H fun x H1=>r x H1 Q
def rI (C:Int→Int→Prop) (g:Int→Int→V):R2:=fun x y H Q=>∃i j,x=.int i∧y=.int j∧C i j∧Q (g i j) H
def rI0 (g:Int→Int→V):R2:=fun x y H Q=>∃i j,x=.int i∧y=.int j∧Q (g i j) H
def rU (g:Int→V):V→Hp→VK→Prop:=fun x H Q=>∃i,x=.int i∧Q (g i) H
section
variable {X:Cx} {a b c:Expr} {ta tb tc:TE} {pos:Pos}
theorem binT (ha:PE X a ta) (hb:PE X b tb) {pins:List (Addr×Obj)} {s:Shared} {σ:St} {H:Hp} {R:V→V→Hp→Prop} (I:Inv X pins σ H s)
  (h:ta σ H fun x H1=>tb σ H1 fun y H2=>R x y H2) {Q:Value→Shared→Prop} {f:Value→Value→Sem Value}
  (hf:∀v u s2 x y H2,Inv X pins σ H2 s2→RelV x v→RelV y u→R x y H2→wpAny (model X.prog X.w) X.A (f v u) Q X.xe s2):
  wpAny (model X.prog X.w) X.A (eval a X.env) (fun v s₁=>wpAny (model X.prog X.w) X.A (eval b X.env) (fun u s₂=>wpAny (model X.prog X.w) X.A (f v u) Q X.xe s₂) X.xe s₁) X.xe s:=by
 refine thn (ha pins s σ H _ I h) fun v s1 ⟨x,H1,I1,r1,q1⟩=>?_
 refine thn (hb pins s1 σ H1 _ I1 q1) fun u s2 ⟨y,H2,I2,r2,q2⟩=>?_
 exact hf v u s2 x y H2 I2 r1 r2 q2
theorem pe_op {op:Operator} {r:R2} (ho:OpR X (binaryOp op) r) (ha:PE X a ta) (hb:PE X b tb):PE X (.BinOp a op b pos) (tOp r ta tb):=by
 intro pins s σ H Q I h
 exact wpAny_BinOp (binT ha hb I h fun v u s2 x y H2 I2 rx ry q=>ho pins s2 σ H2 x y v u Q I2 rx ry q)
theorem pe_un {op:UnaryOp} {r:V→Hp→VK→Prop} (ho:UnR X (unaryOp op) r) (ha:PE X a ta):PE X (.UnaryOp op a pos) (tUn r ta):=by
 intro pins s σ H Q I h
 exact UnaryOp_ (thn (ha pins s σ H _ I h) fun v s1 ⟨x,H1,I1,r1,q1⟩=>ho pins s1 σ H1 x v Q I1 r1 q1)
theorem opI {f:Value→Value→Sem Value} {C:Int→Int→Prop} {g:Int→Int→Int}
  (rule:∀(i j:Int) (t u:Tok) (s:Shared) (Q:Value→Shared→Prop) (E:Value→Shared→Prop),C i j→Q (.int (g i j) s.toks) { s with toks:=s.toks+1 }→wpAny (model X.prog X.w) X.A (f (.int i t) (.int j u)) Q E s):
  OpR X f (rI C fun i j=>.int (g i j)):=by
 intro pins s σ H x y v u Q I rx ry h
 obtain ⟨i,j,rfl,rfl,hc,q⟩:=h
 obtain ⟨t,rfl⟩:=rx
 obtain ⟨t',rfl⟩:=ry
 exact rule i j t t' s _ _ hc ⟨.int (g i j),H,I.tok _,⟨_,rfl⟩,q⟩
theorem opI0 {f:Value→Value→Sem Value} {g:Int→Int→Int}
  (rule:∀(i j:Int) (t u:Tok) (s:Shared) (Q:Value→Shared→Prop) (E:Value→Shared→Prop),Q (.int (g i j) s.toks) { s with toks:=s.toks+1 }→wpAny (model X.prog X.w) X.A (f (.int i t) (.int j u)) Q E s):
  OpR X f (rI0 fun i j=>.int (g i j)):=by
 intro pins s σ H x y v u Q I rx ry h
 obtain ⟨i,j,rfl,rfl,q⟩:=h
 obtain ⟨t,rfl⟩:=rx
 obtain ⟨t',rfl⟩:=ry
 exact rule i j t t' s _ _ ⟨.int (g i j),H,I.tok _,⟨_,rfl⟩,q⟩
theorem opB0 {f:Value→Value→Sem Value} {g:Int→Int→Bool}
  (rule:∀(i j:Int) (t u:Tok) (s:Shared) (Q:Value→Shared→Prop) (E:Value→Shared→Prop),Q (.bool (g i j)) s→wpAny (model X.prog X.w) X.A (f (.int i t) (.int j u)) Q E s):
  OpR X f (rI0 fun i j=>.bl (g i j)):=by
 intro pins s σ H x y v u Q I rx ry h
 obtain ⟨i,j,rfl,rfl,q⟩:=h
 obtain ⟨t,rfl⟩:=rx
 obtain ⟨t',rfl⟩:=ry
 exact rule i j t t' s _ _ ⟨.bl (g i j),H,I,rfl,q⟩
def CDiv (i j:Int):Prop:=0 < j∧j < 1073741824
def CPow (i j:Int):Prop:=0≤j∧j≤1000000∧i.natAbs < 2 ^ 64
def CMul (i j:Int):Prop:=(-(2 ^ 64) < i∧i < 2 ^ 64)∨(-(2 ^ 64) < j∧j < 2 ^ 64)
theorem CMul.ok {i j:Int} (h:CMul i j):IntMulOk i j:=by
 rcases h with ⟨h1,h2⟩ | ⟨h1,h2⟩
 ·exact .of_left (intBits_le_64 h1 h2)
 ·exact .of_right (intBits_le_64 h1 h2)
theorem op_add:OpR X (binaryOp .Add) (rI0 fun i j=>.int (i+j)):=opI0 fun _ _ _ _ _ _ _ q=>add_int q
theorem op_sub:OpR X (binaryOp .Sub) (rI0 fun i j=>.int (i - j)):=opI0 fun _ _ _ _ _ _ _ q=>sub_int q
theorem op_mul:OpR X (binaryOp .Mult) (rI CMul fun i j=>.int (i * j)):=opI fun _ _ _ _ _ _ _ hc q=>mul_int q hc.ok
theorem op_fdiv:OpR X (binaryOp .FloorDiv) (rI CDiv fun i j=>.int (i / j)):=opI fun i j _ _ _ _ _ hc q=>by
 have h1:(0:Int) < j:=hc.1
 have h2:j < 1073741824:=hc.2
 exact floordiv_int (by omega) (by rw[Int.fdiv_eq_ediv_of_nonneg i (by omega)]; exact q) (.inl (PyProof.noPylong_small (by omega)))
theorem op_mod:OpR X (binaryOp .Mod) (rI (fun _ j=>0 < j) fun i j=>.int (i % j)):=opI fun i j _ _ _ _ _ hc q=>by
 have h1:(0:Int) < j:=hc
 exact mod_int' (by omega) (by rw[Int.fmod_eq_emod_of_nonneg i (by omega)]; exact q)
theorem op_pow:OpR X (binaryOp .Pow) (rI CPow fun i j=>.int (i ^ j.toNat)):=opI fun _ _ _ _ _ _ _ hc q=>pow_int_small hc.1 hc.2.1 hc.2.2 q
theorem unI {f:Value→Sem Value} {g:Int→Int}
  (rule:∀(i:Int) (t:Tok) (s:Shared) (Q:Value→Shared→Prop) (E:Value→Shared→Prop),Q (.int (g i) s.toks) { s with toks:=s.toks+1 }→wpAny (model X.prog X.w) X.A (f (.int i t)) Q E s):
  UnR X f (rU fun i=>.int (g i)):=by
 intro pins s σ H x v Q I rx h
 obtain ⟨i,rfl,q⟩:=h
 obtain ⟨t,rfl⟩:=rx
 exact rule i t s _ _ ⟨.int (g i),H,I.tok _,⟨_,rfl⟩,q⟩
theorem un_neg:UnR X (unaryOp .USub) (rU fun i=>.int (-i)):=unI fun _ _ _ _ _ q=>neg_int q
end
def scal:V→V→Bool
 | .non,.non=>true | .non,.int _=>true | .int _,.non=>true | .non,.bl _=>true | .bl _,.non=>true | .non,.str _=>true | .str _,.non=>true
 | .int _,.int _=>true | .bl _,.bl _=>true | .str _,.str _=>true | .byt _,.byt _=>true
 | .int _,.str _=>true | .str _,.int _=>true | .bl _,.str _=>true | .str _,.bl _=>true
 | _,_=>false
def rEq:R2:=fun x y H Q=>scal x y=true∧Q (.bl (decide (x=y))) H
def rNe:R2:=fun x y H Q=>scal x y=true∧Q (.bl (!decide (x=y))) H
theorem dec_int {i j:Int}:decide (V.int i=V.int j)=(i == j):=by
 rw[Bool.eq_iff_iff]
 simp
theorem dec_bl {i j:Bool}:decide (V.bl i=V.bl j)=(i == j):=by
 rw[Bool.eq_iff_iff]
 simp
theorem dec_str {i j:Str}:decide (V.str i=V.str j)=(i == j):=by
 rw[Bool.eq_iff_iff]
 simp
theorem dec_byt {i j:Array UInt8}:decide (V.byt i=V.byt j)=(i.toList == j.toList):=by
 rw[Bool.eq_iff_iff]
 cases i
 cases j
 simp
section
variable {X:Cx} {a b c:Expr} {ta tb tc:TE} {pos:Pos}
theorem fin_bl {pins:List (Addr×Obj)} {σ:St} {H:Hp} {s:Shared} {Q:VK} {k k':Bool} (I:Inv X pins σ H s) (q:Q (.bl k) H) (e:k=k'):EP X pins σ Q (.bool k') s:=by
 subst e
 exact ⟨.bl k,H,I,rfl,q⟩
theorem op_eq:OpR X (compareOp .Eq) rEq:=by
 intro pins s σ H x y v u Q I rx ry h
 obtain ⟨hs,q⟩:=h
 cases x with
 | non=>
  cases rx
  cases y with
  | non=>cases ry; exact PySem.EqNone.eq_none_none (fin_bl I q (by simp))
  | bl j=>cases ry; exact PySem.EqNone.eq_none_bool (fin_bl I q (by simp))
  | int j=>obtain ⟨t',rfl⟩:=ry; exact PySem.EqNone.eq_none_int (fin_bl I q (by simp))
  | str j=>obtain ⟨t',rfl⟩:=ry; exact PySem.EqNone.eq_none_str (fin_bl I q (by simp))
  | _=>exact absurd (show false=true from hs) Bool.false_ne_true
 | bl i=>
  cases rx
  cases y with
  | non=>cases ry; exact PySem.EqNone.eq_bool_none (fin_bl I q (by simp))
  | bl j=>cases ry; exact eq_bool (fin_bl I q dec_bl)
  | str j=>obtain ⟨t',rfl⟩:=ry; exact PySem.EqMixed.eq_bool_str (fin_bl I q (by simp))
  | _=>exact absurd (show false=true from hs) Bool.false_ne_true
 | int i=>
  obtain ⟨t,rfl⟩:=rx
  cases y with
  | non=>cases ry; exact PySem.EqNone.eq_int_none (fin_bl I q (by simp))
  | int j=>obtain ⟨t',rfl⟩:=ry; exact eq_int (fin_bl I q dec_int)
  | str j=>obtain ⟨t',rfl⟩:=ry; exact PySem.EqMixed.eq_int_str (fin_bl I q (by simp))
  | _=>exact absurd (show false=true from hs) Bool.false_ne_true
 | str i=>
  obtain ⟨t,rfl⟩:=rx
  cases y with
  | non=>cases ry; exact PySem.EqNone.eq_str_none (fin_bl I q (by simp))
  | bl j=>cases ry; exact PySem.EqMixed.eq_str_bool (fin_bl I q (by simp))
  | int j=>obtain ⟨t',rfl⟩:=ry; exact PySem.EqMixed.eq_str_int (fin_bl I q (by simp))
  | str j=>obtain ⟨t',rfl⟩:=ry; exact eq_str (fin_bl I q dec_str)
  | _=>exact absurd (show false=true from hs) Bool.false_ne_true
 | byt i=>
  obtain ⟨t,rfl⟩:=rx
  cases y with
  | byt j=>obtain ⟨t',rfl⟩:=ry; exact PySem.W.eq_bytes (fin_bl I q dec_byt)
  | _=>exact absurd (show false=true from hs) Bool.false_ne_true
 | _=>cases y <;> exact absurd (show false=true from hs) Bool.false_ne_true
theorem op_ne:OpR X (compareOp .NotEq) rNe:=by
 intro pins s σ H x y v u Q I rx ry h
 obtain ⟨hs,q⟩:=h
 cases x with
 | non=>
  cases rx
  cases y with
  | non=>cases ry; exact PySem.EqNone.ne_none_none (fin_bl I q (by simp))
  | bl j=>cases ry; exact PySem.EqNone.ne_none_bool (fin_bl I q (by simp))
  | int j=>obtain ⟨t',rfl⟩:=ry; exact PySem.EqNone.ne_none_int (fin_bl I q (by simp))
  | str j=>obtain ⟨t',rfl⟩:=ry; exact PySem.EqNone.ne_none_str (fin_bl I q (by simp))
  | _=>exact absurd (show false=true from hs) Bool.false_ne_true
 | bl i=>
  cases rx
  cases y with
  | non=>cases ry; exact PySem.EqNone.ne_bool_none (fin_bl I q (by simp))
  | bl j=>cases ry; exact ne_bool (fin_bl I q (congrArg not dec_bl))
  | str j=>obtain ⟨t',rfl⟩:=ry; exact PySem.EqMixed.ne_bool_str (fin_bl I q (by simp))
  | _=>exact absurd (show false=true from hs) Bool.false_ne_true
 | int i=>
  obtain ⟨t,rfl⟩:=rx
  cases y with
  | non=>cases ry; exact PySem.EqNone.ne_int_none (fin_bl I q (by simp))
  | int j=>obtain ⟨t',rfl⟩:=ry; exact ne_int (fin_bl I q (congrArg not dec_int))
  | str j=>obtain ⟨t',rfl⟩:=ry; exact PySem.EqMixed.ne_int_str (fin_bl I q (by simp))
  | _=>exact absurd (show false=true from hs) Bool.false_ne_true
 | str i=>
  obtain ⟨t,rfl⟩:=rx
  cases y with
  | non=>cases ry; exact PySem.EqNone.ne_str_none (fin_bl I q (by simp))
  | bl j=>cases ry; exact PySem.EqMixed.ne_str_bool (fin_bl I q (by simp))
  | int j=>obtain ⟨t',rfl⟩:=ry; exact PySem.EqMixed.ne_str_int (fin_bl I q (by simp))
  | str j=>obtain ⟨t',rfl⟩:=ry; exact ne_str (fin_bl I q (congrArg not dec_str))
  | _=>exact absurd (show false=true from hs) Bool.false_ne_true
 | byt i=>
  obtain ⟨t,rfl⟩:=rx
  cases y with
  | byt j=>obtain ⟨t',rfl⟩:=ry; exact PySem.W.ne_bytes (fin_bl I q (congrArg not dec_byt))
  | _=>exact absurd (show false=true from hs) Bool.false_ne_true
 | _=>cases y <;> exact absurd (show false=true from hs) Bool.false_ne_true
theorem op_lt:OpR X (compareOp .Lt) (rI0 fun i j=>.bl (decide (i < j))):=opB0 fun _ _ _ _ _ _ _ q=>lt_int q
theorem op_gt:OpR X (compareOp .Gt) (rI0 fun i j=>.bl (decide (j < i))):=opB0 fun _ _ _ _ _ _ _ q=>gt_int q
theorem op_isN:OpR X (compareOp .Is) (fun x y H Q=>y=.non∧Q (.bl (decide (x=.non))) H):=by
 intro pins s σ H x y v u Q I rx ry h
 obtain ⟨rfl,q⟩:=h
 cases ry
 refine is_none_gen (fin_bl I q ?_)
 cases x <;> first
  | (cases rx; rfl)
  | (obtain ⟨t,rfl⟩:=rx; rfl)
theorem op_notN:OpR X (compareOp .IsNot) (fun x y H Q=>y=.non∧Q (.bl (!decide (x=.non))) H):=by
 intro pins s σ H x y v u Q I rx ry h
 obtain ⟨rfl,q⟩:=h
 cases ry
 refine isnot_none_gen (fin_bl I q ?_)
 cases x <;> first
  | (cases rx; rfl)
  | (obtain ⟨t,rfl⟩:=rx; rfl)
theorem nomark (b:Expr) {op:CmpOp} (h:op≠.In:=by decide) (h2:op≠.NotIn:=by decide):behindInMarks op b=false:=by
 have e1:(op == CmpOp.In)=false:=by cases op <;> first | rfl | exact absurd rfl h
 have e2:(op == CmpOp.NotIn)=false:=by cases op <;> first | rfl | exact absurd rfl h2
 cases b <;> simp[behindInMarks,e1,e2]
theorem pe_cmpR {op:CmpOp} {r:R2} (ho:OpR X (compareOp op) r) (ha:PE X a ta) (hb:PE X b tb) (hm:behindInMarks op b=false):PE X (.Compare a [op] [b] pos) (tOp r ta tb):=by
 intro pins s σ H Q I h
 exact wpAny_Compare1 (binT ha hb I h fun v u s2 x y H2 I2 rx ry q=>ho pins s2 σ H2 x y v u Q I2 rx ry q) hm
def tTest (t:TE):TT:=fun σ H Q=>t σ H fun x H'=>∃k,x=.bl k∧Q k H'
theorem pt_cmpR {op:CmpOp} {r:R2} (ho:OpR X (compareOp op) r) (ha:PE X a ta) (hb:PE X b tb) (hm:behindInMarks op b=false):PT X (.Compare a [op] [b] pos) (tTest (tOp r ta tb)):=by
 intro pins s σ H Q I h
 refine wpAny_isTrue_Compare1 (thn (ha pins s σ H _ I h) fun v s1 ⟨x,H1,I1,r1,q1⟩=>thn (hb pins s1 σ H1 _ I1 q1) fun u s2 ⟨y,H2,I2,r2,q2⟩=>
  thn (ho pins s2 σ H2 x y v u _ I2 r1 r2 q2) fun c s3 ⟨z,H3,I3,r3,k,e,q3⟩=>?_) hm
 subst e
 cases r3
 exact wpAny_truthy_bool ⟨H3,I3,q3⟩
theorem line63:(sizeLine:Nat) < 2 ^ 63:=by rw[sizeLine_eq]; decide
theorem op_add_str:OpR X (binaryOp .Add) (fun x y H Q=>∃i j,x=.str i∧y=.str j∧i.length+j.length≤sizeLine∧Q (.str (i++j)) H):=by
 intro pins s σ H x y v u Q I rx ry h
 obtain ⟨i,j,rfl,rfl,hz,q⟩:=h
 obtain ⟨t,rfl⟩:=rx
 obtain ⟨t',rfl⟩:=ry
 exact add_str (fun t' tk=>⟨.str (i++j),H,I.tok _,⟨_,rfl⟩,q⟩) hz
theorem vals1 {x:V} {us:List Value} (r:Vals [x] us):∃u,us=[u]∧RelV x u:=by
 cases r with
 | cons r1 r2=>cases r2; exact ⟨_,rfl,r1⟩
theorem vals2 {x y:V} {us:List Value} (r:Vals [x,y] us):∃u w',us=[u,w']∧RelV x u∧RelV y w':=by
 cases r with
 | cons r1 r2=>
  cases r2 with
  | cons r3 r4=>cases r4; exact ⟨_,_,rfl,r1,r3⟩
theorem call_min2 (hc:X.calm=true):CallR X (.builtin "min") (fun xs H Q=>∃i j,xs=[.int i,.int j]∧Q (.int (if j < i then j else i)) H):=by
 intro pins s σ H xs us Q I r h
 obtain ⟨i,j,rfl,q⟩:=h
 obtain ⟨u,w',rfl,⟨t,rfl⟩,⟨t',rfl⟩⟩:=vals2 r
 refine min_two_ints (I.ok.hd hc) fun h' tk k=>⟨_,H,I.kept k,?_,q⟩
 by_cases hj:j < i
 ·rw[if_pos hj,if_pos hj]; exact ⟨_,rfl⟩
 ·rw[if_neg hj,if_neg hj]; exact ⟨_,rfl⟩
theorem call_int1:CallR X (.type "int") (fun xs H Q=>(∃i,xs=[.int i]∧Q (.int i) H)∨∃k,xs=[.bl k]∧Q (.int (if k then 1 else 0)) H):=by
 intro pins s σ H xs us Q I r h
 rcases h with ⟨i,rfl,q⟩ | ⟨k,rfl,q⟩
 ·obtain ⟨u,rfl,t,rfl⟩:=vals1 r
  exact call_int_int ⟨.int i,H,I,⟨_,rfl⟩,q⟩
 ·obtain ⟨u,rfl,r1⟩:=vals1 r
  cases r1
  exact call_int_bool ⟨.int (if k then 1 else 0),H,I.tok _,⟨_,rfl⟩,q⟩
theorem call_str_int:CallR X (.type "str") (fun xs H Q=>∃i,xs=[.int i]∧i.natAbs.log2 < 1920∧Q (.str (toString i)) H):=by
 intro pins s σ H xs us Q I r h
 obtain ⟨i,rfl,hz,q⟩:=h
 obtain ⟨u,rfl,t,rfl⟩:=vals1 r
 exact PySem.P.str_of_int hz ⟨.str _,H,I.tok _,⟨_,rfl⟩,q⟩
end
end L2
namespace L2
open PySem PySem.Spec PyProof.Rows
structure ObjM (h:Heap) (x dx C:Addr) (mA:Str→Option Value):Prop where
 obj:h.get? x=some (PySem.W.instObj C dx)
 ns:h.Ns1 dx mA
 ne:dx≠x
theorem lookIn_ns {h:Heap} {dx:Addr} {mA:Str→Option Value} (n:h.Ns1 dx mA):∃od,h.get? dx=some od∧∀name,PySem.W.lookIn name od=some (mA name):=by
 obtain ⟨o,es,ep,ho,hd,hk,_,hm⟩:=n
 refine ⟨o,ho,fun name=>?_⟩
 have e:=hm name
 unfold nsFind findBy at e
 rw[← Array.find?_toList] at e
 unfold PySem.W.lookIn
 rw[hd]
 dsimp only
 split
 ·rename_i y q
  rw[q] at e
  exact congrArg some e
 ·rename_i q
  rw[q] at e
  have a:es.toList.any (·.refKey)=false:=by
   rw[List.any_eq_false]
   intro y hy
   obtain ⟨z,t,hkey⟩:=hk y (Array.mem_toList_iff.mp hy)
   simp[DictEntry.refKey,hkey]
  have a':¬es.toList.any (·.refKey)=true:=by rw[a]; exact Bool.false_ne_true
  rw[if_neg a']
  exact congrArg some e
theorem ObjM.look {h:Heap} {x dx C:Addr} {mA:Str→Option Value} (I:ObjM h x dx C mA):∃od,PySem.W.InstAt h x (PySem.W.instObj C dx) C (some od)∧∀name,PySem.W.lookIn name od=some (mA name):=
 let ⟨od,ho,hl⟩:=lookIn_ns I.ns
 ⟨od,⟨I.obj,rfl,rfl,ho⟩,hl⟩
section
variable {prog:Program} {w:World} {A:Around} {E:Value→Shared→Prop} {s:Shared} {K:PySem.W.Frag} {x dx C f:Addr} {mA:Str→Option Value} {name:Str} {v:Value}
theorem get_map {expr:Bool} {Q:Value→Shared→Prop} (X:K.In s.heap) (I:ObjM s.heap x dx C mA) (hg:PySem.W.plainGet K C name=true) (hh:PySem.W.hasDictIn K C=true)
  (ha:PySem.W.findIn K (.ref C) name=some none) (hv:mA name=some v) (hv':PySem.W.handedIn v=true) (h:Q v { s with toks:=s.toks+1 }):
  wpAny (model prog w) A (getAttr (.ref x) name expr) Q E s:=by
 obtain ⟨od,J,hl⟩:=I.look
 exact PySem.W.get_value X J (PySem.W.plainGet_of hg).1 (PySem.W.findObj_own hh ha rfl (by rw[hl,hv])) hv' h
theorem set_map {ns:List Str} {Q:Unit→Shared→Prop} (X:K.In s.heap) (I:ObjM s.heap x dx C mA)
  (hs:PySem.W.findIn K (.ref C) "__setattr__"=some (some (.builtin "object.__setattr__"))) (hp:PySem.W.plainOver K C=true) (ht:PySem.W.takerIn K C name=some none) (hh:PySem.W.hasDictIn K C=true)
  (hw:PySem.Within mA ns) (hsz:ns.length≤sizeLine)
  (h:∀h',ObjM h' x dx C (fun y=>if y=name then some v else mA y)→Heap.SameBut dx s.heap h'→Q () { s with heap:=h',toks:=s.toks+2 }):
  wpAny (model prog w) A (setAttr (.ref x) name v) Q E s:=by
 obtain ⟨od,J,hl⟩:=I.look
 refine PySem.W.set_plain X J hs (PySem.W.osa_open (s:={ s with toks:=s.toks+1 }) (r:=none) X J hp ht fun b=>?_)
 obtain ⟨cd,hc,hd'⟩:=PySem.W.any_some hh
 have hx:s.heap.get? x=some ⟨.ref C,some dx,.plain,#[]⟩:=I.obj
 refine wpAny_bind (wpAny_pure (wpAny_bind (wpAny_bind (wpAny_loadPart hx (wpAny_bind (PySem.W.Looks.here (s:={ s with toks:=s.toks+1 }) (PySem.W.looks_clsIn X hc) ?_))))))
 rw[hd']
 refine wpAny_pure (a:=some dx) (wpAny_bind (wpAny_pure (wpAny_bind ?_)))
 refine wpAny_nsSet1 (s:={ s with toks:=s.toks+1 }) I.ns fun h' hn2 hs2=>?_
 obtain ⟨oD,esD,epD,hoD,hdD,hcD⟩:=hn2.count (PySem.Within.cons name v hw)
 refine wpAny_bind (wpAny_lookBehind hoD (by rw[hdD]; exact pastItsLine_dict (Nat.le_trans hcD (by rw[List.length_cons]; omega))) ?_)
 exact wpAny_pure (h _ ⟨(hs2.2 _ (Ne.symm I.ne)).trans I.obj,hn2,I.ne⟩ hs2)
theorem make_map {R:Result→Shared→Prop} {vs:List Value} {kw:List (Str×Value)} (X:K.In s.heap) (hm:PySem.W.makesIn K C=true)
  (hi:PySem.W.findIn K (.ref C) "__init__"=some (some (.ref f))) (hf:PySem.W.typeIn K (.ref f)=some (.type "function"))
  (h:codeAny (model prog w) (A.under (.builtin "type.__call__" ⟨.ref C::vs,kw⟩)) (.call (.ref f) ⟨.ref (s.heap.objs.size+1)::vs,kw⟩) (PySem.W.InitBack (s.heap.objs.size+1) R)
   { s with heap:=(s.heap.push PySem.W.emptyDict).push (PySem.W.instObj C s.heap.objs.size) }):
  codeAny (model prog w) A (.call (.ref C) ⟨vs,kw⟩) R s:=by
 obtain ⟨hh,g,d,t,os⟩:=s
 exact PySem.W.make_core (PySem.W.makes_of X hm) (PySem.W.looks_findIn X hi) (fun self=>PySem.W.bind_fn X self hf) (.inl rfl) h
end
def putF (f:Str) (v:V):List (Str×V)→List (Str×V)
 | []=>[(f,v)]
 | (g,x)::r=>if g=f then (g,v)::r else (g,x)::putF f v r
theorem lookup_putF (f g:Str) (v:V):∀fs:List (Str×V),(putF f v fs).lookup g=if g=f then some v else fs.lookup g
 | []=>by
  show List.lookup g [(f,v)]=_
  by_cases h:g=f
  ·have hb:(g == f)=true:=beq_iff_eq.mpr h
   simp only [List.lookup,hb,if_pos h]
  ·have hb:(g == f)=false:=beq_eq_false_iff_ne.mpr h
   simp only [List.lookup,hb,if_neg h]
 | (k,x)::r=>by
  have ih:=lookup_putF f g v r
  rw[show putF f v ((k,x)::r)=(if k=f then (k,v)::r else (k,x)::putF f v r) from rfl]
  by_cases hk:k=f
  ·rw[if_pos hk]
   by_cases h:g=k
   ·have hb:(g == k)=true:=beq_iff_eq.mpr h
    simp only [List.lookup,hb,if_pos (h.trans hk)]
   ·have hb:(g == k)=false:=beq_eq_false_iff_ne.mpr h
    simp only [List.lookup,hb,if_neg (fun e:g=f=>h (e.trans hk.symm))]
  ·rw[if_neg hk]
   by_cases h:g=k
   ·have hb:(g == k)=true:=beq_iff_eq.mpr h
    simp only [List.lookup,hb,if_neg (fun e:g=f=>hk (h.symm.trans e))]
   ·have hb:(g == k)=false:=beq_eq_false_iff_ne.mpr h
    simp only [List.lookup,hb]
    exact ih
theorem keys_putF (f:Str) (v:V):∀fs:List (Str×V),f∈(putF f v fs).map (·.1)∧∀g,g∈fs.map (·.1)→g∈(putF f v fs).map (·.1)
 | []=>⟨by simp[putF],fun g h=>by simp at h⟩
 | (k,x)::r=>by
  obtain ⟨i1,i2⟩:=keys_putF f v r
  rw[show putF f v ((k,x)::r)=(if k=f then (k,v)::r else (k,x)::putF f v r) from rfl]
  by_cases hk:k=f
  ·rw[if_pos hk]
   subst hk
   exact ⟨by simp,fun g h=>by simpa using h⟩
  ·rw[if_neg hk]
   refine ⟨?_,fun g h=>?_⟩
   ·rw[List.map_cons]
    exact List.mem_cons_of_mem _ i1
   ·rw[List.map_cons] at h ⊢
    rcases List.mem_cons.mp h with e | e
    ·exact List.mem_cons.mpr (.inl e)
    ·exact List.mem_cons_of_mem _ (i2 g e)
theorem length_putF (f:Str) (v:V):∀fs:List (Str×V),(putF f v fs).length≤fs.length+1
 | []=>by simp[putF]
 | (k,x)::r=>by
  have ih:=length_putF f v r
  rw[show putF f v ((k,x)::r)=(if k=f then (k,v)::r else (k,x)::putF f v r) from rfl]
  by_cases hk:k=f
  ·rw[if_pos hk,List.length_cons,List.length_cons]; omega
  ·rw[if_neg hk,List.length_cons,List.length_cons]; omega
theorem RelO.some_of {v:V} {o:Option Value} (r:RelO (some v) o):∃u,o=some u∧RelV v u:=by
 cases o with
 | none=>exact (show False from r).elim
 | some u=>exact ⟨u,rfl,r⟩
theorem handed_of {v:V} {u:Value} (r:RelV v u):PySem.W.handedIn u=true:=by
 cases v with
 | non=>cases (show u=Value.none from r); rfl
 | bl b=>cases (show u=Value.bool b from r); rfl
 | int i=>obtain ⟨t,e⟩:=(show ∃t,u=Value.int i t from r); cases e; rfl
 | str x=>obtain ⟨t,e⟩:=(show ∃t,u=Value.str x t from r); cases e; rfl
 | byt b=>obtain ⟨t,e⟩:=(show ∃t,u=Value.bytes b t from r); cases e; rfl
 | flt b=>obtain ⟨t,e⟩:=(show ∃t,u=Value.float b t from r); cases e; rfl
 | ref a=>cases (show u=Value.ref a from r); rfl
 | ty n=>cases (show u=Value.type n from r); rfl
section
variable {P:Program} {w:World} {H H':Hp} {h h':Heap} {a C dx:Addr} {fs fs':List (Str×V)}
theorem ins_get (hok:HOk P w H h) (e:H a=some (.ins C dx fs)):∃mA,ObjM h a dx C mA∧(∀f,RelO (fs.lookup f) (mA f))∧PySem.Within mA (fs.map (·.1))∧fs.length≤1000∧H dx=some (.own a):=by
 obtain ⟨d,z,ne,ob,mA,n,r,q⟩:=(show ObjOk P w H h a (.ins C dx fs) from hok a _ e)
 exact ⟨mA,⟨ob,n,ne⟩,r,q,z,d⟩
end
structure Cls (K:PySem.W.Frag) (C:Addr):Prop where
 pg:PySem.W.plainGet K C Str.empty=true
 hd:PySem.W.hasDictIn K C=true
 po:PySem.W.plainOver K C=true
 sa:PySem.W.findIn K (.ref C) "__setattr__"=some (some (.builtin "object.__setattr__"))
theorem Cls.get {K:PySem.W.Frag} {C:Addr} (c:Cls K C) (f:Str):PySem.W.plainGet K C f=true:=c.pg
def NoAttr (K:PySem.W.Frag) (C:Addr) (f:Str):Prop:=PySem.W.findIn K (.ref C) f=some none
theorem NoAttr.taker {K:PySem.W.Frag} {C:Addr} {f:Str} (n:NoAttr K C f):PySem.W.takerIn K C f=some none:=by
 unfold PySem.W.takerIn
 rw[show PySem.W.findIn K (.ref C) f=some none from n]
 rfl
section
variable {X:Cx} {pins:List (Addr×Obj)} {σ:St} {H:Hp} {s:Shared} {a C dx:Addr} {fs:List (Str×V)} {f:Str} {v:V} {A:Around} {E:Value→Shared→Prop}
theorem getattr_ok {b:Bool} {Q:Value→Shared→Prop} (I:Inv X pins σ H s) (e:H a=some (.ins C dx fs)) (c:Cls X.K C) (n:NoAttr X.K C f) (l:fs.lookup f=some v)
  (h:∀u s',Inv X pins σ H s'→RelV v u→Q u s'):wpAny (model X.prog X.w) A (getAttr (.ref a) f b) Q E s:=by
 obtain ⟨mA,O,r,_,_,_⟩:=ins_get I.hok e
 obtain ⟨u,hu,ru⟩:=RelO.some_of (v:=v) (o:=mA f) (by rw[← l]; exact r f)
 exact get_map I.kIn O (c.get f) c.hd n hu (handed_of ru) (h u _ (I.tok _) ru)
theorem setattr_ok {y:V} {u:Value} {Q:Unit→Shared→Prop} (I:Inv X pins σ H s) (e:H a=some (.ins C dx fs)) (c:Cls X.K C) (n:NoAttr X.K C f) (hl:fs.length < 1000) (ry:RelV y u)
  (h:∀s',Inv X pins σ (upd H a (.ins C dx (putF f y fs))) s'→Q () s'):wpAny (model X.prog X.w) A (setAttr (.ref a) f u) Q E s:=by
 obtain ⟨mA,O,r,wi,_,ho⟩:=ins_get I.hok e
 have hz:(fs.map (·.1)).length≤sizeLine:=by rw[List.length_map,sizeLine_eq]; omega
 refine set_map I.kIn O c.sa c.po n.taker c.hd wi hz fun h' O' sb=>h _ ?_
 have hd:∃o,h'.get? dx=some o:=let ⟨o,_,_,e',_⟩:=O'.ns; ⟨o,e'⟩
 refine I.write (x:=a) (e:=dx) (by rw[e]; exact True.intro) (.inr ho) (fun b q hb z=>(sb.2 b hb).trans z) hd ?_
 refine ⟨by rw[upd_ne O.ne]; exact ho,?_,O.ne,O'.obj,_,O'.ns,fun g=>?_,fun g hg=>?_⟩
 ·have:=length_putF f y fs; omega
 ·show RelO ((putF f y fs).lookup g) (if g=f then some u else mA g)
  rw[lookup_putF]
  by_cases q:g=f
  ·rw[if_pos q,if_pos q]; exact ry
  ·rw[if_neg q,if_neg q]; exact r g
 ·by_cases q:g=f
  ·rw[q]; exact (keys_putF f y fs).1
  ·refine (keys_putF f y fs).2 g (wi g fun z=>hg ?_)
   show (if g=f then some u else mA g)=none
   rw[if_neg q]; exact z
theorem Inv.made (I:Inv X pins σ H s):Inv X pins σ (upd (upd H s.heap.objs.size (.own (s.heap.objs.size+1))) (s.heap.objs.size+1) (.ins C s.heap.objs.size []))
  { s with heap:=(s.heap.push PySem.W.emptyDict).push (PySem.W.instObj C s.heap.objs.size) }:=by
 have e1:(s.heap.push PySem.W.emptyDict).get? s.heap.objs.size=some PySem.W.emptyDict:=Heap.get?_push_size s.heap rfl
 have e2:((s.heap.push PySem.W.emptyDict).push (PySem.W.instObj C s.heap.objs.size)).get? (s.heap.objs.size+1)=some (PySem.W.instObj C s.heap.objs.size):=by
  have:=Heap.get?_push_size (s.heap.push PySem.W.emptyDict) (o:=PySem.W.instObj C s.heap.objs.size) rfl
  rwa [Heap.size_push] at this
 have e3:(s.heap.push PySem.W.emptyDict).Ns s.heap.objs.size (fun _=>none):=⟨PySem.W.emptyDict,#[],_,e1,rfl,(fun e he=>absurd he (by simp)),fun _=>rfl⟩
 have I1:=I.laid (a:=s.heap.objs.size) (o:=.own (s.heap.objs.size+1)) (h':=s.heap.push PySem.W.emptyDict) (t':=s.toks) (fun b u q=>Heap.get?_push_of_some _ q) (Nat.le_refl _) ⟨_,e1⟩
 refine I1.laid (a:=s.heap.objs.size+1) (o:=.ins C s.heap.objs.size []) (t':=s.toks) (fun b u q=>Heap.get?_push_of_some _ q) (Nat.le_of_eq (Heap.size_push _ _)) ?_
 have ne:s.heap.objs.size≠s.heap.objs.size+1:=Nat.ne_of_lt (Nat.lt_succ_self _)
 refine ⟨by rw[upd_ne ne,upd_same],Nat.zero_le _,ne,e2,fun _=>none,(Heap.Ns1.of_empty e3).at fun o q=>Heap.get?_push_of_some _ q,fun _=>True.intro,fun y hy=>absurd rfl hy⟩
theorem attr_of {prog:Program} {w:World} {env:Env} {e:Expr} {f:Str} {pos:Pos} {s:Shared} {Q:Value→Shared→Prop} (hb:attributeBase e f env (eval e env)=eval e env)
  (h:wpAny (model prog w) A (eval e env) (fun o s₁=>wpAny (model prog w) A (getAttr o f true) Q E s₁) E s):wpAny (model prog w) A (eval (.Attribute e f pos) env) Q E s:=
 Attribute_any_ h (by rw[arm_eval_Attribute,hb])
end
def tFld (K:PySem.W.Frag) (ta:TE) (f:Str):TE:=fun σ H Q=>ta σ H fun x H1=>∃a C dx fs v,x=.ref a∧H1 a=some (.ins C dx fs)∧Cls K C∧NoAttr K C f∧fs.lookup f=some v∧Q v H1
def sFld (K:PySem.W.Frag) (ta tv:TE) (f:Str):TS:=fun D σ H=>tv σ H fun y H1=>ta σ H1 fun x H2=>∃a C dx fs,x=.ref a∧H2 a=some (.ins C dx fs)∧Cls K C∧NoAttr K C f∧fs.length < 1000∧
 D.nx σ (upd H2 a (.ins C dx (putF f y fs)))
section
variable {X:Cx} {o e value:Expr} {f:Str} {pos pos' tpos:Pos} {ta tv:TE}
theorem pe_fld (he:PE X e ta) (hb:attributeBase e f X.env (eval e X.env)=eval e X.env):PE X (.Attribute e f pos) (tFld X.K ta f):=by
 intro pins s σ H Q I h
 refine attr_of hb (thn (he pins s σ H _ I h) fun u s1 ⟨x,H1,I1,rx,a,C,dx,fs,v,ex,ea,c,n,l,q⟩=>?_)
 subst ex
 obtain rfl:u=Value.ref a:=rx
 exact getattr_ok I1 ea c n l fun u' s2 I2 ru=>⟨v,H1,I2,ru,q⟩
theorem ps_fld (ha:PE X o ta) (hv:PE X value tv) (hs:swapsWith value (some (.Attribute o f pos')) pos.line X.env=pure false):PS X (.Assign [.Attribute o f pos'] value pos) (sFld X.K ta tv f):=by
 intro pins s σ H D I h
 refine plainObj_wpAny_Assign_Attribute (thn (hv pins s σ H _ I h) fun u s1 ⟨y,H1,I1,ry,q⟩=>thn (ha pins s1 σ H1 _ I1 q) fun ov s2 ⟨x,H2,I2,rx,a,C,dx,fs,ex,ea,c,n,l,q2⟩=>?_) hs
 subst ex
 obtain rfl:ov=Value.ref a:=rx
 exact setattr_ok I2 ea c n l ry fun s3 I3=>⟨σ,_,I3,q2⟩
end
section
variable {X:Cx} {pins:List (Addr×Obj)} {σ:St} {H:Hp} {s:Shared} {A:Around} {E:Value→Shared→Prop} {Q:Value→Shared→Prop} {c:Value} {b:Bool}
end
end L2
namespace L2
open PySem PySem.Spec PyProof.Rows
structure Room (k:Nat) (A:Around):Prop where
 hd:A.handled=none
 dp:A.depth+3 * k+5 < recursionLimit
 un:A.units+16 * k+200 < cLine
 gd:A.guards=some []
theorem Room.mono {j k:Nat} {A:Around} (r:Room k A) (h:j≤k):Room j A:=⟨r.hd,by have:=r.dp; omega,by have:=r.un; omega,r.gd⟩
theorem Room.deeper {k:Nat} {A:Around} (r:Room (k+1) A) (env:Env):Room k (A.deeper env):=
 ⟨r.hd,by have:=r.dp; show A.depth+1+3 * k+5 < _; omega,by have:=r.un; show A.units+3+16 * k+200 < _; omega,r.gd⟩
theorem make_depth {A:Around} {C:Addr} {us:List Value} {kw:List (Str×Value)}:(A.under (.builtin "type.__call__" ⟨.ref C::us,kw⟩)).depth=A.depth+1:=by
 first | rfl | simp[Around.under,Code.weight,Code.isCreation,Code.isGuard,Code.isCaller,Code.frames,Code.isFrame,guardIds]
theorem make_units {A:Around} {C:Addr} {us:List Value} {kw:List (Str×Value)}:(A.under (.builtin "type.__call__" ⟨.ref C::us,kw⟩)).units=A.units+1:=by
 first | rfl | simp[Around.under,Code.cUnits,Code.frames,Code.isFrame]
theorem Room.make {k:Nat} {A:Around} (r:Room (k+1) A) (C:Addr) (us:List Value) (kw:List (Str×Value)):Room k (A.under (.builtin "type.__call__" ⟨.ref C::us,kw⟩)):=
 ⟨r.hd,by have:=r.dp; rw[make_depth]; omega,by have:=r.un; rw[make_units]; omega,r.gd⟩
theorem Room.depth {k:Nat} {A:Around} (r:Room k A):A.depth < recursionLimit:=by have:=r.dp; omega
theorem Room.units {k:Nat} {A:Around} (r:Room k A):A.units+64 < cLine:=by have:=r.un; omega
def tNil:TA:=fun _ H Q=>Q [] H
def tCons (ta:TE) (tr:TA):TA:=fun σ H Q=>ta σ H fun x H1=>tr σ H1 fun xs H2=>Q (x::xs) H2
section
variable {X:Cx} {e:Expr} {es:List Expr} {te:TE} {t:TA} {pos:Pos}
theorem pa_nil:PA X [] tNil:=fun _ _ _ _ H Q I h=>Calls.spliced_nil ⟨[],H,I,.nil,h⟩
theorem pa_cons (ha:PE X e te) (hr:PA X es t) (hs:starEach (e::es) X.env=(false,eval e X.env)::starEach es X.env:=by rfl):PA X (e::es) (tCons te t):=by
 intro pos pins s σ H Q I h
 rw[hs]
 show wpAny _ _ (spliced ((false,eval e X.env)::backTo pos (starEach es X.env))) _ _ s
 refine Calls.spliced_cons (thn (ha pins s σ H _ I h) fun u s1 ⟨x,H1,I1,r1,q1⟩=>?_)
 exact thn (hr pos pins s1 σ H1 _ I1 q1) fun us s2 ⟨xs,H2,I2,r2,q2⟩=>⟨x::xs,H2,I2,.cons r1 r2,q2⟩
def tTup (t:TA):TE:=fun σ H Q=>t σ H fun xs H1=>xs.length≤sizeLine∧∀p,H1 p=none→Q (.ref p) (upd H1 p (.tup xs))
def tLst (t:TA):TE:=fun σ H Q=>t σ H fun xs H1=>xs.length≤sizeLine∧∀p,H1 p=none→Q (.ref p) (upd H1 p (.lst xs))
theorem pe_tup {x1} (h:PA X es t):PE X (.Tuple es x1 pos) (tTup t):=by
 intro pins s σ H Q I hq
 refine wpAny_Tuple_spliced (thn (h pos pins s σ H _ I hq) fun us s1 ⟨xs,H1,I1,r,z,q⟩=>⟨by rw[← r.length]; exact z,?_⟩)
 have hf:H1 s1.heap.objs.size=none:=I1.hok.fresh (Nat.le_refl _)
 refine ⟨.ref s1.heap.objs.size,upd H1 s1.heap.objs.size (.tup xs),I1.laid (t':=s1.toks) (fun b u e=>Heap.get?_push_of_some _ e) (Nat.le_refl _) ?_,rfl,q _ hf⟩
 exact ⟨z,us,r,⟨_,Heap.get?_push_size _ rfl,rfl,_,rfl⟩⟩
theorem pe_lst (h:PA X es t):PE X (.List es pos) (tLst t):=by
 intro pins s σ H Q I hq
 refine wpAny_List_spliced (thn (h pos pins s σ H _ I hq) fun us s1 ⟨xs,H1,I1,r,z,q⟩=>⟨by rw[← r.length]; exact z,?_⟩)
 have hf:H1 s1.heap.objs.size=none:=I1.hok.fresh (Nat.le_refl _)
 refine ⟨.ref s1.heap.objs.size,upd H1 s1.heap.objs.size (.lst xs),I1.laid (t':=s1.toks) (fun b u e=>Heap.get?_push_of_some _ e) (Nat.le_refl _) ?_,rfl,q _ hf⟩
 exact ⟨z,us,0,r,Heap.get?_push_size _ rfl⟩
end
abbrev Sp:=List V→Hp→VK→XK→Prop
abbrev CXT:=List Env→Hp→Shared→XK→Value→Shared→Prop
structure Env0 (P:Program) (w:World) (K:PySem.W.Frag) (mg:Str→Option Value) (base:Heap) (A:Around) (outer:List Env) (s:Shared) (H:Hp):Prop where
 frames:A.frames=some outer
 mod:Mod K mg base
 bs:∀b o,base.get? b=some o→s.heap.get? b=some o∧H b=none
 bsz:base.objs.size≤s.heap.objs.size
 funs:s.heap.FunFrames base outer
 frf:∀b∈frs outer,H b=none
 hok:HOk P w H s.heap
 bare:AllBare s.gens
def CE (outer:List Env) (P:Program) (w:World) (H:Hp) (s:Shared) (Q:VK) (u:Value) (s':Shared):Prop:=
 ∃v H',s'.os=s.os∧AllBare s'.gens∧Un (frs outer) [] H H' s.heap s'.heap∧HOk P w H' s'.heap∧RelV v u∧Q v H'
def CR (CX:CXT) (outer:List Env) (P:Program) (w:World) (H:Hp) (s:Shared) (Q:VK) (E:XK) (r:Result) (s':Shared):Prop:=
 match r with
 | .ok (.ret u)=>CE outer P w H s Q u s'
 | .ok _=>False
 | .error e=>CX outer H s E e s'
structure FnOk (P:Program) (w:World) (K:PySem.W.Frag) (mg:Str→Option Value) (base:Heap) (CX:CXT) (k:Nat) (f:Addr) (fd:FuncData) (ps:List Str) (sp:Sp):Prop where
 len:∀vs H Q E,sp vs H Q E→vs.length=ps.length
 run:∀(A:Around) (outer:List Env) (s:Shared) (H:Hp) (args:Args) (us:List Value) (vs:List V) (Q:VK) (E:XK),Room k A→Env0 P w K mg base A outer s H→BindsTo s fd args (ps.zip us)→Vals vs us→sp vs H Q E→
  codeAny (model P w) A (.call (.ref f) args) (CR CX outer P w H s Q E) s
theorem FnOk.mono {P:Program} {w:World} {K:PySem.W.Frag} {mg:Str→Option Value} {base:Heap} {CX:CXT} {j k:Nat} {f:Addr} {fd:FuncData} {ps:List Str} {sp:Sp} (F:FnOk P w K mg base CX j f fd ps sp) (h:j≤k):
  FnOk P w K mg base CX k f fd ps sp:=⟨F.len,fun A outer s H args us vs Q E hr=>F.run A outer s H args us vs Q E (hr.mono h)⟩
theorem Env0.make {P:Program} {w:World} {K:PySem.W.Frag} {mg:Str→Option Value} {base:Heap} {A:Around} {outer:List Env} {s:Shared} {H:Hp} (e:Env0 P w K mg base A outer s H) (C:Addr) (us:List Value) (kw:List (Str×Value)):
  Env0 P w K mg base (A.under (.builtin "type.__call__" ⟨.ref C::us,kw⟩)) outer s H:=⟨by first | exact e.frames | (simpa [Around.under,Code.envs,Code.isFrame,pushEnvs] using e.frames),e.mod,e.bs,e.bsz,e.funs,e.frf,e.hok,e.bare⟩
section
variable {X:Cx} {pins:List (Addr×Obj)} {σ:St} {H:Hp} {s s':Shared}
theorem Inv.env0 (I:Inv X pins σ H s):Env0 X.prog X.w X.K X.mg X.base X.A X.stack s H:=
 ⟨I.ok.frames,I.ok.mod,I.bs,Nat.le_trans I.ok.bsz I.sz,I.stack,I.stkFree,I.hok,I.bare⟩
theorem Inv.after {Q:VK} {u:Value} (I:Inv X pins σ H s) (h:CE X.stack X.prog X.w H s Q u s'):EP X pins σ Q u s':=by
 obtain ⟨v,H',os,bare,un,hok,r,q⟩:=h
 obtain ⟨hh,g,d,t,os'⟩:=s'
 obtain rfl:os'=s.os:=os
 exact ⟨v,H',I.call (h':=hh) (g':=g) (d':=d) (t':=t) (ch:=[]) un hok bare (fun b z=>absurd z (by simp)),r,q⟩
end
def tCall (sp:Sp) (dvs:List V) (E:XK) (t:TA):TE:=fun σ H Q=>t σ H fun vs H1=>sp (vs++dvs) H1 Q E
def tMake (C:Addr) (sp:Sp) (dvs:List V) (E:XK) (t:TA):TE:=fun σ H Q=>t σ H fun vs H1=>∀x dx,H1 x=none→H1 dx=none→dx≠x→
 sp (.ref x::(vs++dvs)) (upd (upd H1 dx (.own x)) x (.ins C dx [])) (fun v H2=>v=.non∧Q (.ref x) H2) E
def Binds (K:PySem.W.Frag) (fd:FuncData) (ps:List Str) (ds:List Value):Prop:=
 ∀(s:Shared) (us:List Value),K.In s.heap→(us++ds).length=ps.length→BindsTo s fd ⟨us,[]⟩ (ps.zip (us++ds))
theorem Binds.all {K:PySem.W.Frag} {fd:FuncData} {ps:List Str} (h:∀us:List Value,us.length=ps.length→bindArgs fd ⟨us,[]⟩=pure (ps.zip us)):Binds K fd ps []:=fun s us _ hl=>by
 rw[List.append_nil] at hl ⊢
 exact .of_eq (h us hl)
def Passes (CX:CXT) (X:Cx) (E:XK):Prop:=∀(pins:List (Addr×Obj)) (σ:St) (H:Hp) (s:Shared) (e:Value) (s':Shared),Inv X pins σ H s→CX X.stack H s E e s'→X.xe e s'
section
variable {X:Cx} {CX:CXT} {k:Nat} {f C:Addr} {fd:FuncData} {ps:List Str} {sp:Sp} {dvs:List V} {ds:List Value} {E:XK} {x m:Str} {p pos apos:Pos} {e o:Expr} {es:List Expr} {ta:TE} {t:TA}
theorem run_fn {pins:List (Addr×Obj)} {σ:St} {H:Hp} {s:Shared} {Q:VK} {us:List Value} {vs:List V} (F:FnOk X.prog X.w X.K X.mg X.base CX k f fd ps sp) (hr:Room k X.A) (hb:Binds X.K fd ps ds) (hd:Vals dvs ds) (hx:Passes CX X E)
  (I:Inv X pins σ H s) (r:Vals vs us) (h:sp (vs++dvs) H Q E):wpAny (model X.prog X.w) X.A (call (.ref f) us) (EP X pins σ Q) X.xe s:=by
 have r2:Vals (vs++dvs) (us++ds):=r.append hd
 have hl:(us++ds).length=ps.length:=by rw[← r2.length]; exact F.len _ _ _ _ h
 refine wpAny_call (codeAny_mono (F.run X.A X.stack s H ⟨us,[]⟩ (us++ds) (vs++dvs) Q E hr I.env0 (hb s us I.kIn hl) r2 h) fun r s' hq=>?_)
 cases r with
 | error e=>exact hx pins σ H s e s' I hq
 | ok fl=>
  cases fl with
  | ret u=>exact I.after hq
  | next=>exact False.elim hq
  | brk=>exact False.elim hq
  | cont=>exact False.elim hq
theorem pe_call (F:FnOk X.prog X.w X.K X.mg X.base CX k f fd ps sp) (hr:Room k X.A) (hg:Gl X x) (hm:X.mg x=some (.ref f)) (hk:PySem.W.keepIn X.K (.ref f)=true) (hb:Binds X.K fd ps ds) (hd:Vals dvs ds) (hx:Passes CX X E)
  (ha:PA X (e::es) t) (hdb:(x == ("__debug__":Str))=false:=by decide) (he:starEach (e::es) X.env=(false,eval e X.env)::starEach es X.env:=by rfl) (hpl:(backTo pos (starEach es X.env)).any (·.1)=false:=by rfl):
  PE X (.Call (.Name x p) (e::es) [] pos) (tCall sp dvs E t):=by
 intro pins s σ H Q I h
 refine wpAny_Call_Name_kw (ld_glob I hg hm ?_ hdb)
 refine PySem.W.callWith_K (h₀:=X.base) I.ok.mod.kin hk (thn (ha pos pins s σ H _ I h) fun us s1 ⟨vs,H1,I1,r,q⟩=>⟨I1.kIn,?_⟩) he hpl
 exact run_fn F hr hb hd hx I1 r q
structure Mk (K:PySem.W.Frag) (C f:Addr):Prop where
 makes:PySem.W.makesIn K C=true
 init:PySem.W.findIn K (.ref C) "__init__"=some (some (.ref f))
 fn:PySem.W.isFn K (.ref f)=true
 kp:PySem.W.keepIn K (.ref C)=true
theorem run_make {pins:List (Addr×Obj)} {σ:St} {H:Hp} {s:Shared} {Q:VK} {us:List Value} {vs:List V} (M:Mk X.K C f) (F:FnOk X.prog X.w X.K X.mg X.base CX k f fd ps sp) (hr:Room (k+1) X.A) (hb:Binds X.K fd ps ds) (hd:Vals dvs ds)
  (hx:Passes CX X E) (I:Inv X pins σ H s) (r:Vals vs us)
  (h:∀x dx,H x=none→H dx=none→dx≠x→sp (.ref x::(vs++dvs)) (upd (upd H dx (.own x)) x (.ins C dx [])) (fun v H2=>v=.non∧Q (.ref x) H2) E):
  wpAny (model X.prog X.w) X.A (call (.ref C) us) (EP X pins σ Q) X.xe s:=by
 have hq:=h (s.heap.objs.size+1) s.heap.objs.size (I.hok.fresh (Nat.le_succ _)) (I.hok.fresh (Nat.le_refl _)) (Nat.ne_of_lt (Nat.lt_succ_self _))
 have I2:=Inv.made (C:=C) I
 have r2:Vals (V.ref (s.heap.objs.size+1)::(vs++dvs)) (Value.ref (s.heap.objs.size+1)::(us++ds)):=.cons rfl (r.append hd)
 have hl:(Value.ref (s.heap.objs.size+1)::us++ds).length=ps.length:=by
  have e:=r2.length
  rw[F.len _ _ _ _ hq] at e
  exact e.symm
 refine wpAny_call (make_map (f:=f) I.kIn M.makes M.init (beq_iff_eq.mp M.fn) (codeAny_mono (F.run _ X.stack _ _ ⟨Value.ref (s.heap.objs.size+1)::us,[]⟩ (Value.ref (s.heap.objs.size+1)::(us++ds)) _ _ E (hr.make C us [])
  (I2.env0.make C us []) (hb _ (Value.ref (s.heap.objs.size+1)::us) I2.kIn hl) r2 hq) fun r s' hq'=>?_))
 cases r with
 | error e=>exact hx pins σ _ _ e s' I2 hq'
 | ok fl=>
  cases fl with
  | ret u=>
   obtain ⟨v,H',I3,rv,ev,q3⟩:=I2.after hq'
   subst ev
   exact ⟨rv,⟨V.ref (s.heap.objs.size+1),H',I3,rfl,q3⟩⟩
  | next=>exact False.elim hq'
  | brk=>exact False.elim hq'
  | cont=>exact False.elim hq'
theorem pe_make (M:Mk X.K C f) (F:FnOk X.prog X.w X.K X.mg X.base CX k f fd ps sp) (hr:Room (k+1) X.A) (hg:Gl X x) (hm:X.mg x=some (.ref C)) (hb:Binds X.K fd ps ds) (hd:Vals dvs ds) (hx:Passes CX X E)
  (ha:PA X (e::es) t) (hdb:(x == ("__debug__":Str))=false:=by decide) (he:starEach (e::es) X.env=(false,eval e X.env)::starEach es X.env:=by rfl) (hpl:(backTo pos (starEach es X.env)).any (·.1)=false:=by rfl):
  PE X (.Call (.Name x p) (e::es) [] pos) (tMake C sp dvs E t):=by
 intro pins s σ H Q I h
 refine wpAny_Call_Name_kw (ld_glob I hg hm ?_ hdb)
 refine PySem.W.callWith_K (h₀:=X.base) I.ok.mod.kin M.kp (thn (ha pos pins s σ H _ I h) fun us s1 ⟨vs,H1,I1,r,q⟩=>⟨I1.kIn,?_⟩) he hpl
 exact run_make M F hr hb hd hx I1 r q
end
section
variable {X:Cx} {CX:CXT} {k:Nat} {f C:Addr} {fd:FuncData} {ps ks:List Str} {sp:Sp} {E:XK} {x m:Str} {p pos apos kpos:Pos} {e o:Expr} {es:List Expr} {kws:List Keyword} {te ta:TE} {t tk:TA} {nm:Option Str}
variable {g:List Value→List Value→List Value} {gV:List V→List V→List V}
end
structure FnScope (N P:List Str) (sc:Scope):Prop where
 kind:sc.kind=.function
 co:sc.isCoroutine=false
 gen:sc.isGenerator=false
 nd:N.Nodup
 pre:N.take P.length=P
 par:∀x∈P,sc.names.lookup x=some .local∨sc.names.lookup x=some .cell
 nofree:∀y∈sc.names,y.2≠.free
theorem bindL_out {kindOf:Str→Option NameKind} {x:Str}:∀{binds:List (Str×Value)} {m:Str→Option Value},(∀v,(x,v) ∉ binds)→bindL kindOf binds m x=m x
 | [],_,_=>rfl
 | (n,v)::r,m,h=>by
  unfold bindL
  rw[bindL_out fun w hw=>h w (List.mem_cons_of_mem _ hw)]
  split
  ·have:x≠n:=by rintro rfl; exact h v List.mem_cons_self
   simp[this]
  ·rfl
theorem bindC_out {kindOf:Str→Option NameKind} {x:Str}:∀{binds:List (Str×Value)} {m:Str→Option Value},(∀v,(x,v) ∉ binds)→bindC kindOf binds m x=m x
 | [],_,_=>rfl
 | (n,v)::r,m,h=>by
  unfold bindC
  rw[bindC_out fun w hw=>h w (List.mem_cons_of_mem _ hw)]
  split
  ·rfl
  ·have:x≠n:=by rintro rfl; exact h v List.mem_cons_self
   simp[this]
theorem bindL_get {kindOf:Str→Option NameKind} {x:Str} {v:Value}:∀{P:List Str} {vs:List Value} {i:Nat} {m:Str→Option Value},P.Nodup→P[i]?=some x→vs[i]?=some v→kindOf x=some .local→
  bindL kindOf (P.zip vs) m x=some v
 | [],_,_,_,_,h,_,_=>by simp at h
 | _::_,[],_,_,_,_,h,_=>by simp at h
 | p::P,w::vs,0,m,nd,h1,h2,hk=>by
  simp at h1 h2; subst h1; subst h2
  show bindL kindOf ((p,w)::P.zip vs) m p=_
  unfold bindL
  rw[bindL_out fun v hv=>(List.nodup_cons.mp nd).1 (List.of_mem_zip hv).1,if_pos hk]
  simp
 | p::P,w::vs,i+1,m,nd,h1,h2,hk=>by
  show bindL kindOf ((p,w)::P.zip vs) m x=_
  unfold bindL
  exact bindL_get (i:=i) (List.nodup_cons.mp nd).2 (by simpa using h1) (by simpa using h2) hk
theorem bindC_get {kindOf:Str→Option NameKind} {x:Str} {v:Value}:∀{P:List Str} {vs:List Value} {i:Nat} {m:Str→Option Value},P.Nodup→P[i]?=some x→vs[i]?=some v→kindOf x≠some .local→
  bindC kindOf (P.zip vs) m x=some v
 | [],_,_,_,_,h,_,_=>by simp at h
 | _::_,[],_,_,_,_,h,_=>by simp at h
 | p::P,w::vs,0,m,nd,h1,h2,hk=>by
  simp at h1 h2; subst h1; subst h2
  show bindC kindOf ((p,w)::P.zip vs) m p=_
  unfold bindC
  rw[bindC_out fun v hv=>(List.nodup_cons.mp nd).1 (List.of_mem_zip hv).1,if_neg hk]
  simp
 | p::P,w::vs,i+1,m,nd,h1,h2,hk=>by
  show bindC kindOf ((p,w)::P.zip vs) m x=_
  unfold bindC
  exact bindC_get (i:=i) (List.nodup_cons.mp nd).2 (by simpa using h1) (by simpa using h2) hk
def start (N:List Str) (vs:List V):St:=vs.map some++List.replicate (N.length - vs.length) none
def cxOf (CX:CXT) (P:Program) (w:World) (K:PySem.W.Frag) (mg:Str→Option Value) (base:Heap) (N:List Str) (qual:Str) (scope:Scope) (f:Addr) (cd:Value) (A:Around) (outer:List Env) (s:Shared) (H:Hp) (E:XK):Cx where
 prog:=P
 w:=w
 K:=K
 mg:=mg
 base:=base
 A:=A.deeper (envOfC qual scope s.heap.objs.size f cd)
 N:=N
 s₀:=s
 H₀:=H
 env:=envOfC qual scope s.heap.objs.size f cd
 outer:=outer
 stack:=envOfC qual scope s.heap.objs.size f cd::outer
 ex:=[]
 calm:=true
 fn:=fun _=>true
 pn:=[]
 xe:=fun e s'=>wpAny (model P w) (A.deeper (envOfC qual scope s.heap.objs.size f cd)) (leaving (envOfC qual scope s.heap.objs.size f cd) e) (fun _ s''=>CX outer H s E e s'') (fun e' s''=>CX outer H s E e' s'') s'
theorem cell_has {sc:Scope} {n:Nat} {x:Str} (h:sc.names.lookup x=some .cell):∃c,(cellsFrom n sc.names []).lookup x=some c:=by
 have q:=PySem.W.cellsFrom_some sc.names n [] (.inl h)
 exact Option.isSome_iff_exists.mp q
theorem inv_start {CX:CXT} {P:Program} {w:World} {K:PySem.W.Frag} {mg:Str→Option Value} {base:Heap} {N ps:List Str} {qual:Str} {scope:Scope} {f:Addr} {cd:Value} {A:Around} {outer:List Env} {s s1:Shared} {H:Hp} {E:XK} {us:List Value} {vs:List V}
  (S:FnScope N ps scope) (hd:A.handled=none) (e0:Env0 P w K mg base A outer s H) (hl:vs.length=ps.length) (r:Vals vs us)
  (x:InCallC s s.heap.objs.size (bindL (envOfC qual scope s.heap.objs.size f cd).kindOf (ps.zip us) fun _=>none) (cellsFrom (s.heap.objs.size+1) scope.names []) (bindC (envOfC qual scope s.heap.objs.size f cd).kindOf (ps.zip us) fun _=>none) s1):
  Inv (cxOf CX P w K mg base N qual scope f cd A outer s H E) [] (start N vs) H s1:=by
 have hpl:ps.length≤N.length:=by have:=congrArg List.length S.pre; rw[List.length_take] at this; omega
 obtain ⟨h1,tk,rfl,hk⟩:=x.done
 have noA:∀b:Addr,b ∉ (cxOf CX P w K mg base N qual scope f cd A outer s H E).ex:=fun b z=>absurd (show b∈([]:List Addr) from z) (by simp)
 refine ⟨⟨e0.mod,S.kind,rfl,rfl,Nat.le_refl _,fun y z c h1 h2=>?_,fun y hy=>?_,fun y c _ h=>?_,fun _=>hd,Around.frames_deeper e0.frames,.inr ⟨rfl,rfl⟩,fun b z=>absurd z (noA b),e0.bs,e0.bsz,fun b _ _=>noA b,fun b z=>absurd z (noA b),e0.funs,e0.frf⟩,
  rfl,e0.bare,Un.kept hk,⟨_,x.toInCall.ns,fun i y v h1 h2 h3=>?_⟩,fun y c h=>⟨_,x.cell y c h⟩,e0.hok.fresh (Nat.le_refl _),fun y c h=>?_,fun p hp=>absurd (show p∈([]:List (Addr×Obj)) from hp) (by simp),e0.hok.kept hk,?_⟩
 ·exact name_of_addr x.apart (PySem.mem_of_lookup h1) (PySem.mem_of_lookup h2)
 ·have hy:scope.names.lookup y=some .cell∨scope.names.lookup y=some .free:=hy
  rcases hy with hy | hy
  ·exact cell_has hy
  ·exact absurd rfl (S.nofree _ (PySem.mem_of_lookup hy))
 ·exact Nat.le_of_lt (x.above y c (PySem.mem_of_lookup h))
 ·have hi:i < vs.length:=by
   unfold start at h2
   by_cases hi:i < vs.length
   ·exact hi
   ·rw[List.getElem?_append_right (by simpa using hi)] at h2
    rw[List.getElem?_replicate] at h2
    split at h2 <;> cases h2
  have ha:vs[i]?=some v:=by
   unfold start at h2
   rw[List.getElem?_append_left (by simpa using hi),List.getElem?_map] at h2
   cases e:vs[i]? with
   | none=>rw[e] at h2; cases h2
   | some a=>rw[e] at h2; cases h2; rfl
  obtain ⟨u,hu,rv⟩:=r.get ha
  have hp:ps[i]?=some y:=by
   rw[← S.pre,List.getElem?_take_of_lt (by omega)]; exact h1
  have ndP:ps.Nodup:=by rw[← S.pre]; exact S.nd.sublist (List.take_sublist _ _)
  refine ⟨u,rv,?_⟩
  rcases S.par y (List.mem_of_getElem? hp) with k | k
  ·exact .inl ⟨k,bindL_get ndP hp hu k⟩
  ·obtain ⟨c,e⟩:=cell_has (n:=s.heap.objs.size+1) k
   refine .inr ⟨.inl k,c,e,?_⟩
   have q:=x.cell y c e
   rw[bindC_get ndP hp hu (by show scope.names.lookup y≠_; rw[k]; decide)] at q
   exact q
 ·exact e0.hok.fresh (Nat.le_of_lt (x.above y c (PySem.mem_of_lookup h)))
 ·unfold start
  show _=N.length
  rw[List.length_append,List.length_map,List.length_replicate]
  omega
theorem fn_of {CX:CXT} {P:Program} {w:World} {K:PySem.W.Frag} {mg:Str→Option Value} {base:Heap} {k:Nat} {f:Addr} {name qual:Str} {params:Arguments} {body:List Stmt} {scope:Scope} {dV kV doc pm cdv ct oc:Value} {an od:Option Addr}
  {osl:Array (Option Value)} {N ps:List Str} {sp:Sp} (lk:K.lookup f=some ⟨oc,od,.func (PySem.W.fnOf name qual params body scope dV kV doc pm an cdv ct),osl⟩) (hcd:PySem.W.codeIn K cdv qual=true) (S:FnScope N ps scope)
  (len:∀vs H Q E,sp vs H Q E→vs.length=ps.length)
  (hbody:∀(A:Around) (outer:List Env) (s:Shared) (H:Hp) (vs:List V) (Q:VK) (E:XK),Room k (A.deeper (envOfC qual scope s.heap.objs.size f cdv))→sp vs H Q E→
   ∃t,PSs (cxOf CX P w K mg base N qual scope f cdv A outer s H E) body t∧t { nx:=fun _ H'=>Q .non H',rt:=Q } (start N vs) H):
  FnOk P w K mg base CX (k+1) f (PySem.W.fnOf name qual params body scope dV kV doc pm an cdv ct) ps sp:=by
 refine ⟨len,fun A outer s H args us vs Q E hr e0 hb r hsp=>?_⟩
 have hl:=len _ _ _ _ hsp
 have KX:K.In s.heap:=e0.mod.kin.keeps fun b o e=>(e0.bs b o e).1
 have lim:s.heap.NoLimit:=e0.mod.nolimit.keeps fun b o e=>(e0.bs b o e).1
 have hkind:∀y∈ps.zip us,scope.names.lookup y.1=some .local∨(scope.names.lookup y.1=some .cell∧((cellsFrom (s.heap.objs.size+1) scope.names []).lookup y.1).isSome=true):=fun ⟨n,v⟩ hy=>by
  rcases S.par n (List.of_mem_zip hy).1 with q | q
  ·exact .inl q
  ·exact .inr ⟨q,PySem.W.cellsFrom_some _ _ _ (.inl q)⟩
 refine codeAny_call_function hr.depth (KX _ _ lk) rfl S.co S.gen rfl (PySem.W.codeRec_of KX hcd) (hb _ _ _ _ ?_)
 refine wpAny_newFunctionEnv_cells S.kind hkind fun env he s1 x=>?_
 subst he
 refine ⟨lim.keeps x.toInCall.keep,codeAny_func ?_⟩
 obtain ⟨t,ht,hq⟩:=hbody A outer s H vs Q E (hr.deeper _) hsp
 have I:Inv (cxOf CX P w K mg base N qual scope f cdv A outer s H E) [] (start N vs) H s1:=inv_start S hr.hd e0 hl r x
 refine wpAny_mono (ht [] s1 (start N vs) H _ I hq) (fun fl s' hs=>?_) fun e s' hs=>hs
 have fin:∀{σ':St} {H':Hp} {v:V} {u:Value},Inv (cxOf CX P w K mg base N qual scope f cdv A outer s H E) [] σ' H' s'→RelV v u→Q v H'→CE outer P w H s Q u s':=
  fun {σ' H' v u} J rv q=>⟨v,H',J.os,J.bare,J.base,J.hok,rv,q⟩
 cases fl with
 | ret u=>
  obtain ⟨v,σ',H',J,rv,q⟩:=hs
  exact fin J rv q
 | next=>
  obtain ⟨σ',H',J,q⟩:=hs
  exact fin (v:=V.non) (u:=Value.none) J rfl q
 | brk=>
  obtain ⟨_,_,_,q⟩:=hs
  exact False.elim q
 | cont=>
  obtain ⟨_,_,_,q⟩:=hs
  exact False.elim q
end L2
namespace L2
open PySem PySem.Spec PyProof.Rows
section
variable {X:Cx} {x:Str} {p pos:Pos} {e:Expr} {es:List Expr} {t:TA} {id T:String} {r:List V→Hp→VK→Prop}
def tCB (r:List V→Hp→VK→Prop) (t:TA):TE:=fun σ H Q=>t σ H fun vs H1=>r vs H1 Q
theorem pe_callB (hc:CallR X (.builtin id) r) (hg:Gl X x) (hm:X.mg x=none) (hv:bootBuiltins x=some (.builtin id)) (ha:PA X (e::es) t) (hn:x≠"__name__":=by decide) (hdb:(x == ("__debug__":Str))=false:=by decide)
  (he:starEach (e::es) X.env=(false,eval e X.env)::starEach es X.env:=by rfl) (hpl:(backTo pos (starEach es X.env)).any (·.1)=false:=by rfl):PE X (.Call (.Name x p) (e::es) [] pos) (tCB r t):=by
 intro pins s σ H Q I h
 refine wpAny_Call_Name_kw (ld_blt I hg hm hv ?_ hn hdb)
 exact PyProof.Rows.callWith_builtin1 (thn (ha pos pins s σ H _ I h) fun us s1 ⟨vs,H1,I1,r1,q1⟩=>hc pins s1 σ H1 vs us Q I1 r1 q1) he hpl
theorem pe_callTy (hc:CallR X (.type T) r) (hg:Gl X x) (hm:X.mg x=none) (hv:bootBuiltins x=some (.type T)) (ha:PA X (e::es) t) (hn:x≠"__name__":=by decide) (hdb:(x == ("__debug__":Str))=false:=by decide)
  (he:starEach (e::es) X.env=(false,eval e X.env)::starEach es X.env:=by rfl) (hpl:(backTo pos (starEach es X.env)).any (·.1)=false:=by rfl):PE X (.Call (.Name x p) (e::es) [] pos) (tCB r t):=by
 intro pins s σ H Q I h
 refine wpAny_Call_Name_kw (ld_blt I hg hm hv ?_ hn hdb)
 exact PyProof.Rows.callWith_type1 (thn (ha pos pins s σ H _ I h) fun us s1 ⟨vs,H1,I1,r1,q1⟩=>hc pins s1 σ H1 vs us Q I1 r1 q1) he hpl
end
end L2
namespace HT
open PySem PyProof.Rows
section
open PySem.SeqAt
open PySem.AutoSeq1 (wpAny_loadPart')
open PySem.MeetsSeq PySem.MeetsSeq2 PySem.MeetsSeq3
end
section
variable {prog:Program} {w:World} {A:Around} {E:Value→Shared→Prop} {s:Shared}
theorem cat_tup {t b:Addr} {vs ws:List Value} {Q:Value→Shared→Prop} (ht:IsTup s.heap t vs.toArray) (hb:IsTup s.heap b ws.toArray) (hv:vs≠[])
  (h1:ws=[]→Q (.ref t) s) (h2:ws≠[]→Q (.ref s.heap.objs.size) { s with heap:=s.heap.push { cls:=.type "tuple",data:=.seq (vs++ws).toArray } })
  (hsz:vs.length+ws.length≤sizeLine):wpAny (model prog w) A (binaryOp .Add (.ref t) (.ref b)) Q E s:=by
 obtain ⟨⟨cls,dd,data,sl⟩,ho,hc,n,hd⟩:=id ht
 obtain ⟨⟨cls2,dd2,data2,sl2⟩,ho2,hc2,n2,hd2⟩:=id hb
 simp only at hc hd hc2 hd2
 subst hc hd hc2 hd2
 have e:vs.toArray++ws.toArray=(vs++ws).toArray:=by simp
 by_cases hw:ws=[]
 ·exact concat_meets ⟨_,ho,rfl⟩ ⟨_,ho2,rfl⟩ noFill_tuple_add seq_tuple_add PySem.F.slot_tuple_add PySem.F.entry_tuple_add (PySem.F.args_tuple_add_2 _ _)
   (tuple_addW1 t b vs.toArray ws.toArray n n2 dd dd2 sl sl2 (by simpa using hv) (by simp[hw])) ⟨ho,ho2,h1 hw⟩
 ·refine concat_meets ⟨_,ho,rfl⟩ ⟨_,ho2,rfl⟩ noFill_tuple_add seq_tuple_add PySem.F.slot_tuple_add PySem.F.entry_tuple_add (PySem.F.args_tuple_add_2 _ _)
   (tuple_addW2 t b vs.toArray ws.toArray n n2 dd dd2 sl sl2 (by simpa using hv) (by simpa using hw) (by rw[List.size_toArray,List.size_toArray]; exact hsz)) ⟨ho,ho2,?_⟩
  rw[e]
  exact h2 hw
def sIx (n d:Nat):Option Int→Nat
 | none=>d
 | some v=>if v < 0 then (v+(n:Int)).toNat else min v.toNat n
theorem sIx_none (n d:Nat):sIx n d none=d:=rfl
theorem sIx_nat (n d k:Nat):sIx n d (some (k:Int))=min k n:=by
 show (if (k:Int) < 0 then ((k:Int)+(n:Int)).toNat else min (k:Int).toNat n)=min k n
 rw[if_neg (by omega),Int.toNat_natCast]
theorem sIx_le (n d:Nat) (hd:d≤n) (o:Option Int):sIx n d o≤n:=by
 cases o with
 | none=>exact hd
 | some v=>
  show (if v < 0 then (v+(n:Int)).toNat else min v.toNat n)≤n
  by_cases hv:v < 0
  ·rw[if_pos hv]; omega
  ·rw[if_neg hv]; exact Nat.min_le_right _ _
theorem clip_eq (v:Int) (n d:Nat):(if v < 0 then max (v+(n:Int)) 0 else min v (n:Int))=((sIx n d (some v):Nat):Int):=by
 show (if v < 0 then max (v+(n:Int)) 0 else min v (n:Int))=(((if v < 0 then (v+(n:Int)).toNat else min v.toNat n):Nat):Int)
 by_cases hv:v < 0
 ·simp only [if_pos hv]; omega
 ·simp only [if_neg hv]; omega
theorem adjust_gen (lo hi:Option Int) (n:Nat):Builtin.Slice.sliceAdjust lo hi 1 (n:Int)=(((sIx n 0 lo:Nat):Int),((sIx n n hi:Nat):Int)):=by
 have h1:¬((1:Int) < 0):=by omega
 unfold Builtin.Slice.sliceAdjust
 simp only [h1,if_false]
 refine Prod.ext ?_ ?_
 ·cases lo with
  | none=>rfl
  | some v=>exact clip_eq v n 0
 ·cases hi with
  | none=>rfl
  | some v=>exact clip_eq v n n
theorem places_gen (i j:Nat):Builtin.Slice.slicePlaces (i:Int) (j:Int) 1=j - i:=by
 unfold Builtin.Slice.slicePlaces
 have h1:(1:Int) > 0:=by omega
 simp only [h1,if_true,Int.ediv_one]
 split <;> omega
theorem slicePart_ {v:Value} {o:Option Int} {Q:Option Int→Shared→Prop} (p:IsPart v o) (h:Q o s):wpAny (model prog w) A (Builtin.Slice.slicePartIndex v) Q E s:=by
 cases p with
 | none=>exact slicePart_none h
 | int i t=>exact slicePart_int h
theorem sliceApplied_gen {sl:Addr} {vl vu:Value} {lo hi:Option Int} {n:Nat} {Q:Int×Int×Nat→Shared→Prop} (hs:s.heap.IsSliceOf sl vl vu .none) (pl:IsPart vl lo) (pu:IsPart vu hi)
  (h:Q (((sIx n 0 lo:Nat):Int),1,sIx n n hi - sIx n 0 lo) s):wpAny (model prog w) A (Builtin.Slice.sliceApplied (.ref sl) (pure (n:Int))) Q E s:=by
 obtain ⟨os,hos,hcs,hds⟩:=id hs
 unfold Builtin.Slice.sliceApplied Builtin.Slice.sliceFields
 refine wpAny_bind (wpAny_bind (wpAny_field hos hds (x:=vl) rfl (wpAny_bind (wpAny_field hos hds (x:=vu) rfl (wpAny_bind (wpAny_field hos hds (x:=.none) rfl (wpAny_pure ?_)))))))
 refine wpAny_bind (slicePart_none ?_)
 show wpAny _ _ (if ((1:Int) == 0)=true then _ else _) _ _ s
 rw[if_neg (by decide)]
 refine wpAny_bind (slicePart_ pl (wpAny_bind (slicePart_ pu (wpAny_bind (wpAny_pure ?_)))))
 show wpAny _ _ (match Builtin.Slice.sliceAdjust lo hi 1 (n:Int) with | (lo,hi)=>pure (lo,(1:Int),Builtin.Slice.slicePlaces lo hi 1)) _ _ s
 rw[adjust_gen lo hi n]
 show wpAny _ _ (pure (((sIx n 0 lo:Nat):Int),(1:Int),Builtin.Slice.slicePlaces ((sIx n 0 lo:Nat):Int) ((sIx n n hi:Nat):Int) 1)) _ _ s
 rw[places_gen]
 exact wpAny_pure h
theorem pick_gen (xs:Array Value) (i k:Nat):((List.range k).filterMap fun (m:Nat)=>xs[((i:Int)+(m:Int) * 1).toNat]?).toArray=((xs.toList.drop i).take k).toArray:=by
 have e:(fun (m:Nat)=>xs[((i:Int)+(m:Int) * 1).toNat]?)=fun m=>xs[i+m]?:=by
  funext m
  have:((i:Int)+(m:Int) * 1).toNat=i+m:=by omega
  rw[this]
 rw[e]
 have:=pick_run xs i k
 rw[List.filterMap_map] at this
 have e2:((fun x=>xs[x]?) ∘ fun x=>i+x)=fun m=>xs[i+m]?:=rfl
 rw[e2] at this
 rw[this]
theorem getItem_tuple_cut {t sl:Addr} {items:Array Value} {vl vu:Value} {lo hi:Option Int} {Q:Value→Shared→Prop} (ht:IsTup s.heap t items) (hs:s.heap.IsSliceOf sl vl vu .none) (pl:IsPart vl lo) (pu:IsPart vu hi)
  (hw:¬(sIx items.size 0 lo=0∧sIx items.size items.size hi=items.size))
  (h:Q (.ref s.heap.objs.size) { s with heap:=s.heap.push { cls:=.type "tuple",data:=.seq ((items.toList.drop (sIx items.size 0 lo)).take (sIx items.size items.size hi - sIx items.size 0 lo)).toArray } })
  (hsz:items.size≤sizeLine):wpAny (model prog w) A (getItem (.ref t) (.ref sl)) Q E s:=by
 have htake:sizeOk (.seq ((items.toList.drop (sIx items.size 0 lo)).take (sIx items.size items.size hi - sIx items.size 0 lo)).toArray):=by
  show ((items.toList.drop (sIx items.size 0 lo)).take (sIx items.size items.size hi - sIx items.size 0 lo)).toArray.size≤sizeLine
  rw[List.size_toArray,List.length_take,List.length_drop,Array.length_toList]
  omega
 have hj:sIx items.size items.size hi≤items.size:=sIx_le _ _ (Nat.le_refl _) hi
 obtain ⟨os,hos,hcs,hds⟩:=id hs
 have hTs:s.TypeIs (.ref sl) "slice":=⟨os,hos,hcs⟩
 unfold getItem
 try with_reducible refine wpAny_holding ?_
 first | refine wpAny_bind (wpAny_pure ?_) | skip
 refine wpAny_bind (wpAny_sequenceKey ht.typeIs (by decide) ?_)
 refine wpAny_bind (wpAny_callSpecial?_slot (name:=Str.ofString "__getitem__") ht.typeIs PyProof.Rows.slot_tuple_getitem
  (wpAny_call_entry PyProof.Rows.slot_tuple_getitem ht.typeIs entry_tuple_getitem ?_ (args_tuple_getitem _ _)))
 show wpAny _ _ (Builtin.Tuple.tupleItemsOf (.ref t) >>= _) _ _ s
 refine wpAny_bind (tupleItemsOf_ ht ?_)
 refine wpAny_bind (wpAny_typeOf hTs ?_)
 rw[if_pos (by decide)]
 refine wpAny_bind (sliceApplied_gen hs pl pu ?_)
 have hno:¬((((sIx items.size 0 lo:Nat):Int) == 0 && (1:Int) == 1 && (sIx items.size items.size hi - sIx items.size 0 lo) == items.size)=true):=by
  intro q
  rw[Bool.and_eq_true,Bool.and_eq_true] at q
  have q1:((sIx items.size 0 lo:Nat):Int)=0:=eq_of_beq q.1.1
  have q2:sIx items.size items.size hi - sIx items.size 0 lo=items.size:=eq_of_beq q.2
  exact hw ⟨by omega,by omega⟩
 show wpAny _ _ (if (((sIx items.size 0 lo:Nat):Int) == 0 && (1:Int) == 1 && (sIx items.size items.size hi - sIx items.size 0 lo) == items.size)=true then _ else _) _ _ s
 rw[if_neg hno,pick_gen]
 first
  | exact wpAny_bind (m:=Builtin.Tuple.tupleExact _) (wpAny_newObj_type (wpAny_pure ⟨_,rfl,wpAny_pure h⟩) htake)
  | exact wpAny_bind (m:=Builtin.Tuple.tupleExact _) (wpAny_newObj_type (wpAny_bind (wpAny_pure (wpAny_pure ⟨_,rfl,wpAny_pure h⟩))) htake)
  | exact wpAny_bind (wpAny_bind (m:=Builtin.Tuple.tupleExact _) (wpAny_newObj_type (wpAny_pure (wpAny_pure ⟨_,rfl,wpAny_pure h⟩)) htake))
  | exact wpAny_bind (wpAny_bind (m:=Builtin.Tuple.tupleExact _) (wpAny_newObj_type (wpAny_pure ⟨_,rfl,wpAny_pure h⟩) htake))
end
end HT
namespace L2
open PySem PySem.Spec PyProof.Rows
abbrev TO:=St→Hp→(Option Int→Hp→Prop)→Prop
def PO (X:Cx) (e:Option Expr) (t:TO):Prop:=
 ∀(pins:List (Addr×Obj)) (s:Shared) (σ:St) (H:Hp) (Q:Option Int→Hp→Prop),Inv X pins σ H s→t σ H Q→
  wpAny (model X.prog X.w) X.A (evalPart e X.env) (fun u s'=>∃o H',Inv X pins σ H' s'∧IsPart u o∧Q o H') X.xe s
def tNoPart:TO:=fun _ H Q=>Q none H
def tPart (t:TE):TO:=fun σ H Q=>t σ H fun x H1=>∃i,x=.int i∧Q (some i) H1
section
variable {X:Cx} {e:Expr} {te:TE} {lo hi:Option Expr} {tl th:TO} {pos p2:Pos}
theorem po_none:PO X none tNoPart:=by
 intro pins s σ H Q I h
 rw[evalPart_none]
 exact wpAny_pure ⟨none,H,I,.none,h⟩
theorem po_some (h:PE X e te):PO X (some e) (tPart te):=by
 intro pins s σ H Q I hw
 rw[evalPart_some]
 refine thn (h pins s σ H _ I hw) fun u s1 ⟨x,H1,I1,r1,q1⟩=>?_
 obtain ⟨i,rfl,q⟩:=q1
 obtain ⟨t,rfl⟩:=r1
 exact ⟨some i,H1,I1,.int i t,q⟩
def SlR (X:Cx) (r:V→Option Int→Option Int→Hp→VK→Prop):Prop:=
 ∀(pins:List (Addr×Obj)) (s:Shared) (σ:St) (H:Hp) (x:V) (v vl vu:Value) (lo hi:Option Int) (sl:Addr) (Q:VK),Inv X pins σ H s→RelV x v→s.heap.IsSliceOf sl vl vu .none→IsPart vl lo→IsPart vu hi→r x lo hi H Q→
  ∃T id,typeLookup (.type T) "__getitem__"=pure (some (.builtin id))∧s.TypeIs v T∧wpAny (model X.prog X.w) X.A (getItem v (.ref sl)) (EP X pins σ Q) X.xe s
theorem SlR.or {r r':V→Option Int→Option Int→Hp→VK→Prop} (h:SlR X r) (h':SlR X r'):SlR X (fun x lo hi H Q=>r x lo hi H Q∨r' x lo hi H Q):=by
 intro pins s σ H x v vl vu lo hi sl Q I rx hs pl pu q
 rcases q with q | q
 ·exact h pins s σ H x v vl vu lo hi sl Q I rx hs pl pu q
 ·exact h' pins s σ H x v vl vu lo hi sl Q I rx hs pl pu q
def tSl (r:V→Option Int→Option Int→Hp→VK→Prop) (te:TE) (tl th:TO):TE:=fun σ H Q=>te σ H fun x H1=>tl σ H1 fun l H2=>th σ H2 fun u H3=>r x l u H3 Q
theorem pe_slice {r:V→Option Int→Option Int→Hp→VK→Prop} (hr:SlR X r) (he:PE X e te) (hl:PO X lo tl) (hu:PO X hi th):PE X (.Subscript e (.Slice lo hi none p2) pos) (tSl r te tl th):=by
 intro pins s σ H Q I h
 refine Subscript_ (thn (he pins s σ H _ I h) fun v s1 ⟨x,H1,I1,r1,q1⟩=>?_)
 refine wpAny_Slice (thn (hl pins s1 σ H1 _ I1 q1) fun vl s2 ⟨l,H2,I2,pl,q2⟩=>thn (hu pins s2 σ H2 _ I2 q2) fun vu s3 ⟨u,H3,I3,pu,q3⟩=>?_)
 rw[evalPart_none]
 refine wpAny_pure ?_
 have I4:Inv X pins σ H3 { s3 with heap:=s3.heap.push { cls:=.type "slice",data:=.fields #[vl,vu,.none] } }:=I3.kept (t':=s3.toks) fun b ob q=>Heap.get?_push_of_some _ q
 obtain ⟨T,id,hT,ht,hg⟩:=hr pins { s3 with heap:=s3.heap.push { cls:=.type "slice",data:=.fields #[vl,vu,.none] } } σ H3 x v vl vu l u s3.heap.objs.size Q I4 r1 (Heap.IsSliceOf.new ..) pl pu q3
 show wpAny (model X.prog X.w) X.A (subscriptTail e (.Slice lo hi none p2) v (.ref s3.heap.objs.size)) (EP X pins σ Q) X.xe { s3 with heap:=s3.heap.push { cls:=.type "slice",data:=.fields #[vl,vu,.none] } }
 exact tail_any (ops:=[.ref s3.heap.objs.size,v]) ht hT hg (by with_unfolding_all rfl)
def cutV (xs:List V) (lo hi:Option Int):List V:=(xs.drop (HT.sIx xs.length 0 lo)).take (HT.sIx xs.length xs.length hi - HT.sIx xs.length 0 lo)
theorem cutV_length (xs:List V) (lo hi:Option Int):(cutV xs lo hi).length≤xs.length:=by
 unfold cutV
 rw[List.length_take,List.length_drop]
 omega
def rSlT (K:PySem.W.Frag):V→Option Int→Option Int→Hp→VK→Prop:=fun x lo hi H Q=>∃a xs,x=.ref a∧SqT K H a xs∧
 ¬(HT.sIx xs.length 0 lo=0∧HT.sIx xs.length xs.length hi=xs.length)∧∀p,H p=none→Q (.ref p) (upd H p (.tup (cutV xs lo hi)))
theorem sl_tup:SlR X (rSlT X.K):=by
 intro pins s σ H x v vl vu lo hi sl Q I rx hs pl pu h
 obtain ⟨a,xs,rfl,hx,hw,q⟩:=h
 cases rx
 obtain ⟨its,r,ht,hz⟩:=I.tuple hx
 have hlen:its.toArray.size=xs.length:=by rw[List.size_toArray]; exact r.length.symm
 refine ⟨"tuple",_,PyProof.Rows.slot_tuple_getitem.lookup,ht.typeIs,?_⟩
 refine HT.getItem_tuple_cut ht hs pl pu (by rw[hlen]; exact hw) ?_ (by rw[hlen]; exact hz)
 rw[hlen]
 refine ⟨.ref s.heap.objs.size,_,I.laid (t':=s.toks) (o:=.tup (cutV xs lo hi)) (fun b ob q=>Heap.get?_push_of_some _ q) (Nat.le_refl _) ?_,rfl,q _ (I.hok.fresh (Nat.le_refl _))⟩
 exact ⟨Nat.le_trans (cutV_length xs lo hi) hz,_,(r.drop (HT.sIx xs.length 0 lo)).take (HT.sIx xs.length xs.length hi - HT.sIx xs.length 0 lo),IsTup.new _ _⟩
def rCatT (K:PySem.W.Frag):R2:=fun x y H Q=>∃a b xs ys,x=.ref a∧y=.ref b∧SqT K H a xs∧SqT K H b ys∧xs≠[]∧xs.length+ys.length≤sizeLine∧
 (ys=[]→Q (.ref a) H)∧(ys≠[]→∀p,H p=none→Q (.ref p) (upd H p (.tup (xs++ys))))
theorem Vals.nil_iff {xs:List V} {us:List Value} (r:Vals xs us):us=[]↔xs=[]:=by
 cases r with
 | nil=>simp
 | cons _ _=>simp
theorem op_catT:OpR X (binaryOp .Add) (rCatT X.K):=by
 intro pins s σ H x y v u Q I rx ry h
 obtain ⟨a,b,xs,ys,rfl,rfl,ha,hb,hx,hz,q1,q2⟩:=h
 cases rx
 cases ry
 obtain ⟨its,r1,p1,_⟩:=I.tuple ha
 obtain ⟨its2,r2,p2,_⟩:=I.tuple hb
 refine HT.cat_tup p1 p2 (fun z=>hx (r1.nil_iff.mp z)) (fun z=>⟨.ref a,H,I,rfl,q1 (r2.nil_iff.mp z)⟩) (fun z=>?_) (by rw[← r1.length,← r2.length]; exact hz)
 refine ⟨.ref s.heap.objs.size,_,I.laid (t':=s.toks) (o:=.tup (xs++ys)) (fun b ob q=>Heap.get?_push_of_some _ q) (Nat.le_refl _) ?_,rfl,q2 (fun w=>z (r2.nil_iff.mpr w)) _ (I.hok.fresh (Nat.le_refl _))⟩
 exact ⟨by rw[List.length_append]; exact hz,_,r1.append r2,IsTup.new _ _⟩
end
end L2
namespace L2
open PySem PySem.Spec PyProof.Rows
def ixN (n:Nat) (i:Int):Option Nat:=if 0≤i then (if i < n then some i.toNat else none) else if -(n:Int)≤i then some (i+n).toNat else none
def atI {α:Type} (xs:List α) (i:Int):Option α:=(ixN xs.length i).bind fun j=>xs[j]?
theorem ixN_seq {n:Nat} {i:Int} {j:Nat} (h:ixN n i=some j):seqIndex? i n=some j∧j < n∧-(n:Int)≤i∧i < n:=by
 unfold ixN at h
 by_cases h0:0≤i
 ·rw[if_pos h0] at h
  by_cases h1:i < n
  ·rw[if_pos h1] at h
   have e:i.toNat=j:=Option.some.inj h
   exact ⟨by rw[seqIndex_of h0 h1,e],by omega,by omega,h1⟩
  ·rw[if_neg h1] at h; cases h
 ·rw[if_neg h0] at h
  by_cases h1:-(n:Int)≤i
  ·rw[if_pos h1] at h
   have e:(i+n).toNat=j:=Option.some.inj h
   exact ⟨by rw[seqIndex_neg (by omega) h1,e],by omega,h1,by omega⟩
  ·rw[if_neg h1] at h; cases h
theorem atI_get {α:Type} {xs:List α} {i:Int} {v:α} (h:atI xs i=some v):∃j,seqIndex? i xs.length=some j∧xs[j]?=some v∧j < xs.length∧-(xs.length:Int)≤i∧i < xs.length:=by
 unfold atI at h
 cases e:ixN xs.length i with
 | none=>rw[e] at h; cases h
 | some j=>
  rw[e] at h
  obtain ⟨h1,h2,h3,h4⟩:=ixN_seq e
  exact ⟨j,h1,h,h2,h3,h4⟩
theorem atI_nat {α:Type} {xs:List α} {j:Nat} {v:α} (h:xs[j]?=some v):atI xs (j:Int)=some v:=by
 have hj:j < xs.length:=(List.getElem?_eq_some_iff.mp h).1
 have e:ixN xs.length (j:Int)=some j:=by
  unfold ixN
  rw[if_pos (by omega),if_pos (by omega)]; simp
 unfold atI; rw[e]; exact h
def PlainIx (b:Expr):Prop:=∀o i,subscripted b false o i=operate [o,i] (getItem o i)
def IxR (X:Cx) (r:R2):Prop:=
 ∀(value slice:Expr) (pins:List (Addr×Obj)) (s:Shared) (σ:St) (H:Hp) (x y:V) (v u:Value) (Q:VK),Inv X pins σ H s→RelV x v→RelV y u→r x y H Q→
  subscripted slice false v u=operate [v,u] (getItem v u)→wpAny (model X.prog X.w) X.A (subscriptTail value slice v u) (EP X pins σ Q) X.xe s
def MtR (X:Cx) (id:String) (r:V→List V→Hp→VK→Prop):Prop:=
 ∀(pins:List (Addr×Obj)) (s:Shared) (σ:St) (H:Hp) (x:V) (xs:List V) (v:Value) (us:List Value) (Q:VK),Inv X pins σ H s→RelV x v→Vals xs us→r x xs H Q→
  wpAny (model X.prog X.w) X.A (call (.builtin id) (v::us)) (EP X pins σ Q) X.xe s
section
variable {X:Cx} {a b:Expr} {ta tb:TE} {pos:Pos}
theorem IxR.or {r r':R2} (h:IxR X r) (h':IxR X r'):IxR X (fun x y H Q=>r x y H Q∨r' x y H Q):=by
 intro value slice pins s σ H x y v u Q I rx ry q hs
 rcases q with q | q
 ·exact h value slice pins s σ H x y v u Q I rx ry q hs
 ·exact h' value slice pins s σ H x y v u Q I rx ry q hs
theorem pe_ix {r:R2} (hr:IxR X r) (ha:PE X a ta) (hb:PE X b tb) (hs:PlainIx b):PE X (.Subscript a b pos) (tOp r ta tb):=by
 intro pins s σ H Q I h
 exact Subscript_ (binT ha hb I h fun v u s2 x y H2 I2 rx ry q=>hr a b pins s2 σ H2 x y v u Q I2 rx ry q (hs _ _))
def rIxL (K:PySem.W.Frag):R2:=fun x y H Q=>∃p xs i v,x=.ref p∧y=.int i∧SqL K H p xs∧atI xs i=some v∧Q v H
def rIxT (K:PySem.W.Frag):R2:=fun x y H Q=>∃p xs i v,x=.ref p∧y=.int i∧SqT K H p xs∧atI xs i=some v∧Q v H
def rIxS:R2:=fun x y H Q=>∃z i c,x=.str z∧y=.int i∧z.length≤sizeLine∧atI z.cps.toList i=some c∧Q (.str ⟨#[c]⟩) H
theorem ix_list:IxR X (rIxL X.K):=by
 intro value slice pins s σ H x y v u Q I rx ry h hs
 obtain ⟨p,xs,i,z,rfl,rfl,hq,he,q⟩:=h
 cases rx
 obtain ⟨t,rfl⟩:=ry
 obtain ⟨its,r,pl,hz⟩:=I.list hq
 obtain ⟨j,h1,h2,h3,h4,h5⟩:=atI_get he
 obtain ⟨w,ew,rw'⟩:=r.get h2
 have hl:=r.length
 have hn:=line63
 have fin:EP X pins σ Q w s:=⟨z,H,I,rw',q⟩
 by_cases h0:0≤i
 ·have hj:i.toNat=j:=by
   rw[seqIndex_of h0 h5] at h1
   exact Option.some.inj h1
  exact item_listR pl.isList h0 (by omega) (by rw[hj]; simpa using ew) fin hs
 ·have hj:(i+(its.toArray.size:Int)).toNat=j:=by
   rw[seqIndex_neg (by omega) h4] at h1
   rw[List.size_toArray,← hl]
   exact Option.some.inj h1
  exact subscriptTail_builtinR (x:=w) pl.isList.typeIs slot_list_getitem.lookup
   (wpAny_getItem_list_neg (Q:=fun r s'=>r=w∧EP X pins σ Q r s') pl.isList (by omega) (by rw[List.size_toArray] <;> omega) (by omega) (by rw[hj]; simpa using ew) ⟨rfl,fin⟩) hs
theorem ix_tup:IxR X (rIxT X.K):=by
 intro value slice pins s σ H x y v u Q I rx ry h hs
 obtain ⟨p,xs,i,z,rfl,rfl,hq,he,q⟩:=h
 cases rx
 obtain ⟨t,rfl⟩:=ry
 obtain ⟨its,r,pl,hz⟩:=I.tuple hq
 obtain ⟨j,h1,h2,h3,h4,h5⟩:=atI_get he
 obtain ⟨w,ew,rw'⟩:=r.get h2
 have hl:=r.length
 have hn:=line63
 have fin:EP X pins σ Q w s:=⟨z,H,I,rw',q⟩
 exact subscriptTail_builtinR (x:=w) pl.typeIs slot_tuple_getitem.lookup
  (getItem_tuple (j:=j) (Q:=fun r s'=>r=w∧EP X pins σ Q r s') pl (by omega) (by omega) (by rw[List.size_toArray,← hl]; exact h1) (by simpa using ew) ⟨rfl,fin⟩) hs
theorem ix_str:IxR X rIxS:=by
 intro value slice pins s σ H x y v u Q I rx ry h hs
 obtain ⟨z,i,c,rfl,rfl,hz,he,q⟩:=h
 obtain ⟨t,rfl⟩:=rx
 obtain ⟨t',rfl⟩:=ry
 obtain ⟨j,h1,h2,h3,h4,h5⟩:=atI_get he
 have hl:z.cps.toList.length=z.length:=by simp[Str.length]
 rw[hl] at h1 h4 h5
 have hn:=line63
 exact tail_any (typeIs_str s z t) slot_str_getitem.lookup (getItem_str (c:=c) (by
  have e1:decide (i < -(2 ^ 63:Int))=false:=decide_eq_false (by omega)
  have e2:decide (i ≥ 2 ^ 63)=false:=decide_eq_false (by omega)
  rw[e1,e2,Bool.or_false]) (by rw[h1]; simpa using h2) ⟨.str ⟨#[c]⟩,H,I.tok _,⟨_,rfl⟩,q⟩) hs
def rIx (K:PySem.W.Frag):R2:=fun x y H Q=>rIxL K x y H Q∨rIxT K x y H Q∨rIxS x y H Q
theorem ix_seq:IxR X (rIx X.K):=ix_list.or (ix_tup.or ix_str)
theorem mapSeq_set (its:List Value) (n j:Nat) (u:Value):Obj.mapSeq (·.setIfInBounds j u) { cls:=.type "list",data:=.seq its.toArray n }={ cls:=.type "list",data:=.seq (its.set j u).toArray n }:=by
 simp[Obj.mapSeq]
theorem Inv.lst {pins:List (Addr×Obj)} {σ:St} {H:Hp} {s:Shared} {p:Addr} {xs:List V} (I:Inv X pins σ H s) (h:H p=some (.lst xs)):
  ∃(its:List Value) (n:Nat),Vals xs its∧s.heap.get? p=some { cls:=.type "list",data:=.seq its.toArray n }∧xs.length≤sizeLine:=by
 obtain ⟨z,its,n,r,e⟩:=I.hok p _ h
 exact ⟨its,n,r,e,z⟩
theorem Inv.lstUpd {pins:List (Addr×Obj)} {σ:St} {H:Hp} {s:Shared} {p:Addr} {xs ys:List V} {its its':List Value} {n n':Nat} {f:Obj→Obj} (I:Inv X pins σ H s) (h:H p=some (.lst xs))
  (ho:s.heap.get? p=some { cls:=.type "list",data:=.seq its.toArray n }) (hf:f { cls:=.type "list",data:=.seq its.toArray n }={ cls:=.type "list",data:=.seq its'.toArray n' }) (r:Vals ys its') (hz:ys.length≤sizeLine) (t:Nat):
  Inv X pins σ (upd H p (.lst ys)) { s with heap:=s.heap.update p f,toks:=t }:=by
 have e:(s.heap.update p f).get? p=some { cls:=.type "list",data:=.seq its'.toArray n' }:=by
  rw[Heap.get?_update_self f ho (by rw[hf] <;> rfl),hf]
 refine I.write (x:=p) (e:=p) (by rw[h]; trivial) (.inl rfl) (fun b u hb q=>(Heap.get?_update_other _ _ (Ne.symm hb)).trans q) ⟨_,e⟩ ?_
 exact ⟨hz,its',n',r,e⟩
def rSetL:V→V→V→Hp→(Hp→Prop)→Prop:=fun o i v H Q=>∃p xs k j,o=.ref p∧i=.int k∧H p=some (.lst xs)∧ixN xs.length k=some j∧Q (upd H p (.lst (xs.set j v)))
theorem set_list:PSet X rSetL:=by
 intro pins s σ H o i v ov iv u Q I ro ri rv h
 obtain ⟨p,xs,k,j,rfl,rfl,hp,hj,q⟩:=h
 cases ro
 obtain ⟨t,rfl⟩:=ri
 obtain ⟨its,n,r,ho,hz⟩:=I.lst hp
 obtain ⟨h1,h2,h3,h4⟩:=ixN_seq hj
 have hl:=r.length
 have hn:=line63
 have I':Inv X pins σ (upd H p (.lst (xs.set j v))) { s with heap:=s.heap.update p (Obj.mapSeq (·.setIfInBounds j u)) }:=
  I.lstUpd hp ho (mapSeq_set its n j u) (r.set rv j) (by rw[List.length_set]; exact hz) s.toks
 by_cases h0:0≤k
 ·have hk:k.toNat=j:=by
   rw[seqIndex_of h0 h4] at h1
   exact Option.some.inj h1
  exact PySem.W.ki_setAt ho h0 (by omega) (by rw[List.size_toArray,← hl]; exact h4) (by rw[hk]; exact ⟨_,I',q⟩)
 ·have hk:(k+(its.toArray.size:Int)).toNat=j:=by
   rw[seqIndex_neg (by omega) h3] at h1
   rw[List.size_toArray,← hl]
   exact Option.some.inj h1
  exact PySem.W.ki_setBack ho (by omega) (by rw[List.size_toArray,← hl]; exact h3) (by omega) (by rw[hk]; exact ⟨_,I',q⟩)
theorem slice_bounds (lo hi:Option Int) (n:Nat):(sliceBounds lo hi none n).1=((HT.sIx n 0 lo:Nat):Int)∧(sliceBounds lo hi none n).2.1=((HT.sIx n n hi:Nat):Int)∧(sliceBounds lo hi none n).2.2=1:=by
 refine ⟨?_,?_,rfl⟩
 ·cases lo with
  | none=>simp[sliceBounds,HT.sIx]
  | some i=>
   simp only [sliceBounds,HT.sIx,Option.getD_none,show (1:Int) > 0 by decide,if_true]
   by_cases h:i < 0
   ·simp only [h,if_true] <;> omega
   ·simp only [h,if_false] <;> omega
 ·cases hi with
  | none=>simp[sliceBounds,HT.sIx]
  | some i=>
   simp only [sliceBounds,HT.sIx,Option.getD_none,show (1:Int) > 0 by decide,if_true]
   by_cases h:i < 0
   ·simp only [h,if_true] <;> omega
   ·simp only [h,if_false] <;> omega
theorem slicePick_cut (its:List Value) (lo hi:Option Int):slicePick its.toArray lo hi none=((its.drop (HT.sIx its.length 0 lo)).take (HT.sIx its.length its.length hi - HT.sIx its.length 0 lo)).toArray:=by
 obtain ⟨h1,h2,h3⟩:=slice_bounds lo hi its.toArray.size
 unfold slicePick
 rw[h1,h2,h3]
 simp only [sliceRange_one,pick_run,List.size_toArray] <;> rfl
def rSlL (K:PySem.W.Frag):V→Option Int→Option Int→Hp→VK→Prop:=fun x lo hi H Q=>∃a xs,x=.ref a∧SqL K H a xs∧∀p,H p=none→Q (.ref p) (upd H p (.lst (cutV xs lo hi)))
theorem sl_list:SlR X (rSlL X.K):=by
 intro pins s σ H x v vl vu lo hi sl Q I rx hs pl pu h
 obtain ⟨a,xs,rfl,hx,q⟩:=h
 cases rx
 obtain ⟨its,r,ht,hz⟩:=I.list hx
 have hlen:=r.length
 refine ⟨"list",_,slot_list_getitem.lookup,ht.isList.typeIs,?_⟩
 refine wpAny_getItem_list_slice ht.isList hs pl pu .none (by simp) ?_ (by rw[List.size_toArray] <;> omega)
 rw[slicePick_cut,← hlen]
 refine ⟨.ref s.heap.objs.size,_,I.laid (t':=s.toks) (o:=.lst (cutV xs lo hi)) (fun b ob q=>Heap.get?_push_of_some _ q) (Nat.le_refl _) ?_,rfl,q _ (I.hok.fresh (Nat.le_refl _))⟩
 exact ⟨Nat.le_trans (cutV_length xs lo hi) hz,_,0,(r.drop (HT.sIx xs.length 0 lo)).take (HT.sIx xs.length xs.length hi - HT.sIx xs.length 0 lo),Heap.get?_push_size _ rfl⟩
def flatV:V→Bool
 | .non=>true
 | .bl _=>true
 | .int _=>true
 | .str _=>true
 | _=>false
def eqV:V→V→Bool
 | .non,.non=>true
 | .bl a,.bl b=>a == b
 | .bl a,.int b=>(if a then 1 else 0) == b
 | .int a,.bl b=>a == (if b then 1 else 0)
 | .int a,.int b=>a == b
 | .str a,.str b=>a == b
 | _,_=>false
theorem eqAt_V {A:Around} {s:Shared} {y x:V} {u v:Value} (ry:RelV y u) (rx:RelV x v) (fy:flatV y=true) (fx:flatV x=true):SeqAt.EqAt A s u v (eqV y x):=by
 cases y with
 | non=>
  cases ry
  cases x with
  | non=>cases rx; exact SeqAt.EqAt.same _
  | bl b=>cases rx; exact SeqAt.EqAt.none_bool b
  | int b=>obtain ⟨t,rfl⟩:=rx; exact SeqAt.EqAt.none_int b t
  | str b=>obtain ⟨t,rfl⟩:=rx; exact SeqAt.EqAt.none_str b t
  | _=>exact absurd (show false=true from fx) Bool.false_ne_true
 | bl a=>
  cases ry
  cases x with
  | non=>cases rx; exact SeqAt.EqAt.bool_none a
  | bl b=>cases rx; exact SeqAt.EqAt.bool_bool a b
  | int b=>obtain ⟨t,rfl⟩:=rx; exact SeqAt.EqAt.bool_int a b t
  | str b=>obtain ⟨t,rfl⟩:=rx; exact SeqAt.EqAt.bool_str a b t
  | _=>exact absurd (show false=true from fx) Bool.false_ne_true
 | int a=>
  obtain ⟨t',rfl⟩:=ry
  cases x with
  | non=>cases rx; exact SeqAt.EqAt.int_none a t'
  | bl b=>cases rx; exact SeqAt.EqAt.int_bool a t' b
  | int b=>obtain ⟨t,rfl⟩:=rx; exact SeqAt.EqAt.int_int a t' b t
  | str b=>obtain ⟨t,rfl⟩:=rx; exact SeqAt.EqAt.int_str a t' b t
  | _=>exact absurd (show false=true from fx) Bool.false_ne_true
 | str a=>
  obtain ⟨t',rfl⟩:=ry
  cases x with
  | non=>cases rx; exact SeqAt.EqAt.str_none a t'
  | bl b=>cases rx; exact SeqAt.EqAt.str_bool a t' b
  | int b=>obtain ⟨t,rfl⟩:=rx; exact SeqAt.EqAt.str_int a t' b t
  | str b=>obtain ⟨t,rfl⟩:=rx; exact SeqAt.EqAt.str_str a t' b t
  | _=>exact absurd (show false=true from fx) Bool.false_ne_true
 | _=>exact absurd (show false=true from fy) Bool.false_ne_true
def eqU (x:V) (u:Value):Bool:=match u with
 | .none=>eqV .non x
 | .bool b=>eqV (.bl b) x
 | .int i _=>eqV (.int i) x
 | .str z _=>eqV (.str z) x
 | _=>false
theorem eqU_of {x y:V} {u:Value} (r:RelV y u) (f:flatV y=true):eqU x u=eqV y x:=by
 cases y with
 | non=>cases r; rfl
 | bl b=>cases r; rfl
 | int i=>obtain ⟨t,rfl⟩:=r; rfl
 | str z=>obtain ⟨t,rfl⟩:=r; rfl
 | _=>exact absurd (show false=true from f) Bool.false_ne_true
theorem any_eqU {x:V}:∀{xs:List V} {us:List Value},Vals xs us→xs.all flatV=true→us.any (eqU x)=xs.any fun y=>eqV y x
 | _,_,.nil,_=>rfl
 | y::xs,u::us,.cons r t,f=>by
  rw[List.all_cons,Bool.and_eq_true] at f
  rw[List.any_cons,List.any_cons,eqU_of r f.1,any_eqU t f.2]
theorem mem_eqAt {A:Around} {s:Shared} {x:V} {v:Value} (rx:RelV x v) (fx:flatV x=true):∀{xs:List V} {us:List Value},Vals xs us→xs.all flatV=true→∀u∈us,SeqAt.EqAt A s u v (eqU x u)
 | _,_,.nil,_=>fun u hu=>by cases hu
 | y::xs,u::us,.cons r t,f=>fun u' hu=>by
  rw[List.all_cons,Bool.and_eq_true] at f
  rcases List.mem_cons.mp hu with rfl | hu
  ·rw[eqU_of r f.1]; exact eqAt_V r rx f.1 fx
  ·exact mem_eqAt rx fx t f.2 u' hu
def inV (x:V) (xs:List V):Bool:=xs.any fun y=>eqV y x
def rIn (K:PySem.W.Frag) (neg:Bool):R2:=fun x y H Q=>∃p xs,y=.ref p∧(SqL K H p xs∨SqT K H p xs)∧flatV x=true∧xs.all flatV=true∧Q (.bl (if neg then !inV x xs else inV x xs)) H
theorem op_in_seq:OpR X (compareOp .In) (rIn X.K false):=by
 intro pins s σ H x y v u Q I rx ry h
 obtain ⟨p,xs,rfl,hq,fx,fs,q⟩:=h
 cases ry
 rcases hq with hq | hq
 ·obtain ⟨its,r,pl,hz⟩:=I.list hq
  refine SeqAt.in_listAt (eqU x) pl.isList (fun w hw=>mem_eqAt rx fx r fs w (by simpa using hw)) ⟨.bl _,H,I,rfl,?_⟩
  rw[show its.toArray.any (eqU x)=its.any (eqU x) by simp,any_eqU r fs]
  exact q
 ·obtain ⟨its,r,pl,hz⟩:=I.tuple hq
  refine SeqAt.in_tupleAt (eqU x) pl (fun w hw=>mem_eqAt rx fx r fs w (by simpa using hw)) ⟨.bl _,H,I,rfl,?_⟩
  rw[show its.toArray.any (eqU x)=its.any (eqU x) by simp,any_eqU r fs]
  exact q
theorem call_len_seq:CallR X (.builtin "len") (fun xs H Q=>∃p ys,xs=[.ref p]∧(SqL X.K H p ys∨SqT X.K H p ys)∧Q (.int ys.length) H):=by
 intro pins s σ H xs us Q I r h
 obtain ⟨p,ys,rfl,hq,q⟩:=h
 obtain ⟨u,rfl,rx⟩:=vals1 r
 cases rx
 have hn:=line63
 rcases hq with hq | hq
 ·obtain ⟨its,r',pl,hz⟩:=I.list hq
  have hlen:=r'.length
  exact Calls.call_len_list pl.isList (by simp only [List.size_toArray] <;> omega) ⟨.int ys.length,H,I.tok _,⟨s.toks+1,by rw[List.size_toArray,hlen]⟩,q⟩
 ·obtain ⟨its,r',pl,hz⟩:=I.tuple hq
  have hlen:=r'.length
  exact len_tuple pl (by simp only [List.size_toArray] <;> omega) ⟨.int ys.length,H,I.tok _,⟨s.toks+1,by rw[List.size_toArray,hlen]⟩,q⟩
theorem call_list_of:CallR X (.type "list") (fun xs H Q=>∃p ys,xs=[.ref p]∧(SqL X.K H p ys∨SqT X.K H p ys)∧∀l,H l=none→Q (.ref l) (upd H l (.lst ys))):=by
 intro pins s σ H xs us Q I r h
 obtain ⟨p,ys,rfl,hq,q⟩:=h
 obtain ⟨u,rfl,rx⟩:=vals1 r
 cases rx
 have fin:∀(its:List Value),Vals ys its→ys.length≤sizeLine→∀(h':Heap) (c':Nat),(∀b o',s.heap.get? b=some o'→h'.get? b=some o')→
   h'.get? s.heap.objs.size=some { cls:=.type "list",dict:=none,data:=.seq its.toArray c',slots:=#[] }→EP X pins σ Q (.ref s.heap.objs.size) { s with heap:=h' }:=fun its r' hz h' c' kp e=>
  ⟨.ref s.heap.objs.size,_,I.laid (t':=s.toks) kp (Nat.le_refl _) (show ObjOk X.prog X.w _ h' _ (.lst ys) from ⟨hz,its,c',r',e⟩),rfl,q _ (I.hok.fresh (Nat.le_refl _))⟩
 rcases hq with hq | hq
 ·obtain ⟨its,r',pl,hz⟩:=I.list hq
  have hlen:=r'.length
  obtain ⟨o,ho,hc,n,hd⟩:=pl.isList
  exact call_list_seq p (.inl rfl) ho hc hd (fun h' c' kp e=>fin its r' hz h' c' kp e) (by simp only [List.size_toArray] <;> omega)
 ·obtain ⟨its,r',pl,hz⟩:=I.tuple hq
  have hlen:=r'.length
  obtain ⟨o,ho,hc,n,hd⟩:=pl
  exact call_list_seq p (.inr rfl) ho hc hd (fun h' c' kp e=>fin its r' hz h' c' kp e) (by simp only [List.size_toArray] <;> omega)
theorem call_tuple_of:CallR X (.type "tuple") (fun xs H Q=>∃p ys,xs=[.ref p]∧((SqL X.K H p ys∧∀l,H l=none→Q (.ref l) (upd H l (.tup ys)))∨(SqT X.K H p ys∧Q (.ref p) H))):=by
 intro pins s σ H xs us Q I r h
 obtain ⟨p,ys,rfl,h⟩:=h
 obtain ⟨u,rfl,rx⟩:=vals1 r
 cases rx
 rcases h with ⟨hq,q⟩ | ⟨hq,q⟩
 ·obtain ⟨its,r',pl,hz⟩:=I.list hq
  have hlen:=r'.length
  refine call_tuple_list pl.isList (fun h' kp=>?_) (by simp only [List.size_toArray] <;> omega)
  have I1:Inv X pins σ H { s with heap:=h' }:=I.kept (t':=s.toks) kp
  have I2:Inv X pins σ (upd H h'.objs.size (.tup ys)) { s with heap:=h'.push { cls:=.type "tuple",data:=.seq its.toArray } }:=
   I1.laid (t':=s.toks) (fun b o e=>Heap.get?_push_of_some _ e) (Nat.le_refl _) (show ObjOk X.prog X.w _ _ _ (.tup ys) from ⟨hz,its,r',IsTup.new _ _⟩)
  exact ⟨.ref h'.objs.size,_,I2,rfl,q _ (I1.hok.fresh (Nat.le_refl _))⟩
 ·obtain ⟨its,r',pl,hz⟩:=I.tuple hq
  exact call_tuple_same pl ⟨.ref p,H,I,rfl,q⟩
def tyV (K:PySem.W.Frag) (T:String) (x:V) (H:Hp):Prop:=match x with
 | .str _=>T="str"
 | .int _=>T="int"
 | .ref p=>(T="list"∧∃xs,SqL K H p xs)∨(T="tuple"∧∃o,K.lookup p=some o∧o.cls=.type "tuple"∧o.dict=none)∨
   (T="dict"∧((∃kvs,H p=some (.dK kvs))∨∃kvs,H p=some (.dT kvs)))∨(T="set"∧∃S n,H p=some (.set S n))
 | _=>False
theorem tyV_is {pins:List (Addr×Obj)} {σ:St} {H:Hp} {s:Shared} {T:String} {x:V} {v:Value} (I:Inv X pins σ H s) (r:RelV x v) (ty:tyV X.K T x H):
  s.TypeIs v T∧∀a,v=.ref a→∃ob,s.heap.get? a=some ob∧ob.dict=none:=by
 cases x with
 | str z=>
  obtain ⟨t,rfl⟩:=r
  cases (show T="str" from ty)
  exact ⟨typeIs_str s z t,fun _ e=>nomatch e⟩
 | int i=>
  obtain ⟨t,rfl⟩:=r
  cases (show T="int" from ty)
  exact ⟨typeIs_int s i t,fun _ e=>nomatch e⟩
 | ref p=>
  cases r
  rcases ty with ⟨rfl,xs,hq⟩ | ⟨rfl,o,hk,hc,hd⟩ | ⟨rfl,hk⟩ | ⟨rfl,S,n,hk⟩
  ·obtain ⟨its,_,pl,_⟩:=I.list hq
   refine ⟨pl.isList.typeIs,fun a e=>?_⟩
   cases e
   obtain ⟨o,n,e,c,hd,_⟩:=pl
   exact ⟨o,e,hd⟩
  ·refine ⟨⟨o,I.kIn p o hk,hc⟩,fun a e=>?_⟩
   cases e
   exact ⟨o,I.kIn _ o hk,hd⟩
  ·have z:∃o,s.heap.get? p=some o∧o.ExactDict:=by
    rcases hk with ⟨kvs,hk⟩ | ⟨kvs,hk⟩
    ·obtain ⟨_,_,_,_,o,_,_,e,ex,_⟩:=I.hok p _ hk
     exact ⟨o,e,ex⟩
    ·obtain ⟨_,_,_,_,o,_,_,e,ex,_⟩:=I.hok p _ hk
     exact ⟨o,e,ex⟩
   obtain ⟨o,e,ex⟩:=z
   refine ⟨⟨o,e,ex.1⟩,fun a e2=>?_⟩
   cases e2
   exact ⟨o,e,ex.2.1⟩
  ·obtain ⟨o,_,_,_,e,ex,_⟩:=I.hok p _ hk
   refine ⟨⟨o,e,ex.1⟩,fun a e2=>?_⟩
   cases e2
   exact ⟨o,e,ex.2.1⟩
 | _=>exact False.elim ty
def tBM (K:PySem.W.Frag) (T:String) (r:V→List V→Hp→VK→Prop) (to:TE) (t:TA):TE:=fun σ H Q=>to σ H fun x H1=>tyV K T x H1∧t σ H1 fun xs H2=>r x xs H2 Q
variable {o e:Expr} {es:List Expr} {to:TE} {t:TA} {name:Str} {apos cpos:Pos} {T id:String} {r:V→List V→Hp→VK→Prop}
theorem pe_bm (pa:PlainAttrs T) (slot:Slot T name id) (hty:typeOf (.builtin id)=pure (.type "method_descriptor")) (hm:MtR X id r) (ho:PE X o to) (ha:PA X (e::es) t)
  (hbase:attributeBase o name X.env (eval o X.env)=eval o X.env:=by rfl)
  (hfew:((backTo cpos (starEach (e::es) X.env)).all (fun x=>!x.1) && (backToKw cpos (keywordEach [] X.env)).all (fun x=>x.1.isSome)
   && decide ((e::es).length+([]:List Keyword).length+(if ([]:List Keyword).isEmpty then 0 else 1) < 30))=true:=by rfl)
  (hline:(apos.endLine == cpos.line)=true:=by rfl) (hs:starEach (e::es) X.env=(false,eval e X.env)::starEach es X.env:=by rfl) (hplain:(backTo cpos (starEach es X.env)).any (·.1)=false:=by rfl):
  PE X (.Call (.Attribute o name apos) (e::es) [] cpos) (tBM X.K T r to t):=by
 intro pins s σ H Q I h
 refine wpAny_Call_method_late hbase hfew hline rfl (thn (ho pins s σ H _ I h) fun v s1 ⟨x,H1,I1,r1,ty,q1⟩=>?_)
 obtain ⟨h1,h2⟩:=tyV_is I1 r1 ty
 refine ⟨T,id,pa,slot,hty,h1,h2,?_⟩
 have hA:=ha cpos pins s1 σ H1 _ I1 q1
 rw[hs] at hA ⊢
 refine Calls.callWith_builtin (by show (false || (backTo cpos (starEach es X.env)).any (·.1))=false; rw[hplain] <;> rfl) (Calls.evalArgs_plain ?_)
 exact thn hA fun us s2 ⟨vs,H2,I2,r2,q2⟩=>hm pins s2 σ H2 x vs v us Q I2 r1 r2 q2
end
end L2
namespace L2
open PySem PySem.Spec PyProof.Rows
def MtM (X:Cx) (id:String) (r:V→List V→Hp→VK→Prop):Prop:=
 ∀(pins:List (Addr×Obj)) (s:Shared) (σ:St) (H:Hp) (x:V) (xs:List V) (v:Value) (us:List Value) (Q:VK),Inv X pins σ H s→RelV x v→Vals xs us→r x xs H Q→
  wpAny (model X.prog X.w) X.A (call (.builtin id) (v::us)) (EP X pins σ Q) X.xe s
theorem Vals.one:∀{x:V} {us:List Value},Vals [x] us→∃u,us=[u]∧RelV x u
 | _,_,.cons r .nil=>⟨_,rfl,r⟩
section
variable {X:Cx} {pins:List (Addr×Obj)} {σ:St} {H:Hp} {s:Shared} {l b:Addr} {xs ys zs:List V}
theorem Inv.lset {its its':List Value} {n:Nat} {f:Array Value→Array Value} {t':Nat} (I:Inv X pins σ H s) (hH:H l=some (.lst xs))
  (e:s.heap.get? l=some { cls:=.type "list",data:=.seq its.toArray n }) (hf:f its.toArray=its'.toArray) (hv:Vals ys its') (hz:ys.length≤sizeLine):
  Inv X pins σ (upd H l (.lst ys)) { s with heap:=s.heap.update l (Obj.mapSeq f),toks:=t' }:=by
 have q:=PySem.IsL.update e f
 rw[hf] at q
 refine I.write (x:=l) (e:=l) (by rw[hH]; exact trivial) (.inl rfl) (fun b' u hb hu=>(Heap.get?_update_other s.heap (Obj.mapSeq f) (Ne.symm hb)).trans hu) ⟨_,q⟩ ?_
 exact ⟨hz,its',_,hv,q⟩
theorem Inv.lnew {its:List Value} {t':Nat} (I:Inv X pins σ H s) (hv:Vals ys its) (hz:ys.length≤sizeLine):
  Inv X pins σ (upd H s.heap.objs.size (.lst ys)) { s with heap:=s.heap.push { cls:=.type "list",data:=.seq its.toArray },toks:=t' }:=
 I.laid (fun _ _ q=>Heap.get?_push_of_some _ q) (Nat.le_refl _) ⟨hz,its,0,hv,Heap.get?_push_size _ rfl⟩
theorem Inv.fresh (I:Inv X pins σ H s):H s.heap.objs.size=none:=I.hok.fresh (Nat.le_refl _)
theorem Inv.lstM (I:Inv X pins σ H s) (hH:H l=some (.lst xs)):xs.length≤sizeLine∧∃(its:List Value) (n:Nat),Vals xs its∧xs.length=its.length∧s.heap.get? l=some { cls:=.type "list",data:=.seq its.toArray n }:=by
 obtain ⟨z,its,n,r,e⟩:=I.hok l _ hH
 exact ⟨z,its,n,r,r.length,e⟩
end
section
variable {X:Cx}
def rAppend:V→List V→Hp→VK→Prop:=fun x vs H Q=>∃l xs y,x=.ref l∧vs=[y]∧H l=some (.lst xs)∧xs.length < sizeLine∧Q .non (upd H l (.lst (xs++[y])))
theorem mt_append:MtM X "list.append" rAppend:=by
 intro pins s σ H x vs v us Q I rx rv h
 obtain ⟨l,xs,y,rfl,rfl,hH,hz,q⟩:=h
 cases rx
 obtain ⟨u,rfl,ru⟩:=rv.one
 obtain ⟨z,its,n,r,hl,e⟩:=I.lstM hH
 refine call_meets F.slot_list_append ⟨_,e,rfl⟩ F.entry_list_append (F.args_list_append_2 _ _) (PySem.list_append l its.toArray n u (by rw[List.size_toArray]; omega)) ⟨e,?_⟩
 refine ⟨.non,_,I.lset (its':=its++[u]) hH e (by simp) (r.append (.cons ru .nil)) ?_,rfl,q⟩
 rw[List.length_append,List.length_singleton]
 omega
def rCat:R2:=fun x y H Q=>∃l b xs zs,x=.ref l∧y=.ref b∧H l=some (.lst xs)∧H b=some (.lst zs)∧xs.length+zs.length≤sizeLine∧∀p,H p=none→Q (.ref p) (upd H p (.lst (xs++zs)))
theorem op_cat:OpR X (binaryOp .Add) rCat:=by
 intro pins s σ H x y v u Q I rx ry h
 obtain ⟨l,b,xs,zs,rfl,rfl,hH,hB,hz,q⟩:=h
 cases rx
 cases ry
 obtain ⟨z,its,n,r,hl,e⟩:=I.lstM hH
 obtain ⟨z2,its2,n2,r2,hl2,e2⟩:=I.lstM hB
 refine PySem.P.add_list e e2 ?_ (by rw[List.size_toArray,List.size_toArray]; omega)
 have ea:its.toArray++its2.toArray=(its++its2).toArray:=by simp
 rw[ea]
 exact ⟨.ref _,_,I.lnew (t':=s.toks) (r.append r2) (by rw[List.length_append]; omega),rfl,q _ I.fresh⟩
end
section
variable {prog:Program} {w:World} {A:Around} {E:Value→Shared→Prop} {s:Shared}
set_option maxRecDepth 100000 in
end
section
variable {X:Cx}
end
end L2
namespace Att
open PySem PySem.W PySem.Calls PyProof.Rows
theorem ints_of_wellAll {P:Params} {h:Heap}:∀(ns:List Int) (vs:List Value),WellAll P h vs (ns.map WData.int)→IntsAre vs ns:=by
 intro ns
 induction ns with
 | nil=>
  intro vs w
  rw[List.map_nil] at w
  cases w
  exact .nil
 | cons n ns ih=>
  intro vs w
  rw[List.map_cons] at w
  cases w with
  | cons a b=>
   cases a
   exact .cons _ _ (ih _ b)
theorem script_of {l:OpenLaw} {n:Nat} (hn:l.most=some n) {P:Params} {h:Heap} {args:List WData} {vals:List Value}
  (hpre:l.row.toRowW.claim.pre args=true) (hwl:WellAll P h vals args):
  ∃a vs ns,vals=[Value.ref a]∧args=[WData.list (ns.map WData.int)]∧h.get? a=some { cls:=.type "list",data:=.seq vs.toArray }∧IntsAre vs ns∧ns.length≤n:=by
 have hsh:WShape.hasAll [] args [.list .int]=true:=(pre_splitW hpre).1
 have hc:l.pre.holds [] { args:=args }=true:=(pre_splitW hpre).2
 obtain ⟨d,r,rfl,h1,h2⟩:=hasAllW_cons hsh
 obtain rfl:=hasAllW_nil h2
 obtain ⟨xs,rfl,h3⟩:=hasW_list h1
 obtain ⟨ns,rfl⟩:=items_int h3
 have hlen:ns.length≤n:=by
  unfold OpenLaw.pre at hc
  have h4:(WTm.not (.lt (.lit (.int (n:Int))) (.len (.arg 0)))).holds [] { args:=[.list (ns.map .int)] }=true:=by
   have h4:=(holds_andW hc).1
   rw[hn] at h4
   exact h4
  have h5:=condW_of h4 (w_not (w_lt w_lit (w_len_list (w_arg rfl))))
  rw[List.length_map] at h5
  refine Nat.le_of_not_lt fun q=>?_
  have q':(n:Int) < ((ns.length:Nat):Int):=by omega
  first
   | (rw[decide_eq_true q'] at h5; exact absurd h5 (by decide))
   | (simp at h5; omega)
 cases hwl with
 | cons w1 w2=>
  cases w2
  cases w1 with
  | list ho hall=>exact ⟨_,_,ns,rfl,rfl,ho,ints_of_wellAll ns _ hall,hlen⟩
theorem post_true (l:OpenLaw) (args:List WData):l.row.toRowW.claim.post args (.bool true) args=true:=
 postW_of (r:=l.row.toRowW) (X:=(true == true))
  (show WShape.has [] (.bool true) .bool=true by first | rfl | decide | simp[WShape.has,WShape.arms,WShape.armsAll])
  (show (WTm.eq .res (.lit (.bool true))).value [] { args:=args,res:=some (.bool true),after:=args }=some (.bool (true == true)) from w_eq_bool (w_res rfl) w_lit) rfl
theorem attach_call {l:OpenLaw} {n:Nat} {q:Program} {loose:List Str} {XP:(Str→Option Value)→Heap→Prop} {YP:World→Heap→Prop} {d:DefRec}
  (hn:l.most=some n) (hdf:d.params.defaults=[])
  (call:∀(w:World) (s₀ s₁:Shared) (mg mb:Str→Option Value) (fa:Addr) (o:Obj) (pm cd doc:Value) (a:Addr) (vs:List Value) (ns:List Int),
   Ground q loose [] XP w s₀ mg mb s₁.heap→YP w s₁.heap→
   s₁.heap.get? fa=some o→o.data=.func (docDef d.name d.params d.body d.scope pm cd doc)→s₁.heap.CodeRec cd d.name→mg d.name=some (.ref fa)→
   s₁.heap.get? a=some { cls:=.type "list",data:=.seq vs.toArray }→IntsAre vs ns→ns.length≤n→s₁.gens=#[]→
   codeAny (model l.prog w) callerA (.call (.ref fa) ⟨[.ref a],[]⟩) (fun r s'=>r=.ok (.ret (.bool true))∧OldK s₁.heap s'.heap∧s'.os=s₁.os∧AllBare s'.gens) s₁):
  WalkO q loose XP YP l.row.toRowW d [] (fun f vs=>PySem.call f vs):=by
 intro w s₀ s₁ mg mb G Y fa o pm cd doc dV kV ho hd hcd hD hmg hg args vals as hpre hlay hrd hwl hlo
 obtain rfl:dV=.none:=Dflts.none hD hdf
 obtain rfl:kV=.none:=Dflts.noKw hD
 obtain ⟨a,vs,ns,rfl,rfl,hobj,hints,hlen⟩:=script_of hn hpre hwl
 refine enter_call (codeAny_mono (call w s₀ s₁ mg mb fa o pm cd doc a vs ns G Y ho (fd_plain hd) hcd hmg hobj hints hlen hg) fun r s' hq=>?_)
 obtain ⟨rfl,h2,h3,h4⟩:=hq
 exact ⟨.inl ⟨.bool true,.bool true,[],rfl,fun _=>rfl,.bool true,post_true l _,fun _=>⟨List.Pairwise.nil,fun _ hm=>(nomatch hm)⟩⟩,h2,h3,h4⟩
section
variable {prog:Program} {w:World} {A:Around} {E:Value→Shared→Prop} {s:Shared} {K:Frag}
end
end Att
namespace L2
open PySem PySem.Spec PyProof.Rows
theorem vals_ints:∀{vs:List Value} {ns:List Int},IntsAre vs ns→Vals (ns.map V.int) vs
 | _,_,.nil=>.nil
 | _,_,.cons n t h=>.cons ⟨t,rfl⟩ (vals_ints h)
def Only (H:Hp):Prop:=∀b,H b=none∨∃o xs,H b=some (.frz o (.lst xs))
theorem law_call {P:Program} {w:World} {K:PySem.W.Frag} {mg mb:Str→Option Value} {CX:CXT} {k:Nat} {fa a:Addr} {fd:FuncData} {x:Str} {sp:Sp} {s₁:Shared} {vs:List Value} {ns:List Int}
  (KX:K.In s₁.heap) (hns:s₁.heap.Ns mainGlobals mg) (hb:s₁.heap.Ns builtinsNs mb) (hbb:∀x:Str,x≠"__name__"→mb x=bootBuiltins x) (hlim:s₁.heap.NoLimit) (hg:s₁.gens=#[])
  (ha:s₁.heap.get? a=some { cls:=.type "list",data:=.seq vs.toArray }) (hi:IntsAre vs ns) (hl:ns.length≤sizeLine) (hr:Room k callerA)
  (F:∀base:Heap,K.In base→base.Ns mainGlobals mg→FnOk P w K mg base CX k fa fd [x] sp) (hbind:∀(s:Shared) (u:Value),BindsTo s fd ⟨[u],[]⟩ [(x,u)])
  (hsp:∀H:Hp,Only H→SqL K H a (ns.map V.int)→sp [.ref a] H (fun v _=>v=.bl true) fun _ _ _=>False)
  (hCX:∀H e s',CX [] H s₁ (fun _ _ _=>False) e s'→False):
  codeAny (model P w) callerA (.call (.ref fa) ⟨[.ref a],[]⟩) (fun r s'=>r=.ok (.ret (.bool true))∧OldK s₁.heap s'.heap∧s'.os=s₁.os∧AllBare s'.gens) s₁:=by
 have rv:=vals_ints hi
 have lenV:=hi.length
 have core:∀H:Hp,Only H→SqL K H a (ns.map V.int)→HOk P w H s₁.heap→(∀b,H b≠none→b=a)→(H a≠none→K.lookup a=none)→
   codeAny (model P w) callerA (.call (.ref fa) ⟨[.ref a],[]⟩) (fun r s'=>r=.ok (.ret (.bool true))∧OldK s₁.heap s'.heap∧s'.os=s₁.os∧AllBare s'.gens) s₁:=by
  intro H hO hS hok hA hK
  have base_of:∀{b:Addr} {o:Obj},s₁.heap.get? b=some o→H b=none→(hidT s₁.heap H).get? b=some o:=fun e n=>hidT_get e n
  have noA:∀{b:Addr} {o:Obj} {es:Array DictEntry} {ep:Nat},s₁.heap.get? b=some o→o.data=.dict es ep→H b=none:=fun {b o es ep} e d=>by
   cases q:H b with
   | none=>rfl
   | some u=>
    have e':b=a:=hA b (by rw[q]; simp)
    subst e'
    rw[ha] at e; cases e
    have d':Data.seq vs.toArray _=Data.dict es ep:=d
    cases d'
  have nsK:∀{b:Addr} {m:Str→Option Value},s₁.heap.Ns b m→(hidT s₁.heap H).Ns b m:=fun {b m} ⟨o,es,ep,e,d,r⟩=>⟨o,es,ep,base_of e (noA e d),d,r⟩
  have hKb:K.In (hidT s₁.heap H):=fun b o e=>base_of (KX b o e) (by
   cases q:H b with
   | none=>rfl
   | some u=>
    have e':b=a:=hA b (by rw[q]; simp)
    subst e'
    rw[hK (by rw[q]; simp)] at e; cases e)
  have hM:Mod K mg (hidT s₁.heap H):=⟨hKb,nsK hns,⟨mb,nsK hb,hbb⟩,let ⟨mc,h1,h2⟩:=hlim; ⟨mc,nsK h1,h2⟩⟩
  have e0:Env0 P w K mg (hidT s₁.heap H) callerA [] s₁ H:=⟨rfl,hM,fun b o e=>of_hidT e,Nat.le_of_eq (hidT_size _ _),trivial,fun b hb=>absurd (show b∈([]:List Addr) from hb) (by simp),hok,.of_eq hg⟩
  refine codeAny_mono ((F _ hKb (nsK hns)).run callerA [] s₁ H ⟨[.ref a],[]⟩ [.ref a] [.ref a] _ _ hr e0 (hbind s₁ (.ref a)) (.cons rfl .nil) (hsp H hO hS)) fun r s' h=>?_
  cases r with
  | error e=>exact (hCX H e s' h).elim
  | ok fl=>
   cases fl with
   | next=>exact False.elim h
   | brk=>exact False.elim h
   | cont=>exact False.elim h
   | ret u=>
    obtain ⟨v,H',os,bare,un,hok',r',q⟩:=h
    have q':v=.bl true:=q
    subst q'
    obtain rfl:u=Value.bool true:=r'
    refine ⟨rfl,OldK.of_keep fun b o e=>?_,os,bare⟩
    cases q:H b with
    | none=>exact un.keep b o e q (by intro z; exact absurd (show b∈([]:List Addr) from z) (by simp)) (by simp)
    | some u=>
     rcases hO b with z | ⟨ob,xs,z⟩
     ·rw[q] at z; cases z
     ·have z2:=un.frzs b ob _ z
      obtain ⟨e1,_⟩:=hok b _ z
      obtain ⟨e2,_⟩:=hok' b _ z2
      rw[e] at e1; cases e1
      exact e2
 cases hk:K.lookup a with
 | some o=>
  have e:=KX a o hk
  rw[ha] at e
  cases e
  refine core (fun _=>none) (fun _=>.inl rfl) (.inr ⟨_,vs.toArray,_,hk,rfl,rfl,rfl,by rw[List.size_toArray,lenV]; exact hl,by simpa using rv⟩) (fun b u z=>by have z':(none:Option HO)=some u:=z; cases z') (fun b z=>absurd rfl z) fun z=>absurd rfl z
 | none=>
  refine core (fun b=>if b=a then some (.frz { cls:=.type "list",data:=.seq vs.toArray } (.lst (ns.map V.int))) else none) (fun b=>?_) (.inl (.inr ⟨{ cls:=.type "list",data:=.seq vs.toArray },if_pos rfl⟩)) (fun b u z=>?_) (fun b z=>?_) fun _=>hk
  ·by_cases hb:b=a
   ·exact .inr ⟨_,_,if_pos hb⟩
   ·exact .inl (if_neg hb)
  ·by_cases hb:b=a
   ·have z':=(if_pos hb).symm.trans z
    cases z'
    subst hb
    exact ⟨ha,by rw[List.length_map]; exact hl,vs,_,rv,ha⟩
   ·have z':=(if_neg hb).symm.trans z
    cases z'
  ·by_cases hb:b=a
   ·exact hb
   ·exact absurd (if_neg hb) z
end L2
namespace L2
open PySem PySem.Spec PyProof.Rows
abbrev KOf {K:PySem.W.Frag} {h:Heap} (_:K.In h):PySem.W.Frag:=K
theorem walk_of {l:PySem.W.OpenLaw} {n k:Nat} {q:Program} {loose:List Str} {XP:(Str→Option Value)→Heap→Prop} {YP:World→Heap→Prop} {d:DefRec} {K:Params→PySem.W.Frag} {CX:World→CXT} {sp:World→Sp} {x:Str}
  (hn:l.most=some n) (hn2:n≤sizeLine) (hdf:d.params.defaults=[]) (hr:Room k callerA)
  (hY:∀(w:World) (h:Heap),YP w h→(K w.params).In h)
  (F:∀(w:World) (mg:Str→Option Value) (fa:Addr) (h:Heap),(K w.params).In h→h.Ns mainGlobals mg→mg d.name=some (.ref fa)→
   ∃fd:FuncData,(∀(s:Shared) (u:Value),BindsTo s fd ⟨[u],[]⟩ [(x,u)])∧
    ∀base:Heap,(K w.params).In base→base.Ns mainGlobals mg→FnOk l.prog w (K w.params) mg base (CX w) k fa fd [x] (sp w))
  (hsp:∀(w:World) (H:Hp) (a:Addr) (ns:List Int),ns.length≤n→Only H→SqL (K w.params) H a (ns.map V.int)→sp w [.ref a] H (fun v _=>v=.bl true) fun _ _ _=>False)
  (hCX:∀(w:World) (H:Hp) (s:Shared) (e:Value) (s':Shared),CX w [] H s (fun _ _ _=>False) e s'→False):
  PySem.W.WalkO q loose XP YP l.row.toRowW d [] (fun f vs=>PySem.call f vs):=by
 refine Att.attach_call hn hdf fun w s₀ s₁ mg mb fa o pm cd doc a vs ns G Y ho hd hcd hmg hobj hints hlen hg=>?_
 have KX:=hY w _ Y
 obtain ⟨fd,hb,hF⟩:=F w mg fa _ KX G.T.g hmg
 exact law_call KX G.T.g G.T.b G.T.builtins G.T.nolimit hg hobj hints (Nat.le_trans hlen hn2) hr hF hb (fun H hO hS=>hsp w H a ns hlen hO hS) fun H e s'=>hCX w H s₁ e s'
end L2
namespace L2
open PySem PySem.Spec PyProof.Rows
def defArgs (s:Stmt):Arguments:=match s with
 | .FunctionDef _ a _ _ _ _ _ _ _ _=>a
 | _=>{ posonlyargs:=[],args:=[],vararg:=none,kwonlyargs:=[],kw_defaults:=[],kwarg:=none,defaults:=[] }
def defBody (s:Stmt):List Stmt:=match s with
 | .FunctionDef _ _ b _ _ _ _ _ _ _=>b
 | _=>[]
def defScope (s:Stmt):Scope:=match s with
 | .FunctionDef _ _ _ _ _ _ sc _ _ _=>sc
 | _=>{ kind:=.function,names:=[],isGenerator:=false,isCoroutine:=false }
abbrev CX0:CXT:=fun _ _ _ _ _ _=>False
abbrev E0:XK:=fun _ _ _=>False
theorem pass0 {X:Cx}:Passes CX0 X E0:=fun _ _ _ _ _ _ _ h=>h.elim
structure Fun (K:PySem.W.Frag) (x qual:Str) (st:Stmt) (f:Addr) (fd:FuncData):Prop where
 ex:∃(oc:Value) (od:Option Addr) (kV doc pm:Value) (an:Option Addr) (cdv ct:Value) (osl:Array (Option Value)),
  fd=PySem.W.fnOf x qual (defArgs st) (defBody st) (defScope st) .none kV doc pm an cdv ct∧K.lookup f=some ⟨oc,od,.func fd,osl⟩∧PySem.W.codeIn K cdv qual=true
 kp:PySem.W.keepIn K (.ref f)=true
section
variable {P:Program} {w:World} {K:PySem.W.Frag} {mg:Str→Option Value} {base:Heap}
theorem Fun.ok {x qual:Str} {st:Stmt} {f:Addr} {fd:FuncData} {N ps:List Str} {k:Nat} {sp:Sp} (F:Fun K x qual st f fd) (S:FnScope N ps (defScope st)) (len:∀vs H Q E,sp vs H Q E→vs.length=ps.length)
  (hbody:∀(cdv:Value) (A:Around) (outer:List Env) (s:Shared) (H:Hp) (vs:List V) (Q:VK) (E:XK),Room k (A.deeper (envOfC qual (defScope st) s.heap.objs.size f cdv))→sp vs H Q E→
   ∃t,PSs (cxOf CX0 P w K mg base N qual (defScope st) f cdv A outer s H E).nox (defBody st) t∧t { nx:=fun _ H'=>Q .non H',rt:=Q } (start N vs) H):FnOk P w K mg base CX0 (k+1) f fd ps sp:=by
 obtain ⟨oc,od,kV,doc,pm,an,cdv,ct,osl,rfl,lk,hcd⟩:=F.ex
 refine fn_of lk hcd S len fun A outer s H vs Q E hr hsp=>?_
 obtain ⟨t,h,q⟩:=hbody cdv A outer s H vs Q E hr hsp
 exact ⟨t,h.nox,q⟩
theorem Fun.binds {x qual:Str} {st:Stmt} {f:Addr} {fd:FuncData} {ps:List Str} (F:Fun K x qual st f fd)
  (h:∀(kV doc pm:Value) (an:Option Addr) (cdv ct:Value) (us:List Value),us.length=ps.length→bindArgs (PySem.W.fnOf x qual (defArgs st) (defBody st) (defScope st) .none kV doc pm an cdv ct) ⟨us,[]⟩=pure (ps.zip us)):Binds K fd ps []:=by
 obtain ⟨oc,od,kV,doc,pm,an,cdv,ct,osl,rfl,lk,hcd⟩:=F.ex
 exact .all (h kV doc pm an cdv ct)
theorem fun_mk {x qual:Str} {st:Stmt} {f:Addr} {oc:Value} {od an:Option Addr} {osl:Array (Option Value)} {kV doc pm cdv ct:Value} (l:K.lookup f=some ⟨oc,od,.func (PySem.W.fnOf x qual (defArgs st) (defBody st) (defScope st) .none kV doc pm an cdv ct),osl⟩)
  (c:PySem.W.codeIn K cdv qual=true) (k:PySem.W.keepIn K (.ref f)=true):Fun K x qual st f (PySem.W.fnOf x qual (defArgs st) (defBody st) (defScope st) .none kV doc pm an cdv ct):=⟨⟨oc,od,kV,doc,pm,an,cdv,ct,osl,rfl,l,c⟩,k⟩
end
theorem hu_of {A:Around} {k:Nat} (hr:Room k A):A.units+1 < cLine:=Nat.lt_of_le_of_lt (Nat.add_le_add_left (by decide:1≤64) _) hr.units
theorem small1000 {n:Nat} (h:n≤1000):n < sizeLine:=Nat.lt_of_le_of_lt h (by decide)
section
variable {X:Cx}
theorem pv (i:Nat) {x:Str} {pos:Pos} (hN:X.N[i]?=some x:=by rfl) (hv:Vis X.env.scope x:=by first | exact Or.inl rfl | exact Or.inr (Or.inl rfl) | exact Or.inr (Or.inr rfl)) (hd:(x == ("__debug__":Str))=false:=by decide)
  (hcd:(x == ("__classdict__":Str))=false:=by decide):PE X (.Name x pos) (tVar i):=pe_var hN hv hd hcd
end
theorem iteF {A B:Prop} (h:B):if false=true then A else B:=by
 rw[if_neg Bool.false_ne_true]
 exact h
theorem iteT {A B:Prop} (h:A):if true=true then A else B:=by
 rw[if_pos rfl]
 exact h
def Same (H H':Hp):Prop:=∀b o,H b=some o→H' b=some o
theorem Same.refl (H:Hp):Same H H:=fun _ _ h=>h
theorem Same.trans {H H1 H2:Hp} (a:Same H H1) (b:Same H1 H2):Same H H2:=fun c o h=>b c o (a c o h)
theorem Same.free {H H':Hp} (e:Same H H') {l:Addr} (h:H' l=Option.none):H l=Option.none:=by
 cases q:H l with
 | none=>rfl
 | some o=>
  rw[e l o q] at h
  cases h
theorem Same.seq {K:PySem.W.Frag} {H H':Hp} {a:Addr} {xs:List V} (e:Same H H') (h:SqL K H a xs):SqL K H' a xs:=by
 rcases h with (h | ⟨o,h⟩) | h
 ·exact .inl (.inl (e _ _ h))
 ·exact .inl (.inr ⟨o,e _ _ h⟩)
 ·exact .inr h
end L2
namespace GS
end GS
set_option maxHeartbeats 4000000
namespace L2
open PySem PySem.Spec PyProof.Rows PySem.Builtin PySem.Builtin.Str
section
variable {X:Cx}
def rSlS:V→Option Int→Option Int→Hp→VK→Prop:=fun x lo hi H Q=>∃z,x=.str z∧z.length≤sizeLine∧Q (.str (StrLaws.sliceText z lo hi)) H
theorem sliceText_le (x:Str) (l u:Option Int):(StrLaws.sliceText x l u).length≤x.length:=Txt.slice_le x l u
theorem sl_str:SlR X rSlS:=by
 intro pins s σ H x v vl vu lo hi sl Q I rx hs pl pu h
 obtain ⟨z,rfl,hz,q⟩:=h
 obtain ⟨t,rfl⟩:=rx
 have fin:∀t' k,EP X pins σ Q (.str (StrLaws.sliceText z lo hi) t') { s with toks:=k }:=fun t' k=>⟨.str _,H,I.tok _,⟨_,rfl⟩,q⟩
 refine ⟨"str",_,F.slot_str_getitem.lookup,typeIs_str _ _ _,?_⟩
 cases pl with
 | none=>
  cases pu with
  | none=>exact wpAny_getItem_str_slice (l:=none) (u:=none) (st:=none) hs rfl (post_val_or_str ⟨Nat.le_trans (sliceText_le z _ _) hz,fin⟩)
  | int j uj=>exact wpAny_getItem_str_slice (l:=none) (u:=some (j,uj)) (st:=none) hs rfl (post_val_or_str ⟨Nat.le_trans (sliceText_le z _ _) hz,fin⟩)
 | int i ui=>
  cases pu with
  | none=>exact wpAny_getItem_str_slice (l:=some (i,ui)) (u:=none) (st:=none) hs rfl (post_val_or_str ⟨Nat.le_trans (sliceText_le z _ _) hz,fin⟩)
  | int j uj=>exact wpAny_getItem_str_slice (l:=some (i,ui)) (u:=some (j,uj)) (st:=none) hs rfl (post_val_or_str ⟨Nat.le_trans (sliceText_le z _ _) hz,fin⟩)
theorem strsAre_of:∀{ys:List Str} {us:List Value},Vals (ys.map V.str) us→StrsAre us ys
 | [],_,.nil=>.nil
 | y::ys,_,.cons r rr=>by
  obtain ⟨t,rfl⟩:=r
  exact .cons y t (strsAre_of rr)
theorem mt_join:MtR X "str.join" (fun x xs H Q=>∃z p ys,x=.str z∧xs=[.ref p]∧SqL X.K H p (ys.map V.str)∧(ys.map (·.length)).sum+ys.length * z.length≤16777216∧Q (.str (Txt.join z ys)) H):=by
 intro pins s σ H x xs v us Q I rx rs h
 obtain ⟨z,p,ys,rfl,rfl,hq,hok,q⟩:=h
 obtain ⟨t,rfl⟩:=rx
 obtain ⟨u,rfl,ru⟩:=vals1 rs
 cases ru
 obtain ⟨its,r,pl,hz⟩:=I.list hq
 exact join_list pl.isList (by simpa using strsAre_of r) hok fun t' k=>⟨.str _,H,I.tok _,⟨_,rfl⟩,q⟩
end
end L2
namespace PySem
section
variable {prog:Program} {w:World} {A:Around} {E:Value→Shared→Prop} {R:Result→Shared→Prop} {s:Shared}
end
end PySem
namespace L2
open PySem PySem.Spec PyProof.Rows PySem.Builtin PySem.Builtin.Str
section
variable {X:Cx} {tg:Expr}
end
def blk (X:Cx) (scope:Scope) (cl:List (Str×Addr)) (C:Addr) (N':List Str) (s0:Shared) (H0:Hp) (fp:List Addr):Cx:=
 { X with N:=N',s₀:=s0,H₀:=H0,env:=compEnvC scope cl C X.env,outer:=X.stack,stack:=X.stack,ex:=fp,fn:=fun _=>false,pn:=[],xe:=fun _ _=>False }
section
variable {X:Cx}
end
end L2
namespace L2
open PySem PySem.Spec PyProof.Rows PySem.Builtin PySem.Builtin.Str
section
variable {X:Cx}
theorem vals_bools:∀{bs:List Bool} {us:List Value},Vals (bs.map V.bl) us→us=bs.map Value.bool
 | [],_,.nil=>rfl
 | b::bs,_,.cons r rr=>by
  have e:_=Value.bool b:=r
  rw[e,vals_bools rr]; rfl
theorem all_getD (bs:List Bool):(List.range bs.length).all (fun j=>(bs[j]?).getD true)=bs.all id:=by
 rw[Bool.eq_iff_iff,List.all_eq_true,List.all_eq_true]
 constructor
 ·intro h x hx
  obtain ⟨i,hi,rfl⟩:=List.mem_iff_getElem.mp hx
  have:=h i (List.mem_range.mpr hi)
  simpa [hi] using this
 ·intro h j hj
  have hj':=List.mem_range.mp hj
  have:=h _ (List.getElem_mem hj')
  simpa [hj'] using this
theorem call_all (hc:X.calm=true):CallR X (.builtin "all") (fun xs H Q=>∃(p:Addr) (bs:List Bool),xs=[.ref p]∧SqL X.K H p (bs.map V.bl)∧Q (.bl (bs.all id)) H):=by
 intro pins s σ H xs us Q I r h
 obtain ⟨p,bs,rfl,hq,q⟩:=h
 obtain ⟨u,rfl,ru⟩:=vals1 r
 cases ru
 obtain ⟨its,rv,pl,hz⟩:=I.list hq
 have ei:=vals_bools rv
 subst ei
 have hpl:p < s.heap.objs.size:=let ⟨o,n,e,_⟩:=pl; Heap.lt_size e
 refine call_all_walk (wpAny_pyIter_list pl.isList ?_)
 refine ⟨s.heap.objs.size,[s.heap.objs.size,p],[s.heap.objs.size],(bs.map Value.bool).toArray.size,_,_,(fun j=>(bs[j]?).getD true),rfl,
  Walks.list (A:=X.A.in1) (I.ok.hd hc) _ p (Nat.ne_of_lt hpl) (bs.map Value.bool).toArray,⟨⟨_,Heap.get?_push_size _ rfl,rfl,rfl⟩,?_⟩,fun i v s' Q' E' hP hQ'=>?_,fun h' tk k=>?_⟩
 ·obtain ⟨o,ho,r⟩:=pl.isList
  exact ⟨o,Heap.get?_push_of_some _ ho,r⟩
 ·have hP':(bs.map Value.bool)[i]?=some v:=by simpa using hP
  rw[List.getElem?_map] at hP'
  cases e:bs[i]? with
  | none=>rw[e] at hP'; cases hP'
  | some b=>
   rw[e] at hP'
   have e':Value.bool b=v:=by simpa using hP'
   subst e'
   have hQ2:Q' b s':=by simpa [e] using hQ'
   exact wpAny_truthy_bool hQ2
 ·have e1:(bs.map Value.bool).toArray.size=bs.length:=by simp
  rw[e1,all_getD bs]
  refine ⟨.bl _,H,I.kept fun b o e=>k b o ?_ (Heap.get?_push_of_some _ e),rfl,q⟩
  intro hm
  exact Nat.ne_of_lt (Heap.lt_size e) (List.mem_singleton.mp hm)
theorem Inv.big {pins:List (Addr×Obj)} {σ:St} {H:Hp} {s:Shared} (I:Inv X pins σ H s):sysModules < s.heap.objs.size:=by
 have h:mainGlobals < s.heap.objs.size:=(I.mod.glob.keeps I.bk).lt
 exact Nat.lt_trans (by decide) h
theorem dk_empty {P:Program} {w:World} {H:Hp} (h:Heap) (hb:sysModules < h.objs.size):ObjOk P w H (h.push { cls:=.type "dict",data:=.dict #[] }) h.objs.size (.dK []):=
 ⟨Nat.zero_le _,beq_eq_false_iff_ne.mpr (Ne.symm (Nat.ne_of_lt hb)),[],.nil,Heap.DictOf.new h⟩
def tDNewK:TE:=fun _ H Q=>∀p,H p=none→Q (.ref p) (upd H p (.dK []))
theorem pe_dnewK {pos:Pos}:PE X (.Dict [] [] pos) tDNewK:=fun pins s σ H Q I h=>
 wpAny_Dict_empty ⟨.ref s.heap.objs.size,_,I.laid (a:=s.heap.objs.size) (o:=.dK []) (t':=s.toks) (fun _ _ q=>Heap.get?_push_of_some _ q) (Nat.le_refl _) (dk_empty s.heap I.big),rfl,h _ (I.hok.fresh (Nat.le_refl _))⟩
end
end L2
namespace GS
open PySem L2 PyProof.Rows
structure Def (P:Program) (w:World) (K:PySem.W.Frag) (mg:Str→Option Value) (base:Heap) (name:Str) (ps:List Str) (k:Nat) (sp:Sp):Prop where
 ex:∃(f:Addr) (fd:FuncData),mg name=some (.ref f)∧PySem.W.keepIn K (.ref f)=true∧Binds K fd ps []∧FnOk P w K mg base CX0 k f fd ps sp
theorem pe_def {X:Cx} {name:Str} {ps:List Str} {k k':Nat} {sp:Sp} {e:Expr} {es:List Expr} {t:TA} {p pos:Pos} (F:Def X.prog X.w X.K X.mg X.base name ps k sp) (hr:Room k' X.A) (hk:k≤k') (hg:Gl X name) (ha:PA X (e::es) t)
  (hdb:(name == ("__debug__":Str))=false:=by decide) (he:starEach (e::es) X.env=(false,eval e X.env)::starEach es X.env:=by rfl) (hpl:(backTo pos (starEach es X.env)).any (·.1)=false:=by rfl):
  PE X (.Call (.Name name p) (e::es) [] pos) (tCall sp [] E0 t):=by
 obtain ⟨f,fd,h1,h2,h3,h4⟩:=F.ex
 exact pe_call (h4.mono hk) hr hg h1 h2 h3 .nil pass0 ha hdb he hpl
theorem def_mk {P:Program} {w:World} {K:PySem.W.Frag} {mg:Str→Option Value} {base:Heap} {name:Str} {ps:List Str} {k:Nat} {sp:Sp} {st:Stmt} {f:Addr} {fd:FuncData} (F:Fun K name name st f fd) (hm:mg name=some (.ref f)) (hb:Binds K fd ps []) (h:FnOk P w K mg base CX0 k f fd ps sp):
  Def P w K mg base name ps k sp:=⟨f,fd,hm,F.kp,hb,h⟩
theorem pe_gint {X:Cx} {x:Str} {z:Int} {pos:Pos} (hg:Gl X x) (hm:∃t,X.mg x=some (.int z t)) (hd:(x == ("__debug__":Str))=false:=by decide):PE X (.Name x pos) (tC (.int z)):=by
 obtain ⟨t,e⟩:=hm
 exact pe_glob hg e ⟨t,rfl⟩ hd
theorem same_new {H:Hp} {p:Addr} (h:H p=none) (o:HO):Same H (upd H p o):=fun b u q=>by rw[upd_ne (ne_of_none q h)]; exact q
theorem same_upd {H H':Hp} {p:Addr} (e:Same H H') (h:H p=none) (o:HO):Same H (upd H' p o):=fun b u q=>by rw[upd_ne (ne_of_none q h)]; exact e b u q
theorem small {n:Nat} (h:n≤1000000):n≤sizeLine:=by rw[sizeLine_eq]; omega
end GS
namespace L3
open PySem PySem.Spec PyProof.Rows L2
@[irreducible] def LE (X:Cx) (e:Expr) (t:TE):Prop:=PE X e t
@[irreducible] def LT (X:Cx) (e:Expr) (t:TT):Prop:=PT X e t
@[irreducible] def LW (X:Cx) (e:Expr) (t:TT):Prop:=PW X e t
@[irreducible] def LA (X:Cx) (es:List Expr) (t:TA):Prop:=PA X es t
@[irreducible] def LO (X:Cx) (e:Option Expr) (t:TO):Prop:=PO X e t
@[irreducible] def LG (X:Cx) (e:Expr) (t:TG):Prop:=PG X e t
@[irreducible] def LGs (X:Cx) (es:List Expr) (t:TGs):Prop:=PGs X es t
@[irreducible] def LI (X:Cx) (tg e:Expr) (t:TI):Prop:=PI X tg e t
@[irreducible] def LS (X:Cx) (st:Stmt) (t:TS):Prop:=PS X st t
@[irreducible] def LSs (X:Cx) (st:List Stmt) (t:TS):Prop:=PSs X st t
section
variable {X:Cx} {e a b c o tg:Expr} {es rest:List Expr} {oe lo hi:Option Expr} {st:Stmt} {sts:List Stmt} {te ta tb to:TE} {tA tB' tc:TT} {tl th:TO} {t:TA} {ts us:TS} {tg':TG} {tgs:TGs} {wi:TI} {pos p p2 apos cpos:Pos}
theorem LE.mk (h:PE X e te):LE X e te:=by unfold LE; exact h
theorem LE.out (h:LE X e te):PE X e te:=by unfold LE at h; exact h
theorem LT.mk (h:PT X e tA):LT X e tA:=by unfold LT; exact h
theorem LT.out (h:LT X e tA):PT X e tA:=by unfold LT at h; exact h
theorem LW.mk (h:PW X e tA):LW X e tA:=by unfold LW; exact h
theorem LW.out (h:LW X e tA):PW X e tA:=by unfold LW at h; exact h
theorem LA.mk (h:PA X es t):LA X es t:=by unfold LA; exact h
theorem LA.out (h:LA X es t):PA X es t:=by unfold LA at h; exact h
theorem LO.mk (h:PO X oe tl):LO X oe tl:=by unfold LO; exact h
theorem LO.out (h:LO X oe tl):PO X oe tl:=by unfold LO at h; exact h
theorem LG.mk (h:PG X e tg'):LG X e tg':=by unfold LG; exact h
theorem LG.out (h:LG X e tg'):PG X e tg':=by unfold LG at h; exact h
theorem LGs.mk (h:PGs X es tgs):LGs X es tgs:=by unfold LGs; exact h
theorem LGs.out (h:LGs X es tgs):PGs X es tgs:=by unfold LGs at h; exact h
theorem LI.mk (h:PI X tg e wi):LI X tg e wi:=by unfold LI; exact h
theorem LI.out (h:LI X tg e wi):PI X tg e wi:=by unfold LI at h; exact h
theorem LS.mk (h:PS X st ts):LS X st ts:=by unfold LS; exact h
theorem LS.out (h:LS X st ts):PS X st ts:=by unfold LS at h; exact h
theorem LSs.mk (h:PSs X sts ts):LSs X sts ts:=by unfold LSs; exact h
theorem LSs.out (h:LSs X sts ts):PSs X sts ts:=by unfold LSs at h; exact h
theorem pe_int {i:Int} {j:Nat}:LE X (.Constant (.int i) j pos) (tC (.int i)):=.mk L2.pe_int
theorem pe_bl {b:Bool} {j:Nat}:LE X (.Constant (.bool b) j pos) (tC (.bl b)):=.mk L2.pe_bl
theorem pe_non {j:Nat}:LE X (.Constant .none j pos) (tC .non):=.mk L2.pe_non
theorem pe_str {x:Str} {j:Nat}:LE X (.Constant (.str x) j pos) (tC (.str x)):=.mk L2.pe_str
theorem pv (i:Nat) {x:Str} (hN:X.N[i]?=some x:=by rfl) (hv:Vis X.env.scope x:=by first | exact Or.inl rfl | exact Or.inr (Or.inl rfl) | exact Or.inr (Or.inr rfl)) (hd:(x == ("__debug__":Str))=false:=by decide)
  (hcd:(x == ("__classdict__":Str))=false:=by decide):LE X (.Name x pos) (tVar i):=.mk (L2.pv i hN hv hd hcd)
theorem pe_glob {x:Str} {v:V} {u:Value} (hg:Gl X x) (hm:X.mg x=some u) (r:RelV v u) (hd:(x == ("__debug__":Str))=false:=by decide):LE X (.Name x pos) (tC v):=.mk (L2.pe_glob hg hm r hd)
theorem pe_bltn {x:Str} {v:V} {u:Value} (hg:Gl X x) (hm:X.mg x=none) (hv:bootBuiltins x=some u) (r:RelV v u) (hn:x≠"__name__":=by decide) (hd:(x == ("__debug__":Str))=false:=by decide):LE X (.Name x pos) (tC v):=.mk (L2.pe_bltn hg hm hv r hn hd)
theorem pe_gint {x:Str} {z:Int} (hg:Gl X x) (hm:∃t,X.mg x=some (.int z t)) (hd:(x == ("__debug__":Str))=false:=by decide):LE X (.Name x pos) (tC (.int z)):=.mk (GS.pe_gint hg hm hd)
theorem pe_op {op:Operator} {r:R2} (ho:OpR X (binaryOp op) r) (ha:LE X a ta) (hb:LE X b tb):LE X (.BinOp a op b pos) (tOp r ta tb):=.mk (L2.pe_op ho ha.out hb.out)
theorem pe_un {op:UnaryOp} {r:V→Hp→VK→Prop} (ho:UnR X (unaryOp op) r) (ha:LE X a ta):LE X (.UnaryOp op a pos) (tUn r ta):=.mk (L2.pe_un ho ha.out)
theorem pe_cmpR {op:CmpOp} {r:R2} (ho:OpR X (compareOp op) r) (ha:LE X a ta) (hb:LE X b tb) (hm:behindInMarks op b=false):LE X (.Compare a [op] [b] pos) (tOp r ta tb):=.mk (L2.pe_cmpR ho ha.out hb.out hm)
theorem pe_one {op:BoolOp} (h:LE X a te):LE X (.BoolOp op [a] pos) te:=.mk (L2.pe_one h.out)
theorem pe_and (ha:LE X a ta) (hb:LE X (.BoolOp .And (b::rest) pos) tb):LE X (.BoolOp .And (a::b::rest) pos) (tAndV ta tb):=.mk (L2.pe_and ha.out hb.out)
theorem pe_or (ha:LE X a ta) (hb:LE X (.BoolOp .Or (b::rest) pos) tb):LE X (.BoolOp .Or (a::b::rest) pos) (tOrV ta tb):=.mk (L2.pe_or ha.out hb.out)
theorem pe_ifExp (hc:LT X c tA) (ha:LE X a ta) (hb:LE X b tb):LE X (.IfExp c a b pos) (tIf tA ta tb):=.mk (L2.pe_ifExp hc.out ha.out hb.out)
theorem pe_ix {r:R2} (hr:IxR X r) (ha:LE X a ta) (hb:LE X b tb) (hs:PlainIx b):LE X (.Subscript a b pos) (tOp r ta tb):=.mk (L2.pe_ix hr ha.out hb.out hs)
theorem po_none:LO X none tNoPart:=.mk L2.po_none
theorem po_some (h:LE X e te):LO X (some e) (tPart te):=.mk (L2.po_some h.out)
theorem pe_slice {r:V→Option Int→Option Int→Hp→VK→Prop} (hr:SlR X r) (he:LE X e te) (hl:LO X lo tl) (hu:LO X hi th):LE X (.Subscript e (.Slice lo hi none p2) pos) (tSl r te tl th):=.mk (L2.pe_slice hr he.out hl.out hu.out)
theorem pa_nil:LA X [] tNil:=.mk L2.pa_nil
theorem pa_cons (ha:LE X e te) (hr:LA X es t) (hs:starEach (e::es) X.env=(false,eval e X.env)::starEach es X.env:=by rfl):LA X (e::es) (tCons te t):=.mk (L2.pa_cons ha.out hr.out hs)
theorem pe_lst (h:LA X es t):LE X (.List es pos) (tLst t):=.mk (L2.pe_lst h.out)
theorem pe_tup {k:Nat} (h:LA X es t):LE X (.Tuple es k pos) (tTup t):=.mk (L2.pe_tup h.out)
theorem pe_callB {x:Str} {id:String} {r:List V→Hp→VK→Prop} (hc:CallR X (.builtin id) r) (hg:Gl X x) (hm:X.mg x=none) (hv:bootBuiltins x=some (.builtin id)) (ha:LA X (e::es) t) (hn:x≠"__name__":=by decide) (hdb:(x == ("__debug__":Str))=false:=by decide)
  (he:starEach (e::es) X.env=(false,eval e X.env)::starEach es X.env:=by rfl) (hpl:(backTo pos (starEach es X.env)).any (·.1)=false:=by rfl):LE X (.Call (.Name x p) (e::es) [] pos) (tCB r t):=.mk (L2.pe_callB hc hg hm hv ha.out hn hdb he hpl)
theorem pe_callTy {x:Str} {T:String} {r:List V→Hp→VK→Prop} (hc:CallR X (.type T) r) (hg:Gl X x) (hm:X.mg x=none) (hv:bootBuiltins x=some (.type T)) (ha:LA X (e::es) t) (hn:x≠"__name__":=by decide) (hdb:(x == ("__debug__":Str))=false:=by decide)
  (he:starEach (e::es) X.env=(false,eval e X.env)::starEach es X.env:=by rfl) (hpl:(backTo pos (starEach es X.env)).any (·.1)=false:=by rfl):LE X (.Call (.Name x p) (e::es) [] pos) (tCB r t):=.mk (L2.pe_callTy hc hg hm hv ha.out hn hdb he hpl)
theorem pe_bm {T id:String} {name:Str} {r:V→List V→Hp→VK→Prop} (pa:PlainAttrs T) (slot:Slot T name id) (hty:typeOf (.builtin id)=pure (.type "method_descriptor")) (hm:MtR X id r) (ho:LE X o to) (ha:LA X (e::es) t)
  (hbase:attributeBase o name X.env (eval o X.env)=eval o X.env:=by rfl)
  (hfew:((backTo cpos (starEach (e::es) X.env)).all (fun x=>!x.1) && (backToKw cpos (keywordEach [] X.env)).all (fun x=>x.1.isSome)
   && decide ((e::es).length+([]:List Keyword).length+(if ([]:List Keyword).isEmpty then 0 else 1) < 30))=true:=by rfl)
  (hline:(apos.endLine == cpos.line)=true:=by rfl) (hs:starEach (e::es) X.env=(false,eval e X.env)::starEach es X.env:=by rfl) (hplain:(backTo cpos (starEach es X.env)).any (·.1)=false:=by rfl):
  LE X (.Call (.Attribute o name apos) (e::es) [] cpos) (tBM X.K T r to t):=.mk (L2.pe_bm pa slot hty hm ho.out ha.out hbase hfew hline hs hplain)
theorem pe_def {name:Str} {ps:List Str} {k k':Nat} {sp:Sp} (F:GS.Def X.prog X.w X.K X.mg X.base name ps k sp) (hr:Room k' X.A) (hk:k≤k') (hg:Gl X name) (ha:LA X (e::es) t)
  (hdb:(name == ("__debug__":Str))=false:=by decide) (he:starEach (e::es) X.env=(false,eval e X.env)::starEach es X.env:=by rfl) (hpl:(backTo pos (starEach es X.env)).any (·.1)=false:=by rfl):
  LE X (.Call (.Name name p) (e::es) [] pos) (tCall sp [] E0 t):=.mk (GS.pe_def F hr hk hg ha.out hdb he hpl)
theorem pt_cmpR {op:CmpOp} {r:R2} (ho:OpR X (compareOp op) r) (ha:LE X a ta) (hb:LE X b tb) (hm:behindInMarks op b=false):LT X (.Compare a [op] [b] pos) (tTest (tOp r ta tb)):=.mk (L2.pt_cmpR ho ha.out hb.out hm)
theorem pt_val (h:LE X e te) (he:∀whole,isTrue e X.env whole=(do let v ← whole; standAt e.pos; holding [v] (truthy v)):=by intro _; rfl):LT X e (tB te):=.mk (L2.pt_val h.out he)
theorem pt_not (ha:LT X a tA):LT X (.UnaryOp .Not a pos) (tNot tA):=.mk (L2.pt_not ha.out)
theorem pw_and1 (ha:LT X a tA):LW X (.BoolOp .And [a] pos) tA:=.mk (L2.pw_and1 ha.out)
theorem pw_or1 (ha:LT X a tA):LW X (.BoolOp .Or [a] pos) tA:=.mk (L2.pw_or1 ha.out)
theorem pw_and (ha:LT X a tA) (hb:LW X (.BoolOp .And (b::rest) pos) tB'):LW X (.BoolOp .And (a::b::rest) pos) (tAnd tA tB'):=.mk (L2.pw_and ha.out hb.out)
theorem pw_or (ha:LT X a tA) (hb:LW X (.BoolOp .Or (b::rest) pos) tB'):LW X (.BoolOp .Or (a::b::rest) pos) (tOr tA tB'):=.mk (L2.pw_or ha.out hb.out)
theorem LW.pt (h:LW X e tA):LT X e tA:=.mk (L2.PW.pt h.out)
theorem pg_name {i:Nat} {x:Str} (hN:X.N.Nodup) (hi:X.N[i]?=some x) (hx:Loc X.env.scope x) (hf:X.fn x=true∨X.env.scope.names.lookup x=some .local:=by first | exact .inl rfl | exact .inr rfl | assumption):LG X (.Name x pos) (gName i):=.mk (L2.pg_name hN hi hx hf)
theorem pgs_nil:LGs X [] gNil:=.mk L2.pgs_nil
theorem pgs_cons (h1:LG X e tg') (h2:LGs X es tgs) (hs:(assignEach (e::es) X.env).map (·.2)=assign e X.env::(assignEach es X.env).map (·.2):=by rfl):LGs X (e::es) (gCons tg' tgs):=.mk (L2.pgs_cons h1.out h2.out hs)
theorem pg_tup {k n:Nat} (hc:X.calm=true) (h:LGs X es tgs) (hn:(assignEach es X.env).length=n:=by rfl) (hst:(assignEach es X.env).findIdx? (·.1)=none:=by rfl):LG X (.Tuple es k pos) (gTup X.K n tgs):=.mk (L2.pg_tup hc h.out hn hst)
theorem pi_list (hl:LE X e te):LI X tg e (iList X.K te):=.mk (L2.pi_list hl.out)
theorem pi_tup (hl:LE X e te):LI X tg e (iTup X.K te):=.mk (L2.pi_tup hl.out)
theorem pi_range1 (hg:Gl X "range") (hm:X.mg "range"=none) (ha:LA X [a] t) (hs:starEach [a] X.env=[(false,eval a X.env)]:=by rfl):LI X tg (.Call (.Name "range" p) [a] [] pos) (iRng1 t):=.mk (L2.pi_range1 hg hm ha.out hs)
theorem ps_ret (he:LE X e te):LS X (.Return (some e) pos) (tRet te):=.mk (L2.ps_ret he.out)
theorem ps_expr (he:LE X e te) (hs:swapsWith e none pos.line X.env=pure false:=by rfl):LS X (.Expr e pos) (tDrop te):=.mk (L2.ps_expr he.out hs)
theorem ps_set {i:Nat} {x:Str} {pos':Pos} (hN:X.N.Nodup) (hi:X.N[i]?=some x) (hx:Loc X.env.scope x) (he:LE X e te) (hs:swapsWith e (some (.Name x pos')) pos.line X.env=pure false:=by rfl)
  (hf:X.fn x=true∨X.env.scope.names.lookup x=some .local:=by first | exact .inl rfl | exact .inr rfl | assumption):LS X (.Assign [.Name x pos'] e pos) (tAsg te (gName i)):=.mk (L2.ps_set hN hi hx he.out hs hf)
theorem ps_asg (he:LE X e te) (hg:LG X tg tg') (hs:swapsWithSole [tg] e pos.line X.env=pure false:=by rfl) (hw:swappedStores [tg] e X.env=pure none:=by rfl) (h1:(assignEach [tg] X.env).map (·.2)=[assign tg X.env]:=by rfl):
  LS X (.Assign [tg] e pos) (tAsg te tg'):=.mk (L2.ps_asg he.out hg.out hs hw h1)
theorem ps_if {a b:List Stmt} (hc:LT X c tc) (ha:LSs X a ts) (hb:LSs X b us):LS X (.If c a b pos) (tIfS tc ts us):=.mk (L2.ps_if hc.out ha.out hb.out)
theorem ps_while {body:List Stmt} (hp:PassesOwn (model X.prog X.w) X.A X.env X.xe) (hc:LT X c tc) (hb:LSs X body ts):LS X (.While c body [] pos) (tWhile tc ts):=.mk (L2.ps_while hp hc.out hb.out)
theorem ps_for {iter:Expr} {body:List Stmt} (hp:PassesOwn (model X.prog X.w) X.A X.env X.xe) (hc:X.calm=true) (hi:LI X tg iter wi) (hg:LG X tg tg') (hb:LSs X body ts)
  (hs:∀x,foldedSetIterable iter X.env x=pure x:=by intro _; rfl):LS X (.For tg iter body [] pos) (tFor wi tg' ts):=.mk (L2.ps_for hp hc hi.out hg.out hb.out hs)
theorem ps_imp {t':TS} (h:LS X st ts) (hi:∀D σ H,t' D σ H→ts D σ H):LS X st t':=.mk fun pins s σ H D I q=>h.out pins s σ H D I (hi D σ H q)
theorem pss_nil:LSs X [] tNext:=.mk L2.pss_nil
theorem pss_cons (h1:LS X st ts) (h2:LSs X sts us):LSs X (st::sts) (tSeq ts us):=.mk (L2.pss_cons h1.out h2.out)
theorem pss_one (h1:LS X st ts):LSs X [st] ts:=.mk (L2.pss_one h1.out)
end
end L3
namespace L2
open PySem PySem.Spec PyProof.Rows
theorem Fun.okI {P:Program} {w:World} {K:PySem.W.Frag} {mg:Str→Option Value} {base:Heap} {x qual:Str} {st:Stmt} {f:Addr} {fd:FuncData} {N ps:List Str} {k:Nat} {sp:Sp} (F:Fun K x qual st f fd) (S:FnScope N ps (defScope st)) (len:∀vs H Q E,sp vs H Q E→vs.length=ps.length)
  (hbody:∀(cdv:Value) (A:Around) (outer:List Env) (s:Shared) (H:Hp) (vs:List V) (Q:VK) (E:XK),Room k (A.deeper (envOfC qual (defScope st) s.heap.objs.size f cdv))→sp vs H Q E→
   ∃t,L3.LSs (cxOf CX0 P w K mg base N qual (defScope st) f cdv A outer s H E).nox (defBody st) t∧t { nx:=fun _ H'=>Q .non H',rt:=Q } (start N vs) H):FnOk P w K mg base CX0 (k+1) f fd ps sp:=
 F.ok S len fun cdv A outer s H vs Q E hr h=>let ⟨t,h1,h2⟩:=hbody cdv A outer s H vs Q E hr h; ⟨t,h1.out,h2⟩
end L2
namespace GS
open PySem L2 PyProof.Rows
inductive D where
 | non | bl (b:Bool) | int (i:Int) | str (x:Str) | tup (xs:List D)
mutual
def At (K:PySem.W.Frag) (H:Hp):D→V→Prop
 | .non,v=>v=.non
 | .bl b,v=>v=.bl b
 | .int i,v=>v=.int i
 | .str x,v=>v=.str x
 | .tup ds,v=>∃p vs,v=.ref p∧SqT K H p vs∧AtAll K H ds vs
def AtAll (K:PySem.W.Frag) (H:Hp):List D→List V→Prop
 | [],vs=>vs=[]
 | d::ds,vs=>∃v r,vs=v::r∧At K H d v∧AtAll K H ds r
end
section
variable {K:PySem.W.Frag} {H H':Hp}
theorem At_tup {ds:List D} {v:V}:At K H (.tup ds) v↔∃p vs,v=.ref p∧SqT K H p vs∧AtAll K H ds vs:=by rw[At]
theorem AtAll_nil {vs:List V}:AtAll K H [] vs↔vs=[]:=by rw[AtAll]
theorem AtAll_cons {d:D} {ds:List D} {vs:List V}:AtAll K H (d::ds) vs↔∃v r,vs=v::r∧At K H d v∧AtAll K H ds r:=by rw[AtAll]
theorem At_non {v:V}:At K H .non v↔v=.non:=by rw[At]
theorem At_bl {b:Bool} {v:V}:At K H (.bl b) v↔v=.bl b:=by rw[At]
theorem At_int {i:Int} {v:V}:At K H (.int i) v↔v=.int i:=by rw[At]
theorem At_str {x:Str} {v:V}:At K H (.str x) v↔v=.str x:=by rw[At]
theorem Same.seqT {a:Addr} {xs:List V} (e:Same H H') (h:SqT K H a xs):SqT K H' a xs:=by
 rcases h with (h | ⟨o,h⟩) | h
 ·exact .inl (.inl (e _ _ h))
 ·exact .inl (.inr ⟨o,e _ _ h⟩)
 ·exact .inr h
mutual
theorem At.same (e:Same H H'):∀(d:D) (v:V),At K H d v→At K H' d v
 | .non,_,h=>At_non.mpr (At_non.mp h)
 | .bl _,_,h=>At_bl.mpr (At_bl.mp h)
 | .int _,_,h=>At_int.mpr (At_int.mp h)
 | .str _,_,h=>At_str.mpr (At_str.mp h)
 | .tup ds,_,h=>by
  obtain ⟨p,vs,rfl,h1,h2⟩:=At_tup.mp h
  exact At_tup.mpr ⟨p,vs,rfl,Same.seqT e h1,AtAll.same e ds vs h2⟩
theorem AtAll.same (e:Same H H'):∀(ds:List D) (vs:List V),AtAll K H ds vs→AtAll K H' ds vs
 | [],_,h=>AtAll_nil.mpr (AtAll_nil.mp h)
 | d::ds,_,h=>by
  obtain ⟨v,r,rfl,h1,h2⟩:=AtAll_cons.mp h
  exact AtAll_cons.mpr ⟨v,r,rfl,At.same e d v h1,AtAll.same e ds r h2⟩
end
theorem AtAll.len:∀{ds:List D} {vs:List V},AtAll K H ds vs→vs.length=ds.length
 | [],_,h=>by rw[AtAll_nil.mp h]; rfl
 | d::ds,_,h=>by
  obtain ⟨v,r,rfl,_,h2⟩:=AtAll_cons.mp h
  rw[List.length_cons,List.length_cons,AtAll.len h2]
theorem AtAll.get:∀{ds:List D} {vs:List V} {i:Nat} {d:D},AtAll K H ds vs→ds[i]?=some d→∃v,vs[i]?=some v∧At K H d v
 | [],_,i,d,_,e=>by simp at e
 | d0::ds,_,0,d,h,e=>by
  obtain ⟨v,r,rfl,h1,_⟩:=AtAll_cons.mp h
  have:d0=d:=by simpa using e
  subst this
  exact ⟨v,rfl,h1⟩
 | d0::ds,_,i+1,d,h,e=>by
  obtain ⟨v,r,rfl,_,h2⟩:=AtAll_cons.mp h
  obtain ⟨u,e1,e2⟩:=AtAll.get h2 (by simpa using e)
  exact ⟨u,by simpa using e1,e2⟩
theorem AtAll.append:∀{ds es:List D} {vs ws:List V},AtAll K H ds vs→AtAll K H es ws→AtAll K H (ds++es) (vs++ws)
 | [],_,_,_,h,h'=>by rw[AtAll_nil.mp h]; exact h'
 | d::ds,_,_,_,h,h'=>by
  obtain ⟨v,r,rfl,h1,h2⟩:=AtAll_cons.mp h
  exact AtAll_cons.mpr ⟨v,_,rfl,h1,AtAll.append h2 h'⟩
end
section
variable {X:Cx} {pins:List (Addr×Obj)} {σ:L2.St} {H:Hp} {s:Shared}
mutual
theorem At.one (I:Inv X pins σ H s):∀(d e:D) (v:V),At X.K H d v→At X.K H e v→d=e
 | .non,e,v,h,h'=>by
  rw[At_non.mp h] at h'
  cases e with
  | non=>rfl
  | tup ds=>obtain ⟨p,vs,z,_⟩:=At_tup.mp h'; cases z
  | bl b=>cases At_bl.mp h'
  | int i=>cases At_int.mp h'
  | str x=>cases At_str.mp h'
 | .bl b,e,v,h,h'=>by
  rw[At_bl.mp h] at h'
  cases e with
  | bl c=>cases At_bl.mp h'; rfl
  | tup ds=>obtain ⟨p,vs,z,_⟩:=At_tup.mp h'; cases z
  | non=>cases At_non.mp h'
  | int i=>cases At_int.mp h'
  | str x=>cases At_str.mp h'
 | .int i,e,v,h,h'=>by
  rw[At_int.mp h] at h'
  cases e with
  | int c=>cases At_int.mp h'; rfl
  | tup ds=>obtain ⟨p,vs,z,_⟩:=At_tup.mp h'; cases z
  | non=>cases At_non.mp h'
  | bl i=>cases At_bl.mp h'
  | str x=>cases At_str.mp h'
 | .str x,e,v,h,h'=>by
  rw[At_str.mp h] at h'
  cases e with
  | str c=>cases At_str.mp h'; rfl
  | tup ds=>obtain ⟨p,vs,z,_⟩:=At_tup.mp h'; cases z
  | non=>cases At_non.mp h'
  | bl i=>cases At_bl.mp h'
  | int x=>cases At_int.mp h'
 | .tup ds,e,v,h,h'=>by
  obtain ⟨p,vs,rfl,h1,h2⟩:=At_tup.mp h
  cases e with
  | tup es=>
   obtain ⟨q,ws,z,g1,g2⟩:=At_tup.mp h'
   cases z
   have e1:=I.tuple_inj h1 g1
   subst e1
   rw[AtAll.one I ds es vs h2 g2]
  | non=>cases At_non.mp h'
  | bl i=>cases At_bl.mp h'
  | int x=>cases At_int.mp h'
  | str x=>cases At_str.mp h'
theorem AtAll.one (I:Inv X pins σ H s):∀(ds es:List D) (vs:List V),AtAll X.K H ds vs→AtAll X.K H es vs→ds=es
 | [],[],_,_,_=>rfl
 | [],_::_,_,h,h'=>by
  rw[AtAll_nil.mp h] at h'
  obtain ⟨v,r,z,_⟩:=AtAll_cons.mp h'; cases z
 | d::ds,[],_,h,h'=>by
  rw[AtAll_nil.mp h'] at h
  obtain ⟨v,r,z,_⟩:=AtAll_cons.mp h; cases z
 | d::ds,e::es,_,h,h'=>by
  obtain ⟨v,r,rfl,h1,h2⟩:=AtAll_cons.mp h
  obtain ⟨v',r',z,g1,g2⟩:=AtAll_cons.mp h'
  cases z
  rw[At.one I d e v h1 g1,AtAll.one I ds es r h2 g2]
end
end
mutual
def eqD:D→D→Bool
 | .non,.non=>true
 | .bl a,.bl b=>a == b
 | .bl a,.int b=>(if a then 1 else 0) == b
 | .int a,.bl b=>a == (if b then 1 else 0)
 | .int a,.int b=>a == b
 | .str a,.str b=>a == b
 | .tup xs,.tup ys=>eqDs xs ys
 | _,_=>false
def eqDs:List D→List D→Bool
 | [],[]=>true
 | x::xs,y::ys=>eqD x y && eqDs xs ys
 | _,_=>false
end
mutual
def dep:D→Nat
 | .tup xs=>deps xs+1
 | _=>0
def deps:List D→Nat
 | []=>0
 | x::xs=>max (dep x) (deps xs)
end
theorem eqD_non_bl (b':Bool):eqD .non (.bl b')=false:=by rw[eqD] <;> nofun
theorem eqD_non_int (i':Int):eqD .non (.int i')=false:=by rw[eqD] <;> nofun
theorem eqD_non_str (x':Str):eqD .non (.str x')=false:=by rw[eqD] <;> nofun
theorem eqD_non_tup (xs':List D):eqD .non (.tup xs')=false:=by rw[eqD] <;> nofun
theorem eqD_bl_non (b:Bool):eqD (.bl b) .non=false:=by rw[eqD] <;> nofun
theorem eqD_bl_str (b:Bool) (x':Str):eqD (.bl b) (.str x')=false:=by rw[eqD] <;> nofun
theorem eqD_bl_tup (b:Bool) (xs':List D):eqD (.bl b) (.tup xs')=false:=by rw[eqD] <;> nofun
theorem eqD_int_non (i:Int):eqD (.int i) .non=false:=by rw[eqD] <;> nofun
theorem eqD_int_str (i:Int) (x':Str):eqD (.int i) (.str x')=false:=by rw[eqD] <;> nofun
theorem eqD_int_tup (i:Int) (xs':List D):eqD (.int i) (.tup xs')=false:=by rw[eqD] <;> nofun
theorem eqD_str_non (x:Str):eqD (.str x) .non=false:=by rw[eqD] <;> nofun
theorem eqD_str_bl (x:Str) (b':Bool):eqD (.str x) (.bl b')=false:=by rw[eqD] <;> nofun
theorem eqD_str_int (x:Str) (i':Int):eqD (.str x) (.int i')=false:=by rw[eqD] <;> nofun
theorem eqD_str_tup (x:Str) (xs':List D):eqD (.str x) (.tup xs')=false:=by rw[eqD] <;> nofun
theorem eqD_tup_non (xs:List D):eqD (.tup xs) .non=false:=by rw[eqD] <;> nofun
theorem eqD_tup_bl (xs:List D) (b':Bool):eqD (.tup xs) (.bl b')=false:=by rw[eqD] <;> nofun
theorem eqD_tup_int (xs:List D) (i':Int):eqD (.tup xs) (.int i')=false:=by rw[eqD] <;> nofun
theorem eqD_tup_str (xs:List D) (x':Str):eqD (.tup xs) (.str x')=false:=by rw[eqD] <;> nofun
theorem dep_non:dep .non=0:=by rw[dep] <;> nofun
theorem dep_bl (b:Bool):dep (.bl b)=0:=by rw[dep] <;> nofun
theorem dep_int (i:Int):dep (.int i)=0:=by rw[dep] <;> nofun
theorem dep_str (x:Str):dep (.str x)=0:=by rw[dep] <;> nofun
theorem dep_mem:∀{ds:List D} {i:Nat} {d:D},ds[i]?=some d→dep d≤deps ds
 | [],i,d,e=>by simp at e
 | x::xs,0,d,e=>by
  have:x=d:=by simpa using e
  subst this
  rw[deps]; exact Nat.le_max_left ..
 | x::xs,i+1,d,e=>by
  have:=dep_mem (ds:=xs) (i:=i) (d:=d) (by simpa using e)
  rw[deps]; exact Nat.le_trans this (Nat.le_max_right ..)
mutual
theorem eqD_refl:∀d:D,eqD d d=true
 | .non=>rfl
 | .bl b=>by rw[eqD]; exact beq_self_eq_true b
 | .int i=>by rw[eqD]; exact beq_self_eq_true i
 | .str x=>by rw[eqD]; exact beq_self_eq_true x
 | .tup xs=>by rw[eqD]; exact eqDs_refl xs
theorem eqDs_refl:∀ds:List D,eqDs ds ds=true
 | []=>by rw[eqDs]
 | d::ds=>by rw[eqDs,eqD_refl d,eqDs_refl ds]; rfl
end
theorem eqDs_iff:∀(ds es:List D),eqDs ds es=true↔ds.length=es.length∧∀(j:Nat) (d e:D),ds[j]?=some d→es[j]?=some e→eqD d e=true
 | [],[]=>by rw[eqDs]; simp
 | [],e::es=>by
  have h:eqDs [] (e::es)=false:=by rw[eqDs] <;> nofun
  rw[h]; simp
 | d::ds,[]=>by
  have h:eqDs (d::ds) []=false:=by rw[eqDs] <;> nofun
  rw[h]; simp
 | d::ds,e::es=>by
  rw[eqDs,Bool.and_eq_true,eqDs_iff ds es]
  constructor
  ·rintro ⟨h1,h2,h3⟩
   refine ⟨by simp[h2],fun j d' e' a b=>?_⟩
   cases j with
   | zero=>
    have e1:d=d':=by simpa using a
    have e2:e=e':=by simpa using b
    subst e1 e2; exact h1
   | succ j=>exact h3 j d' e' (by simpa using a) (by simpa using b)
  ·rintro ⟨h1,h2⟩
   exact ⟨h2 0 d e rfl rfl,by simpa using h1,fun j d' e' a b=>h2 (j+1) d' e' (by simpa using a) (by simpa using b)⟩
theorem eqDs_all (ds es:List D):((List.range (min ds.length es.length)).all (fun j=>eqD (ds.getD j .non) (es.getD j .non)) && ds.length == es.length)=eqDs ds es:=by
 rw[Bool.eq_iff_iff,Bool.and_eq_true,eqDs_iff,List.all_eq_true,beq_iff_eq]
 constructor
 ·rintro ⟨h1,h2⟩
  refine ⟨h2,fun j d e a b=>?_⟩
  have hj:j < ds.length:=(List.getElem?_eq_some_iff.mp a).1
  have:=h1 j (List.mem_range.mpr (by omega))
  rw[List.getD_eq_getElem?_getD,List.getD_eq_getElem?_getD,a,b] at this
  exact this
 ·rintro ⟨h1,h2⟩
  refine ⟨fun j hj=>?_,h1⟩
  have hj':=List.mem_range.mp hj
  have a:ds[j]?=some ds[j]:=List.getElem?_eq_getElem (by omega)
  have b:es[j]?=some es[j]:=List.getElem?_eq_getElem (by omega)
  rw[List.getD_eq_getElem?_getD,List.getD_eq_getElem?_getD,a,b]
  exact h2 j _ _ a b
section
variable {X:Cx} {pins:List (Addr×Obj)} {σ:L2.St} {H:Hp} {s:Shared}
theorem eqAt_D (I:Inv X pins σ H s):∀(n:Nat) (d e:D) (A:Around) (x y:V) (u v:Value),dep d≤n→RelV x u→RelV y v→At X.K H d x→At X.K H e y→A.units+n < cLine→SeqAt.EqAt A s u v (eqD d e):=by
 intro n
 induction n with
 | zero=>
  intro d e A x y u v hd rx ry hx hy hu
  cases d with
  | tup ds=>rw[dep] at hd; omega
  | non=>
   have ex:=At_non.mp hx; subst ex; cases rx
   cases e with
   | non=>have ey:=At_non.mp hy; subst ey; cases ry; rw[eqD]; exact SeqAt.EqAt.same _
   | bl b=>have ey:=At_bl.mp hy; subst ey; cases ry; rw[eqD_non_bl]; exact SeqAt.EqAt.none_bool b
   | int b=>have ey:=At_int.mp hy; subst ey; obtain ⟨t,rfl⟩:=ry; rw[eqD_non_int]; exact SeqAt.EqAt.none_int b t
   | str b=>have ey:=At_str.mp hy; subst ey; obtain ⟨t,rfl⟩:=ry; rw[eqD_non_str]; exact SeqAt.EqAt.none_str b t
   | tup es=>
    obtain ⟨p,vs,rfl,h1,_⟩:=At_tup.mp hy; cases ry
    obtain ⟨its,rv,ht,_⟩:=I.tuple h1
    rw[eqD_non_tup]; exact SeqAt.EqAt.none_tuple ht (by omega)
  | bl a=>
   have ex:=At_bl.mp hx; subst ex; cases rx
   cases e with
   | non=>have ey:=At_non.mp hy; subst ey; cases ry; rw[eqD_bl_non]; exact SeqAt.EqAt.bool_none a
   | bl b=>have ey:=At_bl.mp hy; subst ey; cases ry; rw[eqD]; exact SeqAt.EqAt.bool_bool a b
   | int b=>have ey:=At_int.mp hy; subst ey; obtain ⟨t,rfl⟩:=ry; rw[eqD]; exact SeqAt.EqAt.bool_int a b t
   | str b=>have ey:=At_str.mp hy; subst ey; obtain ⟨t,rfl⟩:=ry; rw[eqD_bl_str]; exact SeqAt.EqAt.bool_str a b t
   | tup es=>
    obtain ⟨p,vs,rfl,h1,_⟩:=At_tup.mp hy; cases ry
    obtain ⟨its,rv,ht,_⟩:=I.tuple h1
    rw[eqD_bl_tup]; exact SeqAt.EqAt.bool_tuple a ht (by omega)
  | int a=>
   have ex:=At_int.mp hx; subst ex; obtain ⟨t',rfl⟩:=rx
   cases e with
   | non=>have ey:=At_non.mp hy; subst ey; cases ry; rw[eqD_int_non]; exact SeqAt.EqAt.int_none a t'
   | bl b=>have ey:=At_bl.mp hy; subst ey; cases ry; rw[eqD]; exact SeqAt.EqAt.int_bool a t' b
   | int b=>have ey:=At_int.mp hy; subst ey; obtain ⟨t,rfl⟩:=ry; rw[eqD]; exact SeqAt.EqAt.int_int a t' b t
   | str b=>have ey:=At_str.mp hy; subst ey; obtain ⟨t,rfl⟩:=ry; rw[eqD_int_str]; exact SeqAt.EqAt.int_str a t' b t
   | tup es=>
    obtain ⟨p,vs,rfl,h1,_⟩:=At_tup.mp hy; cases ry
    obtain ⟨its,rv,ht,_⟩:=I.tuple h1
    rw[eqD_int_tup]; exact SeqAt.EqAt.int_tuple a t' ht (by omega)
  | str a=>
   have ex:=At_str.mp hx; subst ex; obtain ⟨t',rfl⟩:=rx
   cases e with
   | non=>have ey:=At_non.mp hy; subst ey; cases ry; rw[eqD_str_non]; exact SeqAt.EqAt.str_none a t'
   | bl b=>have ey:=At_bl.mp hy; subst ey; cases ry; rw[eqD_str_bl]; exact SeqAt.EqAt.str_bool a t' b
   | int b=>have ey:=At_int.mp hy; subst ey; obtain ⟨t,rfl⟩:=ry; rw[eqD_str_int]; exact SeqAt.EqAt.str_int a t' b t
   | str b=>have ey:=At_str.mp hy; subst ey; obtain ⟨t,rfl⟩:=ry; rw[eqD]; exact SeqAt.EqAt.str_str a t' b t
   | tup es=>
    obtain ⟨p,vs,rfl,h1,_⟩:=At_tup.mp hy; cases ry
    obtain ⟨its,rv,ht,_⟩:=I.tuple h1
    rw[eqD_str_tup]; exact SeqAt.EqAt.str_tuple a t' ht (by omega)
 | succ n ih=>
  intro d e A x y u v hd rx ry hx hy hu
  cases d with
  | tup ds=>
   obtain ⟨p,vs,rfl,h1,h2⟩:=At_tup.mp hx
   cases rx
   obtain ⟨its,rv,ht,_⟩:=I.tuple h1
   cases e with
   | non=>have ey:=At_non.mp hy; subst ey; cases ry; rw[eqD_tup_non]; exact SeqAt.EqAt.tuple_none ht (by omega)
   | bl b=>have ey:=At_bl.mp hy; subst ey; cases ry; rw[eqD_tup_bl]; exact SeqAt.EqAt.tuple_bool b ht (by omega)
   | int b=>have ey:=At_int.mp hy; subst ey; obtain ⟨t,rfl⟩:=ry; rw[eqD_tup_int]; exact SeqAt.EqAt.tuple_int b t ht (by omega)
   | str b=>have ey:=At_str.mp hy; subst ey; obtain ⟨t,rfl⟩:=ry; rw[eqD_tup_str]; exact SeqAt.EqAt.tuple_str b t ht (by omega)
   | tup es=>
    obtain ⟨q,ws,rfl,g1,g2⟩:=At_tup.mp hy
    cases ry
    obtain ⟨jts,rw',hq,_⟩:=I.tuple g1
    rw[eqD]
    by_cases hpq:p=q
    ·subst hpq
     have e1:=At.one I (.tup ds) (.tup es) (.ref p) hx hy
     injection e1 with e2
     rw[e2,eqDs_refl]
     exact SeqAt.EqAt.same _
    ·have l1:its.length=ds.length:=by rw[← rv.length]; exact AtAll.len h2
     have l2:jts.length=es.length:=by rw[← rw'.length]; exact AtAll.len g2
     have R:=SeqAt.RcAt.tuples (A:=A) (s:=s) (e:=fun j=>eqD (ds.getD j .non) (es.getD j .non)) (show s.heap.IsTuple p its.toArray from ht) (show s.heap.IsTuple q jts.toArray from hq) (by omega) (fun j k1 k2=>by
      have k1':j < ds.length:=by simpa [l1] using k1
      have k2':j < es.length:=by simpa [l2] using k2
      have a:ds[j]?=some ds[j]:=List.getElem?_eq_getElem k1'
      have b:es[j]?=some es[j]:=List.getElem?_eq_getElem k2'
      obtain ⟨x',ex,hx'⟩:=AtAll.get h2 a
      obtain ⟨y',ey,hy'⟩:=AtAll.get g2 b
      obtain ⟨u',eu,ru⟩:=rv.get ex
      obtain ⟨v',ev,rv2⟩:=rw'.get ey
      have e3:its.toArray[j]=u':=by
       have:its[j]?=some u':=eu
       have:=(List.getElem?_eq_some_iff.mp this).2
       simpa using this
      have e4:jts.toArray[j]=v':=by
       have:jts[j]?=some v':=ev
       have:=(List.getElem?_eq_some_iff.mp this).2
       simpa using this
      rw[e3,e4,List.getD_eq_getElem?_getD,List.getD_eq_getElem?_getD,a,b]
      have hdn:dep ds[j]≤n:=by
       have:=dep_mem a
       rw[dep] at hd
       omega
      exact ih ds[j] es[j] A.in1 x' y' u' v' hdn ru rv2 hx' hy' (by show A.units+1+n < cLine; omega))
     have e5:((List.range (min its.toArray.size jts.toArray.size)).all (fun j=>eqD (ds.getD j .non) (es.getD j .non)) && its.toArray.size == jts.toArray.size)=eqDs ds es:=by
      have a1:its.toArray.size=ds.length:=by rw[List.size_toArray,l1]
      have a2:jts.toArray.size=es.length:=by rw[List.size_toArray,l2]
      rw[a1,a2]; exact eqDs_all ds es
     rw[e5] at R
     exact SeqAt.EqAt.of_refs hpq R
  | non=>exact ih .non e A x y u v (by rw[dep_non]; exact Nat.zero_le _) rx ry hx hy (by omega)
  | bl a=>exact ih (.bl a) e A x y u v (by rw[dep_bl]; exact Nat.zero_le _) rx ry hx hy (by omega)
  | int a=>exact ih (.int a) e A x y u v (by rw[dep_int]; exact Nat.zero_le _) rx ry hx hy (by omega)
  | str a=>exact ih (.str a) e A x y u v (by rw[dep_str]; exact Nat.zero_le _) rx ry hx hy (by omega)
end
section
variable {K:PySem.W.Frag} {H:Hp}
theorem At.new {p:Addr} {ds:List D} {vs:List V} (hp:H p=none) (h:AtAll K H ds vs):At K (upd H p (.tup vs)) (.tup ds) (.ref p):=
 At_tup.mpr ⟨p,vs,rfl,SqT.of upd_same,AtAll.same (same_new hp _) ds vs h⟩
theorem At.ix {ds:List D} {v:V} {i:Nat} {d:D} (h:At K H (.tup ds) v) (hi:ds[i]?=some d):∃p vs w,v=.ref p∧SqT K H p vs∧atI vs (i:Int)=some w∧At K H d w:=by
 obtain ⟨p,vs,rfl,h1,h2⟩:=At_tup.mp h
 obtain ⟨w,e,hw⟩:=AtAll.get h2 hi
 exact ⟨p,vs,w,rfl,h1,atI_nat e,hw⟩
end
section
variable {X:Cx} {pins:List (Addr×Obj)} {σ:L2.St} {H:Hp} {s:Shared}
theorem items_eq (I:Inv X pins σ H s) {ds es:List D} {vs ws:List V} {its jts:List Value} {A:Around} {n:Nat} (rv:Vals vs its) (rw':Vals ws jts) (h2:AtAll X.K H ds vs) (g2:AtAll X.K H es ws) (hd:deps ds≤n) (hu:A.units+n < cLine):
  ∀j (k1:j < its.toArray.size) (k2:j < jts.toArray.size),SeqAt.EqAt A s its.toArray[j] jts.toArray[j] (eqD (ds.getD j .non) (es.getD j .non)):=by
 intro j k1 k2
 have l1:its.length=ds.length:=by rw[← rv.length]; exact AtAll.len h2
 have l2:jts.length=es.length:=by rw[← rw'.length]; exact AtAll.len g2
 have k1':j < ds.length:=by simpa [l1] using k1
 have k2':j < es.length:=by simpa [l2] using k2
 have a:ds[j]?=some ds[j]:=List.getElem?_eq_getElem k1'
 have b:es[j]?=some es[j]:=List.getElem?_eq_getElem k2'
 obtain ⟨x',ex,hx'⟩:=AtAll.get h2 a
 obtain ⟨y',ey,hy'⟩:=AtAll.get g2 b
 obtain ⟨u',eu,ru⟩:=rv.get ex
 obtain ⟨v',ev,rv2⟩:=rw'.get ey
 have e3:its.toArray[j]=u':=by
  have:=(List.getElem?_eq_some_iff.mp eu).2
  simpa using this
 have e4:jts.toArray[j]=v':=by
  have:=(List.getElem?_eq_some_iff.mp ev).2
  simpa using this
 rw[e3,e4,List.getD_eq_getElem?_getD,List.getD_eq_getElem?_getD,a,b]
 exact eqAt_D I n ds[j] es[j] A x' y' u' v' (Nat.le_trans (dep_mem a) hd) ru rv2 hx' hy' hu
theorem sizes_eq {ds es:List D} {vs ws:List V} {its jts:List Value} (rv:Vals vs its) (rw':Vals ws jts) (h2:AtAll X.K H ds vs) (g2:AtAll X.K H es ws):
  ((List.range (min its.toArray.size jts.toArray.size)).all (fun j=>eqD (ds.getD j .non) (es.getD j .non)) && its.toArray.size == jts.toArray.size)=eqDs ds es:=by
 have a1:its.toArray.size=ds.length:=by rw[List.size_toArray,← rv.length]; exact AtAll.len h2
 have a2:jts.toArray.size=es.length:=by rw[List.size_toArray,← rw'.length]; exact AtAll.len g2
 rw[a1,a2]; exact eqDs_all ds es
theorem rcAt_D (I:Inv X pins σ H s) (d e:D) (A:Around) (x y:V) (u v:Value) (rx:RelV x u) (ry:RelV y v) (hx:At X.K H d x) (hy:At X.K H e y) (hu:A.units+dep d < cLine):SeqAt.RcAt A s u v (eqD d e):=by
 cases d with
 | tup ds=>
  rw[dep] at hu
  obtain ⟨p,vs,rfl,h1,h2⟩:=At_tup.mp hx
  cases rx
  obtain ⟨its,rv,ht,_⟩:=I.tuple h1
  cases e with
  | non=>have ey:=At_non.mp hy; subst ey; cases ry; rw[eqD_tup_non]; exact SeqAt.RcAt.tuple_none ht (by omega)
  | bl b=>have ey:=At_bl.mp hy; subst ey; cases ry; rw[eqD_tup_bl]; exact SeqAt.RcAt.tuple_bool b ht (by omega)
  | int b=>have ey:=At_int.mp hy; subst ey; obtain ⟨t,rfl⟩:=ry; rw[eqD_tup_int]; exact SeqAt.RcAt.tuple_int b t ht (by omega)
  | str b=>have ey:=At_str.mp hy; subst ey; obtain ⟨t,rfl⟩:=ry; rw[eqD_tup_str]; exact SeqAt.RcAt.tuple_str b t ht (by omega)
  | tup es=>
   obtain ⟨q,ws,rfl,g1,g2⟩:=At_tup.mp hy
   cases ry
   obtain ⟨jts,rw',hq,_⟩:=I.tuple g1
   have R:=SeqAt.RcAt.tuples (A:=A) (s:=s) (e:=fun j=>eqD (ds.getD j .non) (es.getD j .non)) (show s.heap.IsTuple p its.toArray from ht) (show s.heap.IsTuple q jts.toArray from hq) (by omega)
    (items_eq I (A:=A.in1) (n:=deps ds) rv rw' h2 g2 (Nat.le_refl _) (by show A.units+1+deps ds < cLine; omega))
   rw[sizes_eq rv rw' h2 g2] at R
   rw[eqD]; exact R
 | non=>
  rw[dep_non] at hu
  have ex:=At_non.mp hx; subst ex; cases rx
  cases e with
  | non=>have ey:=At_non.mp hy; subst ey; cases ry; rw[eqD]; exact SeqAt.RcAt.none_none
  | bl b=>have ey:=At_bl.mp hy; subst ey; cases ry; rw[eqD_non_bl]; exact SeqAt.RcAt.none_bool b
  | int b=>have ey:=At_int.mp hy; subst ey; obtain ⟨t,rfl⟩:=ry; rw[eqD_non_int]; exact SeqAt.RcAt.none_int b t
  | str b=>have ey:=At_str.mp hy; subst ey; obtain ⟨t,rfl⟩:=ry; rw[eqD_non_str]; exact SeqAt.RcAt.none_str b t
  | tup es=>
   obtain ⟨p,vs,rfl,h1,_⟩:=At_tup.mp hy; cases ry
   obtain ⟨its,rv,ht,_⟩:=I.tuple h1
   rw[eqD_non_tup]; exact SeqAt.RcAt.none_tuple ht (by omega)
 | bl a=>
  rw[dep_bl] at hu
  have ex:=At_bl.mp hx; subst ex; cases rx
  cases e with
  | non=>have ey:=At_non.mp hy; subst ey; cases ry; rw[eqD_bl_non]; exact SeqAt.RcAt.bool_none a
  | bl b=>have ey:=At_bl.mp hy; subst ey; cases ry; rw[eqD]; exact SeqAt.RcAt.bool_bool a b
  | int b=>have ey:=At_int.mp hy; subst ey; obtain ⟨t,rfl⟩:=ry; rw[eqD]; exact SeqAt.RcAt.bool_int a b t
  | str b=>have ey:=At_str.mp hy; subst ey; obtain ⟨t,rfl⟩:=ry; rw[eqD_bl_str]; exact SeqAt.RcAt.bool_str a b t
  | tup es=>
   obtain ⟨p,vs,rfl,h1,_⟩:=At_tup.mp hy; cases ry
   obtain ⟨its,rv,ht,_⟩:=I.tuple h1
   rw[eqD_bl_tup]; exact SeqAt.RcAt.bool_tuple a ht (by omega)
 | int a=>
  rw[dep_int] at hu
  have ex:=At_int.mp hx; subst ex; obtain ⟨t',rfl⟩:=rx
  cases e with
  | non=>have ey:=At_non.mp hy; subst ey; cases ry; rw[eqD_int_non]; exact SeqAt.RcAt.int_none a t'
  | bl b=>have ey:=At_bl.mp hy; subst ey; cases ry; rw[eqD]; exact SeqAt.RcAt.int_bool a t' b
  | int b=>have ey:=At_int.mp hy; subst ey; obtain ⟨t,rfl⟩:=ry; rw[eqD]; exact SeqAt.RcAt.int_int a t' b t
  | str b=>have ey:=At_str.mp hy; subst ey; obtain ⟨t,rfl⟩:=ry; rw[eqD_int_str]; exact SeqAt.RcAt.int_str a t' b t
  | tup es=>
   obtain ⟨p,vs,rfl,h1,_⟩:=At_tup.mp hy; cases ry
   obtain ⟨its,rv,ht,_⟩:=I.tuple h1
   rw[eqD_int_tup]; exact SeqAt.RcAt.int_tuple a t' ht (by omega)
 | str a=>
  rw[dep_str] at hu
  have ex:=At_str.mp hx; subst ex; obtain ⟨t',rfl⟩:=rx
  cases e with
  | non=>have ey:=At_non.mp hy; subst ey; cases ry; rw[eqD_str_non]; exact SeqAt.RcAt.str_none a t'
  | bl b=>have ey:=At_bl.mp hy; subst ey; cases ry; rw[eqD_str_bl]; exact SeqAt.RcAt.str_bool a t' b
  | int b=>have ey:=At_int.mp hy; subst ey; obtain ⟨t,rfl⟩:=ry; rw[eqD_str_int]; exact SeqAt.RcAt.str_int a t' b t
  | str b=>have ey:=At_str.mp hy; subst ey; obtain ⟨t,rfl⟩:=ry; rw[eqD]; exact SeqAt.RcAt.str_str a t' b t
  | tup es=>
   obtain ⟨p,vs,rfl,h1,_⟩:=At_tup.mp hy; cases ry
   obtain ⟨its,rv,ht,_⟩:=I.tuple h1
   rw[eqD_str_tup]; exact SeqAt.RcAt.str_tuple a t' ht (by omega)
end
section
variable {X:Cx}
def rEqD (X:Cx):R2:=fun x y H Q=>∃d e,At X.K H d x∧At X.K H e y∧dep d≤60∧Q (.bl (eqD d e)) H
theorem op_eqD {k:Nat} (hr:Room k X.A):OpR X (compareOp .Eq) (rEqD X):=by
 intro pins s σ H x y v u Q I rx ry h
 obtain ⟨d,e,hx,hy,hd,q⟩:=h
 exact rcAt_D I d e X.A x y v u rx ry hx hy (by have:=hr.units; omega) _ _ _ _ ⟨.bl _,H,I,rfl,q⟩
end
section
variable {X:Cx} {pins:List (Addr×Obj)} {σ:L2.St} {H:Hp} {s:Shared}
end
section
variable {X:Cx}
end
section
variable {X:Cx} {pins:List (Addr×Obj)} {σ:L2.St} {H:Hp} {s:Shared}
end
section
variable {X:Cx}
end
section
variable {X:Cx}
theorem mem_D {pins:List (Addr×Obj)} {σ:L2.St} {H:Hp} {s:Shared} (I:Inv X pins σ H s) {d:D} {x:V} {v:Value} (rx:RelV x v) (hx:At X.K H d x) {ds:List D} {xs:List V} {its:List Value} (ha:AtAll X.K H ds xs) (rv:Vals xs its) (A:Around) (hu:∀e∈ds,A.units+dep e < cLine):
  ∃f:Value→Bool,(∀u∈its,SeqAt.EqAt A s u v (f u))∧its.any f=ds.any fun e=>eqD e d:=by
 classical
 have fact:∀(i:Nat) (u:Value),its[i]?=some u→∃e y,ds[i]?=some e∧RelV y u∧At X.K H e y:=fun i u hu=>by
  have hi:i < its.length:=(List.getElem?_eq_some_iff.mp hu).1
  have h1:=rv.length
  have h2:=ha.len
  obtain ⟨e,he⟩:∃e,ds[i]?=some e:=⟨ds[i]'(by omega),by simp⟩
  obtain ⟨y,hy,hy2⟩:=ha.get he
  obtain ⟨u',hu',ru⟩:=rv.get hy
  rw[hu] at hu'
  cases hu'
  exact ⟨e,y,he,ru,hy2⟩
 have val:∀(i:Nat) (u:Value) (e:D),its[i]?=some u→ds[i]?=some e→(decide (∃(j:Nat) (e':D),its[j]?=some u∧ds[j]?=some e'∧eqD e' d=true))=eqD e d:=fun i u e hu he=>by
  rw[Bool.eq_iff_iff,decide_eq_true_eq]
  constructor
  ·rintro ⟨j,e',hj,hj2,h⟩
   obtain ⟨e1,y1,k1,k2,k3⟩:=fact i u hu
   obtain ⟨e2,y2,l1,l2,l3⟩:=fact j u hj
   rw[he] at k1; cases k1
   rw[hj2] at l1; cases l1
   have ey:=RelV.inj k2 l2
   subst ey
   have:=At.one I _ _ _ k3 l3
   rw[this]; exact h
  ·exact fun h=>⟨i,e,hu,he,h⟩
 refine ⟨fun u=>decide (∃(j:Nat) (e':D),its[j]?=some u∧ds[j]?=some e'∧eqD e' d=true),fun u hu'=>?_,?_⟩
 ·obtain ⟨i,hi⟩:=List.mem_iff_getElem?.mp hu'
  obtain ⟨e,y,he,ry,hy⟩:=fact i u hi
  dsimp only
  rw[val i u e hi he]
  exact eqAt_D I (dep e) e d A y x u v (Nat.le_refl _) ry rx hy hx (hu e (List.mem_of_getElem? he))
 ·rw[Bool.eq_iff_iff,List.any_eq_true,List.any_eq_true]
  constructor
  ·rintro ⟨u,hu',h⟩
   obtain ⟨i,hi⟩:=List.mem_iff_getElem?.mp hu'
   obtain ⟨e,y,he,ry,hy⟩:=fact i u hi
   rw[val i u e hi he] at h
   exact ⟨e,List.mem_of_getElem? he,h⟩
  ·rintro ⟨e,he,h⟩
   obtain ⟨i,hi⟩:=List.mem_iff_getElem?.mp he
   obtain ⟨y,hy,_⟩:=ha.get hi
   obtain ⟨u,hu',_⟩:=rv.get hy
   exact ⟨u,List.mem_of_getElem? hu',by rw[val i u e hu' hi]; exact h⟩
def rInD (X:Cx) (neg:Bool):R2:=fun x y H Q=>∃d ds,At X.K H d x∧At X.K H (.tup ds) y∧(∀e∈ds,dep e≤60)∧Q (.bl (if neg then !(ds.any fun e=>eqD e d) else ds.any fun e=>eqD e d)) H
end
end GS
namespace GS
open PySem PySem.Builtin PyProof.Rows L2
open AutoSeq1 (wpAny_loadPart')
section
variable {X:Cx}
theorem op_eqNil {k:Nat} (hr:Room k X.A):OpR X (compareOp .Eq) (fun x y H Q=>∃a b xs,x=.ref a∧y=.ref b∧SqL X.K H a xs∧SqL X.K H b []∧Q (.bl xs.isEmpty) H):=by
 intro pins s σ H x y v u Q I rx ry h
 obtain ⟨a,b,xs,rfl,rfl,ha,hb,q⟩:=h
 cases rx; cases ry
 obtain ⟨its,r1,p1,z1⟩:=I.list ha
 obtain ⟨its2,r2,p2,z2⟩:=I.list hb
 cases r2
 have hu:X.A.units < cLine:=Nat.lt_of_succ_lt (hu_of hr)
 cases r1 with
 | nil=>exact SeqAt.eq_listAt (e:=fun _=>true) p1.isList p2.isList rfl hu (fun j h1 _=>absurd h1 (by simp)) (fin_bl I q rfl)
 | cons _ _=>exact SeqAt.eq_list_lengthsAt p1.isList p2.isList (by simp) hu (fin_bl I q rfl)
theorem op_neNil {k:Nat} (hr:Room k X.A):OpR X (compareOp .NotEq) (fun x y H Q=>∃a b xs,x=.ref a∧y=.ref b∧SqL X.K H a xs∧SqL X.K H b []∧Q (.bl (!xs.isEmpty)) H):=by
 intro pins s σ H x y v u Q I rx ry h
 obtain ⟨a,b,xs,rfl,rfl,ha,hb,q⟩:=h
 cases rx; cases ry
 obtain ⟨its,r1,p1,z1⟩:=I.list ha
 obtain ⟨its2,r2,p2,z2⟩:=I.list hb
 cases r2
 have hu:X.A.units < cLine:=Nat.lt_of_succ_lt (hu_of hr)
 cases r1 with
 | nil=>exact SeqAt.RcNeAt.lists (e:=fun _=>true) p1.isList p2.isList rfl hu (fun j h1 _=>absurd h1 (by simp)) _ _ _ _ (fin_bl I q rfl)
 | cons _ _=>exact SeqAt.RcNeAt.lists_lengths p1.isList p2.isList (by simp) hu _ _ _ _ (fin_bl I q rfl)
theorem range_any (bs:List Bool):((List.range bs.length).any fun j=>(bs[j]?).getD false)=bs.any id:=by
 rw[Bool.eq_iff_iff,List.any_eq_true,List.any_eq_true]
 constructor
 ·rintro ⟨j,hj,h⟩
  have hj':=List.mem_range.mp hj
  exact ⟨bs[j],List.getElem_mem hj',by simpa [hj'] using h⟩
 ·rintro ⟨x,hx,h⟩
  obtain ⟨i,hi,rfl⟩:=List.mem_iff_getElem.mp hx
  exact ⟨i,List.mem_range.mpr hi,by simpa [hi] using h⟩
theorem call_any (hc:X.calm=true):CallR X (.builtin "any") (fun xs H Q=>∃(p:Addr) (bs:List Bool),xs=[.ref p]∧SqL X.K H p (bs.map V.bl)∧Q (.bl (bs.any id)) H):=by
 intro pins s σ H xs us Q I r h
 obtain ⟨p,bs,rfl,hq,q⟩:=h
 obtain ⟨u,rfl,ru⟩:=vals1 r
 cases ru
 obtain ⟨its,rv,pl,hz⟩:=I.list hq
 have ei:=vals_bools rv
 subst ei
 have hpl:p < s.heap.objs.size:=let ⟨o,n,e,_⟩:=pl; Heap.lt_size e
 refine call_any_walk (wpAny_pyIter_list pl.isList ?_)
 refine ⟨s.heap.objs.size,[s.heap.objs.size,p],[s.heap.objs.size],(bs.map Value.bool).toArray.size,_,_,(fun j=>(bs[j]?).getD false),rfl,
  Walks.list (A:=X.A.in1) (I.ok.hd hc) _ p (Nat.ne_of_lt hpl) (bs.map Value.bool).toArray,⟨⟨_,Heap.get?_push_size _ rfl,rfl,rfl⟩,?_⟩,fun i v s' Q' E' hP hQ'=>?_,fun h' tk k=>?_⟩
 ·obtain ⟨o,ho,r⟩:=pl.isList
  exact ⟨o,Heap.get?_push_of_some _ ho,r⟩
 ·have hP':(bs.map Value.bool)[i]?=some v:=by simpa using hP
  rw[List.getElem?_map] at hP'
  cases e:bs[i]? with
  | none=>rw[e] at hP'; cases hP'
  | some b=>
   rw[e] at hP'
   have e':Value.bool b=v:=by simpa using hP'
   subst e'
   exact wpAny_truthy_bool (show Q' b s' by simpa [e] using hQ')
 ·rw[show (bs.map Value.bool).toArray.size=bs.length by simp,range_any bs]
  exact ⟨.bl _,H,I.kept fun b o e=>k b o (fun hm=>Nat.ne_of_lt (Heap.lt_size e) (List.mem_singleton.mp hm)) (Heap.get?_push_of_some _ e),rfl,q⟩
end
section
variable {X:Cx}
end
end GS
namespace GS
open PySem PySem.Builtin PyProof.Rows L2
section
variable {X:Cx}
end
end GS
namespace PySem
section
variable {prog:Program} {w:World} {A:Around} {E:Value→Shared→Prop} {R:Result→Shared→Prop} {s:Shared}
def testsOf (ifs:List Expr) (env:Env):Sem Bool:=forIn ifs true fun c r=>if r=true then do let ok ← PySem.isTrue c env (eval c env); pure (ForInStep.yield ok) else pure (ForInStep.yield r)
theorem compLoop_goC {elt target iter:Expr} {ifs:List Expr} {scope:Scope} {pos:Pos} {it acc:Value} {env:Env} (I:Nat→Shared→Prop)
  (turn:∀n s,I n s→wpAny (model prog w) A (pyNext it) (fun r s₁=>match r with
   | none=>R (.ok .next) s₁
   | some v=>wpAny (model prog w) A (letOwnedTupleGo target it v) (fun _ s₂=>wpAny (model prog w) A (assign target env v) (fun _ s₃=>
     wpAny (model prog w) A (testsOf ifs env) (fun b s₄=>if b=true then
      wpAny (model prog w) A (eval elt env) (fun x s₄=>
       wpAny (model prog w) A (call (.builtin "list.append") [acc,x]) (fun _ s₅=>∃m,m < n∧I m s₅) (notedBy (model prog w) A env fun e s'=>R (.error e) s') s₄) (notedBy (model prog w) A env fun e s'=>R (.error e) s') s₄ else ∃m,m < n∧I m s₄) (notedBy (model prog w) A env fun e s'=>R (.error e) s') s₃) (notedBy (model prog w) A env fun e s'=>R (.error e) s') s₂) (notedBy (model prog w) A env fun e s'=>R (.error e) s') s₁) (notedBy (model prog w) A env fun e s'=>R (.error e) s') s)
  (n:Nat) (h:I n s):
  codeAny (model prog w) A (.compLoop (.ListComp elt [⟨target,iter,ifs,0⟩] scope pos) 0 it acc env) R s:=by
 refine codeAny_loop rfl I (fun n s hI=>?_) n h
 show wpAny _ A ((compTurn (.ListComp elt [⟨target,iter,ifs,0⟩] scope pos) 0 it acc env).onRaise (fun x=>do noteFrame x env; theTreesLotGoes x)) _ _ s
 refine wpAny_noted ?_
 rw[compTurn_list]
 refine wpAny_bind (wpAny_standAt (wpAny_bind (wpAny_mono (turn n s hI) (fun r s₁ h₁=>?_) fun _ _ h'=>h')))
 cases r with
 | none=>exact wpAny_pure h₁
 | some v=>
  refine wpAny_bind (wpAny_mono h₁ (fun _ s₂ h₂=>wpAny_bind (wpAny_mono h₂ (fun _ s₃ h₃=>?_) fun _ _ h'=>h')) fun _ _ h'=>h')
  refine wpAny_bind (wpAny_mono h₃ (fun b s₄ h₄=>?_) fun _ _ h'=>h')
  cases b with
  | false=>
   rw[if_neg Bool.false_ne_true] at h₄
   exact wpAny_ite_false (by simp) (wpAny_pure ⟨rfl,h₄⟩)
  | true=>
   rw[if_pos rfl] at h₄
   exact wpAny_ite_true (by simp) (wpAny_bind (wpAny_bind (wpAny_mono h₄ (fun x s₄ h₄=>wpAny_bind (wpAny_mono h₄ (fun _ s₅ h₅=>wpAny_pure (wpAny_pure ⟨rfl,h₅⟩)) fun _ _ h'=>h')) fun _ _ h'=>h')))
end
end PySem
namespace L2
open PySem PySem.Spec PyProof.Rows PySem.Builtin PySem.Builtin.Str
structure CompOkG (X:Cx) (scope:Scope) (cl:List (Str×Addr)) (Xs Nf:List Str) (js:List Nat):Prop where
 clos:closureFor scope X.env=pure cl
 cell:∀y∈scope.names,y.2≠.cell
 kind:scope.kind=.function
 names:∀y∈scope.names,y.2=.local→scope.names.lookup y.1=some .local
 sub:∀y c,cl.lookup y=some c→X.env.cells.lookup y=some c
 has:∀y,((relabel scope X.env).names.lookup y=some .cell∨(relabel scope X.env).names.lookup y=some .free)→∃c,cl.lookup y=some c
 len:js.length=Nf.length
 frees:∀(j:Nat) (y:Str),Nf[j]?=some y→∃i,js[j]?=some i∧X.N[i]?=some y∧X.env.scope.names.lookup y=some .cell∧((relabel scope X.env).names.lookup y=some .cell∨(relabel scope X.env).names.lookup y=some .free)
def PTs (X:Cx) (ifs:List Expr) (tc:TT):Prop:=∀(pins:List (Addr×Obj)) (s:Shared) (σ:St) (H:Hp) (Q:Bool→Hp→Prop),Inv X pins σ H s→tc σ H Q→wpAny (model X.prog X.w) X.A (testsOf ifs X.env) (TP X pins σ Q) X.xe s
def tTrue:TT:=fun _ H Q=>Q true H
theorem pts_nil {X:Cx}:PTs X [] tTrue:=fun pins s σ H Q I h=>wpAny_tests_nil ⟨H,I,h⟩
theorem pts_one {X:Cx} {c:Expr} {tc:TT} (h:PT X c tc):PTs X [c] tc:=fun pins s σ H Q I q=>wpAny_tests_one (h pins s σ H Q I q)
def tCompG (k:Nat) (js:List Nat) (wi:TI) (g:TG) (tc:TT) (te:TE):TE:=fun σ H Q=>wi σ H fun J H1=>∃vs:List V,(vs.length=js.length∧∀(j i:Nat),js[j]?=some i→∃v,vs[j]?=some v∧σ[i]?=some (some v))∧
 ∀D,H1 D=none→∃W:Nat→Nat→List V→Hp→Prop,(∃m,W 0 m [] (upd H1 D (.lst [])))∧∀i m ys H,W i m ys H→
  (J.stop i H∧Q (.ref D) H)∨(J.go i H∧∀x H' (ox:List (Option V)),ox.length=k→J.yld i H x H'→g x (ox++vs.map some) H' fun σ2 H2=>∃ox2,ox2.length=k∧σ2=ox2++vs.map some∧tc σ2 H2 fun b H3=>
   if b=true then te σ2 H3 fun v H4=>H4 D=some (.lst ys)∧ys.length < sizeLine∧∃m',m' < m∧W (i+1) m' (ys++[v]) (upd H4 D (.lst (ys++[v]))) else ∃m',m' < m∧W (i+1) m' ys H3)
section
variable {X:Cx}
theorem blk_startG {pins:List (Addr×Obj)} {σ:St} {H:Hp} {s:Shared} {scope:Scope} {cl:List (Str×Addr)} {Xs Nf:List Str} {js:List Nat} {vs:List V} {fp:List Addr} {h1:Heap} {tk:Nat} {m:Str→Option Value}
  (K:CompOkG X scope cl Xs Nf js) (I:Inv X pins σ H s) (hvl:vs.length=js.length) (hvs:∀(j i:Nat),js[j]?=some i→∃v,vs[j]?=some v∧σ[i]?=some (some v))
  (hf:∀b∈fp,FpOk X pins H b) (hlt:∀b∈fp,b < s.heap.objs.size) (ns:h1.Ns s.heap.objs.size m) (keep:∀b o,s.heap.get? b=some o→h1.get? b=some o):
  Inv (blk X scope cl s.heap.objs.size (Xs++Nf) s H fp) [] (List.replicate Xs.length none++vs.map some) H { s with heap:=h1,toks:=tk }:=by
 refine ⟨⟨I.ok.mod,K.kind,I.ok.glob,I.ok.blt,Nat.le_refl _,fun y z c e1 e2=>I.ok.inj y z c (K.sub y c e1) (K.sub z c e2),fun y hy=>K.has y hy,fun y c e _=>(Bool.noConfusion (show false=true from e)),I.ok.hd,I.ok.frames,.inl rfl,
  fun b hb=>⟨Nat.ne_of_lt (hlt b hb),fun y c e=>(hf b hb).2.2.2.2.1 y c (K.sub y c e)⟩,I.bs,Nat.le_trans I.ok.bsz I.sz,fun b o e hb=>?_,fun b hb z=>?_,I.stack,I.stkFree⟩,
  rfl,I.bare,Un.kept keep,⟨m,ns,fun i y v e1 e2 e3=>?_⟩,fun y c e=>?_,I.hok.fresh (Nat.le_refl _),fun y c e=>I.freeC y c (K.sub y c e),fun p hp=>absurd (show p∈([]:List (Addr×Obj)) from hp) (by simp),I.hok.kept keep,?_⟩
 ·rcases (hf b hb).2.2.2.1 with z | z
  ·exact I.ok.noex b o e z
  ·exact absurd (Nat.lt_of_lt_of_le (Heap.lt_size e) (Nat.le_trans I.ok.bsz z)) (Nat.lt_irrefl _)
 ·rcases List.mem_cons.mp (I.stkSub b z) with e | e
  ·exact (hf b hb).2.1 e
  ·exact (hf b hb).2.2.1 e
 ·by_cases hi:i < Xs.length
  ·rw[List.getElem?_append_left (by rw[List.length_replicate]; exact hi)] at e2
   rw[List.getElem?_replicate] at e2
   split at e2 <;> simp at e2
  ·obtain ⟨j,rfl⟩:∃j,i=Xs.length+j:=⟨i - Xs.length,by omega⟩
   have e1':Nf[j]?=some y:=by
    have e1'':(Xs++Nf)[Xs.length+j]?=some y:=e1
    rw[List.getElem?_append_right (by omega)] at e1''
    simpa using e1''
   have e2b:(vs.map some)[j]?=some (some v):=by
    rw[List.getElem?_append_right (by rw[List.length_replicate]; omega),List.length_replicate] at e2
    simpa using e2
   obtain ⟨i0,hj,hN,hk,hr⟩:=K.frees j y e1'
   obtain ⟨v',hv1,hv2⟩:=hvs j i0 hj
   have ev:v=v':=by
    have e2':(vs.map some)[j]?=some (some v):=e2b
    rw[List.getElem?_map,hv1] at e2'
    simpa using e2'.symm
   subst ev
   obtain ⟨m0,hn0,hl⟩:=I.loc
   obtain ⟨u,r,l⟩:=hl i0 y v hN hv2 (.inr (.inl hk))
   refine ⟨u,r,?_⟩
   rcases l with ⟨l1,_⟩ | ⟨_,c,hc,o,ho,hd⟩
   ·have l1':X.env.scope.names.lookup y=some .local:=l1
    rw[hk] at l1'; cases l1'
   ·obtain ⟨c',hc'⟩:=K.has y hr
    have ec:=K.sub y c' hc'
    rw[hc] at ec; cases ec
    exact .inr ⟨hr,c,hc',o,keep c o ho,hd⟩
 ·obtain ⟨v,o,ho,hd⟩:=I.cell y c (K.sub y c e)
  exact ⟨v,o,keep c o ho,hd⟩
 ·show (List.replicate Xs.length none++vs.map some).length=(Xs++Nf).length
  rw[List.length_append,List.length_append,List.length_replicate,List.length_map,hvl,K.len]
theorem pe_compG {elt iter tg:Expr} {ifs:List Expr} {pos:Pos} {scope:Scope} {cl:List (Str×Addr)} {Xs Nf:List Str} {js:List Nat} {wi:TI} {g:TG} {tc:TT} {te:TE} (K:CompOkG X scope cl Xs Nf js) (hc:X.calm=true) (hi:PI X tg iter wi)
  (hg:∀C s0 H0 fp,PG (blk X scope cl C (Xs++Nf) s0 H0 fp) tg g) (hcn:∀C s0 H0 fp,PTs (blk X scope cl C (Xs++Nf) s0 H0 fp) ifs tc) (he:∀C s0 H0 fp,PE (blk X scope cl C (Xs++Nf) s0 H0 fp) elt te) (hs:∀x,foldedSetIterable iter X.env x=pure x:=by intro _; rfl):
  PE X (.ListComp elt [⟨tg,iter,ifs,0⟩] scope pos) (tCompG Xs.length js wi g tc te):=by
 intro pins s σ H Q I h
 rw[eval_ListComp]
 refine wpAny_comprehension_free (use:=none) rfl hs K.clos K.kind K.names (thn (hi pins s σ H _ I h) fun v s1 h1=>thn h1 fun itv s2 h2=>?_)
 obtain ⟨it,fp,tn,J,H2,e,I2,T,st2,f2,vs,⟨hvl,hvs⟩,hW⟩:=h2
 subst e
 have hD:H2 s2.heap.objs.size=none:=I2.hok.fresh (Nat.le_refl _)
 obtain ⟨W,⟨m0,w0⟩,turn⟩:=hW s2.heap.objs.size hD
 have hlt2:∀b∈fp,b < s2.heap.objs.size:=fun b hb=>let ⟨o,e,_⟩:=T.obj _ _ st2 b hb; Heap.lt_size e
 refine wpAny_newObj_type (wpAny_newFunctionEnv K.cell (by intro y hy; simp at hy) (fun h₁ hns₁ hsb₁=>?_) K.kind)
 dsimp only at hns₁ hsb₁ ⊢
 generalize hP3:s2.heap.push { cls:=.type "list",dict:=none,data:=.seq ([]:List Value).toArray }=P3 at hns₁ hsb₁ ⊢
 obtain ⟨s3,hs3⟩:∃s3:Shared,s3={ s2 with heap:=P3 }:=⟨_,rfl⟩
 have eP:P3=s3.heap:=by rw[hs3]
 rw[eP] at hns₁ hsb₁ ⊢
 have I3:Inv X pins σ (upd H2 s2.heap.objs.size (.lst [])) s3:=by
  rw[hs3,← hP3]
  exact I2.laid (t':=s2.toks) (fun b u e=>Heap.get?_push_of_some _ e) (Nat.le_refl _) ⟨Nat.zero_le _,[],0,.nil,Heap.get?_push_size _ rfl⟩
 have keep23:∀b o,s2.heap.get? b=some o→s3.heap.get? b=some o:=fun b o e=>by rw[← eP,← hP3]; exact Heap.get?_push_of_some _ e
 have f3:∀b∈fp,FpOk X pins (upd H2 s2.heap.objs.size (.lst [])) b:=fun b hb=>⟨by rw[upd_ne (Nat.ne_of_lt (hlt2 b hb))]; exact (f2 b hb).1,(f2 b hb).2⟩
 have st3:tn 0 s3.heap:=T.keep _ _ _ st2 fun b hb o e=>keep23 b o e
 have hlt3:∀b∈fp,b < s3.heap.objs.size:=fun b hb=>let ⟨o,e,_⟩:=T.obj _ _ st3 b hb; Heap.lt_size e
 have keep34:∀b o,s3.heap.get? b=some o→h₁.get? b=some o:=fun b o e=>hsb₁.extBut b o (Nat.ne_of_lt (Heap.lt_size e)) (Heap.get?_push_of_some _ e)
 have st4:tn 0 h₁:=T.keep _ _ _ st3 fun b hb o e=>keep34 b o e
 have fr3:∀b∈fp,upd H2 s2.heap.objs.size (.lst []) b=none:=fun b hb=>(f3 b hb).1
 have stat:∀{H':Hp},(∀b∈fp,H' b=none)→∀b∈fp,FpOk (blk X scope cl s3.heap.objs.size (Xs++Nf) s3 (upd H2 s2.heap.objs.size (.lst [])) fp) [] H' b:=fun {H'} hn b hb=>by
  refine ⟨hn b hb,Nat.ne_of_lt (hlt3 b hb),fun z=>?_,.inl hb,fun y c e=>(f3 b hb).2.2.2.2.1 y c (K.sub y c e),fun p hp=>absurd (show p∈([]:List (Addr×Obj)) from hp) (by simp)⟩
  rcases List.mem_cons.mp (I3.stkSub b z) with e | e
  ·exact (f3 b hb).2.1 e
  ·exact (f3 b hb).2.2.1 e
 have fin:∀{σ':St} {H':Hp} {s':Shared},Inv (blk X scope cl s3.heap.objs.size (Xs++Nf) s3 (upd H2 s2.heap.objs.size (.lst [])) fp) [] σ' H' s'→Q (.ref s2.heap.objs.size) H'→
   compPost (model X.prog X.w) X.A X.xe none (EP X pins σ Q) (.ref s2.heap.objs.size) s3.heap.objs.size (.ok .next) s':=fun {σ' H' s'} J q=>by
  obtain ⟨m,hn,_⟩:=J.loc
  refine ⟨m,hn,fun h' hs'=>⟨.ref s2.heap.objs.size,H',?_,rfl,q⟩⟩
  have ne:∀b o,s3.heap.get? b=some o→b≠s3.heap.objs.size:=fun b o e=>Nat.ne_of_lt (Heap.lt_size e)
  have nC:∀b u,H' b=some u→b≠s3.heap.objs.size:=fun b u e z=>by
   have f:=J.free
   rw[z] at e
   have f':H' s3.heap.objs.size=none:=f
   rw[f'] at e; cases e
  have B:=J.base
  refine I3.call' (ch:=fp) (s':={ s' with heap:=h' }) J.os ?_ (fun b u e=>(J.hok b u e).stay (fun c v hc q=>hs'.extBut c v ?_ q) (fun _ q=>q) fun _ _ q=>q) J.bare fun b hb=>⟨(f3 b hb).2.2.2.1,(f3 b hb).2.1,(f3 b hb).2.2.2.2.1,(f3 b hb).2.2.2.2.2⟩
  ·exact ⟨fun b o e n hb hx=>hs'.extBut b o (ne b o e) (B.keep b o e n hb hx),fun b o e n hb hx=>let ⟨sl,z⟩:=B.slot b o e n hb hx; ⟨sl,hs'.extBut b _ (ne b o e) z⟩,fun b o e n hx=>B.free b o e n hx,
    fun b o e hx=>let ⟨o',z⟩:=B.there b o e hx; ⟨o',hs'.extBut b _ (ne b o e) z⟩,B.tups,B.frzs,B.tbls⟩
  ·rcases hc with z | z
   ·rw[z]; exact nC b u e
   ·exact nC c _ z
 have loop:∀s4:Shared,s4={ s3 with heap:=h₁,toks:=s3.toks+([]:List (Str×Value)).length }→
   codeAny (model X.prog X.w) X.A (.compLoop (.ListComp elt [⟨tg,iter,ifs,0⟩] scope pos) 0 (.ref it) (.ref s2.heap.objs.size) (compEnvC scope cl s3.heap.objs.size X.env))
    (compPost (model X.prog X.w) X.A X.xe none (EP X pins σ Q) (.ref s2.heap.objs.size) s3.heap.objs.size) s4:=by
  rintro s4 rfl
  have I4:=blk_startG (Xs:=Xs) (tk:=s3.toks+([]:List (Str×Value)).length) K I3 hvl hvs f3 hlt3 hns₁ keep34
  refine compLoop_goC (fun n s'=>∃i ox ys H',ox.length=Xs.length∧Inv (blk X scope cl s3.heap.objs.size (Xs++Nf) s3 (upd H2 s2.heap.objs.size (.lst [])) fp) [] (ox++vs.map some) H' s'∧tn i s'.heap∧(∀b∈fp,H' b=none)∧W i n ys H') ?_ m0 ⟨0,List.replicate Xs.length none,[],_,List.length_replicate,I4,st4,fr3,w0⟩
  rintro n s5 ⟨i,ox,ys,H5,hox,I5,st5,fr5,w5⟩
  rcases turn i n ys H5 w5 with ⟨stop,qn⟩ | ⟨go,step⟩
  ·refine wpAny_mono (T.done (blk X scope cl s3.heap.objs.size (Xs++Nf) s3 (upd H2 s2.heap.objs.size (.lst [])) fp) rfl rfl rfl hc i [] s5 _ H5 _ I5 (stat fr5) st5 stop) (fun r s6 ⟨hr,I6⟩=>?_) fun _ _ z=>z
   subst hr
   exact fin I6 qn
  ·refine wpAny_mono (T.item (blk X scope cl s3.heap.objs.size (Xs++Nf) s3 (upd H2 s2.heap.objs.size (.lst [])) fp) rfl rfl rfl hc i [] s5 _ H5 _ I5 (stat fr5) st5 go) (fun r s6 ⟨u,hr,h6⟩=>?_) fun _ _ z=>z
   subst hr
   refine wpAny_mono h6 (fun _ s7 ⟨x7,H7,I7,r7,y7,st7,fr7⟩=>?_) fun _ _ z=>z
   have I7':=I7.pinned (stat fr7) (T.obj _ _ st7)
   refine wpAny_mono (hg s3.heap.objs.size s3 (upd H2 s2.heap.objs.size (.lst [])) fp _ s7 _ H7 x7 u _ I7' r7 (step x7 H7 ox hox y7)) (fun _ s8 ⟨σ8,H8,I8,ox2,hox2,e8,q8⟩=>?_) fun _ _ z=>False.elim z
   subst e8
   refine wpAny_mono (hcn s3.heap.objs.size s3 _ fp _ s8 _ H8 _ I8 q8) (fun b8 s8b ⟨H8b,I8b,q8b⟩=>?_) fun _ _ z=>False.elim z
   have ends:∀(H10:Hp) (s10:Shared) (ys':List V) (m':Nat),m' < n→W (i+1) m' ys' H10→Inv (blk X scope cl s3.heap.objs.size (Xs++Nf) s3 (upd H2 s2.heap.objs.size (.lst [])) fp) ([]++pinsAt fp s7.heap) (ox2++vs.map some) H10 s10→
     ∃m,m < n∧∃i ox ys H',ox.length=Xs.length∧Inv (blk X scope cl s3.heap.objs.size (Xs++Nf) s3 (upd H2 s2.heap.objs.size (.lst [])) fp) [] (ox++vs.map some) H' s10∧tn i s10.heap∧(∀b∈fp,H' b=none)∧W i m ys H':=fun H10 s10 ys' m' hm' w9 I10=>by
    refine ⟨m',hm',i+1,ox2,ys',_,hox2,I10.unpinned,T.keep _ _ _ st7 fun b hb o e=>(I10.pin (b,o) (List.mem_append_right _ (List.mem_append_right _ (mem_pinsAt hb e)))).1,fun b hb=>?_,w9⟩
    obtain ⟨o,e,d⟩:=T.obj _ _ st7 b hb
    exact (I10.pin (b,o) (List.mem_append_right _ (List.mem_append_right _ (mem_pinsAt hb e)))).2.1
   cases b8 with
   | false=>
    rw[if_neg Bool.false_ne_true] at q8b ⊢
    obtain ⟨m',hm',w9⟩:=q8b
    exact ends _ _ _ _ hm' w9 I8b
   | true=>
    rw[if_pos rfl] at q8b ⊢
    refine wpAny_mono (he s3.heap.objs.size s3 _ fp _ s8b _ H8b _ I8b q8b) (fun v9 s9 ⟨v,H9,I9,r9,hD9,hz9,m',hm',w9⟩=>?_) fun _ _ z=>False.elim z
    refine wpAny_mono (mt_append (X:=blk X scope cl s3.heap.objs.size (Xs++Nf) s3 (upd H2 s2.heap.objs.size (.lst [])) fp) _ s9 _ H9 (.ref s2.heap.objs.size) [v] (.ref s2.heap.objs.size) [v9] (fun _ H'=>H'=upd H9 s2.heap.objs.size (.lst (ys++[v]))) I9 rfl (.cons r9 .nil) ⟨_,ys,v,rfl,rfl,hD9,hz9,rfl⟩)
     (fun _ s10 ⟨_,H10,I10,_,e10⟩=>?_) fun _ _ z=>False.elim z
    subst e10
    exact ends _ _ _ _ hm' w9 I10
 have e4:({ s2 with heap:=h₁,toks:=s2.toks+([]:List (Str×Value)).length }:Shared)={ s3 with heap:=h₁,toks:=s3.toks+([]:List (Str×Value)).length }:=by rw[hs3]
 rw[e4]
 exact codeAny_compStart_list (loop _ rfl) (T.self _ 0 _ _ _ st4 (loop _ rfl))
end
end L2
namespace L2
open PySem PySem.Spec PyProof.Rows PySem.Builtin PySem.Builtin.Str
def tSetCompG (k:Nat) (js:List Nat) (wi:TI) (g:TG) (tc:TT) (te:TE) (i:Nat):TS:=fun D σ H=>tCompG k js wi g tc te σ H fun v H'=>D.nx (σ.set i (some v)) H'
section
variable {X:Cx}
theorem ps_setCompG {elt iter tg:Expr} {ifs:List Expr} {y:Str} {py spos:Pos} {iy:Nat} {pos:Pos} {scope:Scope} {cl:List (Str×Addr)} {Xs Nf:List Str} {js:List Nat} {wi:TI} {g:TG} {tc:TT} {te:TE} (K:CompOkG X scope cl Xs Nf js) (hc:X.calm=true) (hi:PI X tg iter wi)
  (hg:∀C s0 H0 fp,PG (blk X scope cl C (Xs++Nf) s0 H0 fp) tg g) (hcn:∀C s0 H0 fp,PTs (blk X scope cl C (Xs++Nf) s0 H0 fp) ifs tc) (he:∀C s0 H0 fp,PE (blk X scope cl C (Xs++Nf) s0 H0 fp) elt te)
  (hN:X.N.Nodup) (hiy:X.N[iy]?=some y) (hy:Loc X.env.scope y) (hsw:swapsWith (.ListComp elt [⟨tg,iter,ifs,0⟩] scope pos) (some (.Name y py)) spos.line X.env=pure true:=by rfl)
  (hfy:X.fn y=true∨X.env.scope.names.lookup y=some .local:=by first | exact .inl rfl | exact .inr rfl | assumption) (hs:∀x,foldedSetIterable iter X.env x=pure x:=by intro _; rfl):
  PS X (.Assign [.Name y py] (.ListComp elt [⟨tg,iter,ifs,0⟩] scope pos) spos) (tSetCompG Xs.length js wi g tc te iy):=by
 intro pins s σ H DD I h
 obtain ⟨Q,hQ⟩:∃Q:VK,Q=fun v H'=>DD.nx (σ.set iy (some v)) H':=⟨_,rfl⟩
 have h':tCompG Xs.length js wi g tc te σ H Q:=by rw[hQ]; exact h
 rw[exec_Assign_Name_used _ _ _ _ hsw]
 refine wpAny_bind (wpAny_standAt (wpAny_bind ?_))
 show wpAny _ X.A (do let _ ← comprehension (.ListComp elt [⟨tg,iter,ifs,0⟩] scope pos) scope X.env _ (newList []) false (eval iter X.env) (some (assign (.Name y py) X.env))) _ _ s
 refine wpAny_bind (wpAny_mono (wpAny_comprehension_free (use:=some (assign (.Name y py) X.env)) (Q:=fun _ s'=>SP X pins DD .next s') rfl hs K.clos K.kind K.names (thn (hi pins s σ H _ I h') fun v s1 h1=>thn h1 fun itv s2 h2=>?_)) (fun _ s' hq=>wpAny_pure (wpAny_pure hq)) fun _ _ e=>e)
 obtain ⟨it,fp,tn,J,H2,e,I2,T,st2,f2,vs,⟨hvl,hvs⟩,hW⟩:=h2
 subst e
 have hD:H2 s2.heap.objs.size=none:=I2.hok.fresh (Nat.le_refl _)
 obtain ⟨W,⟨m0,w0⟩,turn⟩:=hW s2.heap.objs.size hD
 have hlt2:∀b∈fp,b < s2.heap.objs.size:=fun b hb=>let ⟨o,e,_⟩:=T.obj _ _ st2 b hb; Heap.lt_size e
 refine wpAny_newObj_type (wpAny_newFunctionEnv K.cell (by intro y hy; simp at hy) (fun h₁ hns₁ hsb₁=>?_) K.kind)
 dsimp only at hns₁ hsb₁ ⊢
 generalize hP3:s2.heap.push { cls:=.type "list",dict:=none,data:=.seq ([]:List Value).toArray }=P3 at hns₁ hsb₁ ⊢
 obtain ⟨s3,hs3⟩:∃s3:Shared,s3={ s2 with heap:=P3 }:=⟨_,rfl⟩
 have eP:P3=s3.heap:=by rw[hs3]
 rw[eP] at hns₁ hsb₁ ⊢
 have I3:Inv X pins σ (upd H2 s2.heap.objs.size (.lst [])) s3:=by
  rw[hs3,← hP3]
  exact I2.laid (t':=s2.toks) (fun b u e=>Heap.get?_push_of_some _ e) (Nat.le_refl _) ⟨Nat.zero_le _,[],0,.nil,Heap.get?_push_size _ rfl⟩
 have keep23:∀b o,s2.heap.get? b=some o→s3.heap.get? b=some o:=fun b o e=>by rw[← eP,← hP3]; exact Heap.get?_push_of_some _ e
 have f3:∀b∈fp,FpOk X pins (upd H2 s2.heap.objs.size (.lst [])) b:=fun b hb=>⟨by rw[upd_ne (Nat.ne_of_lt (hlt2 b hb))]; exact (f2 b hb).1,(f2 b hb).2⟩
 have st3:tn 0 s3.heap:=T.keep _ _ _ st2 fun b hb o e=>keep23 b o e
 have hlt3:∀b∈fp,b < s3.heap.objs.size:=fun b hb=>let ⟨o,e,_⟩:=T.obj _ _ st3 b hb; Heap.lt_size e
 have keep34:∀b o,s3.heap.get? b=some o→h₁.get? b=some o:=fun b o e=>hsb₁.extBut b o (Nat.ne_of_lt (Heap.lt_size e)) (Heap.get?_push_of_some _ e)
 have st4:tn 0 h₁:=T.keep _ _ _ st3 fun b hb o e=>keep34 b o e
 have fr3:∀b∈fp,upd H2 s2.heap.objs.size (.lst []) b=none:=fun b hb=>(f3 b hb).1
 have stat:∀{H':Hp},(∀b∈fp,H' b=none)→∀b∈fp,FpOk (blk X scope cl s3.heap.objs.size (Xs++Nf) s3 (upd H2 s2.heap.objs.size (.lst [])) fp) [] H' b:=fun {H'} hn b hb=>by
  refine ⟨hn b hb,Nat.ne_of_lt (hlt3 b hb),fun z=>?_,.inl hb,fun y c e=>(f3 b hb).2.2.2.2.1 y c (K.sub y c e),fun p hp=>absurd (show p∈([]:List (Addr×Obj)) from hp) (by simp)⟩
  rcases List.mem_cons.mp (I3.stkSub b z) with e | e
  ·exact (f3 b hb).2.1 e
  ·exact (f3 b hb).2.2.1 e
 have fin:∀{σ':St} {H':Hp} {s':Shared},Inv (blk X scope cl s3.heap.objs.size (Xs++Nf) s3 (upd H2 s2.heap.objs.size (.lst [])) fp) [] σ' H' s'→Q (.ref s2.heap.objs.size) H'→
   compPost (model X.prog X.w) X.A X.xe (some (assign (.Name y py) X.env)) (fun _ s'=>SP X pins DD .next s') (.ref s2.heap.objs.size) s3.heap.objs.size (.ok .next) s':=fun {σ' H' s'} J q=>by
  obtain ⟨m,hn,_⟩:=J.loc
  have ne:∀b o,s3.heap.get? b=some o→b≠s3.heap.objs.size:=fun b o e=>Nat.ne_of_lt (Heap.lt_size e)
  have B:=J.base
  have I5:Inv X pins σ H' s':=by
   refine I3.call' (ch:=fp) (s':=s') J.os ?_ J.hok J.bare fun b hb=>⟨(f3 b hb).2.2.2.1,(f3 b hb).2.1,(f3 b hb).2.2.2.2.1,(f3 b hb).2.2.2.2.2⟩
   exact ⟨fun b o e n hb hx=>B.keep b o e n hb hx,fun b o e n hb hx=>B.slot b o e n hb hx,fun b o e n hx=>B.free b o e n hx,fun b o e hx=>B.there b o e hx,B.tups,B.frzs,B.tbls⟩
  have fC:FpOk X pins H' s3.heap.objs.size:=I3.fpOk (Nat.le_refl _) J.free
  obtain ⟨c0,c1,c2,c3,c4,c5⟩:=fC
  show wpAny _ X.A (assign (.Name y py) X.env (.ref s2.heap.objs.size)) _ _ s'
  refine wpAny_assign_Name (store_ok2 (v:=.ref s2.heap.objs.size) I5 hN hiy hy rfl (fun s'' I'' sb=>?_) hfy)
  obtain ⟨a,sb,ha⟩:=sb
  have hCa:s3.heap.objs.size≠a:=by
   rcases ha with z | z
   ·rw[z]; exact c1
   ·exact fun e=>c4 y a z e.symm
  refine ⟨m,hn.sameBut sb hCa,fun h' hs'=>⟨_,H',I''.turned (t':=s''.toks) (fun b o hb e=>hs'.extBut b o hb e) c0 c1 c3 c4 c5,?_⟩⟩
  rw[hQ] at q
  exact q
 have loop:∀s4:Shared,s4={ s3 with heap:=h₁,toks:=s3.toks+([]:List (Str×Value)).length }→
   codeAny (model X.prog X.w) X.A (.compLoop (.ListComp elt [⟨tg,iter,ifs,0⟩] scope pos) 0 (.ref it) (.ref s2.heap.objs.size) (compEnvC scope cl s3.heap.objs.size X.env))
    (compPost (model X.prog X.w) X.A X.xe (some (assign (.Name y py) X.env)) (fun _ s'=>SP X pins DD .next s') (.ref s2.heap.objs.size) s3.heap.objs.size) s4:=by
  rintro s4 rfl
  have I4:=blk_startG (Xs:=Xs) (tk:=s3.toks+([]:List (Str×Value)).length) K I3 hvl hvs f3 hlt3 hns₁ keep34
  refine compLoop_goC (fun n s'=>∃i ox ys H',ox.length=Xs.length∧Inv (blk X scope cl s3.heap.objs.size (Xs++Nf) s3 (upd H2 s2.heap.objs.size (.lst [])) fp) [] (ox++vs.map some) H' s'∧tn i s'.heap∧(∀b∈fp,H' b=none)∧W i n ys H') ?_ m0 ⟨0,List.replicate Xs.length none,[],_,List.length_replicate,I4,st4,fr3,w0⟩
  rintro n s5 ⟨i,ox,ys,H5,hox,I5,st5,fr5,w5⟩
  rcases turn i n ys H5 w5 with ⟨stop,qn⟩ | ⟨go,step⟩
  ·refine wpAny_mono (T.done (blk X scope cl s3.heap.objs.size (Xs++Nf) s3 (upd H2 s2.heap.objs.size (.lst [])) fp) rfl rfl rfl hc i [] s5 _ H5 _ I5 (stat fr5) st5 stop) (fun r s6 ⟨hr,I6⟩=>?_) fun _ _ z=>z
   subst hr
   exact fin I6 qn
  ·refine wpAny_mono (T.item (blk X scope cl s3.heap.objs.size (Xs++Nf) s3 (upd H2 s2.heap.objs.size (.lst [])) fp) rfl rfl rfl hc i [] s5 _ H5 _ I5 (stat fr5) st5 go) (fun r s6 ⟨u,hr,h6⟩=>?_) fun _ _ z=>z
   subst hr
   refine wpAny_mono h6 (fun _ s7 ⟨x7,H7,I7,r7,y7,st7,fr7⟩=>?_) fun _ _ z=>z
   have I7':=I7.pinned (stat fr7) (T.obj _ _ st7)
   refine wpAny_mono (hg s3.heap.objs.size s3 (upd H2 s2.heap.objs.size (.lst [])) fp _ s7 _ H7 x7 u _ I7' r7 (step x7 H7 ox hox y7)) (fun _ s8 ⟨σ8,H8,I8,ox2,hox2,e8,q8⟩=>?_) fun _ _ z=>False.elim z
   subst e8
   refine wpAny_mono (hcn s3.heap.objs.size s3 _ fp _ s8 _ H8 _ I8 q8) (fun b8 s8b ⟨H8b,I8b,q8b⟩=>?_) fun _ _ z=>False.elim z
   have ends:∀(H10:Hp) (s10:Shared) (ys':List V) (m':Nat),m' < n→W (i+1) m' ys' H10→Inv (blk X scope cl s3.heap.objs.size (Xs++Nf) s3 (upd H2 s2.heap.objs.size (.lst [])) fp) ([]++pinsAt fp s7.heap) (ox2++vs.map some) H10 s10→
     ∃m,m < n∧∃i ox ys H',ox.length=Xs.length∧Inv (blk X scope cl s3.heap.objs.size (Xs++Nf) s3 (upd H2 s2.heap.objs.size (.lst [])) fp) [] (ox++vs.map some) H' s10∧tn i s10.heap∧(∀b∈fp,H' b=none)∧W i m ys H':=fun H10 s10 ys' m' hm' w9 I10=>by
    refine ⟨m',hm',i+1,ox2,ys',_,hox2,I10.unpinned,T.keep _ _ _ st7 fun b hb o e=>(I10.pin (b,o) (List.mem_append_right _ (List.mem_append_right _ (mem_pinsAt hb e)))).1,fun b hb=>?_,w9⟩
    obtain ⟨o,e,d⟩:=T.obj _ _ st7 b hb
    exact (I10.pin (b,o) (List.mem_append_right _ (List.mem_append_right _ (mem_pinsAt hb e)))).2.1
   cases b8 with
   | false=>
    rw[if_neg Bool.false_ne_true] at q8b ⊢
    obtain ⟨m',hm',w9⟩:=q8b
    exact ends _ _ _ _ hm' w9 I8b
   | true=>
    rw[if_pos rfl] at q8b ⊢
    refine wpAny_mono (he s3.heap.objs.size s3 _ fp _ s8b _ H8b _ I8b q8b) (fun v9 s9 ⟨v,H9,I9,r9,hD9,hz9,m',hm',w9⟩=>?_) fun _ _ z=>False.elim z
    refine wpAny_mono (mt_append (X:=blk X scope cl s3.heap.objs.size (Xs++Nf) s3 (upd H2 s2.heap.objs.size (.lst [])) fp) _ s9 _ H9 (.ref s2.heap.objs.size) [v] (.ref s2.heap.objs.size) [v9] (fun _ H'=>H'=upd H9 s2.heap.objs.size (.lst (ys++[v]))) I9 rfl (.cons r9 .nil) ⟨_,ys,v,rfl,rfl,hD9,hz9,rfl⟩)
     (fun _ s10 ⟨_,H10,I10,_,e10⟩=>?_) fun _ _ z=>False.elim z
    subst e10
    exact ends _ _ _ _ hm' w9 I10
 have e4:({ s2 with heap:=h₁,toks:=s2.toks+([]:List (Str×Value)).length }:Shared)={ s3 with heap:=h₁,toks:=s3.toks+([]:List (Str×Value)).length }:=by rw[hs3]
 rw[e4]
 exact codeAny_compStart_list (loop _ rfl) (T.self _ 0 _ _ _ st4 (loop _ rfl))
end
end L2
namespace GS
open PySem PySem.Spec PySem.Builtin PyProof.Rows L2
open PySem.SeqAt
open PySem.MeetsSeq PySem.MeetsSeq2 PySem.MeetsSeq3
theorem getItem_tuple_whole {prog:Program} {w:World} {A:Around} {E:Value→Shared→Prop} {s:Shared} {t sl:Addr} {items:Array Value} {vl vu:Value} {lo hi:Option Int} {Q:Value→Shared→Prop} (ht:IsTup s.heap t items) (hs:s.heap.IsSliceOf sl vl vu .none) (pl:IsPart vl lo) (pu:IsPart vu hi)
  (hw:HT.sIx items.size 0 lo=0∧HT.sIx items.size items.size hi=items.size) (h:Q (.ref t) s):wpAny (model prog w) A (getItem (.ref t) (.ref sl)) Q E s:=by
 obtain ⟨os,hos,hcs,hds⟩:=id hs
 have hTs:s.TypeIs (.ref sl) "slice":=⟨os,hos,hcs⟩
 unfold getItem
 try with_reducible refine wpAny_holding ?_
 first | refine wpAny_bind (wpAny_pure ?_) | skip
 refine wpAny_bind (wpAny_sequenceKey ht.typeIs (by decide) ?_)
 refine wpAny_bind (wpAny_callSpecial?_slot (name:=Str.ofString "__getitem__") ht.typeIs PyProof.Rows.slot_tuple_getitem
  (wpAny_call_entry PyProof.Rows.slot_tuple_getitem ht.typeIs entry_tuple_getitem ?_ (args_tuple_getitem _ _)))
 show wpAny _ _ (Builtin.Tuple.tupleItemsOf (.ref t) >>= _) _ _ s
 refine wpAny_bind (tupleItemsOf_ ht ?_)
 refine wpAny_bind (wpAny_typeOf hTs ?_)
 rw[if_pos (by decide)]
 refine wpAny_bind (HT.sliceApplied_gen hs pl pu ?_)
 rw[hw.1,hw.2]
 show wpAny _ _ (if (((0:Nat):Int) == 0 && (1:Int) == 1 && (items.size - 0) == items.size)=true then _ else _) _ _ s
 rw[if_pos (by simp)]
 refine wpAny_bind ?_
 unfold Builtin.Tuple.tupleIsExact
 refine wpAny_bind (wpAny_typeOf ht.typeIs (wpAny_pure ?_))
 rw[if_pos (by decide)]
 exact wpAny_bind (wpAny_rule (wpAny_pure ⟨_,rfl,wpAny_pure h⟩))
section
variable {X:Cx} {K:PySem.W.Frag} {H:Hp}
end
end GS
namespace L2
open PySem PySem.Spec PyProof.Rows
section
variable {κ:Type} [DecidableEq κ]
def valV (kvs:List (κ×V)) (k:κ):Option V:=(kvs.find? fun kv=>decide (kv.1=k)).map (·.2)
def putK (kvs:List (κ×V)) (k:κ) (v:V):List (κ×V):=
 if (kvs.any fun kv=>decide (kv.1=k))=true then kvs.map (fun kv=>if kv.1=k then (kv.1,v) else kv) else kvs++[(k,v)]
theorem valV_pos {p:κ×V} {r:List (κ×V)} {k:κ} (e:p.1=k):valV (p::r) k=some p.2:=by simp[valV,List.find?_cons,e]
theorem valV_neg {p:κ×V} {r:List (κ×V)} {k:κ} (e:¬p.1=k):valV (p::r) k=valV r k:=by simp[valV,List.find?_cons,e]
theorem valV_any (k:κ):∀kvs:List (κ×V),(kvs.any fun kv=>decide (kv.1=k))=(valV kvs k).isSome
 | []=>rfl
 | p::r=>by
  rw[List.any_cons]
  by_cases e:p.1=k
  ·simp only [valV_pos e,decide_eq_true e,Bool.true_or,Option.isSome_some]
  ·rw[valV_neg e,decide_eq_false e,Bool.false_or]; exact valV_any k r
theorem valV_map (k j:κ) (y:V):∀kvs:List (κ×V),valV (kvs.map fun kv=>if kv.1=k then (kv.1,y) else kv) j=(valV kvs j).map fun x=>if j=k then y else x
 | []=>rfl
 | p::r=>by
  have ih:=valV_map k j y r
  rw[List.map_cons]
  by_cases h:p.1=k
  ·rw[if_pos h]
   by_cases e:p.1=j
   ·rw[valV_pos (p:=(p.1,y)) e,valV_pos e,Option.map_some,if_pos (e.symm.trans h)]
   ·rw[valV_neg (p:=(p.1,y)) e,valV_neg e,ih]
  ·rw[if_neg h]
   by_cases e:p.1=j
   ·rw[valV_pos (p:=p) e,valV_pos e,Option.map_some,if_neg (fun z=>h (e.trans z))]
   ·rw[valV_neg (p:=p) e,valV_neg e,ih]
theorem valV_snoc (k j:κ) (y:V):∀kvs:List (κ×V),valV kvs k=none→valV (kvs++[(k,y)]) j=if j=k then some y else valV kvs j
 | [],_=>by
  by_cases e:k=j
  ·rw[if_pos e.symm]; exact valV_pos (p:=(k,y)) e
  ·rw[if_neg (fun z=>e z.symm)]; exact valV_neg (p:=(k,y)) e
 | p::r,hn=>by
  rw[List.cons_append]
  have hk:¬p.1=k:=fun z=>by rw[valV_pos z] at hn; cases hn
  rw[valV_neg hk] at hn
  have ih:=valV_snoc k j y r hn
  by_cases e:p.1=j
  ·rw[valV_pos e,valV_pos e,if_neg (fun z=>hk (e.trans z))]
  ·rw[valV_neg e,valV_neg e,ih]
theorem valV_put (kvs:List (κ×V)) (k j:κ) (y:V):valV (putK kvs k y) j=if j=k then some y else valV kvs j:=by
 unfold putK
 by_cases a:(kvs.any fun kv=>decide (kv.1=k))=true
 ·rw[if_pos a,valV_map]
  rw[valV_any] at a
  by_cases e:j=k
  ·obtain ⟨x,hx⟩:=Option.isSome_iff_exists.mp a
   rw[if_pos e,e,hx,Option.map_some,if_pos rfl]
  ·rw[if_neg e]
   cases valV kvs j with
   | none=>rfl
   | some x=>rw[Option.map_some,if_neg e]
 ·rw[if_neg a]
  refine valV_snoc k j y kvs ?_
  rw[valV_any] at a
  cases q:valV kvs k with
  | none=>rfl
  | some x=>rw[q] at a; exact (a rfl).elim
theorem length_putK (kvs:List (κ×V)) (k:κ) (v:V):(putK kvs k v).length≤kvs.length+1:=by
 unfold putK
 split
 ·rw[List.length_map]; omega
 ·rw[List.length_append,List.length_cons,List.length_nil]; omega
theorem RelO.isSome_eq {o:Option V} {u:Option Value} (r:RelO o u):o.isSome=u.isSome:=by
 cases o with
 | none=>cases u with
  | none=>rfl
  | some _=>exact (show False from r).elim
 | some _=>cases u with
  | none=>exact (show False from r).elim
  | some _=>rfl
theorem RelO.getD {o:Option V} {u:Option Value} {d:V} {d':Value} (r:RelO o u) (rd:RelV d d'):RelV (o.getD d) (u.getD d'):=by
 cases o with
 | none=>cases u with
  | none=>exact rd
  | some _=>exact (show False from r).elim
 | some _=>cases u with
  | none=>exact (show False from r).elim
  | some _=>exact r
theorem KV.val {kvs:List (κ×V)} {vs:List (κ×Value)} (r:KV kvs vs) (k:κ):RelO (valV kvs k) (valueAt vs k):=by
 unfold KV at r
 induction r with
 | nil=>exact True.intro
 | @cons p q ps qs h t ih=>
  obtain ⟨h1,h2⟩:=h
  by_cases e:p.1=k
  ·have e':q.1=k:=h1.symm.trans e
   have b:valueAt (q::qs) k=some q.2:=by simp[valueAt,List.find?_cons,e']
   rw[valV_pos e,b]; exact h2
  ·have e':¬q.1=k:=fun z=>e (h1.trans z)
   have b:valueAt (q::qs) k=valueAt qs k:=by simp[valueAt,List.find?_cons,e']
   rw[valV_neg e,b]; exact ih
theorem KV.any {kvs:List (κ×V)} {vs:List (κ×Value)} (r:KV kvs vs) (k:κ):(kvs.any fun kv=>decide (kv.1=k))=vs.any fun kv=>decide (kv.1=k):=by
 unfold KV at r
 induction r with
 | nil=>rfl
 | cons h t ih=>rw[List.any_cons,List.any_cons,ih,h.1]
theorem KV.repl {kvs:List (κ×V)} {vs:List (κ×Value)} (r:KV kvs vs) (k:κ) {y:V} {u:Value} (ry:RelV y u):
  KV (kvs.map fun kv=>if kv.1=k then (kv.1,y) else kv) (vs.map fun kv=>if kv.1=k then (kv.1,u) else kv):=by
 unfold KV at r ⊢
 induction r with
 | nil=>exact .nil
 | @cons p q ps qs h t ih=>
  rw[List.map_cons,List.map_cons]
  refine .cons ?_ ih
  obtain ⟨h1,h2⟩:=h
  by_cases e:p.1=k
  ·rw[if_pos e,if_pos (h1.symm.trans e)]; exact ⟨h1,ry⟩
  ·rw[if_neg e,if_neg (fun z=>e (h1.trans z))]; exact ⟨h1,h2⟩
theorem KV.put {kvs:List (κ×V)} {vs:List (κ×Value)} (r:KV kvs vs) (k:κ) {y:V} {u:Value} (ry:RelV y u):KV (putK kvs k y) (stored vs k u):=by
 unfold putK stored
 rw[r.any k]
 by_cases e:(vs.any fun kv=>decide (kv.1=k))=true
 ·rw[if_pos e,if_pos e]; exact r.repl k ry
 ·rw[if_neg e,if_neg e]; exact Paired.snoc r ⟨rfl,ry⟩
theorem KV.keys {kvs:List (κ×V)} {vs:List (κ×Value)} (r:KV kvs vs):kvs.map (·.1)=vs.map (·.1):=by
 unfold KV at r
 induction r with
 | nil=>rfl
 | cons h t ih=>rw[List.map_cons,List.map_cons,ih,h.1]
theorem KV.length {kvs:List (κ×V)} {vs:List (κ×Value)} (r:KV kvs vs):kvs.length=vs.length:=Paired.length r
end
theorem kV_is {P:Program} {w:World} {k:Key} {u:Value} (r:RelV (kV k) u):(mixKind P w).is k u=true:=by
 cases k with
 | inl i=>obtain ⟨t,e⟩:=(show ∃t,u=Value.int i t from r); subst e; exact mixKind_int P w i t
 | inr x=>obtain ⟨t,e⟩:=(show ∃t,u=Value.str x t from r); subst e; exact mixKind_str P w x t
theorem items_are {P:Program} {w:World}:∀{ks:List Key} {us:List Value},Vals (ks.map kV) us→ItemsAre (mixKind P w) ks us
 | [],_,r=>by rw[List.map_nil] at r; cases r; exact .nil
 | k::ks,_,r=>by
  rw[List.map_cons] at r
  cases r with
  | cons h t=>exact .cons (kV_is h) (items_are t)
abbrev KT (H:Hp):List (List Key×V)→List (List Key×Addr×Value)→Prop:=Paired fun p q=>p.1=q.1∧H q.2.1=some (.tup (p.1.map kV))∧RelV p.2 q.2.2
theorem KT.val {H:Hp} {kvs:List (List Key×V)} {xs:List (List Key×Addr×Value)} (r:KT H kvs xs) (k:List Key):RelO (valV kvs k) ((atKey xs k).map (·.2)):=by
 induction r with
 | nil=>exact True.intro
 | @cons p q ps qs h t ih=>
  obtain ⟨h1,_,h2⟩:=h
  by_cases e:p.1=k
  ·have e':q.1=k:=h1.symm.trans e
   have b:atKey (q::qs) k=some q.2:=by simp[atKey,List.find?_cons,e']
   rw[valV_pos e,b]; exact h2
  ·have e':¬q.1=k:=fun z=>e (h1.trans z)
   have b:atKey (q::qs) k=atKey qs k:=by simp[atKey,List.find?_cons,e']
   rw[valV_neg e,b]; exact ih
theorem KT.repl {H:Hp} {kvs:List (List Key×V)} {xs:List (List Key×Addr×Value)} (r:KT H kvs xs) (k:List Key) {y:V} {u:Value} (ry:RelV y u):
  KT H (kvs.map fun kv=>if kv.1=k then (kv.1,y) else kv) (xs.map (putAt k u)):=by
 induction r with
 | nil=>exact .nil
 | @cons p q ps qs h t ih=>
  rw[List.map_cons,List.map_cons]
  refine .cons ?_ ih
  obtain ⟨h1,h2,h3⟩:=h
  unfold putAt
  by_cases e:p.1=k
  ·rw[if_pos e,if_pos (h1.symm.trans e)]; exact ⟨h1,h2,ry⟩
  ·rw[if_neg e,if_neg (fun z=>e (h1.trans z))]; exact ⟨h1,h2,h3⟩
theorem KT.put {H:Hp} {kvs:List (List Key×V)} {xs:List (List Key×Addr×Value)} (r:KT H kvs xs) (k:List Key) {b:Addr} {y:V} {u:Value} (hb:H b=some (.tup (k.map kV))) (ry:RelV y u):
  KT H (putK kvs k y) (storedH xs k b u):=by
 have e:(kvs.any fun kv=>decide (kv.1=k))=(atKey xs k).isSome:=by
  rw[valV_any,(r.val k).isSome_eq,Option.isSome_map]
 unfold putK storedH
 rw[e]
 by_cases q:(atKey xs k).isSome=true
 ·rw[if_pos q,if_pos q]; exact r.repl k ry
 ·rw[if_neg q,if_neg q]; exact Paired.snoc r ⟨rfl,hb,ry⟩
theorem KT.keeps {H H':Hp} {kvs:List (List Key×V)} {xs:List (List Key×Addr×Value)} (r:KT H kvs xs) (ht:∀b ys,H b=some (.tup ys)→H' b=some (.tup ys)):KT H' kvs xs:=
 Paired.mapP r fun _ _ z=>⟨z.1,ht _ _ z.2.1,z.2.2⟩
section
variable {P:Program} {w:World} {H:Hp} {h:Heap} {a:Addr}
theorem rd_of {u:HO} (ok:HOk P w H h) (e:Rd H a u):ObjOk P w H h a u:=e.ok ok
theorem dk_rd {kvs:List (Key×V)} (ok:HOk P w H h) (e:Rd H a (.dK kvs)):kvs.length≤sizeLine∧(a == sysModules)=false∧∃vs,KV kvs vs∧h.DictOf (mixKind P w) a vs:=
 show ObjOk P w H h a (.dK kvs) from rd_of ok e
theorem dk_of {kvs:List (Key×V)} (ok:HOk P w H h) (e:H a=some (.dK kvs)):kvs.length≤sizeLine∧(a == sysModules)=false∧∃vs,KV kvs vs∧h.DictOf (mixKind P w) a vs:=dk_rd ok (.inl e)
theorem key_of {ks:List Key} (ok:HOk P w H h) (e:H a=some (.tup (ks.map kV))):(tupleKind (mixKind P w)).is h ks a:=by
 obtain ⟨_,its,r,o,h1,h2,n,h3⟩:=(show ObjOk P w H h a (.tup (ks.map kV)) from ok a _ e)
 exact ⟨o,its.toArray,n,h1,h2,h3,by simpa using items_are r⟩
theorem dt_rd {kvs:List (List Key×V)} (ok:HOk P w H h) (e:Rd H a (.dT kvs)):kvs.length≤sizeLine∧(a == sysModules)=false∧
  ∃xs,KT H kvs xs∧h.DictOfH (tupleKind (mixKind P w)) a xs:=by
 obtain ⟨z,y,xs,r,o,es,ep,h1,h2,h3,h4,h5⟩:=(show ObjOk P w H h a (.dT kvs) from rd_of ok e)
 refine ⟨z,y,xs,r,o,es,ep,h1,h2,h3,h4,fun x hx=>?_,h5⟩
 have all:∀{l:List (List Key×V)} {m:List (List Key×Addr×Value)},KT H l m→∀x∈m,(tupleKind (mixKind P w)).is h x.1 x.2.1:=by
  intro l m q
  induction q with
  | nil=>intro x hx; exact nomatch hx
  | @cons p q ps qs hq t ih=>
   intro x hx
   rcases List.mem_cons.mp hx with e | hx
   ·subst e
    exact key_of ok (by rw[← hq.1]; exact hq.2.1)
   ·exact ih x hx
 exact all r x hx
theorem dt_of {kvs:List (List Key×V)} (ok:HOk P w H h) (e:H a=some (.dT kvs)):kvs.length≤sizeLine∧(a == sysModules)=false∧
  ∃xs,KT H kvs xs∧h.DictOfH (tupleKind (mixKind P w)) a xs:=dt_rd ok (.inl e)
end
def DGet (H:Hp) (a:Addr) (y:V) (r:Option V):Prop:=
 (∃kvs k,Rd H a (.dK kvs)∧y=kV k∧r=valV kvs k)∨∃kvs k b,Rd H a (.dT kvs)∧y=.ref b∧H b=some (.tup (k.map kV))∧r=valV kvs k
def DPut (H:Hp) (a:Addr) (y v:V) (H':Hp):Prop:=
 (∃kvs k,H a=some (.dK kvs)∧y=kV k∧kvs.length < sizeLine∧H'=upd H a (.dK (putK kvs k v)))∨
 ∃kvs k b,H a=some (.dT kvs)∧y=.ref b∧H b=some (.tup (k.map kV))∧kvs.length < sizeLine∧H'=upd H a (.dT (putK kvs k v))
theorem DGet.k {H:Hp} {a:Addr} {kvs:List (Key×V)} {k:Key} (e:H a=some (.dK kvs)):DGet H a (kV k) (valV kvs k):=.inl ⟨kvs,k,.inl e,rfl,rfl⟩
theorem DPut.k {H:Hp} {a:Addr} {kvs:List (Key×V)} {k:Key} {v:V} (e:H a=some (.dK kvs)) (hl:kvs.length < sizeLine):DPut H a (kV k) v (upd H a (.dK (putK kvs k v))):=.inl ⟨kvs,k,e,rfl,hl,rfl⟩
section
variable {X:Cx} {pins:List (Addr×Obj)} {σ:St} {H:Hp} {s:Shared} {a:Addr} {y v:V} {u r:Value} {o:Option V} {A:Around} {E:Value→Shared→Prop}
theorem d_getItem {Q:Value→Shared→Prop} (hu:A.units+1 < cLine) (I:Inv X pins σ H s) (g:DGet H a y (some v)) (ry:RelV y u) (h:∀w' s',Inv X pins σ H s'→RelV v w'→Q w' s'):
  wpAny (model X.prog X.w) A (getItem (.ref a) u) Q E s:=by
 rcases g with ⟨kvs,k,e,ey,l⟩ | ⟨kvs,k,b,e,ey,eb,l⟩
 ·subst ey
  obtain ⟨z,hd,vs,rel,dd⟩:=dk_rd I.hok e
  obtain ⟨w',hw,rw'⟩:=RelO.some_of (v:=v) (o:=valueAt vs k) (by rw[l]; exact rel.val k)
  exact wpAny_getItem_of (kV_is ry) dd.mapOf hw (h w' _ (I.tok _) rw')
 ·subst ey
  cases (show u=Value.ref b from ry)
  obtain ⟨z,hd,xs,rel,dd⟩:=dt_rd I.hok e
  obtain ⟨w',hw,rw'⟩:=RelO.some_of (v:=v) (o:=(atKey xs k).map (·.2)) (by rw[l]; exact rel.val k)
  obtain ⟨p,hp,hp2⟩:=Option.map_eq_some_iff.mp hw
  refine wpAny_getItem_heap (tupleKind_room_in1 hu) (key_of I.hok eb) dd hp ?_
  rw[hp2]
  exact h w' _ (I.tok _) rw'
theorem d_in {Q:Value→Shared→Prop} (hu:A.units+1 < cLine) (I:Inv X pins σ H s) (g:DGet H a y o) (ry:RelV y u) (h:∀s',Inv X pins σ H s'→Q (.bool o.isSome) s'):
  wpAny (model X.prog X.w) A (compareOp .In u (.ref a)) Q E s:=by
 rcases g with ⟨kvs,k,e,ey,l⟩ | ⟨kvs,k,b,e,ey,eb,l⟩
 ·subst ey
  obtain ⟨z,hd,vs,rel,dd⟩:=dk_rd I.hok e
  refine wpAny_in_of (kV_is ry) hd dd.mapOf ?_
  rw[← (rel.val k).isSome_eq,← l]
  exact h _ (I.tok _)
 ·subst ey
  cases (show u=Value.ref b from ry)
  obtain ⟨z,hd,xs,rel,dd⟩:=dt_rd I.hok e
  refine wpAny_in_heap (tupleKind_room_in1 hu) (key_of I.hok eb) hd dd ?_
  have q:=(rel.val k).isSome_eq
  rw[Option.isSome_map] at q
  rw[← q,← l]
  exact h _ (I.tok _)
theorem d_write {h':Heap} {t':Nat} {ob:HO} (I:Inv X pins σ H s) (mu:Mut (H a)) (hs:Heap.SameBut a s.heap h') (he:∃q,h'.get? a=some q) (new:ObjOk X.prog X.w (upd H a ob) h' a ob):
  Inv X pins σ (upd H a ob) { s with heap:=h',toks:=t' }:=
 I.write (x:=a) (e:=a) mu (.inl rfl) (fun b q hb z=>(hs.2 b hb).trans z) he new
theorem dk_new {P:Program} {w:World} {H':Hp} {h':Heap} {kvs:List (Key×V)} {vs:List (Key×Value)} (z:kvs.length≤sizeLine) (hd:(a == sysModules)=false) (rel:KV kvs vs) (dd:h'.DictOf (mixKind P w) a vs):
  ObjOk P w H' h' a (.dK kvs):=⟨z,hd,vs,rel,dd⟩
theorem d_setItem {H':Hp} {Q:Unit→Shared→Prop} (hu:A.units+1 < cLine) (I:Inv X pins σ H s) (g:DPut H a y v H') (ry:RelV y u) (rv:RelV v r) (h:∀s',Inv X pins σ H' s'→Q () s'):
  wpAny (model X.prog X.w) A (setItem (.ref a) u r) Q E s:=by
 rcases g with ⟨kvs,k,e,ey,l,eH⟩ | ⟨kvs,k,b,e,ey,eb,l,eH⟩
 ·subst ey eH
  obtain ⟨z,hd,vs,rel,dd⟩:=dk_of I.hok e
  have hz:vs.length≤sizeLine:=by rw[← rel.length]; exact z
  have hl:(putK kvs k v).length≤sizeLine:=by have:=length_putK kvs k v; omega
  refine wpAny_setItem_pairs (hsz:=hz) (kV_is ry) dd fun h' dd' hs=>h _ ?_
  have he:∃q,h'.get? a=some q:=let ⟨q,_,_,hq,_⟩:=dd'; ⟨q,hq⟩
  exact d_write I (by rw[e]; exact True.intro) hs he (dk_new hl hd (rel.put k rv) dd')
 ·subst ey eH
  cases (show u=Value.ref b from ry)
  obtain ⟨z,hd,xs,rel,dd⟩:=dt_of I.hok e
  have hz:xs.length≤sizeLine:=by rw[← Paired.length rel]; exact z
  have hl:(putK kvs k v).length≤sizeLine:=by have:=length_putK kvs k v; omega
  refine wpAny_setItem_heap (hsz:=hz) (tupleKind_room_in1 hu) (key_of I.hok eb) dd fun h' dd' hs=>h _ ?_
  obtain ⟨q,es,ep,hq,h2,h3,h4,_,h5⟩:=dd'
  refine d_write I (by rw[e]; exact True.intro) hs ⟨q,hq⟩ ⟨hl,hd,_,(rel.put k eb rv).keeps fun c ys ec=>?_,q,es,ep,hq,h2,h3,h4,h5⟩
  rw[upd_ne (ne_of ec e (fun z=>nomatch z))]
  exact ec
end
section
variable {X:Cx} {pins:List (Addr×Obj)} {σ:St} {H:Hp} {s:Shared} {a:Addr} {kvs:List (Key×V)} {k:Key} {u:Value} {A:Around} {E:Value→Shared→Prop}
end
def NoSl (i:Expr):Prop:=∀ov iv,subscripted i false ov iv=operate [ov,iv] (getItem ov iv)
theorem subD_of {prog:Program} {w:World} {A:Around} {E:Value→Shared→Prop} {s:Shared} {env:Env} {value slice:Expr} {pos:Pos} {T id:String} {Q:Value→Shared→Prop}
  (hl:typeLookup (.type T) "__getitem__"=pure (some (.builtin id))) (hs:NoSl slice)
  (h:wpAny (model prog w) A (eval value env) (fun o s₁=>wpAny (model prog w) A (eval slice env) (fun i s₂=>s₂.TypeIs o T∧wpAny (model prog w) A (getItem o i) Q E s₂) E s₁) E s):
  wpAny (model prog w) A (eval (.Subscript value slice pos) env) Q E s:=by
 refine Subscript_ (wpAny_mono h (fun o s₁ h₁=>wpAny_mono h₁ (fun i s₂ h₂=>?_) fun _ _ x=>x) fun _ _ x=>x)
 obtain ⟨hT,h₂⟩:=h₂
 unfold subscriptTail
 refine wpAny_bind ?_
 rw[getitemInPython_of_ne hT.not_modules]
 refine wpAny_bind (wpAny_specialOf hT hl ?_)
 have fin:wpAny (model prog w) A (subscripted slice false o i) (fun r s₃=>wpAny (model prog w) A (letTemporaryGo value o r >>= fun _=>pure r) Q E s₃) E s₂:=by
  rw[hs o i]
  exact wpAny_operating (wpAny_mono h₂ (fun r s₃ h₃=>wpAny_bind (wpAny_letTemporaryGo (wpAny_pure h₃))) fun _ _ x=>x)
 first
  | exact wpAny_pure (wpAny_bind fin)
  | exact wpAny_bind (wpAny_pure (wpAny_bind fin))
  | exact wpAny_bind fin
theorem dict_typeIs {X:Cx} {pins:List (Addr×Obj)} {σ:St} {H:Hp} {s:Shared} {a:Addr} {y:V} {o:Option V} (I:Inv X pins σ H s) (g:DGet H a y o):s.TypeIs (.ref a) "dict":=by
 rcases g with ⟨kvs,k,e,_,_⟩ | ⟨kvs,k,b,e,_,_,_⟩
 ·obtain ⟨_,_,vs,_,dd⟩:=dk_rd I.hok e
  exact dd.typeIs
 ·obtain ⟨_,_,xs,_,dd⟩:=dt_rd I.hok e
  exact dd.typeIs
def tDGet (td ty:TE):TE:=fun σ H Q=>td σ H fun x H1=>ty σ H1 fun y H2=>∃a v,x=.ref a∧DGet H2 a y (some v)∧Q v H2
def tDIn (ty td:TE):TE:=fun σ H Q=>ty σ H fun y H1=>td σ H1 fun x H2=>∃a o,x=.ref a∧DGet H2 a y o∧Q (.bl o.isSome) H2
def sDPut (td ty tv:TE):TS:=fun D σ H=>tv σ H fun v H1=>td σ H1 fun x H2=>ty σ H2 fun y H3=>∃a H4,x=.ref a∧DPut H3 a y v H4∧D.nx σ H4
section
variable {X:Cx} {o i e value:Expr} {pos pos' tpos:Pos} {td ty tv:TE}
theorem pe_dget (hu:X.A.units+1 < cLine) (ho:PE X o td) (hi:PE X i ty) (hs:NoSl i):PE X (.Subscript o i pos) (tDGet td ty):=by
 intro pins s σ H Q I h
 refine subD_of PySem.F.slot_dict_getitem.lookup hs (thn (ho pins s σ H _ I h) fun u s1 ⟨x,H1,I1,rx,q1⟩=>thn (hi pins s1 σ H1 _ I1 q1) fun iv s2 ⟨y,H2,I2,ry,a,v,ex,g,q2⟩=>?_)
 subst ex
 obtain rfl:u=Value.ref a:=rx
 exact ⟨dict_typeIs I2 g,d_getItem hu I2 g ry fun w' s3 I3 rw'=>⟨v,H2,I3,rw',q2⟩⟩
theorem pc_din (hu:X.A.units+1 < cLine) (hi:PE X i ty) (ho:PE X o td):PC X .In i o (tDIn ty td):=by
 intro pins s σ H Q I h
 refine thn (hi pins s σ H _ I h) fun iv s1 ⟨y,H1,I1,ry,q1⟩=>thn (ho pins s1 σ H1 _ I1 q1) fun u s2 ⟨x,H2,I2,rx,a,ov,ex,g,q2⟩=>?_
 subst ex
 obtain rfl:u=Value.ref a:=rx
 exact d_in hu I2 g ry fun s3 I3=>⟨.bl ov.isSome,H2,I3,rfl,q2⟩
theorem ps_dput (hu:X.A.units+1 < cLine) (ho:PE X o td) (hi:PE X i ty) (hv:PE X value tv) (hs:swapsWith value (some (.Subscript o i pos')) pos.line X.env=pure false):
  PS X (.Assign [.Subscript o i pos'] value pos) (sDPut td ty tv):=by
 intro pins s σ H D I h
 refine wpAny_Assign_Subscript (thn (hv pins s σ H _ I h) fun r s1 ⟨v,H1,I1,rv,q1⟩=>thn (ho pins s1 σ H1 _ I1 q1) fun u s2 ⟨x,H2,I2,rx,q2⟩=>thn (hi pins s2 σ H2 _ I2 q2) fun iv s3 ⟨y,H3,I3,ry,a,H4,ex,g,q3⟩=>?_) hs
 subst ex
 obtain rfl:u=Value.ref a:=rx
 exact d_setItem hu I3 g ry rv fun s4 I4=>⟨σ,H4,I4,q3⟩
end
section
variable {X:Cx} {pos:Pos}
end
def tPairs:List (TE×TE)→St→Hp→(List (V×V)→Hp→Prop)→Prop
 | [],_,H,Q=>Q [] H
 | (tk,tv)::r,σ,H,Q=>tk σ H fun x H1=>tv σ H1 fun y H2=>tPairs r σ H2 fun ps H3=>Q ((x,y)::ps) H3
abbrev VV:List (V×V)→List (Value×Value)→Prop:=Paired fun p q=>RelV p.1 q.1∧RelV p.2 q.2
def PPs (X:Cx) (pos:Pos) (keys:List (Option Expr)) (values:List Expr) (trs:List (TE×TE)):Prop:=
 ∀(pins:List (Addr×Obj)) (s:Shared) (σ:St) (H:Hp) (Q:List (V×V)→Hp→Prop),Inv X pins σ H s→tPairs trs σ H Q→
  wpAny (model X.prog X.w) X.A (evalPairs (pairTrees keys values X.env pos)) (fun vs s'=>∃ps H',Inv X pins σ H' s'∧VV ps vs∧Q ps H') X.xe s
theorem pps_nil {X:Cx} {pos:Pos}:PPs X pos [] [] []:=fun pins s σ H Q I h=>pairTrees_nil_walk ⟨[],H,I,.nil,h⟩
theorem pps_cons {X:Cx} {pos:Pos} {k v:Expr} {ks:List (Option Expr)} {vs:List Expr} {tk tv:TE} {trs:List (TE×TE)} (hk:PE X k tk) (hv:PE X v tv) (hr:PPs X pos ks vs trs):
  PPs X pos (some k::ks) (v::vs) ((tk,tv)::trs):=fun pins s σ H Q I h=>
 pairTrees_cons_walk (thn (hk pins s σ H _ I h) fun u s1 ⟨x,H1,I1,rx,q1⟩=>thn (hv pins s1 σ H1 _ I1 q1) fun w2 s2 ⟨y,H2,I2,ry,q2⟩=>
  thn (hr pins s2 σ H2 _ I2 q2) fun ws s3 ⟨ps,H3,I3,rel,q3⟩=>⟨(x,y)::ps,H3,I3,.cons ⟨rx,ry⟩ rel,q3⟩)
def mergeK (kvs more:List (Key×V)):List (Key×V):=more.foldl (fun acc kv=>putK acc kv.1 kv.2) kvs
theorem KV.merge:∀{more:List (Key×V)} {rs:List (Key×Value)} {kvs:List (Key×V)} {vs:List (Key×Value)},KV more rs→KV kvs vs→KV (mergeK kvs more) (merged vs rs):=by
 intro more rs kvs vs r
 unfold KV at r
 induction r generalizing kvs vs with
 | nil=>intro q; exact q
 | @cons p q ps qs h t ih=>
  intro r0
  have e:KV (putK kvs p.1 p.2) (stored vs q.1 q.2):=by
   have:=r0.put p.1 h.2
   rw[← h.1]; exact this
  exact ih e
theorem length_mergeK:∀(more kvs:List (Key×V)),(mergeK kvs more).length≤kvs.length+more.length
 | [],kvs=>by show kvs.length≤kvs.length+0; omega
 | p::r,kvs=>by
  have h1:=length_mergeK r (putK kvs p.1 p.2)
  have h2:=length_putK kvs p.1 p.2
  show (mergeK (putK kvs p.1 p.2) r).length≤_
  rw[List.length_cons]; omega
theorem carries_of {P:Program} {w:World}:∀{kvs:List (Key×V)} {ws:List (Value×Value)},VV (kvs.map fun kv=>(kV kv.1,kv.2)) ws→∃rs,Carries (mixKind P w) ws rs∧KV kvs rs
 | [],_,r=>by rw[List.map_nil] at r; cases r; exact ⟨[],True.intro,.nil⟩
 | p::kvs,_,r=>by
  rw[List.map_cons] at r
  cases r with
  | @cons a b as bs h t=>
   obtain ⟨rs,c,q⟩:=carries_of (P:=P) (w:=w) t
   obtain ⟨b1,b2⟩:=b
   exact ⟨(p.1,b2)::rs,⟨kV_is h.1,rfl,c⟩,.cons ⟨rfl,h.2⟩ q⟩
def tDisp (trs:List (TE×TE)):TE:=fun σ H Q=>∀p,H p=none→tPairs trs σ (upd H p (.dK [])) fun ps H2=>H2 p=some (.dK [])∧∃kvs:List (Key×V),ps=kvs.map (fun kv=>(kV kv.1,kv.2))∧kvs.length≤15∧Q (.ref p) (upd H2 p (.dK (mergeK [] kvs)))
theorem pe_disp {X:Cx} {pos:Pos} {keys:List (Option Expr)} {values:List Expr} {trs:List (TE×TE)} (h:PPs X pos keys values trs) (hall:keys.all (·.isSome)=true) (hl:keys.length=values.length) (h0:keys≠[])
  (h15:keys.length≤15):PE X (.Dict keys values pos) (tDisp trs):=by
 intro pins s σ H Q I q
 have hn:=I.hok.fresh (Nat.le_refl s.heap.objs.size)
 have I1:=I.laid (a:=s.heap.objs.size) (o:=.dK []) (h':=s.heap.push { cls:=.type "dict",data:=.dict #[] }) (t':=s.toks) (fun _ _ q=>Heap.get?_push_of_some _ q) (Nat.le_refl _) (dk_empty s.heap I.big)
 refine wpAny_Dict_walk (knd:=mixKind X.prog X.w) hall hl h0 h15 (thn (h pins _ σ _ _ I1 (q _ hn)) fun ws s2 ⟨ps,H2,I2,rel,e,kvs,ep,lk,q2⟩=>?_)
 subst ep
 obtain ⟨rs,c,rk⟩:=carries_of (P:=X.prog) (w:=X.w) rel
 obtain ⟨z,hd,vs0,r0,dd⟩:=dk_of I2.hok e
 cases r0
 refine ⟨rs,c,dd,fun h' dd' hs=>⟨.ref s.heap.objs.size,_,?_,rfl,q2⟩⟩
 have hz:(mergeK [] kvs).length≤sizeLine:=by
  have h1:=length_mergeK kvs []
  rw[List.length_nil] at h1
  rw[sizeLine_eq]; omega
 have he:∃q,h'.get? s.heap.objs.size=some q:=let ⟨q,_,_,hq,_⟩:=dd'; ⟨q,hq⟩
 exact d_write I2 (by rw[e]; exact True.intro) hs he (dk_new hz hd (rk.merge .nil) dd')
structure M1 (X:Cx) (o:Expr) (m:Str) (apos:Pos) (e:Expr) (cpos:Pos):Prop where
 base:attributeBase o m X.env (eval o X.env)=eval o X.env
 few:((backTo cpos (starEach [e] X.env)).all (fun x=>!x.1) && (backToKw cpos (keywordEach [] X.env)).all (fun x=>x.1.isSome)
  && decide (([e]:List Expr).length+([]:List Keyword).length+(if ([]:List Keyword).isEmpty then 0 else 1) < 30))=true
 line:(apos.endLine == cpos.line)=true
 trees:backTo cpos (starEach [e] X.env)=[(false,eval e X.env)]
def IsD (H:Hp) (a:Addr):Prop:=(∃kvs,Rd H a (.dK kvs))∨∃kvs,Rd H a (.dT kvs)
theorem isD_at {X:Cx} {pins:List (Addr×Obj)} {σ:St} {H:Hp} {s:Shared} {a:Addr} (I:Inv X pins σ H s) (d:IsD H a):
  s.TypeIs (.ref a) "dict"∧(∀b,Value.ref a=.ref b→∃ob,s.heap.get? b=some ob∧ob.dict=none)∧(a == sysModules)=false:=by
 rcases d with ⟨kvs,e⟩ | ⟨kvs,e⟩
 ·obtain ⟨_,hd,vs,_,dd⟩:=dk_rd I.hok e
  refine ⟨dd.typeIs,fun b q=>?_,hd⟩
  cases q
  obtain ⟨ob,_,_,h1,h2,_⟩:=dd
  exact ⟨ob,h1,h2.2.1⟩
 ·obtain ⟨_,hd,xs,_,dd⟩:=dt_rd I.hok e
  refine ⟨dd.typeIs,fun b q=>?_,hd⟩
  cases q
  obtain ⟨ob,_,_,h1,h2,_⟩:=dd
  exact ⟨ob,h1,h2.2.1⟩
section
variable {X:Cx} {pins:List (Addr×Obj)} {σ:St} {H:Hp} {s:Shared} {a:Addr} {y d:V} {u r:Value} {o:Option V} {A:Around} {E:Value→Shared→Prop}
theorem d_get1 {Q:Value→Shared→Prop} (hu:A.units+1 < cLine) (I:Inv X pins σ H s) (g:DGet H a y o) (ry:RelV y u) (h:∀w' s',Inv X pins σ H s'→RelV (o.getD .non) w'→Q w' s'):
  wpAny (model X.prog X.w) A (call (.builtin "dict.get") [.ref a,u]) Q E s:=by
 rcases g with ⟨kvs,k,e,ey,l⟩ | ⟨kvs,k,b,e,ey,eb,l⟩
 ·subst ey
  obtain ⟨z,hd,vs,rel,dd⟩:=dk_rd I.hok e
  refine call_meetsIn PySem.F.slot_dict_get dd.typeIs PySem.F.entry_dict_get (PySem.F.args_dict_get_2 _ _) (meets_dict_get (mixKind X.prog X.w) a (kV_is ry) hd) ⟨_,dd.mapOf,h _ _ (I.tok _) ?_⟩
  rw[l]
  exact (rel.val k).getD rfl
 ·subst ey
  cases (show u=Value.ref b from ry)
  obtain ⟨z,hd,xs,rel,dd⟩:=dt_rd I.hok e
  refine call_meetsIn PySem.F.slot_dict_get dd.typeIs PySem.F.entry_dict_get (PySem.F.args_dict_get_2 _ _) (meetsH_dict_get (tupleKind (mixKind X.prog X.w)) a b hd) ⟨tupleKind_room_in1 hu,k,xs,key_of I.hok eb,dd,h _ _ (I.tok _) ?_⟩
  rw[l]
  exact (rel.val k).getD rfl
end
def tDGet1 (td ty:TE):TE:=fun σ H Q=>td σ H fun x H1=>∃a,x=.ref a∧IsD H1 a∧ty σ H1 fun y H2=>∃o,DGet H2 a y o∧Q (o.getD .non) H2
section
variable {X:Cx} {o e f:Expr} {apos cpos:Pos} {td ty tx:TE}
theorem pe_dget1 (hu:X.A.units+1 < cLine) (ho:PE X o td) (he:PE X e ty) (m:M1 X o "get" apos e cpos):PE X (.Call (.Attribute o "get" apos) [e] [] cpos) (tDGet1 td ty):=by
 intro pins s σ H Q I h
 refine wpAny_Call_method m.base m.few m.line PySem.F.plainAttrs_dict PySem.F.slot_dict_get PySem.F.type_dict_get (thn (ho pins s σ H _ I h) fun u s1 ⟨x,H1,I1,rx,a,ex,d,q1⟩=>?_)
 subst ex
 obtain rfl:u=Value.ref a:=rx
 obtain ⟨t1,t2,_⟩:=isD_at I1 d
 refine ⟨t1,t2,?_⟩
 rw[m.trees]
 refine Calls.callWith_builtin rfl (Calls.evalArgs_plain (Calls.spliced_cons (thn (he pins s1 σ H1 _ I1 q1) fun iv s2 ⟨y,H2,I2,ry,ov,g,q2⟩=>Calls.spliced_nil ?_)))
 exact d_get1 hu I2 g ry fun w' s3 I3 rw'=>⟨_,H2,I3,rw',q2⟩
end
section
variable {X:Cx} {pins:List (Addr×Obj)} {σ:St} {H:Hp} {s:Shared} {a:Addr} {kvs:List (Key×V)} {A:Around} {E:Value→Shared→Prop}
end
section
variable {X:Cx} {pins:List (Addr×Obj)} {σ:St} {H:Hp} {s:Shared} {a:Addr} {y:V} {u:Value} {A:Around} {E:Value→Shared→Prop}
end
end L2
namespace L2
open PySem PySem.Spec PyProof.Rows PySem.Builtin PySem.Builtin.Str
section
variable {X:Cx}
def rSlQ (K:PySem.W.Frag):V→Option Int→Option Int→Hp→VK→Prop:=fun x lo hi H Q=>∃a xs,x=.ref a∧SqT K H a xs∧∀b H',Same H H'→SqT K H' b (cutV xs lo hi)→Q (.ref b) H'
theorem sl_Q:SlR X (rSlQ X.K):=by
 intro pins s σ H x v vl vu lo hi sl Q I rx hs pl pu h
 obtain ⟨a,xs,rfl,hq,q⟩:=h
 by_cases hw:HT.sIx xs.length 0 lo=0∧HT.sIx xs.length xs.length hi=xs.length
 ·cases rx
  obtain ⟨its,r,ht,hz⟩:=I.tuple hq
  have hlen:its.toArray.size=xs.length:=by rw[List.size_toArray]; exact r.length.symm
  refine ⟨"tuple",_,PyProof.Rows.slot_tuple_getitem.lookup,ht.typeIs,?_⟩
  refine GS.getItem_tuple_whole ht hs pl pu (by rw[hlen]; exact hw) ⟨.ref a,H,I,rfl,q _ H (Same.refl H) ?_⟩
  have e:cutV xs lo hi=xs:=by
   unfold cutV
   rw[hw.1,hw.2]
   simp
  rw[e]; exact hq
 ·exact sl_tup pins s σ H _ v vl vu lo hi sl Q I rx hs pl pu ⟨a,xs,rfl,hq,hw,fun p hp=>q _ _ (GS.same_new hp _) (SqT.of upd_same)⟩
end
end L2
namespace L3
open PySem PyProof.Rows L2
section
variable {X:Cx} {o i:Expr} {pos:Pos} {td ty:TE}
theorem pt_din (hu:X.A.units+1 < cLine) (hi:LE X i ty) (ho:LE X o td) (hm:behindInMarks .In o=false:=by rfl):LT X (.Compare i [.In] [o] pos) (tB (tDIn ty td)):=.mk (L2.pt_cmp (L2.pc_din hu hi.out ho.out) hm)
theorem pe_dget (hu:X.A.units+1 < cLine) (ho:LE X o td) (hi:LE X i ty) (hs:NoSl i:=by intro _ _; rfl):LE X (.Subscript o i pos) (tDGet td ty):=.mk (L2.pe_dget hu ho.out hi.out hs)
end
end L3
namespace GS
open PySem L2 PyProof.Rows
section
variable {X:Cx}
def tyD:D→String
 | .non=>"NoneType" | .bl _=>"bool" | .int _=>"int" | .str _=>"str" | .tup _=>"tuple"
theorem kit_D {pins:List (Addr×Obj)} {σ:L2.St} {H:Hp} {s:Shared} {x:V} {u:Value} {d:D} (I:Inv X pins σ H s) (rx:RelV x u) (hx:At X.K H d x):∃HP,PySem.W.KitX X.K u (.type (tyD d)) HP∧HP s.heap∧u≠Value.builtin "__main__.__loader__#opaque":=by
 cases d with
 | non=>rw[At_non.mp hx] at rx; cases (show u=Value.none from rx); exact ⟨_,PySem.W.kitx_none,True.intro,(fun z=>nomatch z)⟩
 | bl y=>rw[At_bl.mp hx] at rx; cases (show u=Value.bool y from rx); exact ⟨_,PySem.W.kitx_bool,True.intro,(fun z=>nomatch z)⟩
 | int i=>rw[At_int.mp hx] at rx; obtain ⟨t,q⟩:=(show ∃t,u=Value.int i t from rx); cases q; exact ⟨_,PySem.W.kitx_int,True.intro,(fun z=>nomatch z)⟩
 | str y=>rw[At_str.mp hx] at rx; obtain ⟨t,q⟩:=(show ∃t,u=Value.str y t from rx); cases q; exact ⟨_,PySem.W.kitx_str,True.intro,(fun z=>nomatch z)⟩
 | tup ds=>
  obtain ⟨p,vs,rfl,hq,_⟩:=At_tup.mp hx
  cases (show u=Value.ref p from rx)
  obtain ⟨its,_,⟨o,h1,h2,_⟩,_⟩:=I.tuple hq
  exact ⟨_,PySem.W.kitx_tuple,⟨o,h1,h2⟩,(fun z=>nomatch z)⟩
theorem call_isiD:CallR X (.builtin "isinstance") (fun xs H Q=>∃x T d b,xs=[x,.ty T]∧At X.K H d x∧PySem.W.kitOne X.K (.type (tyD d)) (.type T)=some b∧Q (.bl b) H):=by
 intro pins s σ H xs us Q I r h
 obtain ⟨x,T,d,b,rfl,hx,hk,q⟩:=h
 obtain ⟨u,w',rfl,r1,r2⟩:=vals2 r
 cases r2
 obtain ⟨HP,kx,hh,ne⟩:=kit_D I r1 hx
 exact PySem.W.kia_one kx I.kIn hh hk ne fun tk=>⟨.bl b,H,I.tok _,rfl,q⟩
end
end GS
namespace L2
open PySem PySem.Spec PyProof.Rows PySem.Builtin PySem.Builtin.Str
theorem Inv.turnedNew {X:Cx} {pins:List (Addr×Obj)} {σ:St} {H:Hp} {s:Shared} {fp:List Addr} {T:Addr} {o:HO} {h':Heap} {t':Nat} (I:Inv X pins σ H s) (k:∀b u,b ∉ fp→s.heap.get? b=some u→h'.get? b=some u)
  (hf:∀b∈fp,FpOk X pins H b) (hT:s.heap.objs.size≤T) (new:ObjOk X.prog X.w (upd H T o) h' T o):Inv X pins σ (upd H T o) { s with heap:=h',toks:=t' }:=by
 have hn:=I.hok.fresh hT
 have nf:∀b u,H b=some u→b ∉ fp:=fun b u e hb=>by rw[(hf b hb).1] at e; cases e
 refine I.call' (ch:=fp) (s':={ s with heap:=h',toks:=t' }) rfl ⟨fun b o q _ _ hx=>k b o hx q,fun b o q _ _ hx=>⟨o.slots,k b o hx q⟩,fun b u q n _=>?_,fun b o q hx=>⟨o,k b o hx q⟩,fun b xs q=>?_,fun b u xs q=>?_,fun b ps q=>⟨#[],?_⟩⟩ ?_ I.bare
  fun b hb=>⟨(hf b hb).2.2.2.1,(hf b hb).2.1,(hf b hb).2.2.2.2.1,(hf b hb).2.2.2.2.2⟩
 ·rw[upd_ne (Nat.ne_of_lt (Nat.lt_of_lt_of_le (Heap.lt_size q) hT))]; exact n
 ·rw[upd_ne (ne_of_none q hn)]; exact q
 ·rw[upd_ne (ne_of_none q hn)]; exact q
 ·rw[upd_ne (ne_of_none q hn),q]; simp
 ·intro b u e
  by_cases hb:b=T
  ·subst hb; rw[upd_same] at e; cases e; exact new
  ·rw[upd_ne hb] at e
   refine (I.hok b u e).stay (fun c v hc q=>k c v ?_ q) (fun c q=>by rw[upd_ne (ne_of_none q hn)]; exact q) fun c xs q=>by rw[upd_ne (ne_of_none q hn)]; exact q
   rcases hc with z | z
   ·rw[z]; exact nf b u e
   ·exact nf c _ z
def Ite (K:PySem.W.Frag) (a:Addr):It:=
 ⟨fun i H=>∃xs x,SqL K H a xs∧xs[i]?=some x,fun i H x H'=>∃T y,H T=none∧x=.ref T∧H'=upd H T (.tup [.int (i:Nat),y])∧∀xs,SqL K H a xs→xs[i]?=some y,fun i H=>∃xs,SqL K H a xs∧xs.length≤i⟩
theorem turn_enum {P:Program} {w:World} {K:PySem.W.Frag} {elts:List Expr} {x1:Nat} {pos:Pos} (a e it:Addr) (hei:e≠it):Turn P w K (.Tuple elts x1 pos) (Ite K a) [e,it] e (fun i h=>(∃old,IsEnum h e it i old)∧h.IsListIter it a i) where
 mem:=by simp
 obj:=fun i h st b hb=>by
  obtain ⟨⟨old,he⟩,hit⟩:=st
  rcases List.mem_cons.mp hb with rfl | hb
  ·exact ⟨_,he,fun v z=>by cases z⟩
  ·have eb:b=it:=by simpa using hb
   subst eb
   obtain ⟨o,e,c,d⟩:=hit
   exact ⟨o,e,fun v z=>by rw[d] at z; cases z⟩
 keep:=fun i h h' st k=>by
  obtain ⟨⟨old,he⟩,hit⟩:=st
  exact ⟨⟨old,k e (by simp) _ he⟩,hit.at fun o z=>k it (by simp) o z⟩
 item:=by
  intro X hP hw hK hc i pins s σ H E I hf st hg
  subst hP hw hK
  obtain ⟨⟨old,he⟩,hit⟩:=st
  obtain ⟨xs,x,hq,hx⟩:=hg
  obtain ⟨its,rv,p,hz⟩:=I.list hq
  obtain ⟨u,hu,ru⟩:=rv.get hx
  have helt:e < s.heap.objs.size:=Heap.lt_size he
  have hilt:it < s.heap.objs.size:=by obtain ⟨_,z,_⟩:=hit; exact Heap.lt_size z
  refine wpAny_pyNext_enum_item he hit p.isList (x:=u) (by simpa using hu) hei fun h1 ho1 hit1 hT1 hsz1 hk1=>?_
  refine ⟨_,rfl,wpAny_letOwnedTupleGo_enum ho1 fun h2 he2 hs2=>?_⟩
  have hT2:h2.get? s.heap.objs.size=some { cls:=.type "tuple",data:=.seq #[.int i s.toks,u] }:=(hs2.2 _ (Nat.ne_of_gt helt)).trans hT1
  refine ⟨.ref s.heap.objs.size,upd H s.heap.objs.size (.tup [.int (i:Nat),x]),?_,rfl,⟨_,x,I.hok.fresh (Nat.le_refl _),rfl,rfl,fun ys hy=>by rw[I.list_inj hy hq]; exact hx⟩,⟨⟨_,by simpa using he2⟩,hit1.at fun o z=>(hs2.2 it hei.symm).trans z⟩,fun b hb=>?_⟩
  ·refine Inv.turnedNew (s:=s) (h':=h2) (fp:=[e,it]) (t':=s.toks+1) I (fun b o hb q=>?_) hf (Nat.le_refl _) ⟨by show 2≤sizeLine; decide,_,.cons ⟨_,rfl⟩ (.cons ru .nil),⟨_,hT2,rfl,_,rfl⟩⟩
   have hb1:b≠e:=fun z=>hb (by simp[z])
   have hb2:b≠it:=fun z=>hb (by simp[z])
   exact (hs2.2 b hb1).trans (hk1 b o hb1 hb2 q)
  ·have hlt:b < s.heap.objs.size:=by
    rcases List.mem_cons.mp hb with rfl | hb
    ·exact helt
    ·have eb:b=it:=by simpa using hb
     subst eb; exact hilt
   rw[upd_ne (Nat.ne_of_lt hlt)]
   exact (hf b hb).1
 done:=by
  intro X hP hw hK hc i pins s σ H E I hf st hg
  subst hP hw hK
  obtain ⟨⟨old,he⟩,hit⟩:=st
  obtain ⟨xs,hq,hx⟩:=hg
  obtain ⟨its,rv,p,hz⟩:=I.list hq
  obtain ⟨f0,f1,f2,f3,f4,f5⟩:=hf it (by simp)
  have hl:=rv.length
  exact wpAny_pyNext_enum_end (I.ok.hd hc) he hit p.isList (by simp; omega) fun h' eb=>⟨rfl,I.turned (t':=s.toks) (fun b o hb e=>eb b o hb e) f0 f1 f3 f4 f5⟩
 self:=fun _ _ _ _ _ st h=>let ⟨⟨_,he⟩,_⟩:=st; wpAny_pyIter_enum he h
theorem boot_enum:bootBuiltins "enumerate"=some (.type "enumerate"):=by decide +kernel
section
variable {X:Cx} {elts:List Expr} {x1:Nat} {tpos:Pos}
def iEnum (K:PySem.W.Frag) (ta:TA):TI:=fun σ H R=>ta σ H fun vs H1=>∃a,vs=[.ref a]∧(∃xs,SqL K H1 a xs)∧R (Ite K a) H1
theorem pi_enum {a:Expr} {ta:TA} {p pos:Pos} (hg:Gl X "enumerate") (hm:X.mg "enumerate"=none) (ha:PA X [a] ta) (hs:starEach [a] X.env=[(false,eval a X.env)]:=by rfl):PI X (.Tuple elts x1 tpos) (.Call (.Name "enumerate" p) [a] [] pos) (iEnum X.K ta):=by
 intro pins s σ H R I h
 refine Call_ (ld_blt I hg hm boot_enum (PyProof.Rows.callWith_type1 (thn (ha pos pins s σ H _ I h) fun us s1 ⟨vs,H1,I1,r1,q1⟩=>?_) hs rfl))
 obtain ⟨l,e,⟨xs,hq⟩,q⟩:=q1
 subst e
 obtain ⟨u,rfl,ru⟩:=vals1 r1
 cases ru
 obtain ⟨its,rv,p,hz⟩:=I1.list hq
 refine call_enumerate_list p.isList fun h' he hit hsz hk=>wpAny_pyIter_enum he ?_
 refine ⟨s1.heap.objs.size+1,[s1.heap.objs.size+1,s1.heap.objs.size],_,_,H1,rfl,I1.kept (t':=s1.toks) hk,turn_enum l _ _ (Nat.succ_ne_self _),⟨⟨_,he⟩,hit⟩,fun b hb=>?_,q⟩
 have hb':s1.heap.objs.size≤b:=by
  rcases List.mem_cons.mp hb with rfl | hb
  ·exact Nat.le_succ _
  ·have eb:b=s1.heap.objs.size:=by simpa using hb
   exact Nat.le_of_eq eb.symm
 exact I1.fpOk hb' (I1.hok.fresh hb')
end
theorem for_enum {K:PySem.W.Frag} {a:Addr} {xs:List V} {g:TG} {tb:TS} {D:Ends} {σ:St} {H:Hp} (Pv:Nat→St→Hp→Prop) (h0:Pv 0 σ H) (hl:∀i σ H,i≤xs.length→Pv i σ H→SqL K H a xs)
  (hs:∀i x σ H T,xs[i]?=some x→Pv i σ H→H T=none→g (.ref T) σ (upd H T (.tup [.int (i:Nat),x])) fun σ2 H2=>tb { D with nx:=Pv (i+1),ct:=Pv (i+1),bk:=D.nx } σ2 H2) (hd:∀σ H,Pv xs.length σ H→D.nx σ H):
  ∃W:Nat→Nat→St→Hp→Prop,(∃m,W 0 m σ H)∧∀i m σ H,W i m σ H→
   ((Ite K a).stop i H∧D.nx σ H)∨((Ite K a).go i H∧∃N:St→Hp→Prop,(∀σ' H',N σ' H'→∃m',m' < m∧W (i+1) m' σ' H')∧∀x H',(Ite K a).yld i H x H'→g x σ H' fun σ2 H2=>tb { D with nx:=N,ct:=N,bk:=D.nx } σ2 H2):=by
 refine ⟨fun i m σ H=>m=xs.length - i∧i≤xs.length∧Pv i σ H,⟨xs.length,by simp,Nat.zero_le _,h0⟩,?_⟩
 rintro i m σ H ⟨rfl,hi,p⟩
 have q:=hl i σ H hi p
 by_cases hlt:i < xs.length
 ·refine .inr ⟨⟨xs,xs[i],q,by simp[hlt]⟩,Pv (i+1),fun σ' H' p'=>⟨xs.length - (i+1),by omega,rfl,hlt,p'⟩,fun x H' y=>?_⟩
  obtain ⟨T,y',hT,rfl,rfl,hy⟩:=y
  exact hs i y' σ _ T (hy xs q) p hT
 ·have e:i=xs.length:=by omega
  subst e
  exact .inl ⟨⟨xs,q,Nat.le_refl _⟩,hd σ H p⟩
section
variable {X:Cx}
end
end L2
namespace L2
open PySem PySem.Spec PyProof.Rows
section
variable {X:Cx} {o e:Expr} {td ty:TE} {apos cpos:Pos}
end
end L2
namespace L3
open PySem PyProof.Rows L2
section
variable {X:Cx} {pos apos cpos:Pos} {k v o e f a b c:Expr} {ks:List (Option Expr)} {vs:List Expr} {tk tv td ty tx ta tb tc:TE} {trs:List (TE×TE)}
@[irreducible] def LPs (X:Cx) (pos:Pos) (ks:List (Option Expr)) (vs:List Expr) (trs:List (TE×TE)):Prop:=PPs X pos ks vs trs
theorem LPs.mk (h:PPs X pos ks vs trs):LPs X pos ks vs trs:=by unfold LPs; exact h
theorem LPs.out (h:LPs X pos ks vs trs):PPs X pos ks vs trs:=by unfold LPs at h; exact h
theorem pps_nil:LPs X pos [] [] []:=.mk L2.pps_nil
theorem pps_cons (hk:LE X k tk) (hv:LE X v tv) (hr:LPs X pos ks vs trs):LPs X pos (some k::ks) (v::vs) ((tk,tv)::trs):=.mk (L2.pps_cons hk.out hv.out hr.out)
theorem pe_disp (h:LPs X pos ks vs trs) (hall:ks.all (·.isSome)=true:=by rfl) (hl:ks.length=vs.length:=by rfl) (h0:ks≠[]:=by simp) (h15:ks.length≤15:=by decide):LE X (.Dict ks vs pos) (tDisp trs):=.mk (L2.pe_disp h.out hall hl h0 h15)
end
end L3
namespace GS
open PySem PySem.Spec PyProof.Rows
theorem list_keys_none:typeLookup (.type "list") "keys"=pure none:=by rw[typeLookup_type,builtinLookup_eq_fast]; kernel_rfl
theorem getAttrQ_list {prog:Program} {w:World} {A:Around} {E:Value→Shared→Prop} {s:Shared} {a:Addr} {o:Obj} {xs:Array Value} {k:Nat} {Q:Option Value→Shared→Prop}
  (hx:s.heap.get? a=some o) (hc:o.cls=.type "list") (hdat:o.data=.seq xs k) (hd:o.dict=none) (hA:A.handled=none)
  (h:∀h' tk,(∀b ob,s.heap.get? b=some ob→h'.get? b=some ob)→Q none { s with heap:=h',toks:=tk }):wpAny (model prog w) A (getAttr? (.ref a) "keys") Q E s:=by
 obtain ⟨c,dct,dat,sl⟩:=o
 simp only at hc hdat hd
 subst hc hdat hd
 obtain ⟨hp,g,d,tk,os⟩:=s
 have hT:∀tk',(⟨hp,g,d,tk',os⟩:Shared).TypeIs (.ref a) "list":=fun _=>⟨_,hx,rfl⟩
 have f1:=sub_AttributeError
 have f3:=F.slot_list_getattribute.lookup
 have f4:=F.slot_list_getattribute.bind (.ref a)
 have f5:=am_list_getattr_none
 unfold getAttr? getAttrBy? getAttrBy
 repeat (any_goals (first | assumption | exact hT _ | ((with_reducible show wpAny _ _ (call (Value.builtin "list.__getattribute__") _ _) _ _ _); refine call_meets F.slot_list_getattribute (hT _) am_entry_list_getattribute (F.args_list_getattribute_2 _ _) (meets_getattribute_miss_list a xs k sl "keys" _ list_keys_none (by decide +kernel)) ⟨hx,hA,fun h' tk' e hx'=>?_⟩) | wp_step))
 obtain ⟨t',u',he⟩:=hx'.there
 show wpAny _ _ (getattributeRaised _ _ _ _ _ _ _) _ _ _
 unfold getattributeRaised
 repeat (any_goals (first | assumption | wp_step))
 exact h _ _ hx'.keeps
theorem entry_dict_loop:entryFor table "dict.update.loop"=some Builtin.«dict.update.loop»:=entryFor_of_tree (by kernel_rfl)
theorem plain_dict_loop:plainId "dict.update.loop"=true:=by decide +kernel
def firstP (kv:Nat→L2.Key×Value) (i:Nat):List (L2.Key×Value):=merged [] ((List.range i).map kv)
theorem firstP_succ (kv:Nat→L2.Key×Value) (i:Nat):firstP kv (i+1)=stored (firstP kv i) (kv i).1 (kv i).2:=by
 unfold firstP merged
 rw[List.range_succ,List.map_append,List.foldl_append]
 rfl
theorem stored_len (kvs:List (L2.Key×Value)) (k:L2.Key) (v:Value):(stored kvs k v).length≤kvs.length+1:=by
 unfold stored
 split
 ·rw[List.length_map]; omega
 ·rw[List.length_append,List.length_singleton]; exact Nat.le_refl _
theorem firstP_len (kv:Nat→L2.Key×Value):∀i,(firstP kv i).length≤i
 | 0=>Nat.le_refl _
 | i+1=>by
  rw[firstP_succ]
  have h1:=stored_len (firstP kv i) (kv i).1 (kv i).2
  have h2:=firstP_len kv i
  omega
section
variable {prog:Program} {w:World} {A:Around} {R:Result→Shared→Prop} {I:Addr} {fp wr:List Addr} {n:Nat} {P:Nat→Value→Prop} {St:Nat→Heap→Prop}
theorem codeAny_dict_loop (W:Walks prog w A.in1 I fp wr n P St) (d:Addr) (hdf:d ∉ fp) (kv:Nat→L2.Key×Value) (pr:Nat→Addr) (ks:Nat→Value) (hP:∀i v,i < n→P i v→v=.ref (pr i)) (hk:∀i,i < n→(L2.mixKind prog w).is (kv i).1 (ks i)=true)
  (hpd:∀i,i < n→pr i≠d∧pr i ∉ wr) (hz:n≤sizeLine):
  ∀(k i:Nat) (s:Shared) (t:Tok),n - i=k→i≤n→St i s.heap→s.heap.DictOf (L2.mixKind prog w) d (firstP kv i)→(∀j,j < n→IsTup s.heap (pr j) #[ks j,(kv j).2])→
   (∀h' tk,(∀b o,b≠d→b ∉ wr→s.heap.get? b=some o→h'.get? b=some o)→h'.DictOf (L2.mixKind prog w) d (firstP kv n)→R (.ok (.ret .none)) { s with heap:=h',toks:=tk })→
   codeAny (model prog w) A (.builtin "dict.update.loop" ⟨[.ref d,.ref I,.int (i:Nat) t,.none],[]⟩) R s:=by
 have hdw:d ∉ wr:=fun h=>hdf (W.sub _ h)
 intro k
 induction k with
 | zero=>
  intro i s t hki hi hst hD hT hR
  have hin:i=n:=by omega
  subst hin
  refine codeAny_builtin entry_dict_loop ?_
  rw[Around.under_plainId plain_dict_loop _]
  show wpAny _ A.in1 (pyNext (.ref I) >>= _) _ _ s
  refine wpAny_bind (W.done s _ _ hst fun h' tk hm=>?_)
  show wpAny _ A.in1 (Builtin.Dict.addKeywords d [] >>= _) _ _ _
  exact wpAny_bind (wpAny_pure (wpAny_pure (hR h' tk (fun b o _ hb e=>hm b o hb e) (by
   obtain ⟨o,es,ep,ho,rest⟩:=hD
   exact ⟨o,es,ep,hm d _ hdw ho,rest⟩))))
 | succ k ih=>
  intro i s t hki hi hst hD hT hR
  have hlt:i < n:=by omega
  refine codeAny_builtin entry_dict_loop ?_
  rw[Around.under_plainId plain_dict_loop _]
  show wpAny _ A.in1 (pyNext (.ref I) >>= _) _ _ s
  refine wpAny_bind (W.item i s _ _ hlt hst fun v h' tk hPv hst' hm=>?_)
  have ev:=hP i v hlt hPv
  subst ev
  have hD':h'.DictOf (L2.mixKind prog w) d (firstP kv i):=by
   obtain ⟨o,es,ep,ho,rest⟩:=hD
   exact ⟨o,es,ep,hm d _ hdw ho,rest⟩
  have hT':∀j,j < n→IsTup h' (pr j) #[ks j,(kv j).2]:=fun j hj=>by
   obtain ⟨o,ho,rest⟩:=hT j hj
   exact ⟨o,hm _ _ (hpd j hj).2 ho,rest⟩
  obtain ⟨o,ho,hoc,m,hod⟩:=id (hT' i hlt)
  have hTy:(⟨h',s.gens,s.drawn,tk,s.os⟩:Shared).TypeIs (.ref (pr i)) "tuple":=⟨o,ho,hoc⟩
  refine wpAny_bind (wpAny_holding (wpAny_bind ?_))
  refine wpAny_tryCatch ?_
  unfold Builtin.Dict.pairItems
  refine wpAny_bind (wpAny_typeOf hTy ?_)
  rw[if_pos (by decide)]
  refine wpAny_bind (wpAny_seqItems ho hod ?_)
  refine wpAny_pure ?_
  show wpAny _ A.in1 (holding [ks i,(kv i).2] (dictSet d (ks i) (kv i).2)) _ _ _
  refine wpAny_holding (wpAny_dictSet_pairs (hk i hlt) hD' (fun h2 hD2 hsb=>?_) (Nat.le_trans (firstP_len kv i) (by omega)))
  rw[← firstP_succ] at hD2
  refine wpAny_pure ⟨plainId_quiet plain_dict_loop _,?_⟩
  have hcast:((i:Nat):Int)+1=((i+1:Nat):Int):=by omega
  rw[hcast]
  refine ih (i+1) _ _ (by omega) hlt (W.frame _ _ _ hst' fun b hb o e=>?_) hD2 (fun j hj=>?_) fun h3 tk3 hk3 hD3=>?_
  ·rw[hsb.2 b (fun h:b=d=>hdf (by rw[← h]; exact hb))]; exact e
  ·obtain ⟨o,ho,rest⟩:=hT' j hj
   exact ⟨o,(hsb.2 _ (hpd j hj).1).trans ho,rest⟩
  ·exact hR h3 tk3 (fun b o hb hbw e=>hk3 b o hb hbw ((hsb.2 b hb).trans (hm b o hbw e))) hD3
end
open L2
theorem vals_refs:∀{ps:List Addr} {its:List Value},Vals (ps.map V.ref) its→its=ps.map Value.ref
 | [],_,h=>by rw[List.map_nil] at h; cases h; rfl
 | p::ps,_,h=>by
  rw[List.map_cons] at h
  cases h with
  | cons a b=>rw[vals_refs b,show _=Value.ref p from a]; rfl
theorem kv_range {kvs:List (Key×V)} {g:Nat→Key×Value} (h:∀i kv,kvs[i]?=some kv→kv.1=(g i).1∧RelV kv.2 (g i).2):KV kvs ((List.range kvs.length).map g):=by
 induction kvs generalizing g with
 | nil=>exact .nil
 | cons a r ih=>
  rw[List.length_cons,List.range_succ_eq_map,List.map_cons,List.map_map]
  exact .cons (h 0 a rfl) (ih fun i kv e=>h (i+1) kv e)
section
variable {X:Cx}
theorem call_dictP (hc:X.calm=true):CallR X (.type "dict") (fun xs H Q=>∃(p:Addr) (ps:List Addr) (kvs:List (Key×V)),xs=[.ref p]∧SqL X.K H p (ps.map V.ref)∧ps.length=kvs.length∧(∀(i:Nat) (a:Addr) (kv:Key×V),ps[i]?=some a→kvs[i]?=some kv→SqT X.K H a [kV kv.1,kv.2])∧kvs.length≤sizeLine∧
  ∀l,H l=none→Q (.ref l) (upd H l (.dK (mergeK [] kvs)))):=by
 intro pins s σ H xs us Q I r h
 obtain ⟨p,ps,kvs,rfl,hq,hlen,hT,hz,q⟩:=h
 obtain ⟨u,rfl,ru⟩:=vals1 r
 cases ru
 obtain ⟨its,rv,pl,hzz⟩:=I.list hq
 have ei:=vals_refs rv
 subst ei
 have hpl:p < s.heap.objs.size:=let ⟨o,n,e,_⟩:=pl; Heap.lt_size e
 have hex:∀i:Nat,∃y:Addr×(Key×Value)×Value,i < kvs.length→ps[i]?=some y.1∧(∀kv,kvs[i]?=some kv→kv.1=y.2.1.1∧RelV kv.2 y.2.1.2)∧(mixKind X.prog X.w).is y.2.1.1 y.2.2=true∧IsTup s.heap y.1 #[y.2.2,y.2.1.2]:=fun i=>by
  by_cases hi:i < kvs.length
  ·have hi2:i < ps.length:=by omega
   obtain ⟨its2,r2,p2,_⟩:=I.tuple (hT i ps[i] kvs[i] (by simp[hi2]) (by simp[hi]))
   cases r2 with
   | @cons _ u1 _ us1 a1 b1=>
    cases b1 with
    | @cons _ u2 _ us2 a2 b2=>
     cases b2
     refine ⟨(ps[i],(kvs[i].1,u2),u1),fun _=>⟨by simp[hi2],fun kv e=>?_,kV_is a1,p2⟩⟩
     have:kvs[i]=kv:=by simpa [hi] using e
     rw[← this]; exact ⟨rfl,a2⟩
  ·exact ⟨(0,(.inl 0,.none),.none),fun z=>absurd z hi⟩
 obtain ⟨y,hy⟩:=Classical.axiomOfChoice hex
 refine callType_codes (Q₁:=fun obj s₁=>obj=.ref s.heap.objs.size∧s₁={ s with heap:=s.heap.push { cls:=.type "dict",data:=.dict #[] } }) F.kt_called_dict (F.kt_typeCall_dict_1 _) F.entry_dict_init (kt_code_dict_new _ ⟨rfl,rfl⟩) ?_
 rintro obj s₁ ⟨rfl,rfl⟩
 have hnew:(s.heap.push { cls:=.type "dict",data:=.dict #[] }).DictOf (mixKind X.prog X.w) s.heap.objs.size []:=Heap.DictOf.new s.heap
 refine ⟨hnew.typeIs,F.args_dict_init_2 _ _,?_⟩
 unfold Builtin.«dict.__init__»
 refine wpAny_bind ?_
 unfold Builtin.Dict.selfAndRest
 refine wpAny_bind (wpAny_notOrdered_dict hnew.typeIs ?_)
 show wpAny _ _ (pure (s.heap.objs.size,[Value.ref p])) _ _ _
 refine wpAny_pure ?_
 show wpAny _ _ (Builtin.Dict.updateFrom "dict.__init__" s.heap.objs.size (.ref p) [] .none) _ _ _
 unfold Builtin.Dict.updateFrom
 obtain ⟨o,nn,e,hoc,hod⟩:=id pl
 have e1:(s.heap.push { cls:=.type "dict",data:=.dict #[] }).get? p=some o:=Heap.get?_push_of_some _ e
 refine wpAny_bind (wpAny_typeOf (T:="list") ⟨o,e1,hoc⟩ ?_)
 rw[if_pos (by decide)]
 have hd0:=I.ok.hd hc
 refine wpAny_bind (getAttrQ_list (xs:=(ps.map Value.ref).toArray) (k:=nn) e1 hoc hod.2 hod.1 hd0 fun h1 tk1 hk1=>?_)
 show wpAny _ _ (rule _ >>= _) _ _ _
 have e2:h1.get? p=some o:=hk1 _ _ e1
 have hL:h1.IsList p (ps.map Value.ref).toArray:=⟨o,e2,hoc,nn,hod.2⟩
 refine wpAny_bind (wpAny_rule (wpAny_bind (wpAny_pyIter_list (s:=⟨h1,s.gens,s.drawn,tk1,s.os⟩) hL ?_)))
 have hsz:s.heap.objs.size < h1.objs.size:=by
  obtain ⟨o',_,_,ho',_⟩:=hnew
  exact Heap.lt_size (hk1 _ _ ho')
 refine wpAny_pure ⟨plainId_quiet plain_dict_loop _,?_⟩
 have hn1:(ps.map Value.ref).toArray.size=kvs.length:=by rw[List.size_toArray,List.length_map]; exact hlen
 have keep:∀b ob,s.heap.get? b=some ob→(h1.push { cls:=.type "list_iterator",data:=.fields #[.ref p,.int 0 0] }).get? b=some ob:=fun b ob hb=>Heap.get?_push_of_some _ (hk1 _ _ (Heap.get?_push_of_some _ hb))
 have hpI:p≠h1.objs.size:=Nat.ne_of_lt (Nat.lt_trans hpl hsz)
 have hold:∀{b ob},s.heap.get? b=some ob→b≠s.heap.objs.size∧b ∉ [h1.objs.size]:=fun {b ob} hb=>by
  have:=Heap.lt_size hb
  exact ⟨Nat.ne_of_lt this,fun m=>by rw[List.mem_singleton] at m; exact Nat.lt_asymm hsz (m ▸ this)⟩
 have hd2:X.A.in1.in1.handled=none:=hd0
 refine codeAny_dict_loop (A:=X.A.in1) (Walks.list (A:=X.A.in1.in1) hd2 h1.objs.size p hpI (ps.map Value.ref).toArray) s.heap.objs.size (fun m=>?m1) (fun i=>(y i).2.1) (fun i=>(y i).1) (fun i=>(y i).2.2) (fun i v hi hv=>?m2) (fun i hi=>(hy i (by rw[← hn1]; exact hi)).2.2.1) (fun i hi=>?m3) (by rw[hn1]; exact hz) _ 0 _ 0 rfl (Nat.zero_le _) ⟨?m4,?m5⟩ ?m6 (fun j hj=>?m7) (fun h' tk hk hD=>?m8)
 case m1=>
  simp only [List.mem_cons,List.not_mem_nil,or_false] at m
  rcases m with m | m
  ·exact Nat.ne_of_lt hsz m
  ·exact Nat.ne_of_lt hpl m.symm
 case m2=>
  have hi':i < kvs.length:=by rw[← hn1]; exact hi
  have h1':=(hy i hi').1
  have:(ps.map Value.ref)[i]?=some v:=by simpa using hv
  rw[List.getElem?_map,h1'] at this
  simpa using this.symm
 case m3=>
  obtain ⟨_,_,_,o',ho',_⟩:=hy i (by rw[← hn1]; exact hi)
  exact hold ho'
 case m4=>exact ⟨_,Heap.get?_push_size _ rfl,rfl,rfl⟩
 case m5=>exact ⟨o,Heap.get?_push_of_some _ e2,hoc,nn,hod.2⟩
 case m6=>
  obtain ⟨o',es,ep,ho',rest⟩:=hnew
  exact ⟨o',es,ep,Heap.get?_push_of_some _ (hk1 _ _ ho'),rest⟩
 case m7=>
  obtain ⟨_,_,_,o',ho',rest⟩:=hy j (by rw[← hn1]; exact hj)
  exact ⟨o',keep _ _ ho',rest⟩
 case m8=>
  have rel:KV kvs ((List.range kvs.length).map fun i=>(y i).2.1):=kv_range fun i kv e=>(hy i (List.getElem?_eq_some_iff.mp e).1).2.1 kv e
  have hD':h'.DictOf (mixKind X.prog X.w) s.heap.objs.size (merged [] ((List.range kvs.length).map fun i=>(y i).2.1)):=by
   have:firstP (fun i=>(y i).2.1) (ps.map Value.ref).toArray.size=merged [] ((List.range kvs.length).map fun i=>(y i).2.1):=by rw[hn1]; rfl
   rw[← this]; exact hD
  have hz2:(mergeK [] kvs).length≤sizeLine:=Nat.le_trans (length_mergeK kvs []) (by simpa using hz)
  refine ⟨rfl,.ref s.heap.objs.size,_,I.laid (a:=s.heap.objs.size) (o:=.dK (mergeK [] kvs)) (h':=h') (t':=tk) (fun b u hb=>?_) (Nat.le_refl _) (dk_new hz2 (beq_eq_false_iff_ne.mpr (Ne.symm (Nat.ne_of_lt I.big))) (rel.merge .nil) hD'),rfl,q _ (I.hok.fresh (Nat.le_refl _))⟩
  exact hk b u (hold hb).1 (hold hb).2 (keep _ _ hb)
end
end GS
namespace GS
open PySem PyProof.Rows L2
structure MkDef (P:Program) (w:World) (K:PySem.W.Frag) (mg:Str→Option Value) (base:Heap) (name:Str) (C:Addr) (ps:List Str) (k:Nat) (sp:Sp):Prop where
 ex:∃(f:Addr) (fd:FuncData),mg name=some (.ref C)∧Mk K C f∧Binds K fd ps []∧FnOk P w K mg base CX0 k f fd ps sp
end GS
namespace L3
open PySem PyProof.Rows L2
section
variable {X:Cx} {e o value:Expr} {es:List Expr} {f:Str} {pos pos' p apos:Pos} {ta tv te:TE} {t:TA}
theorem pe_fld (he:LE X e ta) (hb:attributeBase e f X.env (eval e X.env)=eval e X.env:=by rfl):LE X (.Attribute e f pos) (tFld X.K ta f):=.mk (L2.pe_fld he.out hb)
theorem ps_fld (ha:LE X o ta) (hv:LE X value tv) (hs:swapsWith value (some (.Attribute o f pos')) pos.line X.env=pure false:=by rfl):LS X (.Assign [.Attribute o f pos'] value pos) (sFld X.K ta tv f):=.mk (L2.ps_fld ha.out hv.out hs)
theorem pe_mk {name:Str} {C:Addr} {ps:List Str} {k k':Nat} {sp:Sp} (M:GS.MkDef X.prog X.w X.K X.mg X.base name C ps k sp) (hr:Room (k'+1) X.A) (hk:k≤k') (hg:Gl X name) (ha:LA X (e::es) t)
  (hdb:(name == ("__debug__":Str))=false:=by decide) (he:starEach (e::es) X.env=(false,eval e X.env)::starEach es X.env:=by rfl) (hpl:(backTo pos (starEach es X.env)).any (·.1)=false:=by rfl):
  LE X (.Call (.Name name p) (e::es) [] pos) (tMake C sp [] E0 t):=by
 obtain ⟨f,fd,h1,h2,h3,h4⟩:=M.ex
 exact .mk (L2.pe_make h2 (h4.mono hk) hr hg h1 h3 .nil pass0 ha.out hdb he hpl)
end
end L3
namespace GS
open PySem PyProof.Rows
open L2 hiding pe_int pe_bl pe_non pe_str pv pe_glob pe_bltn pe_op pe_un pe_cmpR pe_one pe_and pe_or pe_ifExp pe_ix po_none po_some pe_slice pa_nil pa_cons pe_lst pe_tup pe_dnewK pe_callB pe_callTy pe_bm pt_cmpR pt_val pt_not pw_and1 pw_or1 pw_and pw_or pg_name pgs_nil pgs_cons pg_tup pi_list pi_tup pi_range1 ps_ret ps_expr ps_set ps_asg ps_if ps_while ps_for pss_nil pss_cons pss_one
open L3
def topd (i:Nat):Stmt:=PySem.Challenge.pw_grassnake_k14_faults.main.body.getD i (.Pass ⟨0,0,0,0⟩)
structure Glb9 (mg:Str→Option Value):Prop where
 nAll:mg "all"=none
 nAny:mg "any"=none
 nBool:mg "bool"=none
 nDict:mg "dict"=none
 nEnum:mg "enumerate"=none
 nInt:mg "int"=none
 nIsi:mg "isinstance"=none
 nLen:mg "len"=none
 nList:mg "list"=none
 nMax:mg "max"=none
 nMin:mg "min"=none
 nRange:mg "range"=none
 nSet:mg "set"=none
 nSort:mg "sorted"=none
 nStr:mg "str"=none
 nTuple:mg "tuple"=none
 nZip:mg "zip"=none
theorem b9Len:bootBuiltins "len"=some (.builtin "len"):=by decide +kernel
theorem b9Isi:bootBuiltins "isinstance"=some (.builtin "isinstance"):=by decide +kernel
theorem b9Any:bootBuiltins "any"=some (.builtin "any"):=by decide +kernel
theorem b9All:bootBuiltins "all"=some (.builtin "all"):=by decide +kernel
theorem b9Bool:bootBuiltins "bool"=some (.type "bool"):=by decide +kernel
theorem b9Tuple:bootBuiltins "tuple"=some (.type "tuple"):=by decide +kernel
theorem b9List:bootBuiltins "list"=some (.type "list"):=by decide +kernel
theorem b9Int:bootBuiltins "int"=some (.type "int"):=by decide +kernel
theorem b9Min:bootBuiltins "min"=some (.builtin "min"):=by decide +kernel
theorem b9Str:bootBuiltins "str"=some (.type "str"):=by decide +kernel
def RowAt (K:PySem.W.Frag) (H:Hp) (ds:List D) (v:V):Prop:=∃p vs,v=.ref p∧(SqL K H p vs∨SqT K H p vs)∧AtAll K H ds vs
theorem RowAt.same {K:PySem.W.Frag} {H H':Hp} {ds:List D} {v:V} (s:Same H H') (h:RowAt K H ds v):RowAt K H' ds v:=by
 obtain ⟨p,vs,e,h1,h2⟩:=h
 exact ⟨p,vs,e,h1.imp (fun z=>s.seq z) (fun z=>Same.seqT s z),AtAll.same s _ _ h2⟩
theorem RowAt.tup {K:PySem.W.Frag} {H:Hp} {ds:List D} {v:V} (h:At K H (.tup ds) v):RowAt K H ds v:=by
 obtain ⟨p,vs,e,h1,h2⟩:=At_tup.mp h
 exact ⟨p,vs,e,.inr h1,h2⟩
def iOr (a b:TI):TI:=fun σ H R=>a σ H R∨b σ H R
theorem pi_or {X:Cx} {tg e:Expr} {a b:TI} (ha:LI X tg e a) (hb:LI X tg e b):LI X tg e (iOr a b):=.mk fun pins s σ H R I h=>h.elim (fun z=>ha.out pins s σ H R I z) (fun z=>hb.out pins s σ H R I z)
end GS
namespace L3
open PySem PyProof.Rows L2
section
variable {X:Cx} {pos:Pos}
theorem pe_fldK {K:PySem.W.Frag} {e:Expr} {f:Str} {ta:TE} (hK:X.K=K) (he:LE X e ta) (hb:attributeBase e f X.env (eval e X.env)=eval e X.env:=by rfl):LE X (.Attribute e f pos) (tFld K ta f):=by
 subst hK
 exact L3.pe_fld he hb
theorem ps_dead {st:Stmt}:LS X st (fun _ _ _=>False):=.mk fun pins s σ H D I q=>q.elim
theorem pe_dead {e:Expr}:LE X e (fun _ _ _=>False):=.mk fun pins s σ H D I q=>q.elim
end
end L3
namespace GS
open PySem PyProof.Rows
open L2 hiding pe_int pe_bl pe_non pe_str pv pe_glob pe_bltn pe_op pe_un pe_cmpR pe_one pe_and pe_or pe_ifExp pe_ix po_none po_some pe_slice pa_nil pa_cons pe_lst pe_tup pe_dnewK pe_callB pe_callTy pe_bm pt_cmpR pt_val pt_not pw_and1 pw_or1 pw_and pw_or pg_name pgs_nil pgs_cons pg_tup pi_list pi_tup pi_range1 ps_ret ps_expr ps_set ps_asg ps_if ps_while ps_for pss_nil pss_cons pss_one
open L3
inductive Pairs (P:Nat→V→Prop):List Nat→List V→Prop
 | nil:Pairs P [] []
 | cons {i:Nat} {v:V} {is:List Nat} {vs:List V}:P i v→Pairs P is vs→Pairs P (i::is) (v::vs)
theorem Pairs.snoc {P:Nat→V→Prop} {i:Nat} {v:V} (h:P i v):∀{is:List Nat} {vs:List V},Pairs P is vs→Pairs P (is++[i]) (vs++[v])
 | _,_,.nil=>.cons h .nil
 | _,_,.cons h1 h2=>.cons h1 (h2.snoc h)
theorem Pairs.mono {P P':Nat→V→Prop} (hp:∀i v,P i v→P' i v):∀{is:List Nat} {vs:List V},Pairs P is vs→Pairs P' is vs
 | _,_,.nil=>.nil
 | _,_,.cons h1 h2=>.cons (hp _ _ h1) (h2.mono hp)
theorem Pairs.len {P:Nat→V→Prop}:∀{is:List Nat} {vs:List V},Pairs P is vs→vs.length=is.length
 | _,_,.nil=>rfl
 | _,_,.cons _ h2=>by rw[List.length_cons,List.length_cons,h2.len]
theorem Pairs.at {K:PySem.W.Frag} {H:Hp} {f:Nat→D}:∀{is:List Nat} {vs:List V},Pairs (fun i v=>At K H (f i) v) is vs→AtAll K H (is.map f) vs
 | _,_,.nil=>AtAll_nil.mpr rfl
 | _,_,.cons h1 h2=>AtAll_cons.mpr ⟨_,_,rfl,h1,h2.at⟩
theorem Pairs.eq {f:Nat→V}:∀{is:List Nat} {vs:List V},Pairs (fun i v=>v=f i) is vs→vs=is.map f
 | _,_,.nil=>rfl
 | _,_,.cons h1 h2=>by rw[List.map_cons,h1,h2.eq]
theorem range_getD {α:Type} (l:List α) (d:α):(List.range l.length).map (fun i=>l.getD i d)=l:=by
 refine List.ext_getElem (by simp) fun i h1 h2=>?_
 simp[List.getD_eq_getElem?_getD,h2]
theorem range_map {α β:Type} (l:List α) (d:α) (g:α→β):(List.range l.length).map (fun i=>g (l.getD i d))=l.map g:=by
 conv=>rhs; rw[← range_getD l d]
 rw[List.map_map]; rfl
def wo (H:Hp) (D:Addr):Hp:=fun p=>if p=D then none else H p
theorem wo_at {H:Hp} {D p:Addr} (h:p≠D):wo H D p=H p:=if_neg h
theorem wo_same (H:Hp) (D:Addr):Same (wo H D) H:=fun p o e=>by
 unfold wo at e
 split at e
 ·cases e
 ·exact e
theorem wo_mono {H H':Hp} (D:Addr) (s:Same H H'):Same (wo H D) (wo H' D):=fun p o e=>by
 unfold wo at e ⊢
 split at e
 ·cases e
 ·rename_i h; rw[if_neg h]; exact s _ _ e
theorem wo_upd (H:Hp) (D:Addr) (o:HO):wo (upd H D o) D=wo H D:=by
 funext p
 unfold wo
 split
 ·rfl
 ·rename_i h; rw[upd_ne h]
theorem wo_old {H H':Hp} {D:Addr} (h:H D=none) (s:Same H H'):Same H (wo H' D):=fun p o e=>by
 rw[wo_at (fun z=>by rw[z,h] at e; cases e)]
 exact s _ _ e
section
variable {K:PySem.W.Frag} {H:Hp} {D':Addr}
theorem SqT.wo {p:Addr} {vs l:List V} (hD:H D'=some (.lst l)) (h:SqT K H p vs):SqT K (GS.wo H D') p vs:=by
 rcases h with (h | ⟨o,h⟩) | h
 ·refine .inl (.inl ?_)
  rw[wo_at (fun z=>by rw[z,hD] at h; cases h)]
  exact h
 ·refine .inl (.inr ⟨o,?_⟩)
  rw[wo_at (fun z=>by rw[z,hD] at h; cases h)]
  exact h
 ·exact .inr h
mutual
theorem At.wo {l:List V} (hD:H D'=some (.lst l)):∀(d:D) (v:V),At K H d v→At K (GS.wo H D') d v
 | .non,_,h=>At_non.mpr (At_non.mp h)
 | .bl _,_,h=>At_bl.mpr (At_bl.mp h)
 | .int _,_,h=>At_int.mpr (At_int.mp h)
 | .str _,_,h=>At_str.mpr (At_str.mp h)
 | .tup ds,_,h=>by
  obtain ⟨p,vs,rfl,h1,h2⟩:=At_tup.mp h
  exact At_tup.mpr ⟨p,vs,rfl,SqT.wo hD h1,AtAll.wo hD ds vs h2⟩
theorem AtAll.wo {l:List V} (hD:H D'=some (.lst l)):∀(ds:List D) (vs:List V),AtAll K H ds vs→AtAll K (GS.wo H D') ds vs
 | [],_,h=>AtAll_nil.mpr (AtAll_nil.mp h)
 | d::ds,_,h=>by
  obtain ⟨v,r,rfl,h1,h2⟩:=AtAll_cons.mp h
  exact AtAll_cons.mpr ⟨v,r,rfl,At.wo hD d v h1,AtAll.wo hD ds r h2⟩
end
end
theorem compG_one {J:It} {tc:TT} {te:TE} {H:Hp} {R:Addr→Hp→Prop} {vs:List V} (n:Nat) (item:Nat→V) (b:Nat→Bool) (Pv:Nat→V→Hp→Prop) (hPs:∀i v H H',Same H H'→Pv i v H→Pv i v H') (hn:n≤1000000)
  (hstop:∀H',Same H H'→J.stop n H') (hgo:∀i H',i < n→Same H H'→J.go i H') (hyld:∀i H1 x H2,i < n→Same H H1→J.yld i H1 x H2→x=item i∧H2=H1)
  (htc:∀i H1 (Q':Bool→Hp→Prop),i < n→Same H H1→(∀H2,Same H1 H2→Q' (b i) H2)→tc (some (item i)::vs.map some) H1 Q')
  (hte:∀i H1 D l (Q':VK),i < n→b i=true→Same H H1→H D=none→H1 D=some (.lst l)→(∀v H2,Same H1 H2→Pv i v (wo H2 D)→Q' v H2)→te (some (item i)::vs.map some) H1 Q')
  (q:∀D H' ys,H D=none→Same H H'→H' D=some (.lst ys)→Pairs (fun i v=>Pv i v (wo H' D)) ((List.range n).filter b) ys→R D H'):
  ∀D,H D=none→∃W:Nat→Nat→List V→Hp→Prop,(∃m,W 0 m [] (upd H D (.lst [])))∧∀i m ys H,W i m ys H→
   (J.stop i H∧R D H)∨(J.go i H∧∀x H' (ox:List (Option V)),ox.length=1→J.yld i H x H'→gName 0 x (ox++vs.map some) H' fun σ2 H2=>∃ox2,ox2.length=1∧σ2=ox2++vs.map some∧tc σ2 H2 fun b H3=>
    if b=true then te σ2 H3 fun v H4=>H4 D=some (.lst ys)∧ys.length < sizeLine∧∃m',m' < m∧W (i+1) m' (ys++[v]) (upd H4 D (.lst (ys++[v]))) else ∃m',m' < m∧W (i+1) m' ys H3):=by
 intro D hD
 refine ⟨fun i m ys H'=>m=n - i∧i≤n∧Same H H'∧H' D=some (.lst ys)∧Pairs (fun i v=>Pv i v (wo H' D)) ((List.range i).filter b) ys,⟨n,rfl,Nat.zero_le _,same_new hD _,upd_same,.nil⟩,?_⟩
 rintro i m ys H1 ⟨rfl,hi,sH,hDl,hP⟩
 by_cases hlt:i < n
 ·refine .inr ⟨hgo i H1 hlt sH,fun x H' ox hox hy=>?_⟩
  obtain ⟨rfl,rfl⟩:=hyld i H1 x H' hlt sH hy
  obtain ⟨o,rfl⟩:∃o,ox=[o]:=by
   match ox,hox with
   | [o],_=>exact ⟨o,rfl⟩
  refine ⟨[some (item i)],rfl,rfl,htc i _ _ hlt sH fun H2 s2=>?_⟩
  have hl:=hP.len
  have hl2:((List.range i).filter b).length≤i:=Nat.le_trans (List.length_filter_le ..) (by simp)
  have er:(List.range (i+1)).filter b=(List.range i).filter b++(if b i=true then [i] else []):=by
   rw[List.range_succ,List.filter_append,List.filter_cons,List.filter_nil]
  cases hb:b i with
  | false=>
   refine iteF ⟨n - (i+1),by omega,rfl,hlt,sH.trans s2,s2 _ _ hDl,?_⟩
   rw[er,hb,if_neg Bool.false_ne_true,List.append_nil]
   exact hP.mono fun j v z=>hPs _ _ _ _ (wo_mono D s2) z
  | true=>
   refine iteT (hte i H2 D ys _ hlt hb (sH.trans s2) hD (s2 _ _ hDl) fun v H3 s3 hv=>?_)
   have s4:=s2.trans s3
   refine ⟨s4 _ _ hDl,Nat.lt_of_lt_of_le (Nat.lt_succ_self _) (small (n:=ys.length+1) (by omega)),n - (i+1),by omega,rfl,hlt,same_upd (sH.trans s4) hD _,upd_same,?_⟩
   rw[er,hb,if_pos rfl,wo_upd]
   exact (hP.mono fun j v z=>hPs _ _ _ _ (wo_mono D s4) z).snoc hv
 ·have e:i=n:=by omega
  subst e
  exact .inl ⟨hstop H1 sH,q D H1 ys hD sH hDl hP⟩
section
variable {K:PySem.W.Frag} {H:Hp} {a:Addr} {xs:List V}
theorem itl_stop (h:SqL K H a xs):∀H',Same H H'→(Itl K a).stop xs.length H':=fun H' s=>⟨xs,s.seq h,Nat.le_refl _⟩
theorem itl_go (h:SqL K H a xs):∀i H',i < xs.length→Same H H'→(Itl K a).go i H':=fun i H' hi s=>⟨xs,xs[i],s.seq h,List.getElem?_eq_getElem hi⟩
theorem itl_yld (h:SqL K H a xs):∀i H1 x H2,i < xs.length→Same H H1→(Itl K a).yld i H1 x H2→x=xs.getD i .non∧H2=H1:=fun i H1 x H2 hi s hy=>by
 obtain ⟨e,hy⟩:=hy
 refine ⟨?_,e⟩
 rw[List.getD_eq_getElem?_getD,hy xs (s.seq h)]; rfl
theorem itt_stop (h:SqT K H a xs):∀H',Same H H'→(Itt K a).stop xs.length H':=fun H' s=>⟨xs,Same.seqT s h,Nat.le_refl _⟩
theorem itt_go (h:SqT K H a xs):∀i H',i < xs.length→Same H H'→(Itt K a).go i H':=fun i H' hi s=>⟨xs,xs[i],Same.seqT s h,List.getElem?_eq_getElem hi⟩
theorem itt_yld (h:SqT K H a xs):∀i H1 x H2,i < xs.length→Same H H1→(Itt K a).yld i H1 x H2→x=xs.getD i .non∧H2=H1:=fun i H1 x H2 hi s hy=>by
 obtain ⟨e,hy⟩:=hy
 refine ⟨?_,e⟩
 rw[List.getD_eq_getElem?_getD,hy xs (Same.seqT s h)]; rfl
end
theorem look1 {a:Str} {x c:Addr} {y:Str} (h:([(a,x)]:List (Str×Addr)).lookup y=some c):y=a∧c=x:=by
 rw[List.lookup_cons] at h
 split at h
 ·rename_i e; exact ⟨eq_of_beq e,by injection h with h; exact h.symm⟩
 ·cases h
structure ClD where
 F:Addr
 G:Addr
 M:Addr
 Kd:Addr
 O:Addr
 Vw:Addr
 W:Addr
structure OwnI (K:PySem.W.Frag) (D:Addr):Prop where
 hg:PySem.W.plainGet K D "__class__"=true
 hd:PySem.W.hasDictIn K D=true
 ha:PySem.W.findIn K (.ref D) "__class__"=some (some (.builtin "object.__class__"))
 hn:PySem.W.specialIn K (.builtin "object.__class__") "__get__"=some (some (.builtin "getset_descriptor.__get__"))
 tk:PySem.W.takesIn K (.builtin "object.__class__")=some true
 hm:PySem.W.mroIn K D (.type "object")=some true
structure KitD (K:PySem.W.Frag) (c:ClD) (C:Addr) (f g k o v:Bool):Prop where
 tF:PySem.W.kitOne K (.ref c.F) (.ref C)=some f
 tG:PySem.W.kitOne K (.ref c.G) (.ref C)=some g
 tK:PySem.W.kitOne K (.ref c.Kd) (.ref C)=some k
 tO:PySem.W.kitOne K (.ref c.O) (.ref C)=some o
 tV:PySem.W.kitOne K (.ref c.Vw) (.ref C)=some v
 tN:PySem.W.kitOne K (.type "NoneType") (.ref C)=some false
structure CsD (K:PySem.W.Frag) (c:ClD):Prop where
 kc:Cls K c.Kd
 k1:NoAttr K c.Kd "name"
 k2:NoAttr K c.Kd "order"
 k3:NoAttr K c.Kd "fields"
 k4:NoAttr K c.Kd "is_given"
 wc:Cls K c.W
 w1:NoAttr K c.W "lines"
 w2:NoAttr K c.W "left"
 w3:NoAttr K c.W "things"
 w4:NoAttr K c.W "given"
 gc:Cls K c.G
 g1:NoAttr K c.G "name"
 oc:Cls K c.O
 o1:NoAttr K c.O "kind"
 o2:NoAttr K c.O "fields"
 fc:Cls K c.F
 f1:NoAttr K c.F "name"
 f2:NoAttr K c.F "params"
 f3:NoAttr K c.F "defaults"
 f4:NoAttr K c.F "code"
 f5:NoAttr K c.F "around"
 f6:NoAttr K c.F "gives"
 vc:Cls K c.Vw
 v1:NoAttr K c.Vw "kind"
 v2:NoAttr K c.Vw "owner"
 iF:OwnI K c.F
 iK:OwnI K c.Kd
 iG:OwnI K c.G
 iO:OwnI K c.O
 iV:OwnI K c.Vw
 tF:KitD K c c.F true false false false false
 tG:KitD K c c.G false true false false false
 tM:KitD K c c.M false false false false false
 tK:KitD K c c.Kd false false true false false
 tO:KitD K c c.O false false false true false
def rIsO (K:PySem.W.Frag):List V→Hp→VK→Prop:=fun xs H Q=>∃x C b,xs=[x,.ref C]∧((∃p D dx fs,x=.ref p∧H p=some (.ins D dx fs)∧OwnI K D∧PySem.W.kitOne K (.ref D) (.ref C)=some b)∨(x=.non∧PySem.W.kitOne K (.type "NoneType") (.ref C)=some b))∧Q (.bl b) H
theorem call_isO {X:Cx}:CallR X (.builtin "isinstance") (rIsO X.K):=by
 intro pins s σ H xs us Q I r h
 obtain ⟨x,C,b,rfl,hx,q⟩:=h
 obtain ⟨u,w',rfl,r1,r2⟩:=vals2 r
 cases r2
 rcases hx with ⟨p,D,dx,fs,rfl,hp,o,hk⟩ | ⟨rfl,hk⟩
 ·cases (show u=Value.ref p from r1)
  obtain ⟨mA,hO,_⟩:=ins_get I.hok hp
  obtain ⟨od,hI,_⟩:=hO.look
  exact PySem.W.kia_one (PySem.W.kitx_own (ox:=PySem.W.instObj D dx) (od:=od) o.hg o.hd o.ha o.hn o.tk o.hm) I.kIn hI hk (fun z=>nomatch z) fun tk=>⟨.bl b,H,I.tok _,rfl,q⟩
 ·cases (show u=Value.none from r1)
  exact PySem.W.kia_one PySem.W.kitx_none I.kIn True.intro hk (fun z=>nomatch z) fun tk=>⟨.bl b,H,I.tok _,rfl,q⟩
def fixT:HO→Bool
 | .tup _=>true
 | .frz _ _=>true
 | _=>false
def Fx (H H':Hp):Prop:=∀p o,H p=some o→fixT o=true→H' p=some o
theorem Same.fx {H H':Hp} (s:Same H H'):Fx H H':=fun p o e _=>s p o e
theorem Fx.trans {H H1 H2:Hp} (a:Fx H H1) (b:Fx H1 H2):Fx H H2:=fun p o e h=>b p o (a p o e h) h
theorem Fx.put {H:Hp} {p:Addr} {o o':HO} (h:H p=some o) (e:fixT o=false):Fx H (upd H p o'):=fun q u eq z=>by
 rw[upd_ne (fun y=>by rw[y,h] at eq; cases eq; rw[e] at z; cases z)]; exact eq
def But9 (l:Addr) (H H':Hp):Prop:=∀p o,p≠l→H p=some o→H' p=some o
theorem But9.fx {l:Addr} {H H':Hp} {o':HO} (b:But9 l H H') (h:H l=some o') (e':fixT o'=false):Fx H H':=fun p o e z=>b p o (fun y=>by rw[y,h] at e; cases e; rw[e'] at z; cases z) e
theorem Same.but {H H':Hp} (l:Addr) (s:Same H H'):But9 l H H':=fun p o _ e=>s p o e
theorem But9.trans {l:Addr} {H H1 H2:Hp} (a:But9 l H H1) (b:But9 l H1 H2):But9 l H H2:=fun p o n e=>b p o n (a p o n e)
theorem But9.put {l:Addr} (H:Hp) (o:HO):But9 l H (upd H l o):=fun p u n e=>by rw[upd_ne n]; exact e
theorem But9.new {l d:Addr} {H H1 H2:Hp} (a:But9 l H H1) (n:H d=none) (b:But9 d H1 H2):But9 l H H2:=fun p o e1 e2=>b p o (fun y=>by rw[y,n] at e2; cases e2) (a p o e1 e2)
section
variable {K:PySem.W.Frag} {H H':Hp}
theorem Fx.seqT {p:Addr} {vs:List V} (s:Fx H H') (h:SqT K H p vs):SqT K H' p vs:=by
 rcases h with (h | ⟨o,h⟩) | h
 ·exact .inl (.inl (s _ _ h rfl))
 ·exact .inl (.inr ⟨o,s _ _ h rfl⟩)
 ·exact .inr h
mutual
theorem At.fx (s:Fx H H'):∀(d:D) (v:V),At K H d v→At K H' d v
 | .non,_,h=>At_non.mpr (At_non.mp h)
 | .bl _,_,h=>At_bl.mpr (At_bl.mp h)
 | .int _,_,h=>At_int.mpr (At_int.mp h)
 | .str _,_,h=>At_str.mpr (At_str.mp h)
 | .tup ds,_,h=>by
  obtain ⟨p,vs,rfl,h1,h2⟩:=At_tup.mp h
  exact At_tup.mpr ⟨p,vs,rfl,Fx.seqT s h1,AtAll.fx s ds vs h2⟩
theorem AtAll.fx (s:Fx H H'):∀(ds:List D) (vs:List V),AtAll K H ds vs→AtAll K H' ds vs
 | [],_,h=>AtAll_nil.mpr (AtAll_nil.mp h)
 | d::ds,_,h=>by
  obtain ⟨v,r,rfl,h1,h2⟩:=AtAll_cons.mp h
  exact AtAll_cons.mpr ⟨v,r,rfl,At.fx s d v h1,AtAll.fx s ds r h2⟩
end
end
def thD (i:Nat):D:=.tup [.str "thing",.int (i:Nat)]
def noD:D:=.tup [.str "none"]
def kF:D:=.tup [.str "fault",.str "KindFault"]
def kdF (v1 vo v3 v4:V):List (Str×V):=[("name",v1),("order",vo),("fields",v3),("is_given",v4)]
def obF (v1 v2:V):List (Str×V):=[("kind",v1),("fields",v2)]
def fK (a b e:V):List (Key×V):=[(.inr "word",a),(.inr "cause",b),(.inr "context",e)]
inductive Th where
 | gvn (n:Str)
 | kd (nm:Str) (ns:List Nat) (d:Addr)
 | ob (k:Nat) (d:Addr) (fs:Option (D×D×D))
 | fn
 | vw
def FsAt (K:PySem.W.Frag) (H:Hp) (d:Addr):Option (D×D×D)→Prop
 | none=>H d=some (.dK [])
 | some x=>∃a b e,H d=some (.dK (fK a b e))∧At K H x.1 a∧At K H x.2.1 b∧At K H x.2.2 e
def ObjD (K:PySem.W.Frag) (c:ClD) (H:Hp):Th→Addr→Prop
 | .gvn n,p=>∃dx,H p=some (.ins c.G dx [("name",.str n)])
 | .kd nm ns d,p=>∃dx vo v4,H p=some (.ins c.Kd dx (kdF (.str nm) vo (.ref d) v4))∧At K H (.tup (ns.map thD)) vo∧H d=some (.dK [])
 | .ob k d fs,p=>∃dx v1,H p=some (.ins c.O dx (obF v1 (.ref d)))∧At K H (thD k) v1∧FsAt K H d fs
 | .fn,p=>∃dx fs,H p=some (.ins c.F dx fs)
 | .vw,p=>∃dx fs,H p=some (.ins c.Vw dx fs)
def dOf:Th→Option Addr
 | .kd _ _ d=>some d
 | .ob _ d _=>some d
 | _=>none
theorem FsAt.keep {K:PySem.W.Frag} {H H':Hp} {d:Addr} {fs:Option (D×D×D)} (e:H' d=H d) (f:Fx H H') (h:FsAt K H d fs):FsAt K H' d fs:=by
 cases fs with
 | none=>exact e.trans h
 | some x=>
  obtain ⟨a,b,e',h1,h2,h3,h4⟩:=h
  exact ⟨a,b,e',e.trans h1,At.fx f _ _ h2,At.fx f _ _ h3,At.fx f _ _ h4⟩
theorem FsAt.dict {K:PySem.W.Frag} {H:Hp} {d:Addr} {fs:Option (D×D×D)} (h:FsAt K H d fs):∃kvs,H d=some (.dK kvs):=by
 cases fs with
 | none=>exact ⟨_,h⟩
 | some x=>obtain ⟨a,b,e',h1,_⟩:=h; exact ⟨_,h1⟩
theorem ObjD.dict {K:PySem.W.Frag} {c:ClD} {H:Hp} {o:Th} {p d:Addr} (h:ObjD K c H o p) (e:dOf o=some d):∃kvs,H d=some (.dK kvs):=by
 cases o with
 | kd nm ns d'=>cases e; obtain ⟨_,_,_,_,_,h⟩:=h; exact ⟨_,h⟩
 | ob k d' fs=>cases e; obtain ⟨_,_,_,_,h⟩:=h; exact h.dict
 | gvn n=>cases e
 | fn=>cases e
 | vw=>cases e
theorem ObjD.ins {K:PySem.W.Frag} {c:ClD} {H:Hp} {o:Th} {p:Addr} (h:ObjD K c H o p):∃C dx fs,H p=some (.ins C dx fs):=by
 cases o with
 | gvn n=>obtain ⟨dx,e⟩:=h; exact ⟨_,_,_,e⟩
 | kd nm ns d=>obtain ⟨dx,_,_,e,_⟩:=h; exact ⟨_,_,_,e⟩
 | ob k d fs=>obtain ⟨dx,_,e,_⟩:=h; exact ⟨_,_,_,e⟩
 | fn=>obtain ⟨dx,_,e⟩:=h; exact ⟨_,_,_,e⟩
 | vw=>obtain ⟨dx,_,e⟩:=h; exact ⟨_,_,_,e⟩
theorem ObjD.keep {K:PySem.W.Frag} {c:ClD} {H H':Hp} {o:Th} {p:Addr} (e:H' p=H p) (f:Fx H H') (ed:∀d,dOf o=some d→H' d=H d) (h:ObjD K c H o p):ObjD K c H' o p:=by
 cases o with
 | gvn n=>obtain ⟨dx,h⟩:=h; exact ⟨dx,e.trans h⟩
 | kd nm ns d=>obtain ⟨dx,_,_,h,a,b⟩:=h; exact ⟨dx,_,_,e.trans h,At.fx f _ _ a,(ed d rfl).trans b⟩
 | ob k d fs=>obtain ⟨dx,_,h,a,b⟩:=h; exact ⟨dx,_,e.trans h,At.fx f _ _ a,b.keep (ed d rfl) f⟩
 | fn=>obtain ⟨dx,fs,h⟩:=h; exact ⟨dx,fs,e.trans h⟩
 | vw=>obtain ⟨dx,fs,h⟩:=h; exact ⟨dx,fs,e.trans h⟩
def wF (a b:V) (l g:Addr):List (Str×V):=[("lines",a),("left",b),("things",.ref l),("given",.ref g)]
def GivAt (K:PySem.W.Frag) (H:Hp) (g:Addr) (gv:List (Str×Nat)):Prop:=∃kvs,H g=some (.dK kvs)∧kvs.length≤gv.length∧∀n i,(n,i)∈gv→∃v,valV kvs (.inr n)=some v∧At K H (thD i) v
theorem GivAt.keep {K:PySem.W.Frag} {H H':Hp} {g:Addr} {gv:List (Str×Nat)} (e:H' g=H g) (f:Fx H H') (h:GivAt K H g gv):GivAt K H' g gv:=by
 obtain ⟨kvs,h1,hl,h2⟩:=h
 exact ⟨kvs,e.trans h1,hl,fun n i e=>let ⟨v,a,b⟩:=h2 n i e; ⟨v,a,At.fx f _ _ b⟩⟩
def WDc (os:List Th) (d:Addr):Prop:=∃(i:Nat) (o:Th),os[i]?=some o∧dOf o=some d
structure WAt (K:PySem.W.Frag) (c:ClD) (H:Hp) (W l g:Addr) (ps:List Addr) (os:List Th) (gv:List (Str×Nat)):Prop where
 w:∃dx a b,H W=some (.ins c.W dx (wF a b l g))
 t:H l=some (.lst (ps.map V.ref))
 n:ps.length=os.length
 nd:ps.Nodup
 o:∀(i:Nat) (p:Addr) (o:Th),ps[i]?=some p→os[i]?=some o→ObjD K c H o p
 dn:∀(i j:Nat) (a b:Th) (d:Addr),os[i]?=some a→os[j]?=some b→dOf a=some d→dOf b=some d→i=j
 dg:¬WDc os g
 v:GivAt K H g gv
theorem getElem?_snoc {α:Type} {xs:List α} {x y:α} {i:Nat} (h:(xs++[x])[i]?=some y):xs[i]?=some y∨(i=xs.length∧y=x):=by
 by_cases hi:i < xs.length
 ·rw[List.getElem?_append_left hi] at h; exact .inl h
 ·have hl:=(List.getElem?_eq_some_iff.mp h).1
  rw[List.length_append,List.length_singleton] at hl
  have ei:i=xs.length:=by omega
  subst ei
  rw[List.getElem?_append_right (Nat.le_refl _),Nat.sub_self] at h
  cases h
  exact .inr ⟨rfl,rfl⟩
theorem snoc_last {α:Type} {xs:List α} {x:α}:(xs++[x])[xs.length]?=some x:=by rw[List.getElem?_append_right (Nat.le_refl _),Nat.sub_self]; rfl
theorem snoc_old {α:Type} {xs:List α} {x y:α} {i:Nat} (h:xs[i]?=some y):(xs++[x])[i]?=some y:=by rw[List.getElem?_append_left (List.getElem?_eq_some_iff.mp h).1]; exact h
theorem lt_of_some {α:Type} {xs:List α} {i:Nat} {x:α} (h:xs[i]?=some x):i < xs.length:=(List.getElem?_eq_some_iff.mp h).1
theorem WDc.snoc {os:List Th} {o:Th} {d:Addr} (h:WDc (os++[o]) d):WDc os d∨dOf o=some d:=by
 obtain ⟨i,a,e,ed⟩:=h
 rcases getElem?_snoc e with e | ⟨_,rfl⟩
 ·exact .inl ⟨i,a,e,ed⟩
 ·exact .inr ed
theorem WDc.set {os:List Th} {i:Nat} {o o':Th} {d:Addr} (e0:os[i]?=some o) (ed:dOf o'=dOf o) (h:WDc (os.set i o') d):WDc os d:=by
 obtain ⟨j,a,e,e2⟩:=h
 by_cases hj:j=i
 ·subst hj
  rw[List.getElem?_set_self (lt_of_some e0)] at e; cases e
  exact ⟨j,o,e0,ed ▸ e2⟩
 ·rw[List.getElem?_set_ne (Ne.symm hj)] at e
  exact ⟨j,a,e,e2⟩
section
variable {K:PySem.W.Frag} {c:ClD} {H H':Hp} {W l g:Addr} {ps:List Addr} {os:List Th} {gv:List (Str×Nat)}
theorem WAt.at (h:WAt K c H W l g ps os gv) {i:Nat} {o:Th} (e:os[i]?=some o):∃p,ps[i]?=some p∧ObjD K c H o p:=by
 have hi:i < ps.length:=by rw[h.n]; exact (List.getElem?_eq_some_iff.mp e).1
 have e1:ps[i]?=some ps[i]:=List.getElem?_eq_getElem hi
 exact ⟨_,e1,h.o i _ o e1 e⟩
theorem WAt.in (h:WAt K c H W l g ps os gv) {p:Addr} (m:p∈ps):∃C dx fs,H p=some (.ins C dx fs):=by
 obtain ⟨i,hi,e⟩:=List.getElem_of_mem m
 have h2:i < os.length:=by rw[← h.n]; exact hi
 exact (h.o i p os[i] (by rw[List.getElem?_eq_getElem hi,e]) (List.getElem?_eq_getElem h2)).ins
theorem WAt.fresh (h:WAt K c H W l g ps os gv) {p:Addr} (e:H p=none):p ∉ ps:=fun m=>by
 obtain ⟨_,_,_,e'⟩:=h.in m
 rw[e] at e'; cases e'
theorem WAt.wd (h:WAt K c H W l g ps os gv) {d:Addr} (m:WDc os d):∃kvs,H d=some (.dK kvs):=by
 obtain ⟨i,o,e,ed⟩:=m
 obtain ⟨p,_,ho⟩:=h.at e
 exact ho.dict ed
theorem WAt.freshD (h:WAt K c H W l g ps os gv) {d:Addr} (e:H d=none):¬WDc os d:=fun m=>by
 obtain ⟨_,e'⟩:=h.wd m
 rw[e] at e'; cases e'
theorem WAt.keep (h:WAt K c H W l g ps os gv) (k:∀p o,H p=some o→(∀xs,o=.lst xs→p=l)→(∀kvs,o=.dK kvs→p=g∨WDc os p)→H' p=some o):WAt K c H' W l g ps os gv:=by
 have f:Fx H H':=fun p o e z=>k p o e (fun xs y=>by rw[y] at z; cases z) (fun kvs y=>by rw[y] at z; cases z)
 obtain ⟨⟨dx,a,b,h1⟩,h2,h3,h4,h5,h6,h7,h8⟩:=h
 refine ⟨⟨dx,a,b,k _ _ h1 (fun _ y=>nomatch y) (fun _ y=>nomatch y)⟩,k _ _ h2 (fun _ _=>rfl) (fun _ y=>nomatch y),h3,h4,fun i p o e1 e2=>?_,h6,h7,h8.keep ?_ f⟩
 ·have ho:=h5 i p o e1 e2
  obtain ⟨C,dx,fs,e⟩:=ho.ins
  refine ho.keep (by rw[k _ _ e (fun _ y=>nomatch y) (fun _ y=>nomatch y),e]) f fun d ed=>?_
  obtain ⟨kvs,e'⟩:=ho.dict ed
  rw[k _ _ e' (fun _ y=>nomatch y) (fun _ _=>.inr ⟨i,o,e2,ed⟩),e']
 ·obtain ⟨kvs,e,_⟩:=h8
  rw[k _ _ e (fun _ y=>nomatch y) (fun _ _=>.inl rfl),e]
theorem WAt.same (s:Same H H') (h:WAt K c H W l g ps os gv):WAt K c H' W l g ps os gv:=h.keep fun p o e _ _=>s p o e
theorem WAt.lst (h:WAt K c H W l g ps os gv) {d:Addr} {xs:List V} {o:HO} (e:H d=some (.lst xs)) (ne:l≠d):WAt K c (upd H d o) W l g ps os gv:=h.keep fun p u e1 e2 _=>by
 rw[upd_ne (fun y=>?_)]; exact e1
 rw[y,e] at e1; cases e1
 exact ne ((e2 _ rfl).symm.trans y)
theorem WAt.butl (h:WAt K c H W l g ps os gv) {d:Addr} {xs:List V} (e:H d=some (.lst xs)) (ne:l≠d) (b:But9 d H H'):WAt K c H' W l g ps os gv:=h.keep fun p u e1 e2 _=>by
 refine b _ _ (fun y=>?_) e1
 rw[y,e] at e1; cases e1
 exact ne ((e2 _ rfl).symm.trans y)
theorem WAt.add (h:WAt K c H W l g ps os gv) {o:Th} {p:Addr} (hp:p ∉ ps) (ho:ObjD K c H o p) (hd:∀d,dOf o=some d→d≠g∧¬WDc os d):WAt K c (upd H l (.lst (ps.map V.ref++[.ref p]))) W l g (ps++[p]) (os++[o]) gv:=by
 obtain ⟨⟨dx,a,b,h1⟩,h2,h3,h4,h5,h6,h7,h8⟩:=h
 have f:Fx H (upd H l (.lst (ps.map V.ref++[.ref p]))):=Fx.put h2 rfl
 have kp:∀{q o'},ObjD K c H o' q→ObjD K c (upd H l (.lst (ps.map V.ref++[.ref p]))) o' q:=fun {q o'} z=>by
  obtain ⟨C,dx,fs,e'⟩:=z.ins
  refine z.keep (upd_ne (fun y=>by rw[y,h2] at e'; cases e')) f fun d ed=>upd_ne fun y=>?_
  obtain ⟨kvs,e2⟩:=z.dict ed
  rw[y,h2] at e2; cases e2
 refine ⟨⟨dx,a,b,by rw[upd_ne (fun y=>by rw[y,h2] at h1; cases h1)]; exact h1⟩,by rw[upd_same,List.map_append]; rfl,by rw[List.length_append,List.length_append,h3]; rfl,?_,fun i q o' e1 e2=>?_,fun i j x y d e1 e2 e3 e4=>?_,fun z=>?_,h8.keep (upd_ne fun y=>?_) f⟩
 ·rw[List.nodup_append]
  refine ⟨h4,(by simp),fun x hx y hy=>?_⟩
  rw[List.mem_singleton.mp hy]
  exact fun z=>hp (z ▸ hx)
 ·rcases getElem?_snoc e1 with e1 | ⟨rfl,rfl⟩
  ·have hi:i < os.length:=by rw[← h3]; exact lt_of_some e1
   rw[List.getElem?_append_left hi] at e2
   exact kp (h5 i q o' e1 e2)
  ·rw[h3,snoc_last] at e2
   cases e2
   exact kp ho
 ·rcases getElem?_snoc e1 with u1 | ⟨u1,v1⟩ <;> rcases getElem?_snoc e2 with u2 | ⟨u2,v2⟩
  ·exact h6 i j x y d u1 u2 e3 e4
  ·exact absurd ⟨i,x,u1,e3⟩ (hd d (v2 ▸ e4)).2
  ·exact absurd ⟨j,y,u2,e4⟩ (hd d (v1 ▸ e3)).2
  ·rw[u1,u2]
 ·rcases z.snoc with z | z
  ·exact h7 z
  ·exact (hd g z).1 rfl
 ·obtain ⟨kvs,h8,_⟩:=h8
  rw[y,h2] at h8; cases h8
theorem WAt.put (h:WAt K c H W l g ps os gv) {i k:Nat} {d:Addr} {fs fs':Option (D×D×D)} (eo:os[i]?=some (.ob k d fs)) {o:HO} (hf:FsAt K (upd H d o) d fs'):WAt K c (upd H d o) W l g ps (os.set i (.ob k d fs')) gv:=by
 have hwd:WDc os d:=⟨i,_,eo,rfl⟩
 obtain ⟨kvs,hd⟩:=h.wd hwd
 obtain ⟨⟨dw,a,b,h1⟩,h2,h3,h4,h5,h6,h7,h8⟩:=h
 have f:Fx H (upd H d o):=Fx.put hd rfl
 have hi:=lt_of_some eo
 refine ⟨⟨dw,a,b,by rw[upd_ne (fun y=>by rw[y,hd] at h1; cases h1)]; exact h1⟩,by rw[upd_ne (fun y=>by rw[y,hd] at h2; cases h2)]; exact h2,by rw[List.length_set,h3],h4,fun j q o' e1 e2=>?_,fun j1 j2 x y d' e1 e2 e3 e4=>?_,fun z=>h7 (WDc.set (o':=.ob k d fs') eo rfl z),h8.keep (upd_ne fun y=>h7 (y ▸ hwd)) f⟩
 ·by_cases hj:j=i
  ·subst hj
   rw[List.getElem?_set_self hi] at e2; cases e2
   obtain ⟨dx,v1,e3,e4,_⟩:=h5 j q _ e1 eo
   exact ⟨dx,v1,by rw[upd_ne (fun y=>by rw[y,hd] at e3; cases e3)]; exact e3,At.fx f _ _ e4,hf⟩
  ·rw[List.getElem?_set_ne (Ne.symm hj)] at e2
   have ho:=h5 j q o' e1 e2
   obtain ⟨C,dx,fs,e⟩:=ho.ins
   exact ho.keep (upd_ne fun y=>by rw[y,hd] at e; cases e) f fun d' ed=>upd_ne fun y=>hj (h6 j i o' _ d e2 eo (y ▸ ed) rfl)
 ·have kd:∀{j:Nat} {x:Th},(os.set i (.ob k d fs'))[j]?=some x→∃x',os[j]?=some x'∧dOf x'=dOf x:=fun {j x} e=>by
   by_cases hj:j=i
   ·subst hj
    rw[List.getElem?_set_self hi] at e; cases e
    exact ⟨_,eo,rfl⟩
   ·rw[List.getElem?_set_ne (Ne.symm hj)] at e
    exact ⟨x,e,rfl⟩
  obtain ⟨x',u1,u2⟩:=kd e1
  obtain ⟨y',u3,u4⟩:=kd e2
  exact h6 j1 j2 x' y' d' u1 u3 (u2.trans e3) (u4.trans e4)
end
def Vd (os:List Th) (d:D):Prop:=(∃k r,d=.tup (.str k::r)∧(k="thing"→∃i:Nat,r=[.int (i:Nat)]∧i < os.length))∧dep d≤1
theorem dep_th (i:Nat):dep (thD i)=1:=by
 unfold thD
 rw[GS.dep,deps,deps,deps,dep_str,dep_int]; rfl
def thO (os:List Th):D→Option Th
 | .tup [.str k,.int i]=>if k="thing"∧0≤i then os[i.toNat]? else none
 | _=>none
theorem thO_th (os:List Th) (i:Nat):thO os (thD i)=os[i]?:=by
 show (if ("thing":Str)="thing"∧(0:Int)≤(i:Nat) then os[((i:Nat):Int).toNat]? else none)=_
 rw[if_pos ⟨rfl,by omega⟩,Int.toNat_natCast]
theorem thO_no (os:List Th) {k:Str} (r:List D) (h:k≠"thing"):thO os (.tup (.str k::r))=none:=by
 unfold thO
 split
 ·rename_i k' i e
  injection e with e
  injection e with e1 e2
  injection e1 with e1
  subst e1
  rw[if_neg (fun z=>h z.1)]
 ·rfl
theorem Vd.th {os:List Th} {i:Nat} (h:i < os.length):Vd os (thD i):=⟨⟨_,_,rfl,fun _=>⟨i,rfl,h⟩⟩,by rw[dep_th]; exact Nat.le_refl _⟩
theorem Vd.no {os:List Th} {k:Str} {r:List D} (h:k≠"thing") (hd:dep (.tup (.str k::r))≤1):Vd os (.tup (.str k::r)):=⟨⟨_,_,rfl,fun z=>absurd z h⟩,hd⟩
theorem Vd.noD {os:List Th}:Vd os noD:=Vd.no (by decide +kernel) (by decide +kernel)
theorem Vd.tup {os:List Th} {d:D} (h:Vd os d):∃r,d=.tup r:=by
 obtain ⟨⟨k,r,e,_⟩,_⟩:=h
 exact ⟨_,e⟩
theorem Vd.mono {os os':List Th} {d:D} (l:os.length≤os'.length) (h:Vd os d):Vd os' d:=by
 obtain ⟨⟨k,r,e,h⟩,hd⟩:=h
 exact ⟨⟨k,r,e,fun z=>let ⟨i,a,b⟩:=h z; ⟨i,a,Nat.lt_of_lt_of_le b l⟩⟩,hd⟩
theorem Vd.cases {os:List Th} {d:D} (h:Vd os d):(∃i,d=thD i∧i < os.length)∨(∃k r,d=.tup (.str k::r)∧k≠"thing"∧thO os d=none):=by
 obtain ⟨⟨k,r,e,h⟩,_⟩:=h
 by_cases hk:k="thing"
 ·obtain ⟨i,rfl,hi⟩:=h hk
  exact .inl ⟨i,by rw[e,hk]; rfl,hi⟩
 ·exact .inr ⟨k,r,e,hk,by rw[e]; exact thO_no os r hk⟩
structure WfO (os:List Th):Prop where
 k:∀(i:Nat) nm ns d,os[i]?=some (.kd nm ns d)→∀n∈ns,∃nm' ns' d',os[n]?=some (.kd nm' ns' d')
 o:∀(i k:Nat) d fs,os[i]?=some (.ob k d fs)→∃nm ns d',os[k]?=some (.kd nm ns d')
def inCls (i:Nat):Stmt→Stmt
 | .ClassDef _ _ _ body _ _ _ _ _ _ _=>body.getD i (.Pass ⟨0,0,0,0⟩)
 | _=>.Pass ⟨0,0,0,0⟩
theorem putF_ne {f g:Str} {v x:V} {r:List (Str×V)} (h:g≠f):putF f v ((g,x)::r)=(g,x)::putF f v r:=if_neg h
section
variable {P:Program} {w:World} {K:PySem.W.Frag} {mg:Str→Option Value} {base:Heap} {f:Addr} {fd:FuncData}
abbrev pFnI:Stmt:=(inCls 0 (topd 5))
def spFnI (C:Addr):Sp:=fun vs H Q _=>∃(x dx:Addr) (v1 v2 v3 v4 v5 v6:V),vs=[.ref x,v1,v2,v3,v4,v5,v6]∧H x=some (.ins C dx [])∧∀H',(∀p,p≠x→H' p=H p)→H' x=some (.ins C dx [("name",v1),("params",v2),("defaults",v3),("code",v4),("around",v5),("gives",v6)])→Q .non H'
theorem scFnI:FnScope ["self","name","params","defaults","code","around","gives"] ["self","name","params","defaults","code","around","gives"] (defScope pFnI):=⟨rfl,rfl,rfl,by decide +kernel,rfl,by decide +kernel,by decide +kernel⟩
theorem ok_FnI {c:ClD} (z:CsD K c) (F:Fun K "__init__" "Function.__init__" pFnI f fd):FnOk P w K mg base CX0 1 f fd ["self","name","params","defaults","code","around","gives"] (spFnI c.F):=by
 refine F.okI scFnI (fun vs H Q E h=>?_) (fun cdv A outer s H vs Q E hr h=>?_)
 ·obtain ⟨_,_,_,_,_,_,_,_,rfl,_⟩:=h; rfl
 obtain ⟨x,dx,v1,v2,v3,v4,v5,v6,rfl,hx,q⟩:=h
 refine ⟨_,(pss_cons (L3.ps_fld (pv 0) (pv 1))
   (pss_cons (L3.ps_fld (pv 0) (pv 2))
   (pss_cons (L3.ps_fld (pv 0) (pv 3))
   (pss_cons (L3.ps_fld (pv 0) (pv 4))
   (pss_cons (L3.ps_fld (pv 0) (pv 5))
   (pss_one (L3.ps_fld (pv 0) (pv 6)))))))),?_⟩
 have e1:putF "name" v1 ([]:List (Str×V))=([("name",v1)]:List (Str×V)):=by rfl
 have e2:putF "params" v2 ([("name",v1)]:List (Str×V))=([("name",v1),("params",v2)]:List (Str×V)):=by rw[putF_ne (by decide +kernel)]; rfl
 have e3:putF "defaults" v3 ([("name",v1),("params",v2)]:List (Str×V))=([("name",v1),("params",v2),("defaults",v3)]:List (Str×V)):=by rw[putF_ne (by decide +kernel),putF_ne (by decide +kernel)]; rfl
 have e4:putF "code" v4 ([("name",v1),("params",v2),("defaults",v3)]:List (Str×V))=([("name",v1),("params",v2),("defaults",v3),("code",v4)]:List (Str×V)):=by rw[putF_ne (by decide +kernel),putF_ne (by decide +kernel),putF_ne (by decide +kernel)]; rfl
 have e5:putF "around" v5 ([("name",v1),("params",v2),("defaults",v3),("code",v4)]:List (Str×V))=([("name",v1),("params",v2),("defaults",v3),("code",v4),("around",v5)]:List (Str×V)):=by rw[putF_ne (by decide +kernel),putF_ne (by decide +kernel),putF_ne (by decide +kernel),putF_ne (by decide +kernel)]; rfl
 have e6:putF "gives" v6 ([("name",v1),("params",v2),("defaults",v3),("code",v4),("around",v5)]:List (Str×V))=([("name",v1),("params",v2),("defaults",v3),("code",v4),("around",v5),("gives",v6)]:List (Str×V)):=by rw[putF_ne (by decide +kernel),putF_ne (by decide +kernel),putF_ne (by decide +kernel),putF_ne (by decide +kernel),putF_ne (by decide +kernel)]; rfl
 refine ⟨_,rfl,_,rfl,x,c.F,dx,_,rfl,hx,z.fc,z.f1,by decide,?_⟩
 rw[e1]
 refine ⟨_,rfl,_,rfl,x,c.F,dx,_,rfl,upd_same,z.fc,z.f2,Nat.lt_of_lt_of_le (Nat.lt_succ_self 1) (by decide),?_⟩
 rw[e2]
 refine ⟨_,rfl,_,rfl,x,c.F,dx,_,rfl,upd_same,z.fc,z.f3,Nat.lt_of_lt_of_le (Nat.lt_succ_self 2) (by decide),?_⟩
 rw[e3]
 refine ⟨_,rfl,_,rfl,x,c.F,dx,_,rfl,upd_same,z.fc,z.f4,Nat.lt_of_lt_of_le (Nat.lt_succ_self 3) (by decide),?_⟩
 rw[e4]
 refine ⟨_,rfl,_,rfl,x,c.F,dx,_,rfl,upd_same,z.fc,z.f5,Nat.lt_of_lt_of_le (Nat.lt_succ_self 4) (by decide),?_⟩
 rw[e5]
 refine ⟨_,rfl,_,rfl,x,c.F,dx,_,rfl,upd_same,z.fc,z.f6,Nat.lt_of_lt_of_le (Nat.lt_succ_self 5) (by decide),?_⟩
 rw[e6]
 exact q _ (fun p hp=>by rw[upd_ne hp,upd_ne hp,upd_ne hp,upd_ne hp,upd_ne hp,upd_ne hp]) upd_same
abbrev pGvI:Stmt:=(inCls 0 (topd 6))
def spGvI (C:Addr):Sp:=fun vs H Q _=>∃(x dx:Addr) (v1:V),vs=[.ref x,v1]∧H x=some (.ins C dx [])∧∀H',(∀p,p≠x→H' p=H p)→H' x=some (.ins C dx [("name",v1)])→Q .non H'
theorem scGvI:FnScope ["self","name"] ["self","name"] (defScope pGvI):=⟨rfl,rfl,rfl,by decide +kernel,rfl,by decide +kernel,by decide +kernel⟩
theorem ok_GvI {c:ClD} (z:CsD K c) (F:Fun K "__init__" "Given.__init__" pGvI f fd):FnOk P w K mg base CX0 1 f fd ["self","name"] (spGvI c.G):=by
 refine F.okI scGvI (fun vs H Q E h=>?_) (fun cdv A outer s H vs Q E hr h=>?_)
 ·obtain ⟨_,_,_,rfl,_⟩:=h; rfl
 obtain ⟨x,dx,v1,rfl,hx,q⟩:=h
 refine ⟨_,(pss_one (L3.ps_fld (pv 0) (pv 1))),?_⟩
 have e1:putF "name" v1 ([]:List (Str×V))=([("name",v1)]:List (Str×V)):=by rfl
 refine ⟨_,rfl,_,rfl,x,c.G,dx,_,rfl,hx,z.gc,z.g1,by decide,?_⟩
 rw[e1]
 exact q _ (fun p hp=>by rw[upd_ne hp]) upd_same
abbrev pKdI:Stmt:=(inCls 0 (topd 8))
def spKdI (C:Addr):Sp:=fun vs H Q _=>∃(x dx:Addr) (v1 v2 v3 v4:V),vs=[.ref x,v1,v2,v3,v4]∧H x=some (.ins C dx [])∧∀H',(∀p,p≠x→H' p=H p)→H' x=some (.ins C dx [("name",v1),("order",v2),("fields",v3),("is_given",v4)])→Q .non H'
theorem scKdI:FnScope ["self","name","order","fields","is_given"] ["self","name","order","fields","is_given"] (defScope pKdI):=⟨rfl,rfl,rfl,by decide +kernel,rfl,by decide +kernel,by decide +kernel⟩
theorem ok_KdI {c:ClD} (z:CsD K c) (F:Fun K "__init__" "Kind.__init__" pKdI f fd):FnOk P w K mg base CX0 1 f fd ["self","name","order","fields","is_given"] (spKdI c.Kd):=by
 refine F.okI scKdI (fun vs H Q E h=>?_) (fun cdv A outer s H vs Q E hr h=>?_)
 ·obtain ⟨_,_,_,_,_,_,rfl,_⟩:=h; rfl
 obtain ⟨x,dx,v1,v2,v3,v4,rfl,hx,q⟩:=h
 refine ⟨_,(pss_cons (L3.ps_fld (pv 0) (pv 1))
   (pss_cons (L3.ps_fld (pv 0) (pv 2))
   (pss_cons (L3.ps_fld (pv 0) (pv 3))
   (pss_one (L3.ps_fld (pv 0) (pv 4)))))),?_⟩
 have e1:putF "name" v1 ([]:List (Str×V))=([("name",v1)]:List (Str×V)):=by rfl
 have e2:putF "order" v2 ([("name",v1)]:List (Str×V))=([("name",v1),("order",v2)]:List (Str×V)):=by rw[putF_ne (by decide +kernel)]; rfl
 have e3:putF "fields" v3 ([("name",v1),("order",v2)]:List (Str×V))=([("name",v1),("order",v2),("fields",v3)]:List (Str×V)):=by rw[putF_ne (by decide +kernel),putF_ne (by decide +kernel)]; rfl
 have e4:putF "is_given" v4 ([("name",v1),("order",v2),("fields",v3)]:List (Str×V))=([("name",v1),("order",v2),("fields",v3),("is_given",v4)]:List (Str×V)):=by rw[putF_ne (by decide +kernel),putF_ne (by decide +kernel),putF_ne (by decide +kernel)]; rfl
 refine ⟨_,rfl,_,rfl,x,c.Kd,dx,_,rfl,hx,z.kc,z.k1,by decide,?_⟩
 rw[e1]
 refine ⟨_,rfl,_,rfl,x,c.Kd,dx,_,rfl,upd_same,z.kc,z.k2,Nat.lt_of_lt_of_le (Nat.lt_succ_self 1) (by decide),?_⟩
 rw[e2]
 refine ⟨_,rfl,_,rfl,x,c.Kd,dx,_,rfl,upd_same,z.kc,z.k3,Nat.lt_of_lt_of_le (Nat.lt_succ_self 2) (by decide),?_⟩
 rw[e3]
 refine ⟨_,rfl,_,rfl,x,c.Kd,dx,_,rfl,upd_same,z.kc,z.k4,Nat.lt_of_lt_of_le (Nat.lt_succ_self 3) (by decide),?_⟩
 rw[e4]
 exact q _ (fun p hp=>by rw[upd_ne hp,upd_ne hp,upd_ne hp,upd_ne hp]) upd_same
abbrev pObI:Stmt:=(inCls 0 (topd 9))
def spObI (C:Addr):Sp:=fun vs H Q _=>∃(x dx:Addr) (v1 v2:V),vs=[.ref x,v1,v2]∧H x=some (.ins C dx [])∧∀H',(∀p,p≠x→H' p=H p)→H' x=some (.ins C dx [("kind",v1),("fields",v2)])→Q .non H'
theorem scObI:FnScope ["self","kind","fields"] ["self","kind","fields"] (defScope pObI):=⟨rfl,rfl,rfl,by decide +kernel,rfl,by decide +kernel,by decide +kernel⟩
theorem ok_ObI {c:ClD} (z:CsD K c) (F:Fun K "__init__" "Object.__init__" pObI f fd):FnOk P w K mg base CX0 1 f fd ["self","kind","fields"] (spObI c.O):=by
 refine F.okI scObI (fun vs H Q E h=>?_) (fun cdv A outer s H vs Q E hr h=>?_)
 ·obtain ⟨_,_,_,_,rfl,_⟩:=h; rfl
 obtain ⟨x,dx,v1,v2,rfl,hx,q⟩:=h
 refine ⟨_,(pss_cons (L3.ps_fld (pv 0) (pv 1))
   (pss_one (L3.ps_fld (pv 0) (pv 2)))),?_⟩
 have e1:putF "kind" v1 ([]:List (Str×V))=([("kind",v1)]:List (Str×V)):=by rfl
 have e2:putF "fields" v2 ([("kind",v1)]:List (Str×V))=([("kind",v1),("fields",v2)]:List (Str×V)):=by rw[putF_ne (by decide +kernel)]; rfl
 refine ⟨_,rfl,_,rfl,x,c.O,dx,_,rfl,hx,z.oc,z.o1,by decide,?_⟩
 rw[e1]
 refine ⟨_,rfl,_,rfl,x,c.O,dx,_,rfl,upd_same,z.oc,z.o2,Nat.lt_of_lt_of_le (Nat.lt_succ_self 1) (by decide),?_⟩
 rw[e2]
 exact q _ (fun p hp=>by rw[upd_ne hp,upd_ne hp]) upd_same
abbrev pVwI:Stmt:=(inCls 0 (topd 11))
def spVwI (C:Addr):Sp:=fun vs H Q _=>∃(x dx:Addr) (v1 v2:V),vs=[.ref x,v1,v2]∧H x=some (.ins C dx [])∧∀H',(∀p,p≠x→H' p=H p)→H' x=some (.ins C dx [("kind",v1),("owner",v2)])→Q .non H'
theorem scVwI:FnScope ["self","kind","owner"] ["self","kind","owner"] (defScope pVwI):=⟨rfl,rfl,rfl,by decide +kernel,rfl,by decide +kernel,by decide +kernel⟩
theorem ok_VwI {c:ClD} (z:CsD K c) (F:Fun K "__init__" "View.__init__" pVwI f fd):FnOk P w K mg base CX0 1 f fd ["self","kind","owner"] (spVwI c.Vw):=by
 refine F.okI scVwI (fun vs H Q E h=>?_) (fun cdv A outer s H vs Q E hr h=>?_)
 ·obtain ⟨_,_,_,_,rfl,_⟩:=h; rfl
 obtain ⟨x,dx,v1,v2,rfl,hx,q⟩:=h
 refine ⟨_,(pss_cons (L3.ps_fld (pv 0) (pv 1))
   (pss_one (L3.ps_fld (pv 0) (pv 2)))),?_⟩
 have e1:putF "kind" v1 ([]:List (Str×V))=([("kind",v1)]:List (Str×V)):=by rfl
 have e2:putF "owner" v2 ([("kind",v1)]:List (Str×V))=([("kind",v1),("owner",v2)]:List (Str×V)):=by rw[putF_ne (by decide +kernel)]; rfl
 refine ⟨_,rfl,_,rfl,x,c.Vw,dx,_,rfl,hx,z.vc,z.v1,by decide,?_⟩
 rw[e1]
 refine ⟨_,rfl,_,rfl,x,c.Vw,dx,_,rfl,upd_same,z.vc,z.v2,Nat.lt_of_lt_of_le (Nat.lt_succ_self 1) (by decide),?_⟩
 rw[e2]
 exact q _ (fun p hp=>by rw[upd_ne hp,upd_ne hp]) upd_same
end
abbrev pAdd:Stmt:=topd 13
abbrev pTh:Stmt:=topd 14
abbrev pKn:Stmt:=topd 15
abbrev pIsC:Stmt:=topd 19
theorem decS (x y:Str):decide (V.str x=V.str y)=decide (x=y):=decide_eq_decide.mpr ⟨V.str.inj,fun e=>by rw[e]⟩
theorem decN {x y:Str} (h:x≠y):decide (V.str x=V.str y)=false:=decide_eq_false fun z=>h (V.str.inj z)
theorem ite_b9 {b:Bool} {A B:Prop} (h1:b=true→A) (h2:b=false→B):if b=true then A else B:=by
 cases b with
 | true=>exact iteT (h1 rfl)
 | false=>exact iteF (h2 rfl)
def rNth (K:PySem.W.Frag):R2:=fun x y H Q=>∃(i:Nat) (ds:List D) (d:D),y=.int (i:Nat)∧At K H (.tup ds) x∧ds[i]?=some d∧∀v,At K H d v→Q v H
theorem ixD {X:Cx}:IxR X (rNth X.K):=by
 intro value slice pins s σ H x y v u Q I rx ry h hs
 obtain ⟨i,ds,d,rfl,hx,hd,q⟩:=h
 obtain ⟨p,vs,w,rfl,h2,h3,h4⟩:=At.ix (i:=i) hx hd
 exact ix_tup value slice pins s σ H _ _ v u Q I rx ry ⟨p,vs,_,w,rfl,rfl,h2,h3,q w h4⟩ hs
theorem pe_nth {X:Cx} {e:Expr} {te:TE} {n:Int} {j:Nat} {p pos:Pos} (he:LE X e te):LE X (.Subscript e (.Constant (.int n) j p) pos) (tOp (rNth X.K) te (tC (.int n))):=pe_ix ixD he pe_int (fun _ _=>rfl)
theorem wF_things (a b:V) (l g:Addr):(wF a b l g).lookup ("things":Str)=some (.ref l):=rfl
theorem wF_given (a b:V) (l g:Addr):(wF a b l g).lookup ("given":Str)=some (.ref g):=rfl
theorem kdF_order (a b c d:V):(kdF a b c d).lookup ("order":Str)=some b:=rfl
theorem obF_kind (a b:V):(obF a b).lookup ("kind":Str)=some a:=rfl
theorem obF_fields (a b:V):(obF a b).lookup ("fields":Str)=some b:=rfl
theorem kdF_name (a b c d:V):(kdF a b c d).lookup ("name":Str)=some a:=rfl
theorem kdF_fields (a b c d:V):(kdF a b c d).lookup ("fields":Str)=some c:=rfl
theorem AtAll.one1 {K:PySem.W.Frag} {H:Hp} {a:D} {x:V} (h:At K H a x):AtAll K H [a] [x]:=AtAll_cons.mpr ⟨x,[],rfl,h,AtAll_nil.mpr rfl⟩
theorem AtAll2 {K:PySem.W.Frag} {H:Hp} {a b:D} {x y:V} (h:At K H a x) (h2:At K H b y):AtAll K H [a,b] [x,y]:=AtAll_cons.mpr ⟨x,_,rfl,h,AtAll.one1 h2⟩
theorem AtAll3 {K:PySem.W.Frag} {H:Hp} {a b c:D} {x y z:V} (h:At K H a x) (h2:At K H b y) (h3:At K H c z):AtAll K H [a,b,c] [x,y,z]:=AtAll_cons.mpr ⟨x,_,rfl,h,AtAll2 h2 h3⟩
theorem thD_inj {i j:Nat} (h:thD i=thD j):i=j:=by
 unfold thD at h
 injection h with h
 injection h with _ h
 injection h with h _
 injection h with h
 exact Int.ofNat.inj h
def TV (K:PySem.W.Frag) (c:ClD) (H:Hp) (ps:List Addr) (os:List Th) (d:D) (v:V):Prop:=(thO os d=none∧v=.non)∨∃(i:Nat) (p:Addr) (o:Th),d=thD i∧thO os d=some o∧ps[i]?=some p∧os[i]?=some o∧v=.ref p∧ObjD K c H o p
def tagB (f g k o v:Bool):Option Th→Bool
 | none=>false
 | some .fn=>f
 | some (.gvn _)=>g
 | some (.kd ..)=>k
 | some (.ob ..)=>o
 | some .vw=>v
section
variable {K:PySem.W.Frag} {c:ClD} {H:Hp} {ps:List Addr} {os:List Th} {d:D} {v:V}
theorem TV.th {i:Nat} {o:Th} (e:os[i]?=some o) (t:TV K c H ps os (thD i) v):∃p,ps[i]?=some p∧v=.ref p∧ObjD K c H o p:=by
 rcases t with ⟨h,_⟩ | ⟨j,p,o',h1,h2,h3,h4,h5,h6⟩
 ·rw[thO_th,e] at h; cases h
 ·have:=thD_inj h1
  subst this
  rw[e] at h4; cases h4
  exact ⟨p,h3,h5,h6⟩
theorem TV.is (z:CsD K c) (t:TV K c H ps os d v) {C:Addr} {f g k o w:Bool} (kt:KitD K c C f g k o w):(∃p D dx fs,v=.ref p∧H p=some (.ins D dx fs)∧OwnI K D∧PySem.W.kitOne K (.ref D) (.ref C)=some (tagB f g k o w (thO os d)))∨(v=.non∧PySem.W.kitOne K (.type "NoneType") (.ref C)=some (tagB f g k o w (thO os d))):=by
 rcases t with ⟨h,e⟩ | ⟨j,p,o',h1,h2,h3,h4,h5,h6⟩
 ·rw[h]; exact .inr ⟨e,kt.tN⟩
 ·rw[h2]
  cases o' with
  | fn=>obtain ⟨dx,_,h⟩:=h6; exact .inl ⟨p,_,dx,_,h5,h,z.iF,kt.tF⟩
  | gvn n=>obtain ⟨dx,h⟩:=h6; exact .inl ⟨p,_,dx,_,h5,h,z.iG,kt.tG⟩
  | kd nm ns d=>obtain ⟨dx,_,_,h,_⟩:=h6; exact .inl ⟨p,_,dx,_,h5,h,z.iK,kt.tK⟩
  | ob n d fs=>obtain ⟨dx,_,h,_⟩:=h6; exact .inl ⟨p,_,dx,_,h5,h,z.iO,kt.tO⟩
  | vw=>obtain ⟨dx,_,h⟩:=h6; exact .inl ⟨p,_,dx,_,h5,h,z.iV,kt.tV⟩
end
section
variable {P:Program} {w:World} {K:PySem.W.Frag} {mg:Str→Option Value} {base:Heap} {f:Addr} {fd:FuncData} {c:ClD}
def spAdd (K:PySem.W.Frag) (c:ClD):Sp:=fun vs H Q _=>∃(W l g:Addr) (ps:List Addr) (os:List Th) (gv:List (Str×Nat)) (o:Th) (p:Addr),vs=[.ref W,.ref p]∧WAt K c H W l g ps os gv∧ObjD K c H o p∧p ∉ ps∧(∀d,dOf o=some d→d≠g∧¬WDc os d)∧os.length≤1000∧
 ∀r H',But9 l H H'→WAt K c H' W l g (ps++[p]) (os++[o]) gv→At K H' (thD os.length) r→Q r H'
theorem scAdd:FnScope ["world","thing"] ["world","thing"] (defScope pAdd):=⟨rfl,rfl,rfl,by decide +kernel,rfl,by decide +kernel,by decide +kernel⟩
theorem ok_Add (g:Glb9 mg) (z:CsD K c) (F:Fun K "added" "added" pAdd f fd):FnOk P w K mg base CX0 1 f fd ["world","thing"] (spAdd K c):=by
 refine F.okI scAdd (fun vs H Q E h=>?_) (fun cdv A outer s H vs Q E hr h=>?_)
 ·obtain ⟨_,_,_,_,_,_,_,_,rfl,_⟩:=h; rfl
 obtain ⟨W,l,gd,ps,os,gv,o,p,rfl,hw,hv,hp,hk,hl,q⟩:=h
 refine ⟨_,pss_cons (ps_expr (pe_bm PySem.F.plainAttrs_list PySem.F.slot_list_append PySem.F.type_list_append mt_append (L3.pe_fld (pv 0)) (pa_cons (pv 1) pa_nil)))
  (pss_one (ps_ret (pe_tup (pa_cons pe_str (pa_cons (pe_op op_sub (pe_callB call_len_seq rfl g.nLen b9Len (pa_cons (L3.pe_fld (pv 0)) pa_nil)) pe_int) pa_nil))))),?_⟩
 obtain ⟨dx,a,b,h1⟩:=hw.w
 have h2:=hw.t
 have h3:=hw.n
 refine ⟨_,rfl,W,c.W,dx,_,_,rfl,h1,z.wc,z.w3,wF_things ..,.inl ⟨rfl,_,SqL.of h2⟩,_,rfl,l,_,.ref p,rfl,rfl,h2,small1000 (by rw[List.length_map]; omega),?_⟩
 have hw':=hw.add hp hv hk
 have hb:But9 l H (upd H l (.lst (ps.map V.ref++[.ref p]))):=But9.put H _
 have h2':upd H l (.lst (ps.map V.ref++[.ref p])) l=some (.lst (ps.map V.ref++[.ref p])):=upd_same
 revert hw' hb h2'
 generalize upd H l (.lst (ps.map V.ref++[.ref p]))=H1
 intro hw' hb h2'
 obtain ⟨dx',a',b',h1'⟩:=hw'.w
 refine ⟨_,rfl,W,c.W,dx',_,_,rfl,h1',z.wc,z.w3,wF_things ..,l,_,rfl,.inl (SqL.of h2'),_,_,rfl,rfl,?_⟩
 refine ⟨by show 2≤sizeLine; decide,fun t ht=>?_⟩
 have s1:Same H1 (upd H1 t (.tup [.str "thing",.int (((ps.map V.ref++[V.ref p]).length:Nat) - 1)])):=same_new ht _
 refine q _ _ (hb.trans (Same.but l s1)) (hw'.same s1) (At.new ht (AtAll2 (At_str.mpr rfl) (At_int.mpr (congrArg V.int ?_))))
 rw[List.length_append,List.length_singleton,List.length_map,h3]
 omega
def spTh (K:PySem.W.Frag) (c:ClD):Sp:=fun vs H Q _=>∃(W l g:Addr) (ps:List Addr) (os:List Th) (gv:List (Str×Nat)) (x:V) (d:D),vs=[.ref W,x]∧WAt K c H W l g ps os gv∧At K H d x∧Vd os d∧∀v,TV K c H ps os d v→Q v H
theorem scTh:FnScope ["world","a"] ["world","a"] (defScope pTh):=⟨rfl,rfl,rfl,by decide +kernel,rfl,by decide +kernel,by decide +kernel⟩
theorem ok_Th (z:CsD K c) (F:Fun K "thing_of" "thing_of" pTh f fd):FnOk P w K mg base CX0 1 f fd ["world","a"] (spTh K c):=by
 refine F.okI scTh (fun vs H Q E h=>?_) (fun cdv A outer s H vs Q E hr h=>?_)
 ·obtain ⟨_,_,_,_,_,_,_,_,rfl,_⟩:=h; rfl
 obtain ⟨W,l,gd,ps,os,gv,x,d,rfl,hw,hx,⟨⟨k,r,rfl,hv⟩,_⟩,q⟩:=h
 refine ⟨_,pss_one (ps_ret (pe_ifExp (pt_cmpR op_eq (pe_nth (pv 1)) pe_str (nomark _)) (pe_ix (r:=rIxL K) ix_list (L3.pe_fld (pv 0)) (pe_nth (pv 1)) (fun _ _=>rfl)) pe_non)),?_⟩
 obtain ⟨dx,a,b,h1⟩:=hw.w
 refine ⟨_,rfl,0,_,_,rfl,hx,rfl,fun yk hyk=>?_⟩
 rw[At_str.mp hyk]
 refine ⟨rfl,_,rfl,?_⟩
 rw[decS]
 by_cases hk:k="thing"
 ·obtain ⟨i,rfl,hi⟩:=hv hk
  subst hk
  rw[decide_eq_true rfl]
  obtain ⟨p,ep,hp⟩:=hw.at (List.getElem?_eq_getElem hi)
  refine iteT ⟨_,rfl,W,c.W,dx,_,_,rfl,h1,z.wc,z.w3,wF_things ..,_,rfl,1,_,_,rfl,hx,rfl,fun yi hyi=>?_⟩
  rw[At_int.mp hyi]
  refine ⟨l,_,i,.ref p,rfl,rfl,SqL.of hw.t,atI_nat (by rw[List.getElem?_map,ep]; rfl),q _ (.inr ⟨i,p,_,rfl,?_,ep,List.getElem?_eq_getElem hi,rfl,hp⟩)⟩
  exact (thO_th os i).trans (List.getElem?_eq_getElem hi)
 ·rw[decide_eq_false hk]
  exact iteF (q _ (.inl ⟨thO_no os r hk,rfl⟩))
def spKn (K:PySem.W.Frag) (c:ClD):Sp:=fun vs H Q _=>∃(W l g:Addr) (ps:List Addr) (os:List Th) (gv:List (Str×Nat)) (n:Str) (i:Nat),vs=[.ref W,.str n]∧WAt K c H W l g ps os gv∧(n,i)∈gv∧∀v,At K H (thD i) v→Q v H
theorem scKn:FnScope ["world","name"] ["world","name"] (defScope pKn):=⟨rfl,rfl,rfl,by decide +kernel,rfl,by decide +kernel,by decide +kernel⟩
theorem ok_Kn (z:CsD K c) (F:Fun K "known" "known" pKn f fd):FnOk P w K mg base CX0 1 f fd ["world","name"] (spKn K c):=by
 refine F.okI scKn (fun vs H Q E h=>?_) (fun cdv A outer s H vs Q E hr h=>?_)
 ·obtain ⟨_,_,_,_,_,_,_,_,rfl,_⟩:=h; rfl
 obtain ⟨W,l,gd,ps,os,gv,n,i,rfl,hw,hn,q⟩:=h
 refine ⟨_,pss_one (ps_ret (.mk (L2.pe_dget1 (hu_of hr) (LE.out (L3.pe_fld (pv 0))) (LE.out (pv 1)) ⟨rfl,rfl,rfl,rfl⟩))),?_⟩
 obtain ⟨dx,a,b,h1⟩:=hw.w
 obtain ⟨kvs,hk,_,hv⟩:=hw.v
 obtain ⟨v,e,hA⟩:=hv n i hn
 refine ⟨_,rfl,W,c.W,dx,_,_,rfl,h1,z.wc,z.w4,wF_given ..,gd,rfl,.inl ⟨kvs,.inl hk⟩,_,rfl,_,DGet.k (k:=.inr n) hk,?_⟩
 rw[e]
 exact q v hA
def spIs (K:PySem.W.Frag) (c:ClD) (f g k o v:Bool):Sp:=fun vs H Q _=>∃(W l gd:Addr) (ps:List Addr) (os:List Th) (gv:List (Str×Nat)) (x:V) (d:D),vs=[.ref W,x]∧WAt K c H W l gd ps os gv∧At K H d x∧Vd os d∧Q (.bl (tagB f g k o v (thO os d))) H
theorem scIsC:FnScope ["world","a"] ["world","a"] (defScope pIsC):=⟨rfl,rfl,rfl,by decide +kernel,rfl,by decide +kernel,by decide +kernel⟩
theorem ok_IsC (g:Glb9 mg) (z:CsD K c) (hK:mg "Kind"=some (.ref c.Kd)) (F:Fun K "is_class" "is_class" pIsC f fd) (dT:Def P w K mg base "thing_of" ["world","a"] 1 (spTh K c)):FnOk P w K mg base CX0 2 f fd ["world","a"] (spIs K c false false true false false):=by
 refine F.okI scIsC (fun vs H Q E h=>?_) (fun cdv A outer s H vs Q E hr h=>?_)
 ·obtain ⟨_,_,_,_,_,_,_,_,rfl,_⟩:=h; rfl
 obtain ⟨W,l,gd,ps,os,gv,x,d,rfl,hw,hx,hv,q⟩:=h
 refine ⟨_,pss_one (ps_ret (pe_callB call_isO rfl g.nIsi b9Isi (pa_cons (L3.pe_def dT hr (by decide) rfl (pa_cons (pv 0) (pa_cons (pv 1) pa_nil))) (pa_cons (pe_glob (v:=.ref c.Kd) rfl hK rfl) pa_nil)))),?_⟩
 exact ⟨_,rfl,_,rfl,W,l,gd,ps,os,gv,x,d,rfl,hw,hx,hv,fun v t=>⟨_,c.Kd,_,rfl,t.is z z.tK,q⟩⟩
end
abbrev pFun:Stmt:=topd 16
abbrev pNew:Stmt:=topd 18
abbrev pIsF:Stmt:=topd 20
abbrev pObj:Stmt:=topd 21
abbrev pVw:Stmt:=topd 22
abbrev pMade:Stmt:=topd 30
abbrev pFlt:Stmt:=topd 31
theorem b9Dict:bootBuiltins "dict"=some (.type "dict"):=by decide +kernel
theorem op_inD {X:Cx} {k:Nat} (hr:Room k X.A):OpR X (compareOp .In) (rInD X false):=by
 intro pins s σ H x y v u Q I rx ry h
 obtain ⟨d,ds,hx,hy,hd,q⟩:=h
 obtain ⟨p,xs,rfl,hq,ha⟩:=At_tup.mp hy
 cases ry
 obtain ⟨its,r,pl,hz⟩:=I.tuple hq
 obtain ⟨f,f1,f2⟩:=mem_D I rx hx ha r X.A.in1 (fun e he=>by have:=hr.units; have:=hd e he; show X.A.units+1+_ < _; omega)
 refine SeqAt.in_tupleAt f pl (fun w hw=>f1 w (by simpa using hw)) ⟨.bl _,H,I,rfl,?_⟩
 rw[show its.toArray.any f=its.any f by simp,f2]
 exact q
def rDictD:List V→Hp→VK→Prop:=fun xs H Q=>∃(p:Addr) (kvs:List (Key×V)),xs=[.ref p]∧H p=some (.dK kvs)∧∀l,H l=none→Q (.ref l) (upd H l (.dK kvs))
theorem call_dictD {X:Cx}:CallR X (.type "dict") rDictD:=by
 intro pins s σ H xs us Q I r h
 obtain ⟨p,kvs,rfl,hp,q⟩:=h
 obtain ⟨u,rfl,ru⟩:=vals1 r
 cases ru
 obtain ⟨hz,hs,vs,hkv,hd⟩:=(show ObjOk X.prog X.w H s.heap p (.dK kvs) from I.hok p _ hp)
 have hl:kvs.length=vs.length:=hkv.length
 refine kt_call_dict hs hd (by omega) fun h' hd' hsb=>?_
 have keep:∀b o,s.heap.get? b=some o→h'.get? b=some o:=fun b o e=>(hsb.2 b (Nat.ne_of_lt (Heap.lt_size e))).trans (Heap.get?_push_of_some _ e)
 refine ⟨.ref s.heap.objs.size,_,I.laid (t':=s.toks) (o:=.dK kvs) keep (Nat.le_refl _) ⟨hz,?_,vs,hkv,hd'⟩,rfl,q _ (I.hok.fresh (Nat.le_refl _))⟩
 exact beq_false_of_ne (Nat.ne_of_gt I.big)
theorem new_ins {H1:Hp} {C x dx:Addr} (hx:H1 x=none) (hd:H1 dx=none) (hne:dx≠x):Same H1 (upd (upd H1 dx (.own x)) x (.ins C dx []))∧upd (upd H1 dx (.own x)) x (.ins C dx []) x=some (.ins C dx []):=by
 refine ⟨(same_new hd _).trans (same_new ?_ _),upd_same⟩
 rw[upd_ne (Ne.symm hne)]; exact hx
theorem none_of {H H':Hp} {p:Addr} (s:Same H H') (h:H' p=none):H p=none:=by
 cases e:H p with
 | none=>rfl
 | some o=>rw[s _ _ e] at h; cases h
theorem le_imp {X:Cx} {e:Expr} {t t':TE} (h:LE X e t) (hi:∀σ H Q,t' σ H Q→t σ H Q):LE X e t':=.mk fun pins s σ H Q I q=>h.out pins s σ H Q I (hi σ H Q q)
theorem eqD_th (i j:Nat):eqD (thD i) (thD j)=decide (i=j):=by
 by_cases h:i=j
 ·rw[h,eqD_refl,decide_eq_true rfl]
 ·rw[decide_eq_false h]
  unfold thD
  simp only [eqD,eqDs]
  simp
  omega
def TreeG (K:PySem.W.Frag) (mg:Str→Option Value) (x:Str) (ds:List D):Prop:=∃p vs,mg x=some (.ref p)∧∀H,SqT K H p vs∧AtAll K H ds vs
def isFC:Option Th→Bool
 | some (.kd _ ns _)=>decide (9∈ns)
 | _=>false
def isF (os:List Th):Option Th→Bool
 | some (.ob k _ _)=>isFC os[k]?
 | _=>false
section
variable {P:Program} {w:World} {K:PySem.W.Frag} {mg:Str→Option Value} {base:Heap} {f:Addr} {fd:FuncData} {c:ClD}
def spNew (K:PySem.W.Frag) (c:ClD):Sp:=fun vs H Q _=>∃(W l g:Addr) (ps:List Addr) (os:List Th) (gv:List (Str×Nat)) (nm:Str) (v2 v4:V) (d:Addr) (ns:List Nat),vs=[.ref W,.str nm,v2,.ref d,v4]∧WAt K c H W l g ps os gv∧os.length≤1000∧
 RowAt K H (ns.map thD) v2∧ns.length≤1000∧H d=some (.dK [])∧∀r H' p d',H d'=none→But9 l H H'→WAt K c H' W l g (ps++[p]) (os++[.kd nm (os.length::ns) d']) gv→At K H' (thD os.length) r→Q r H'
def tOwn (K:PySem.W.Frag):TE:=fun σ H Q=>∃(x5 x2:V) (d:D) (ds:List D),σ[5]?=some (some x5)∧σ[2]?=some (some x2)∧At K H d x5∧RowAt K H ds x2∧ds.length≤1000∧∀v H',Same H H'→At K H' (.tup (d::ds)) v→Q v H'
theorem scNew:FnScope ["world","name","behind","fields","is_given","own"] ["world","name","behind","fields","is_given"] (defScope pNew):=⟨rfl,rfl,rfl,by decide +kernel,rfl,by decide +kernel,by decide +kernel⟩
theorem ok_New (g:Glb9 mg) (z:CsD K c) (M:MkDef P w K mg base "Kind" c.Kd ["self","name","order","fields","is_given"] 1 (spKdI c.Kd)) (F:Fun K "new_class" "new_class" pNew f fd) (dA:Def P w K mg base "added" ["world","thing"] 1 (spAdd K c)):FnOk P w K mg base CX0 3 f fd ["world","name","behind","fields","is_given"] (spNew K c):=by
 refine F.okI scNew (fun vs H Q E h=>?_) (fun cdv A outer s H vs Q E hr h=>?_)
 ·obtain ⟨_,_,_,_,_,_,_,_,_,_,_,rfl,_⟩:=h; rfl
 obtain ⟨W,l,gd,ps,os,gv,nm,v2,v4,d,ns,rfl,hw,hl,hb,hn,hd,q⟩:=h
 refine ⟨_,pss_cons (ps_set (i:=5) scNew.nd rfl (Or.inl rfl) (pe_tup (pa_cons pe_str (pa_cons (pe_callB call_len_seq rfl g.nLen b9Len (pa_cons (L3.pe_fld (pv 0)) pa_nil)) pa_nil))))
  (pss_one (ps_ret (L3.pe_def dA hr (by decide) rfl (pa_cons (pv 0) (pa_cons (L3.pe_mk M hr (by decide) rfl (pa_cons (pv 1) (pa_cons (le_imp (t':=tOwn K) (pe_op op_catT (pe_tup (pa_cons (pv 5) pa_nil)) (pe_callTy call_tuple_of rfl g.nTuple b9Tuple (pa_cons (pv 2) pa_nil))) ?cat) (pa_cons (pe_callTy call_dictD rfl g.nDict b9Dict (pa_cons (pv 3) pa_nil)) (pa_cons (pv 4) pa_nil))))) pa_nil))))),?main⟩
 case cat=>
  rintro σ H Q ⟨x5,x2,d,ds,e5,e2,h5,hr2,hl,q⟩
  refine ⟨x5,e5,by show 1≤sizeLine; decide,fun p hp=>?_⟩
  have s1:Same H (upd H p (.tup [x5])):=same_new hp _
  have a1:SqT K (upd H p (.tup [x5])) p [x5]:=SqT.of upd_same
  revert s1 a1
  generalize upd H p (.tup [x5])=H1
  intro s1 a1
  obtain ⟨pb,vb,rfl,hq,hA⟩:=hr2
  have lb:=hA.len
  have fin:∀(b:Addr) (H2:Hp),Same H1 H2→SqT K H2 b vb→rCatT K (.ref p) (.ref b) H2 Q:=fun b H2 s2 hb=>by
   have s12:=s1.trans s2
   refine ⟨p,b,[x5],vb,rfl,rfl,Same.seqT s2 a1,hb,by simp,small (by rw[List.length_singleton]; omega),fun e=>?_,fun e r hr=>?_⟩
   ·subst e
    have ed:ds=[]:=List.length_eq_zero_iff.mp (by simpa using lb.symm)
    subst ed
    exact q _ _ s12 (At_tup.mpr ⟨p,_,rfl,Same.seqT s2 a1,AtAll.one1 (At.same s12 _ _ h5)⟩)
   ·have s3:Same H2 (upd H2 r (.tup ([x5]++vb))):=same_new hr _
    exact q _ _ (s12.trans s3) (At_tup.mpr ⟨r,_,rfl,SqT.of upd_same,AtAll_cons.mpr ⟨_,_,rfl,At.same (s12.trans s3) _ _ h5,AtAll.same (s12.trans s3) _ _ hA⟩⟩)
  refine ⟨_,e2,pb,vb,rfl,?_⟩
  rcases hq with hq | hq
  ·exact .inl ⟨s1.seq hq,fun b hb=>fin b _ (same_new hb _) (SqT.of upd_same)⟩
  ·exact .inr ⟨Same.seqT s1 hq,fin pb H1 (Same.refl _) (Same.seqT s1 hq)⟩
 case main=>
  obtain ⟨dx,a,b,h1⟩:=hw.w
  have h2:=hw.t
  have h3:(ps.map V.ref).length=os.length:=by rw[List.length_map]; exact hw.n
  refine ⟨_,rfl,W,c.W,dx,_,_,rfl,h1,z.wc,z.w3,wF_things ..,l,_,rfl,.inl (SqL.of h2),by show 2≤sizeLine; decide,fun p hp=>?_⟩
  have s1:Same H (upd H p (.tup [.str "thing",.int ((ps.map V.ref).length:Nat)])):=same_new hp _
  have a1:At K (upd H p (.tup [.str "thing",.int ((ps.map V.ref).length:Nat)])) (thD os.length) (.ref p):=At.new hp (AtAll2 (At_str.mpr rfl) (At_int.mpr (by rw[h3])))
  revert s1 a1
  generalize upd H p (.tup [.str "thing",.int ((ps.map V.ref).length:Nat)])=H1
  intro s1 a1
  refine ⟨_,rfl,_,rfl,_,_,thD os.length,ns.map thD,rfl,rfl,a1,hb.same s1,by rw[List.length_map]; exact hn,fun vo H2 s2 hvo=>?_⟩
  have s12:=s1.trans s2
  refine ⟨_,rfl,d,[],rfl,s12 _ _ hd,fun dn hdn=>?_⟩
  have s3:Same H2 (upd H2 dn (.dK [])):=same_new hdn _
  have n3:upd H2 dn (.dK []) dn=some (.dK []):=upd_same
  have hdn0:H dn=none:=none_of s12 hdn
  revert s3 n3
  generalize upd H2 dn (.dK [])=H3
  intro s3 n3
  have s13:=s12.trans s3
  refine ⟨_,rfl,fun x dx' hx hdx hne=>?_⟩
  obtain ⟨s4,c4⟩:=new_ins (C:=c.Kd) hx hdx hne
  revert s4 c4
  generalize upd (upd H3 dx' (.own x)) x (.ins c.Kd dx' [])=H4
  intro s4 c4
  refine ⟨x,dx',.str nm,vo,.ref dn,v4,rfl,c4,fun H5 hB hx5=>⟨rfl,?_⟩⟩
  have s5:Same H3 H5:=fun p o e=>by
   rw[hB p (fun y=>by rw[y,hx] at e; cases e)]; exact s4 _ _ e
  have s15:=s13.trans s5
  refine ⟨W,l,gd,ps,os,gv,.kd nm (os.length::ns) dn,x,rfl,hw.same s15,⟨dx',vo,v4,hx5,At.same (s3.trans s5) _ _ hvo,s5 _ _ n3⟩,(hw.same s13).fresh hx,fun d' e=>?_,hl,fun r H6 b6 w6 a6=>q r H6 x dn hdn0 ((Same.but l s15).trans b6) w6 a6⟩
  cases e
  exact ⟨fun y=>(by obtain ⟨kv,e,_⟩:=hw.v; rw[← y,hdn0] at e; cases e),hw.freshD hdn0⟩
def spFun (K:PySem.W.Frag) (c:ClD):Sp:=fun vs H Q _=>∃(W l g:Addr) (ps:List Addr) (os:List Th) (gv:List (Str×Nat)) (v1 v2 v3 v4 v5 v6:V),vs=[.ref W,v1,v2,v3,v4,v5,v6]∧WAt K c H W l g ps os gv∧os.length≤1000∧
 ∀r H' p,But9 l H H'→WAt K c H' W l g (ps++[p]) (os++[.fn]) gv→At K H' (thD os.length) r→Q r H'
theorem scFun:FnScope ["world","name","params","defaults","code","around","gives"] ["world","name","params","defaults","code","around","gives"] (defScope pFun):=⟨rfl,rfl,rfl,by decide +kernel,rfl,by decide +kernel,by decide +kernel⟩
theorem ok_Fun (M:MkDef P w K mg base "Function" c.F ["self","name","params","defaults","code","around","gives"] 1 (spFnI c.F)) (F:Fun K "function" "function" pFun f fd) (dA:Def P w K mg base "added" ["world","thing"] 1 (spAdd K c)):FnOk P w K mg base CX0 3 f fd ["world","name","params","defaults","code","around","gives"] (spFun K c):=by
 refine F.okI scFun (fun vs H Q E h=>?_) (fun cdv A outer s H vs Q E hr h=>?_)
 ·obtain ⟨_,_,_,_,_,_,_,_,_,_,_,_,rfl,_⟩:=h; rfl
 obtain ⟨W,l,gd,ps,os,gv,v1,v2,v3,v4,v5,v6,rfl,hw,hl,q⟩:=h
 refine ⟨_,pss_one (ps_ret (L3.pe_def dA hr (by decide) rfl (pa_cons (pv 0) (pa_cons (L3.pe_mk M hr (by decide) rfl (pa_cons (pv 1) (pa_cons (pv 2) (pa_cons (pv 3) (pa_cons (pv 4) (pa_cons (pv 5) (pa_cons (pv 6) pa_nil))))))) pa_nil)))),?_⟩
 refine ⟨_,rfl,_,rfl,_,rfl,_,rfl,_,rfl,_,rfl,_,rfl,fun x dx hx hdx hne=>?_⟩
 obtain ⟨s1,c1⟩:=new_ins (C:=c.F) hx hdx hne
 revert s1 c1
 generalize upd (upd H dx (.own x)) x (.ins c.F dx [])=H1
 intro s1 c1
 refine ⟨x,dx,v1,v2,v3,v4,v5,v6,rfl,c1,fun H2 hB hx2=>⟨rfl,?_⟩⟩
 have s2:Same H H2:=fun p o e=>by
  rw[hB p (fun y=>by rw[y,hx] at e; cases e)]; exact s1 _ _ e
 exact ⟨W,l,gd,ps,os,gv,.fn,x,rfl,hw.same s2,⟨dx,_,hx2⟩,hw.fresh hx,fun k e=>(nomatch e),hl,fun r H3 b3 w3 a3=>q r H3 x ((Same.but l s2).trans b3) w3 a3⟩
def spVw (K:PySem.W.Frag) (c:ClD):Sp:=fun vs H Q _=>∃(W l g:Addr) (ps:List Addr) (os:List Th) (gv:List (Str×Nat)) (v1 v2:V),vs=[.ref W,v1,v2]∧WAt K c H W l g ps os gv∧os.length≤1000∧
 ∀r H' p,But9 l H H'→WAt K c H' W l g (ps++[p]) (os++[.vw]) gv→At K H' (thD os.length) r→Q r H'
theorem scVw:FnScope ["world","kind","owner"] ["world","kind","owner"] (defScope pVw):=⟨rfl,rfl,rfl,by decide +kernel,rfl,by decide +kernel,by decide +kernel⟩
theorem ok_Vw (M:MkDef P w K mg base "View" c.Vw ["self","kind","owner"] 1 (spVwI c.Vw)) (F:Fun K "new_view" "new_view" pVw f fd) (dA:Def P w K mg base "added" ["world","thing"] 1 (spAdd K c)):FnOk P w K mg base CX0 3 f fd ["world","kind","owner"] (spVw K c):=by
 refine F.okI scVw (fun vs H Q E h=>?_) (fun cdv A outer s H vs Q E hr h=>?_)
 ·obtain ⟨_,_,_,_,_,_,_,_,rfl,_⟩:=h; rfl
 obtain ⟨W,l,gd,ps,os,gv,v1,v2,rfl,hw,hl,q⟩:=h
 refine ⟨_,pss_one (ps_ret (L3.pe_def dA hr (by decide) rfl (pa_cons (pv 0) (pa_cons (L3.pe_mk M hr (by decide) rfl (pa_cons (pv 1) (pa_cons (pv 2) pa_nil))) pa_nil)))),?_⟩
 refine ⟨_,rfl,_,rfl,_,rfl,fun x dx hx hdx hne=>?_⟩
 obtain ⟨s1,c1⟩:=new_ins (C:=c.Vw) hx hdx hne
 revert s1 c1
 generalize upd (upd H dx (.own x)) x (.ins c.Vw dx [])=H1
 intro s1 c1
 refine ⟨x,dx,v1,v2,rfl,c1,fun H2 hB hx2=>⟨rfl,?_⟩⟩
 have s2:Same H H2:=fun p o e=>by
  rw[hB p (fun y=>by rw[y,hx] at e; cases e)]; exact s1 _ _ e
 exact ⟨W,l,gd,ps,os,gv,.vw,x,rfl,hw.same s2,⟨dx,_,hx2⟩,hw.fresh hx,fun k e=>(nomatch e),hl,fun r H3 b3 w3 a3=>q r H3 x ((Same.but l s2).trans b3) w3 a3⟩
def spFC (K:PySem.W.Frag) (c:ClD):Sp:=fun vs H Q _=>∃(W l gd:Addr) (ps:List Addr) (os:List Th) (gv:List (Str×Nat)) (x:V) (d:D),vs=[.ref W,x]∧WAt K c H W l gd ps os gv∧At K H d x∧Vd os d∧((("Fault":Str),9):Str×Nat)∈gv∧Q (.bl (isFC (thO os d))) H
theorem scFC:FnScope ["world","a"] ["world","a"] (defScope pIsF):=⟨rfl,rfl,rfl,by decide +kernel,rfl,by decide +kernel,by decide +kernel⟩
theorem th_any (n:Nat):∀ns:List Nat,((ns.map thD).any fun e=>eqD e (thD n))=decide (n∈ns)
 | []=>by simp
 | m::ns=>by
  rw[List.map_cons,List.any_cons,th_any n ns,eqD_th,Bool.eq_iff_iff]
  simp only [Bool.or_eq_true,decide_eq_true_eq,List.mem_cons]
  exact ⟨fun h=>h.imp Eq.symm id,fun h=>h.imp Eq.symm id⟩
theorem ok_FC (z:CsD K c) (F:Fun K "is_fault_class" "is_fault_class" pIsF f fd) (dC:Def P w K mg base "is_class" ["world","a"] 2 (spIs K c false false true false false)) (dK:Def P w K mg base "known" ["world","name"] 1 (spKn K c)) (dT:Def P w K mg base "thing_of" ["world","a"] 1 (spTh K c)):FnOk P w K mg base CX0 3 f fd ["world","a"] (spFC K c):=by
 refine F.okI scFC (fun vs H Q E h=>?_) (fun cdv A outer s H vs Q E hr h=>?_)
 ·obtain ⟨_,_,_,_,_,_,_,_,rfl,_⟩:=h; rfl
 obtain ⟨W,l,gd,ps,os,gv,x,d,rfl,hw,hx,hv,hg,q⟩:=h
 refine ⟨_,pss_one (ps_ret (pe_and (L3.pe_def dC hr (by decide) rfl (pa_cons (pv 0) (pa_cons (pv 1) pa_nil))) (pe_one (pe_cmpR (op_inD hr) (L3.pe_def dK hr (by decide) rfl (pa_cons (pv 0) (pa_cons pe_str pa_nil))) (L3.pe_fld (L3.pe_def dT hr (by decide) rfl (pa_cons (pv 0) (pa_cons (pv 1) pa_nil)))) rfl)))),?_⟩
 refine ⟨_,rfl,_,rfl,W,l,gd,ps,os,gv,x,d,rfl,hw,hx,hv,_,rfl,?_⟩
 have nk:tagB false false true false false (thO os d)=false→isFC (thO os d)=false:=fun e=>by
  cases ho:thO os d with
  | none=>rfl
  | some o=>rw[ho] at e; cases o <;> first | rfl | cases e
 refine ite_b9 (fun e=>?_) (fun e=>by rw[nk e] at q; exact q)
 refine ⟨_,rfl,W,l,gd,ps,os,gv,"Fault",9,rfl,hw,hg,fun vf hvf=>?_⟩
 refine ⟨_,rfl,_,rfl,W,l,gd,ps,os,gv,x,d,rfl,hw,hx,hv,fun v t=>?_⟩
 rcases t with ⟨h0,_⟩ | ⟨i,p,o,h1,h2,h3,h4,rfl,h6⟩
 ·rw[h0] at e; cases e
 rw[h2] at e q
 cases o with
 | kd nm ns dd=>
  obtain ⟨dx,vo,v4,hp,ha,_⟩:=h6
  refine ⟨p,c.Kd,dx,_,_,rfl,hp,z.kc,z.k2,kdF_order ..,thD 9,ns.map thD,hvf,ha,fun e he=>?_,?_⟩
  ·obtain ⟨n,_,rfl⟩:=List.mem_map.mp he
   rw[dep_th]; decide
  ·rw[if_neg Bool.false_ne_true,th_any]
   exact q
 | gvn n=>cases e
 | fn=>cases e
 | vw=>cases e
 | ob n dd fs=>cases e
def spFlt (K:PySem.W.Frag) (c:ClD):Sp:=fun vs H Q _=>∃(W l gd:Addr) (ps:List Addr) (os:List Th) (gv:List (Str×Nat)) (x:V) (d:D),vs=[.ref W,x]∧WAt K c H W l gd ps os gv∧At K H d x∧Vd os d∧WfO os∧((("Fault":Str),9):Str×Nat)∈gv∧Q (.bl (isF os (thO os d))) H
theorem scFlt:FnScope ["world","a","thing"] ["world","a"] (defScope pFlt):=⟨rfl,rfl,rfl,by decide +kernel,rfl,by decide +kernel,by decide +kernel⟩
theorem ok_Flt (g:Glb9 mg) (z:CsD K c) (hO:mg "Object"=some (.ref c.O)) (F:Fun K "is_fault" "is_fault" pFlt f fd) (dFC:Def P w K mg base "is_fault_class" ["world","a"] 3 (spFC K c)) (dT:Def P w K mg base "thing_of" ["world","a"] 1 (spTh K c)):FnOk P w K mg base CX0 4 f fd ["world","a"] (spFlt K c):=by
 refine F.okI scFlt (fun vs H Q E h=>?_) (fun cdv A outer s H vs Q E hr h=>?_)
 ·obtain ⟨_,_,_,_,_,_,_,_,rfl,_⟩:=h; rfl
 obtain ⟨W,l,gd,ps,os,gv,x,d,rfl,hw,hx,hv,hf,hg,q⟩:=h
 refine ⟨_,pss_cons (ps_set (i:=2) scFlt.nd rfl (Or.inl rfl) (L3.pe_def dT hr (by decide) rfl (pa_cons (pv 0) (pa_cons (pv 1) pa_nil))))
  (pss_one (ps_ret (pe_and (pe_callB call_isO rfl g.nIsi b9Isi (pa_cons (pv 2) (pa_cons (pe_glob (v:=.ref c.O) rfl hO rfl) pa_nil))) (pe_one (L3.pe_def dFC hr (by decide) rfl (pa_cons (pv 0) (pa_cons (L3.pe_fld (pv 2)) pa_nil))))))),?_⟩
 refine ⟨_,rfl,_,rfl,W,l,gd,ps,os,gv,x,d,rfl,hw,hx,hv,fun v t=>?_⟩
 refine ⟨_,rfl,v,c.O,_,rfl,t.is z z.tO,_,rfl,?_⟩
 have nk:tagB false false false true false (thO os d)=false→isF os (thO os d)=false:=fun e=>by
  cases ho:thO os d with
  | none=>rfl
  | some o=>rw[ho] at e; cases o <;> first | rfl | cases e
 refine ite_b9 (fun e=>?_) (fun e=>by rw[nk e] at q; exact q)
 rcases t with ⟨h0,_⟩ | ⟨i,p,o,h1,h2,h3,h4,rfl,h6⟩
 ·rw[h0] at e; cases e
 rw[h2] at e q
 cases o with
 | ob k dd fs=>
  obtain ⟨dx,v1,hp,ha,_⟩:=h6
  obtain ⟨_,_,_,hk'⟩:=hf.o i k dd fs h4
  refine ⟨_,rfl,_,rfl,p,c.O,dx,_,_,rfl,hp,z.oc,z.o1,obF_kind ..,W,l,gd,ps,os,gv,v1,thD k,rfl,hw,ha,Vd.th (lt_of_some hk'),hg,?_⟩
  rw[thO_th]
  exact q
 | gvn n=>cases e
 | fn=>cases e
 | vw=>cases e
 | kd n ns dd=>cases e
def fs0 (b:Bool):Option (D×D×D):=if b then some (noD,noD,noD) else none
def fldN:List Str:=["word","cause","context"]
def spObj (K:PySem.W.Frag) (c:ClD):Sp:=fun vs H Q _=>∃(W l gd:Addr) (ps:List Addr) (os:List Th) (gv:List (Str×Nat)) (x:V) (k:Nat),vs=[.ref W,x]∧WAt K c H W l gd ps os gv∧At K H (thD k) x∧k < os.length∧((("Fault":Str),9):Str×Nat)∈gv∧os.length≤1000∧
 ∀r H' p d,H d=none→But9 l H H'→WAt K c H' W l gd (ps++[p]) (os++[.ob k d (fs0 (isFC os[k]?))]) gv→At K H' (thD os.length) r→Q r H'
def sNm (K:PySem.W.Frag) (c:ClD):TS:=fun D0 σ H=>∃(W l gd:Addr) (ps:List Addr) (os:List Th) (gv:List (Str×Nat)) (x:V) (k:Nat),σ=[some (.ref W),some x,none]∧WAt K c H W l gd ps os gv∧At K H (thD k) x∧k < os.length∧((("Fault":Str),9):Str×Nat)∈gv∧
 ∀H1 pF vF,Same H H1→SqT K H1 pF vF→AtAll K H1 ((if isFC os[k]? then fldN else []).map D.str) vF→D0.nx [some (.ref W),some x,some (.ref pF)] H1
theorem scObj:FnScope ["world","kind","names"] ["world","kind"] (defScope pObj):=⟨rfl,rfl,rfl,by decide +kernel,rfl,by decide +kernel,by decide +kernel⟩
theorem ok_Obj (g:Glb9 mg) (z:CsD K c) (tN:TreeG K mg "NONE" [.str "none"]) (tF:TreeG K mg "FAULT_FIELDS" (fldN.map D.str)) (M:MkDef P w K mg base "Object" c.O ["self","kind","fields"] 1 (spObI c.O)) (F:Fun K "new_object" "new_object" pObj f fd) (dFC:Def P w K mg base "is_fault_class" ["world","a"] 3 (spFC K c)) (dA:Def P w K mg base "added" ["world","thing"] 1 (spAdd K c)):FnOk P w K mg base CX0 4 f fd ["world","kind"] (spObj K c):=by
 refine F.okI scObj (fun vs H Q E h=>?_) (fun cdv A outer s H vs Q E hr h=>?_)
 ·obtain ⟨_,_,_,_,_,_,_,_,rfl,_⟩:=h; rfl
 obtain ⟨W,l,gd,ps,os,gv,x,k,rfl,hw,hx,hk,hg,hl,q⟩:=h
 obtain ⟨pN,vN,mN,aN⟩:=tN
 obtain ⟨pF,vF,mF,aF⟩:=tF
 refine ⟨_,pss_cons (ps_imp (t':=sNm K c) (ps_set (i:=2) scObj.nd rfl (Or.inl rfl) (pe_ifExp (pt_val (L3.pe_def dFC hr (by decide) rfl (pa_cons (pv 0) (pa_cons (pv 1) pa_nil)))) (pe_glob (v:=.ref pF) rfl mF rfl) (pe_tup pa_nil))) ?nm)
  (pss_one (ps_ret (L3.pe_def dA hr (by decide) rfl (pa_cons (pv 0) (pa_cons (L3.pe_mk M hr (by decide) rfl (pa_cons (pv 1) (pa_cons (pe_callTy (call_dictP rfl) rfl g.nDict b9Dict (pa_cons (.mk (L2.pe_compG (cl:=[]) (Xs:=["name"]) (Nf:=[]) (js:=[]) ?k rfl (LI.out (pi_tup (pv 2))) (fun C s0 H0 fp=>LG.out (pg_name (i:=0) (show (["name"]:List Str).Nodup by decide +kernel) rfl (Or.inl rfl))) (fun C s0 H0 fp=>pts_nil) (fun C s0 H0 fp=>LE.out (pe_tup (pa_cons (pv 0) (pa_cons (pe_glob (v:=.ref pN) rfl mN rfl) pa_nil)))))) pa_nil)) pa_nil))) pa_nil))))),?main⟩
 case k=>
  refine ⟨rfl,by decide +kernel,rfl,by decide +kernel,fun y c h=>(by cases h),fun y hy=>?_,rfl,fun j y h=>(by simp at h)⟩
  have hy':([(".0",.local),("name",.local),("NONE",.globalImplicit)]:List (Str×NameKind)).lookup y=some .cell∨([(".0",.local),("name",.local),("NONE",.globalImplicit)]:List (Str×NameKind)).lookup y=some .free:=hy
  rcases hy' with z | z <;> (have m:=PySem.mem_of_lookup z; simp at m)
 case nm=>
  rintro D0 σ H ⟨W,l,gd,ps,os,gv,x,k,rfl,hw,hx,hk,hg,q⟩
  refine ⟨_,rfl,_,rfl,W,l,gd,ps,os,gv,x,thD k,rfl,hw,hx,Vd.th hk,hg,_,rfl,?_⟩
  rw[thO_th]
  cases hb:isFC os[k]? with
  | true=>
   rw[hb] at q
   exact iteT (q H pF vF (Same.refl _) (aF H).1 (aF H).2)
  | false=>
   rw[hb] at q
   exact iteF ⟨Nat.zero_le _,fun p hp=>q _ p [] (same_new hp _) (SqT.of upd_same) (AtAll_nil.mpr rfl)⟩
 case main=>
  refine ⟨W,l,gd,ps,os,gv,x,k,rfl,hw,hx,hk,hg,fun H1 pF vF s1 sqF aF=>?_⟩
  generalize eN:(if isFC os[k]?=true then fldN else [])=nms at aF
  have lf:=aF.len
  rw[List.length_map] at lf
  have ln:nms.length≤3:=by rw[← eN]; split <;> decide
  refine ⟨_,rfl,_,rfl,_,rfl,pF,rfl,⟨vF,sqF⟩,[],⟨rfl,fun j i h=>(by simp at h)⟩,compG_one (vs:=[]) (tc:=tTrue) vF.length (fun i=>vF.getD i .non) (fun _=>true) (fun i v H'=>∃(tp:Addr) (u:V),v=.ref tp∧H' tp=some (.tup [.str (nms.getD i ""),u])∧At K H' noD u) (fun i v H' H'' s z=>by obtain ⟨tp,u,e,h1,h2⟩:=z; exact ⟨tp,u,e,s _ _ h1,At.same s _ _ h2⟩) (by omega) (itt_stop sqF) (itt_go sqF) (itt_yld sqF) (fun i H4 Q' hi s4 k=>k H4 (Same.refl _)) (fun i H4 D l' Q' hi _ s4 hD hl4 k=>?_) fun gl H5 ys hgl s5 h5 hP=>?_⟩
  ·have hi':i < nms.length:=by omega
   obtain ⟨v',hv',hAi⟩:=AtAll.get (i:=i) aF (d:=.str (nms.getD i "")) (by
    rw[List.getElem?_map,List.getD_eq_getElem?_getD,List.getElem?_eq_getElem hi']; rfl)
   have ev:vF.getD i .non=.str (nms.getD i ""):=by rw[List.getD_eq_getElem?_getD,hv']; exact At_str.mp hAi
   rw[ev]
   refine ⟨_,rfl,by show 2≤sizeLine; decide,fun tp htp=>k _ _ (same_new htp _) ⟨tp,.ref pN,rfl,?_,?_⟩⟩
   ·rw[wo_at (fun z=>by rw[z,hl4] at htp; cases htp)]; exact upd_same
   ·exact At_tup.mpr ⟨pN,vN,rfl,(aN _).1,(aN _).2⟩
  rw[List.filter_eq_self.mpr (fun _ _=>rfl)] at hP
  have hP6:Pairs (fun i v=>∃(tp:Addr) (u:V),v=.ref tp∧H5 tp=some (.tup [.str (nms.getD i ""),u])∧At K H5 noD u) (List.range nms.length) ys:=by
   rw[← lf]
   refine hP.mono fun i v z=>?_
   obtain ⟨tp,u,e,h1,h2⟩:=z
   exact ⟨tp,u,e,wo_same H5 gl _ _ h1,At.same (wo_same H5 gl) _ _ h2⟩
  have dic:∃(qs:List Addr) (kvs:List (Key×V)),ys=qs.map V.ref∧qs.length=kvs.length∧kvs.length≤3∧(∀(j:Nat) (a:Addr) (kv:Key×V),qs[j]?=some a→kvs[j]?=some kv→H5 a=some (.tup [kV kv.1,kv.2]))∧∀(d:Addr) (H':Hp),Same H5 H'→H' d=some (.dK (mergeK [] kvs))→FsAt K H' d (fs0 (isFC os[k]?)):=by
   cases hb:isFC os[k]? with
   | true=>
    rw[hb,if_pos rfl] at eN
    subst eN
    have hP7:Pairs (fun i v=>∃(tp:Addr) (u:V),v=.ref tp∧H5 tp=some (.tup [.str (fldN.getD i ""),u])∧At K H5 noD u) [0,1,2] ys:=hP6
    cases hP7 with | cons h0 h1=>
    cases h1 with | cons h1 h2=>
    cases h2 with | cons h2 h3=>
    cases h3
    obtain ⟨t0,u0,rfl,a0,b0⟩:=h0
    obtain ⟨t1,u1,rfl,a1,b1⟩:=h1
    obtain ⟨t2,u2,rfl,a2,b2⟩:=h2
    refine ⟨[t0,t1,t2],fK u0 u1 u2,rfl,rfl,Nat.le_refl 3,fun j a kv e1 e2=>?_,fun d H' s' e=>⟨u0,u1,u2,?_,At.same s' _ _ b0,At.same s' _ _ b1,At.same s' _ _ b2⟩⟩
    ·match j,e1,e2 with
     | 0,e1,e2=>cases e1; cases e2; exact a0
     | 1,e1,e2=>cases e1; cases e2; exact a1
     | 2,e1,e2=>cases e1; cases e2; exact a2
     | j+3,e1,e2=>cases e1
    ·rw[e]
     have:mergeK [] (fK u0 u1 u2)=fK u0 u1 u2:=by
      show putK (putK (putK [] (.inr "word":Key) u0) (.inr "cause":Key) u1) (.inr "context":Key) u2=_
      rfl
     rw[this]
   | false=>
    rw[hb,if_neg Bool.false_ne_true] at eN
    subst eN
    have hP7:Pairs (fun i v=>∃(tp:Addr) (u:V),v=.ref tp∧H5 tp=some (.tup [.str (([]:List Str).getD i ""),u])∧At K H5 noD u) [] ys:=hP6
    cases hP7
    exact ⟨[],[],rfl,rfl,Nat.zero_le _,fun j a kv e1=>(by simp at e1),fun d H' s' e=>e⟩
  obtain ⟨qs,kvs,rfl,lp1,lp2,hp1,hfs⟩:=dic
  refine ⟨gl,qs,kvs,rfl,SqL.of h5,lp1,fun i x kv e1 e2=>.inl (.inl (hp1 i x kv e1 e2)),small (by omega),fun td htd=>?_⟩
  have s7:Same H5 (upd H5 td (.dK (mergeK [] kvs))):=same_new htd _
  have f7:=hfs td _ s7 upd_same
  have d7:∃kv,upd H5 td (.dK (mergeK [] kvs)) td=some (.dK kv):=⟨_,upd_same⟩
  have htd0:H td=none:=none_of (s1.trans s5) htd
  revert s7 f7 d7
  generalize upd H5 td (.dK (mergeK [] kvs))=H7
  intro s7 f7 d7
  have s17:=(s1.trans s5).trans s7
  intro x1 dx hx1 hdx hne
  obtain ⟨s8,c8⟩:=new_ins (C:=c.O) hx1 hdx hne
  revert s8 c8
  generalize upd (upd H7 dx (.own x1)) x1 (.ins c.O dx [])=H8
  intro s8 c8
  refine ⟨x1,dx,x,.ref td,rfl,c8,fun H9 hB hx9=>⟨rfl,?_⟩⟩
  have s9:Same H7 H9:=fun p o e=>by
   rw[hB p (fun y=>by rw[y,hx1] at e; cases e)]; exact s8 _ _ e
  have s19:=s17.trans s9
  obtain ⟨kv7,d7⟩:=d7
  refine ⟨W,l,gd,ps,os,gv,.ob k td (fs0 (isFC os[k]?)),x1,rfl,hw.same s19,⟨dx,x,hx9,At.same s19 _ _ hx,f7.keep (by rw[s9 _ _ d7,d7]) (Same.fx s9)⟩,(hw.same s17).fresh hx1,fun d' e=>?_,hl,fun r H3 b3 w3 a3=>q r H3 x1 td htd0 ((Same.but l s19).trans b3) w3 a3⟩
  cases e
  exact ⟨fun y=>(by obtain ⟨kv,e,_⟩:=hw.v; rw[← y,htd0] at e; cases e),hw.freshD htd0⟩
structure FunV (K:PySem.W.Frag) (x qual:Str) (st:Stmt) (f:Addr) (fd:FuncData) (dV:Value):Prop where
 ex:∃(oc:Value) (od:Option Addr) (kV doc pm:Value) (an:Option Addr) (cdv ct:Value) (osl:Array (Option Value)),
  fd=PySem.W.fnOf x qual (defArgs st) (defBody st) (defScope st) dV kV doc pm an cdv ct∧K.lookup f=some ⟨oc,od,.func fd,osl⟩∧PySem.W.codeIn K cdv qual=true
 kp:PySem.W.keepIn K (.ref f)=true
theorem FunV.okI {x qual:Str} {st:Stmt} {dV:Value} {N ps:List Str} {k:Nat} {sp:Sp} (F:FunV K x qual st f fd dV) (S:FnScope N ps (defScope st)) (len:∀vs H Q E,sp vs H Q E→vs.length=ps.length)
  (hbody:∀(cdv:Value) (A:Around) (outer:List Env) (s:Shared) (H:Hp) (vs:List V) (Q:VK) (E:XK),Room k (A.deeper (envOfC qual (defScope st) s.heap.objs.size f cdv))→sp vs H Q E→
   ∃t,LSs (cxOf CX0 P w K mg base N qual (defScope st) f cdv A outer s H E).nox (defBody st) t∧t { nx:=fun _ H'=>Q .non H',rt:=Q } (start N vs) H):FnOk P w K mg base CX0 (k+1) f fd ps sp:=by
 obtain ⟨oc,od,kV,doc,pm,an,cdv,ct,osl,rfl,lk,hcd⟩:=F.ex
 refine fn_of lk hcd S len fun A outer s H vs Q E hr hsp=>?_
 obtain ⟨t,h,q⟩:=hbody cdv A outer s H vs Q E hr hsp
 exact ⟨t,h.out.nox,q⟩
def wrd (x:Option D):D:=x.getD noD
theorem fK_put (a b e v:V):putK (fK a b e) (.inr "word") v=fK v b e∧putK (fK a b e) (.inr "cause") v=fK a v e∧putK (fK a b e) (.inr "context") v=fK a b v:=⟨rfl,rfl,rfl⟩
def spMade (K:PySem.W.Frag) (c:ClD):Sp:=fun vs H Q _=>∃(W l gd:Addr) (ps:List Addr) (os:List Th) (gv:List (Str×Nat)) (n:Str) (k:Nat) (y:V) (wd:Option D),vs=[.ref W,.str n,y]∧WAt K c H W l gd ps os gv∧((wd=none∧y=.non)∨∃d,wd=some d∧y≠.non∧At K H d y)∧(n,k)∈gv∧isFC os[k]?=true∧((("Fault":Str),9):Str×Nat)∈gv∧os.length≤1000∧
 ∀r H' p d,H d=none→But9 l H H'→WAt K c H' W l gd (ps++[p]) (os++[.ob k d (some (wrd wd,noD,noD))]) gv→At K H' (thD os.length) r→Q r H'
theorem scMade:FnScope ["world","name","word","fault","fields"] ["world","name","word"] (defScope pMade):=⟨rfl,rfl,rfl,by decide +kernel,rfl,by decide +kernel,by decide +kernel⟩
theorem set_last {α:Type} {xs:List α} {x y:α}:(xs++[x]).set xs.length y=xs++[y]:=by
 rw[List.set_append_right _ _ (Nat.le_refl _),Nat.sub_self]; rfl
theorem ok_Made {dV:Value} (z:CsD K c) (F:FunV K "made" "made" pMade f fd dV) (dO:Def P w K mg base "new_object" ["world","kind"] 4 (spObj K c)) (dK:Def P w K mg base "known" ["world","name"] 1 (spKn K c)) (dT:Def P w K mg base "thing_of" ["world","a"] 1 (spTh K c)):FnOk P w K mg base CX0 5 f fd ["world","name","word"] (spMade K c):=by
 refine F.okI scMade (fun vs H Q E h=>?_) (fun cdv A outer s H vs Q E hr h=>?_)
 ·obtain ⟨_,_,_,_,_,_,_,_,_,_,rfl,_⟩:=h; rfl
 obtain ⟨W,l,gd,ps,os,gv,n,k,y,wd,rfl,hw,hy,hn,hk,hg,hl,q⟩:=h
 refine ⟨_,pss_cons (ps_set (i:=3) scMade.nd rfl (Or.inl rfl) (L3.pe_def dO hr (by decide) rfl (pa_cons (pv 0) (pa_cons (L3.pe_def dK hr (by decide) rfl (pa_cons (pv 0) (pa_cons (pv 1) pa_nil))) pa_nil))))
  (pss_cons (ps_if (pt_cmpR op_notN (pv 2) pe_non (nomark _)) (pss_cons (ps_set (i:=4) scMade.nd rfl (Or.inl rfl) (L3.pe_fld (L3.pe_def dT hr (by decide) rfl (pa_cons (pv 0) (pa_cons (pv 3) pa_nil))))) (pss_one (.mk (L2.ps_dput (hu_of hr) (LE.out (pv 4)) (LE.out pe_str) (LE.out (pv 2)) rfl)))) pss_nil)
  (pss_one (ps_ret (pv 3)))),?_⟩
 have hk2:k < os.length:=by
  cases e:os[k]? with
  | none=>rw[e] at hk; cases hk
  | some o=>exact lt_of_some e
 refine ⟨_,rfl,_,rfl,_,rfl,W,l,gd,ps,os,gv,n,k,rfl,hw,hn,fun v hv=>⟨W,l,gd,ps,os,gv,v,k,rfl,hw,hv,hk2,hg,hl,fun r H' p d hd b w' a=>?_⟩⟩
 rw[hk] at w'
 rcases hy with ⟨rfl,rfl⟩ | ⟨dw,rfl,ny,hA⟩
 ·exact ⟨_,rfl,rfl,_,rfl,iteF ⟨_,rfl,q r H' p d hd b w' a⟩⟩
 ·refine ⟨_,rfl,rfl,_,rfl,?_⟩
  rw[decide_eq_false ny]
  refine iteT ⟨_,rfl,_,rfl,W,l,gd,_,_,gv,r,thD os.length,rfl,w',a,Vd.th (by rw[List.length_append]; exact Nat.lt_succ_self _),fun v t=>?_⟩
  obtain ⟨p',ep,rfl,dx,v1,hp,hv1,ua,ub,ue,hdd,h1,h2,h3⟩:=t.th snoc_last
  have f1:Fx H' (upd H' d (.dK (putK (fK ua ub ue) (.inr "word") y))):=Fx.put hdd rfl
  have fxH:Fx H H':=b.fx hw.t rfl
  have w2:=w'.put (fs':=some (dw,noD,noD)) snoc_last (o:=.dK (putK (fK ua ub ue) (.inr "word") y)) (by
   rw[(fK_put ua ub ue y).1] at f1 ⊢
   exact ⟨y,ub,ue,upd_same,At.fx (fxH.trans f1) _ _ hA,At.fx f1 _ _ h2,At.fx f1 _ _ h3⟩)
  rw[set_last] at w2
  refine ⟨p',c.O,dx,_,_,rfl,hp,z.oc,z.o2,obF_fields ..,_,rfl,_,rfl,d,_,rfl,DPut.k (k:=.inr "word") hdd (small1000 (by show 3≤1000; decide)),_,rfl,?_⟩
  exact q _ _ p d hd (b.new hd (But9.put _ _)) w2 (At.fx f1 _ _ a)
end
structure DefN (P:Program) (w:World) (K:PySem.W.Frag) (mg:Str→Option Value) (base:Heap) (name:Str) (ps:List Str) (k:Nat) (sp:Sp):Prop where
 ex:∃(f:Addr) (fd:FuncData),mg name=some (.ref f)∧PySem.W.keepIn K (.ref f)=true∧Binds K fd ps [.none]∧FnOk P w K mg base CX0 k f fd ps sp
theorem pe_defN {X:Cx} {name:Str} {ps:List Str} {k k':Nat} {sp:Sp} {e:Expr} {es:List Expr} {t:TA} {p pos:Pos} (F:DefN X.prog X.w X.K X.mg X.base name ps k sp) (hr:Room k' X.A) (hk:k≤k') (hg:Gl X name) (ha:LA X (e::es) t)
  (hdb:(name == ("__debug__":Str))=false:=by decide) (he:starEach (e::es) X.env=(false,eval e X.env)::starEach es X.env:=by rfl) (hpl:(backTo pos (starEach es X.env)).any (·.1)=false:=by rfl):
  LE X (.Call (.Name name p) (e::es) [] pos) (tCall sp [.non] E0 t):=by
 obtain ⟨f,fd,h1,h2,h3,h4⟩:=F.ex
 exact .mk (pe_call (h4.mono hk) hr hg h1 h2 h3 (.cons rfl .nil) pass0 ha.out hdb he hpl)
abbrev pWI:Stmt:=inCls 0 (topd 12)
def gfN:List Str:=["say","take","isa","elder","count","go","throw","shut"]
def gcN:List (Str×List Str):=[("Thing",[]),("Fault",["Thing"]),("NameFault",["Fault","Thing"]),("KindFault",["Fault","Thing"]),("NoughtFault",["Fault","Thing"]),("GreatFault",["Fault","Thing"]),("FieldFault",["Fault","Thing"]),("OrderFault",["Fault","Thing"]),("EndFault",["Fault","Thing"]),("ShutFault",["Fault","Thing"]),("DeepFault",["Fault","Thing"]),("UnboundFault",["NameFault","Fault","Thing"])]
def gfD:List D:=gfN.map D.str
def gcD:List D:=gcN.map fun x=>.tup [.str x.1,.tup (x.2.map D.str)]
def allN:List Str:=gfN++gcN.map (·.1)
def ixN9 (x:Str):Nat:=allN.findIdx (· == x)
def gv0:List (Str×Nat):=allN.zipIdx
def os0 (ds:List Addr):List Th:=gfN.map Th.gvn++(gcN.zip ds).map fun x=>.kd x.1.1 ((x.1.1::x.1.2).map ixN9) x.2
theorem allN_nd:allN.Nodup:=by decide +kernel
theorem gc_ok:∀j,j < 12→∀e∈(gcN.getD j ("",[])).2,(e,ixN9 e)∈gv0.take (8+j):=by decide +kernel
theorem gc_ix:∀j,j < 12→ixN9 (gcN.getD j ("",[])).1=8+j:=by decide +kernel
theorem gcN_at (j:Nat) (h:j < 12):gcN[j]?=some (gcN.getD j ("",[])):=by rw[List.getD_eq_getElem?_getD,List.getElem?_eq_getElem (show j < gcN.length from h)]; rfl
theorem gfN_at (j:Nat) (h:j < 8):gfN[j]?=some (gfN.getD j ""):=by rw[List.getD_eq_getElem?_getD,List.getElem?_eq_getElem (show j < gfN.length from h)]; rfl
theorem os0_len {ds:List Addr} (h:ds.length≤12):(os0 ds).length=8+ds.length:=by
 unfold os0
 rw[List.length_append,List.length_map,List.length_map,List.length_zip]
 show 8+min 12 ds.length=_
 omega
theorem os0_snoc {ds:List Addr} {d:Addr} (h:ds.length < 12):os0 (ds++[d])=os0 ds++[.kd (gcN.getD ds.length ("",[])).1 ((8+ds.length)::(gcN.getD ds.length ("",[])).2.map ixN9) d]:=by
 unfold os0
 rw[List.append_assoc]
 congr 1
 have e:gcN.zip (ds++[d])=gcN.zip ds++[(gcN.getD ds.length ("",[]),d)]:=by
  refine List.ext_getElem? fun j=>?_
  by_cases hj:j < ds.length
  ·rw[List.getElem?_append_left (by rw[List.length_zip]; have:gcN.length=12:=rfl; omega)]
   rw[List.zip_eq_zipWith,List.zip_eq_zipWith,List.getElem?_zipWith,List.getElem?_zipWith,List.getElem?_append_left hj]
  ·by_cases hj2:j=ds.length
   ·subst hj2
    have l1:(gcN.zip ds).length=ds.length:=by rw[List.length_zip]; have:gcN.length=12:=rfl; omega
    have e1:(gcN.zip ds++[(gcN.getD ds.length ("",[]),d)])[ds.length]?=some (gcN.getD ds.length ("",[]),d):=by
     have h0:=snoc_last (xs:=gcN.zip ds) (x:=(gcN.getD ds.length ("",[]),d))
     rw[l1] at h0
     exact h0
    rw[e1,List.zip_eq_zipWith,List.getElem?_zipWith,snoc_last,gcN_at _ h]
   ·rw[List.getElem?_eq_none (by rw[List.length_zip,List.length_append,List.length_singleton]; have:gcN.length=12:=rfl; omega),List.getElem?_eq_none (by rw[List.length_append,List.length_zip,List.length_singleton]; have:gcN.length=12:=rfl; omega)]
 rw[e,List.map_append]
 show _++[Th.kd (gcN.getD ds.length ("",[])).1 (ixN9 (gcN.getD ds.length ("",[])).1::(gcN.getD ds.length ("",[])).2.map ixN9) d]=_
 rw[gc_ix _ h]
theorem gv_f:∀j,j < 8→gv0[j]?=some (gfN.getD j "",j):=by decide +kernel
theorem gv_c:∀j,j < 12→gv0[8+j]?=some ((gcN.getD j ("",[])).1,8+j):=by decide +kernel
theorem WAt.give {K:PySem.W.Frag} {c:ClD} {H:Hp} {W l g:Addr} {ps:List Addr} {os:List Th} {gv:List (Str×Nat)} (h:WAt K c H W l g ps os gv):
  ∃kvs,H g=some (.dK kvs)∧kvs.length≤gv.length∧∀(v:V) (n:Str) (i:Nat),At K H (thD i) v→(∀j,(n,j) ∉ gv)→WAt K c (upd H g (.dK (putK kvs (.inr n) v))) W l g ps os (gv++[(n,i)]):=by
 obtain ⟨⟨dx,a,b,h1⟩,h2,h3,h4,h5,h6,hg,kvs,h7,h8,h9⟩:=h
 refine ⟨kvs,h7,h8,fun v n i hv hn=>?_⟩
 have f:Fx H (upd H g (.dK (putK kvs (.inr n) v))):=Fx.put h7 rfl
 refine ⟨⟨dx,a,b,by rw[upd_ne (fun y=>by rw[y,h7] at h1; cases h1)]; exact h1⟩,by rw[upd_ne (fun y=>by rw[y,h7] at h2; cases h2)]; exact h2,h3,h4,fun i p o e1 e2=>?_,h6,hg,_,upd_same,by have:=length_putK kvs (.inr n) v; rw[List.length_append,List.length_singleton]; omega,fun m j hm=>?_⟩
 ·have:=h5 i p o e1 e2
  obtain ⟨C,dx,fs,e'⟩:=this.ins
  exact this.keep (upd_ne (fun y=>by rw[y,h7] at e'; cases e')) f fun d ed=>upd_ne fun y=>hg ⟨i,o,e2,y ▸ ed⟩
 ·rcases List.mem_append.mp hm with hm | hm
  ·obtain ⟨u,e,a⟩:=h9 m j hm
   refine ⟨u,?_,At.fx f _ _ a⟩
   rw[valV_put,if_neg (fun z=>hn j (by injection z with z; rw[← z]; exact hm))]
   exact e
  ·rw[List.mem_singleton] at hm
   obtain ⟨rfl,rfl⟩:=Prod.mk.inj hm
   exact ⟨v,by rw[valV_put,if_pos rfl],At.fx f _ _ hv⟩
theorem gv_new {j:Nat} {n:Str} {i:Nat} (h:gv0[j]?=some (n,i)):∀k,(n,k) ∉ gv0.take j:=by
 have hz:∀(m:Nat) (x:Str) (y:Nat),gv0[m]?=some (x,y)→allN[m]?=some x:=fun m x y e=>by
  unfold gv0 at e
  rw[List.getElem?_zipIdx] at e
  cases e2:allN[m]? with
  | none=>rw[e2] at e; cases e
  | some u=>rw[e2] at e; injection e with e; injection e with e _; rw[e]
 intro k hk
 obtain ⟨m,hm,e⟩:=List.getElem_of_mem hk
 rw[List.length_take] at hm
 have e':gv0[m]?=some (n,k):=by
  rw[List.getElem?_eq_some_iff]
  exact ⟨by omega,by rw[← e,List.getElem_take]⟩
 have h1:=hz _ _ _ h
 have h2:=hz _ _ _ e'
 have hj:=(List.getElem?_eq_some_iff.mp h1).1
 have:=(List.getElem?_inj hj allN_nd).mp (h1.trans h2.symm)
 omega
section
variable {P:Program} {w:World} {K:PySem.W.Frag} {mg:Str→Option Value} {base:Heap} {f:Addr} {fd:FuncData} {c:ClD}
def spWI (K:PySem.W.Frag) (c:ClD):Sp:=fun vs H Q _=>∃(x dx q:Addr),vs=[.ref x,.ref q]∧H x=some (.ins c.W dx [])∧SqL K H q []∧
 ∀H' l g ps ds,ds.length=12→(∀p o,p≠x→H p=some o→H' p=some o)→H l=none→H g=none→WAt K c H' x l g ps (os0 ds) gv0→Q .non H'
theorem scWI:FnScope ["self","inputs","name","behind"] ["self","inputs"] (defScope pWI):=⟨rfl,rfl,rfl,by decide +kernel,rfl,by decide +kernel,by decide +kernel⟩
theorem ok_WI (g:Glb9 mg) (z:CsD K c) (tf:TreeG K mg "GIVEN_FUNCTIONS" gfD) (tc:TreeG K mg "GIVEN_CLASSES" gcD) (M:MkDef P w K mg base "Given" c.G ["self","name"] 1 (spGvI c.G)) (F:Fun K "__init__" "World.__init__" pWI f fd) (dA:Def P w K mg base "added" ["world","thing"] 1 (spAdd K c)) (dN:Def P w K mg base "new_class" ["world","name","behind","fields","is_given"] 3 (spNew K c)):FnOk P w K mg base CX0 4 f fd ["self","inputs"] (spWI K c):=by
 refine F.okI scWI (fun vs H Q E h=>?_) (fun cdv A outer s H vs Q E hr h=>?_)
 ·obtain ⟨_,_,_,rfl,_⟩:=h; rfl
 obtain ⟨x,dx,qi,rfl,hx,hq,q⟩:=h
 obtain ⟨pf,vf,mf,af⟩:=tf
 obtain ⟨pc,vc,mc,ac⟩:=tc
 refine ⟨_,pss_cons (L3.ps_fld (pv 0) (pe_lst pa_nil))
  (pss_cons (L3.ps_fld (pv 0) (pe_callTy call_list_of rfl g.nList b9List (pa_cons (pv 1) pa_nil)))
  (pss_cons (L3.ps_fld (pv 0) (pe_lst pa_nil))
  (pss_cons (L3.ps_fld (pv 0) (.mk L2.pe_dnewK))
  (pss_cons (ps_for PassesOwn.never rfl (pi_tup (pe_glob (v:=.ref pf) rfl mf rfl)) (pg_name (i:=2) scWI.nd rfl (Or.inl rfl))
   (pss_one (.mk (L2.ps_dput (hu_of hr) (LE.out (L3.pe_fld (pv 0))) (LE.out (pv 2)) (LE.out (L3.pe_def dA hr (by decide) rfl (pa_cons (pv 0) (pa_cons (L3.pe_mk M hr (by decide) rfl (pa_cons (pv 2) pa_nil)) pa_nil)))) rfl))))
  (pss_one (ps_for PassesOwn.never rfl (pi_tup (pe_glob (v:=.ref pc) rfl mc rfl)) (pg_tup rfl (pgs_cons (pg_name (i:=2) scWI.nd rfl (Or.inl rfl)) (pgs_cons (pg_name (i:=3) scWI.nd rfl (Or.inl rfl)) pgs_nil)))
   (pss_one (.mk (L2.ps_dput (hu_of hr) (LE.out (L3.pe_fld (pv 0))) (LE.out (pv 2)) (LE.out (L3.pe_def dN hr (by decide) rfl (pa_cons (pv 0) (pa_cons (pv 2) (pa_cons (.mk (L2.pe_compG (cl:=[("self",s.heap.objs.size+1)]) (Xs:=["elder"]) (Nf:=["self"]) (js:=[0]) ?k rfl (LI.out (pi_tup (pv 3))) (fun C s0 H0 fp=>LG.out (pg_name (i:=0) (show (["elder","self"]:List Str).Nodup by decide +kernel) rfl (Or.inl rfl))) (fun C s0 H0 fp=>pts_nil) (fun C s0 H0 fp=>LE.out (L3.pe_dget (hu_of hr) (L3.pe_fldK (K:=K) rfl (pv 1)) (pv 0))))) (pa_cons (.mk L2.pe_dnewK) (pa_cons pe_bl pa_nil))))))) rfl)))))))))  ,?main⟩
 case k=>
  refine ⟨rfl,by decide +kernel,rfl,by decide +kernel,fun y c h=>?_,fun y hy=>?_,rfl,fun j y h=>?_⟩
  ·obtain ⟨rfl,rfl⟩:=look1 h; rfl
  ·have hy':([(".0",.local),("elder",.local),("self",.cell)]:List (Str×NameKind)).lookup y=some .cell∨([(".0",.local),("elder",.local),("self",.cell)]:List (Str×NameKind)).lookup y=some .free:=hy
   rcases hy' with z | z
   ·have m:=PySem.mem_of_lookup z
    simp at m
    subst m
    exact ⟨_,rfl⟩
   ·have m:=PySem.mem_of_lookup z
    simp at m
  ·match j,h with
   | 0,h=>cases h; exact ⟨0,rfl,rfl,rfl,.inl rfl⟩
   | j+1,h=>simp at h
 case main=>
  have nx:∀{p o} {H':Hp},But9 x H H'→H' x=some o→H' p=none→H p=none:=fun {p o H'} b e1 e2=>by
   cases e:H p with
   | none=>rfl
   | some u=>
    by_cases hpx:p=x
    ·rw[hpx,e1] at e2; cases e2
    ·rw[b _ _ hpx e] at e2; cases e2
  have e1:∀v1:V,putF "lines" v1 ([]:List (Str×V))=([("lines",v1)]:List (Str×V)):=fun _=>rfl
  have e2:∀v1 v2:V,putF "left" v2 ([("lines",v1)]:List (Str×V))=([("lines",v1),("left",v2)]:List (Str×V)):=fun _ _=>by rw[putF_ne (by decide +kernel)]; rfl
  have e3:∀v1 v2 v3:V,putF "things" v3 ([("lines",v1),("left",v2)]:List (Str×V))=([("lines",v1),("left",v2),("things",v3)]:List (Str×V)):=fun _ _ _=>by rw[putF_ne (by decide +kernel),putF_ne (by decide +kernel)]; rfl
  have e4:∀(v1 v2:V) (l g:Addr),putF "given" (.ref g) ([("lines",v1),("left",v2),("things",.ref l)]:List (Str×V))=wF v1 v2 l g:=fun _ _ _ _=>by rw[putF_ne (by decide +kernel),putF_ne (by decide +kernel),putF_ne (by decide +kernel)]; rfl
  have pt:∀{H':Hp} {o:HO},But9 x H H'→But9 x H (upd H' x o):=fun b=>b.trans (But9.put _ _)
  refine ⟨Nat.zero_le _,fun p1 hp1=>?_⟩
  have b1:But9 x H (upd H p1 (.lst [])):=Same.but x (same_new hp1 _)
  have x1:upd H p1 (.lst []) x=some (.ins c.W dx []):=same_new hp1 _ _ _ hx
  revert b1 x1
  generalize upd H p1 (.lst [])=H1
  intro b1 x1
  refine ⟨_,rfl,x,c.W,dx,_,rfl,x1,z.wc,z.w1,by decide,?_⟩
  rw[e1]
  have b2:=pt (o:=.ins c.W dx [("lines",.ref p1)]) b1
  have x2:upd H1 x (.ins c.W dx [("lines",.ref p1)]) x=some (.ins c.W dx [("lines",.ref p1)]):=upd_same
  revert b2 x2
  generalize upd H1 x (.ins c.W dx [("lines",.ref p1)])=H2
  intro b2 x2
  have hq2:SqL K H2 qi []:=by
   rcases hq with (h | ⟨o,h⟩) | h
   ·exact .inl (.inl (b2 _ _ (fun y=>by rw[y,hx] at h; cases h) h))
   ·exact .inl (.inr ⟨o,b2 _ _ (fun y=>by rw[y,hx] at h; cases h) h⟩)
   ·exact .inr h
  refine ⟨_,rfl,qi,[],rfl,.inl hq2,fun p2 hp2=>?_⟩
  have b3:But9 x H (upd H2 p2 (.lst [])):=b2.trans (Same.but x (same_new hp2 _))
  have x3:upd H2 p2 (.lst []) x=some (.ins c.W dx [("lines",.ref p1)]):=same_new hp2 _ _ _ x2
  revert b3 x3
  generalize upd H2 p2 (.lst [])=H3
  intro b3 x3
  refine ⟨_,rfl,x,c.W,dx,_,rfl,x3,z.wc,z.w2,Nat.lt_of_lt_of_le (Nat.lt_succ_self 1) (by decide),?_⟩
  rw[e2]
  have b4:=pt (o:=.ins c.W dx [("lines",.ref p1),("left",.ref p2)]) b3
  have x4:upd H3 x (.ins c.W dx [("lines",.ref p1),("left",.ref p2)]) x=some (.ins c.W dx [("lines",.ref p1),("left",.ref p2)]):=upd_same
  revert b4 x4
  generalize upd H3 x (.ins c.W dx [("lines",.ref p1),("left",.ref p2)])=H4
  intro b4 x4
  refine ⟨Nat.zero_le _,fun l hl=>?_⟩
  have hl0:H l=none:=nx b4 x4 hl
  have b5:But9 x H (upd H4 l (.lst [])):=b4.trans (Same.but x (same_new hl _))
  have x5:upd H4 l (.lst []) x=some (.ins c.W dx [("lines",.ref p1),("left",.ref p2)]):=same_new hl _ _ _ x4
  have l5:upd H4 l (.lst []) l=some (.lst []):=upd_same
  have nlx:l≠x:=fun y=>by rw[y,x4] at hl; cases hl
  revert b5 x5 l5
  generalize upd H4 l (.lst [])=H5
  intro b5 x5 l5
  refine ⟨_,rfl,x,c.W,dx,_,rfl,x5,z.wc,z.w3,Nat.lt_of_lt_of_le (Nat.lt_succ_self 2) (by decide),?_⟩
  rw[e3]
  have b6:=pt (o:=.ins c.W dx [("lines",.ref p1),("left",.ref p2),("things",.ref l)]) b5
  have x6:upd H5 x (.ins c.W dx [("lines",.ref p1),("left",.ref p2),("things",.ref l)]) x=some (.ins c.W dx [("lines",.ref p1),("left",.ref p2),("things",.ref l)]):=upd_same
  have l6:upd H5 x (.ins c.W dx [("lines",.ref p1),("left",.ref p2),("things",.ref l)]) l=some (.lst []):=by rw[upd_ne nlx]; exact l5
  revert b6 x6 l6
  generalize upd H5 x (.ins c.W dx [("lines",.ref p1),("left",.ref p2),("things",.ref l)])=H6
  intro b6 x6 l6
  intro gd hgd
  have hg0:H gd=none:=nx b6 x6 hgd
  have b7:But9 x H (upd H6 gd (.dK [])):=b6.trans (Same.but x (same_new hgd _))
  have x7:upd H6 gd (.dK []) x=some (.ins c.W dx [("lines",.ref p1),("left",.ref p2),("things",.ref l)]):=same_new hgd _ _ _ x6
  have l7:upd H6 gd (.dK []) l=some (.lst []):=same_new hgd _ _ _ l6
  have g7:upd H6 gd (.dK []) gd=some (.dK []):=upd_same
  have ngx:gd≠x:=fun y=>by rw[y,x6] at hgd; cases hgd
  revert b7 x7 l7 g7
  generalize upd H6 gd (.dK [])=H7
  intro b7 x7 l7 g7
  refine ⟨_,rfl,x,c.W,dx,_,rfl,x7,z.wc,z.w4,Nat.lt_of_lt_of_le (Nat.lt_succ_self 3) (by decide),?_⟩
  rw[e4]
  have b8:=pt (o:=.ins c.W dx (wF (.ref p1) (.ref p2) l gd)) b7
  have x8:upd H7 x (.ins c.W dx (wF (.ref p1) (.ref p2) l gd)) x=some (.ins c.W dx (wF (.ref p1) (.ref p2) l gd)):=upd_same
  have l8:upd H7 x (.ins c.W dx (wF (.ref p1) (.ref p2) l gd)) l=some (.lst []):=by rw[upd_ne nlx]; exact l7
  have g8:upd H7 x (.ins c.W dx (wF (.ref p1) (.ref p2) l gd)) gd=some (.dK []):=by rw[upd_ne ngx]; exact g7
  revert b8 x8 l8 g8
  generalize upd H7 x (.ins c.W dx (wF (.ref p1) (.ref p2) l gd))=H8
  intro b8 x8 l8 g8
  have w8:WAt K c H8 x l gd [] ((gfN.take 0).map Th.gvn) (gv0.take 0):=⟨⟨dx,_,_,x8⟩,l8,rfl,List.nodup_nil,fun i v o e=>by simp at e,fun i j a b d e=>by simp at e,fun z=>(by obtain ⟨i,o,e,_⟩:=z; simp at e),[],g8,Nat.zero_le _,fun n i h=>by simp at h⟩
  clear e1 e2 e3 e4 pt nx
  have lf:vf.length=8:=(af H8).2.len
  have lc:vc.length=12:=(ac H8).2.len
  refine ⟨pf,rfl,⟨vf,(af H8).1⟩,for_tup (K:=K) (a:=pf) (xs:=vf) (fun i σ H'=>(∃o2 o3,σ=[some (.ref x),some (.ref qi),o2,o3])∧But9 x H H'∧∃ps,WAt K c H' x l gd ps ((gfN.take i).map Th.gvn) (gv0.take i)) ⟨⟨_,_,rfl⟩,b8,_,w8⟩ (fun i σ H' _ _=>(af H').1) ?t1 ?s1⟩
  case t1=>
   rintro i n σ H' hn ⟨⟨o2,o3,rfl⟩,bH,ps,wH⟩
   have hi:i < 8:=by rw[← lf]; exact (List.getElem?_eq_some_iff.mp hn).1
   obtain ⟨v',hv',hAi⟩:=AtAll.get (i:=i) (af H').2 (d:=.str (gfN.getD i "")) (by
    unfold gfD
    rw[List.getElem?_map,gfN_at i hi]; rfl)
   have en:n=.str (gfN.getD i ""):=by rw[hn] at hv'; cases hv'; exact At_str.mp hAi
   subst en
   refine ⟨_,rfl,_,rfl,fun y dy hy hdy hne=>?_⟩
   obtain ⟨s1,c1⟩:=new_ins (C:=c.G) hy hdy hne
   revert s1 c1
   generalize upd (upd H' dy (.own y)) y (.ins c.G dy [])=H1
   intro s1 c1
   refine ⟨y,dy,_,rfl,c1,fun H2 hB hy2=>⟨rfl,?_⟩⟩
   have s2:Same H' H2:=fun p o e=>by
    rw[hB p (fun z=>by rw[z,hy] at e; cases e)]; exact s1 _ _ e
   have ltk:((gfN.take i).map Th.gvn).length=i:=by rw[List.length_map,List.length_take]; show min i 8=i; omega
   refine ⟨x,l,gd,ps,(gfN.take i).map Th.gvn,gv0.take i,.gvn (gfN.getD i ""),y,rfl,wH.same s2,⟨dy,hy2⟩,wH.fresh hy,fun k e=>(nomatch e),by omega,fun r H3 b3 w3 a3=>?_⟩
   rw[ltk] at a3
   obtain ⟨kvs,hk3,lk3,wv⟩:=w3.give
   obtain ⟨dx3,a',b',h3⟩:=w3.w
   have gj:=gv_f i hi
   refine ⟨_,rfl,x,c.W,dx3,_,_,rfl,h3,z.wc,z.w4,wF_given ..,_,rfl,gd,_,rfl,DPut.k (k:=.inr (gfN.getD i "")) hk3 ?_,⟨_,_,rfl⟩,fun p o ne e=>?_,ps++[y],?_⟩
   ·rw[List.length_take] at lk3; exact small1000 (by omega)
   ·rw[upd_ne (fun z=>by rw[z,hg0] at e; cases e)]
    exact b3 _ _ (fun z=>by rw[z,hl0] at e; cases e) (s2 _ _ (bH _ _ ne e))
   ·have:=wv r _ i a3 (gv_new gj)
    rw[List.take_add_one,gfN_at i hi,List.take_add_one,gj,List.map_append]
    exact this
  case s1=>
   rintro σ H' ⟨⟨o2,o3,rfl⟩,bH,ps,wH⟩
   rw[lf] at wH
   have wH:WAt K c H' x l gd ps (os0 []) (gv0.take (8+0)):=wH
   refine ⟨pc,rfl,⟨vc,(ac H').1⟩,for_tup (K:=K) (a:=pc) (xs:=vc) (fun i σ H'=>(∃o2 o3,σ=[some (.ref x),some (.ref qi),o2,o3])∧But9 x H H'∧∃ps ds,ds.length=i∧WAt K c H' x l gd ps (os0 ds) (gv0.take (8+i))) ⟨⟨_,_,rfl⟩,bH,ps,[],rfl,wH⟩ (fun i σ H' _ _=>(ac H').1) ?t2 ?s2⟩
   case s2=>
    rintro σ H' ⟨⟨o2,o3,rfl⟩,bH,ps,ds,ld,wH⟩
    rw[lc,List.take_of_length_le (by decide +kernel)] at wH
    exact q H' l gd ps ds (by rw[ld,lc]) bH hl0 hg0 wH
   case t2=>
    clear wH bH
    rintro i n σ H' hn ⟨⟨o2,o3,rfl⟩,bH,ps,ds,ld,wH⟩
    have hi:i < 12:=by rw[← lc]; exact (List.getElem?_eq_some_iff.mp hn).1
    obtain ⟨v',hv',hAi⟩:=AtAll.get (i:=i) (ac H').2 (d:=.tup [.str (gcN.getD i ("",[])).1,.tup ((gcN.getD i ("",[])).2.map D.str)]) (by
     unfold gcD
     rw[List.getElem?_map,gcN_at i hi]; rfl)
    rw[hn] at hv'
    cases hv'
    have hok:=gc_ok i hi
    have hos:=fun d=>os0_snoc (ds:=ds) (d:=d) (by omega)
    rw[ld] at hos
    have gj:=gv_c i hi
    have lb:(gcN.getD i ("",[])).2.length≤3:=(show ∀j,j < 12→(gcN.getD j ("",[])).2.length≤3 by decide +kernel) i hi
    generalize gcN.getD i ("",[])=nb at *
    obtain ⟨nm,bs⟩:=nb
    obtain ⟨ap,avs,rfl,sqa,hAa⟩:=At_tup.mp hAi
    obtain ⟨u1,r1,rfl,hu1,hr1⟩:=AtAll_cons.mp hAa
    obtain ⟨u2,r2,rfl,hu2,hr2⟩:=AtAll_cons.mp hr1
    rw[AtAll_nil.mp hr2] at sqa
    rw[At_str.mp hu1] at sqa
    obtain ⟨bp,bvs,rfl,sqb,hAb⟩:=At_tup.mp hu2
    have lbv:=hAb.len
    rw[List.length_map] at lbv
    replace lbv:bvs.length=bs.length:=lbv
    replace lb:bs.length≤3:=lb
    refine ⟨ap,_,rfl,sqa,rfl,_,_,rfl,_,_,rfl,rfl,?_⟩
    obtain ⟨kv0,hk0,lk0,hv0⟩:=wH.v
    obtain ⟨dx0,a0,b0,hx0⟩:=wH.w
    refine ⟨_,rfl,_,rfl,_,rfl,bp,rfl,⟨bvs,sqb⟩,[.ref x],⟨rfl,fun j i h=>?_⟩,compG_one (vs:=[.ref x]) (tc:=tTrue) bvs.length (fun i=>bvs.getD i .non) (fun _=>true) (fun i v H'=>At K H' (thD (ixN9 (bs.getD i ""))) v) (fun _ _ _ _ s z=>At.same s _ _ z) (by omega) (itt_stop sqb) (itt_go sqb) (itt_yld sqb) (fun i H2 Q' hi s2 k=>k H2 (Same.refl _)) (fun j H1 D l' Q' hj _ s1 _ hDl k=>?_) fun D H1 ys hD s1 hl1 hP=>?_⟩
    ·match j,h with
     | 0,h=>cases h; exact ⟨_,rfl,rfl⟩
     | j+1,h=>simp at h
    ·have hj':j < bs.length:=by omega
     have ej:bs[j]?=some bs[j]:=List.getElem?_eq_getElem hj'
     have eo:bs.getD j ""=bs[j]:=by rw[List.getD_eq_getElem?_getD,ej]; rfl
     obtain ⟨v',hv',hAj⟩:=AtAll.get (i:=j) hAb (d:=.str bs[j]) (by rw[List.getElem?_map,ej]; rfl)
     have ev:bvs.getD j .non=.str bs[j]:=by rw[List.getD_eq_getElem?_getD,hv']; exact At_str.mp hAj
     rw[eo] at k
     rw[ev]
     obtain ⟨v,e,hA⟩:=hv0 _ _ (hok bs[j] (List.getElem_mem hj'))
     refine ⟨_,rfl,x,c.W,dx0,_,_,rfl,s1 _ _ hx0,z.wc,z.w4,wF_given ..,_,rfl,gd,v,rfl,?_,k v H1 (Same.refl _) (At.wo hDl _ _ (At.same s1 _ _ hA))⟩
     rw[← e]
     exact DGet.k (k:=.inr bs[j]) (s1 _ _ hk0)
    ·have hAy:=(hP.mono (fun i v z=>At.same (wo_same H1 D) _ _ z)).at
     rw[List.filter_eq_self.mpr (fun _ _=>rfl),lbv,range_map bs "" (fun e=>thD (ixN9 e))] at hAy
     intro dn hdn
     have s2:Same H1 (upd H1 dn (.dK [])):=same_new hdn _
     have d2:upd H1 dn (.dK []) dn=some (.dK []):=upd_same
     revert s2 d2
     generalize upd H1 dn (.dK [])=H2
     intro s2 d2
     have s12:=s1.trans s2
     have ltk:(os0 ds).length=8+i:=by rw[os0_len (by omega),ld]
     have eT:bs.map (fun e=>thD (ixN9 e))=(bs.map ixN9).map thD:=by rw[List.map_map]; rfl
     refine ⟨x,l,gd,ps,os0 ds,gv0.take (8+i),nm,.ref D,_,dn,bs.map ixN9,rfl,wH.same s12,by omega,⟨D,ys,rfl,.inl (SqL.of (s2 _ _ hl1)),?_⟩,by rw[List.length_map]; omega,d2,fun r H3 p3 dn3 _ b3 w3 a3=>?_⟩
     ·rw[← eT]
      exact AtAll.same s2 _ _ hAy
     rw[ltk] at a3 w3
     obtain ⟨kvs,hk3,lk3,wv⟩:=w3.give
     obtain ⟨dx3,a',b',h3⟩:=w3.w
     refine ⟨_,rfl,x,c.W,dx3,_,_,rfl,h3,z.wc,z.w4,wF_given ..,_,rfl,gd,_,rfl,DPut.k (k:=.inr nm) hk3 ?_,⟨_,_,rfl⟩,fun p o ne e=>?_,ps++[p3],ds++[dn3],by rw[List.length_append,ld]; rfl,?_⟩
     ·rw[List.length_take] at lk3; exact small1000 (by omega)
     ·rw[upd_ne (fun z=>by rw[z,hg0] at e; cases e)]
      exact b3 _ _ (fun z=>by rw[z,hl0] at e; cases e) (s12 _ _ (bH _ _ ne e))
     ·have:=wv r _ (8+i) a3 (gv_new gj)
      rw[show 8+(i+1)=8+i+1 from rfl,hos,List.take_add_one,gj]
      exact this
end
abbrev pFin:Stmt:=topd 38
abbrev pFby:Stmt:=topd 39
abbrev pOoO:Stmt:=topd 40
abbrev pFof:Stmt:=topd 42
abbrev pCbp:Stmt:=topd 43
abbrev pPut:Stmt:=topd 44
abbrev pNmd:Stmt:=topd 45
abbrev pTot:Stmt:=topd 46
abbrev pTxt:Stmt:=topd 47
theorem look2 {a b:Str} {x y c:Addr} {z:Str} (h:([(a,x),(b,y)]:List (Str×Addr)).lookup z=some c):(z=a∧c=x)∨(z=b∧c=y):=by
 rw[List.lookup_cons] at h
 split at h
 ·rename_i e; exact .inl ⟨eq_of_beq e,by injection h with h; exact h.symm⟩
 ·exact .inr (look1 h)
theorem look3 {a b d:Str} {x y u c:Addr} {z:Str} (h:([(a,x),(b,y),(d,u)]:List (Str×Addr)).lookup z=some c):(z=a∧c=x)∨(z=b∧c=y)∨(z=d∧c=u):=by
 rw[List.lookup_cons] at h
 split at h
 ·rename_i e; exact .inl ⟨eq_of_beq e,by injection h with h; exact h.symm⟩
 ·exact .inr (look2 h)
def fldD:Option (D×D×D)→Str→Option D
 | none,_=>none
 | some x,n=>if n="word" then some x.1 else if n="cause" then some x.2.1 else if n="context" then some x.2.2 else none
def fldR (fs:Option (D×D×D)) (n:Str):D:=match fldD fs n with
 | none=>.tup [.str "fault",.str "FieldFault"]
 | some d=>.tup [.str "value",d]
def putD (n:Str) (x:D×D×D) (d:D):D×D×D:=if n="cause" then (x.1,d,x.2.2) else (x.1,x.2.1,d)
theorem valV_fK (a b e:V) (n:Str):valV (fK a b e) (.inr n:Key)=if n="word" then some a else if n="cause" then some b else if n="context" then some e else none:=by
 have h:fK a b e=putK (putK (putK [] (.inr "word":Key) a) (.inr "cause":Key) b) (.inr "context":Key) e:=rfl
 rw[h,valV_put,valV_put,valV_put]
 by_cases e1:n="word"
 ·subst e1
  rw[if_neg (by decide +kernel),if_neg (by decide +kernel),if_pos rfl,if_pos rfl]
 ·by_cases e2:n="cause"
  ·subst e2
   rw[if_neg (by decide +kernel),if_pos rfl,if_neg e1,if_pos rfl]
  ·by_cases e3:n="context"
   ·subst e3
    rw[if_pos rfl,if_neg e1,if_neg e2,if_pos rfl]
   ·rw[if_neg (fun z=>e3 (by injection z)),if_neg (fun z=>e2 (by injection z)),if_neg (fun z=>e1 (by injection z)),if_neg e1,if_neg e2,if_neg e3]; rfl
theorem fldD_some (x:D×D×D) (n:Str):fldD (some x) n=if n="word" then some x.1 else if n="cause" then some x.2.1 else if n="context" then some x.2.2 else none:=rfl
theorem FsAt.get {K:PySem.W.Frag} {H:Hp} {d:Addr} {fs:Option (D×D×D)} (h:FsAt K H d fs) (n:Str):∃kvs,H d=some (.dK kvs)∧((fldD fs n=none∧valV kvs (.inr n:Key)=none)∨∃dd v,fldD fs n=some dd∧valV kvs (.inr n:Key)=some v∧At K H dd v):=by
 cases fs with
 | none=>exact ⟨_,h,.inl ⟨rfl,rfl⟩⟩
 | some x=>
  obtain ⟨a,b,e,h1,h2,h3,h4⟩:=h
  refine ⟨_,h1,?_⟩
  rw[valV_fK,fldD_some]
  by_cases e1:n="word"
  ·rw[if_pos e1,if_pos e1]; exact .inr ⟨_,_,rfl,rfl,h2⟩
  ·by_cases e2:n="cause"
   ·rw[if_neg e1,if_pos e2,if_neg e1,if_pos e2]; exact .inr ⟨_,_,rfl,rfl,h3⟩
   ·by_cases e3:n="context"
    ·rw[if_neg e1,if_neg e2,if_pos e3,if_neg e1,if_neg e2,if_pos e3]; exact .inr ⟨_,_,rfl,rfl,h4⟩
    ·rw[if_neg e1,if_neg e2,if_neg e3,if_neg e1,if_neg e2,if_neg e3]; exact .inl ⟨rfl,rfl⟩
theorem FsAt.put {K:PySem.W.Frag} {H:Hp} {d:Addr} {x:D×D×D} (h:FsAt K H d (some x)) {n:Str} (hn:n="cause"∨n="context") {dv:D} {y:V} (hy:At K H dv y):∃kvs,H d=some (.dK kvs)∧kvs.length≤3∧FsAt K (upd H d (.dK (putK kvs (.inr n:Key) y))) d (some (putD n x dv)):=by
 obtain ⟨a,b,e,h1,h2,h3,h4⟩:=h
 refine ⟨_,h1,Nat.le_refl 3,?_⟩
 have f:∀o,Fx H (upd H d o):=fun o=>Fx.put h1 rfl
 rcases hn with rfl | rfl
 ·rw[(fK_put a b e y).2.1]
  exact ⟨a,y,e,upd_same,At.fx (f _) _ _ h2,At.fx (f _) _ _ hy,At.fx (f _) _ _ h4⟩
 ·rw[(fK_put a b e y).2.2]
  exact ⟨a,b,y,upd_same,At.fx (f _) _ _ h2,At.fx (f _) _ _ h3,At.fx (f _) _ _ hy⟩
theorem At.tupR {K:PySem.W.Frag} {H:Hp} {r:List D} {v:V} (h:At K H (.tup r) v):v≠.non:=by
 obtain ⟨p,vs,rfl,_⟩:=At_tup.mp h
 exact fun z=>nomatch z
section
variable {P:Program} {w:World} {K:PySem.W.Frag} {mg:Str→Option Value} {base:Heap} {f:Addr} {fd:FuncData} {c:ClD}
def spFin (K:PySem.W.Frag) (c:ClD):Sp:=fun vs H Q _=>∃(W l gd:Addr) (ps:List Addr) (os:List Th) (gv:List (Str×Nat)) (x:V) (ns:List Nat) (n:Str),vs=[.ref W,x,.str n]∧WAt K c H W l gd ps os gv∧At K H (.tup (ns.map thD)) x∧(∀m∈ns,∃nm ns' d',os[m]?=some (.kd nm ns' d'))∧Q .non H
theorem scFin:FnScope ["world","classes","name","one","fields"] ["world","classes","name"] (defScope pFin):=⟨rfl,rfl,rfl,by decide +kernel,rfl,by decide +kernel,by decide +kernel⟩
theorem ok_Fin (z:CsD K c) (F:Fun K "found_in" "found_in" pFin f fd) (dT:Def P w K mg base "thing_of" ["world","a"] 1 (spTh K c)):FnOk P w K mg base CX0 2 f fd ["world","classes","name"] (spFin K c):=by
 refine F.okI scFin (fun vs H Q E h=>?_) (fun cdv A outer s H vs Q E hr h=>?_)
 ·obtain ⟨_,_,_,_,_,_,_,_,_,rfl,_⟩:=h; rfl
 obtain ⟨W,l,gd,ps,os,gv,x,ns,n,rfl,hw,hx,hk,q⟩:=h
 refine ⟨_,(pss_cons (ps_for PassesOwn.never rfl (pi_tup (pv 1)) (pg_name (i:=3) scFin.nd rfl (Or.inl rfl)) (pss_cons (ps_set (i:=4) scFin.nd rfl (Or.inl rfl) (L3.pe_fld (L3.pe_def dT hr (by decide) rfl (pa_cons (pv 0) (pa_cons (pv 3) pa_nil)))))
   (pss_one (ps_if (L3.pt_din (hu_of hr) (pv 2) (pv 4)) (pss_one ps_dead) pss_nil))))
   (pss_one (ps_ret pe_non))),?_⟩
 obtain ⟨px,xs,rfl,sq,hA⟩:=At_tup.mp hx
 have lx:=hA.len
 rw[List.length_map] at lx
 refine ⟨_,rfl,px,rfl,⟨xs,sq⟩,for_tup (K:=K) (a:=px) (xs:=xs) (fun i σ H'=>(∃o3 o4,σ=[some (.ref W),some (.ref px),some (.str n),o3,o4])∧H'=H) ⟨⟨_,_,rfl⟩,rfl⟩ (fun i σ H' _ h=>h.2 ▸ sq) ?t ?s⟩
 case s=>
  rintro σ H' ⟨⟨o3,o4,rfl⟩,rfl⟩
  exact q
 case t=>
  rintro i u σ H' hu ⟨⟨o3,o4,rfl⟩,rfl⟩
  have hi:i < ns.length:=by rw[← lx]; exact lt_of_some hu
  obtain ⟨v',hv',hAi⟩:=AtAll.get (i:=i) hA (d:=thD ns[i]) (by rw[List.getElem?_map,List.getElem?_eq_getElem hi]; rfl)
  rw[hu] at hv'
  cases hv'
  obtain ⟨nm,ns',d',ho⟩:=hk ns[i] (List.getElem_mem hi)
  refine ⟨_,rfl,_,rfl,W,l,gd,ps,os,gv,u,thD ns[i],rfl,hw,hAi,Vd.th (lt_of_some ho),fun v t=>?_⟩
  obtain ⟨p,_,rfl,dx,vo,v4,hp,_,hd⟩:=t.th ho
  refine ⟨p,c.Kd,dx,_,_,rfl,hp,z.kc,z.k3,kdF_fields ..,_,rfl,_,rfl,d',none,rfl,DGet.k (k:=.inr n) hd,_,rfl,iteF ⟨⟨_,_,rfl⟩,rfl⟩⟩
def spFby (K:PySem.W.Frag) (c:ClD):Sp:=fun vs H Q _=>∃(W l gd:Addr) (ps:List Addr) (os:List Th) (gv:List (Str×Nat)) (y x:V) (ns:List Nat) (n:Str),vs=[.ref W,y,x,.str n]∧WAt K c H W l gd ps os gv∧At K H (.tup (ns.map thD)) x∧(∀m∈ns,∃nm ns' d',os[m]?=some (.kd nm ns' d'))∧Q .non H
theorem scFby:FnScope ["world","owner","classes","name","found"] ["world","owner","classes","name"] (defScope pFby):=⟨rfl,rfl,rfl,by decide +kernel,rfl,by decide +kernel,by decide +kernel⟩
theorem ok_Fby (F:Fun K "found_by_way" "found_by_way" pFby f fd) (dF:Def P w K mg base "found_in" ["world","classes","name"] 2 (spFin K c)):FnOk P w K mg base CX0 3 f fd ["world","owner","classes","name"] (spFby K c):=by
 refine F.okI scFby (fun vs H Q E h=>?_) (fun cdv A outer s H vs Q E hr h=>?_)
 ·obtain ⟨_,_,_,_,_,_,_,_,_,_,rfl,_⟩:=h; rfl
 obtain ⟨W,l,gd,ps,os,gv,y,x,ns,n,rfl,hw,hx,hk,q⟩:=h
 refine ⟨_,(pss_cons (ps_set (i:=4) scFby.nd rfl (Or.inl rfl) (L3.pe_def dF hr (by decide) rfl (pa_cons (pv 0) (pa_cons (pv 2) (pa_cons (pv 3) pa_nil)))))
   (pss_cons (ps_if (LW.pt (pw_and (pt_cmpR op_notN (pv 4) pe_non (nomark _)) (pw_and1 (pt_val pe_dead)))) (pss_one ps_dead) pss_nil)
   (pss_one (ps_ret (pv 4))))),?_⟩
 exact ⟨_,rfl,_,rfl,_,rfl,W,l,gd,ps,os,gv,x,ns,n,rfl,hw,hx,hk,_,rfl,rfl,_,rfl,iteF (iteF ⟨_,rfl,q⟩)⟩
def spOoO (K:PySem.W.Frag) (c:ClD):Sp:=fun vs H Q _=>∃(W l gd:Addr) (ps:List Addr) (os:List Th) (gv:List (Str×Nat)) (x:V) (i k:Nat) (d:Addr) (fs:Option (D×D×D)) (nm:Str) (ns:List Nat) (d':Addr),vs=[.ref W,x]∧WAt K c H W l gd ps os gv∧At K H (thD i) x∧os[i]?=some (.ob k d fs)∧os[k]?=some (.kd nm ns d')∧∀v,At K H (.tup (ns.map thD)) v→Q v H
theorem scOoO:FnScope ["world","owner"] ["world","owner"] (defScope pOoO):=⟨rfl,rfl,rfl,by decide +kernel,rfl,by decide +kernel,by decide +kernel⟩
theorem ok_OoO (z:CsD K c) (F:Fun K "order_of_owner" "order_of_owner" pOoO f fd) (dT:Def P w K mg base "thing_of" ["world","a"] 1 (spTh K c)):FnOk P w K mg base CX0 2 f fd ["world","owner"] (spOoO K c):=by
 refine F.okI scOoO (fun vs H Q E h=>?_) (fun cdv A outer s H vs Q E hr h=>?_)
 ·obtain ⟨_,_,_,_,_,_,_,_,_,_,_,_,_,_,rfl,_⟩:=h; rfl
 obtain ⟨W,l,gd,ps,os,gv,x,i,k,d,fs,nm,ns,d',rfl,hw,hx,ho,hk,q⟩:=h
 refine ⟨_,(pss_one (ps_ret (L3.pe_fld (L3.pe_def dT hr (by decide) rfl (pa_cons (pv 0) (pa_cons (L3.pe_fld (L3.pe_def dT hr (by decide) rfl (pa_cons (pv 0) (pa_cons (pv 1) pa_nil)))) pa_nil)))))),?_⟩
 refine ⟨_,rfl,_,rfl,_,rfl,W,l,gd,ps,os,gv,x,thD i,rfl,hw,hx,Vd.th (lt_of_some ho),fun v t=>?_⟩
 obtain ⟨p,_,rfl,dx,v1,hp,hv1,_⟩:=t.th ho
 refine ⟨p,c.O,dx,_,_,rfl,hp,z.oc,z.o1,obF_kind ..,W,l,gd,ps,os,gv,v1,thD k,rfl,hw,hv1,Vd.th (lt_of_some hk),fun v t=>?_⟩
 obtain ⟨p',_,rfl,dx',vo,v4,hp',ha,_⟩:=t.th hk
 exact ⟨p',c.Kd,dx',_,_,rfl,hp',z.kc,z.k2,kdF_order ..,q _ ha⟩
def spFof (K:PySem.W.Frag) (c:ClD):Sp:=fun vs H Q _=>∃(W l gd:Addr) (ps:List Addr) (os:List Th) (gv:List (Str×Nat)) (x:V) (i k:Nat) (d:Addr) (fs:Option (D×D×D)) (n:Str),vs=[.ref W,x,.str n]∧WAt K c H W l gd ps os gv∧WfO os∧At K H (thD i) x∧os[i]?=some (.ob k d fs)∧(∀dd,fldD fs n=some dd→∃r,dd=.tup r)∧∀r H',Same H H'→At K H' (fldR fs n) r→Q r H'
theorem scFof:FnScope ["world","a","name","thing","found"] ["world","a","name"] (defScope pFof):=⟨rfl,rfl,rfl,by decide +kernel,rfl,by decide +kernel,by decide +kernel⟩
theorem ok_Fof (g:Glb9 mg) (z:CsD K c) (hO:mg "Object"=some (.ref c.O)) (F:Fun K "field_of" "field_of" pFof f fd) (dT:Def P w K mg base "thing_of" ["world","a"] 1 (spTh K c)) (dO:Def P w K mg base "order_of_owner" ["world","owner"] 2 (spOoO K c)) (dB:Def P w K mg base "found_by_way" ["world","owner","classes","name"] 3 (spFby K c)):FnOk P w K mg base CX0 4 f fd ["world","a","name"] (spFof K c):=by
 refine F.okI scFof (fun vs H Q E h=>?_) (fun cdv A outer s H vs Q E hr h=>?_)
 ·obtain ⟨_,_,_,_,_,_,_,_,_,_,_,_,rfl,_⟩:=h; rfl
 obtain ⟨W,l,gd,ps,os,gv,x,i,k,d,fs,n,rfl,hw,hf,hx,ho,hr',q⟩:=h
 refine ⟨_,(pss_cons (ps_set (i:=3) scFof.nd rfl (Or.inl rfl) (L3.pe_def dT hr (by decide) rfl (pa_cons (pv 0) (pa_cons (pv 1) pa_nil))))
   (pss_cons (ps_set (i:=4) scFof.nd rfl (Or.inl rfl) pe_non)
   (pss_cons (ps_if (pt_val (pe_callB call_isO rfl g.nIsi b9Isi (pa_cons (pv 3) (pa_cons (pe_glob (v:=.ref c.O) rfl hO rfl) pa_nil)))) (pss_cons (ps_set (i:=4) scFof.nd rfl (Or.inl rfl) (.mk (L2.pe_dget1 (hu_of hr) (LE.out (L3.pe_fld (pv 3))) (LE.out (pv 2)) ⟨rfl,rfl,rfl,rfl⟩)))
   (pss_one (ps_if (pt_cmpR op_isN (pv 4) pe_non (nomark _)) (pss_one (ps_set (i:=4) scFof.nd rfl (Or.inl rfl) (L3.pe_def dB hr (by decide) rfl (pa_cons (pv 0) (pa_cons (pv 1) (pa_cons (L3.pe_def dO hr (by decide) rfl (pa_cons (pv 0) (pa_cons (pv 1) pa_nil))) (pa_cons (pv 2) pa_nil))))))) pss_nil))) (pss_one ps_dead))
   (pss_one (ps_ret (pe_ifExp (pt_cmpR op_isN (pv 4) pe_non (nomark _)) (pe_tup (pa_cons pe_str (pa_cons pe_str pa_nil))) (pe_tup (pa_cons pe_str (pa_cons (pv 4) pa_nil))))))))),?_⟩
 refine ⟨_,rfl,_,rfl,W,l,gd,ps,os,gv,x,thD i,rfl,hw,hx,Vd.th (lt_of_some ho),fun v t=>?_⟩
 have ti:=t.is z z.tO
 rw[thO_th,ho] at ti
 obtain ⟨p,_,rfl,dx,v1,hp,hv1,hfs⟩:=t.th ho
 refine ⟨_,rfl,_,c.O,true,rfl,ti,_,rfl,iteT ?_⟩
 obtain ⟨kvs,hd,hg⟩:=hfs.get n
 refine ⟨_,rfl,p,c.O,dx,_,_,rfl,hp,z.oc,z.o2,obF_fields ..,d,rfl,.inl ⟨kvs,.inl hd⟩,_,rfl,_,DGet.k (k:=.inr n) hd,?_⟩
 rcases hg with ⟨e1,e2⟩ | ⟨dd,v,e1,e2,hA⟩
 ·rw[e2]
  obtain ⟨nm,ns,d',hk⟩:=hf.o i k d fs ho
  refine ⟨_,rfl,rfl,_,rfl,iteT ⟨_,rfl,_,rfl,_,rfl,_,rfl,W,l,gd,ps,os,gv,x,i,k,d,fs,nm,ns,d',rfl,hw,hx,ho,hk,fun vo hvo=>⟨_,rfl,W,l,gd,ps,os,gv,x,vo,ns,n,rfl,hw,hvo,hf.k k nm ns d' hk,?_⟩⟩⟩
  refine ⟨_,rfl,rfl,_,rfl,iteT ⟨by show 2≤sizeLine; decide,fun p hp=>q _ _ (same_new hp _) ?_⟩⟩
  unfold fldR
  rw[e1]
  exact At.new hp (AtAll2 (At_str.mpr rfl) (At_str.mpr rfl))
 ·rw[e2]
  obtain ⟨r,rfl⟩:=hr' dd e1
  have nv:=hA.tupR
  have ne:decide (v=V.non)=false:=decide_eq_false nv
  refine ⟨_,rfl,rfl,_,rfl,?_⟩
  show if decide (v=V.non)=true then _ else _
  rw[ne]
  refine iteF ⟨_,rfl,rfl,_,rfl,?_⟩
  show if decide (v=V.non)=true then _ else _
  rw[ne]
  refine iteF ⟨_,rfl,by show 2≤sizeLine; decide,fun p hp=>q _ _ (same_new hp _) ?_⟩
  unfold fldR
  rw[e1]
  exact At.new hp (AtAll2 (At_str.mpr rfl) hA)
def spCbp (c:ClD):Sp:=fun vs H Q _=>∃(p dx:Addr) (fs:List (Str×V)),vs=[.ref p]∧H p=some (.ins c.O dx fs)∧Q (.bl true) H
theorem scCbp:FnScope ["thing"] ["thing"] (defScope pCbp):=⟨rfl,rfl,rfl,by decide +kernel,rfl,by decide +kernel,by decide +kernel⟩
theorem ok_Cbp (g:Glb9 mg) (z:CsD K c) (hO:mg "Object"=some (.ref c.O)) (F:Fun K "can_be_put" "can_be_put" pCbp f fd):FnOk P w K mg base CX0 1 f fd ["thing"] (spCbp c):=by
 refine F.okI scCbp (fun vs H Q E h=>?_) (fun cdv A outer s H vs Q E hr h=>?_)
 ·obtain ⟨_,_,_,rfl,_⟩:=h; rfl
 obtain ⟨p,dx,fs,rfl,hp,q⟩:=h
 refine ⟨_,(pss_one (ps_ret (pe_or (pe_callB call_isO rfl g.nIsi b9Isi (pa_cons (pv 0) (pa_cons (pe_glob (v:=.ref c.O) rfl hO rfl) pa_nil))) (pe_one pe_dead)))),?_⟩
 exact ⟨_,rfl,_,c.O,true,rfl,.inl ⟨p,c.O,dx,fs,rfl,hp,z.iO,z.tO.tO⟩,_,rfl,iteT q⟩
def spPut (K:PySem.W.Frag) (c:ClD):Sp:=fun vs H Q _=>∃(W l gd:Addr) (ps:List Addr) (os:List Th) (gv:List (Str×Nat)) (x y:V) (i k:Nat) (d:Addr) (fx:D×D×D) (n:Str) (dv:D),vs=[.ref W,x,.str n,y]∧WAt K c H W l gd ps os gv∧At K H (thD i) x∧os[i]?=some (.ob k d (some fx))∧(n="cause"∨n="context")∧At K H dv y∧
 ∀r H',But9 d H H'→WAt K c H' W l gd ps (os.set i (.ob k d (some (putD n fx dv)))) gv→At K H' (.tup [.str "value",noD]) r→Q r H'
theorem scPut:FnScope ["world","a","name","v","thing"] ["world","a","name","v"] (defScope pPut):=⟨rfl,rfl,rfl,by decide +kernel,rfl,by decide +kernel,by decide +kernel⟩
theorem ok_Put (z:CsD K c) (tN:TreeG K mg "NONE" [.str "none"]) (F:Fun K "put_field" "put_field" pPut f fd) (dT:Def P w K mg base "thing_of" ["world","a"] 1 (spTh K c)) (dC:Def P w K mg base "can_be_put" ["thing"] 1 (spCbp c)):FnOk P w K mg base CX0 2 f fd ["world","a","name","v"] (spPut K c):=by
 refine F.okI scPut (fun vs H Q E h=>?_) (fun cdv A outer s H vs Q E hr h=>?_)
 ·obtain ⟨_,_,_,_,_,_,_,_,_,_,_,_,_,_,rfl,_⟩:=h; rfl
 obtain ⟨W,l,gd,ps,os,gv,x,y,i,k,d,fx,n,dv,rfl,hw,hx,ho,hn,hy,q⟩:=h
 obtain ⟨pN,vN,mN,aN⟩:=tN
 refine ⟨_,(pss_cons (ps_set (i:=4) scPut.nd rfl (Or.inl rfl) (L3.pe_def dT hr (by decide) rfl (pa_cons (pv 0) (pa_cons (pv 1) pa_nil))))
   (pss_cons (ps_if (pt_not (pt_val (L3.pe_def dC hr (by decide) rfl (pa_cons (pv 4) pa_nil)))) (pss_one ps_dead) pss_nil)
   (pss_cons (.mk (L2.ps_dput (hu_of hr) (LE.out (L3.pe_fld (pv 4))) (LE.out (pv 2)) (LE.out (pv 3)) rfl))
   (pss_one (ps_ret (pe_tup (pa_cons pe_str (pa_cons (pe_glob (v:=.ref pN) rfl mN rfl) pa_nil)))))))),?_⟩
 refine ⟨_,rfl,_,rfl,W,l,gd,ps,os,gv,x,thD i,rfl,hw,hx,Vd.th (lt_of_some ho),fun v t=>?_⟩
 obtain ⟨p,_,rfl,dx,v1,hp,hv1,hfs⟩:=t.th ho
 obtain ⟨kvs,hd,hl,hf⟩:=hfs.put hn hy
 have w2:=hw.put ho hf
 refine ⟨_,rfl,p,dx,_,rfl,hp,_,rfl,iteF ⟨_,rfl,_,rfl,p,c.O,dx,_,_,rfl,hp,z.oc,z.o2,obF_fields ..,_,rfl,d,_,rfl,DPut.k (k:=.inr n) hd (small1000 (by omega)),?_⟩⟩
 have b2:But9 d H (upd H d (.dK (putK kvs (.inr n:Key) y))):=But9.put _ _
 revert w2 b2
 generalize upd H d (.dK (putK kvs (.inr n:Key) y))=H2
 intro w2 b2
 refine ⟨by show 2≤sizeLine; decide,fun t ht=>q _ _ (b2.trans (Same.but d (same_new ht _))) (w2.same (same_new ht _)) (At.new ht (AtAll2 (At_str.mpr rfl) (At_tup.mpr ⟨pN,vN,rfl,(aN _).1,(aN _).2⟩)))⟩
end
theorem strLen_app (a b:Str):(a++b).length=a.length+b.length:=by
 show (a.cps++b.cps).size=a.cps.size+b.cps.size
 rw[Array.size_append]
def tF3 (c:Str) (ta tb:TE):TE:=fun σ H Q=>ta σ H fun x H1=>∃a,x=.str a∧a.length≤1000∧tb σ H1 fun y H2=>∃b,y=.str b∧b.length≤1000∧Q (.str (Str.empty++a++c++b)) H2
theorem pe_f3 {X:Cx} {c:Str} {j:Nat} {e1 e2:Expr} {p1 p2 p3 pos:Pos} {ta tb:TE} (hc:c.length≤1000) (ha:LE X e1 ta) (hb:LE X e2 tb):LE X (.JoinedStr [.FormattedValue e1 (-1) none p1,.Constant (.str c) j p2,.FormattedValue e2 (-1) none p3] pos) (tF3 c ta tb):=by
 refine .mk fun pins s σ H Q I h=>?_
 have hz:Str.empty.length=0:=rfl
 have hS:=sizeLine_eq
 refine JoinedStr_many (joinParts_cons (FormattedValue_plain (thn (ha.out pins s σ H _ I h) fun u s1 ⟨x,H1,I1,rx,a,ea,la,q1⟩=>?_)))
 subst ea
 obtain ⟨t,rfl⟩:=rx
 refine formatField_str (fun t' tk=>⟨by rw[strLen_app]; omega,joinParts_cons (Calls.Constant_str ⟨by rw[strLen_app,strLen_app]; omega,?_⟩)⟩) (by omega)
 refine joinParts_cons (FormattedValue_plain (thn (hb.out pins _ σ H1 _ ((I1.tok tk).tok _) q1) fun u s2 ⟨y,H2,I2,ry,b,eb,lb,q2⟩=>?_))
 subst eb
 obtain ⟨t2,rfl⟩:=ry
 refine formatField_str (fun t' tk2=>⟨by rw[strLen_app,strLen_app,strLen_app]; omega,joinParts_nil ⟨.str _,H2,(I2.tok tk2).tok (tk2+1),⟨_,rfl⟩,q2⟩ (by rw[strLen_app,strLen_app,strLen_app]; omega)⟩) (by omega)
section
variable {P:Program} {w:World} {K:PySem.W.Frag} {mg:Str→Option Value} {base:Heap} {f:Addr} {fd:FuncData} {c:ClD}
def spNmd:Sp:=fun vs H Q _=>∃a b:Str,vs=[.str a,.str b]∧a.length≤1000∧b.length≤1000∧Q (.str (Str.empty++a++" "++b)) H
theorem scNmd:FnScope ["word","name"] ["word","name"] (defScope pNmd):=⟨rfl,rfl,rfl,by decide +kernel,rfl,by decide +kernel,by decide +kernel⟩
theorem ok_Nmd (F:Fun K "named" "named" pNmd f fd):FnOk P w K mg base CX0 1 f fd ["word","name"] spNmd:=by
 refine F.okI scNmd (fun vs H Q E h=>?_) (fun cdv A outer s H vs Q E hr h=>?_)
 ·obtain ⟨_,_,rfl,_⟩:=h; rfl
 obtain ⟨a,b,rfl,la,lb,q⟩:=h
 refine ⟨_,(pss_one (ps_ret (pe_f3 (by decide +kernel) (pv 0) (pv 1)))),?_⟩
 exact ⟨_,rfl,a,rfl,la,_,rfl,b,rfl,lb,q⟩
def anN (nm:Str):Str:=Str.empty++"a"++" "++nm
def spTot (K:PySem.W.Frag) (c:ClD):Sp:=fun vs H Q _=>∃(W l gd:Addr) (ps:List Addr) (os:List Th) (gv:List (Str×Nat)) (p:Addr) (i k:Nat) (d:Addr) (fs:Option (D×D×D)) (nm:Str) (ns:List Nat) (d':Addr),vs=[.ref W,.ref p]∧WAt K c H W l gd ps os gv∧ps[i]?=some p∧os[i]?=some (.ob k d fs)∧os[k]?=some (.kd nm ns d')∧nm.length≤1000∧Q (.str (anN nm)) H
theorem scTot:FnScope ["world","thing"] ["world","thing"] (defScope pTot):=⟨rfl,rfl,rfl,by decide +kernel,rfl,by decide +kernel,by decide +kernel⟩
theorem ok_Tot (g:Glb9 mg) (z:CsD K c) (hF:mg "Function"=some (.ref c.F)) (hG:mg "Given"=some (.ref c.G)) (hM:mg "Method"=some (.ref c.M)) (hK:mg "Kind"=some (.ref c.Kd)) (hO:mg "Object"=some (.ref c.O)) (F:Fun K "text_of_thing" "text_of_thing" pTot f fd) (dT:Def P w K mg base "thing_of" ["world","a"] 1 (spTh K c)) (dN:Def P w K mg base "named" ["word","name"] 1 spNmd):FnOk P w K mg base CX0 2 f fd ["world","thing"] (spTot K c):=by
 refine F.okI scTot (fun vs H Q E h=>?_) (fun cdv A outer s H vs Q E hr h=>?_)
 ·obtain ⟨_,_,_,_,_,_,_,_,_,_,_,_,_,_,rfl,_⟩:=h; rfl
 obtain ⟨W,l,gd,ps,os,gv,p,i,k,d,fs,nm,ns,d',rfl,hw,hi,ho,hk,hl,q⟩:=h
 refine ⟨_,(pss_cons (ps_if (LW.pt (pw_or (pt_val (pe_callB call_isO rfl g.nIsi b9Isi (pa_cons (pv 1) (pa_cons (pe_glob (v:=.ref c.F) rfl hF rfl) pa_nil)))) (pw_or1 (pt_val (pe_callB call_isO rfl g.nIsi b9Isi (pa_cons (pv 1) (pa_cons (pe_glob (v:=.ref c.G) rfl hG rfl) pa_nil))))))) (pss_one ps_dead) pss_nil)
   (pss_cons (ps_if (pt_val (pe_callB call_isO rfl g.nIsi b9Isi (pa_cons (pv 1) (pa_cons (pe_glob (v:=.ref c.M) rfl hM rfl) pa_nil)))) (pss_one ps_dead) pss_nil)
   (pss_cons (ps_if (pt_val (pe_callB call_isO rfl g.nIsi b9Isi (pa_cons (pv 1) (pa_cons (pe_glob (v:=.ref c.Kd) rfl hK rfl) pa_nil)))) (pss_one ps_dead) pss_nil)
   (pss_cons (ps_if (pt_val (pe_callB call_isO rfl g.nIsi b9Isi (pa_cons (pv 1) (pa_cons (pe_glob (v:=.ref c.O) rfl hO rfl) pa_nil)))) (pss_one (ps_ret (L3.pe_def dN hr (by decide) rfl (pa_cons pe_str (pa_cons (L3.pe_fld (L3.pe_def dT hr (by decide) rfl (pa_cons (pv 0) (pa_cons (L3.pe_fld (pv 1)) pa_nil)))) pa_nil))))) pss_nil)
   (pss_one ps_dead))))),?_⟩
 obtain ⟨dx,v1,hp,hv1,_⟩:=hw.o i p _ hi ho
 refine ⟨_,rfl,_,c.F,false,rfl,.inl ⟨p,c.O,dx,_,rfl,hp,z.iO,z.tF.tO⟩,_,rfl,iteF ⟨_,rfl,_,c.G,false,rfl,.inl ⟨p,c.O,dx,_,rfl,hp,z.iO,z.tG.tO⟩,_,rfl,iteF ?_⟩⟩
 refine ⟨_,rfl,_,c.M,false,rfl,.inl ⟨p,c.O,dx,_,rfl,hp,z.iO,z.tM.tO⟩,_,rfl,iteF ?_⟩
 refine ⟨_,rfl,_,c.Kd,false,rfl,.inl ⟨p,c.O,dx,_,rfl,hp,z.iO,z.tK.tO⟩,_,rfl,iteF ?_⟩
 refine ⟨_,rfl,_,c.O,true,rfl,.inl ⟨p,c.O,dx,_,rfl,hp,z.iO,z.tO.tO⟩,_,rfl,iteT ?_⟩
 refine ⟨_,rfl,_,rfl,p,c.O,dx,_,_,rfl,hp,z.oc,z.o1,obF_kind ..,W,l,gd,ps,os,gv,v1,thD k,rfl,hw,hv1,Vd.th (lt_of_some hk),fun v t=>?_⟩
 obtain ⟨p',_,rfl,dx',vo,v4,hp',ha,_⟩:=t.th hk
 exact ⟨p',c.Kd,dx',_,_,rfl,hp',z.kc,z.k1,kdF_name ..,"a",nm,rfl,by decide +kernel,hl,q⟩
def spTxt (K:PySem.W.Frag) (c:ClD):Sp:=fun vs H Q _=>∃(W l gd:Addr) (ps:List Addr) (os:List Th) (gv:List (Str×Nat)) (x:V) (i k:Nat) (d:Addr) (fs:Option (D×D×D)) (nm:Str) (ns:List Nat) (d':Addr),vs=[.ref W,x]∧WAt K c H W l gd ps os gv∧At K H (thD i) x∧os[i]?=some (.ob k d fs)∧os[k]?=some (.kd nm ns d')∧nm.length≤1000∧Q (.str (anN nm)) H
theorem scTxt:FnScope ["world","a"] ["world","a"] (defScope pTxt):=⟨rfl,rfl,rfl,by decide +kernel,rfl,by decide +kernel,by decide +kernel⟩
theorem ok_Txt (F:Fun K "text_of" "text_of" pTxt f fd) (dT:Def P w K mg base "thing_of" ["world","a"] 1 (spTh K c)) (dX:Def P w K mg base "text_of_thing" ["world","thing"] 2 (spTot K c)):FnOk P w K mg base CX0 3 f fd ["world","a"] (spTxt K c):=by
 refine F.okI scTxt (fun vs H Q E h=>?_) (fun cdv A outer s H vs Q E hr h=>?_)
 ·obtain ⟨_,_,_,_,_,_,_,_,_,_,_,_,_,_,rfl,_⟩:=h; rfl
 obtain ⟨W,l,gd,ps,os,gv,x,i,k,d,fs,nm,ns,d',rfl,hw,hx,ho,hk,hl,q⟩:=h
 refine ⟨_,(pss_cons (ps_if (pt_cmpR op_eq (pe_nth (pv 1)) pe_str (nomark _)) (pss_one (ps_ret (L3.pe_def dX hr (by decide) rfl (pa_cons (pv 0) (pa_cons (L3.pe_def dT hr (by decide) rfl (pa_cons (pv 0) (pa_cons (pv 1) pa_nil))) pa_nil))))) pss_nil)
   (pss_one ps_dead)),?_⟩
 refine ⟨_,rfl,0,_,_,rfl,hx,rfl,fun yk hyk=>?_⟩
 rw[At_str.mp hyk]
 refine ⟨rfl,_,rfl,iteT ⟨_,rfl,_,rfl,_,rfl,W,l,gd,ps,os,gv,x,thD i,rfl,hw,hx,Vd.th (lt_of_some ho),fun v t=>?_⟩⟩
 obtain ⟨p,hp,rfl,_⟩:=t.th ho
 exact ⟨W,l,gd,ps,os,gv,p,i,k,d,fs,nm,ns,d',rfl,hw,hp,ho,hk,hl,q⟩
end
abbrev pRai:Stmt:=topd 32
abbrev pBnd:Stmt:=topd 33
abbrev pFit:Stmt:=topd 34
abbrev pBeh:Stmt:=topd 35
abbrev pNms:Stmt:=topd 36
def raiR (os:List Th) (d:D):D:=if isF os (thO os d) then .tup [.str "value",d] else if isFC (thO os d) then .tup [.str "call",d] else kF
def heldD (i:Nat):Option Nat→D
 | none=>noD
 | some j=>if j=i then noD else thD j
def fitR (os:List Th) (ns:List Nat) (d:D):D:=if isFC (thO os d) then .tup [.str "value",.tup [.str "truth",.bl ((ns.map thD).any fun e=>eqD e d)]] else kF
def thI:D→Option Nat
 | .tup [.str k,.int i]=>if k="thing"∧0≤i then some i.toNat else none
 | _=>none
theorem thI_th (i:Nat):thI (thD i)=some i:=by
 show (if ("thing":Str)="thing"∧(0:Int)≤(i:Nat) then some ((i:Nat):Int).toNat else none)=_
 rw[if_pos ⟨rfl,by omega⟩,Int.toNat_natCast]
theorem Vd.isF {os:List Th} {d:D} (h:Vd os d) (e:GS.isF os (thO os d)=true):∃j k dd fs,d=thD j∧os[j]?=some (.ob k dd fs)∧isFC os[k]?=true:=by
 rcases h.cases with ⟨i,rfl,hi⟩ | ⟨k,r,_,_,h⟩
 ·rw[thO_th] at e
  cases ho:os[i]? with
  | none=>rw[ho] at e; cases e
  | some o=>
   rw[ho] at e
   cases o with
   | ob k dd fs=>exact ⟨i,k,dd,fs,rfl,ho,e⟩
   | kd nm ns dd=>cases e
   | gvn n=>cases e
   | fn=>cases e
   | vw=>cases e
 ·rw[h] at e; cases e
def behI (os:List Th) (fx:D×D×D):Option Nat:=if isF os (thO os fx.2.1) then thI fx.2.1 else if isF os (thO os fx.2.2) then thI fx.2.2 else none
def nmO (os:List Th) (i:Nat):Str:=match os[i]? with
 | some (.ob k _ _)=>(match os[k]? with | some (.kd nm _ _)=>nm | _=>"")
 | _=>""
def fxO (os:List Th) (i:Nat):D×D×D:=match os[i]? with
 | some (.ob _ _ (some fx))=>fx
 | _=>(noD,noD,noD)
def nmsO (os:List Th):Nat→Option Nat→List Str
 | 0,_=>[]
 | _+1,none=>[]
 | n+1,some i=>nmO os i::nmsO os n (behI os (fxO os i))
structure FlO (os:List Th):Prop where
 f:∀(i k:Nat) d fs,os[i]?=some (.ob k d fs)→isFC os[k]?=true→∃fx,fs=some fx
 v:∀(i k:Nat) d fx,os[i]?=some (.ob k d (some fx))→Vd os fx.2.1∧Vd os fx.2.2
theorem behI_ok {os:List Th} {fx:D×D×D} (h1:Vd os fx.2.1) (h2:Vd os fx.2.2) {j:Nat} (e:behI os fx=some j):∃k dd fs,os[j]?=some (.ob k dd fs)∧isFC os[k]?=true:=by
 unfold behI at e
 split at e
 ·rename_i c
  obtain ⟨j',k,dd,fs,e1,e2,e3⟩:=h1.isF c
  rw[e1,thI_th] at e; cases e
  exact ⟨k,dd,fs,e2,e3⟩
 ·split at e
  ·rename_i c
   obtain ⟨j',k,dd,fs,e1,e2,e3⟩:=h2.isF c
   rw[e1,thI_th] at e; cases e
   exact ⟨k,dd,fs,e2,e3⟩
  ·cases e
theorem set_ii {α:Type} (l:List α) (i:Nat) (a b:α):(l.set i a).set i b=l.set i b:=List.set_set ..
theorem TreeG.at {K:PySem.W.Frag} {ds:List D} {p:Addr} {vs:List V} (a:∀H,SqT K H p vs∧AtAll K H ds vs) (H:Hp):At K H (.tup ds) (.ref p):=At_tup.mpr ⟨p,vs,rfl,(a H).1,(a H).2⟩
section
variable {P:Program} {w:World} {K:PySem.W.Frag} {mg:Str→Option Value} {base:Heap} {f:Addr} {fd:FuncData} {c:ClD}
def spRai (K:PySem.W.Frag) (c:ClD):Sp:=fun vs H Q _=>∃(W l gd:Addr) (ps:List Addr) (os:List Th) (gv:List (Str×Nat)) (x:V) (d:D),vs=[.ref W,x]∧WAt K c H W l gd ps os gv∧At K H d x∧Vd os d∧WfO os∧((("Fault":Str),9):Str×Nat)∈gv∧∀r H',Same H H'→At K H' (raiR os d) r→Q r H'
theorem scRai:FnScope ["world","a"] ["world","a"] (defScope pRai):=⟨rfl,rfl,rfl,by decide +kernel,rfl,by decide +kernel,by decide +kernel⟩
theorem ok_Rai (F:Fun K "raised_of" "raised_of" pRai f fd) (dF:Def P w K mg base "is_fault" ["world","a"] 4 (spFlt K c)) (dC:Def P w K mg base "is_fault_class" ["world","a"] 3 (spFC K c)):FnOk P w K mg base CX0 5 f fd ["world","a"] (spRai K c):=by
 refine F.okI scRai (fun vs H Q E h=>?_) (fun cdv A outer s H vs Q E hr h=>?_)
 ·obtain ⟨_,_,_,_,_,_,_,_,rfl,_⟩:=h; rfl
 obtain ⟨W,l,gd,ps,os,gv,x,d,rfl,hw,hx,hv,hf,hg,q⟩:=h
 refine ⟨_,(pss_cons (ps_if (pt_val (L3.pe_def dF hr (by decide) rfl (pa_cons (pv 0) (pa_cons (pv 1) pa_nil)))) (pss_one (ps_ret (pe_tup (pa_cons pe_str (pa_cons (pv 1) pa_nil))))) pss_nil)
   (pss_one (ps_ret (pe_ifExp (pt_val (L3.pe_def dC hr (by decide) rfl (pa_cons (pv 0) (pa_cons (pv 1) pa_nil)))) (pe_tup (pa_cons pe_str (pa_cons (pv 1) pa_nil))) (pe_tup (pa_cons pe_str (pa_cons pe_str pa_nil))))))),?_⟩
 refine ⟨_,rfl,_,rfl,W,l,gd,ps,os,gv,x,d,rfl,hw,hx,hv,hf,hg,_,rfl,?_⟩
 unfold raiR at q
 cases e1:isF os (thO os d) with
 | true=>
  rw[e1,if_pos rfl] at q
  exact iteT ⟨_,rfl,by show 2≤sizeLine; decide,fun p hp=>q _ _ (same_new hp _) (At.new hp (AtAll2 (At_str.mpr rfl) hx))⟩
 | false=>
  rw[e1,if_neg Bool.false_ne_true] at q
  refine iteF ⟨_,rfl,_,rfl,W,l,gd,ps,os,gv,x,d,rfl,hw,hx,hv,hg,_,rfl,?_⟩
  cases e2:isFC (thO os d) with
  | true=>
   rw[e2,if_pos rfl] at q
   exact iteT ⟨_,rfl,by show 2≤sizeLine; decide,fun p hp=>q _ _ (same_new hp _) (At.new hp (AtAll2 (At_str.mpr rfl) hx))⟩
  | false=>
   rw[e2,if_neg Bool.false_ne_true] at q
   exact iteF ⟨by show 2≤sizeLine; decide,fun p hp=>q _ _ (same_new hp _) (At.new hp (AtAll2 (At_str.mpr rfl) (At_str.mpr rfl)))⟩
def spBnd (K:PySem.W.Frag) (c:ClD):Sp:=fun vs H Q _=>∃(W l gd:Addr) (ps:List Addr) (os:List Th) (gv:List (Str×Nat)) (x y u:V) (i k:Nat) (d:Addr) (fx:D×D×D) (dc:D) (hd:Option Nat),vs=[.ref W,x,y,u]∧WAt K c H W l gd ps os gv∧At K H (thD i) x∧os[i]?=some (.ob k d (some fx))∧At K H dc y∧((hd=none∧u=.non)∨∃j,hd=some j∧At K H (thD j) u)∧
 ∀H',But9 d H H'→WAt K c H' W l gd ps (os.set i (.ob k d (some (fx.1,dc,heldD i hd)))) gv→Q .non H'
def tHeld (K:PySem.W.Frag):TE:=fun σ H Q=>∃(x u:V) (i:Nat) (hd:Option Nat),σ[1]?=some (some x)∧σ[3]?=some (some u)∧At K H (thD i) x∧((hd=none∧u=.non)∨∃j,hd=some j∧At K H (thD j) u)∧∀v,At K H (heldD i hd) v→Q v H
theorem scBnd:FnScope ["world","fault","cause","held","fields"] ["world","fault","cause","held"] (defScope pBnd):=⟨rfl,rfl,rfl,by decide +kernel,rfl,by decide +kernel,by decide +kernel⟩
theorem ok_Bnd (z:CsD K c) (tN:TreeG K mg "NONE" [.str "none"]) (F:Fun K "bind_raised" "bind_raised" pBnd f fd) (dT:Def P w K mg base "thing_of" ["world","a"] 1 (spTh K c)):FnOk P w K mg base CX0 2 f fd ["world","fault","cause","held"] (spBnd K c):=by
 refine F.okI scBnd (fun vs H Q E h=>?_) (fun cdv A outer s H vs Q E hr h=>?_)
 ·obtain ⟨_,_,_,_,_,_,_,_,_,_,_,_,_,_,_,rfl,_⟩:=h; rfl
 obtain ⟨W,l,gd,ps,os,gv,x,y,u,i,k,d,fx,dc,hd,rfl,hw,hx,ho,hy,hu,q⟩:=h
 obtain ⟨pN,vN,mN,aN⟩:=tN
 refine ⟨_,(pss_cons (ps_set (i:=4) scBnd.nd rfl (Or.inl rfl) (L3.pe_fld (L3.pe_def dT hr (by decide) rfl (pa_cons (pv 0) (pa_cons (pv 1) pa_nil)))))
   (pss_cons (.mk (L2.ps_dput (hu_of hr) (LE.out (pv 4)) (LE.out pe_str) (LE.out (pv 2)) rfl))
   (pss_one (.mk (L2.ps_dput (hu_of hr) (LE.out (pv 4)) (LE.out pe_str) (LE.out (le_imp (t':=tHeld K) (pe_ifExp (LW.pt (pw_or (pt_cmpR op_isN (pv 3) pe_non (nomark _)) (pw_or1 (pt_cmpR (op_eqD hr) (pv 3) (pv 1) (nomark _))))) (pe_glob (v:=.ref pN) rfl mN rfl) (pv 3)) ?held)) rfl))))),?main⟩
 case held=>
  rintro σ H Q ⟨x,u,i,hd,e1,e3,hx,hu,q⟩
  rcases hu with ⟨rfl,rfl⟩ | ⟨j,rfl,hu⟩
  ·exact ⟨_,e3,rfl,_,rfl,iteT (iteT (q _ (TreeG.at aN H)))⟩
  ·have nu:=hu.tupR
   refine ⟨_,e3,rfl,_,rfl,?_⟩
   rw[decide_eq_false nu]
   refine iteF ⟨_,e3,_,e1,thD j,thD i,hu,hx,by rw[dep_th]; decide,_,rfl,?_⟩
   rw[eqD_th]
   by_cases e:j=i
   ·rw[decide_eq_true e]
    refine iteT (q _ ?_)
    show At K H (if j=i then noD else thD j) _
    rw[if_pos e]
    exact TreeG.at aN H
   ·rw[decide_eq_false e]
    refine iteF ⟨_,e3,q _ ?_⟩
    show At K H (if j=i then noD else thD j) _
    rw[if_neg e]
    exact hu
 case main=>
  refine ⟨_,rfl,_,rfl,W,l,gd,ps,os,gv,x,thD i,rfl,hw,hx,Vd.th (lt_of_some ho),fun v t=>?_⟩
  obtain ⟨p,_,rfl,dx,v1,hp,hv1,hfs⟩:=t.th ho
  obtain ⟨kvs,hd1,hl1,hf1⟩:=hfs.put (n:="cause") (.inl rfl) hy
  have w1:=hw.put ho hf1
  refine ⟨p,c.O,dx,_,_,rfl,hp,z.oc,z.o2,obF_fields ..,_,rfl,_,rfl,d,_,rfl,DPut.k (k:=.inr "cause") hd1 (small1000 (by omega)),?_⟩
  have b1:But9 d H (upd H d (.dK (putK kvs (.inr "cause":Key) y))):=But9.put _ _
  have f1:Fx H (upd H d (.dK (putK kvs (.inr "cause":Key) y))):=Fx.put hd1 rfl
  revert w1 b1 f1 hf1
  generalize upd H d (.dK (putK kvs (.inr "cause":Key) y))=H1
  intro hf1 w1 b1 f1
  refine ⟨x,u,i,hd,rfl,rfl,At.fx f1 _ _ hx,hu.imp id (fun ⟨j,a,b⟩=>⟨j,a,At.fx f1 _ _ b⟩),fun v hv=>?_⟩
  obtain ⟨kvs2,hd2,hl2,hf2⟩:=hf1.put (n:="context") (.inr rfl) hv
  have ho2:(os.set i (.ob k d (some (putD "cause" fx dc))))[i]?=some (.ob k d (some (putD "cause" fx dc))):=List.getElem?_set_self (lt_of_some ho)
  have w2:=w1.put ho2 hf2
  rw[set_ii] at w2
  refine ⟨_,rfl,d,_,rfl,DPut.k (k:=.inr "context") hd2 (small1000 (by omega)),q _ (b1.trans (But9.put _ _)) w2⟩
def spFit (K:PySem.W.Frag) (c:ClD):Sp:=fun vs H Q _=>∃(W l gd:Addr) (ps:List Addr) (os:List Th) (gv:List (Str×Nat)) (x y:V) (i k:Nat) (dd:Addr) (fs:Option (D×D×D)) (nm:Str) (ns:List Nat) (d':Addr) (d:D),vs=[.ref W,x,y]∧WAt K c H W l gd ps os gv∧At K H (thD i) x∧os[i]?=some (.ob k dd fs)∧os[k]?=some (.kd nm ns d')∧At K H d y∧Vd os d∧((("Fault":Str),9):Str×Nat)∈gv∧∀r H',Same H H'→At K H' (fitR os ns d) r→Q r H'
theorem scFit:FnScope ["world","fault","a","kind"] ["world","fault","a"] (defScope pFit):=⟨rfl,rfl,rfl,by decide +kernel,rfl,by decide +kernel,by decide +kernel⟩
theorem ok_Fit (z:CsD K c) (F:Fun K "fits" "fits" pFit f fd) (dC:Def P w K mg base "is_fault_class" ["world","a"] 3 (spFC K c)) (dT:Def P w K mg base "thing_of" ["world","a"] 1 (spTh K c)):FnOk P w K mg base CX0 4 f fd ["world","fault","a"] (spFit K c):=by
 refine F.okI scFit (fun vs H Q E h=>?_) (fun cdv A outer s H vs Q E hr h=>?_)
 ·obtain ⟨_,_,_,_,_,_,_,_,_,_,_,_,_,_,_,_,rfl,_⟩:=h; rfl
 obtain ⟨W,l,gd,ps,os,gv,x,y,i,k,dd,fs,nm,ns,d',d,rfl,hw,hx,ho,hk,hy,hv,hg,q⟩:=h
 refine ⟨_,(pss_cons (ps_if (pt_not (pt_val (L3.pe_def dC hr (by decide) rfl (pa_cons (pv 0) (pa_cons (pv 2) pa_nil))))) (pss_one (ps_ret (pe_tup (pa_cons pe_str (pa_cons pe_str pa_nil))))) pss_nil)
   (pss_cons (ps_set (i:=3) scFit.nd rfl (Or.inl rfl) (L3.pe_def dT hr (by decide) rfl (pa_cons (pv 0) (pa_cons (L3.pe_fld (L3.pe_def dT hr (by decide) rfl (pa_cons (pv 0) (pa_cons (pv 1) pa_nil)))) pa_nil))))
   (pss_one (ps_ret (pe_tup (pa_cons pe_str (pa_cons (pe_tup (pa_cons pe_str (pa_cons (pe_cmpR (op_inD hr) (pv 2) (L3.pe_fld (pv 3)) rfl) pa_nil))) pa_nil))))))),?_⟩
 refine ⟨_,rfl,_,rfl,W,l,gd,ps,os,gv,y,d,rfl,hw,hy,hv,hg,_,rfl,?_⟩
 unfold fitR at q
 cases e1:isFC (thO os d) with
 | false=>
  rw[e1,if_neg Bool.false_ne_true] at q
  exact iteT ⟨by show 2≤sizeLine; decide,fun p hp=>q _ _ (same_new hp _) (At.new hp (AtAll2 (At_str.mpr rfl) (At_str.mpr rfl)))⟩
 | true=>
  rw[e1,if_pos rfl] at q
  refine iteF ⟨_,rfl,_,rfl,_,rfl,W,l,gd,ps,os,gv,x,thD i,rfl,hw,hx,Vd.th (lt_of_some ho),fun v t=>?_⟩
  obtain ⟨p,_,rfl,dx,v1,hp,hv1,_⟩:=t.th ho
  refine ⟨p,c.O,dx,_,_,rfl,hp,z.oc,z.o1,obF_kind ..,W,l,gd,ps,os,gv,v1,thD k,rfl,hw,hv1,Vd.th (lt_of_some hk),fun v t=>?_⟩
  obtain ⟨p',_,rfl,dx',vo,v4,hp',ha,_⟩:=t.th hk
  refine ⟨_,rfl,_,rfl,p',c.Kd,dx',_,_,rfl,hp',z.kc,z.k2,kdF_order ..,d,ns.map thD,hy,ha,fun e he=>?_,?_⟩
  ·obtain ⟨n,_,rfl⟩:=List.mem_map.mp he
   rw[dep_th]; decide
  ·rw[if_neg Bool.false_ne_true]
   refine ⟨by show 2≤sizeLine; decide,fun t1 ht1=>⟨by show 2≤sizeLine; decide,fun t2 ht2=>?_⟩⟩
   exact q _ _ ((same_new ht1 _).trans (same_new ht2 _)) (At.new ht2 (AtAll2 (At_str.mpr rfl) (At.new ht1 (AtAll2 (At_str.mpr rfl) (At_bl.mpr rfl)))))
def spBeh (K:PySem.W.Frag) (c:ClD):Sp:=fun vs H Q _=>∃(W l gd:Addr) (ps:List Addr) (os:List Th) (gv:List (Str×Nat)) (x:V) (i k:Nat) (d:Addr) (fx:D×D×D),vs=[.ref W,x]∧WAt K c H W l gd ps os gv∧At K H (thD i) x∧os[i]?=some (.ob k d (some fx))∧WfO os∧Vd os fx.2.1∧Vd os fx.2.2∧((("Fault":Str),9):Str×Nat)∈gv∧
 ∀v H',Same H H'→((behI os fx=none∧v=.non)∨∃j,behI os fx=some j∧At K H' (thD j) v)→Q v H'
theorem scBeh:FnScope ["world","fault","fields","name"] ["world","fault"] (defScope pBeh):=⟨rfl,rfl,rfl,by decide +kernel,rfl,by decide +kernel,by decide +kernel⟩
theorem ok_Beh (z:CsD K c) (F:Fun K "fault_behind" "fault_behind" pBeh f fd) (dT:Def P w K mg base "thing_of" ["world","a"] 1 (spTh K c)) (dF:Def P w K mg base "is_fault" ["world","a"] 4 (spFlt K c)):FnOk P w K mg base CX0 5 f fd ["world","fault"] (spBeh K c):=by
 refine F.okI scBeh (fun vs H Q E h=>?_) (fun cdv A outer s H vs Q E hr h=>?_)
 ·obtain ⟨_,_,_,_,_,_,_,_,_,_,_,rfl,_⟩:=h; rfl
 obtain ⟨W,l,gd,ps,os,gv,x,i,k,d,fx,rfl,hw,hx,ho,hf,hv1,hv2,hg,q⟩:=h
 refine ⟨_,(pss_cons (ps_set (i:=2) scBeh.nd rfl (Or.inl rfl) (L3.pe_fld (L3.pe_def dT hr (by decide) rfl (pa_cons (pv 0) (pa_cons (pv 1) pa_nil)))))
   (pss_cons (ps_for PassesOwn.never rfl (pi_tup (pe_tup (pa_cons pe_str (pa_cons pe_str pa_nil)))) (pg_name (i:=3) scBeh.nd rfl (Or.inl rfl)) (pss_one (ps_if (pt_val (L3.pe_def dF hr (by decide) rfl (pa_cons (pv 0) (pa_cons (L3.pe_dget (hu_of hr) (pv 2) (pv 3)) pa_nil)))) (pss_one (ps_ret (L3.pe_dget (hu_of hr) (pv 2) (pv 3)))) pss_nil)))
   (pss_one (ps_ret pe_non)))),?_⟩
 refine ⟨_,rfl,_,rfl,W,l,gd,ps,os,gv,x,thD i,rfl,hw,hx,Vd.th (lt_of_some ho),fun v t=>?_⟩
 obtain ⟨p,_,rfl,dx,vk,hp,hvk,a,b,e,hd,ha,hb,he⟩:=t.th ho
 refine ⟨p,c.O,dx,_,_,rfl,hp,z.oc,z.o2,obF_fields ..,by show 2≤sizeLine; decide,fun pt hpt=>?_⟩
 have s1:Same H (upd H pt (.tup [.str "cause",.str "context"])):=same_new hpt _
 have sq:SqT K (upd H pt (.tup [.str "cause",.str "context"])) pt [.str "cause",.str "context"]:=SqT.of upd_same
 revert s1 sq
 generalize upd H pt (.tup [.str "cause",.str "context"])=H1
 intro s1 sq
 have hw1:=hw.same s1
 have g1:DGet H1 d (.str "cause") (some b):=by
  have:=DGet.k (k:=.inr "cause") (s1 _ _ hd)
  rw[valV_fK,if_neg (by decide +kernel),if_pos rfl] at this
  exact this
 have g2:DGet H1 d (.str "context") (some e):=by
  have:=DGet.k (k:=.inr "context") (s1 _ _ hd)
  rw[valV_fK,if_neg (by decide +kernel),if_neg (by decide +kernel),if_pos rfl] at this
  exact this
 have hb1:=At.same s1 _ _ hb
 have he1:=At.same s1 _ _ he
 refine ⟨pt,rfl,⟨_,sq⟩,for_tup (K:=K) (a:=pt) (xs:=[.str "cause",.str "context"]) (fun j σ H'=>(∃o3,σ=[some (.ref W),some x,some (.ref d),o3])∧H'=H1∧(1≤j→isF os (thO os fx.2.1)=false)∧(2≤j→isF os (thO os fx.2.2)=false)) ⟨⟨_,rfl⟩,rfl,fun h=>absurd h (by decide),fun h=>absurd h (by decide)⟩ (fun i σ H' _ h=>h.2.1 ▸ sq) ?t ?s⟩
 case s=>
  rintro σ H' ⟨⟨o3,rfl⟩,rfl,h1,h2⟩
  refine q _ _ s1 (.inl ⟨?_,rfl⟩)
  unfold behI
  rw[h1 (by decide),h2 (by decide)]; rfl
 case t=>
  rintro j u σ H' hu ⟨⟨o3,rfl⟩,rfl,h1,h2⟩
  match j,hu with
  | 0,hu=>
   cases hu
   refine ⟨_,rfl,_,rfl,_,rfl,d,_,rfl,g1,W,l,gd,ps,os,gv,b,_,rfl,hw1,hb1,hv1,hf,hg,_,rfl,?_⟩
   cases e1:isF os (thO os fx.2.1) with
   | true=>
    obtain ⟨j',k',dd,fs,e3,e4,e5⟩:=hv1.isF e1
    refine iteT ⟨_,rfl,_,rfl,d,_,rfl,g1,q _ _ s1 (.inr ⟨j',?_,e3 ▸ hb1⟩)⟩
    unfold behI
    rw[e1,if_pos rfl,e3,thI_th]
   | false=>exact iteF ⟨⟨_,rfl⟩,rfl,fun _=>rfl,fun h=>absurd h (by decide)⟩
  | 1,hu=>
   cases hu
   refine ⟨_,rfl,_,rfl,_,rfl,d,_,rfl,g2,W,l,gd,ps,os,gv,e,_,rfl,hw1,he1,hv2,hf,hg,_,rfl,?_⟩
   cases e1:isF os (thO os fx.2.2) with
   | true=>
    obtain ⟨j',k',dd,fs,e3,e4,e5⟩:=hv2.isF e1
    refine iteT ⟨_,rfl,_,rfl,d,_,rfl,g2,q _ _ s1 (.inr ⟨j',?_,e3 ▸ he1⟩)⟩
    unfold behI
    rw[h1 (by decide),if_neg Bool.false_ne_true,e1,if_pos rfl,e3,thI_th]
   | false=>exact iteF ⟨⟨_,rfl⟩,rfl,fun _=>h1 (by decide),fun _=>rfl⟩
  | j+2,hu=>cases hu
def spNms (K:PySem.W.Frag) (c:ClD):Sp:=fun vs H Q _=>∃(W l gd:Addr) (ps:List Addr) (os:List Th) (gv:List (Str×Nat)) (x:V) (i k:Nat) (d:Addr) (fs:Option (D×D×D)),vs=[.ref W,x]∧WAt K c H W l gd ps os gv∧At K H (thD i) x∧os[i]?=some (.ob k d fs)∧isFC os[k]?=true∧WfO os∧FlO os∧((("Fault":Str),9):Str×Nat)∈gv∧
 ∀p H',Same H H'→H' p=some (.lst ((nmsO os 8 (some i)).map V.str))→Q (.ref p) H'
theorem scNms:FnScope ["world","fault","names","behind"] ["world","fault"] (defScope pNms):=⟨rfl,rfl,rfl,by decide +kernel,rfl,by decide +kernel,by decide +kernel⟩
theorem ok_Nms (g:Glb9 mg) (z:CsD K c) (hM:∃t,mg "MOST_NAMES"=some (.int 8 t)) (F:Fun K "names_of" "names_of" pNms f fd) (dT:Def P w K mg base "thing_of" ["world","a"] 1 (spTh K c)) (dB:Def P w K mg base "fault_behind" ["world","fault"] 5 (spBeh K c)):FnOk P w K mg base CX0 6 f fd ["world","fault"] (spNms K c):=by
 refine F.okI scNms (fun vs H Q E h=>?_) (fun cdv A outer s H vs Q E hr h=>?_)
 ·obtain ⟨_,_,_,_,_,_,_,_,_,_,_,rfl,_⟩:=h; rfl
 obtain ⟨W,l,gd,ps,os,gv,x,i,k,d,fs,rfl,hw,hx,ho,hk,hf,hfl,hg,q⟩:=h
 refine ⟨_,(pss_cons (ps_set (i:=2) scNms.nd rfl (Or.inl rfl) (pe_lst pa_nil))
   (pss_cons (ps_set (i:=3) scNms.nd rfl (Or.inl rfl) (pv 1))
   (pss_cons (ps_while PassesOwn.never (LW.pt (pw_and (pt_cmpR op_notN (pv 3) pe_non (nomark _)) (pw_and1 (pt_cmpR op_lt (pe_callB call_len_seq rfl g.nLen b9Len (pa_cons (pv 2) pa_nil)) (L3.pe_gint rfl hM) (nomark _))))) (pss_cons (ps_expr (pe_bm PySem.F.plainAttrs_list PySem.F.slot_list_append PySem.F.type_list_append mt_append (pv 2) (pa_cons (L3.pe_fld (L3.pe_def dT hr (by decide) rfl (pa_cons (pv 0) (pa_cons (L3.pe_fld (L3.pe_def dT hr (by decide) rfl (pa_cons (pv 0) (pa_cons (pv 3) pa_nil)))) pa_nil)))) pa_nil)))
   (pss_one (ps_set (i:=3) scNms.nd rfl (Or.inl rfl) (L3.pe_def dB hr (by decide) rfl (pa_cons (pv 0) (pa_cons (pv 3) pa_nil)))))))
   (pss_one (ps_ret (pv 2)))))),?_⟩
 refine ⟨Nat.zero_le _,fun pn hpn=>⟨_,rfl,?_⟩⟩
 have s0:Same H (upd H pn (.lst [])):=same_new hpn _
 have l0:upd H pn (.lst []) pn=some (.lst []):=upd_same
 revert s0 l0
 generalize upd H pn (.lst [])=H0
 intro s0 l0
 refine ⟨fun m σ H'=>∃(v:V) (bh:Option Nat) (acc:List Str),σ=[some (.ref W),some x,some (.ref pn),some v]∧Same H H'∧H' pn=some (.lst (acc.map V.str))∧acc.length+m=8∧acc++nmsO os m bh=nmsO os 8 (some i)∧((bh=none∧v=.non)∨∃j k d fs,bh=some j∧At K H' (thD j) v∧os[j]?=some (.ob k d fs)∧isFC os[k]?=true),⟨8,x,some i,[],rfl,s0,l0,rfl,rfl,.inr ⟨i,k,d,fs,rfl,At.same s0 _ _ hx,ho,hk⟩⟩,?_⟩
 rintro m σ H1 ⟨v,bh,acc,rfl,s1,l1,hm,hacc,hb⟩
 rcases hb with ⟨rfl,rfl⟩ | ⟨j,k1,d1,fs1,rfl,hv,hj,hk1⟩
 ·refine ⟨_,rfl,rfl,_,rfl,iteF (iteF ⟨_,rfl,q _ _ s1 ?_⟩)⟩
  rw[← hacc]
  have:nmsO os m none=[]:=by cases m <;> rfl
  rw[this,List.append_nil]
  exact l1
 ·have nv:=hv.tupR
  refine ⟨_,rfl,rfl,_,rfl,?_⟩
  rw[decide_eq_false nv]
  refine iteT ⟨_,rfl,pn,_,rfl,.inl (SqL.of l1),_,_,rfl,rfl,_,rfl,?_⟩
  rw[List.length_map]
  cases m with
  | zero=>
   rw[decide_eq_false (by omega)]
   refine iteF ⟨_,rfl,q _ _ s1 ?_⟩
   rw[← hacc]
   have:nmsO os 0 (some j)=[]:=rfl
   rw[this,List.append_nil]
   exact l1
  | succ m=>
   rw[decide_eq_true (by omega)]
   have hw1:=hw.same s1
   obtain ⟨nm,ns,d',hkd⟩:=hf.o j k1 d1 fs1 hj
   obtain ⟨fx,rfl⟩:=hfl.f j k1 d1 fs1 hj hk1
   have hvd:=hfl.v j k1 d1 fx hj
   refine iteT ⟨fun σ' H'=>∃(v:V) (bh:Option Nat) (acc:List Str),σ'=[some (.ref W),some x,some (.ref pn),some v]∧Same H H'∧H' pn=some (.lst (acc.map V.str))∧acc.length+m=8∧acc++nmsO os m bh=nmsO os 8 (some i)∧((bh=none∧v=.non)∨∃j k d fs,bh=some j∧At K H' (thD j) v∧os[j]?=some (.ob k d fs)∧isFC os[k]?=true),fun σ' H' h=>⟨m,Nat.lt_succ_self _,h⟩,?_⟩
   refine ⟨_,rfl,.inl ⟨rfl,_,SqL.of l1⟩,_,rfl,_,rfl,_,rfl,W,l,gd,ps,os,gv,v,thD j,rfl,hw1,hv,Vd.th (lt_of_some hj),fun v' t=>?_⟩
   obtain ⟨p,_,rfl,dx,vk,hp,hvk,_⟩:=t.th hj
   refine ⟨p,c.O,dx,_,_,rfl,hp,z.oc,z.o1,obF_kind ..,W,l,gd,ps,os,gv,vk,thD k1,rfl,hw1,hvk,Vd.th (lt_of_some hkd),fun v' t=>?_⟩
   obtain ⟨p',_,rfl,dx',vo,v4,hp',hao,_⟩:=t.th hkd
   refine ⟨p',c.Kd,dx',_,_,rfl,hp',z.kc,z.k1,kdF_name ..,pn,_,.str nm,rfl,rfl,l1,small1000 (by rw[List.length_map]; omega),?_⟩
   have enm:nmO os j=nm:=by unfold nmO; rw[hj]; simp only; rw[hkd]
   have efx:fxO os j=fx:=by unfold fxO; rw[hj]
   have s2:Same H (upd H1 pn (.lst (acc.map V.str++[.str nm]))):=same_upd s1 hpn _
   have hw2:WAt K c (upd H1 pn (.lst (acc.map V.str++[.str nm]))) W l gd ps os gv:=hw.same s2
   have l2:upd H1 pn (.lst (acc.map V.str++[.str nm])) pn=some (.lst ((acc++[nm]).map V.str)):=by rw[upd_same,List.map_append]; rfl
   have hv2:At K (upd H1 pn (.lst (acc.map V.str++[.str nm]))) (thD j) v:=At.fx (Fx.put l1 rfl) _ _ hv
   revert s2 hw2 l2 hv2
   generalize upd H1 pn (.lst (acc.map V.str++[.str nm]))=H2
   intro s2 hw2 l2 hv2
   refine ⟨_,rfl,_,rfl,W,l,gd,ps,os,gv,v,j,k1,d1,fx,rfl,hw2,hv2,hj,hf,hvd.1,hvd.2,hg,fun v3 H3 s3 hb3=>⟨v3,behI os fx,acc++[nm],rfl,s2.trans s3,s3 _ _ l2,by rw[List.length_append,List.length_singleton]; omega,?_,?_⟩⟩
   ·rw[← hacc,List.append_assoc]
    show _=acc++(nmO os j::nmsO os m (behI os (fxO os j)))
    rw[enm,efx]; rfl
   ·rcases hb3 with h | ⟨j',h1,h2⟩
    ·exact .inl h
    ·obtain ⟨k3,d3,fs3,h3,h4⟩:=behI_ok hvd.1 hvd.2 h1
     exact .inr ⟨j',k3,d3,fs3,h1,h2,h3,h4⟩
end
abbrev pOof:Stmt:=topd 53
abbrev pUnd:Stmt:=topd 56
abbrev pVwd:Stmt:=topd 58
abbrev pCG:Stmt:=topd 64
abbrev pCld:Stmt:=topd 65
def bnds:List (Str×Nat×Nat):=[("elder",2,2)]
def BndG (w:World) (K:PySem.W.Frag) (mg:Str→Option Value):Prop:=∃(a:Addr) (es:Array DictEntry) (n:Nat),mg "VALUES_OF_GIVEN"=some (.ref a)∧K.lookup a=some ⟨.type "dict",none,.dict es n,#[]⟩∧(∀e∈es,∃x t,e.key=.str x t∧e.hash=PyData.keyHash w.params x)∧
 ∀nm lo hi,(nm,lo,hi)∈bnds→∃u,findBy Value.isStrOf es nm=some (.ref u)∧∀H,At K H (.tup [.int (lo:Nat),.int (hi:Nat)]) (.ref u)
def tBnd (K:PySem.W.Frag) (ty:TE):TE:=fun σ H Q=>ty σ H fun y H1=>∃(n:Str) (lo hi:Nat),y=.str n∧(n,lo,hi)∈bnds∧∀v,At K H1 (.tup [.int (lo:Nat),.int (hi:Nat)]) v→Q v H1
theorem pe_bnd {X:Cx} {i:Expr} {ty:TE} {p pos:Pos} (B:BndG X.w X.K X.mg) (hg:Gl X "VALUES_OF_GIVEN") (hi:LE X i ty) (hs:NoSl i):LE X (.Subscript (.Name "VALUES_OF_GIVEN" p) i pos) (tBnd X.K ty):=by
 obtain ⟨a,es,n,hm,hl,hk,hf⟩:=B
 refine .mk fun pins s σ H Q I h=>?_
 have he:PE X (.Name "VALUES_OF_GIVEN" p) (tC (.ref a)):=L2.pe_glob hg hm rfl
 refine subD_of PySem.F.slot_dict_getitem.lookup hs (thn (he pins s σ H (fun x H1=>x=.ref a∧H1=H) I ⟨rfl,rfl⟩) fun u s1 ⟨x,H1,I1,rx,ex,eH⟩=>?_)
 subst ex eH
 obtain rfl:u=Value.ref a:=rx
 refine thn (hi.out pins s1 σ H1 _ I1 h) fun iv s2 ⟨y,H2,I2,ry,nm,lo,hi',ey,hmem,q⟩=>?_
 subst ey
 obtain ⟨t,rfl⟩:=ry
 obtain ⟨u,hu,hA⟩:=hf _ _ _ hmem
 have hh:=I2.kIn _ _ hl
 have M:s2.heap.MapOf (strKind X.prog X.w) a (findBy (strKind X.prog X.w).is es):=by
  refine ⟨_,es,n,hh,⟨rfl,rfl,rfl⟩,rfl,fun e he=>?_,fun k=>rfl⟩
  obtain ⟨x,t,e1,e2⟩:=hk e he
  exact ⟨x,by rw[e1]; exact strKind_is ..,e2⟩
 exact ⟨M.typeIs,wpAny_getItem_of (strKind_is ..) M hu ⟨.ref u,H2,I2.tok _,rfl,q _ (hA _)⟩⟩
theorem WfO.add {os:List Th} {o:Th} (h:WfO os) (hk:∀nm ns d,o=.kd nm ns d→∀n∈ns,n=os.length∨∃nm' ns' d',os[n]?=some (.kd nm' ns' d')) (ho:∀k d fs,o=.ob k d fs→∃nm ns d',os[k]?=some (.kd nm ns d')):WfO (os++[o]):=by
 refine ⟨fun i nm ns d e n hn=>?_,fun i k d fs e=>?_⟩
 ·rcases getElem?_snoc e with u | ⟨_,u⟩
  ·obtain ⟨a,b,d',e'⟩:=h.k i nm ns d u n hn
   exact ⟨a,b,d',snoc_old e'⟩
  ·rcases hk nm ns d u.symm n hn with rfl | ⟨a,b,d',e'⟩
   ·exact ⟨nm,ns,d,by rw[u]; exact snoc_last⟩
   ·exact ⟨a,b,d',snoc_old e'⟩
 ·rcases getElem?_snoc e with u | ⟨_,u⟩
  ·obtain ⟨a,b,d',e'⟩:=h.o i k d fs u
   exact ⟨a,b,d',snoc_old e'⟩
  ·obtain ⟨a,b,d',e'⟩:=ho k d fs u.symm
   exact ⟨a,b,d',snoc_old e'⟩
theorem WfO.addOb {os:List Th} {k:Nat} {d:Addr} {fs:Option (D×D×D)} {nm:Str} {ns:List Nat} {d':Addr} (h:WfO os) (e:os[k]?=some (.kd nm ns d')):WfO (os++[.ob k d fs]):=h.add (fun _ _ _ z=>nomatch z) (fun k' _ _ z=>by cases z; exact ⟨_,_,_,e⟩)
theorem fld_start (b:Bool):fldD (fs0 b) "start"=none:=by
 cases b with
 | false=>rfl
 | true=>
  show fldD (some (noD,noD,noD)) "start"=none
  rw[fldD_some,if_neg (by decide +kernel),if_neg (by decide +kernel),if_neg (by decide +kernel)]
section
variable {P:Program} {w:World} {K:PySem.W.Frag} {mg:Str→Option Value} {base:Heap} {f:Addr} {fd:FuncData} {c:ClD}
def spOof (K:PySem.W.Frag) (c:ClD):Sp:=fun vs H Q _=>∃(W l gd:Addr) (ps:List Addr) (os:List Th) (gv:List (Str×Nat)) (x y:V) (k:Nat) (nm:Str) (ns:List Nat) (d':Addr),vs=[.ref W,x,y]∧WAt K c H W l gd ps os gv∧WfO os∧At K H (thD k) x∧os[k]?=some (.kd nm ns d')∧At K H (.tup []) y∧((("Fault":Str),9):Str×Nat)∈gv∧os.length≤1000∧
 ∀r H' p d,H d=none→But9 l H H'→WAt K c H' W l gd (ps++[p]) (os++[.ob k d (fs0 (isFC os[k]?))]) gv→At K H' (.tup [.str "value",thD os.length]) r→Q r H'
theorem scOof:FnScope ["world","kind","values","made","start","is_method"] ["world","kind","values"] (defScope pOof):=⟨rfl,rfl,rfl,by decide +kernel,rfl,by decide +kernel,by decide +kernel⟩
theorem ok_Oof (g:Glb9 mg) (F:Fun K "object_of" "object_of" pOof f fd) (dO:Def P w K mg base "new_object" ["world","kind"] 4 (spObj K c)) (dF:Def P w K mg base "field_of" ["world","a","name"] 4 (spFof K c)) (dC:Def P w K mg base "is_fault_class" ["world","a"] 3 (spFC K c)):FnOk P w K mg base CX0 5 f fd ["world","kind","values"] (spOof K c):=by
 refine F.okI scOof (fun vs H Q E h=>?_) (fun cdv A outer s H vs Q E hr h=>?_)
 ·obtain ⟨_,_,_,_,_,_,_,_,_,_,_,_,rfl,_⟩:=h; rfl
 obtain ⟨W,l,gd,ps,os,gv,x,y,k,nm,ns,d',rfl,hw,hf,hx,hk,hy,hg,hl,q⟩:=h
 refine ⟨_,(pss_cons (ps_set (i:=3) scOof.nd rfl (Or.inl rfl) (L3.pe_def dO hr (by decide) rfl (pa_cons (pv 0) (pa_cons (pv 1) pa_nil))))
   (pss_cons (ps_set (i:=4) scOof.nd rfl (Or.inl rfl) (L3.pe_def dF hr (by decide) rfl (pa_cons (pv 0) (pa_cons (pv 3) (pa_cons pe_str pa_nil)))))
   (pss_cons (ps_if (pt_cmpR op_eq (pe_nth (pv 4)) pe_str (nomark _)) (pss_cons ps_dead
   (pss_one ps_dead)) pss_nil)
   (pss_cons (ps_if (pt_cmpR op_gt (pe_callB call_len_seq rfl g.nLen b9Len (pa_cons (pv 2) pa_nil)) (pe_ifExp (pt_val (L3.pe_def dC hr (by decide) rfl (pa_cons (pv 0) (pa_cons (pv 1) pa_nil)))) pe_int pe_int) (nomark _)) (pss_one ps_dead) pss_nil)
   (pss_cons (ps_if (pt_cmpR op_eq (pe_callB call_len_seq rfl g.nLen b9Len (pa_cons (pv 2) pa_nil)) pe_int (nomark _)) (pss_one ps_dead) pss_nil)
   (pss_one (ps_ret (pe_tup (pa_cons pe_str (pa_cons (pv 3) pa_nil)))))))))),?_⟩
 refine ⟨_,rfl,_,rfl,W,l,gd,ps,os,gv,x,k,rfl,hw,hx,lt_of_some hk,hg,hl,fun r H1 p d hd b1 w1 a1=>?_⟩
 have f1:Fx H H1:=b1.fx hw.t rfl
 have hwf:=hf.addOb (d:=d) (fs:=fs0 (isFC os[k]?)) hk
 have est:=fld_start (isFC os[k]?)
 refine ⟨_,rfl,_,rfl,W,l,gd,_,_,gv,r,os.length,k,d,_,"start",rfl,w1,hwf,a1,snoc_last,fun dd e=>(by rw[est] at e; cases e),fun r2 H2 s2 a2=>?_⟩
 have a2:At K H2 (.tup [.str "fault",.str "FieldFault"]) r2:=by
  unfold fldR at a2
  rw[est] at a2
  exact a2
 refine ⟨_,rfl,0,_,_,rfl,a2,rfl,fun y0 h0=>?_⟩
 rw[At_str.mp h0]
 refine ⟨rfl,_,rfl,?_⟩
 rw[decN (by decide +kernel)]
 obtain ⟨py,ys,rfl,sqy,hys⟩:=At_tup.mp hy
 rw[AtAll_nil.mp hys] at sqy
 have sq2:SqT K H2 py []:=Same.seqT s2 (Fx.seqT f1 sqy)
 have w2:=w1.same s2
 have a3:=At.same s2 _ _ a1
 refine iteF ⟨_,rfl,py,_,rfl,.inr sq2,_,rfl,_,rfl,W,l,gd,_,_,gv,x,thD k,rfl,w2,At.same s2 _ _ (At.fx f1 _ _ hx),Vd.th (by rw[List.length_append]; have:=lt_of_some hk; omega),hg,_,rfl,?_⟩
 have fin:∀n:Int,0≤n→decide (n < (([]:List V).length:Nat))=false:=fun n h=>decide_eq_false (by show ¬n < ((0:Nat):Int); omega)
 have last:2≤sizeLine∧∀p',H2 p'=none→Q (.ref p') (upd H2 p' (.tup [.str "value",r])):=⟨by decide,fun p' hp=>q _ _ p d hd ((b1.trans (Same.but l s2)).trans (Same.but l (same_new hp _))) (w2.same (same_new hp _)) (At.new hp (AtAll2 (At_str.mpr rfl) a3))⟩
 refine ite_b9 (fun _=>⟨_,_,rfl,rfl,_,rfl,?_⟩) (fun _=>⟨_,_,rfl,rfl,_,rfl,?_⟩)
 ·rw[fin 1 (by decide)]
  exact iteF ⟨_,rfl,py,_,rfl,.inr sq2,rfl,_,rfl,iteF ⟨_,rfl,last⟩⟩
 ·rw[fin 0 (by decide)]
  exact iteF ⟨_,rfl,py,_,rfl,.inr sq2,rfl,_,rfl,iteF ⟨_,rfl,last⟩⟩
def spUnd (K:PySem.W.Frag) (c:ClD):Sp:=fun vs H Q _=>∃(W l gd:Addr) (ps:List Addr) (os:List Th) (gv:List (Str×Nat)) (x y:V) (i k:Nat) (d:Addr) (fs:Option (D×D×D)) (nm:Str) (ns:List Nat) (d':Addr) (m:Nat),vs=[.ref W,x,y]∧WAt K c H W l gd ps os gv∧At K H (thD i) x∧os[i]?=some (.ob k d fs)∧os[k]?=some (.kd nm ns d')∧At K H (thD m) y∧Q (.bl (decide (m∈ns))) H
theorem scUnd:FnScope ["world","x","kind"] ["world","x","kind"] (defScope pUnd):=⟨rfl,rfl,rfl,by decide +kernel,rfl,by decide +kernel,by decide +kernel⟩
theorem ok_Und (g:Glb9 mg) (z:CsD K c) (hO:mg "Object"=some (.ref c.O)) (F:Fun K "is_under" "is_under" pUnd f fd) (dT:Def P w K mg base "thing_of" ["world","a"] 1 (spTh K c)) (dO:Def P w K mg base "order_of_owner" ["world","owner"] 2 (spOoO K c)):FnOk P w K mg base CX0 3 f fd ["world","x","kind"] (spUnd K c):=by
 refine F.okI scUnd (fun vs H Q E h=>?_) (fun cdv A outer s H vs Q E hr h=>?_)
 ·obtain ⟨_,_,_,_,_,_,_,_,_,_,_,_,_,_,_,_,rfl,_⟩:=h; rfl
 obtain ⟨W,l,gd,ps,os,gv,x,y,i,k,d,fs,nm,ns,d',m,rfl,hw,hx,ho,hk,hy,q⟩:=h
 refine ⟨_,(pss_one (ps_ret (pe_and (pe_callB call_isO rfl g.nIsi b9Isi (pa_cons (L3.pe_def dT hr (by decide) rfl (pa_cons (pv 0) (pa_cons (pv 1) pa_nil))) (pa_cons (pe_glob (v:=.ref c.O) rfl hO rfl) pa_nil))) (pe_one (pe_cmpR (op_inD hr) (pv 2) (L3.pe_def dO hr (by decide) rfl (pa_cons (pv 0) (pa_cons (pv 1) pa_nil))) rfl))))),?_⟩
 refine ⟨_,rfl,_,rfl,W,l,gd,ps,os,gv,x,thD i,rfl,hw,hx,Vd.th (lt_of_some ho),fun v t=>?_⟩
 have ti:=t.is z z.tO
 rw[thO_th,ho] at ti
 refine ⟨v,c.O,true,rfl,ti,_,rfl,iteT ⟨_,rfl,_,rfl,_,rfl,W,l,gd,ps,os,gv,x,i,k,d,fs,nm,ns,d',rfl,hw,hx,ho,hk,fun vo hvo=>⟨thD m,ns.map thD,hy,hvo,fun e he=>?_,?_⟩⟩⟩
 ·obtain ⟨n,_,rfl⟩:=List.mem_map.mp he
  rw[dep_th]; decide
 ·rw[if_neg Bool.false_ne_true,th_any]
  exact q
def spVwd (K:PySem.W.Frag) (c:ClD):Sp:=fun vs H Q _=>∃(W l gd:Addr) (ps:List Addr) (os:List Th) (gv:List (Str×Nat)) (x y:V) (i k:Nat) (d:Addr) (fs:Option (D×D×D)) (nm:Str) (ns:List Nat) (d':Addr) (m:Nat),vs=[.ref W,y,x]∧WAt K c H W l gd ps os gv∧At K H (thD i) x∧os[i]?=some (.ob k d fs)∧os[k]?=some (.kd nm ns d')∧At K H (thD m) y∧m∈ns∧os.length≤1000∧
 ∀r H' p,But9 l H H'→WAt K c H' W l gd (ps++[p]) (os++[.vw]) gv→At K H' (.tup [.str "value",thD os.length]) r→Q r H'
theorem scVwd:FnScope ["world","kind","x"] ["world","kind","x"] (defScope pVwd):=⟨rfl,rfl,rfl,by decide +kernel,rfl,by decide +kernel,by decide +kernel⟩
theorem ok_Vwd (F:Fun K "viewed" "viewed" pVwd f fd) (dU:Def P w K mg base "is_under" ["world","x","kind"] 3 (spUnd K c)) (dV:Def P w K mg base "new_view" ["world","kind","owner"] 3 (spVw K c)):FnOk P w K mg base CX0 4 f fd ["world","kind","x"] (spVwd K c):=by
 refine F.okI scVwd (fun vs H Q E h=>?_) (fun cdv A outer s H vs Q E hr h=>?_)
 ·obtain ⟨_,_,_,_,_,_,_,_,_,_,_,_,_,_,_,_,rfl,_⟩:=h; rfl
 obtain ⟨W,l,gd,ps,os,gv,x,y,i,k,d,fs,nm,ns,d',m,rfl,hw,hx,ho,hk,hy,hm,hl,q⟩:=h
 refine ⟨_,(pss_one (ps_ret (pe_ifExp (pt_val (L3.pe_def dU hr (by decide) rfl (pa_cons (pv 0) (pa_cons (pv 2) (pa_cons (pv 1) pa_nil))))) (pe_tup (pa_cons pe_str (pa_cons (L3.pe_def dV hr (by decide) rfl (pa_cons (pv 0) (pa_cons (pv 1) (pa_cons (pv 2) pa_nil)))) pa_nil))) pe_dead))),?_⟩
 refine ⟨_,rfl,_,rfl,_,rfl,W,l,gd,ps,os,gv,x,y,i,k,d,fs,nm,ns,d',m,rfl,hw,hx,ho,hk,hy,_,rfl,?_⟩
 rw[decide_eq_true hm]
 refine iteT ⟨_,rfl,_,rfl,_,rfl,W,l,gd,ps,os,gv,y,x,rfl,hw,hl,fun r H1 p b1 w1 a1=>⟨by show 2≤sizeLine; decide,fun t ht=>?_⟩⟩
 exact q _ _ p (b1.trans (Same.but l (same_new ht _))) (w1.same (same_new ht _)) (At.new ht (AtAll2 (At_str.mpr rfl) a1))
def spCG (K:PySem.W.Frag) (c:ClD):Sp:=fun vs H Q _=>∃(W l gd:Addr) (ps:List Addr) (os:List Th) (gv:List (Str×Nat)) (y:V) (i k:Nat) (d:Addr) (fs:Option (D×D×D)) (nm:Str) (ns:List Nat) (d':Addr) (m:Nat),vs=[.ref W,.str "elder",y]∧WAt K c H W l gd ps os gv∧os[i]?=some (.ob k d fs)∧os[k]?=some (.kd nm ns d')∧At K H (.tup [thD m,thD i]) y∧m∈ns∧os.length≤1000∧
 ∀r H' p,But9 l H H'→WAt K c H' W l gd (ps++[p]) (os++[.vw]) gv→At K H' (.tup [.str "value",thD os.length]) r→Q r H'
theorem scCG:FnScope ["world","name","values","bounds"] ["world","name","values"] (defScope pCG):=⟨rfl,rfl,rfl,by decide +kernel,rfl,by decide +kernel,by decide +kernel⟩
theorem ok_CG (g:Glb9 mg) (B:BndG w K mg) (F:Fun K "called_given" "called_given" pCG f fd) (dV:Def P w K mg base "viewed" ["world","kind","x"] 4 (spVwd K c)):FnOk P w K mg base CX0 5 f fd ["world","name","values"] (spCG K c):=by
 refine F.okI scCG (fun vs H Q E h=>?_) (fun cdv A outer s H vs Q E hr h=>?_)
 ·obtain ⟨_,_,_,_,_,_,_,_,_,_,_,_,_,_,_,rfl,_⟩:=h; rfl
 obtain ⟨W,l,gd,ps,os,gv,y,i,k,d,fs,nm,ns,d',m,rfl,hw,ho,hk,hy,hm,hl,q⟩:=h
 refine ⟨_,(pss_cons (ps_set (i:=3) scCG.nd rfl (Or.inl rfl) (pe_bnd B rfl (pv 1) (fun _ _=>rfl)))
   (pss_cons (ps_if (LW.pt (pw_or (pt_cmpR op_lt (pe_callB call_len_seq rfl g.nLen b9Len (pa_cons (pv 2) pa_nil)) (pe_nth (pv 3)) (nomark _)) (pw_or1 (pt_cmpR op_gt (pe_callB call_len_seq rfl g.nLen b9Len (pa_cons (pv 2) pa_nil)) (pe_nth (pv 3)) (nomark _))))) (pss_one ps_dead) pss_nil)
   (pss_cons (ps_if (pt_cmpR op_eq (pv 1) pe_str (nomark _)) (pss_one ps_dead) pss_nil)
   (pss_cons (ps_if (pt_cmpR op_eq (pv 1) pe_str (nomark _)) (pss_one ps_dead) pss_nil)
   (pss_cons (ps_if (pt_cmpR op_eq (pv 1) pe_str (nomark _)) (pss_one ps_dead) pss_nil)
   (pss_cons (ps_if (pt_cmpR op_eq (pv 1) pe_str (nomark _)) (pss_one (ps_ret (L3.pe_def dV hr (by decide) rfl (pa_cons (pv 0) (pa_cons (pe_nth (pv 2)) (pa_cons (pe_nth (pv 2)) pa_nil)))))) pss_nil)
   (pss_cons ps_dead
   (pss_cons ps_dead
   (pss_cons ps_dead
   (pss_one ps_dead)))))))))),?_⟩
 refine ⟨_,rfl,"elder",2,2,rfl,by decide +kernel,fun vb hvb=>?_⟩
 obtain ⟨py,vy,rfl,sq,hA⟩:=At_tup.mp hy
 have hlen:vy.length=2:=hA.len
 refine ⟨_,rfl,py,vy,rfl,.inr sq,_,rfl,0,_,_,rfl,hvb,rfl,fun y0 h0=>?_⟩
 rw[At_int.mp h0]
 refine ⟨_,_,rfl,rfl,_,rfl,?_⟩
 rw[hlen]
 refine iteF ⟨_,rfl,py,vy,rfl,.inr sq,_,rfl,1,_,_,rfl,hvb,rfl,fun y1 h1=>?_⟩
 rw[At_int.mp h1]
 refine ⟨_,_,rfl,rfl,_,rfl,?_⟩
 rw[hlen]
 refine iteF ⟨_,rfl,rfl,_,rfl,?_⟩
 rw[decN (by decide +kernel)]
 refine iteF ⟨_,rfl,rfl,_,rfl,?_⟩
 rw[decN (by decide +kernel)]
 refine iteF ⟨_,rfl,rfl,_,rfl,?_⟩
 rw[decN (by decide +kernel)]
 refine iteF ⟨_,rfl,rfl,_,rfl,?_⟩
 rw[decide_eq_true rfl]
 refine iteT ⟨_,rfl,_,rfl,0,_,_,rfl,hy,rfl,fun ya ha=>⟨_,rfl,1,_,_,rfl,hy,rfl,fun yb hb=>?_⟩⟩
 exact ⟨W,l,gd,ps,os,gv,yb,ya,i,k,d,fs,nm,ns,d',m,rfl,hw,hb,ho,hk,ha,hm,hl,q⟩
def spCld (K:PySem.W.Frag) (c:ClD):Sp:=fun vs H Q _=>∃(W l gd:Addr) (ps:List Addr) (os:List Th) (gv:List (Str×Nat)) (x y:V),vs=[.ref W,x,y]∧WAt K c H W l gd ps os gv∧os.length≤1000∧
 ((∃(k:Nat) (nm:Str) (ns:List Nat) (d':Addr),WfO os∧At K H (thD k) x∧os[k]?=some (.kd nm ns d')∧At K H (.tup []) y∧((("Fault":Str),9):Str×Nat)∈gv∧
  ∀r H' p d,H d=none→But9 l H H'→WAt K c H' W l gd (ps++[p]) (os++[.ob k d (fs0 (isFC os[k]?))]) gv→At K H' (.tup [.str "value",thD os.length]) r→Q r H')∨
 (∃(e i k:Nat) (d:Addr) (fs:Option (D×D×D)) (nm:Str) (ns:List Nat) (d':Addr) (m:Nat),At K H (thD e) x∧os[e]?=some (.gvn "elder")∧os[i]?=some (.ob k d fs)∧os[k]?=some (.kd nm ns d')∧At K H (.tup [thD m,thD i]) y∧m∈ns∧
  ∀r H' p,But9 l H H'→WAt K c H' W l gd (ps++[p]) (os++[.vw]) gv→At K H' (.tup [.str "value",thD os.length]) r→Q r H'))
theorem scCld:FnScope ["world","a","values","thing"] ["world","a","values"] (defScope pCld):=⟨rfl,rfl,rfl,by decide +kernel,rfl,by decide +kernel,by decide +kernel⟩
theorem ok_Cld (g:Glb9 mg) (z:CsD K c) (hF:mg "Function"=some (.ref c.F)) (hG:mg "Given"=some (.ref c.G)) (hM:mg "Method"=some (.ref c.M)) (hK:mg "Kind"=some (.ref c.Kd)) (F:Fun K "called" "called" pCld f fd) (dT:Def P w K mg base "thing_of" ["world","a"] 1 (spTh K c)) (dO:Def P w K mg base "object_of" ["world","kind","values"] 5 (spOof K c)) (dG:Def P w K mg base "called_given" ["world","name","values"] 5 (spCG K c)):FnOk P w K mg base CX0 6 f fd ["world","a","values"] (spCld K c):=by
 refine F.okI scCld (fun vs H Q E h=>?_) (fun cdv A outer s H vs Q E hr h=>?_)
 ·obtain ⟨_,_,_,_,_,_,_,_,rfl,_⟩:=h; rfl
 obtain ⟨W,l,gd,ps,os,gv,x,y,rfl,hw,hl,hq⟩:=h
 refine ⟨_,(pss_cons (ps_set (i:=3) scCld.nd rfl (Or.inl rfl) (L3.pe_def dT hr (by decide) rfl (pa_cons (pv 0) (pa_cons (pv 1) pa_nil))))
   (pss_cons (ps_if (pt_val (pe_callB call_isO rfl g.nIsi b9Isi (pa_cons (pv 3) (pa_cons (pe_glob (v:=.ref c.F) rfl hF rfl) pa_nil)))) (pss_one ps_dead) pss_nil)
   (pss_cons (ps_if (pt_val (pe_callB call_isO rfl g.nIsi b9Isi (pa_cons (pv 3) (pa_cons (pe_glob (v:=.ref c.M) rfl hM rfl) pa_nil)))) (pss_one ps_dead) pss_nil)
   (pss_cons (ps_if (pt_val (pe_callB call_isO rfl g.nIsi b9Isi (pa_cons (pv 3) (pa_cons (pe_glob (v:=.ref c.Kd) rfl hK rfl) pa_nil)))) (pss_one (ps_ret (L3.pe_def dO hr (by decide) rfl (pa_cons (pv 0) (pa_cons (pv 1) (pa_cons (pv 2) pa_nil)))))) pss_nil)
   (pss_one (ps_ret (pe_ifExp (pt_val (pe_callB call_isO rfl g.nIsi b9Isi (pa_cons (pv 3) (pa_cons (pe_glob (v:=.ref c.G) rfl hG rfl) pa_nil)))) (L3.pe_def dG hr (by decide) rfl (pa_cons (pv 0) (pa_cons (L3.pe_fld (pv 3)) (pa_cons (pv 2) pa_nil)))) pe_dead))))))),?_⟩
 rcases hq with ⟨k,nm,ns,d',hf,hx,hk,hy,hg,q⟩ | ⟨e,i,k,d,fs,nm,ns,d',m,hx,he,ho,hk,hy,hm,q⟩
 ·refine ⟨_,rfl,_,rfl,W,l,gd,ps,os,gv,x,thD k,rfl,hw,hx,Vd.th (lt_of_some hk),fun v t=>?_⟩
  obtain ⟨p,_,rfl,dx,vo,v4,hp,_⟩:=t.th hk
  refine ⟨_,rfl,_,c.F,false,rfl,.inl ⟨p,c.Kd,dx,_,rfl,hp,z.iK,z.tF.tK⟩,_,rfl,iteF ⟨_,rfl,_,c.M,false,rfl,.inl ⟨p,c.Kd,dx,_,rfl,hp,z.iK,z.tM.tK⟩,_,rfl,iteF ⟨_,rfl,_,c.Kd,true,rfl,.inl ⟨p,c.Kd,dx,_,rfl,hp,z.iK,z.tK.tK⟩,_,rfl,iteT ?_⟩⟩⟩
  exact ⟨_,rfl,_,rfl,_,rfl,W,l,gd,ps,os,gv,x,y,k,nm,ns,d',rfl,hw,hf,hx,hk,hy,hg,hl,q⟩
 ·refine ⟨_,rfl,_,rfl,W,l,gd,ps,os,gv,x,thD e,rfl,hw,hx,Vd.th (lt_of_some he),fun v t=>?_⟩
  obtain ⟨p,_,rfl,dx,hp⟩:=t.th he
  refine ⟨_,rfl,_,c.F,false,rfl,.inl ⟨p,c.G,dx,_,rfl,hp,z.iG,z.tF.tG⟩,_,rfl,iteF ⟨_,rfl,_,c.M,false,rfl,.inl ⟨p,c.G,dx,_,rfl,hp,z.iG,z.tM.tG⟩,_,rfl,iteF ⟨_,rfl,_,c.Kd,false,rfl,.inl ⟨p,c.G,dx,_,rfl,hp,z.iG,z.tK.tG⟩,_,rfl,iteF ?_⟩⟩⟩
  refine ⟨_,rfl,_,c.G,true,rfl,.inl ⟨p,c.G,dx,_,rfl,hp,z.iG,z.tG.tG⟩,_,rfl,iteT ?_⟩
  exact ⟨_,rfl,_,rfl,p,c.G,dx,_,_,rfl,hp,z.gc,z.g1,rfl,_,rfl,W,l,gd,ps,os,gv,y,i,k,d,fs,nm,ns,d',m,rfl,hw,ho,hk,hy,hm,hl,q⟩
end
abbrev sAt9:Stmt:=topd 76
abbrev sCell9:Stmt:=topd 77
theorem atI_mem9 {α:Type} {xs:List α} {k:Int} (h0:0≤k) (h1:k < (xs.length:Nat)):∃v,v∈xs∧atI xs k=some v:=by
 obtain ⟨n,rfl⟩:∃n:Nat,k=(n:Int):=⟨k.toNat,by omega⟩
 have hn:n < xs.length:=by omega
 exact ⟨xs[n],List.getElem_mem hn,atI_nat (by simp[hn])⟩
theorem But9.sqL {K:PySem.W.Frag} {a b:Addr} {H H':Hp} {xs:List V} (h:But9 b H H') (ne:a≠b) (hs:SqL K H a xs):SqL K H' a xs:=by
 rcases hs with (e | ⟨o',e⟩) | e
 ·exact .inl (.inl (h _ _ ne e))
 ·exact .inl (.inr ⟨o',h _ _ ne e⟩)
 ·exact .inr e
section
variable {P:Program} {w:World} {K:PySem.W.Frag} {mg:Str→Option Value} {base:Heap} {f:Addr} {fd:FuncData}
def spAt9 (K:PySem.W.Frag):Sp:=fun vs H Q _=>∃(a:Addr) (ns:List Int) (k:Nat),vs=[.ref a,.int (k:Nat)]∧SqL K H a (ns.map V.int)∧∀i:Int,Q (.int i) H
theorem scAt9:FnScope ["_law_script","_law_k"] ["_law_script","_law_k"] (defScope sAt9):=⟨rfl,rfl,rfl,by decide +kernel,rfl,by decide +kernel,by decide +kernel⟩
theorem ok_At9 (g:Glb9 mg) (F:Fun K "_law_cell_at" "_law_cell_at" sAt9 f fd):FnOk P w K mg base CX0 1 f fd ["_law_script","_law_k"] (spAt9 K):=by
 refine F.okI scAt9 (fun vs H Q E h=>?_) (fun cdv A outer s H vs Q E hr h=>?_)
 ·obtain ⟨_,_,_,rfl,_⟩:=h; rfl
 obtain ⟨a,ns,k,rfl,hS,q⟩:=h
 refine ⟨_,pss_cons (ps_if (pt_cmpR op_lt (pv 1) (pe_callB call_len_seq rfl g.nLen b9Len (pa_cons (pv 0) pa_nil)) (nomark _)) (pss_one (ps_ret (pe_ix (r:=rIxL K) ix_list (pv 0) (pv 1) (fun _ _=>rfl)))) pss_nil)
  (pss_one (ps_ret pe_int)),?_⟩
 refine ⟨_,rfl,_,rfl,a,_,rfl,.inl hS,_,_,rfl,rfl,_,rfl,?_⟩
 refine ite_b9 (fun e=>?_) (fun e=>q 0)
 have h1:=of_decide_eq_true e
 obtain ⟨v,hv,hat⟩:=atI_mem9 (k:=(k:Nat)) (by omega) h1
 obtain ⟨i,_,rfl⟩:=List.mem_map.mp hv
 exact ⟨_,rfl,_,rfl,a,_,_,_,rfl,rfl,hS,hat,q i⟩
structure Spot9 (K:PySem.W.Frag) (H:Hp) (a b:Addr) (n:Nat):Prop where
 cells:∃ns:List Int,SqL K H a (ns.map V.int)∧ns.length≤63
 ne:a≠b
 spot:H b=some (.lst [.int (n:Nat)])
theorem Spot9.go {H H':Hp} {a b:Addr} {n n':Nat} (h:Spot9 K H a b n) (hb:But9 b H H') (hs:H' b=some (.lst [.int (n':Nat)])):Spot9 K H' a b n':=by
 obtain ⟨⟨ns,h1,h2⟩,h3,_⟩:=h
 exact ⟨⟨ns,hb.sqL h3 h1,h2⟩,h3,hs⟩
def spCell9 (K:PySem.W.Frag):Sp:=fun vs H Q _=>∃(a b:Addr) (n:Nat),vs=[.ref a,.ref b]∧Spot9 K H a b n∧n≤1000000000000∧
 ∀i H',0≤i→i < 306783380→But9 b H H'→H' b=some (.lst [.int ((n+1:Nat):Int)])→Q (.int i) H'
theorem scCell9:FnScope ["_law_cells","_law_spot","_law_k","_law_base"] ["_law_cells","_law_spot"] (defScope sCell9):=⟨rfl,rfl,rfl,by decide +kernel,rfl,by decide +kernel,by decide +kernel⟩
theorem ok_Cell9 (g:Glb9 mg) (F:Fun K "_law_cell" "_law_cell" sCell9 f fd):FnOk P w K mg base CX0 1 f fd ["_law_cells","_law_spot"] (spCell9 K):=by
 refine F.okI scCell9 (fun vs H Q E h=>?_) (fun cdv A outer s H vs Q E hr h=>?_)
 ·obtain ⟨a,b,n,rfl,_⟩:=h; rfl
 obtain ⟨a,b,n,rfl,⟨⟨ns,hS,h63⟩,hab,hb⟩,hn,q⟩:=h
 refine ⟨_,pss_cons (ps_asg (pe_op op_add (pe_ix ix_list (pv 1) pe_int (fun _ _=>rfl)) pe_int) (.mk (L2.pg_sub (L2.pv 1) L2.pe_int set_list)))
  (pss_cons (ps_set (i:=2) scCell9.nd rfl (Or.inl rfl) (pe_ix ix_list (pv 1) pe_int (fun _ _=>rfl)))
  (pss_cons (ps_set (i:=3) scCell9.nd rfl (Or.inl rfl) (pe_op op_add (pe_op op_mul (pe_op op_mul pe_int (pv 2)) (pv 2)) (pe_op op_mul pe_int (pv 2))))
  (pss_cons (ps_if (pt_cmpR op_gt (pe_callB call_len_seq rfl g.nLen b9Len (pa_cons (pv 0) pa_nil)) pe_int (nomark _))
   (pss_one (ps_set (i:=3) scCell9.nd rfl (Or.inl rfl) (pe_op op_add (pv 3) (pe_op op_mul (pe_ix ix_list (pv 0) (pe_op op_mod (pv 2) (pe_callB call_len_seq rfl g.nLen b9Len (pa_cons (pv 0) pa_nil))) (fun _ _=>rfl)) (pe_op op_add pe_int (pe_op op_fdiv (pv 2) (pe_callB call_len_seq rfl g.nLen b9Len (pa_cons (pv 0) pa_nil)))))))) pss_nil)
  (pss_one (ps_ret (pe_op op_fdiv (pe_op op_mod (pe_op op_mul (pv 3) pe_int) pe_int) pe_int)))))),?_⟩
 have hS':∀o,SqL K (upd H b o) a (ns.map V.int):=fun o=>(But9.put H o).sqL hab hS
 have hix:ixN [V.int (n:Int)].length 0=some 0:=by
  unfold ixN
  rw[if_pos (by decide),if_pos (by show (0:Int) < ((1:Nat):Int); decide)]
  rfl
 refine ⟨_,rfl,b,_,_,_,rfl,rfl,SqL.of hb,atI_nat (j:=0) rfl,_,_,rfl,rfl,_,rfl,b,_,_,0,rfl,rfl,hb,hix,?_⟩
 have e1:((n:Int)+1)=((n+1:Nat):Int):=by omega
 refine ⟨_,rfl,b,_,_,_,rfl,rfl,SqL.of upd_same,atI_nat (j:=0) rfl,?_⟩
 dsimp only
 show tSeq _ _ _ _ (upd H b (.lst [V.int ((n:Int)+1)]))
 rw[e1]
 generalize hm:n+1=m at q
 have hm1:m≤1000000000001:=by omega
 have fin:∀B:Int,0≤B * 48271 % 2147483647 / 7∧B * 48271 % 2147483647 / 7 < 306783380:=fun B=>by
  have:=Int.emod_nonneg (B * 48271) (b:=2147483647) (by decide)
  have:=Int.emod_lt_of_pos (B * 48271) (b:=2147483647) (by decide)
  omega
 refine ⟨_,rfl,_,_,rfl,rfl,.inl ⟨by decide,by decide⟩,_,rfl,_,_,rfl,rfl,.inr ⟨by omega,by omega⟩,_,rfl,_,_,rfl,rfl,.inl ⟨by decide,by decide⟩,_,_,rfl,rfl,?_⟩
 refine ⟨_,rfl,a,_,rfl,.inl (hS' _),_,_,rfl,rfl,_,rfl,?_⟩
 refine ite_b9 (fun e=>?_) (fun e=>?_)
 ·have h0:(0:Int) < ((ns.map V.int).length:Nat):=of_decide_eq_true e
  have hlen:((ns.map V.int).length:Nat)≤63:=by rw[List.length_map]; exact h63
  have k0:=Int.emod_nonneg (m:Int) (b:=((ns.map V.int).length:Nat)) (by omega)
  have k1:=Int.emod_lt_of_pos (m:Int) (b:=((ns.map V.int).length:Nat)) h0
  obtain ⟨v,hv,hat⟩:=atI_mem9 k0 k1
  obtain ⟨z,_,rfl⟩:=List.mem_map.mp hv
  have d0:0≤(m:Int) / ((ns.map V.int).length:Nat):=Int.ediv_nonneg (by omega) (by omega)
  have d1:(m:Int) / ((ns.map V.int).length:Nat)≤m:=Int.ediv_le_self _ (by omega)
  refine ⟨_,rfl,_,rfl,_,rfl,_,rfl,a,_,rfl,.inl (hS' _),_,_,rfl,rfl,h0,a,_,_,_,rfl,rfl,hS' _,hat,_,rfl,_,rfl,a,_,rfl,.inl (hS' _),_,_,rfl,rfl,⟨h0,by show _ < (1073741824:Int); omega⟩,_,_,rfl,rfl,_,_,rfl,rfl,.inr ⟨by show _ < 1+(m:Int) / _; omega,by show 1+(m:Int) / _ < _; omega⟩,_,_,rfl,rfl,?_⟩
  refine ⟨_,rfl,_,_,rfl,rfl,.inr ⟨by decide,by decide⟩,_,_,rfl,rfl,(by show (0:Int) < 2147483647; decide),_,_,rfl,rfl,⟨by decide,by decide⟩,?_⟩
  exact q _ _ (fin _).1 (fin _).2 (But9.put H _) upd_same
 ·refine ⟨_,rfl,_,_,rfl,rfl,.inr ⟨by decide,by decide⟩,_,_,rfl,rfl,(by show (0:Int) < 2147483647; decide),_,_,rfl,rfl,⟨by decide,by decide⟩,?_⟩
  exact q _ _ (fin _).1 (fin _).2 (But9.put H _) upd_same
end
abbrev sPl:Stmt:=topd 79
def PlD (d:D):Prop:=(∃i,d=.tup [.str "number",.int i])∨(∃t,d=.tup [.str "text",.str t])∨(∃b,d=.tup [.str "truth",.bl b])∨d=noD
theorem PlD.dep {d:D} (h:PlD d):GS.dep d≤1:=by
 rcases h with ⟨i,rfl⟩ | ⟨t,rfl⟩ | ⟨b,rfl⟩ | rfl
 ·rw[GS.dep,deps,deps,deps,dep_str,dep_int]; decide
 ·rw[GS.dep,deps,deps,deps,dep_str,dep_str]; decide
 ·rw[GS.dep,deps,deps,deps,dep_str,dep_bl]; decide
 ·rw[noD,GS.dep,deps,deps,dep_str]; decide
theorem PlD.vd {d:D} (os:List Th) (h:PlD d):Vd os d∧thO os d=none:=by
 have hd:=h.dep
 rcases h with ⟨i,rfl⟩ | ⟨t,rfl⟩ | ⟨b,rfl⟩ | rfl
 ·exact ⟨Vd.no (by decide +kernel) hd,thO_no _ _ (by decide +kernel)⟩
 ·exact ⟨Vd.no (by decide +kernel) hd,thO_no _ _ (by decide +kernel)⟩
 ·exact ⟨Vd.no (by decide +kernel) hd,thO_no _ _ (by decide +kernel)⟩
 ·exact ⟨Vd.noD,thO_no _ _ (by decide +kernel)⟩
theorem atI_mem4 {a b c d:V} {k:Int} (h0:0≤k) (h1:k < 4):∃v,atI [a,b,c,d] k=some v∧(v=a∨v=b∨v=c∨v=d):=by
 obtain ⟨v,hv,e⟩:=atI_mem9 (xs:=[a,b,c,d]) h0 h1
 simp at hv
 exact ⟨v,e,hv⟩
def tPl (K:PySem.W.Frag):TE:=fun σ H Q=>∃n,σ[0]?=some (some (.int n))∧∀d v H',PlD d→Same H H'→At K H' d v→Q v H'
section
variable {P:Program} {w:World} {K:PySem.W.Frag} {mg:Str→Option Value} {base:Heap} {f:Addr} {fd:FuncData} {c:ClD}
def spPl (K:PySem.W.Frag):Sp:=fun vs H Q _=>∃n:Int,vs=[.int n]∧∀d v H',PlD d→Same H H'→At K H' d v→Q v H'
theorem scPl:FnScope ["_law_n","_law_some"] ["_law_n"] (defScope sPl):=⟨rfl,rfl,rfl,by decide +kernel,rfl,by decide +kernel,by decide +kernel⟩
theorem ok_Pl (F:Fun K "_law_plain" "_law_plain" sPl f fd):FnOk P w K mg base CX0 1 f fd ["_law_n"] (spPl K):=by
 refine F.okI scPl (fun vs H Q E h=>?_) (fun cdv A outer s H vs Q E hr h=>?_)
 ·obtain ⟨_,rfl,_⟩:=h; rfl
 obtain ⟨n,rfl,q⟩:=h
 refine ⟨_,pss_cons (ps_set (i:=1) scPl.nd rfl (Or.inl rfl) (pe_lst (pa_cons (le_imp (t':=tPl K) (pe_tup (pa_cons pe_str (pa_cons (pe_op op_sub (pe_op op_mod (pe_op op_fdiv (pv 0) pe_int) pe_int) pe_int) pa_nil))) ?e1)
   (pa_cons (le_imp (t':=tPl K) (pe_tup (pa_cons pe_str (pa_cons (pe_slice sl_str pe_str po_none (po_some (pe_op op_mod (pe_op op_fdiv (pv 0) pe_int) pe_int))) pa_nil))) ?e2)
   (pa_cons (le_imp (t':=tPl K) (pe_tup (pa_cons pe_str (pa_cons (pe_cmpR op_eq (pe_op op_mod (pe_op op_fdiv (pv 0) pe_int) pe_int) pe_int (nomark _)) pa_nil))) ?e3)
   (pa_cons (le_imp (t':=tPl K) (pe_tup (pa_cons pe_str pa_nil)) ?e4) pa_nil))))))
  (pss_one (ps_ret (pe_ifExp (pt_cmpR op_gt (pe_op op_mod (pe_op op_fdiv (pv 0) pe_int) pe_int) pe_int (nomark _)) (pe_ix (r:=rIxL K) ix_list (pv 1) (pe_op op_mod (pv 0) pe_int) (fun _ _=>rfl))
   (le_imp (t':=tPl K) (pe_tup (pa_cons pe_str (pa_cons (pe_op op_mod (pe_op op_fdiv (pv 0) pe_int) (pe_op op_pow pe_int pe_int)) pa_nil))) ?e5)))),?main⟩
 case e1=>
  rintro σ H Q ⟨n,e0,q⟩
  exact ⟨_,e0,_,_,rfl,rfl,⟨by decide,by decide⟩,_,_,rfl,rfl,(show (0:Int) < _ by decide),_,_,rfl,rfl,by show 2≤sizeLine; decide,fun p hp=>q _ _ _ (.inl ⟨_,rfl⟩) (same_new hp _) (At.new hp (AtAll2 (At_str.mpr rfl) (At_int.mpr rfl)))⟩
 case e2=>
  rintro σ H Q ⟨n,e0,q⟩
  exact ⟨_,e0,_,_,rfl,rfl,⟨by decide,by decide⟩,_,_,rfl,rfl,(show (0:Int) < _ by decide),_,rfl,_,rfl,by show 2≤sizeLine; decide,by show 2≤sizeLine; decide,fun p hp=>q _ _ _ (.inr (.inl ⟨_,rfl⟩)) (same_new hp _) (At.new hp (AtAll2 (At_str.mpr rfl) (At_str.mpr rfl)))⟩
 case e3=>
  rintro σ H Q ⟨n,e0,q⟩
  exact ⟨_,e0,_,_,rfl,rfl,⟨by decide,by decide⟩,_,_,rfl,rfl,(show (0:Int) < _ by decide),rfl,by show 2≤sizeLine; decide,fun p hp=>q _ _ _ (.inr (.inr (.inl ⟨_,rfl⟩))) (same_new hp _) (At.new hp (AtAll2 (At_str.mpr rfl) (At_bl.mpr rfl)))⟩
 case e4=>
  rintro σ H Q ⟨n,e0,q⟩
  exact ⟨by show 1≤sizeLine; decide,fun p hp=>q noD _ _ (.inr (.inr (.inr rfl))) (same_new hp _) (At.new hp (AtAll.one1 (At_str.mpr rfl)))⟩
 case e5=>
  rintro σ H Q ⟨n,e0,q⟩
  exact ⟨_,e0,_,_,rfl,rfl,⟨by decide,by decide⟩,_,_,rfl,rfl,⟨by decide,by decide,by decide⟩,_,_,rfl,rfl,by show (0:Int) < 10 ^ (Int.toNat 9); decide,by show 2≤sizeLine; decide,fun p hp=>q _ _ _ (.inl ⟨_,rfl⟩) (same_new hp _) (At.new hp (AtAll2 (At_str.mpr rfl) (At_int.mpr rfl)))⟩
 case main=>
  refine ⟨n,rfl,fun d1 v1 H1 p1 s1 a1=>⟨n,rfl,fun d2 v2 H2 p2 s2 a2=>⟨n,rfl,fun d3 v3 H3 p3 s3 a3=>⟨n,rfl,fun d4 v4 H4 p4 s4 a4=>⟨by show 4≤sizeLine; decide,fun pl hpl=>?_⟩⟩⟩⟩⟩
  have s5:Same H4 (upd H4 pl (.lst [v1,v2,v3,v4])):=same_new hpl _
  have l5:upd H4 pl (.lst [v1,v2,v3,v4]) pl=some (.lst [v1,v2,v3,v4]):=upd_same
  revert s5 l5
  generalize upd H4 pl (.lst [v1,v2,v3,v4])=H5
  intro s5 l5
  have t4:=s4.trans s5
  have t3:=s3.trans t4
  have t2:=s2.trans t3
  have t1:=s1.trans t2
  refine ⟨_,rfl,_,_,rfl,rfl,⟨by decide,by decide⟩,_,_,rfl,rfl,(show (0:Int) < _ by decide),_,_,rfl,rfl,_,rfl,ite_b9 (fun _=>?_) (fun _=>⟨n,rfl,fun d v H' p s a=>q d v H' p (t1.trans s) a⟩)⟩
  have k0:=Int.emod_nonneg n (b:=4) (by decide)
  have k1:=Int.emod_lt_of_pos n (b:=4) (by decide)
  obtain ⟨v,e,hv⟩:=atI_mem4 (a:=v1) (b:=v2) (c:=v3) (d:=v4) k0 k1
  refine ⟨_,rfl,_,rfl,_,_,rfl,rfl,(show (0:Int) < _ by decide),pl,_,_,v,rfl,rfl,SqL.of l5,e,?_⟩
  rcases hv with rfl | rfl | rfl | rfl
  ·exact q _ _ _ p1 t1 (At.same t2 _ _ a1)
  ·exact q _ _ _ p2 t1 (At.same t3 _ _ a2)
  ·exact q _ _ _ p3 t1 (At.same t4 _ _ a3)
  ·exact q _ _ _ p4 t1 (At.same s5 _ _ a4)
end
theorem dep2 {a b:D} {n:Nat} (h1:dep a≤n) (h2:dep b≤n):dep (.tup [a,b])≤n+1:=by
 rw[GS.dep,deps,deps,deps]; omega
theorem dep_s (x:Str) (n:Nat):dep (.str x)≤n:=by rw[dep_str]; exact Nat.zero_le _
abbrev sDrn:Stmt:=topd 78
theorem pairs_str {m:Nat} {is:List Nat} {ys:List V} (h:Pairs (fun _ v=>∃z:Str,v=.str z∧z.length≤m) is ys):∃zs:List Str,ys=zs.map V.str∧zs.length=is.length∧∀z∈zs,z.length≤m:=by
 induction h with
 | nil=>exact ⟨[],rfl,rfl,fun z h=>(by simp at h)⟩
 | cons h1 _ ih=>
  obtain ⟨z,rfl,hz⟩:=h1
  obtain ⟨zs,rfl,e,hs⟩:=ih
  refine ⟨z::zs,rfl,by rw[List.length_cons,List.length_cons,e],fun y hy=>?_⟩
  rcases List.mem_cons.mp hy with rfl | hy
  ·exact hz
  ·exact hs y hy
theorem sum_le {m:Nat}:∀{zs:List Str},(∀z∈zs,z.length≤m)→(zs.map (·.length)).sum≤zs.length * m
 | [],_=>Nat.zero_le _
 | z::zs,h=>by
  have h1:=h z List.mem_cons_self
  have h2:=sum_le fun y hy=>h y (List.mem_cons_of_mem _ hy)
  rw[List.map_cons,List.sum_cons,List.length_cons,Nat.succ_mul]
  omega
theorem emod_in {a:Int} {b:Int} (hb:0 < b):0≤a % b∧a % b < b:=⟨Int.emod_nonneg _ (by omega),Int.emod_lt_of_pos _ hb⟩
def abcS:Str:="abcdefghijklmnopqrstuvwxyzABCDEFGHIJKLMNOPQRSTUVWXYZ"
theorem abc_len:abcS.cps.toList.length=52:=by decide +kernel
theorem abc_at {k:Int} (h0:0≤k) (h1:k < 52):∃c,atI abcS.cps.toList k=some c:=by
 obtain ⟨v,_,e⟩:=atI_mem9 (xs:=abcS.cps.toList) h0 (by rw[abc_len]; exact h1)
 exact ⟨v,e⟩
theorem itr_stop {n:Nat} {H:Hp}:∀H',Same H H'→(Itr 0 n).stop n H':=fun _ _=>Nat.le_refl _
theorem itr_go {n:Nat} {H:Hp}:∀i H',i < n→Same H H'→(Itr 0 n).go i H':=fun _ _ h _=>h
theorem itr_yld {n:Nat} {H:Hp}:∀i H1 x H2,i < n→Same H H1→(Itr 0 n).yld i H1 x H2→x=V.int (0+(i:Int))∧H2=H1:=fun i H1 x H2 _ _ h=>⟨h.2,h.1⟩
theorem atI_mem3 {a b c:V} {k:Int} (h0:0≤k) (h1:k < 3):∃v,atI [a,b,c] k=some v∧(v=a∨v=b∨v=c):=by
 obtain ⟨v,hv,e⟩:=atI_mem9 (xs:=[a,b,c]) h0 h1
 simp at hv
 exact ⟨v,e,hv⟩
section
variable {P:Program} {w:World} {K:PySem.W.Frag} {mg:Str→Option Value} {base:Heap} {f:Addr} {fd:FuncData}
def spDrn (K:PySem.W.Frag):Sp:=fun vs H Q _=>∃n:Int,vs=[.int n]∧∀p (xs:List Str) H',Same H H'→H p=none→H' p=some (.lst (xs.map V.str))→xs.length=12→(∀x∈xs,x.length≤100)→Q (.ref p) H'
def tNm3 (K:PySem.W.Frag):TE:=fun σ H Q=>∃(n at' k:Int) (word:Str) (c:Str),σ[0]?=some (some (.int n))∧σ[2]?=some (some (.str word))∧σ[3]?=some (some (.int at'))∧σ[5]?=some (some (.int k))∧σ[6]?=some (some (.str c))∧word.length≤8∧c.length≤1∧0≤k∧k < 12∧∀(z:Str) H',Same H H'→z.length≤100→Q (.str z) H'
theorem scDrn:FnScope ["_law_n","_law_some","_law_word","_law_at","_law_names_here","_law_k","_law_sign"] ["_law_n"] (defScope sDrn):=⟨rfl,rfl,rfl,by decide +kernel,rfl,by decide +kernel,by decide +kernel⟩
theorem ok_Drn (g:Glb9 mg) (F:Fun K "_law_drawn_names" "_law_drawn_names" sDrn f fd):FnOk P w K mg base CX0 1 f fd ["_law_n"] (spDrn K):=by
 refine F.okI scDrn (fun vs H Q E h=>?_) (fun cdv A outer s H vs Q E hr h=>?_)
 ·obtain ⟨_,rfl,_⟩:=h; rfl
 obtain ⟨n,rfl,q⟩:=h
 refine ⟨_,(pss_cons (ps_set (i:=1) scDrn.nd rfl (Or.inr rfl) pe_str)
   (pss_cons (ps_set (i:=2) scDrn.nd rfl (Or.inl rfl) (pe_bm PySem.F.plainAttrs_str PySem.F.slot_str_join PySem.F.type_str_join mt_join pe_str (pa_cons (.mk (L2.pe_compG (cl:=[("_law_some",s.heap.objs.size+2),("_law_n",s.heap.objs.size+1)]) (Xs:=["_law_j"]) (Nf:=["_law_some","_law_n"]) (js:=[1,0]) ?k rfl (LI.out (pi_range1 rfl g.nRange (pa_cons pe_int pa_nil))) (fun C s0 H0 fp=>LG.out (pg_name (i:=0) (show (["_law_j","_law_some","_law_n"]:List Str).Nodup by decide +kernel) rfl (Or.inl rfl))) (fun C s0 H0 fp=>pts_nil) (fun C s0 H0 fp=>LE.out (pe_ix (r:=rIxS) ix_str (pv 1) (pe_op op_mod (pe_op op_add (pe_op op_fdiv (pv 2) pe_int) (pe_op op_mul pe_int (pv 0))) pe_int) (fun _ _=>rfl))))) pa_nil)))
   (pss_cons (ps_set (i:=3) scDrn.nd rfl (Or.inl rfl) (pe_op op_mod (pe_op op_fdiv (pv 0) pe_int) pe_int))
   (pss_cons (ps_set (i:=4) scDrn.nd rfl (Or.inl rfl) (pe_lst pa_nil))
   (pss_cons (ps_for PassesOwn.never rfl (pi_range1 rfl g.nRange (pa_cons pe_int pa_nil)) (pg_name (i:=5) scDrn.nd rfl (Or.inl rfl)) (pss_cons (ps_set (i:=6) scDrn.nd rfl (Or.inl rfl) (pe_ix (r:=rIxS) ix_str (pv 1) (pe_op op_mod (pe_op op_add (pe_op op_add (pe_op op_fdiv (pv 0) pe_int) (pe_op op_mul pe_int (pv 5))) pe_int) pe_int) (fun _ _=>rfl)))
   (pss_one (ps_expr (pe_bm PySem.F.plainAttrs_list PySem.F.slot_list_append PySem.F.type_list_append mt_append (pv 4) (pa_cons (le_imp (t':=tNm3 K) (pe_ix (r:=rIxL K) ix_list (pe_lst (pa_cons (pe_op op_add_str (pe_slice sl_str (pv 2) po_none (po_some pe_int)) (pe_callTy call_str_int rfl g.nStr b9Str (pa_cons (pv 5) pa_nil))) (pa_cons (pe_op op_add_str (pe_op op_add_str (pe_slice sl_str (pv 2) po_none (po_some (pv 3))) (pv 6)) (pe_slice sl_str (pv 2) (po_some (pe_op op_add (pv 3) pe_int)) po_none)) (pa_cons (pe_slice sl_str (pe_op op_add_str (pv 6) (pv 2)) po_none (po_some (pe_op op_add pe_int (pe_op op_mod (pe_op op_fdiv (pv 0) pe_int) pe_int)))) pa_nil)))) (pe_op op_mod (pv 0) pe_int) (fun _ _=>rfl)) ?nm) pa_nil))))))
   (pss_one (ps_ret (pv 4)))))))),?main⟩
 case k=>
  refine ⟨rfl,by decide +kernel,rfl,by decide +kernel,fun y c h=>?_,fun y hy=>?_,rfl,fun j y h=>?_⟩
  ·rcases look2 h with ⟨rfl,rfl⟩ | ⟨rfl,rfl⟩ <;> rfl
  ·have hy':([(".0",.local),("_law_j",.local),("_law_n",.cell),("_law_some",.cell)]:List (Str×NameKind)).lookup y=some .cell∨([(".0",.local),("_law_j",.local),("_law_n",.cell),("_law_some",.cell)]:List (Str×NameKind)).lookup y=some .free:=hy
   rcases hy' with z | z
   ·have m:=PySem.mem_of_lookup z
    simp at m
    rcases m with rfl | rfl <;> exact ⟨_,rfl⟩
   ·have m:=PySem.mem_of_lookup z
    simp at m
  ·match j,h with
   | 0,h=>cases h; exact ⟨1,rfl,rfl,rfl,.inl rfl⟩
   | 1,h=>cases h; exact ⟨0,rfl,rfl,rfl,.inl rfl⟩
   | j+2,h=>simp at h
 case nm=>
  rintro σ H Q ⟨n,at',k,word,c,e0,e2,e3,e5,e6,hw,hc,k0,k1,q⟩
  have zw:word.length≤sizeLine:=small (by omega)
  obtain ⟨kn,rfl⟩:∃kn:Nat,k=(kn:Int):=⟨k.toNat,by omega⟩
  have hkn:kn < 12:=by omega
  have hz:(Str.ofString (toString (kn:Int))).length≤5:=(show ∀i:Nat,i < 12→(Str.ofString (toString (i:Int))).length≤5 by decide +kernel) kn hkn
  have hlg:(kn:Int).natAbs.log2 < 1920:=(show ∀i:Nat,i < 12→(i:Int).natAbs.log2 < 1920 by decide +kernel) kn hkn
  have a1:=sliceText_le word none (some 1)
  have a2:=sliceText_le word none (some at')
  have a3:=sliceText_le word (some (at'+1)) none
  have a4:(c++word).length≤9:=by rw[strLen_app]; omega
  have a5:=sliceText_le (c++word) none (some (1+n / 3 % 8))
  refine ⟨_,e2,_,rfl,_,rfl,zw,_,e5,kn,rfl,hlg,_,_,rfl,rfl,small (n:=(StrLaws.sliceText word none (some 1)).length+(Str.ofString (toString (kn:Int))).length) (by omega),?_⟩
  refine ⟨_,e2,_,e3,_,rfl,_,rfl,zw,_,e6,_,_,rfl,rfl,small (n:=(StrLaws.sliceText word none (some at')).length+c.length) (by omega),_,e2,_,e3,_,_,rfl,rfl,_,rfl,_,rfl,zw,_,_,rfl,rfl,small (n:=(StrLaws.sliceText word none (some at')++c).length+(StrLaws.sliceText word (some (at'+1)) none).length) (by rw[strLen_app]; omega),?_⟩
  refine ⟨_,e6,_,e2,_,_,rfl,rfl,small (n:=c.length+word.length) (by omega),_,e0,_,_,rfl,rfl,⟨by decide,by decide⟩,_,_,rfl,rfl,(show (0:Int) < _ by decide),_,_,rfl,rfl,_,rfl,_,rfl,small (n:=(c++word).length) (by omega),by show 3≤sizeLine; decide,fun pl hpl=>?_⟩
  obtain ⟨m0,m1⟩:=emod_in (a:=n) (b:=3) (by decide)
  have s1:=same_new hpl (.lst [.str (StrLaws.sliceText word none (some 1)++Str.ofString (toString (kn:Int))),.str (StrLaws.sliceText word none (some at')++c++StrLaws.sliceText word (some (at'+1)) none),.str (StrLaws.sliceText (c++word) none (some (1+n / 3 % 8)))])
  obtain ⟨u,eu,hu⟩:=atI_mem3 (a:=.str (StrLaws.sliceText word none (some 1)++Str.ofString (toString (kn:Int)))) (b:=.str (StrLaws.sliceText word none (some at')++c++StrLaws.sliceText word (some (at'+1)) none)) (c:=.str (StrLaws.sliceText (c++word) none (some (1+n / 3 % 8)))) m0 m1
  refine ⟨_,e0,_,_,rfl,rfl,(show (0:Int) < _ by decide),pl,_,_,u,rfl,rfl,SqL.of upd_same,eu,?_⟩
  rcases hu with rfl | rfl | rfl
  ·exact q _ _ s1 (by rw[strLen_app]; omega)
  ·exact q _ _ s1 (by rw[strLen_app,strLen_app]; omega)
  ·exact q _ _ s1 (by omega)
 case main=>
  refine ⟨rfl,_,rfl,by decide,by decide,[.str abcS,.int n],⟨rfl,fun j i h=>?_⟩,compG_one (vs:=[.str abcS,.int n]) (tc:=tTrue) 8 (fun i=>V.int (0+(i:Int))) (fun _=>true) (fun _ v _=>∃z:Str,v=.str z∧z.length≤1) (fun _ _ _ _ _ z=>z) (by decide) itr_stop itr_go itr_yld (fun i H2 Q' hi s2 k=>k H2 (Same.refl _)) (fun j H1 D l' Q' hj _ s1 _ _ k=>?_) fun D H1 ys hD s1 hl1 hP=>?_⟩
  ·match j,h with
   | 0,h=>cases h; exact ⟨_,rfl,rfl⟩
   | 1,h=>cases h; exact ⟨_,rfl,rfl⟩
   | j+2,h=>simp at h
  ·obtain ⟨m0,m1⟩:=emod_in (a:=n / 192+5 * (0+(j:Int))) (b:=52) (by decide)
   obtain ⟨ch,hc⟩:=abc_at m0 m1
   exact ⟨_,rfl,_,rfl,_,_,rfl,rfl,⟨by decide,by decide⟩,_,rfl,_,_,rfl,rfl,.inl ⟨by decide,by decide⟩,_,_,rfl,rfl,_,_,rfl,rfl,(show (0:Int) < _ by decide),_,_,ch,rfl,rfl,by decide +kernel,hc,k _ _ (Same.refl _) ⟨_,rfl,Nat.le_refl 1⟩⟩
  obtain ⟨zs,rfl,lz,hz⟩:=pairs_str hP
  have lz8:zs.length=8:=lz
  have hsum:=sum_le hz
  have hz0:("":Str).length=0:=rfl
  refine ⟨_,D,zs,rfl,rfl,SqL.of hl1,by rw[hz0]; omega,?_⟩
  have lw:(Txt.join ("":Str) zs).length≤8:=by
   show (PySem.Builtin.Str.glued ("":Str) zs).length≤8
   rw[StrLaws.glued_eq_join]
   have:=StrLaws.join_length_le ("":Str) zs
   rw[hz0] at this
   omega
  generalize Txt.join ("":Str) zs=word at lw
  refine ⟨_,rfl,_,_,rfl,rfl,⟨by decide,by decide⟩,_,_,rfl,rfl,(show (0:Int) < _ by decide),Nat.zero_le _,fun pn hpn=>?_⟩
  have hpn0:H pn=none:=none_of s1 hpn
  have s2:Same H (upd H1 pn (.lst [])):=s1.trans (same_new hpn _)
  have l2:upd H1 pn (.lst []) pn=some (.lst []):=upd_same
  revert s2 l2
  generalize upd H1 pn (.lst [])=H2
  intro s2 l2
  refine ⟨_,rfl,by decide,by decide,for_range (lo:=0) (n:=12) (fun i σ H'=>(∃o5 o6,σ=[some (.int n),some (.str abcS),some (.str word),some (.int (n / 24 % 8)),some (.ref pn),o5,o6])∧Same H H'∧∃xs:List Str,H' pn=some (.lst (xs.map V.str))∧xs.length=i∧∀x∈xs,x.length≤100) ⟨⟨_,_,rfl⟩,s2,[],l2,rfl,fun x h=>(by simp at h)⟩ ?t ?s⟩
  case s=>
   rintro σ H' ⟨⟨o5,o6,rfl⟩,sH,xs,hx,lx,hxs⟩
   exact ⟨_,rfl,q _ xs H' sH hpn0 hx lx hxs⟩
  case t=>
   rintro i σ H' hi ⟨⟨o5,o6,rfl⟩,sH,xs,hx,lx,hxs⟩
   obtain ⟨m0,m1⟩:=emod_in (a:=n / 192+7 * (0+(i:Int))+1) (b:=52) (by decide)
   obtain ⟨ch,hc⟩:=abc_at m0 m1
   refine ⟨_,rfl,_,rfl,_,_,rfl,rfl,⟨by decide,by decide⟩,_,rfl,_,_,rfl,rfl,.inl ⟨by decide,by decide⟩,_,_,rfl,rfl,_,_,rfl,rfl,_,_,rfl,rfl,(show (0:Int) < _ by decide),_,_,ch,rfl,rfl,by decide +kernel,hc,?_⟩
   refine ⟨_,rfl,.inl ⟨rfl,_,SqL.of hx⟩,n,_,0+(i:Int),word,_,rfl,rfl,rfl,rfl,rfl,lw,Nat.le_refl 1,by omega,by omega,fun z H3 s3 hz3=>?_⟩
   have hx3:=s3 _ _ hx
   refine ⟨pn,_,.str z,rfl,rfl,hx3,small1000 (by rw[List.length_map]; omega),⟨_,_,rfl⟩,same_upd (sH.trans s3) hpn0 _,xs++[z],by rw[upd_same,List.map_append]; rfl,by rw[List.length_append,lx]; rfl,fun y hy=>?_⟩
   rcases List.mem_append.mp hy with hy | hy
   ·exact hxs y hy
   ·rw[List.mem_singleton.mp hy]; exact hz3
end
end GS
namespace GS
section
variable {α:Type} [DecidableEq α]
def offHd (c:α):List α→List α
 | []=>[]
 | x::xs=>if x=c then xs else x::xs
def isBehind (c:α) (rs:List (List α)):Bool:=rs.any fun r=>decide (c∈r.tail)
def freeL (rs:List (List α)):List α:=(rs.filterMap List.head?).filter fun c=>!isBehind c rs
def mgStep (rs:List (List α)) (f:List (List α)→Option (List α)):Option (List α):=
 if rs.all List.isEmpty=true then some [] else match freeL rs with
  | []=>none
  | c::_=>(f (rs.map (offHd c))).map (c::·)
def mgN:Nat→List (List α)→Option (List α)
 | 0,rs=>if rs.all List.isEmpty=true then some [] else none
 | n+1,rs=>mgStep rs (mgN n)
def tot (rs:List (List α)):Nat:=(rs.map List.length).foldr (·+·) 0
def mg (rs:List (List α)):Option (List α):=mgN (tot rs) rs
theorem tot_cons (r:List α) (rs:List (List α)):tot (r::rs)=r.length+tot rs:=rfl
theorem offHd_len (c:α):∀r:List α,(offHd c r).length≤r.length
 | []=>Nat.le_refl _
 | x::xs=>by
  rw[offHd]
  split
  ·exact Nat.le_succ _
  ·exact Nat.le_refl _
theorem offHd_lt {c:α} {r:List α} (h:r.head?=some c):(offHd c r).length < r.length:=by
 cases r with
 | nil=>cases h
 | cons x xs=>simp at h; subst h; simp[offHd]
theorem tot_off_le (c:α):∀rs:List (List α),tot (rs.map (offHd c))≤tot rs
 | []=>Nat.le_refl _
 | r::rs=>by
  have h1:=tot_off_le c rs
  have h2:=offHd_len c r
  rw[List.map_cons,tot_cons,tot_cons]
  omega
theorem heads_cons {c:α} {r:List α} {rs:List (List α)}:c∈(r::rs).filterMap List.head?↔r.head?=some c∨c∈rs.filterMap List.head?:=by
 simp only [List.mem_filterMap,List.mem_cons]
 constructor
 ·rintro ⟨a,rfl | ha,e⟩
  ·exact .inl e
  ·exact .inr ⟨a,ha,e⟩
 ·rintro (e | ⟨a,ha,e⟩)
  ·exact ⟨r,.inl rfl,e⟩
  ·exact ⟨a,.inr ha,e⟩
theorem tot_off_lt (c:α):∀{rs:List (List α)},c∈rs.filterMap List.head?→tot (rs.map (offHd c)) < tot rs
 | [],h=>by simp at h
 | r::rs,h=>by
  have h1:=tot_off_le c rs
  have h2:=offHd_len c r
  rw[List.map_cons,tot_cons,tot_cons]
  cases heads_cons.mp h with
  | inl hc=>have:=offHd_lt hc; omega
  | inr hc=>have:=tot_off_lt c hc; omega
theorem tot_zero:∀{rs:List (List α)},tot rs=0→rs.all List.isEmpty=true
 | [],_=>rfl
 | r::rs,h=>by
  rw[tot_cons] at h
  have h1:=tot_zero (rs:=rs) (by omega)
  have h2:r=[]:=List.length_eq_zero_iff.mp (by omega)
  rw[List.all_cons,h1,h2]; rfl
theorem mgN_more:∀(n m:Nat) (rs:List (List α)),tot rs≤n→tot rs≤m→mgN n rs=mgN m rs:=by
 intro n
 induction n with
 | zero=>
  intro m rs h1 h2
  have he:=tot_zero (rs:=rs) (by omega)
  cases m with
  | zero=>rfl
  | succ m=>rw[mgN,mgN,mgStep,if_pos he,if_pos he]
 | succ n ih=>
  intro m rs h1 h2
  cases m with
  | zero=>
   have he:=tot_zero (rs:=rs) (by omega)
   rw[mgN,mgN,mgStep,if_pos he,if_pos he]
  | succ m=>
   rw[mgN,mgN,mgStep,mgStep]
   cases hf:freeL rs with
   | nil=>rfl
   | cons c cs=>
    have hc:c∈freeL rs:=by rw[hf]; exact List.mem_cons_self
    have hl:=tot_off_lt c (List.mem_filter.mp hc).1
    dsimp only
    rw[ih m _ (by omega) (by omega)]
theorem mg_step (rs:List (List α)):mg rs=mgStep rs mg:=by
 unfold mg
 cases ht:tot rs with
 | zero=>
  have he:=tot_zero ht
  rw[mgN,mgStep,if_pos he,if_pos he]
 | succ n=>
  rw[mgN,mgStep,mgStep]
  cases hf:freeL rs with
  | nil=>rfl
  | cons c cs=>
   have hc:c∈freeL rs:=by rw[hf]; exact List.mem_cons_self
   have hl:=tot_off_lt c (List.mem_filter.mp hc).1
   dsimp only
   rw[mgN_more n (tot (rs.map (offHd c))) _ (by omega) (Nat.le_refl _)]
theorem mg_done {rs:List (List α)} (h:rs.all List.isEmpty=true):mg rs=some []:=by rw[mg_step,mgStep,if_pos h]
theorem mg_stuck {rs:List (List α)} (h:¬rs.all List.isEmpty=true) (hf:freeL rs=[]):mg rs=none:=by rw[mg_step,mgStep,if_neg h,hf]
theorem mg_next {rs:List (List α)} {c:α} {cs:List α} (hf:freeL rs=c::cs):mg rs=(mg (rs.map (offHd c))).map (c::·):=by
 have hc:c∈freeL rs:=by rw[hf]; exact List.mem_cons_self
 have hh:=(List.mem_filter.mp hc).1
 have h:¬rs.all List.isEmpty=true:=fun z=>by
  rw[List.mem_filterMap] at hh
  obtain ⟨r,hr,e⟩:=hh
  have:=List.all_eq_true.mp z r hr
  rw[List.isEmpty_iff.mp this] at e
  cases e
 rw[mg_step,mgStep,if_neg h,hf]
def noE (rs:List (List α)):List (List α):=rs.filter fun r=>!r.isEmpty
theorem noE_cons_nil (rs:List (List α)):noE ([]::rs)=noE rs:=rfl
theorem noE_cons (x:α) (xs:List α) (rs:List (List α)):noE ((x::xs)::rs)=(x::xs)::noE rs:=rfl
theorem noE_heads:∀rs:List (List α),(noE rs).filterMap List.head?=rs.filterMap List.head?
 | []=>rfl
 | []::rs=>by rw[noE_cons_nil,noE_heads rs]; rfl
 | (x::xs)::rs=>by rw[noE_cons,List.filterMap_cons,List.filterMap_cons,noE_heads rs]
theorem noE_behind (c:α):∀rs:List (List α),isBehind c (noE rs)=isBehind c rs
 | []=>rfl
 | []::rs=>by rw[noE_cons_nil,noE_behind c rs]; rfl
 | (x::xs)::rs=>by
  have h:=noE_behind c rs
  unfold isBehind at h ⊢
  rw[noE_cons,List.any_cons,List.any_cons,h]
theorem noE_free (rs:List (List α)):freeL (noE rs)=freeL rs:=by
 unfold freeL
 rw[noE_heads]
 refine congrFun (congrArg List.filter (funext fun c=>?_)) _
 rw[noE_behind]
theorem noE_tot:∀rs:List (List α),tot (noE rs)=tot rs
 | []=>rfl
 | []::rs=>by rw[noE_cons_nil,noE_tot rs,tot_cons]; simp
 | (x::xs)::rs=>by rw[noE_cons,tot_cons,tot_cons,noE_tot rs]
theorem noE_all (rs:List (List α)):(noE rs).all List.isEmpty=rs.all List.isEmpty:=by
 induction rs with
 | nil=>rfl
 | cons r rs ih=>cases r with
  | nil=>rw[noE_cons_nil,ih]; rfl
  | cons x xs=>rw[noE_cons,List.all_cons,List.all_cons]; rfl
theorem noE_off (c:α):∀rs:List (List α),noE ((noE rs).map (offHd c))=noE (rs.map (offHd c))
 | []=>rfl
 | []::rs=>by rw[noE_cons_nil,noE_off c rs]; rfl
 | (x::xs)::rs=>by
  have h:=noE_off c rs
  rw[noE_cons,List.map_cons,List.map_cons]
  cases e:offHd c (x::xs) with
  | nil=>rw[noE_cons_nil,noE_cons_nil,h]
  | cons y ys=>rw[noE_cons,noE_cons,h]
theorem mgN_noE:∀(n:Nat) (rs:List (List α)),mgN n (noE rs)=mgN n rs
 | 0,rs=>by rw[mgN,mgN,noE_all]
 | n+1,rs=>by
  rw[mgN,mgN,mgStep,mgStep,noE_all,noE_free]
  split
  ·rfl
  ·split
   ·rfl
   ·rw[← mgN_noE n,noE_off,mgN_noE n]
theorem mg_noE (rs:List (List α)):mg (noE rs)=mg rs:=by unfold mg; rw[noE_tot,mgN_noE]
def okRow (rs:List (List α)) (i:Nat):Bool:=match rs[i]? with
 | some (c::_)=>!isBehind c (rs.take i++rs.drop (i+1))
 | _=>false
theorem isBehind_split {c:α} {rs:List (List α)} {i:Nat} {r:List α} (h:rs[i]?=some r):isBehind c rs=(decide (c∈r.tail) || isBehind c (rs.take i++rs.drop (i+1))):=by
 obtain ⟨hi,e⟩:=List.getElem?_eq_some_iff.mp h
 have:rs=rs.take i++r::rs.drop (i+1):=by
  rw[← e,← List.drop_eq_getElem_cons hi,List.take_append_drop]
 conv=>lhs; rw[this]
 unfold isBehind
 rw[List.any_append,List.any_append,List.any_cons]
 cases decide (c∈r.tail) <;> cases (List.take i rs).any (fun r=>decide (c∈r.tail)) <;> rfl
theorem okRow_iff {rs:List (List α)} {i:Nat} {c:α} {cs:List α} (h:rs[i]?=some (c::cs)) (hn:(c::cs).Nodup):okRow rs i=!isBehind c rs:=by
 rw[isBehind_split h,okRow,h]
 have:decide (c∈(c::cs).tail)=false:=decide_eq_false (List.nodup_cons.mp hn).1
 rw[this]; rfl
theorem free_none {rs:List (List α)} (hn:∀r∈rs,r≠[]∧r.Nodup) (h:∀i,i < rs.length→okRow rs i=false):freeL rs=[]:=by
 unfold freeL
 rw[List.filter_eq_nil_iff]
 intro c hc
 rw[List.mem_filterMap] at hc
 obtain ⟨r,hr,e⟩:=hc
 obtain ⟨i,hi,ei⟩:=List.getElem_of_mem hr
 cases r with
 | nil=>cases e
 | cons x xs=>
  cases e
  have h1:=okRow_iff (List.getElem?_eq_some_iff.mpr ⟨hi,ei⟩) (hn _ hr).2
  rw[h i hi] at h1
  rw[← h1]; decide
theorem free_first {rs:List (List α)} {i:Nat} {c:α} {cs:List α} (hn:∀r∈rs,r≠[]∧r.Nodup) (hi:rs[i]?=some (c::cs)) (ho:okRow rs i=true) (h:∀j,j < i→okRow rs j=false):∃more,freeL rs=c::more:=by
 obtain ⟨hl,e⟩:=List.getElem?_eq_some_iff.mp hi
 have hs:rs=rs.take i++(c::cs)::rs.drop (i+1):=by
  rw[← e,← List.drop_eq_getElem_cons hl,List.take_append_drop]
 have hc:isBehind c rs=false:=by
  have:=okRow_iff hi (hn _ (List.mem_of_getElem? hi)).2
  rw[ho] at this
  revert this; cases isBehind c rs <;> simp
 have ht:((rs.take i).filterMap List.head?).filter (fun c=>!isBehind c rs)=[]:=by
  rw[List.filter_eq_nil_iff]
  intro d hd
  rw[List.mem_filterMap] at hd
  obtain ⟨r,hr,er⟩:=hd
  obtain ⟨j,hj,ej⟩:=List.getElem_of_mem hr
  rw[List.length_take] at hj
  have hj':rs[j]?=some r:=by
   rw[List.getElem?_eq_some_iff]
   exact ⟨by omega,by rw[← ej,List.getElem_take]⟩
  cases r with
  | nil=>cases er
  | cons x xs=>
   cases er
   have h1:=okRow_iff hj' (hn _ (List.mem_of_getElem? hj')).2
   rw[h j (by omega)] at h1
   rw[← h1]; decide
 unfold freeL
 generalize hp:(fun c=>!isBehind c rs)=p at ht ⊢
 refine ⟨((rs.drop (i+1)).filterMap List.head?).filter p,?_⟩
 have hpc:p c=true:=by rw[← hp]; show (!isBehind c rs)=true; rw[hc]; rfl
 conv=>lhs; rw[hs]
 rw[List.filterMap_append,List.filter_append,ht,List.nil_append,List.filterMap_cons]
 show List.filter p (c::_)=_
 rw[List.filter_cons_of_pos hpc]
theorem offHd_sub (c:α):∀r:List α,(offHd c r).Sublist r
 | []=>List.Sublist.refl _
 | x::xs=>by
  rw[offHd]
  split
  ·exact List.sublist_cons_self ..
  ·exact List.Sublist.refl _
theorem offHd_nodup {c:α} {r:List α} (h:r.Nodup):(offHd c r).Nodup:=h.sublist (offHd_sub c r)
end
section
variable {α β:Type} [DecidableEq α] [DecidableEq β]
end
end GS
set_option maxRecDepth 100000
set_option maxHeartbeats 4000000
namespace GS
open PySem PyProof.Rows
open L2 hiding pe_int pe_bl pe_non pe_str pv pe_glob pe_bltn pe_op pe_un pe_cmpR pe_one pe_and pe_or pe_ifExp pe_ix po_none po_some pe_slice pa_nil pa_cons pe_lst pe_tup pe_dnewK pe_callB pe_callTy pe_bm pt_cmpR pt_val pt_not pw_and1 pw_or1 pw_and pw_or pg_name pgs_nil pgs_cons pg_tup pi_list pi_tup pi_range1 ps_ret ps_expr ps_set ps_asg ps_if ps_while ps_for pss_nil pss_cons pss_one
open L3
noncomputable instance decD:DecidableEq D:=fun a b=>Classical.propDecidable (a=b)
mutual
def nb:D→Bool
 | .bl _=>false
 | .tup xs=>nbs xs
 | _=>true
def nbs:List D→Bool
 | []=>true
 | x::xs=>nb x && nbs xs
end
mutual
theorem eqD_nb:∀(d e:D),nb d=true→nb e=true→eqD d e=true→d=e
 | .non,.non,_,_,_=>rfl
 | .non,.bl b,_,h,_=>by rw[nb] at h; cases h
 | .non,.int i,_,_,z=>by rw[eqD_non_int] at z; cases z
 | .non,.str x,_,_,z=>by rw[eqD_non_str] at z; cases z
 | .non,.tup xs,_,_,z=>by rw[eqD_non_tup] at z; cases z
 | .bl b,_,h,_,_=>by rw[nb] at h; cases h
 | .int i,.non,_,_,z=>by rw[eqD_int_non] at z; cases z
 | .int i,.bl b,_,h,_=>by rw[nb] at h; cases h
 | .int i,.int j,_,_,z=>by rw[eqD] at z; rw[eq_of_beq z]
 | .int i,.str x,_,_,z=>by rw[eqD_int_str] at z; cases z
 | .int i,.tup xs,_,_,z=>by rw[eqD_int_tup] at z; cases z
 | .str i,.non,_,_,z=>by rw[eqD_str_non] at z; cases z
 | .str i,.bl b,_,h,_=>by rw[nb] at h; cases h
 | .str i,.int j,_,_,z=>by rw[eqD_str_int] at z; cases z
 | .str i,.str x,_,_,z=>by rw[eqD] at z; rw[eq_of_beq z]
 | .str i,.tup xs,_,_,z=>by rw[eqD_str_tup] at z; cases z
 | .tup i,.non,_,_,z=>by rw[eqD_tup_non] at z; cases z
 | .tup i,.bl b,_,h,_=>by rw[nb] at h; cases h
 | .tup i,.int j,_,_,z=>by rw[eqD_tup_int] at z; cases z
 | .tup i,.str x,_,_,z=>by rw[eqD_tup_str] at z; cases z
 | .tup xs,.tup ys,h,g,z=>by
  rw[nb] at h g
  rw[eqD] at z
  rw[eqDs_nb xs ys h g z]
theorem eqDs_nb:∀(ds es:List D),nbs ds=true→nbs es=true→eqDs ds es=true→ds=es
 | [],[],_,_,_=>rfl
 | [],e::es,_,_,z=>by rw[eqDs] at z; cases z; all_goals nofun
 | d::ds,[],_,_,z=>by rw[eqDs] at z; cases z; all_goals nofun
 | d::ds,e::es,h,g,z=>by
  rw[nbs,Bool.and_eq_true] at h g
  rw[eqDs,Bool.and_eq_true] at z
  rw[eqD_nb d e h.1 g.1 z.1,eqDs_nb ds es h.2 g.2 z.2]
end
theorem eqD_dec {d e:D} (hd:nb d=true) (he:nb e=true):eqD d e=decide (d=e):=by
 by_cases h:d=e
 ·rw[decide_eq_true h,h,eqD_refl]
 ·rw[decide_eq_false h]
  cases z:eqD d e with
  | false=>rfl
  | true=>exact absurd (eqD_nb d e hd he z) h
structure El (d:D):Prop where
 nb:nb d=true
 dep:dep d≤40
theorem El.int (i:Int):El (.int i):=⟨by rw[GS.nb]; all_goals nofun,by rw[dep_int]; exact Nat.zero_le _⟩
theorem El.str (x:Str):El (.str x):=⟨by rw[GS.nb]; all_goals nofun,by rw[dep_str]; exact Nat.zero_le _⟩
inductive RowsAt (K:PySem.W.Frag) (H:Hp):List (List D)→List V→Prop
 | nil:RowsAt K H [] []
 | cons {ds:List D} {dss:List (List D)} {v:V} {vs:List V}:RowAt K H ds v→RowsAt K H dss vs→RowsAt K H (ds::dss) (v::vs)
section
variable {K:PySem.W.Frag} {H H':Hp}
theorem RowsAt.same (s:Same H H'):∀{dss:List (List D)} {vs:List V},RowsAt K H dss vs→RowsAt K H' dss vs
 | _,_,.nil=>.nil
 | _,_,.cons h1 h2=>.cons (h1.same s) (h2.same s)
theorem RowsAt.len:∀{dss:List (List D)} {vs:List V},RowsAt K H dss vs→vs.length=dss.length
 | _,_,.nil=>rfl
 | _,_,.cons _ h2=>by rw[List.length_cons,List.length_cons,h2.len]
theorem RowsAt.get:∀{dss:List (List D)} {vs:List V} {i:Nat} {v:V},RowsAt K H dss vs→vs[i]?=some v→∃ds,dss[i]?=some ds∧RowAt K H ds v
 | _,_,i,_,.nil,e=>by simp at e
 | _,_,0,_,.cons h1 _,e=>by simp at e; subst e; exact ⟨_,rfl,h1⟩
 | _,_,i+1,_,.cons _ h2,e=>by
  obtain ⟨ds,a,b⟩:=RowsAt.get h2 (i:=i) (by simpa using e)
  exact ⟨ds,by simpa using a,b⟩
theorem RowsAt.append:∀{dss ess:List (List D)} {vs ws:List V},RowsAt K H dss vs→RowsAt K H ess ws→RowsAt K H (dss++ess) (vs++ws)
 | _,_,_,_,.nil,g=>g
 | _,_,_,_,.cons h1 h2,g=>.cons h1 (h2.append g)
theorem RowsAt.take:∀(n:Nat) {dss:List (List D)} {vs:List V},RowsAt K H dss vs→RowsAt K H (dss.take n) (vs.take n)
 | 0,_,_,_=>.nil
 | n+1,_,_,.nil=>.nil
 | n+1,_,_,.cons h1 h2=>.cons h1 (h2.take n)
theorem RowsAt.drop:∀(n:Nat) {dss:List (List D)} {vs:List V},RowsAt K H dss vs→RowsAt K H (dss.drop n) (vs.drop n)
 | 0,_,_,h=>h
 | n+1,_,_,.nil=>.nil
 | n+1,_,_,.cons _ h2=>h2.drop n
end
theorem Pairs.rows {K:PySem.W.Frag} {H:Hp} {f:Nat→List D}:∀{is:List Nat} {vs:List V},Pairs (fun i v=>RowAt K H (f i) v) is vs→RowsAt K H (is.map f) vs
 | _,_,.nil=>.nil
 | _,_,.cons h1 h2=>.cons h1 h2.rows
theorem range_filter {α β:Type} (l:List α) (d:α) (p:α→Bool) (g:α→β):((List.range l.length).filter fun i=>p (l.getD i d)).map (fun i=>g (l.getD i d))=(l.filter p).map g:=by
 conv=>rhs; rw[← range_getD l d]
 rw[List.filter_map,List.map_map]; rfl
abbrev pSame:Stmt:=topd 68
abbrev pIbh:Stmt:=topd 69
section
variable {P:Program} {w:World} {K:PySem.W.Frag} {mg:Str→Option Value} {base:Heap} {f:Addr} {fd:FuncData}
def spSame9 (K:PySem.W.Frag):Sp:=fun vs H Q _=>∃(x y:V) (d e:D),vs=[x,y]∧At K H d x∧At K H e y∧El d∧El e∧Q (.bl (decide (d=e))) H
theorem kit_El {d:D} (h:El d):PySem.W.kitOne K (.type (tyD d)) (.type "bool")=some false:=by
 cases d with
 | bl b=>have:=h.nb; rw[GS.nb] at this; cases this
 | _=>rfl
theorem scIs:FnScope ["one","other"] ["one","other"] (defScope pSame):=⟨rfl,rfl,rfl,by decide +kernel,rfl,by decide +kernel,by decide +kernel⟩
theorem ok_Is (g:Glb9 mg) (F:Fun K "is_same" "is_same" pSame f fd):FnOk P w K mg base CX0 1 f fd ["one","other"] (spSame9 K):=by
 refine F.okI scIs (fun vs H Q E h=>?_) (fun cdv A outer s H vs Q E hr h=>?_)
 ·obtain ⟨_,_,_,_,rfl,_⟩:=h; rfl
 obtain ⟨x,y,d,e,rfl,hx,hy,hd,he,q⟩:=h
 refine ⟨_,pss_one (ps_ret (pe_and (pe_cmpR op_eq (pe_callB call_isiD rfl g.nIsi b9Isi (pa_cons (pv 0) (pa_cons (pe_bltn (v:=.ty "bool") rfl g.nBool b9Bool rfl) pa_nil))) (pe_callB call_isiD rfl g.nIsi b9Isi (pa_cons (pv 1) (pa_cons (pe_bltn (v:=.ty "bool") rfl g.nBool b9Bool rfl) pa_nil))) (nomark _)) (pe_one (pe_cmpR (op_eqD hr) (pv 0) (pv 1) (nomark _))))),?_⟩
 refine ⟨_,rfl,x,"bool",d,false,rfl,hx,kit_El hd,_,rfl,y,"bool",e,false,rfl,hy,kit_El he,rfl,_,rfl,?_⟩
 refine iteT ⟨_,rfl,_,rfl,d,e,hx,hy,Nat.le_trans hd.dep (by decide),?_⟩
 rw[eqD_dec hd.nb he.nb]
 exact q
def spIbh (K:PySem.W.Frag):Sp:=fun vs H Q _=>∃(x r:V) (d:D) (ds:List D),vs=[x,r]∧At K H d x∧El d∧RowAt K H ds r∧(∀e∈ds,El e)∧ds.length≤1000∧∀H',Same H H'→Q (.bl (decide (d∈ds.tail))) H'
theorem scIbh:FnScope ["thing","row"] ["thing","row"] (defScope pIbh):=⟨rfl,rfl,rfl,by decide +kernel,rfl,by decide +kernel,by decide +kernel⟩
theorem cut_tail {xs:List V}:cutV xs (some 1) none=xs.tail:=by
 unfold cutV
 rw[show ((1:Int))=((1:Nat):Int) from rfl,HT.sIx_nat,HT.sIx_none]
 cases xs with
 | nil=>rfl
 | cons x xs=>
  rw[List.length_cons,Nat.min_eq_left (by omega)]
  simp
theorem AtAll.tail {K:PySem.W.Frag} {H:Hp}:∀{ds:List D} {vs:List V},AtAll K H ds vs→AtAll K H ds.tail vs.tail
 | [],vs,h=>by rw[AtAll_nil.mp h]; exact AtAll_nil.mpr rfl
 | d::ds,vs,h=>by obtain ⟨v,r,rfl,_,h2⟩:=AtAll_cons.mp h; exact h2
theorem ok_Ibh (g:Glb9 mg) (F:Fun K "is_behind_head" "is_behind_head" pIbh f fd) (dS:Def P w K mg base "is_same" ["one","other"] 1 (spSame9 K)):FnOk P w K mg base CX0 2 f fd ["thing","row"] (spIbh K):=by
 refine F.okI scIbh (fun vs H Q E h=>?_) (fun cdv A outer s H vs Q E hr h=>?_)
 ·obtain ⟨_,_,_,_,rfl,_⟩:=h; rfl
 obtain ⟨x,r,d,ds,rfl,hx,hd,hrw,hds,hl,q⟩:=h
 refine ⟨_,pss_one (ps_ret (pe_callB (call_any rfl) rfl g.nAny b9Any (pa_cons (.mk (L2.pe_compG (cl:=[("thing",s.heap.objs.size+1)]) (Xs:=["one"]) (Nf:=["thing"]) (js:=[0]) ?k rfl (LI.out (pi_or (pi_list (pe_slice sl_list (pv 1) (po_some pe_int) po_none)) (pi_tup (pe_slice sl_Q (pv 1) (po_some pe_int) po_none)))) (fun C s0 H0 fp=>LG.out (pg_name (i:=0) (show (["one","thing"]:List Str).Nodup by decide +kernel) rfl (Or.inl rfl))) (fun C s0 H0 fp=>pts_nil) (fun C s0 H0 fp=>LE.out (L3.pe_def dS hr (by decide) rfl (pa_cons (pv 1) (pa_cons (pv 0) pa_nil)))))) pa_nil))),?main⟩
 case k=>
  refine ⟨rfl,by decide +kernel,rfl,by decide +kernel,fun y c h=>?_,fun y hy=>?_,rfl,fun j y h=>?_⟩
  ·obtain ⟨rfl,rfl⟩:=look1 h; rfl
  ·have hy':([(".0",.local),("one",.local),("is_same",.globalImplicit),("thing",.cell)]:List (Str×NameKind)).lookup y=some .cell∨([(".0",.local),("one",.local),("is_same",.globalImplicit),("thing",.cell)]:List (Str×NameKind)).lookup y=some .free:=hy
   rcases hy' with z | z
   ·have m:=PySem.mem_of_lookup z
    simp at m
    subst m
    exact ⟨_,rfl⟩
   ·have m:=PySem.mem_of_lookup z
    simp at m
  ·match j,h with
   | 0,h=>cases h; exact ⟨0,rfl,rfl,rfl,.inl rfl⟩
   | j+1,h=>simp at h
 case main=>
  obtain ⟨p,vs,rfl,hq,hA⟩:=hrw
  rcases hq with hq | hq
  case' inl=>
   refine .inl ⟨_,rfl,1,rfl,p,vs,rfl,hq,fun t ht=>?_⟩
   rw[cut_tail]
   have s1:Same H _:=same_new ht (.lst vs.tail)
   have j0:SqL K _ t vs.tail:=SqL.of (upd_same (H:=H) (a:=t) (o:=.lst vs.tail))
   have j1:=itl_stop j0
   have j2:=itl_go j0
   have j3:=itl_yld j0
   refine ⟨t,rfl,⟨_,j0⟩,?_⟩
  case' inr=>
   refine .inr ⟨_,rfl,1,rfl,p,vs,rfl,hq,fun t H1 s1 j0=>?_⟩
   rw[cut_tail] at j0
   replace j0:SqT K H1 t vs.tail:=j0
   have j1:=itt_stop j0
   have j2:=itt_go j0
   have j3:=itt_yld j0
   refine ⟨t,rfl,⟨_,j0⟩,?_⟩
  all_goals
   have hA1:=AtAll.same s1 _ _ hA.tail
   have lu:=hA1.len
   have lt:ds.tail.length≤ds.length:=by simp
   refine ⟨[x],⟨rfl,fun j i h=>?_⟩,compG_one (vs:=[x]) (tc:=tTrue) vs.tail.length (fun i=>vs.tail.getD i .non) (fun _=>true) (fun i v _=>v=.bl (decide (d=ds.tail.getD i .non))) (fun _ _ _ _ _ z=>z) (by omega) j1 j2 j3 (fun i H2 Q' hi s2 k=>k H2 (Same.refl _)) (fun i H2 D l Q' hi _ s2 _ _ k=>?_) fun D H2 ys hD s2 hl2 hP=>?_⟩
   ·match j,h with
    | 0,h=>cases h; exact ⟨_,rfl,rfl⟩
    | j+1,h=>simp at h
   ·have hi':i < ds.tail.length:=by omega
    obtain ⟨v',hv',hAi⟩:=AtAll.get (i:=i) hA1 (d:=ds.tail[i]) (by simp[hi'])
    have eu:vs.tail.getD i .non=v':=by rw[List.getD_eq_getElem?_getD,hv']; rfl
    have ed:ds.tail.getD i .non=ds.tail[i]:=by rw[List.getD_eq_getElem?_getD,List.getElem?_eq_getElem hi']; rfl
    refine ⟨_,rfl,_,rfl,x,_,d,ds.tail[i],rfl,At.same (s1.trans s2) _ _ hx,At.same s2 _ _ (eu ▸ hAi),hd,hds _ (List.mem_of_mem_tail (List.getElem_mem hi')),k _ H2 (Same.refl _) (by rw[ed])⟩
   ·have e:=hP.eq
    rw[List.filter_eq_self.mpr (fun _ _=>rfl),lu,range_map ds.tail .non (fun e=>V.bl (decide (d=e)))] at e
    refine ⟨D,ds.tail.map fun e=>decide (d=e),rfl,SqL.of (by rw[hl2,e,List.map_map]; rfl),?_⟩
    have e2:(ds.tail.map fun e=>decide (d=e)).any id=decide (d∈ds.tail):=by
     rw[List.any_map]
     refine Bool.eq_iff_iff.mpr ?_
     rw[List.any_eq_true,decide_eq_true_iff]
     exact ⟨fun ⟨e,he,z⟩=>(of_decide_eq_true z:d=e) ▸ he,fun z=>⟨d,z,decide_eq_true rfl⟩⟩
    rw[e2]
    exact q _ (s1.trans s2)
end
abbrev pFree:Stmt:=topd 70
abbrev pWo:Stmt:=topd 71
abbrev pMrg:Stmt:=topd 72
section
variable {P:Program} {w:World} {K:PySem.W.Frag} {mg:Str→Option Value} {base:Heap} {f:Addr} {fd:FuncData}
structure RowsOk (dss:List (List D)):Prop where
 el:∀ds∈dss,∀e∈ds,El e
 len:∀ds∈dss,ds.length≤1000
 many:dss.length≤1000
def spFree (K:PySem.W.Frag):Sp:=fun vs H Q _=>∃(p:Addr) (rvs:List V) (dss:List (List D)),vs=[.ref p]∧SqL K H p rvs∧RowsAt K H dss rvs∧RowsOk dss∧(∀ds∈dss,ds≠[])∧
 (∀i H',Same H H'→i < dss.length→okRow dss i=true→(∀j,j < i→okRow dss j=false)→Q (.int (i:Nat)) H')∧(∀H',Same H H'→(∀i,i < dss.length→okRow dss i=false)→Q .non H')
theorem scFree:FnScope ["rows","place","row","others"] ["rows"] (defScope pFree):=⟨rfl,rfl,rfl,by decide +kernel,rfl,by decide +kernel,by decide +kernel⟩
theorem cut_take {xs:List V} (i:Nat):cutV xs none (some (i:Nat))=xs.take i:=by
 unfold cutV
 rw[HT.sIx_nat,HT.sIx_none,List.drop_zero,Nat.sub_zero]
 rcases Nat.le_total i xs.length with h | h
 ·rw[Nat.min_eq_left h]
 ·rw[Nat.min_eq_right h,List.take_of_length_le (Nat.le_refl _),List.take_of_length_le h]
theorem cut_drop {xs:List V} (i:Nat):cutV xs (some (i:Nat)) none=xs.drop i:=by
 unfold cutV
 rw[HT.sIx_nat,HT.sIx_none]
 rcases Nat.le_total i xs.length with h | h
 ·rw[Nat.min_eq_left h]
  exact List.take_of_length_le (by simp)
 ·rw[Nat.min_eq_right h,Nat.sub_self,List.take_zero,List.drop_eq_nil_of_le h]
theorem atI0 {u:V} {r:List V}:atI (u::r) 0=some u:=by
 have h:ixN (u::r).length 0=some 0:=by unfold ixN; simp
 unfold atI
 rw[h]; rfl
theorem RowAt.head {H:Hp} {d:D} {ds:List D} {v:V} (h:RowAt K H (d::ds) v):∃u,At K H d u∧∀Q:VK,Q u H→rIx K v (.int 0) H Q:=by
 obtain ⟨p,vs,rfl,hq,hA⟩:=h
 obtain ⟨u,r,rfl,h1,h2⟩:=AtAll_cons.mp hA
 refine ⟨u,h1,fun Q q=>?_⟩
 rcases hq with hq | hq
 ·exact .inl ⟨p,_,0,u,rfl,rfl,hq,atI0,q⟩
 ·exact .inr (.inl ⟨p,_,0,u,rfl,rfl,hq,atI0,q⟩)
theorem ok_Free (g:Glb9 mg) (F:Fun K "place_of_free" "place_of_free" pFree f fd) (dB:Def P w K mg base "is_behind_head" ["thing","row"] 2 (spIbh K)):FnOk P w K mg base CX0 3 f fd ["rows"] (spFree K):=by
 refine F.okI scFree (fun vs H Q E h=>?_) (fun cdv A outer s H vs Q E hr h=>?_)
 ·obtain ⟨_,_,_,rfl,_⟩:=h; rfl
 obtain ⟨p,rvs,dss,rfl,hp,hR,hok,hne,qi,qn⟩:=h
 refine ⟨_,pss_cons (ps_for PassesOwn.never rfl (.mk (L2.pi_enum rfl g.nEnum (LA.out (pa_cons (pv 0) pa_nil)))) (pg_tup rfl (pgs_cons (pg_name (i:=1) scFree.nd rfl (Or.inl rfl)) (pgs_cons (pg_name (i:=2) scFree.nd rfl (Or.inr rfl)) pgs_nil)))
   (pss_cons (ps_set (i:=3) scFree.nd rfl (Or.inl rfl) (pe_op op_cat (pe_slice sl_list (pv 0) po_none (po_some (pv 1))) (pe_slice sl_list (pv 0) (po_some (pe_op op_add (pv 1) pe_int)) po_none)))
   (pss_one (ps_if (pt_not (pt_val (pe_callB (call_any rfl) rfl g.nAny b9Any (pa_cons (.mk (L2.pe_compG (cl:=[("row",s.heap.objs.size+1)]) (Xs:=["other"]) (Nf:=["row"]) (js:=[2]) ?k rfl (LI.out (pi_list (pv 3))) (fun C s0 H0 fp=>LG.out (pg_name (i:=0) (show (["other","row"]:List Str).Nodup by decide +kernel) rfl (Or.inl rfl))) (fun C s0 H0 fp=>pts_nil) (fun C s0 H0 fp=>LE.out (L3.pe_def dB hr (by decide) rfl (pa_cons (pe_ix (r:=rIx K) ix_seq (pv 1) pe_int (fun _ _=>rfl)) (pa_cons (pv 0) pa_nil)))))) pa_nil)))) (pss_one (ps_ret (pv 1))) pss_nil))))
  (pss_one (ps_ret pe_non)),?main⟩
 case k=>
  refine ⟨rfl,by decide +kernel,rfl,by decide +kernel,fun y c h=>?_,fun y hy=>?_,rfl,fun j y h=>?_⟩
  ·obtain ⟨rfl,rfl⟩:=look1 h; rfl
  ·have hy':([(".0",.local),("other",.local),("is_behind_head",.globalImplicit),("row",.cell)]:List (Str×NameKind)).lookup y=some .cell∨([(".0",.local),("other",.local),("is_behind_head",.globalImplicit),("row",.cell)]:List (Str×NameKind)).lookup y=some .free:=hy
   rcases hy' with z | z
   ·have m:=PySem.mem_of_lookup z
    simp at m
    subst m
    exact ⟨_,rfl⟩
   ·have m:=PySem.mem_of_lookup z
    simp at m
  ·match j,h with
   | 0,h=>cases h; exact ⟨2,rfl,rfl,rfl,.inl rfl⟩
   | j+1,h=>simp at h
 case main=>
  have lR:=hR.len
  refine ⟨_,rfl,p,rfl,⟨rvs,hp⟩,for_enum (K:=K) (a:=p) (xs:=rvs) (fun i σ H'=>(∃o1 o2 o3,σ=[some (.ref p),o1,o2,o3])∧Same H H'∧∀j,j < i→okRow dss j=false) ⟨⟨_,_,_,rfl⟩,Same.refl _,fun j hj=>absurd hj (Nat.not_lt_zero _)⟩ (fun i σ H' _ h=>h.2.1.seq hp) ?turn ?stop⟩
  case stop=>
   rintro σ H' ⟨⟨o1,o2,o3,rfl⟩,sH,hn⟩
   exact qn H' sH fun i hi=>hn i (by omega)
  case turn=>
   rintro i x σ H' T hx ⟨⟨o1,o2,o3,rfl⟩,sH,hn⟩ hT
   have hi:i < rvs.length:=(List.getElem?_eq_some_iff.mp hx).1
   obtain ⟨ds,hds,hrow⟩:=hR.get hx
   have hmem:ds∈dss:=List.mem_of_getElem? hds
   have t1:Same H' (upd H' T (.tup [.int (i:Nat),x])):=same_new hT _
   have sq:SqT K (upd H' T (.tup [.int (i:Nat),x])) T [.int (i:Nat),x]:=SqT.of upd_same
   revert t1 sq
   generalize upd H' T (.tup [.int (i:Nat),x])=H2
   intro t1 sq
   have s2:=sH.trans t1
   refine ⟨T,_,rfl,sq,rfl,_,_,rfl,_,_,rfl,rfl,?_⟩
   refine ⟨_,rfl,_,rfl,i,rfl,p,rvs,rfl,s2.seq hp,fun p1 hp1=>?_⟩
   rw[cut_take]
   have t2:Same H2 (upd H2 p1 (.lst (rvs.take i))):=same_new hp1 _
   have hl1:upd H2 p1 (.lst (rvs.take i)) p1=some (.lst (rvs.take i)):=upd_same
   revert t2 hl1
   generalize upd H2 p1 (.lst (rvs.take i))=H3
   intro t2 hl1
   refine ⟨_,rfl,_,rfl,_,_,rfl,rfl,_,rfl,p,rvs,rfl,(s2.trans t2).seq hp,fun p2 hp2=>?_⟩
   rw[show ((i:Nat):Int)+1=((i+1:Nat):Int) from rfl,cut_drop]
   have t3:Same H3 (upd H3 p2 (.lst (rvs.drop (i+1)))):=same_new hp2 _
   have hl2:upd H3 p2 (.lst (rvs.drop (i+1))) p2=some (.lst (rvs.drop (i+1))):=upd_same
   revert t3 hl2
   generalize upd H3 p2 (.lst (rvs.drop (i+1)))=H4
   intro t3 hl2
   have hmany:=hok.many
   refine ⟨p1,p2,_,_,rfl,rfl,t3 _ _ hl1,hl2,?_,fun p3 hp3=>?_⟩
   ·rw[List.length_take,List.length_drop]; exact small (by omega)
   have t4:Same H4 (upd H4 p3 (.lst (rvs.take i++rvs.drop (i+1)))):=same_new hp3 _
   have hl3:upd H4 p3 (.lst (rvs.take i++rvs.drop (i+1))) p3=some (.lst (rvs.take i++rvs.drop (i+1))):=upd_same
   revert t4 hl3
   generalize upd H4 p3 (.lst (rvs.take i++rvs.drop (i+1)))=H5
   intro t4 hl3
   have s5:Same H H5:=((s2.trans t2).trans t3).trans t4
   have hO:=((hR.take i).append (hR.drop (i+1))).same s5
   generalize hov:rvs.take i++rvs.drop (i+1)=ov at hl3 hO
   generalize hod:dss.take i++dss.drop (i+1)=od at hO
   have lO:=hO.len
   have lod:od.length≤1000:=by rw[← hod,List.length_append,List.length_take,List.length_drop]; omega
   have memO:∀ds∈od,ds∈dss:=fun ds h=>by
    rw[← hod] at h
    rcases List.mem_append.mp h with h | h
    ·exact List.mem_of_mem_take h
    ·exact List.mem_of_mem_drop h
   obtain ⟨c,cs,rfl⟩:∃c cs,ds=c::cs:=by
    cases ds with
    | nil=>exact absurd rfl (hne _ hmem)
    | cons c cs=>exact ⟨c,cs,rfl⟩
   have j0:SqL K H5 p3 ov:=SqL.of hl3
   refine ⟨_,rfl,p3,rfl,⟨_,j0⟩,[x],⟨rfl,fun j i h=>?_⟩,compG_one (vs:=[x]) (tc:=tTrue) ov.length (fun i=>ov.getD i .non) (fun _=>true) (fun i v _=>v=.bl (decide (c∈(od.getD i []).tail))) (fun _ _ _ _ _ z=>z) (by omega) (itl_stop j0) (itl_go j0) (itl_yld j0) (fun i H2 Q' hi s2 k=>k H2 (Same.refl _)) (fun j H6 D l Q' hj _ s6 _ _ k=>?_) fun D H6 ys hD s6 hl6 hP=>?_⟩
   ·match j,h with
    | 0,h=>cases h; exact ⟨_,rfl,rfl⟩
    | j+1,h=>simp at h
   ·obtain ⟨es,hes,hr2⟩:=hO.get (i:=j) (v:=ov[j]) (by simp[hj])
    have eo:ov.getD j .non=ov[j]:=by rw[List.getD_eq_getElem?_getD,List.getElem?_eq_getElem hj]; rfl
    have ed:od.getD j []=es:=by rw[List.getD_eq_getElem?_getD,hes]; rfl
    obtain ⟨u,hu,ku⟩:=(hrow.same (s5.trans s6)).head
    refine ⟨_,rfl,ku _ ?_⟩
    refine ⟨_,rfl,u,_,c,es,rfl,hu,hok.el _ hmem _ List.mem_cons_self,(by rw[eo]; exact hr2.same s6),hok.el _ (memO _ (List.mem_of_getElem? hes)),hok.len _ (memO _ (List.mem_of_getElem? hes)),fun H7 s7=>k _ H7 s7 (by rw[ed])⟩
   ·have e:=hP.eq
    rw[List.filter_eq_self.mpr (fun _ _=>rfl),lO,range_map od [] (fun r=>V.bl (decide (c∈r.tail)))] at e
    refine ⟨D,od.map fun r=>decide (c∈r.tail),rfl,SqL.of (by rw[hl6,e,List.map_map]; rfl),?_⟩
    have e2:(od.map fun r=>decide (c∈r.tail)).any id=isBehind c od:=by rw[List.any_map]; rfl
    have e3:okRow dss i=!isBehind c od:=by rw[okRow,hds,← hod]
    rw[e2]
    have s7:Same H H6:=s5.trans s6
    cases hb:isBehind c od with
    | false=>exact ⟨false,rfl,⟨_,rfl,qi i H6 s7 (by omega) (by rw[e3,hb]; rfl) hn⟩⟩
    | true=>exact ⟨true,rfl,⟨⟨_,_,_,rfl⟩,s7,fun j hj=>by
      by_cases z:j=i
      ·rw[z,e3,hb]; rfl
      ·exact hn j (by omega)⟩⟩
end
section
variable {P:Program} {w:World} {K:PySem.W.Frag} {mg:Str→Option Value} {base:Heap} {f:Addr} {fd:FuncData}
def rSl2 (K:PySem.W.Frag):V→Option Int→Option Int→Hp→VK→Prop:=fun x lo hi H Q=>rSlL K x lo hi H Q∨rSlQ K x lo hi H Q
def rLen (K:PySem.W.Frag):List V→Hp→VK→Prop:=fun xs H Q=>∃p ys,xs=[V.ref p]∧(SqL K H p ys∨SqT K H p ys)∧Q (V.int ys.length) H
def spWo (K:PySem.W.Frag):Sp:=fun vs H Q _=>∃(p:Addr) (x:V) (rvs:List V) (dss:List (List D)) (d:D) (gh:Addr) (gl:List V),vs=[.ref p,x]∧SqL K H p rvs∧H gh=some (.lst gl)∧RowsAt K (wo H gh) dss rvs∧RowsOk dss∧(∀ds∈dss,ds≠[])∧At K H d x∧El d∧
 ∀q H' ws,Same H H'→q≠gh→H' q=some (.lst ws)→RowsAt K (wo H' gh) (noE (dss.map (offHd d))) ws→Q (.ref q) H'
theorem scWo:FnScope ["rows","head","shorter"] ["rows","head"] (defScope pWo):=⟨rfl,rfl,rfl,by decide +kernel,rfl,by decide +kernel,by decide +kernel⟩
section
variable {H:Hp} {D0 D1:Addr} {l:List V}
theorem wo_or (h:H D1=some (.lst l)):wo H D0 D1=some (.lst l)∨wo H D0 D1=none:=by
 unfold wo
 split
 ·exact .inr rfl
 ·exact .inl h
theorem wo_id {H:Hp} {D1:Addr} (h:H D1=none):wo H D1=H:=by
 funext p
 unfold wo
 split
 ·rename_i z; rw[z,h]
 ·rfl
theorem SqT.wo2 {p:Addr} {vs:List V} (hD:H D1=some (.lst l)) (h:SqT K (GS.wo H D0) p vs):SqT K (GS.wo (GS.wo H D0) D1) p vs:=by
 rcases wo_or (D0:=D0) hD with z | z
 ·exact SqT.wo z h
 ·rw[wo_id z]; exact h
theorem AtAll.wo2 (hD:H D1=some (.lst l)) (ds:List D) (vs:List V) (h:AtAll K (GS.wo H D0) ds vs):AtAll K (GS.wo (GS.wo H D0) D1) ds vs:=by
 rcases wo_or (D0:=D0) hD with z | z
 ·exact AtAll.wo z _ _ h
 ·rw[wo_id z]; exact h
end
theorem RowAt.rest {H:Hp} {ds:List D} {v:V} (h:RowAt K H ds v) (Q:VK) (hq:∀u H',Same H H'→(∀D l D' l',H D=some (.lst l)→H D'=some (.lst l')→RowAt K (wo (wo H' D) D') ds.tail u)→Q u H'):(rSlL K v (some 1) none H Q)∨(rSlQ K v (some 1) none H Q):=by
 obtain ⟨p,vs,rfl,hs,hA⟩:=h
 rcases hs with hs | hs
 ·refine .inl ⟨p,vs,rfl,hs,fun t ht=>?_⟩
  rw[cut_tail]
  have s1:Same H (upd H t (.lst vs.tail)):=same_new ht _
  refine hq _ _ s1 fun D l D' l' hD hD'=>?_
  have ne:t≠D:=fun z=>by rw[← z,ht] at hD; cases hD
  have ne':t≠D':=fun z=>by rw[← z,ht] at hD'; cases hD'
  refine ⟨t,_,rfl,.inl (SqL.of (by rw[wo_at ne',wo_at ne]; exact upd_same)),?_⟩
  have a1:=AtAll.wo (D':=D) (s1 _ _ hD) _ _ (AtAll.same s1 _ _ hA.tail)
  exact AtAll.wo2 (s1 _ _ hD') _ _ a1
 ·refine .inr ⟨p,vs,rfl,hs,fun t H1 s1 ht=>?_⟩
  rw[cut_tail] at ht
  exact hq _ _ s1 fun D l D' l' hD hD'=>⟨t,_,rfl,.inr (SqT.wo2 (s1 _ _ hD') (SqT.wo (s1 _ _ hD) ht)),AtAll.wo2 (s1 _ _ hD') _ _ (AtAll.wo (s1 _ _ hD) _ _ (AtAll.same s1 _ _ hA.tail))⟩
theorem RowAt.count {H:Hp} {ds:List D} {v:V} (h:RowAt K H ds v):∃p ys,v=.ref p∧(SqL K H p ys∨SqT K H p ys)∧ys.length=ds.length:=by
 obtain ⟨p,vs,rfl,hs,hA⟩:=h
 exact ⟨p,vs,rfl,hs,hA.len⟩
theorem ok_Wo (g:Glb9 mg) (F:Fun K "without_head" "without_head" pWo f fd) (dS:Def P w K mg base "is_same" ["one","other"] 1 (spSame9 K)):FnOk P w K mg base CX0 2 f fd ["rows","head"] (spWo K):=by
 refine F.okI scWo (fun vs H Q E h=>?_) (fun cdv A outer s H vs Q E hr h=>?_)
 ·obtain ⟨_,_,_,_,_,_,_,rfl,_⟩:=h; rfl
 obtain ⟨p,x,rvs,dss,d,gh,gl,rfl,hp,hgh,hR,hok,hne,hx,hd,q⟩:=h
 refine ⟨_,pss_cons (.mk (L2.ps_setCompG (iy:=2) (cl:=[("head",s.heap.objs.size+1)]) (Xs:=["row"]) (Nf:=["head"]) (js:=[1]) ?k rfl (LI.out (pi_list (pv 0))) (fun C s0 H0 fp=>LG.out (pg_name (i:=0) (show (["row","head"]:List Str).Nodup by decide +kernel) rfl (Or.inl rfl))) (fun C s0 H0 fp=>pts_nil) (fun C s0 H0 fp=>LE.out (pe_ifExp (pt_val (L3.pe_def dS hr (by decide) rfl (pa_cons (pe_ix (r:=rIx K) ix_seq (pv 0) pe_int (fun _ _=>rfl)) (pa_cons (pv 1) pa_nil)))) (pe_slice (r:=rSl2 K) (SlR.or sl_list sl_Q) (pv 0) (po_some pe_int) po_none) (pv 0))) scWo.nd rfl (Or.inl rfl)))
  (pss_one (ps_ret (.mk (L2.pe_compG (cl:=[]) (Xs:=["row"]) (Nf:=[]) (js:=[]) ?k2 rfl (LI.out (pi_list (pv 2))) (fun C s0 H0 fp=>LG.out (pg_name (i:=0) (show (["row"]:List Str).Nodup by decide +kernel) rfl (Or.inl rfl))) (fun C s0 H0 fp=>pts_one (LT.out (pt_cmpR op_gt (pe_callB (r:=rLen K) call_len_seq rfl g.nLen b9Len (pa_cons (pv 0) pa_nil)) pe_int (nomark _)))) (fun C s0 H0 fp=>LE.out (pv 0)))))),?main⟩
 case k=>
  refine ⟨rfl,by decide +kernel,rfl,by decide +kernel,fun y c h=>?_,fun y hy=>?_,rfl,fun j y h=>?_⟩
  ·obtain ⟨rfl,rfl⟩:=look1 h; rfl
  ·have hy':([(".0",.local),("row",.local),("is_same",.globalImplicit),("head",.cell)]:List (Str×NameKind)).lookup y=some .cell∨([(".0",.local),("row",.local),("is_same",.globalImplicit),("head",.cell)]:List (Str×NameKind)).lookup y=some .free:=hy
   rcases hy' with z | z
   ·have m:=PySem.mem_of_lookup z
    simp at m
    subst m
    exact ⟨_,rfl⟩
   ·have m:=PySem.mem_of_lookup z
    simp at m
  ·match j,h with
   | 0,h=>cases h; exact ⟨1,rfl,rfl,rfl,.inl rfl⟩
   | j+1,h=>simp at h
 case k2=>
  refine ⟨rfl,by decide +kernel,rfl,by decide +kernel,fun y c h=>by simp at h,fun y hy=>?_,rfl,fun j y h=>by simp at h⟩
  have hy':([(".0",.local),("row",.local),("len",.globalImplicit)]:List (Str×NameKind)).lookup y=some .cell∨([(".0",.local),("row",.local),("len",.globalImplicit)]:List (Str×NameKind)).lookup y=some .free:=hy
  rcases hy' with z | z
  ·have m:=PySem.mem_of_lookup z
   simp at m
  ·have m:=PySem.mem_of_lookup z
   simp at m
 case main=>
  have lR:=hR.len
  have hmany:=hok.many
  refine ⟨_,rfl,p,rfl,⟨_,hp⟩,[x],⟨rfl,fun j i h=>?_⟩,compG_one (vs:=[x]) (tc:=tTrue) rvs.length (fun i=>rvs.getD i .non) (fun _=>true) (fun i v H'=>RowAt K (wo H' gh) (offHd d (dss.getD i [])) v) (fun _ _ _ _ s z=>z.same (wo_mono gh s)) (by omega) (itl_stop hp) (itl_go hp) (itl_yld hp) (fun i H2 Q' hi s2 k=>k H2 (Same.refl _)) (fun j H6 D l Q' hj _ s6 hD hDl k=>?_) fun D H6 ys hD s6 hl6 hP=>?_⟩
  ·match j,h with
   | 0,h=>cases h; exact ⟨_,rfl,rfl⟩
   | j+1,h=>simp at h
  ·obtain ⟨es,hes,hr2⟩:=hR.get (i:=j) (v:=rvs[j]) (by simp[hj])
   have eo:rvs.getD j .non=rvs[j]:=by rw[List.getD_eq_getElem?_getD,List.getElem?_eq_getElem hj]; rfl
   have ed:dss.getD j []=es:=by rw[List.getD_eq_getElem?_getD,hes]; rfl
   have hmem:es∈dss:=List.mem_of_getElem? hes
   rw[ed] at k
   rw[eo]
   obtain ⟨c,cs,rfl⟩:∃c cs,es=c::cs:=by
    cases es with
    | nil=>exact absurd rfl (hne _ hmem)
    | cons c cs=>exact ⟨c,cs,rfl⟩
   have hr6:=(hr2.same (wo_same H gh)).same s6
   obtain ⟨u,hu,ku⟩:=hr6.head
   refine ⟨_,rfl,ku _ ?_⟩
   refine ⟨_,rfl,u,x,c,d,rfl,hu,At.same s6 _ _ hx,hok.el _ hmem _ List.mem_cons_self,hd,_,rfl,?_⟩
   by_cases hc:c=d
   ·rw[decide_eq_true hc]
    refine iteT ⟨_,rfl,1,rfl,hr6.rest _ fun u' H7 s7 w7=>k _ _ s7 ?_⟩
    rw[offHd,if_pos hc]
    exact w7 D l gh gl hDl (s6 _ _ hgh)
   ·rw[decide_eq_false hc]
    refine iteF ⟨_,rfl,k _ _ (Same.refl _) ?_⟩
    rw[offHd,if_neg hc]
    exact hr2.same (wo_mono gh (wo_old hD s6))
  ·have hP':=(hP.mono (fun i v z=>RowAt.same (wo_mono gh (wo_same H6 D)) z)).rows
   rw[List.filter_eq_self.mpr (fun _ _=>rfl),lR,range_map dss [] (offHd d)] at hP'
   have lY:=hP'.len
   rw[List.length_map] at lY
   have j0:SqL K H6 D ys:=SqL.of hl6
   generalize hEs:dss.map (offHd d)=ess at hP' q
   have lE:ess.length=dss.length:=by rw[← hEs,List.length_map]
   refine ⟨_,rfl,D,rfl,⟨_,j0⟩,[],⟨rfl,fun j i h=>by simp at h⟩,compG_one (vs:=[]) ys.length (fun i=>ys.getD i .non) (fun i=>!(ess.getD i []).isEmpty) (fun i v H'=>RowAt K (wo H' gh) (ess.getD i []) v) (fun _ _ _ _ s z=>z.same (wo_mono gh s)) (by omega) (itl_stop j0) (itl_go j0) (itl_yld j0) (fun j H7 Q' hj s7 k=>?_) (fun j H7 D' l Q' hj _ s7 hD7 _ k=>?_) fun D' H7 zs hD7 s7 hl7 hP7=>?_⟩
   ·obtain ⟨es,hes,hr2⟩:=hP'.get (i:=j) (v:=ys[j]) (by simp[hj])
    have eo:ys.getD j .non=ys[j]:=by rw[List.getD_eq_getElem?_getD,List.getElem?_eq_getElem hj]; rfl
    have ed:ess.getD j []=es:=by rw[List.getD_eq_getElem?_getD,hes]; rfl
    rw[ed] at k
    rw[eo]
    obtain ⟨pr,vr,er,hq,lr⟩:=((hr2.same (wo_same H6 gh)).same s7).count
    rw[er]
    refine ⟨_,rfl,pr,vr,rfl,hq,_,_,rfl,rfl,?_⟩
    rw[lr]
    have e:decide ((0:Int) < (es.length:Nat))=!es.isEmpty:=by
     cases es with
     | nil=>rfl
     | cons a b=>rw[decide_eq_true]; rfl; rw[List.length_cons]; omega
    exact ⟨_,congrArg V.bl e,k H7 (Same.refl _)⟩
   ·obtain ⟨es,hes,hr2⟩:=hP'.get (i:=j) (v:=ys[j]) (by simp[hj])
    have eo:ys.getD j .non=ys[j]:=by rw[List.getD_eq_getElem?_getD,List.getElem?_eq_getElem hj]; rfl
    have ed:ess.getD j []=es:=by rw[List.getD_eq_getElem?_getD,hes]; rfl
    rw[ed] at k
    rw[eo]
    exact ⟨_,rfl,k _ _ (Same.refl _) (hr2.same (wo_mono gh (wo_old hD7 s7)))⟩
   ·have hF:=(hP7.mono (fun i v z=>RowAt.same (wo_mono gh (wo_same H7 D')) z)).rows
    have e:((List.range ys.length).filter fun i=>!(ess.getD i []).isEmpty).map (fun i=>ess.getD i [])=noE ess:=by
     have:=range_filter ess [] (fun r=>!r.isEmpty) id
     rw[List.map_id] at this
     rw[show ys.length=ess.length by omega]
     exact this
    rw[e] at hF
    exact q D' H7 zs (s6.trans s7) (fun z=>by rw[z,s6 _ _ hgh] at hD7; cases hD7) hl7 hF
end
section
variable {P:Program} {w:World} {K:PySem.W.Frag} {mg:Str→Option Value} {base:Heap} {f:Addr} {fd:FuncData}
def spMrg (K:PySem.W.Frag):Sp:=fun vs H Q _=>∃(p:Addr) (rvs:List V) (dss:List (List D)),vs=[.ref p]∧SqL K H p rvs∧RowsAt K H dss rvs∧RowsOk dss∧(∀ds∈dss,ds.Nodup)∧tot dss≤100000∧
 (∀H',Same H H'→GS.mg dss=none→Q .non H')∧(∀q H' ws l,Same H H'→GS.mg dss=some l→H q=none→H' q=some (.lst ws)→AtAll K H' l ws→Q (.ref q) H')
theorem atIn {α:Type} {xs:List α} {i:Nat} {x:α} (h:xs[i]?=some x):atI xs (i:Nat)=some x:=by
 have hi:=(List.getElem?_eq_some_iff.mp h).1
 have e:ixN xs.length (i:Nat)=some i:=by
  unfold ixN
  rw[if_pos (by omega),if_pos (by omega)]
  rw[Int.toNat_natCast]
 unfold atI
 rw[e]; exact h
theorem scMrg:FnScope ["rows","waiting","order","place","head"] ["rows"] (defScope pMrg):=⟨rfl,rfl,rfl,by decide +kernel,rfl,by decide +kernel,by decide +kernel⟩
theorem wo_put (H:Hp) (D:Addr) (o:HO):Same (wo H D) (upd H D o):=fun p u e=>by
 unfold wo at e
 split at e
 ·cases e
 ·rename_i h; rw[upd_ne h]; exact e
theorem RowsOk.sub {dss ess:List (List D)} (h:RowsOk dss) (hs:∀r∈ess,∃q∈dss,r.Sublist q) (hl:ess.length≤dss.length):RowsOk ess:=
 ⟨fun ds hd e he=>let ⟨q,hq,z⟩:=hs ds hd; h.el q hq e (z.subset he),fun ds hd=>let ⟨q,hq,z⟩:=hs ds hd; Nat.le_trans z.length_le (h.len q hq),Nat.le_trans hl h.many⟩
structure Left (dss:List (List D)):Prop where
 ok:RowsOk dss
 ne:∀ds∈dss,ds≠[]
 nd:∀ds∈dss,ds.Nodup
theorem noE_mem {dss:List (List D)} {r:List D}:r∈noE dss↔r∈dss∧r≠[]:=by
 unfold noE
 rw[List.mem_filter]
 constructor
 ·rintro ⟨a,b⟩; exact ⟨a,fun z=>by rw[z] at b; cases b⟩
 ·rintro ⟨a,b⟩
  refine ⟨a,?_⟩
  cases r with
  | nil=>exact absurd rfl b
  | cons x xs=>rfl
theorem Left.of {dss:List (List D)} (h:RowsOk dss) (hn:∀ds∈dss,ds.Nodup):Left (noE dss):=
 ⟨h.sub (fun r hr=>⟨r,(noE_mem.mp hr).1,List.Sublist.refl _⟩) (List.length_filter_le ..),fun ds hd=>(noE_mem.mp hd).2,fun ds hd=>hn _ (noE_mem.mp hd).1⟩
theorem Left.next {dss:List (List D)} (h:Left dss) (c:D):Left (noE (dss.map (offHd c))):=by
 refine Left.of (h.ok.sub (fun r hr=>?_) (by rw[List.length_map]; exact Nat.le_refl _)) fun r hr=>?_
 ·obtain ⟨q,hq,rfl⟩:=List.mem_map.mp hr
  exact ⟨q,hq,offHd_sub c q⟩
 ·obtain ⟨q,hq,rfl⟩:=List.mem_map.mp hr
  exact offHd_nodup (h.nd q hq)
theorem ok_Mrg (g:Glb9 mg) (F:Fun K "merged" "merged" pMrg f fd) (dF:Def P w K mg base "place_of_free" ["rows"] 3 (spFree K)) (dW:Def P w K mg base "without_head" ["rows","head"] 2 (spWo K)):FnOk P w K mg base CX0 4 f fd ["rows"] (spMrg K):=by
 refine F.okI scMrg (fun vs H Q E h=>?_) (fun cdv A outer s H vs Q E hr h=>?_)
 ·obtain ⟨_,_,_,rfl,_⟩:=h; rfl
 obtain ⟨p,rvs,dss,rfl,hp,hR,hok,hnd,htot,qn,qs⟩:=h
 refine ⟨_,pss_cons (.mk (L2.ps_setCompG (iy:=1) (cl:=[]) (Xs:=["row"]) (Nf:=[]) (js:=[]) ?k rfl (LI.out (pi_list (pv 0))) (fun C s0 H0 fp=>LG.out (pg_name (i:=0) (show (["row"]:List Str).Nodup by decide +kernel) rfl (Or.inl rfl))) (fun C s0 H0 fp=>pts_one (LT.out (pt_cmpR op_gt (pe_callB (r:=rLen K) call_len_seq rfl g.nLen b9Len (pa_cons (pv 0) pa_nil)) pe_int (nomark _)))) (fun C s0 H0 fp=>LE.out (pv 0)) scMrg.nd rfl (Or.inl rfl)))
  (pss_cons (ps_set (i:=2) scMrg.nd rfl (Or.inl rfl) (pe_lst pa_nil))
  (pss_cons (ps_while PassesOwn.never (pt_cmpR op_gt (pe_callB call_len_seq rfl g.nLen b9Len (pa_cons (pv 1) pa_nil)) pe_int (nomark _))
   (pss_cons (ps_set (i:=3) scMrg.nd rfl (Or.inl rfl) (L3.pe_def dF hr (by decide) rfl (pa_cons (pv 1) pa_nil)))
   (pss_cons (ps_if (pt_cmpR op_isN (pv 3) pe_non (nomark _)) (pss_one (ps_ret pe_non)) pss_nil)
   (pss_cons (ps_set (i:=4) scMrg.nd rfl (Or.inl rfl) (pe_ix (r:=rIx K) ix_seq (pe_ix (r:=rIxL K) ix_list (pv 1) (pv 3) (fun _ _=>rfl)) pe_int (fun _ _=>rfl)))
   (pss_cons (ps_expr (pe_bm PySem.F.plainAttrs_list PySem.F.slot_list_append PySem.F.type_list_append mt_append (pv 2) (pa_cons (pv 4) pa_nil)))
   (pss_one (ps_set (i:=1) scMrg.nd rfl (Or.inl rfl) (L3.pe_def dW hr (by decide) rfl (pa_cons (pv 1) (pa_cons (pv 4) pa_nil))))))))))
  (pss_one (ps_ret (pv 2))))),?main⟩
 case k=>
  refine ⟨rfl,by decide +kernel,rfl,by decide +kernel,fun y c h=>by simp at h,fun y hy=>?_,rfl,fun j y h=>by simp at h⟩
  have hy':([(".0",.local),("row",.local),("len",.globalImplicit)]:List (Str×NameKind)).lookup y=some .cell∨([(".0",.local),("row",.local),("len",.globalImplicit)]:List (Str×NameKind)).lookup y=some .free:=hy
  rcases hy' with z | z
  ·have m:=PySem.mem_of_lookup z
   simp at m
  ·have m:=PySem.mem_of_lookup z
   simp at m
 case main=>
  have lR:=hR.len
  have hmany:=hok.many
  refine ⟨_,rfl,p,rfl,⟨_,hp⟩,[],⟨rfl,fun j i h=>by simp at h⟩,compG_one (vs:=[]) rvs.length (fun i=>rvs.getD i .non) (fun i=>!(dss.getD i []).isEmpty) (fun i v H'=>RowAt K H' (dss.getD i []) v) (fun _ _ _ _ s z=>z.same s) (by omega) (itl_stop hp) (itl_go hp) (itl_yld hp) (fun j H7 Q' hj s7 k=>?_) (fun j H7 D' l Q' hj _ s7 hD7 _ k=>?_) fun wl H1 zs hwl s1 hl1 hP1=>?_⟩
  ·obtain ⟨es,hes,hr2⟩:=hR.get (i:=j) (v:=rvs[j]) (by simp[hj])
   have eo:rvs.getD j .non=rvs[j]:=by rw[List.getD_eq_getElem?_getD,List.getElem?_eq_getElem hj]; rfl
   have ed:dss.getD j []=es:=by rw[List.getD_eq_getElem?_getD,hes]; rfl
   rw[ed] at k
   rw[eo]
   obtain ⟨pr,vr,er,hq,lr⟩:=(hr2.same s7).count
   rw[er]
   refine ⟨_,rfl,pr,vr,rfl,hq,_,_,rfl,rfl,?_⟩
   rw[lr]
   have e:decide ((0:Int) < (es.length:Nat))=!es.isEmpty:=by
    cases es with
    | nil=>rfl
    | cons a b=>rw[decide_eq_true]; rfl; rw[List.length_cons]; omega
   exact ⟨_,congrArg V.bl e,k H7 (Same.refl _)⟩
  ·obtain ⟨es,hes,hr2⟩:=hR.get (i:=j) (v:=rvs[j]) (by simp[hj])
   have eo:rvs.getD j .non=rvs[j]:=by rw[List.getD_eq_getElem?_getD,List.getElem?_eq_getElem hj]; rfl
   have ed:dss.getD j []=es:=by rw[List.getD_eq_getElem?_getD,hes]; rfl
   rw[ed] at k
   rw[eo]
   exact ⟨_,rfl,k _ _ (Same.refl _) (hr2.same (wo_old hD7 s7))⟩
  have hF:=(hP1.mono (fun i v z=>RowAt.same (wo_same H1 wl) z)).rows
  have e:((List.range rvs.length).filter fun i=>!(dss.getD i []).isEmpty).map (fun i=>dss.getD i [])=noE dss:=by
   have:=range_filter dss [] (fun r=>!r.isEmpty) id
   rw[List.map_id] at this
   rw[lR]
   exact this
  rw[e] at hF
  have hL0:=Left.of hok hnd
  have hm0:GS.mg dss=(GS.mg (noE dss)).map ([]++·):=by rw[mg_noE]; cases GS.mg dss <;> rfl
  have ht0:tot (noE dss)≤100000:=by rw[noE_tot]; exact htot
  generalize noE dss=ess0 at hF hL0 hm0 ht0
  refine ⟨by show 0≤sizeLine; exact Nat.zero_le _,fun ol hol=>?_⟩
  have hol0:H ol=none:=s1.free hol
  have nwo:wl≠ol:=fun z=>by rw[← z,hl1] at hol; cases hol
  have sA:Same H (wo (upd H1 ol (.lst [])) ol):=by rw[wo_upd]; exact wo_old hol0 s1
  have rA:RowsAt K (wo (upd H1 ol (.lst [])) ol) ess0 zs:=by rw[wo_upd,wo_id hol]; exact hF
  have oA:upd H1 ol (.lst []) ol=some (.lst []):=upd_same
  have wA:upd H1 ol (.lst []) wl=some (.lst zs):=by rw[upd_ne nwo]; exact hl1
  revert sA rA oA wA
  generalize upd H1 ol (.lst [])=H2
  intro sA rA oA wA
  refine ⟨fun m σ H'=>∃(wl:Addr) (zs us:List V) (ess:List (List D)) (os:List D) (o3 o4:Option V),σ=[some (.ref p),some (.ref wl),some (.ref ol),o3,o4]∧wl≠ol∧Same H (wo H' ol)∧H' wl=some (.lst zs)∧H' ol=some (.lst us)∧RowsAt K (wo H' ol) ess zs∧AtAll K (wo H' ol) os us∧Left ess∧GS.mg dss=(GS.mg ess).map (os++·)∧m=tot ess∧tot ess+os.length≤100000,⟨_,wl,zs,[],ess0,[],none,none,rfl,nwo,sA,wA,oA,rA,AtAll_nil.mpr rfl,hL0,hm0,rfl,by simpa using ht0⟩,?_⟩
  rintro m σ H3 ⟨wl,zs,us,ess,os,o3,o4,rfl,nwo,sA,wA,oA,rA,aA,hL,hm,rfl,hto⟩
  have lz:=rA.len
  refine ⟨_,rfl,wl,zs,rfl,.inl (SqL.of wA),_,_,rfl,rfl,?_⟩
  have s3:Same H H3:=sA.trans (wo_same H3 ol)
  have rH:=rA.same (wo_same H3 ol)
  by_cases he:ess=[]
  ·subst he
   have e0:zs.length=0:=by rw[lz]; rfl
   rw[e0]
   refine ⟨false,rfl,iteF ⟨_,rfl,qs ol H3 us os s3 ?_ hol0 oA (AtAll.same (wo_same H3 ol) _ _ aA)⟩⟩
   rw[hm,mg_done rfl,Option.map_some,List.append_nil]
  have hpos:0 < zs.length:=by
   rw[lz]
   cases ess with
   | nil=>exact absurd rfl he
   | cons a b=>exact Nat.succ_pos _
  have hna:¬ess.all List.isEmpty=true:=fun z=>by
   cases ess with
   | nil=>exact he rfl
   | cons a b=>
    rw[List.all_cons,Bool.and_eq_true] at z
    exact hL.ne a List.mem_cons_self (List.isEmpty_iff.mp z.1)
  have hnn:∀r∈ess,r≠[]∧r.Nodup:=fun r hr=>⟨hL.ne r hr,hL.nd r hr⟩
  refine ⟨true,congrArg V.bl (decide_eq_true (by omega)),iteT ⟨_,fun σ' H' h=>h,?_⟩⟩
  refine ⟨_,rfl,wl,zs,ess,rfl,SqL.of wA,rH,hL.ok,hL.ne,fun i H4 s4 hi ho hn=>?_,fun H4 s4 hn=>?_⟩
  rotate_left
  ·refine ⟨_,rfl,rfl,true,rfl,iteT (qn H4 (s3.trans s4) ?_)⟩
   rw[hm,mg_stuck hna (free_none hnn hn)]; rfl
  refine ⟨_,rfl,rfl,false,rfl,iteF ?_⟩
  have hiz:i < zs.length:=by omega
  obtain ⟨es,hes,hri⟩:=rH.get (i:=i) (v:=zs[i]) (by simp[hiz])
  obtain ⟨c,cs,rfl⟩:∃c cs,es=c::cs:=by
   cases es with
   | nil=>exact absurd rfl (hL.ne _ (List.mem_of_getElem? hes))
   | cons c cs=>exact ⟨c,cs,rfl⟩
  have hmem:=List.mem_of_getElem? hes
  obtain ⟨more,hf⟩:=free_first hnn hes ho hn
  obtain ⟨u,hu,ku⟩:=(hri.same s4).head
  have ai:atI zs (i:Nat)=some zs[i]:=atIn (List.getElem?_eq_getElem hiz)
  refine ⟨_,rfl,_,rfl,⟨wl,zs,i,zs[i],rfl,rfl,SqL.of (s4 _ _ wA),ai,ku _ ?_⟩⟩
  have wA4:=s4 _ _ wA
  have oA4:=s4 _ _ oA
  have hlen:=aA.len
  refine ⟨_,rfl,.inl ⟨rfl,us,SqL.of oA4⟩,_,rfl,ol,us,u,rfl,rfl,oA4,Nat.lt_of_lt_of_le (Nat.lt_succ_self _) (small (n:=us.length+1) (by omega)),?_⟩
  have w5:RowsAt K (wo (upd H4 ol (.lst (us++[u]))) ol) ess zs:=by rw[wo_upd]; exact rA.same (wo_mono ol s4)
  have a5:AtAll K (wo (upd H4 ol (.lst (us++[u]))) ol) (os++[c]) (us++[u]):=by
   rw[wo_upd]
   exact (AtAll.same (wo_mono ol s4) _ _ aA).append (AtAll_cons.mpr ⟨_,_,rfl,At.wo oA4 _ _ hu,AtAll_nil.mpr rfl⟩)
  have hu5:At K (upd H4 ol (.lst (us++[u]))) c u:=At.same (wo_put H4 ol _) _ _ (At.wo oA4 _ _ hu)
  have oA5:upd H4 ol (.lst (us++[u])) ol=some (.lst (us++[u])):=upd_same
  have wA5:upd H4 ol (.lst (us++[u])) wl=some (.lst zs):=by rw[upd_ne nwo]; exact wA4
  have sA5:Same H (wo (upd H4 ol (.lst (us++[u]))) ol):=by rw[wo_upd]; exact sA.trans (wo_mono ol s4)
  revert w5 a5 hu5 oA5 wA5 sA5
  generalize upd H4 ol (.lst (us++[u]))=H5
  intro w5 a5 hu5 oA5 wA5 sA5
  have hcf:c∈freeL ess:=by rw[hf]; exact List.mem_cons_self
  have hlt:=tot_off_lt c (List.mem_filter.mp hcf).1
  refine ⟨_,rfl,_,rfl,wl,u,zs,ess,c,ol,us++[u],rfl,SqL.of wA5,oA5,w5,hL.ok,hL.ne,hu5,hL.ok.el _ hmem _ List.mem_cons_self,fun q H6 ws s6 hq hq6 hR6=>?_⟩
  refine ⟨tot (noE (ess.map (offHd c))),by rw[noE_tot]; exact hlt,q,ws,us++[u],noE (ess.map (offHd c)),os++[c],_,_,rfl,hq,sA5.trans (wo_mono ol s6),hq6,s6 _ _ oA5,hR6,AtAll.same (wo_mono ol s6) _ _ a5,hL.next c,?_,rfl,?_⟩
  ·rw[hm,mg_next hf,mg_noE,Option.map_map]
   refine congrFun (congrArg Option.map (funext fun l=>?_)) _
   show os++c::l=os++[c]++l
   rw[List.append_assoc]; rfl
  ·rw[noE_tot,List.length_append,List.length_singleton]; omega
end
end GS
namespace GS
section
variable {α:Type} [DecidableEq α]
def cnt (d:α) (l:List α):Nat:=l.countP fun e=>decide (e=d)
theorem cnt_cons (d a:α) (l:List α):cnt d (a::l)=cnt d l+if a=d then 1 else 0:=by
 unfold cnt
 rw[List.countP_cons]
 by_cases h:a=d
 ·simp[h]
 ·simp[h]
theorem cnt_zero {d:α}:∀{l:List α},d ∉ l→cnt d l=0
 | [],_=>rfl
 | a::l,h=>by
  rw[cnt_cons,cnt_zero (fun z=>h (List.mem_cons_of_mem _ z)),if_neg (fun z=>h (by rw[z]; exact List.mem_cons_self))]
theorem cnt_nodup {d:α}:∀{l:List α},l.Nodup→cnt d l≤1
 | [],_=>Nat.zero_le _
 | a::l,h=>by
  rw[List.nodup_cons] at h
  rw[cnt_cons]
  by_cases e:a=d
  ·rw[if_pos e,cnt_zero (e ▸ h.1)]; exact Nat.le_refl _
  ·rw[if_neg e]; exact cnt_nodup h.2
end
theorem nodup_map {α β:Type} {f:α→β} (hf:∀x y,f x=f y→x=y) {l:List α}:(l.map f).Nodup↔l.Nodup:=by
 induction l with
 | nil=>simp
 | cons a l ih=>
  rw[List.map_cons,List.nodup_cons,List.nodup_cons,ih]
  refine and_congr_left fun _=>not_congr ?_
  rw[List.mem_map]
  exact ⟨fun ⟨x,hx,e⟩=>hf _ _ e ▸ hx,fun h=>⟨a,h,rfl⟩⟩
end GS
set_option maxRecDepth 100000
set_option maxHeartbeats 4000000
namespace GS
open PySem PyProof.Rows
open L2 hiding pe_int pe_bl pe_non pe_str pv pe_glob pe_bltn pe_op pe_un pe_cmpR pe_one pe_and pe_or pe_ifExp pe_ix po_none po_some pe_slice pa_nil pa_cons pe_lst pe_tup pe_dnewK pe_callB pe_callTy pe_bm pt_cmpR pt_val pt_not pw_and1 pw_or1 pw_and pw_or pg_name pgs_nil pgs_cons pg_tup pi_list pi_tup pi_range1 ps_ret ps_expr ps_set ps_asg ps_if ps_while ps_for pss_nil pss_cons pss_one
open L3
section
variable {X:Cx}
theorem map_D {pins:List (Addr×Obj)} {σ:L2.St} {H:Hp} {s:Shared} (I:Inv X pins σ H s) {d:D} {x:V} {v:Value} (rx:RelV x v) (hx:At X.K H d x) {ds:List D} {xs:List V} {its:List Value} (ha:AtAll X.K H ds xs) (rv:Vals xs its) (A:Around) (hu:∀e∈ds,A.units+dep e < cLine):
  ∃f:Value→Bool,(∀u∈its,SeqAt.EqAt A s u v (f u))∧its.map f=ds.map fun e=>eqD e d:=by
 classical
 have l1:=rv.length
 have l2:=ha.len
 have fact:∀(i:Nat) (u:Value),its[i]?=some u→∃e y,ds[i]?=some e∧RelV y u∧At X.K H e y:=fun i u hu=>by
  have hi:i < its.length:=(List.getElem?_eq_some_iff.mp hu).1
  obtain ⟨e,he⟩:∃e,ds[i]?=some e:=⟨ds[i]'(by omega),by simp⟩
  obtain ⟨y,hy,hy2⟩:=ha.get he
  obtain ⟨u',hu',ru⟩:=rv.get hy
  rw[hu] at hu'
  cases hu'
  exact ⟨e,y,he,ru,hy2⟩
 have val:∀(i:Nat) (u:Value) (e:D),its[i]?=some u→ds[i]?=some e→(decide (∃(j:Nat) (e':D),its[j]?=some u∧ds[j]?=some e'∧eqD e' d=true))=eqD e d:=fun i u e hu he=>by
  rw[Bool.eq_iff_iff,decide_eq_true_eq]
  constructor
  ·rintro ⟨j,e',hj,hj2,h⟩
   obtain ⟨e1,y1,k1,k2,k3⟩:=fact i u hu
   obtain ⟨e2,y2,l1,l2,l3⟩:=fact j u hj
   rw[he] at k1; cases k1
   rw[hj2] at l1; cases l1
   have ey:=RelV.inj k2 l2
   subst ey
   have:=At.one I _ _ _ k3 l3
   rw[this]; exact h
  ·exact fun h=>⟨i,e,hu,he,h⟩
 refine ⟨fun u=>decide (∃(j:Nat) (e':D),its[j]?=some u∧ds[j]?=some e'∧eqD e' d=true),fun u hu'=>?_,?_⟩
 ·obtain ⟨i,hi⟩:=List.mem_iff_getElem?.mp hu'
  obtain ⟨e,y,he,ry,hy⟩:=fact i u hi
  dsimp only
  rw[val i u e hi he]
  exact eqAt_D I (dep e) e d A y x u v (Nat.le_refl _) ry rx hy hx (hu e (List.mem_of_getElem? he))
 ·refine List.ext_getElem? fun i=>?_
  rw[List.getElem?_map,List.getElem?_map]
  by_cases hi:i < its.length
  ·have e1:its[i]?=some its[i]:=List.getElem?_eq_getElem hi
   obtain ⟨e,y,he,_⟩:=fact i _ e1
   rw[e1,he,Option.map_some,Option.map_some,val i _ e e1 he]
  ·rw[List.getElem?_eq_none (by omega),List.getElem?_eq_none (by omega)]; rfl
def rCountT (K:PySem.W.Frag):V→List V→Hp→VK→Prop:=fun x vs H Q=>∃(y:V) (d:D) (ds:List D),vs=[y]∧At K H (.tup ds) x∧At K H d y∧(∀e∈ds,El e)∧El d∧Q (.int (cnt d ds:Nat)) H
theorem mt_countT {k:Nat} (hr:Room k X.A):MtM X "tuple.count" (rCountT X.K):=by
 intro pins s σ H x vs v us Q I rx rv h
 obtain ⟨y,d,ds,rfl,hx,hy,he,hd,q⟩:=h
 obtain ⟨p,xs,rfl,hq,ha⟩:=At_tup.mp hx
 cases rx
 obtain ⟨u,rfl,ru⟩:=rv.one
 obtain ⟨its,r,pl,hz⟩:=I.tuple hq
 obtain ⟨f,f1,f2⟩:=map_D I ru hy ha r X.A.in1 (fun e h=>by have:=hr.units; have:=(he e h).dep; show X.A.units+1+_ < _; omega)
 obtain ⟨⟨cls,dd,data,sl⟩,ho,hc,n,hd'⟩:=id pl
 simp only at hc hd'
 subst hc hd'
 refine call_meets PySem.F.slot_tuple_count ⟨_,ho,rfl⟩ PySem.F.entry_tuple_count (PySem.F.args_tuple_count_2 _ _) (SeqAt.tuple_countAt p its.toArray n dd sl u f) ⟨ho,fun z hz=>f1 z (by simpa using hz),?_⟩
 refine ⟨.int _,H,I.tok _,⟨_,rfl⟩,?_⟩
 have e:its.countP f=cnt d ds:=by
  have e1:its.countP f=(its.map f).countP id:=by rw[List.countP_map]; rfl
  rw[e1,f2,List.countP_map]
  unfold cnt
  refine List.countP_congr fun e he'=>?_
  show (eqD e d=true↔_)
  rw[eqD_dec (he e he').nb hd.nb]
 rw[show its.toArray.toList.countP f=its.countP f from rfl,e]
 exact q
def PlT (H:Hp) (x:V):Prop:=∃p o vs,x=.ref p∧H p=some (.frz o (.tup vs))∧o.dict=none
theorem PlT.same {H H':Hp} {x:V} (s:Same H H') (h:PlT H x):PlT H' x:=let ⟨p,o,vs,e,h1,h2⟩:=h; ⟨p,o,vs,e,s _ _ h1,h2⟩
theorem At.newF {K:PySem.W.Frag} {H:Hp} {p:Addr} {o:Obj} {ds:List D} {vs:List V} (hp:H p=none) (h:AtAll K H ds vs):At K (upd H p (.frz o (.tup vs))) (.tup ds) (.ref p):=
 At_tup.mpr ⟨p,vs,rfl,.inl (.inr ⟨o,upd_same⟩),AtAll.same (same_new hp _) _ _ h⟩
def tTupF (t:TA):TE:=fun σ H Q=>t σ H fun xs H1=>xs.length≤sizeLine∧∀p o,H1 p=none→o.dict=none→Q (.ref p) (upd H1 p (.frz o (.tup xs)))
theorem pe_tupF {es:List Expr} {t:TA} {pos:Pos} {x1:Nat} (h:PA X es t):PE X (.Tuple es x1 pos) (tTupF t):=by
 intro pins s σ H Q I hq
 refine wpAny_Tuple_spliced (thn (h pos pins s σ H _ I hq) fun us s1 ⟨xs,H1,I1,r,z,q⟩=>⟨by rw[← r.length]; exact z,?_⟩)
 have hf:H1 s1.heap.objs.size=none:=I1.hok.fresh (Nat.le_refl _)
 refine ⟨.ref s1.heap.objs.size,upd H1 s1.heap.objs.size (.frz _ (.tup xs)),I1.laid (t':=s1.toks) (fun b u e=>Heap.get?_push_of_some _ e) (Nat.le_refl _) ⟨Heap.get?_push_size _ rfl,?_⟩,rfl,q _ _ hf rfl⟩
 exact ⟨z,us,r,⟨_,Heap.get?_push_size _ rfl,rfl,_,rfl⟩⟩
def tBMT (r:V→List V→Hp→VK→Prop) (to:TE) (t:TA):TE:=fun σ H Q=>to σ H fun x H1=>PlT H1 x∧t σ H1 fun xs H2=>r x xs H2 Q
theorem pe_bmT {o e:Expr} {es:List Expr} {to:TE} {t:TA} {name:Str} {apos cpos:Pos} {id:String} {r:V→List V→Hp→VK→Prop} (slot:Slot "tuple" name id) (hty:typeOf (.builtin id)=pure (.type "method_descriptor")) (hm:MtR X id r) (ho:PE X o to) (ha:PA X (e::es) t)
  (hbase:attributeBase o name X.env (eval o X.env)=eval o X.env:=by rfl)
  (hfew:((backTo cpos (starEach (e::es) X.env)).all (fun x=>!x.1) && (backToKw cpos (keywordEach [] X.env)).all (fun x=>x.1.isSome)
   && decide ((e::es).length+([]:List Keyword).length+(if ([]:List Keyword).isEmpty then 0 else 1) < 30))=true:=by rfl)
  (hline:(apos.endLine == cpos.line)=true:=by rfl) (hs:starEach (e::es) X.env=(false,eval e X.env)::starEach es X.env:=by rfl) (hplain:(backTo cpos (starEach es X.env)).any (·.1)=false:=by rfl):
  PE X (.Call (.Attribute o name apos) (e::es) [] cpos) (tBMT r to t):=by
 intro pins s σ H Q I h
 refine wpAny_Call_method_late hbase hfew hline rfl (thn (ho pins s σ H _ I h) fun v s1 ⟨x,H1,I1,r1,ty,q1⟩=>?_)
 obtain ⟨p,ob,vs,rfl,hp,hd⟩:=ty
 cases (show v=Value.ref p from r1)
 obtain ⟨e1,hz,its,rv,o2,e2,c2,n2,d2⟩:=(show ObjOk X.prog X.w H1 s1.heap p (.frz ob (.tup vs)) from I1.hok p _ hp)
 rw[e1] at e2
 cases e2
 refine ⟨"tuple",id,PySem.F.plainAttrs_tuple,slot,hty,⟨ob,e1,c2⟩,fun a e=>by cases e; exact ⟨ob,e1,hd⟩,?_⟩
 have hA:=ha cpos pins s1 σ H1 _ I1 q1
 rw[hs] at hA ⊢
 refine Calls.callWith_builtin (by show (false || (backTo cpos (starEach es X.env)).any (·.1))=false; rw[hplain] <;> rfl) (Calls.evalArgs_plain ?_)
 exact thn hA fun us s2 ⟨vs,H2,I2,r2,q2⟩=>hm pins s2 σ H2 _ vs _ us Q I2 r1 r2 q2
end
end GS
namespace L3
open PySem PyProof.Rows L2
section
variable {X:Cx} {o i:Expr} {pos:Pos} {td ty:TE}
theorem pe_countT {K:PySem.W.Frag} {k:Nat} {e:Expr} {apos cpos:Pos} {to:TE} {t:TA} (hr:Room k X.A) (hK:X.K=K) (ho:LE X o to) (ha:LA X [e] t)
  (hbase:attributeBase o "count" X.env (eval o X.env)=eval o X.env:=by rfl)
  (hfew:((backTo cpos (starEach [e] X.env)).all (fun x=>!x.1) && (backToKw cpos (keywordEach [] X.env)).all (fun x=>x.1.isSome)
   && decide ([e].length+([]:List Keyword).length+(if ([]:List Keyword).isEmpty then 0 else 1) < 30))=true:=by rfl)
  (hline:(apos.endLine == cpos.line)=true:=by rfl) (hs:starEach [e] X.env=(false,eval e X.env)::starEach [] X.env:=by rfl) (hplain:(backTo cpos (starEach [] X.env)).any (·.1)=false:=by rfl):
  LE X (.Call (.Attribute o "count" apos) [e] [] cpos) (GS.tBMT (GS.rCountT K) to t):=by
 subst hK
 exact .mk (GS.pe_bmT PySem.F.slot_tuple_count PySem.F.type_tuple_count (GS.mt_countT hr) ho.out ha.out hbase hfew hline hs hplain)
theorem pe_tupF {es:List Expr} {t:TA} {x1:Nat} (h:LA X es t):LE X (.Tuple es x1 pos) (GS.tTupF t):=.mk (GS.pe_tupF h.out)
end
end L3
namespace GS
open PySem PyProof.Rows
open L2 hiding pe_int pe_bl pe_non pe_str pv pe_glob pe_bltn pe_op pe_un pe_cmpR pe_one pe_and pe_or pe_ifExp pe_ix po_none po_some pe_slice pa_nil pa_cons pe_lst pe_tup pe_dnewK pe_callB pe_callTy pe_bm pt_cmpR pt_val pt_not pw_and1 pw_or1 pw_and pw_or pg_name pgs_nil pgs_cons pg_tup pi_list pi_tup pi_range1 ps_ret ps_expr ps_set ps_asg ps_if ps_while ps_for pss_nil pss_cons pss_one
open L3
abbrev pOrd:Stmt:=topd 73
abbrev pCO:Stmt:=topd 74
section
variable {α:Type} [DecidableEq α]
theorem mg_one:∀(xs:List α),xs.Nodup→GS.mg [xs,[]]=some xs
 | [],_=>mg_done rfl
 | y::ys,h=>by
  have hn:=List.nodup_cons.mp h
  have hf:freeL [y::ys,[]]=[y]:=by
   unfold freeL isBehind
   simp[hn.1]
  rw[mg_next hf]
  have e:[y::ys,[]].map (offHd y)=[ys,[]]:=by simp[offHd]
  rw[e,mg_one ys hn.2]; rfl
theorem mg_head {x:α} {xs:List α} (h:(x::xs).Nodup):GS.mg [x::xs,[x]]=some (x::xs):=by
 have hn:=List.nodup_cons.mp h
 have hf:freeL [x::xs,[x]]=[x,x]:=by
  unfold freeL isBehind
  simp[hn.1]
 rw[mg_next hf]
 have e:[x::xs,[x]].map (offHd x)=[xs,[]]:=by simp[offHd]
 rw[e,mg_one xs hn.2]; rfl
end
theorem El.th (i:Nat):El (thD i):=by
 refine ⟨?_,?_⟩
 ·unfold thD
  rw[GS.nb,nbs,nbs,nbs,(El.str "thing").nb,(El.int (i:Nat)).nb]; rfl
 ·unfold thD
  rw[GS.dep,deps,deps,deps,dep_str,dep_int]; decide
section
variable {P:Program} {w:World} {K:PySem.W.Frag} {mg:Str→Option Value} {base:Heap} {f:Addr} {fd:FuncData} {c:ClD}
def spOrd (K:PySem.W.Frag) (c:ClD):Sp:=fun vs H Q _=>∃(W l g:Addr) (ps:List Addr) (os:List Th) (gv:List (Str×Nat)) (x:V) (e:Nat) (nm:Str) (rest:List Nat) (d':Addr),vs=[.ref W,x]∧WAt K c H W l g ps os gv∧os[e]?=some (.kd nm (e::rest) d')∧(e::rest).Nodup∧(e::rest).length≤39∧At K H (.tup [thD e]) x∧PlT H x∧∀r H',Same H H'→At K H' (.tup [.str "value",.tup ((e::rest).map thD)]) r→Q r H'
theorem scOrd:FnScope ["world","elders","own","order"] ["world","elders"] (defScope pOrd):=⟨rfl,rfl,rfl,by decide +kernel,rfl,by decide +kernel,by decide +kernel⟩
theorem ok_Ord (g:Glb9 mg) (z:CsD K c) (hMost:∃t,mg "MOST_CLASSES"=some (.int 40 t)) (F:Fun K "order_of" "order_of" pOrd f fd) (dC:Def P w K mg base "is_class" ["world","a"] 2 (spIs K c false false true false false)) (dT:Def P w K mg base "thing_of" ["world","a"] 1 (spTh K c)) (dM:Def P w K mg base "merged" ["rows"] 4 (spMrg K)):FnOk P w K mg base CX0 5 f fd ["world","elders"] (spOrd K c):=by
 refine F.okI scOrd (fun vs H Q E h=>?_) (fun cdv A outer s H vs Q E hr h=>?_)
 ·obtain ⟨_,_,_,_,_,_,_,_,_,_,_,rfl,_⟩:=h; rfl
 obtain ⟨W,l,gd,ps,os,gv,x,e,nm,rest,d',rfl,hw,he,hnd,hlen,hx,hpl,q⟩:=h
 refine ⟨_,(pss_cons (ps_if (pt_not (pt_val (pe_callB (call_all rfl) rfl g.nAll b9All (pa_cons (.mk (L2.pe_compG (cl:=[("world",s.heap.objs.size+1)]) (Xs:=["elder"]) (Nf:=["world"]) (js:=[0]) ?k1 rfl (LI.out (pi_tup (pv 1))) (fun C s0 H0 fp=>LG.out (pg_name (i:=0) (show (["elder","world"]:List Str).Nodup by decide +kernel) rfl (Or.inl rfl))) (fun C s0 H0 fp=>pts_nil) (fun C s0 H0 fp=>LE.out (L3.pe_def dC hr (by decide) rfl (pa_cons (pv 1) (pa_cons (pv 0) pa_nil)))))) pa_nil)))) (pss_one ps_dead) pss_nil)
   (pss_cons (ps_if (pt_val (pe_callB (call_any rfl) rfl g.nAny b9Any (pa_cons (.mk (L2.pe_compG (cl:=[("elders",s.heap.objs.size+2)]) (Xs:=["elder"]) (Nf:=["elders"]) (js:=[1]) ?k2 rfl (LI.out (pi_tup (pv 1))) (fun C s0 H0 fp=>LG.out (pg_name (i:=0) (show (["elder","elders"]:List Str).Nodup by decide +kernel) rfl (Or.inl rfl))) (fun C s0 H0 fp=>pts_nil) (fun C s0 H0 fp=>LE.out (pe_cmpR op_gt (L3.pe_countT (K:=K) (k:=4) hr rfl (pv 1) (pa_cons (pv 0) pa_nil)) pe_int (nomark _))))) pa_nil))) (pss_one ps_dead) pss_nil)
   (pss_cons (ps_set (i:=2) scOrd.nd rfl (Or.inl rfl) (pe_ifExp (pt_cmpR op_gt (pe_callB call_len_seq rfl g.nLen b9Len (pa_cons (pv 1) pa_nil)) pe_int (nomark _)) (pv 1) pe_dead))
   (pss_cons (ps_set (i:=3) scOrd.nd rfl (Or.inl rfl) (L3.pe_def dM hr (by decide) rfl (pa_cons (pe_op op_cat (.mk (L2.pe_compG (cl:=[("world",s.heap.objs.size+1)]) (Xs:=["elder"]) (Nf:=["world"]) (js:=[0]) ?k3 rfl (LI.out (pi_tup (pv 2))) (fun C s0 H0 fp=>LG.out (pg_name (i:=0) (show (["elder","world"]:List Str).Nodup by decide +kernel) rfl (Or.inl rfl))) (fun C s0 H0 fp=>pts_nil) (fun C s0 H0 fp=>LE.out (L3.pe_fldK (K:=K) rfl (L3.pe_def dT hr (by decide) rfl (pa_cons (pv 1) (pa_cons (pv 0) pa_nil))))))) (pe_lst (pa_cons (pv 2) pa_nil))) pa_nil)))
   (pss_cons (ps_if (LW.pt (pw_or (pt_cmpR op_isN (pv 3) pe_non (nomark _)) (pw_or1 (pt_cmpR op_gt (pe_op op_add (pe_callB call_len_seq rfl g.nLen b9Len (pa_cons (pv 3) pa_nil)) pe_int) (L3.pe_gint rfl hMost) (nomark _))))) (pss_one ps_dead) pss_nil)
   (pss_one (ps_ret (pe_tup (pa_cons pe_str (pa_cons (pe_callTy call_tuple_of rfl g.nTuple b9Tuple (pa_cons (pv 3) pa_nil)) pa_nil)))))))))),?main⟩
 case k1=>
  refine ⟨rfl,by decide +kernel,rfl,by decide +kernel,fun y c h=>?_,fun y hy=>?_,rfl,fun j y h=>?_⟩
  ·obtain ⟨rfl,rfl⟩:=look1 h; rfl
  ·have hy':([(".0",.local),("elder",.local),("is_class",.globalImplicit),("world",.cell)]:List (Str×NameKind)).lookup y=some .cell∨([(".0",.local),("elder",.local),("is_class",.globalImplicit),("world",.cell)]:List (Str×NameKind)).lookup y=some .free:=hy
   rcases hy' with z | z
   ·have m:=PySem.mem_of_lookup z
    simp at m
    subst m
    exact ⟨_,rfl⟩
   ·have m:=PySem.mem_of_lookup z
    simp at m
  ·match j,h with
   | 0,h=>cases h; exact ⟨0,rfl,rfl,rfl,.inl rfl⟩
   | j+1,h=>simp at h
 case k2=>
  refine ⟨rfl,by decide +kernel,rfl,by decide +kernel,fun y c h=>?_,fun y hy=>?_,rfl,fun j y h=>?_⟩
  ·obtain ⟨rfl,rfl⟩:=look1 h; rfl
  ·have hy':([(".0",.local),("elder",.local),("elders",.cell)]:List (Str×NameKind)).lookup y=some .cell∨([(".0",.local),("elder",.local),("elders",.cell)]:List (Str×NameKind)).lookup y=some .free:=hy
   rcases hy' with z | z
   ·have m:=PySem.mem_of_lookup z
    simp at m
    subst m
    exact ⟨_,rfl⟩
   ·have m:=PySem.mem_of_lookup z
    simp at m
  ·match j,h with
   | 0,h=>cases h; exact ⟨1,rfl,rfl,rfl,.inl rfl⟩
   | j+1,h=>simp at h
 case k3=>
  refine ⟨rfl,by decide +kernel,rfl,by decide +kernel,fun y c h=>?_,fun y hy=>?_,rfl,fun j y h=>?_⟩
  ·obtain ⟨rfl,rfl⟩:=look1 h; rfl
  ·have hy':([(".0",.local),("elder",.local),("thing_of",.globalImplicit),("world",.cell)]:List (Str×NameKind)).lookup y=some .cell∨([(".0",.local),("elder",.local),("thing_of",.globalImplicit),("world",.cell)]:List (Str×NameKind)).lookup y=some .free:=hy
   rcases hy' with z | z
   ·have m:=PySem.mem_of_lookup z
    simp at m
    subst m
    exact ⟨_,rfl⟩
   ·have m:=PySem.mem_of_lookup z
    simp at m
  ·match j,h with
   | 0,h=>cases h; exact ⟨0,rfl,rfl,rfl,.inl rfl⟩
   | j+1,h=>simp at h
 case main=>
  obtain ⟨ax,xvs,rfl,sqx,hA⟩:=At_tup.mp hx
  obtain ⟨v0,r0,rfl,hv0,hA0⟩:=AtAll_cons.mp hA
  rw[AtAll_nil.mp hA0] at sqx
  refine ⟨_,rfl,ax,rfl,⟨_,sqx⟩,[.ref W],⟨rfl,fun j i h=>?_⟩,compG_one (vs:=[.ref W]) (tc:=tTrue) ([v0]:List V).length (fun i=>[v0].getD i .non) (fun _=>true) (fun i v _=>v=.bl true) (fun _ _ _ _ _ z=>z) (by show 1≤1000000; decide) (itt_stop sqx) (itt_go sqx) (itt_yld sqx) (fun i H2 Q' hi s2 k=>k H2 (Same.refl _)) (fun j H1 D l' Q' hj _ s1 _ _ k=>?_) fun D H1 ys hD s1 hl1 hP=>?_⟩
  ·match j,h with
   | 0,h=>cases h; exact ⟨_,rfl,rfl⟩
   | j+1,h=>simp at h
  ·obtain rfl:j=0:=Nat.lt_one_iff.mp hj
   refine ⟨_,rfl,_,rfl,W,l,gd,ps,os,gv,v0,thD e,rfl,hw.same s1,At.same s1 _ _ hv0,Vd.th (lt_of_some he),k _ _ (Same.refl _) ?_⟩
   rw[thO_th,he]; rfl
  have e1:=hP.eq
  refine ⟨D,[true],rfl,SqL.of (by rw[hl1,e1]; rfl),_,rfl,iteF ?_⟩
  have sqx1:=Same.seqT s1 sqx
  refine ⟨_,rfl,ax,rfl,⟨_,sqx1⟩,[.ref ax],⟨rfl,fun j i h=>?_⟩,compG_one (vs:=[.ref ax]) (tc:=tTrue) ([v0]:List V).length (fun i=>[v0].getD i .non) (fun _=>true) (fun i v _=>v=.bl false) (fun _ _ _ _ _ z=>z) (by show 1≤1000000; decide) (itt_stop sqx1) (itt_go sqx1) (itt_yld sqx1) (fun i H2 Q' hi s2 k=>k H2 (Same.refl _)) (fun j H2 D l' Q' hj _ s2 _ _ k=>?_) fun D2 H2 ys2 hD2 s2 hl2 hP2=>?_⟩
  ·match j,h with
   | 0,h=>cases h; exact ⟨_,rfl,rfl⟩
   | j+1,h=>simp at h
  ·obtain rfl:j=0:=Nat.lt_one_iff.mp hj
   have s12:=s1.trans s2
   refine ⟨_,rfl,hpl.same s12,_,rfl,_,thD e,[thD e],rfl,At.same s12 _ _ hx,At.same s12 _ _ hv0,fun d hd=>?_,El.th e,_,_,rfl,rfl,k _ _ (Same.refl _) (congrArg V.bl (decide_eq_false ?_))⟩
   ·rw[List.mem_singleton.mp hd]; exact El.th e
   ·have:=cnt_nodup (d:=thD e) (l:=[thD e]) (List.nodup_cons.mpr ⟨by simp,List.nodup_nil⟩)
    omega
  have e2:=hP2.eq
  refine ⟨D2,[false],rfl,SqL.of (by rw[hl2,e2]; rfl),_,rfl,iteF ?_⟩
  have s12:=s1.trans s2
  have sqx2:=Same.seqT s12 sqx
  refine ⟨_,rfl,ax,_,rfl,.inr sqx2,_,_,rfl,rfl,_,rfl,iteT ⟨_,rfl,?_⟩⟩
  refine ⟨_,rfl,ax,rfl,⟨_,sqx2⟩,[.ref W],⟨rfl,fun j i h=>?_⟩,compG_one (vs:=[.ref W]) (tc:=tTrue) ([v0]:List V).length (fun i=>[v0].getD i .non) (fun _=>true) (fun i v H'=>RowAt K H' ((e::rest).map thD) v) (fun _ _ _ _ s z=>z.same s) (by show 1≤1000000; decide) (itt_stop sqx2) (itt_go sqx2) (itt_yld sqx2) (fun i H2 Q' hi s2 k=>k H2 (Same.refl _)) (fun j H4 D l' Q' hj _ s4 _ hDl k=>?_) fun D4 H4 ys4 hD4 s4 hl4 hP4=>?_⟩
  ·match j,h with
   | 0,h=>cases h; exact ⟨_,rfl,rfl⟩
   | j+1,h=>simp at h
  ·obtain rfl:j=0:=Nat.lt_one_iff.mp hj
   have s14:=s12.trans s4
   refine ⟨_,rfl,_,rfl,W,l,gd,ps,os,gv,v0,thD e,rfl,hw.same s14,At.same s14 _ _ hv0,Vd.th (lt_of_some he),fun v t=>?_⟩
   obtain ⟨p,_,rfl,dx,vo,v4,hp,ho,_⟩:=t.th he
   exact ⟨p,c.Kd,dx,_,vo,rfl,hp,z.kc,z.k2,kdF_order ..,k _ _ (Same.refl _) (RowAt.tup (At.wo hDl _ _ ho))⟩
  have s14:=s12.trans s4
  have hR4:=Pairs.rows (f:=fun _=>(e::rest).map thD) (hP4.mono (fun i v z=>RowAt.same (wo_same H4 D4) z))
  have hR4:RowsAt K H4 [(e::rest).map thD] ys4:=hR4
  have l4:=hR4.len
  refine ⟨_,rfl,by show 1≤sizeLine; decide,fun p5 hp5=>?_⟩
  have s5:Same H4 (upd H4 p5 (.lst [.ref ax])):=same_new hp5 _
  have h5:upd H4 p5 (.lst [.ref ax]) p5=some (.lst [.ref ax]):=upd_same
  revert s5 h5
  generalize upd H4 p5 (.lst [.ref ax])=H5
  intro s5 h5
  refine ⟨D4,p5,ys4,[.ref ax],rfl,rfl,s5 _ _ hl4,h5,small (by rw[List.length_singleton,l4]; show 1+1≤1000000; decide),fun p6 hp6=>?_⟩
  have s6:Same H5 (upd H5 p6 (.lst (ys4++[.ref ax]))):=same_new hp6 _
  have h6:upd H5 p6 (.lst (ys4++[.ref ax])) p6=some (.lst (ys4++[.ref ax])):=upd_same
  revert s6 h6
  generalize upd H5 p6 (.lst (ys4++[.ref ax]))=H6
  intro s6 h6
  have s46:=s5.trans s6
  have s16:=s14.trans s46
  have hR6:RowsAt K H6 ([(e::rest).map thD]++[[thD e]]) (ys4++[.ref ax]):=(hR4.same s46).append (.cons (RowAt.tup (At.same s16 _ _ hx)) .nil)
  have ndm:((e::rest).map thD).Nodup:=(nodup_map fun _ _ e=>thD_inj e).mpr hnd
  have emg:GS.mg ([(e::rest).map thD]++[[thD e]])=some ((e::rest).map thD):=mg_head ndm
  have lm:((e::rest).map thD).length≤39:=by rw[List.length_map]; exact hlen
  have memR:∀r∈[(e::rest).map thD]++[[thD e]],r=(e::rest).map thD∨r=[thD e]:=fun r hr=>by
   rcases List.mem_append.mp hr with h | h
   ·exact .inl (List.mem_singleton.mp h)
   ·exact .inr (List.mem_singleton.mp h)
  refine ⟨p6,_,_,rfl,SqL.of h6,hR6,⟨fun ds hd e' he'=>?_,fun ds hd=>?_,by show 2≤1000; decide⟩,fun ds hd=>?_,?_,fun H7 s7 hm=>?_,fun q7 H7 ws l7 s7 hm _ hq7 hA7=>?_⟩
  ·rcases memR ds hd with rfl | rfl
   ·obtain ⟨i,_,rfl⟩:=List.mem_map.mp he'
    exact El.th i
   ·rw[List.mem_singleton.mp he']; exact El.th e
  ·rcases memR ds hd with rfl | rfl
   ·omega
   ·show 1≤1000; decide
  ·rcases memR ds hd with rfl | rfl
   ·exact ndm
   ·exact List.nodup_cons.mpr ⟨by simp,List.nodup_nil⟩
  ·show tot [(e::rest).map thD,[thD e]]≤100000
   rw[tot_cons,tot_cons]
   have:tot ([]:List (List GS.D))=0:=rfl
   have:([thD e]).length=1:=rfl
   omega
  ·rw[emg] at hm; cases hm
  ·rw[emg] at hm
   cases hm
   have l7:=hA7.len
   have s17:=s16.trans s7
   refine ⟨_,rfl,rfl,false,rfl,iteF ⟨_,rfl,q7,ws,rfl,.inl (SqL.of hq7),_,_,rfl,rfl,_,_,rfl,rfl,false,congrArg V.bl (decide_eq_false (by omega)),iteF ?_⟩⟩
   refine ⟨_,rfl,q7,ws,rfl,.inl ⟨SqL.of hq7,fun t ht=>⟨by show 2≤sizeLine; decide,fun p hp=>?_⟩⟩⟩
   have s8:Same H7 (upd H7 t (.tup ws)):=same_new ht _
   have a8:At K (upd H7 t (.tup ws)) (.tup ((e::rest).map thD)) (.ref t):=At.new ht hA7
   exact q _ _ ((s17.trans s8).trans (same_new hp _)) (At.new hp (AtAll2 (At_str.mpr rfl) a8))
def spCO (K:PySem.W.Frag) (c:ClD):Sp:=fun vs H Q _=>∃(W l g:Addr) (ps:List Addr) (os:List Th) (gv:List (Str×Nat)) (nm:Str) (v2:V) (d:Addr) (ns:List Nat),vs=[.ref W,.str nm,v2,.ref d]∧WAt K c H W l g ps os gv∧os.length≤1000∧At K H (.tup (ns.map thD)) v2∧ns.length≤1000∧H d=some (.dK [])∧
 ∀r H' p d',H d'=none→But9 l H H'→WAt K c H' W l g (ps++[p]) (os++[.kd nm (os.length::ns) d']) gv→At K H' (thD os.length) r→Q r H'
theorem scCO:FnScope ["world","name","order","fields"] ["world","name","order","fields"] (defScope pCO):=⟨rfl,rfl,rfl,by decide +kernel,rfl,by decide +kernel,by decide +kernel⟩
theorem ok_CO (F:Fun K "class_of" "class_of" pCO f fd) (dN:Def P w K mg base "new_class" ["world","name","behind","fields","is_given"] 3 (spNew K c)):FnOk P w K mg base CX0 4 f fd ["world","name","order","fields"] (spCO K c):=by
 refine F.okI scCO (fun vs H Q E h=>?_) (fun cdv A outer s H vs Q E hr h=>?_)
 ·obtain ⟨_,_,_,_,_,_,_,_,_,_,rfl,_⟩:=h; rfl
 obtain ⟨W,l,gd,ps,os,gv,nm,v2,d,ns,rfl,hw,hl,h2,hn,hd,q⟩:=h
 refine ⟨_,(pss_one (ps_ret (L3.pe_def dN hr (by decide) rfl (pa_cons (pv 0) (pa_cons (pv 1) (pa_cons (pv 2) (pa_cons (pv 3) (pa_cons pe_bl pa_nil)))))))),?_⟩
 exact ⟨_,rfl,_,rfl,_,rfl,_,rfl,W,l,gd,ps,os,gv,nm,v2,_,d,ns,rfl,hw,hl,RowAt.tup h2,hn,hd,q⟩
end
def BtS (S:List Addr) (H H':Hp):Prop:=∀q o,q ∉ S→H q=some o→H' q=some o
theorem BtS.trans {S:List Addr} {H H1 H2:Hp} (a:BtS S H H1) (b:BtS S H1 H2):BtS S H H2:=fun q o n e=>b q o n (a q o n e)
theorem Same.bts {S:List Addr} {H H':Hp} (s:Same H H'):BtS S H H':=fun q o _ e=>s q o e
theorem But9.bts {S:List Addr} {l:Addr} {H H':Hp} (b:But9 l H H') (m:l∈S):BtS S H H':=fun q o n e=>b q o (fun y=>n (y ▸ m)) e
theorem BtS.putN {S:List Addr} {l:Addr} {H H1:Hp} {o:HO} (b:BtS S H H1) (m:H l=none):BtS S H (upd H1 l o):=fun q u n e=>by
 rw[upd_ne (fun y=>by rw[y,m] at e; cases e)]; exact b q u n e
structure KpL (S:List Addr) (H H':Hp):Prop where
 l:∀q ys,q ∉ S→H q=some (.lst ys)→H' q=some (.lst ys)
 f:Fx H H'
theorem KpL.trans {S:List Addr} {H H1 H2:Hp} (a:KpL S H H1) (b:KpL S H1 H2):KpL S H H2:=⟨fun q ys n e=>b.l q ys n (a.l q ys n e),a.f.trans b.f⟩
theorem Same.kpl {S:List Addr} {H H':Hp} (s:Same H H'):KpL S H H':=⟨fun q ys _ e=>s q _ e,Same.fx s⟩
theorem But9.kpl {S:List Addr} {l:Addr} {H H':Hp} {xs:List V} (b:But9 l H H') (m:l∈S) (h:H l=some (.lst xs)):KpL S H H':=⟨fun q ys n e=>b q _ (fun y=>n (y ▸ m)) e,b.fx h rfl⟩
theorem But9.kpd {S:List Addr} {d:Addr} {H H':Hp} {kvs:List (Key×V)} (b:But9 d H H') (h:H d=some (.dK kvs)):KpL S H H':=⟨fun q ys n e=>b q _ (fun y=>by rw[y,h] at e; cases e) e,b.fx h rfl⟩
theorem KpL.put {S:List Addr} {l:Addr} {H:Hp} {xs:List V} {o:HO} (m:l∈S) (h:H l=some (.lst xs)):KpL S H (upd H l o):=(But9.put H o).kpl m h
structure KpO (os os':List Th):Prop where
 l:os.length≤os'.length
 o:∀(i:Nat) (o:Th),os[i]?=some o→(∀k d fs,o≠.ob k d fs)→os'[i]?=some o
theorem KpO.refl (os:List Th):KpO os os:=⟨Nat.le_refl _,fun _ _ e _=>e⟩
theorem KpO.snoc (os:List Th) (o:Th):KpO os (os++[o]):=⟨by rw[List.length_append]; omega,fun i o e _=>snoc_old e⟩
theorem KpO.set {os:List Th} {i k:Nat} {d:Addr} {fs fs':Option (D×D×D)} (e:os[i]?=some (.ob k d fs)):KpO os (os.set i (.ob k d fs')):=by
 refine ⟨by rw[List.length_set]; exact Nat.le_refl _,fun j o ej n=>?_⟩
 by_cases hj:j=i
 ·subst hj; rw[e] at ej; cases ej; exact absurd rfl (n _ _ _)
 ·rw[List.getElem?_set_ne (Ne.symm hj)]; exact ej
theorem KpO.kd {os os':List Th} (h:KpO os os') {i:Nat} {nm:Str} {ns:List Nat} {d:Addr} (e:os[i]?=some (.kd nm ns d)):os'[i]?=some (.kd nm ns d):=h.o i _ e fun _ _ _ z=>nomatch z
def ordN (j:Nat):List Nat:=((gcN.getD j ("",[])).1::(gcN.getD j ("",[])).2).map ixN9
def nmN (j:Nat):Str:=(gcN.getD j ("",[])).1
theorem os0_at {ds:List Addr} (h:ds.length=12) {j:Nat} (hj:j < 12):∃d,(os0 ds)[8+j]?=some (.kd (nmN j) (ordN j) d):=by
 unfold os0
 rw[List.getElem?_append_right (by show 8≤8+j; omega)]
 show ∃d,(List.map (fun x:(Str×List Str)×Addr=>Th.kd x.1.1 ((x.1.1::x.1.2).map ixN9) x.2) (gcN.zip ds))[8+j - 8]?=_
 rw[show 8+j - 8=j by omega,List.getElem?_map,List.zip_eq_zipWith,List.getElem?_zipWith,gcN_at j hj,List.getElem?_eq_getElem (show j < ds.length by omega)]
 exact ⟨_,rfl⟩
theorem os0_f {ds:List Addr} {j:Nat} (hj:j < 8):(os0 ds)[j]?=some (.gvn (gfN.getD j "")):=by
 unfold os0
 rw[List.getElem?_append_left (by show j < 8; exact hj),List.getElem?_map,gfN_at j hj]; rfl
theorem os0_kd {ds:List Addr} (h:ds.length=12) {i:Nat} {o:Th} (e:(os0 ds)[i]?=some o):(i < 8∧o=.gvn (gfN.getD i ""))∨∃j d,j < 12∧i=8+j∧o=.kd (nmN j) (ordN j) d:=by
 have hl:=lt_of_some e
 rw[os0_len (by omega),h] at hl
 by_cases hi:i < 8
 ·rw[os0_f hi] at e; cases e; exact .inl ⟨hi,rfl⟩
 ·obtain ⟨d,e'⟩:=os0_at h (j:=i - 8) (by omega)
  rw[show 8+(i - 8)=i by omega,e] at e'
  cases e'
  exact .inr ⟨i - 8,d,by omega,by omega,rfl⟩
theorem ordN_ok:∀j,j < 12→(∃r,ordN j=(8+j)::r)∧(ordN j).Nodup∧(ordN j).length≤8+j∧(∀n∈ordN j,8≤n∧n < 20)∧(1≤j→9∈ordN j)∧(nmN j).length≤100∧(nmN j,8+j)∈gv0:=by
 intro j hj
 have h:∀j,j < 12→(ordN j).head?=some (8+j)∧(ordN j).Nodup∧(ordN j).length≤8+j∧(∀n∈ordN j,8≤n∧n < 20)∧(1≤j→9∈ordN j)∧(nmN j).length≤100∧(nmN j,8+j)∈gv0:=by decide +kernel
 obtain ⟨h1,h2⟩:=h j hj
 refine ⟨?_,h2⟩
 cases e:ordN j with
 | nil=>rw[e] at h1; cases h1
 | cons a r=>rw[e] at h1; injection h1 with h1; exact ⟨r,by rw[h1]⟩
structure ClO (os:List Th) (B:Nat):Prop where
 wf:WfO os
 lo:20≤B
 hi:B≤26
 le:B≤os.length
 el:os[3]?=some (.gvn "elder")
 sy:os[0]?=some (.gvn "say")
 l8:∀i,i < 8→∃n,os[i]?=some (.gvn n)
 gv:∀j,j < 12→∃d,os[8+j]?=some (.kd (nmN j) (ordN j) d)
 kd:∀i,8≤i→i < B→∃nm rest d,os[i]?=some (.kd nm (i::rest) d)∧(i::rest).Nodup∧(i::rest).length≤i∧nm.length≤100∧∀n∈i::rest,n≤i
theorem ClO.mono {os os':List Th} {B:Nat} (h:ClO os B) (k:KpO os os') (wf:WfO os'):ClO os' B:=by
 refine ⟨wf,h.lo,h.hi,Nat.le_trans h.le k.l,k.o _ _ h.el (fun _ _ _ z=>nomatch z),k.o _ _ h.sy (fun _ _ _ z=>nomatch z),fun i hi=>(h.l8 i hi).imp fun n e=>k.o _ _ e (fun _ _ _ z=>nomatch z),fun j hj=>?_,fun i h1 h2=>?_⟩
 ·obtain ⟨d,e⟩:=h.gv j hj
  exact ⟨d,k.kd e⟩
 ·obtain ⟨nm,rest,d,e,r⟩:=h.kd i h1 h2
  exact ⟨nm,rest,d,k.kd e,r⟩
theorem ClO.start {ds:List Addr} (h:ds.length=12):ClO (os0 ds) 20:=by
 refine ⟨⟨fun i nm ns d e n hn=>?_,fun i k d fs e=>?_⟩,Nat.le_refl _,by decide,by rw[os0_len (by omega),h]; decide,os0_f (by decide),os0_f (by decide),fun i hi=>⟨_,os0_f hi⟩,fun j hj=>os0_at h hj,fun i h1 h2=>?_⟩
 ·rcases os0_kd h e with ⟨_,z⟩ | ⟨j,d',hj,rfl,z⟩
  ·cases z
  ·cases z
   obtain ⟨h1,h2⟩:=(ordN_ok j hj).2.2.2.1 n hn
   obtain ⟨d2,e2⟩:=os0_at h (j:=n - 8) (by omega)
   rw[show 8+(n - 8)=n by omega] at e2
   exact ⟨_,_,_,e2⟩
 ·rcases os0_kd h e with ⟨_,z⟩ | ⟨j,d',hj,rfl,z⟩ <;> cases z
 ·obtain ⟨d,e⟩:=os0_at h (j:=i - 8) (by omega)
  rw[show 8+(i - 8)=i by omega] at e
  obtain ⟨⟨r,er⟩,o2,o3,o4,_,o6,_⟩:=ordN_ok (i - 8) (by omega)
  rw[show 8+(i - 8)=i by omega] at er o3
  rw[er] at o2 o3 o4 e
  refine ⟨_,r,d,e,o2,o3,o6,fun n hn=>?_⟩
  have:∀j,j < 12→∀n∈ordN j,n≤8+j:=by decide +kernel
  have:=this (i - 8) (by omega) n (by rw[er]; exact hn)
  omega
theorem ClO.noob {os:List Th} {B:Nat} (h:ClO os B) (hl:os.length=B) {i k:Nat} {d:Addr} {fs:Option (D×D×D)} (e:os[i]?=some (.ob k d fs)):False:=by
 have hi:=lt_of_some e
 by_cases h8:i < 8
 ·obtain ⟨n,e'⟩:=h.l8 i h8
  rw[e] at e'; cases e'
 ·obtain ⟨nm,rest,d',e',_⟩:=h.kd i (by omega) (by omega)
  rw[e] at e'; cases e'
theorem ClO.kdR {os:List Th} {B:Nat} (h:ClO os B) (hl:os.length=B) {i:Nat} {nm:Str} {ns:List Nat} {d:Addr} (e:os[i]?=some (.kd nm ns d)):8≤i∧i < B:=by
 have hi:=lt_of_some e
 refine ⟨?_,by omega⟩
 by_cases h8:i < 8
 ·obtain ⟨n,e'⟩:=h.l8 i h8
  rw[e] at e'; cases e'
 ·omega
theorem ClO.more {os:List Th} {B:Nat} (h:ClO os B) (hl:os.length=B) (hB:B≤25) {nm:Str} {e:Nat} {nm':Str} {rest:List Nat} {d d':Addr} (he:os[e]?=some (.kd nm' (e::rest) d')) (h8:8≤e) (hn:nm.length≤100):ClO (os++[.kd nm (os.length::e::rest) d]) (B+1):=by
 have helt:=lt_of_some he
 obtain ⟨nm2,rest2,d2,e2,h2,h3,h4,h5⟩:=h.kd e h8 (by omega)
 rw[he] at e2
 cases e2
 have wf:WfO (os++[.kd nm (os.length::e::rest) d]):=h.wf.add (fun nm' ns d' z n hn=>by
  cases z
  rcases List.mem_cons.mp hn with rfl | hn
  ·exact .inl rfl
  ·exact .inr (h.wf.k e _ _ _ he n hn)) (fun _ _ _ z=>nomatch z)
 have hm:=h.mono (KpO.snoc os _) wf
 refine ⟨wf,by have:=h.lo; omega,by omega,by rw[List.length_append,List.length_singleton]; omega,hm.el,hm.sy,hm.l8,hm.gv,fun i h1 h2'=>?_⟩
 by_cases hi:i < B
 ·exact hm.kd i h1 hi
 ·have ei:i=os.length:=by omega
  subst ei
  refine ⟨nm,e::rest,d,snoc_last,List.nodup_cons.mpr ⟨fun z=>?_,h2⟩,?_,hn,fun n hn=>?_⟩
  ·have:=h5 _ z; omega
  ·rw[List.length_cons]; omega
  ·rcases List.mem_cons.mp hn with rfl | hn
   ·exact Nat.le_refl _
   ·have:=h5 n hn; omega
def RwOk (K:PySem.W.Frag) (H:Hp) (os:List Th) (S:List Addr) (i:Nat) (v:V):Prop:=∃nm ns d p q x ys,v=.ref p∧os[i]?=some (.kd nm ns d)∧H p=some (.lst [x,.str nm,.ref q])∧At K H (thD i) x∧H q=some (.lst ys)∧AtAll K H (ns.map thD) ys∧p ∉ S∧q ∉ S
theorem RwOk.keep {K:PySem.W.Frag} {H H':Hp} {os os':List Th} {S:List Addr} {i:Nat} {v:V} (h:RwOk K H os S i v) (k:KpL S H H') (ko:KpO os os'):RwOk K H' os' S i v:=by
 obtain ⟨nm,ns,d,p,q,x,ys,e,h1,h2,h3,h4,h5,h6,h7⟩:=h
 exact ⟨nm,ns,d,p,q,x,ys,e,ko.kd h1,k.l _ _ h6 h2,At.fx k.f _ _ h3,k.l _ _ h7 h4,AtAll.fx k.f _ _ h5,h6,h7⟩
theorem RwOk.more {K:PySem.W.Frag} {H:Hp} {os:List Th} {S S':List Addr} {i:Nat} {v:V} (h:RwOk K H os S i v) (hs:∀p∈S',p∈S∨H p=none):RwOk K H os S' i v:=by
 obtain ⟨nm,ns,d,p,q,x,ys,e,h1,h2,h3,h4,h5,h6,h7⟩:=h
 refine ⟨nm,ns,d,p,q,x,ys,e,h1,h2,h3,h4,h5,fun m=>?_,fun m=>?_⟩
 ·rcases hs p m with z | z
  ·exact h6 z
  ·rw[h2] at z; cases z
 ·rcases hs q m with z | z
  ·exact h7 z
  ·rw[h4] at z; cases z
def RwsOk (K:PySem.W.Frag) (H:Hp) (os:List Th) (S:List Addr) (rvs:List V):Prop:=∀(j:Nat) (v:V),rvs[j]?=some v→RwOk K H os S (8+j) v
theorem RwsOk.keep {K:PySem.W.Frag} {H H':Hp} {os os':List Th} {S:List Addr} {rvs:List V} (h:RwsOk K H os S rvs) (k:KpL S H H') (ko:KpO os os'):RwsOk K H' os' S rvs:=fun j v e=>(h j v e).keep k ko
theorem RwsOk.snoc {K:PySem.W.Frag} {H:Hp} {os:List Th} {S:List Addr} {rvs:List V} {v:V} {i:Nat} (h:RwsOk K H os S rvs) (hv:RwOk K H os S i v) (hi:i=8+rvs.length):RwsOk K H os S (rvs++[v]):=fun j u e=>by
 rcases getElem?_snoc e with z | ⟨z1,z2⟩
 ·exact h j u z
 ·rw[z1,z2,← hi]; exact hv
section
variable {X:Cx}
def rInsert1:V→List V→Hp→VK→Prop:=fun x vs H Q=>∃l a xs y,x=.ref l∧vs=[.int 1,y]∧H l=some (.lst (a::xs))∧xs.length≤1000∧Q .non (upd H l (.lst (a::y::xs)))
theorem mt_insert1:MtM X "list.insert" rInsert1:=by
 intro pins s σ H x vs v us Q I rx rv h
 obtain ⟨l,a,xs,y,rfl,rfl,hH,hz,q⟩:=h
 cases rx
 obtain ⟨u1,u2,rfl,r1,r2⟩:=vals2 rv
 obtain ⟨t,rfl⟩:=r1
 obtain ⟨z,its,n,r,hl,e⟩:=I.lstM hH
 match its,r with
 | i0::rest,.cons ra rr=>
 have hS:=sizeLine_eq
 have hlr:=rr.length
 refine call_meets F.slot_list_insert ⟨_,e,rfl⟩ F.entry_list_insert (F.args_list_insert_3 _ _ _) (AutoSeq1.list_insert_list_int_val_1 l (i0::rest).toArray n 1 t u2 (by decide +kernel) (by rw[List.size_toArray,List.length_cons]; omega)) ⟨e,?_⟩
 refine ⟨.non,_,I.lset (its':=i0::u2::rest) hH e ?_ (.cons ra (.cons r2 rr)) ?_,rfl,q⟩
 ·have e1:(1:Int).toNat=1:=rfl
  show ((i0::rest).toArray.extract 0 (if (1:Int) < 0 then _ else min (1:Int).toNat (i0::rest).toArray.size)).push u2++(i0::rest).toArray.extract (if (1:Int) < 0 then _ else min (1:Int).toNat (i0::rest).toArray.size)=(i0::u2::rest).toArray
  rw[if_neg (by decide),e1,List.size_toArray,List.length_cons,Nat.min_eq_left (by omega)]
  simp
 ·rw[List.length_cons,List.length_cons]; omega
end
abbrev sCls:Stmt:=topd 80
section
variable {K:PySem.W.Frag} {c:ClD} {H H':Hp} {a b l:Addr} {n:Nat}
theorem Spot9.butl (h:Spot9 K H a b n) (hb:But9 l H H') (na:a≠l) (nb:b≠l):Spot9 K H' a b n:=by
 obtain ⟨⟨ns,h1,h2⟩,h3,h4⟩:=h
 exact ⟨⟨ns,hb.sqL na h1,h2⟩,h3,hb _ _ nb h4⟩
theorem Spot9.same (h:Spot9 K H a b n) (s:Same H H'):Spot9 K H' a b n:=by
 obtain ⟨⟨ns,h1,h2⟩,h3,h4⟩:=h
 exact ⟨⟨ns,s.seq h1,h2⟩,h3,s _ _ h4⟩
theorem Spot9.put (h:Spot9 K H a b n) {q:Addr} {o:HO} (na:a≠q) (nb:b≠q):Spot9 K (upd H q o) a b n:=h.butl (But9.put H o) na nb
theorem kn_comp {W g:Addr} {ps:List Addr} {os:List Th} {gv:List (Str×Nat)} {p:Addr} {ss:List Str} {R:Addr→Hp→Prop} (hw:WAt K c H W l g ps os gv) (hp:SqL K H p (ss.map V.str)) (hs:∀x∈ss,(x,ixN9 x)∈gv) (hn:ss.length≤1000) (q:∀D H' ys,H D=none→Same H H'→H' D=some (.lst ys)→AtAll K H' (ss.map fun x=>thD (ixN9 x)) ys→R D H'):
  ∀D,H D=none→∃W':Nat→Nat→List V→Hp→Prop,(∃m,W' 0 m [] (upd H D (.lst [])))∧∀i m ys H,W' i m ys H→
   ((Itl K p).stop i H∧R D H)∨((Itl K p).go i H∧∀x H' (ox:List (Option V)),ox.length=1→(Itl K p).yld i H x H'→gName 0 x (ox++[V.ref W].map some) H' fun σ2 H2=>∃ox2,ox2.length=1∧σ2=ox2++[V.ref W].map some∧tTrue σ2 H2 fun b H3=>
    if b=true then tCall (spKn K c) [] E0 (tCons (tVar 1) (tCons (tVar 0) tNil)) σ2 H3 fun v H4=>H4 D=some (.lst ys)∧ys.length < sizeLine∧∃m',m' < m∧W' (i+1) m' (ys++[v]) (upd H4 D (.lst (ys++[v]))) else ∃m',m' < m∧W' (i+1) m' ys H3):=by
 refine compG_one (vs:=[V.ref W]) (tc:=tTrue) (ss.map V.str).length (fun i=>(ss.map V.str).getD i .non) (fun _=>true) (fun i v H'=>At K H' (thD (ixN9 (ss.getD i ""))) v) (fun _ _ _ _ s z=>At.same s _ _ z) (by rw[List.length_map]; omega) (itl_stop hp) (itl_go hp) (itl_yld hp) (fun i H2 Q' hi s2 k=>k H2 (Same.refl _)) (fun j H1 D l' Q' hj _ s1 _ hDl k=>?_) fun D H1 ys hD s1 hl1 hP=>?_
 ·have hj':j < ss.length:=by rw[List.length_map] at hj; exact hj
  have e1:ss.getD j ""=ss[j]:=by rw[List.getD_eq_getElem?_getD,List.getElem?_eq_getElem hj']; rfl
  have e2:(ss.map V.str).getD j .non=.str ss[j]:=by rw[List.getD_eq_getElem?_getD,List.getElem?_map,List.getElem?_eq_getElem hj']; rfl
  rw[e1] at k
  rw[e2]
  exact ⟨_,rfl,_,rfl,W,l,g,ps,os,gv,ss[j],_,rfl,hw.same s1,hs _ (List.getElem_mem hj'),fun v hv=>k v H1 (Same.refl _) (At.wo hDl _ _ hv)⟩
 ·have hA:=(hP.mono (fun i v z=>At.same (wo_same H1 D) _ _ z)).at
  rw[List.filter_eq_self.mpr (fun _ _=>rfl),List.length_map,range_map ss "" (fun e=>thD (ixN9 e))] at hA
  exact q D H1 ys hD s1 hl1 hA
end
def clsN:List Str:=gcN.map (·.1)
theorem cls_f:∀j,j < 12→(nmN j,ixN9 (nmN j))∈gv0∧inV (.str (nmN j)) [.str "Thing",.str "Fault"]=decide (j < 2)∧decide (nmN j="Fault")=decide (j=1)∧decide (nmN j="UnboundFault")=decide (j=11)∧(2≤j→j < 11→ordN j=[ixN9 (nmN j),9,8])∧flatV (.str (nmN j))=true:=by decide +kernel
theorem cls_at {j:Nat} {v:V} (h:(clsN.map V.str)[j]?=some v):j < 12∧v=.str (nmN j):=by
 have hj:j < 12:=by have:=lt_of_some h; rw[List.length_map] at this; exact this
 refine ⟨hj,?_⟩
 rw[List.getElem?_map,clsN,List.getElem?_map,gcN_at j hj] at h
 cases h; rfl
def sApp:TS:=fun D0 σ H=>∃(q pr:Addr) (nm:Str) (v:V) (ys rvs:List V),σ[4]?=some (some (.ref pr))∧σ[6]?=some (some (.str nm))∧σ[7]?=some (some (.ref q))∧H q=some (.lst (v::ys))∧H pr=some (.lst rvs)∧rvs.length≤100∧∀p',H p'=none→D0.nx σ (upd (upd H p' (.lst [v,.str nm,.ref q])) pr (.lst (rvs++[.ref p'])))
def tUp (K:PySem.W.Frag):TE:=fun σ H Q=>∃(n:Int) (pr:Addr) (rvs:List V),σ[4]?=some (some (.ref pr))∧σ[9]?=some (some (.int n))∧H pr=some (.lst rvs)∧12≤rvs.length∧rvs.length≤100∧∀(j:Nat) v,rvs[j]?=some v→Q v H
theorem atI_some {α:Type} {xs:List α} {k:Int} (h0:0≤k) (h1:k < (xs.length:Nat)):∃(j:Nat) (v:α),xs[j]?=some v∧atI xs k=some v:=by
 obtain ⟨n,rfl⟩:∃n:Nat,k=(n:Int):=⟨k.toNat,by omega⟩
 have hn:n < xs.length:=by omega
 exact ⟨n,xs[n],List.getElem?_eq_getElem hn,atI_nat (List.getElem?_eq_getElem hn)⟩
section
variable {P:Program} {w:World} {K:PySem.W.Frag} {mg:Str→Option Value} {base:Heap} {f:Addr} {fd:FuncData} {c:ClD}
def spCls (K:PySem.W.Frag) (c:ClD):Sp:=fun vs H Q _=>∃(W l g a b pn:Addr) (ps ds:List Addr) (n:Nat) (nms:List Str),vs=[.ref W,.ref a,.ref b,.ref pn]∧WAt K c H W l g ps (os0 ds) gv0∧ds.length=12∧Spot9 K H a b n∧(∃o,H a=some o)∧n≤1000∧a≠l∧b≠l∧H pn=some (.lst (nms.map V.str))∧pn≠l∧pn≠b∧nms.length=12∧(∀x∈nms,x.length≤100)∧
 ∀p rvs H' ps' os' B n',H p=none→BtS [l,b] H H'→WAt K c H' W l g ps' os' gv0→ClO os' B→os'.length=B→Spot9 K H' a b n'→n'≤n+10→H' p=some (.lst rvs)→rvs.length+8=B→RwsOk K H' os' [l,b,p] rvs→Q (.ref p) H'
theorem scCls:FnScope ["_law_world","_law_cells","_law_spot","_law_names_here","_law_rows","_law_faults","_law_name","_law_order","_law_k","_law_n","_law_up","_law_found","_law_value"] ["_law_world","_law_cells","_law_spot","_law_names_here"] (defScope sCls):=⟨rfl,rfl,rfl,by decide +kernel,rfl,by decide +kernel,by decide +kernel⟩
theorem ok_Cls (g:Glb9 mg) (F:Fun K "_law_classes" "_law_classes" sCls f fd) (dK:Def P w K mg base "known" ["world","name"] 1 (spKn K c)) (dCe:Def P w K mg base "_law_cell" ["_law_cells","_law_spot"] 1 (spCell9 K)) (dO:Def P w K mg base "order_of" ["world","elders"] 5 (spOrd K c)) (dC:Def P w K mg base "class_of" ["world","name","order","fields"] 4 (spCO K c)):FnOk P w K mg base CX0 6 f fd ["_law_world","_law_cells","_law_spot","_law_names_here"] (spCls K c):=by
 refine F.okI scCls (fun vs H Q E h=>?_) (fun cdv A outer s H vs Q E hr h=>?_)
 ·obtain ⟨_,_,_,_,_,_,_,_,_,_,rfl,_⟩:=h; rfl
 obtain ⟨W,l,gd,a,b,pn,ps,ds,n,nms,rfl,hw,hds,hsp,hao,hn,nal,nbl,hpn,npl,npb,lnm,hnm,q⟩:=h
 refine ⟨_,(pss_cons (ps_set (i:=4) scCls.nd rfl (Or.inl rfl) (pe_lst pa_nil))
   (pss_cons (ps_set (i:=5) scCls.nd rfl (Or.inl rfl) (pe_lst (pa_cons pe_str (pa_cons pe_str (pa_cons pe_str (pa_cons pe_str (pa_cons pe_str (pa_cons pe_str (pa_cons pe_str (pa_cons pe_str pa_nil))))))))))
   (pss_cons (ps_set (i:=5) scCls.nd rfl (Or.inl rfl) (pe_op op_cat (pv 5) (pe_lst (pa_cons pe_str (pa_cons pe_str (pa_cons pe_str pa_nil))))))
   (pss_cons (ps_for PassesOwn.never rfl (pi_list (pe_op op_cat (pe_lst (pa_cons pe_str pa_nil)) (pv 5))) (pg_name (i:=6) scCls.nd rfl (Or.inl rfl)) (pss_cons (.mk (L2.ps_setCompG (iy:=7) (cl:=[("_law_world",s.heap.objs.size+1)]) (Xs:=["_law_one"]) (Nf:=["_law_world"]) (js:=[0]) ?k1 rfl (LI.out (pi_list (pe_lst (pa_cons (pv 6) (pa_cons pe_str (pa_cons pe_str pa_nil)))))) (fun C s0 H0 fp=>LG.out (pg_name (i:=0) (show (["_law_one","_law_world"]:List Str).Nodup by decide +kernel) rfl (Or.inl rfl))) (fun C s0 H0 fp=>pts_nil) (fun C s0 H0 fp=>LE.out (L3.pe_def dK hr (by decide) rfl (pa_cons (pv 1) (pa_cons (pv 0) pa_nil)))) scCls.nd rfl (Or.inl rfl)))
   (pss_cons (ps_if (pt_cmpR op_in_seq (pv 6) (pe_tup (pa_cons pe_str (pa_cons pe_str pa_nil))) rfl) (pss_one (ps_set (i:=7) scCls.nd rfl (Or.inl rfl) (pe_slice sl_list (.mk (L2.pe_compG (cl:=[("_law_world",s.heap.objs.size+1)]) (Xs:=["_law_one"]) (Nf:=["_law_world"]) (js:=[0]) ?k2 rfl (LI.out (pi_list (pe_lst (pa_cons (pv 6) (pa_cons pe_str pa_nil))))) (fun C s0 H0 fp=>LG.out (pg_name (i:=0) (show (["_law_one","_law_world"]:List Str).Nodup by decide +kernel) rfl (Or.inl rfl))) (fun C s0 H0 fp=>pts_nil) (fun C s0 H0 fp=>LE.out (L3.pe_def dK hr (by decide) rfl (pa_cons (pv 1) (pa_cons (pv 0) pa_nil)))))) po_none (po_some (pe_op op_add pe_int (pe_callTy call_int1 rfl g.nInt b9Int (pa_cons (pe_cmpR op_eq (pv 6) pe_str (nomark _)) pa_nil))))))) pss_nil)
   (pss_cons (ps_if (pt_cmpR op_eq (pv 6) pe_str (nomark _)) (pss_one (ps_expr (pe_bm PySem.F.plainAttrs_list PySem.F.slot_list_insert PySem.F.type_list_insert mt_insert1 (pv 7) (pa_cons pe_int (pa_cons (L3.pe_def dK hr (by decide) rfl (pa_cons (pv 0) (pa_cons pe_str pa_nil))) pa_nil))))) pss_nil)
   (pss_one (ps_imp (t':=sApp) (ps_expr (pe_bm PySem.F.plainAttrs_list PySem.F.slot_list_append PySem.F.type_list_append mt_append (pv 4) (pa_cons (pe_lst (pa_cons (pe_ix (r:=rIxL K) ix_list (pv 7) pe_int (fun _ _=>rfl)) (pa_cons (pv 6) (pa_cons (pv 7) pa_nil)))) pa_nil))) ?ap))))))
   (pss_cons (ps_for PassesOwn.never rfl (pi_range1 rfl g.nRange (pa_cons (pe_op op_mod (L3.pe_def dCe hr (by decide) rfl (pa_cons (pv 1) (pa_cons (pv 2) pa_nil))) pe_int) pa_nil)) (pg_name (i:=8) scCls.nd rfl (Or.inl rfl)) (pss_cons (ps_set (i:=9) scCls.nd rfl (Or.inl rfl) (L3.pe_def dCe hr (by decide) rfl (pa_cons (pv 1) (pa_cons (pv 2) pa_nil))))
   (pss_cons (ps_set (i:=10) scCls.nd rfl (Or.inl rfl) (le_imp (t':=tUp K) (pe_ifExp (pt_cmpR op_eq (pe_op op_mod (pe_op op_fdiv (pv 9) pe_int) pe_int) pe_int (nomark _)) (pe_ix (r:=rIxL K) ix_list (pv 4) (pe_op op_mod (pv 9) (pe_callB call_len_seq rfl g.nLen b9Len (pa_cons (pv 4) pa_nil))) (fun _ _=>rfl)) (pe_ix (r:=rIxL K) ix_list (pv 4) (pe_op op_sub (pe_op op_sub (pe_callB call_len_seq rfl g.nLen b9Len (pa_cons (pv 4) pa_nil)) pe_int) (pe_op op_mod (pe_op op_fdiv (pv 9) pe_int) (pe_callB (call_min2 rfl) rfl g.nMin b9Min (pa_cons pe_int (pa_cons (pe_callB call_len_seq rfl g.nLen b9Len (pa_cons (pv 4) pa_nil)) pa_nil))))) (fun _ _=>rfl))) ?up))
   (pss_cons (ps_set (i:=11) scCls.nd rfl (Or.inl rfl) (L3.pe_def dO hr (by decide) rfl (pa_cons (pv 0) (pa_cons (L3.pe_tupF (pa_cons (pe_ix (r:=rIxL K) ix_list (pv 10) pe_int (fun _ _=>rfl)) pa_nil)) pa_nil))))
   (pss_cons (ps_set (i:=12) scCls.nd rfl (Or.inl rfl) (L3.pe_def dC hr (by decide) rfl (pa_cons (pv 0) (pa_cons (pe_ix (r:=rIxL K) ix_list (pv 3) (pe_op op_mod (pe_op op_fdiv (pv 9) pe_int) pe_int) (fun _ _=>rfl)) (pa_cons (pe_nth (pv 11)) (pa_cons (.mk L2.pe_dnewK) pa_nil))))))
   (pss_one (ps_expr (pe_bm PySem.F.plainAttrs_list PySem.F.slot_list_append PySem.F.type_list_append mt_append (pv 4) (pa_cons (pe_lst (pa_cons (pv 12) (pa_cons (pe_ix (r:=rIxL K) ix_list (pv 3) (pe_op op_mod (pe_op op_fdiv (pv 9) pe_int) pe_int) (fun _ _=>rfl)) (pa_cons (pe_op op_cat (pe_lst (pa_cons (pv 12) pa_nil)) (pe_ix (r:=rIxL K) ix_list (pv 10) pe_int (fun _ _=>rfl))) pa_nil)))) pa_nil)))))))))
   (pss_one (ps_ret (pv 4)))))))),?main⟩
 case k1=>
  refine ⟨rfl,by decide +kernel,rfl,by decide +kernel,fun y c h=>?_,fun y hy=>?_,rfl,fun j y h=>?_⟩
  ·obtain ⟨rfl,rfl⟩:=look1 h; rfl
  ·have hy':([(".0",.local),("_law_one",.local),("known",.globalImplicit),("_law_world",.cell)]:List (Str×NameKind)).lookup y=some .cell∨([(".0",.local),("_law_one",.local),("known",.globalImplicit),("_law_world",.cell)]:List (Str×NameKind)).lookup y=some .free:=hy
   rcases hy' with z | z
   ·have m:=PySem.mem_of_lookup z
    simp at m
    subst m
    exact ⟨_,rfl⟩
   ·have m:=PySem.mem_of_lookup z
    simp at m
  ·match j,h with
   | 0,h=>cases h; exact ⟨0,rfl,rfl,rfl,.inl rfl⟩
   | j+1,h=>simp at h
 case k2=>
  refine ⟨rfl,by decide +kernel,rfl,by decide +kernel,fun y c h=>?_,fun y hy=>?_,rfl,fun j y h=>?_⟩
  ·obtain ⟨rfl,rfl⟩:=look1 h; rfl
  ·have hy':([(".0",.local),("_law_one",.local),("known",.globalImplicit),("_law_world",.cell)]:List (Str×NameKind)).lookup y=some .cell∨([(".0",.local),("_law_one",.local),("known",.globalImplicit),("_law_world",.cell)]:List (Str×NameKind)).lookup y=some .free:=hy
   rcases hy' with z | z
   ·have m:=PySem.mem_of_lookup z
    simp at m
    subst m
    exact ⟨_,rfl⟩
   ·have m:=PySem.mem_of_lookup z
    simp at m
  ·match j,h with
   | 0,h=>cases h; exact ⟨0,rfl,rfl,rfl,.inl rfl⟩
   | j+1,h=>simp at h
 case ap=>
  rintro D0 σ H ⟨q,pr,nm,v,ys,rvs,e4,e6,e7,hq,hr,hl,qq⟩
  refine ⟨_,e4,.inl ⟨rfl,_,SqL.of hr⟩,_,e7,q,_,_,v,rfl,rfl,SqL.of hq,atI_nat (j:=0) rfl,_,e6,_,e7,by show 3≤sizeLine; decide,fun p' hp'=>?_⟩
  exact ⟨pr,_,.ref p',rfl,rfl,same_new hp' _ _ _ hr,small1000 (by omega),qq p' hp'⟩
 case up=>
  rintro σ H Q ⟨n,pr,rvs,e4,e9,hr,h12,h100,qq⟩
  refine ⟨_,e9,_,_,rfl,rfl,⟨by decide,by decide⟩,_,_,rfl,rfl,(show (0:Int) < _ by decide),rfl,_,rfl,ite_b9 (fun _=>?_) (fun _=>?_)⟩
  ·have hp:(0:Int) < (rvs.length:Nat):=by omega
   obtain ⟨m0,m1⟩:=emod_in (a:=n) hp
   obtain ⟨j,v,e1,e2⟩:=atI_some m0 m1
   exact ⟨_,e4,_,e9,_,e4,pr,_,rfl,.inl (SqL.of hr),_,_,rfl,rfl,hp,pr,_,_,v,rfl,rfl,SqL.of hr,e2,qq j v e1⟩
  ·have hm:(if ((rvs.length:Nat):Int) < 3 then ((rvs.length:Nat):Int) else 3)=3:=if_neg (by omega)
   obtain ⟨m0,m1⟩:=emod_in (a:=n / 40) (b:=3) (by decide)
   obtain ⟨j,v,e1,e2⟩:=atI_some (xs:=rvs) (k:=((rvs.length:Nat):Int) - 1 - n / 40 % 3) (by omega) (by omega)
   refine ⟨_,e4,_,e4,pr,_,rfl,.inl (SqL.of hr),_,_,rfl,rfl,_,e9,_,_,rfl,rfl,⟨by decide,by decide⟩,_,e4,pr,_,rfl,.inl (SqL.of hr),_,_,rfl,?_⟩
   rw[hm]
   exact ⟨_,_,rfl,rfl,(show (0:Int) < _ by decide),_,_,rfl,rfl,pr,_,_,v,rfl,rfl,SqL.of hr,e2,qq j v e1⟩
 case main=>
  refine ⟨Nat.zero_le _,fun pr hpr=>?_⟩
  have s1:Same H (upd H pr (.lst [])):=same_new hpr _
  have r1:upd H pr (.lst []) pr=some (.lst []):=upd_same
  revert s1 r1
  generalize upd H pr (.lst [])=H1
  intro s1 r1
  refine ⟨by show 8≤sizeLine; decide,fun pf1 hpf1=>?_⟩
  have s2:=s1.trans (same_new hpf1 (.lst [.str "Fault",.str "NameFault",.str "KindFault",.str "NoughtFault",.str "GreatFault",.str "FieldFault",.str "OrderFault",.str "EndFault"]))
  have r2:=same_new hpf1 (.lst [.str "Fault",.str "NameFault",.str "KindFault",.str "NoughtFault",.str "GreatFault",.str "FieldFault",.str "OrderFault",.str "EndFault"]) _ _ r1
  have f2:upd H1 pf1 (.lst [.str "Fault",.str "NameFault",.str "KindFault",.str "NoughtFault",.str "GreatFault",.str "FieldFault",.str "OrderFault",.str "EndFault"]) pf1=some (.lst [.str "Fault",.str "NameFault",.str "KindFault",.str "NoughtFault",.str "GreatFault",.str "FieldFault",.str "OrderFault",.str "EndFault"]):=upd_same
  revert s2 r2 f2
  generalize upd H1 pf1 (.lst [.str "Fault",.str "NameFault",.str "KindFault",.str "NoughtFault",.str "GreatFault",.str "FieldFault",.str "OrderFault",.str "EndFault"])=H2
  intro s2 r2 f2
  refine ⟨_,rfl,by show 3≤sizeLine; decide,fun pf2 hpf2=>?_⟩
  have s3:=s2.trans (same_new hpf2 (.lst [.str "ShutFault",.str "DeepFault",.str "UnboundFault"]))
  have r3:=same_new hpf2 (.lst [.str "ShutFault",.str "DeepFault",.str "UnboundFault"]) _ _ r2
  have f3:=same_new hpf2 (.lst [.str "ShutFault",.str "DeepFault",.str "UnboundFault"]) _ _ f2
  have g3:upd H2 pf2 (.lst [.str "ShutFault",.str "DeepFault",.str "UnboundFault"]) pf2=some (.lst [.str "ShutFault",.str "DeepFault",.str "UnboundFault"]):=upd_same
  revert s3 r3 f3 g3
  generalize upd H2 pf2 (.lst [.str "ShutFault",.str "DeepFault",.str "UnboundFault"])=H3
  intro s3 r3 f3 g3
  refine ⟨pf1,pf2,_,_,rfl,rfl,f3,g3,by show 8+3≤sizeLine; decide,fun pf hpf=>?_⟩
  have s4:=s3.trans (same_new hpf (.lst ([.str "Fault",.str "NameFault",.str "KindFault",.str "NoughtFault",.str "GreatFault",.str "FieldFault",.str "OrderFault",.str "EndFault"]++[.str "ShutFault",.str "DeepFault",.str "UnboundFault"])))
  have r4:=same_new hpf (.lst ([.str "Fault",.str "NameFault",.str "KindFault",.str "NoughtFault",.str "GreatFault",.str "FieldFault",.str "OrderFault",.str "EndFault"]++[.str "ShutFault",.str "DeepFault",.str "UnboundFault"])) _ _ r3
  have f4:upd H3 pf (.lst ([.str "Fault",.str "NameFault",.str "KindFault",.str "NoughtFault",.str "GreatFault",.str "FieldFault",.str "OrderFault",.str "EndFault"]++[.str "ShutFault",.str "DeepFault",.str "UnboundFault"])) pf=some (.lst ([.str "Fault",.str "NameFault",.str "KindFault",.str "NoughtFault",.str "GreatFault",.str "FieldFault",.str "OrderFault",.str "EndFault"]++[.str "ShutFault",.str "DeepFault",.str "UnboundFault"])):=upd_same
  revert s4 r4 f4
  generalize upd H3 pf (.lst ([.str "Fault",.str "NameFault",.str "KindFault",.str "NoughtFault",.str "GreatFault",.str "FieldFault",.str "OrderFault",.str "EndFault"]++[.str "ShutFault",.str "DeepFault",.str "UnboundFault"]))=H4
  intro s4 r4 f4
  refine ⟨by show 1≤sizeLine; decide,fun pt hpt=>?_⟩
  have s5:=s4.trans (same_new hpt (.lst [.str "Thing"]))
  have r5:=same_new hpt (.lst [.str "Thing"]) _ _ r4
  have f5:=same_new hpt (.lst [.str "Thing"]) _ _ f4
  have g5:upd H4 pt (.lst [.str "Thing"]) pt=some (.lst [.str "Thing"]):=upd_same
  revert s5 r5 f5 g5
  generalize upd H4 pt (.lst [.str "Thing"])=H5
  intro s5 r5 f5 g5
  refine ⟨_,rfl,pt,pf,_,_,rfl,rfl,g5,f5,by show 1+(8+3)≤sizeLine; decide,fun pc hpc=>?_⟩
  have s6:=s5.trans (same_new hpc (.lst ([.str "Thing"]++([.str "Fault",.str "NameFault",.str "KindFault",.str "NoughtFault",.str "GreatFault",.str "FieldFault",.str "OrderFault",.str "EndFault"]++[.str "ShutFault",.str "DeepFault",.str "UnboundFault"]))))
  have r6:=same_new hpc (.lst ([.str "Thing"]++([.str "Fault",.str "NameFault",.str "KindFault",.str "NoughtFault",.str "GreatFault",.str "FieldFault",.str "OrderFault",.str "EndFault"]++[.str "ShutFault",.str "DeepFault",.str "UnboundFault"]))) _ _ r5
  have c6:upd H5 pc (.lst ([.str "Thing"]++([.str "Fault",.str "NameFault",.str "KindFault",.str "NoughtFault",.str "GreatFault",.str "FieldFault",.str "OrderFault",.str "EndFault"]++[.str "ShutFault",.str "DeepFault",.str "UnboundFault"]))) pc=some (.lst (clsN.map V.str)):=upd_same
  have npc:pc≠pr:=fun y=>by rw[y,r5] at hpc; cases hpc
  revert s6 r6 c6
  generalize upd H5 pc (.lst ([.str "Thing"]++([.str "Fault",.str "NameFault",.str "KindFault",.str "NoughtFault",.str "GreatFault",.str "FieldFault",.str "OrderFault",.str "EndFault"]++[.str "ShutFault",.str "DeepFault",.str "UnboundFault"])))=H6
  intro s6 r6 c6
  have nlr:l≠pr:=fun y=>by have:=hw.t; rw[y,hpr] at this; cases this
  have nbr:b≠pr:=fun y=>by have:=hsp.spot; rw[y,hpr] at this; cases this
  refine ⟨pc,rfl,⟨_,SqL.of c6⟩,for_list (K:=K) (a:=pc) (xs:=clsN.map V.str) (fun i σ H'=>(∃o6 o7,σ=[some (.ref W),some (.ref a),some (.ref b),some (.ref pn),some (.ref pr),some (.ref pf),o6,o7,none,none,none,none,none])∧Same H H'∧H' pc=some (.lst (clsN.map V.str))∧∃rvs,H' pr=some (.lst rvs)∧rvs.length=i∧RwsOk K H' (os0 ds) [l,b,pr] rvs) ⟨⟨_,_,rfl⟩,s6,c6,[],r6,rfl,fun j v e=>(by simp at e)⟩ (fun i σ H' _ h=>SqL.of h.2.2.1) ?t1 ?s1⟩
  case t1=>
   rintro i u σ H' hu ⟨⟨o6,o7,rfl⟩,sH,hc,rvs,hr,lr,hR⟩
   obtain ⟨hi,rfl⟩:=cls_at hu
   obtain ⟨k1,k2,k3,k4,k5,k6⟩:=cls_f i hi
   have hwH:=hw.same sH
   have fin:∀(q:Addr) (ys:List V) (H1:Hp),Same H' H1→H' q=none→H1 q=some (.lst ys)→AtAll K H1 ((ordN i).map thD) ys→∃v ys',ys=v::ys'∧∀p',H1 p'=none→(∃o6 o7,[some (V.ref W),some (.ref a),some (.ref b),some (.ref pn),some (.ref pr),some (.ref pf),some (.str (nmN i)),some (.ref q),none,none,none,none,none]=[some (.ref W),some (.ref a),some (.ref b),some (.ref pn),some (.ref pr),some (.ref pf),o6,o7,none,none,none,none,none])∧Same H (upd (upd H1 p' (.lst [v,.str (nmN i),.ref q])) pr (.lst (rvs++[.ref p'])))∧upd (upd H1 p' (.lst [v,.str (nmN i),.ref q])) pr (.lst (rvs++[.ref p'])) pc=some (.lst (clsN.map V.str))∧∃rvs',upd (upd H1 p' (.lst [v,.str (nmN i),.ref q])) pr (.lst (rvs++[.ref p'])) pr=some (.lst rvs')∧rvs'.length=i+1∧RwsOk K (upd (upd H1 p' (.lst [v,.str (nmN i),.ref q])) pr (.lst (rvs++[.ref p']))) (os0 ds) [l,b,pr] rvs':=by
    intro q ys H1 sq nq hq hA
    obtain ⟨⟨rs,er⟩,_⟩:=ordN_ok i hi
    rw[er,List.map_cons] at hA
    obtain ⟨v,ys',rfl,hv,hA'⟩:=AtAll_cons.mp hA
    refine ⟨v,ys',rfl,fun p' hp'=>⟨⟨_,_,rfl⟩,?_⟩⟩
    have s7:=sq.trans (same_new hp' (.lst [v,.str (nmN i),.ref q]))
    have q7:=same_new hp' (.lst [v,.str (nmN i),.ref q]) _ _ hq
    have p7:upd H1 p' (.lst [v,.str (nmN i),.ref q]) p'=some (.lst [v,.str (nmN i),.ref q]):=upd_same
    have A7:=AtAll.same (same_new hp' (.lst [v,.str (nmN i),.ref q])) _ _ hA
    have v7:=At.same (same_new hp' (.lst [v,.str (nmN i),.ref q])) _ _ hv
    have np0:H' p'=none:=none_of sq hp'
    revert s7 q7 p7 A7 v7
    generalize upd H1 p' (.lst [v,.str (nmN i),.ref q])=H7
    intro s7 q7 p7 A7 v7
    have r7:=s7 _ _ hr
    have kp:KpL [l,b,pr] H7 (upd H7 pr (.lst (rvs++[.ref p']))):=KpL.put (by simp) r7
    have nS:∀p,H' p=none→p ∉ [l,b,pr]:=fun p hp m=>by
     simp only [List.mem_cons,List.not_mem_nil,or_false] at m
     rcases m with rfl | rfl | rfl
     ·have:=hwH.t; rw[hp] at this; cases this
     ·have:=sH _ _ hsp.spot; rw[hp] at this; cases this
     ·rw[hp] at hr; cases hr
    obtain ⟨dd,ed⟩:=os0_at hds hi
    refine ⟨same_upd (sH.trans s7) hpr _,by rw[upd_ne npc]; exact s7 _ _ hc,_,upd_same,by rw[List.length_append,lr]; rfl,((hR.keep (Same.kpl s7) (KpO.refl _)).keep kp (KpO.refl _)).snoc (RwOk.keep ⟨nmN i,ordN i,dd,p',q,v,v::ys',rfl,ed,p7,v7,q7,?_,nS p' np0,nS q nq⟩ kp (KpO.refl _)) (by rw[lr])⟩
    rw[er]; exact A7
   have g3:∀x∈[nmN i,"Fault","Thing"],(x,ixN9 x)∈gv0:=fun x hx=>by
    simp only [List.mem_cons,List.not_mem_nil,or_false] at hx
    rcases hx with rfl | rfl | rfl
    ·exact k1
    ·decide +kernel
    ·decide +kernel
   have g2:∀x∈[nmN i,"Thing"],(x,ixN9 x)∈gv0:=fun x hx=>by
    simp only [List.mem_cons,List.not_mem_nil,or_false] at hx
    rcases hx with rfl | rfl
    ·exact k1
    ·decide +kernel
   refine ⟨_,rfl,by show 3≤sizeLine; decide,fun pl hpl=>⟨pl,rfl,⟨_,SqL.of upd_same⟩,[.ref W],⟨rfl,fun j i h=>?_⟩,kn_comp (c:=c) (ss:=[nmN i,"Fault","Thing"]) (hwH.same (same_new hpl _)) (SqL.of upd_same) g3 (by show 3≤1000; decide) fun D H1 ys hD sD hl1 hA=>?_⟩⟩
   ·match j,h with
    | 0,h=>cases h; exact ⟨_,rfl,rfl⟩
    | j+1,h=>simp at h
   have nD:H' D=none:=none_of (same_new hpl _) hD
   have s1':Same H' H1:=(same_new hpl _).trans sD
   clear sD hD
   refine ⟨_,rfl,by show 2≤sizeLine; decide,fun tp htp=>⟨tp,_,rfl,.inr (SqT.of upd_same),k6,rfl,_,rfl,?_⟩⟩
   have s2':=s1'.trans (same_new htp (.tup [.str "Thing",.str "Fault"]))
   have l2':=same_new htp (.tup [.str "Thing",.str "Fault"]) _ _ hl1
   have A2':=AtAll.same (same_new htp (.tup [.str "Thing",.str "Fault"])) _ _ hA
   revert s2' l2' A2'
   generalize upd H1 tp (.tup [.str "Thing",.str "Fault"])=H2'
   intro s2' l2' A2'
   rw[if_neg Bool.false_ne_true,k2]
   have e9:ixN9 "Fault"=9:=by decide +kernel
   have e8:ixN9 "Thing"=8:=by decide +kernel
   by_cases hi2:i < 2
   ·rw[decide_eq_true hi2]
    refine iteT ⟨_,rfl,by show 2≤sizeLine; decide,fun pl2 hpl2=>⟨pl2,rfl,⟨_,SqL.of upd_same⟩,[.ref W],⟨rfl,fun j i h=>?_⟩,kn_comp (c:=c) (ss:=[nmN i,"Thing"]) ((hwH.same s2').same (same_new hpl2 _)) (SqL.of upd_same) g2 (by show 2≤1000; decide) fun D3 H3 ys3 hD3 sD3 hl3 hA3=>?_⟩⟩
    ·match j,h with
     | 0,h=>cases h; exact ⟨_,rfl,rfl⟩
     | j+1,h=>simp at h
    have s3':=s2'.trans ((same_new hpl2 _).trans sD3)
    clear sD3
    refine ⟨_,rfl,rfl,.inr ⟨_,rfl,?_⟩⟩
    rw[decS,k3]
    refine ⟨_,_,rfl,rfl,_,rfl,D3,_,rfl,SqL.of hl3,fun p4 hp4=>?_⟩
    have s4':=s3'.trans (same_new hp4 (.lst (cutV ys3 none (some (1+if decide (i=1)=true then 1 else 0)))))
    have l4':upd H3 p4 (.lst (cutV ys3 none (some (1+if decide (i=1)=true then 1 else 0)))) p4=some (.lst (cutV ys3 none (some (1+if decide (i=1)=true then 1 else 0)))):=upd_same
    have np4:H' p4=none:=none_of s3' hp4
    have A4':=AtAll.same (same_new hp4 (.lst (cutV ys3 none (some (1+if decide (i=1)=true then 1 else 0))))) _ _ hA3
    revert s4' l4' A4'
    generalize upd H3 p4 (.lst (cutV ys3 none (some (1+if decide (i=1)=true then 1 else 0))))=H4'
    intro s4' l4' A4'
    obtain ⟨y0,r0,e0,hy0,hr0⟩:=AtAll_cons.mp A4'
    obtain ⟨y1,r1',e1',hy1,hr1⟩:=AtAll_cons.mp hr0
    have e2':=AtAll_nil.mp hr1
    subst e1' e2'
    subst e0
    have ent:∃ys',cutV [y0,y1] none (some (1+if decide (i=1)=true then 1 else 0))=ys'∧AtAll K H4' ((ordN i).map thD) ys':=by
     by_cases h1:i=1
     ·subst h1
      refine ⟨_,rfl,?_⟩
      exact AtAll2 hy0 hy1
     ·have h0:i=0:=by omega
      subst h0
      refine ⟨_,rfl,?_⟩
      exact AtAll.one1 hy0
    obtain ⟨ys',ey,hA4⟩:=ent
    rw[ey] at l4'
    obtain ⟨vv,yt,rfl,qf⟩:=fin p4 ys' H4' s4' np4 l4' hA4
    refine ⟨_,rfl,rfl,_,rfl,?_⟩
    rw[decS,k4,decide_eq_false (by omega)]
    exact iteF ⟨p4,pr,nmN i,vv,yt,rvs,rfl,rfl,rfl,l4',s4' _ _ hr,by omega,qf⟩
   ·rw[decide_eq_false hi2]
    refine iteF ⟨_,rfl,rfl,_,rfl,?_⟩
    rw[decS,k4]
    by_cases h11:i=11
    ·rw[decide_eq_true h11]
     subst h11
     obtain ⟨y0,r0,rfl,hy0,hr0⟩:=AtAll_cons.mp A2'
     have lr0:=hr0.len
     refine iteT ⟨_,rfl,.inl ⟨rfl,_,SqL.of l2'⟩,_,rfl,W,l,gd,ps,os0 ds,gv0,"NameFault",10,rfl,hwH.same s2',by decide +kernel,fun vn hvn=>⟨D,y0,r0,vn,rfl,rfl,l2',by rw[lr0]; decide,?_⟩⟩
     have fx5:Fx H2' (upd H2' D (.lst (y0::vn::r0))):=Fx.put l2' rfl
     have s5':Same H' (upd H2' D (.lst (y0::vn::r0))):=same_upd s2' nD _
     have l5':upd H2' D (.lst (y0::vn::r0)) D=some (.lst (y0::vn::r0)):=upd_same
     have A5':AtAll K (upd H2' D (.lst (y0::vn::r0))) ((ordN 11).map thD) (y0::vn::r0):=AtAll_cons.mpr ⟨_,_,rfl,At.fx fx5 _ _ hy0,AtAll_cons.mpr ⟨_,_,rfl,At.fx fx5 _ _ hvn,AtAll.fx fx5 _ _ hr0⟩⟩
     obtain ⟨vv,yt,ey,qf⟩:=fin D _ _ s5' nD l5' A5'
     exact ⟨D,pr,_,vv,yt,rvs,rfl,rfl,rfl,l5'.trans (congrArg (fun l=>some (HO.lst l)) ey),s5' _ _ hr,by omega,qf⟩
    ·rw[decide_eq_false h11]
     have A6':AtAll K H2' ((ordN i).map thD) ys:=by
      rw[k5 (by omega) (by omega)]
      exact A2'
     obtain ⟨vv,yt,rfl,qf⟩:=fin D ys H2' s2' nD l2' A6'
     exact iteF ⟨D,pr,_,vv,yt,rvs,rfl,rfl,rfl,l2',s2' _ _ hr,by omega,qf⟩
  case s1=>
   rintro σ H7 ⟨⟨o6,o7,rfl⟩,sH,hc,rvs0,hr0,lr0,hR0⟩
   have lr0:rvs0.length=12:=lr0
   refine ⟨_,rfl,_,rfl,a,b,n,rfl,hsp.same sH,by omega,fun ci H8 c0 c1 b8 hb8=>⟨_,_,rfl,rfl,(show (0:Int) < _ by decide),_,rfl,?_⟩⟩
   obtain ⟨m0,m1⟩:=emod_in (a:=ci) (b:=7) (by decide)
   have sp8:=(hsp.same sH).go b8 hb8
   have w8:WAt K c H8 W l gd ps (os0 ds) gv0:=(hw.same sH).butl (sH _ _ hsp.spot) (Ne.symm nbl) b8
   have B8:BtS [l,b] H H8:=(Same.bts sH).trans (b8.bts (by simp))
   have r8:=b8 _ _ (Ne.symm nbr) hr0
   have R8:RwsOk K H8 (os0 ds) [l,b,pr] rvs0:=hR0.keep (b8.kpl (by simp) (sH _ _ hsp.spot)) (KpO.refl _)
   refine ⟨by omega,by omega,for_range (lo:=0) (n:=(ci % 7).toNat) (fun m σ H'=>(∃o6 o7 o8 o9 o10 o11 o12,σ=[some (.ref W),some (.ref a),some (.ref b),some (.ref pn),some (.ref pr),some (.ref pf),o6,o7,o8,o9,o10,o11,o12])∧∃ps' os' rvs,BtS [l,b] H H'∧WAt K c H' W l gd ps' os' gv0∧ClO os' (20+m)∧os'.length=20+m∧Spot9 K H' a b (n+1+m)∧H' pr=some (.lst rvs)∧rvs.length=12+m∧RwsOk K H' os' [l,b,pr] rvs) ⟨⟨_,_,_,_,_,_,_,rfl⟩,ps,os0 ds,rvs0,B8,w8,ClO.start hds,by rw[os0_len (by omega),hds],sp8,r8,by omega,R8⟩ ?t2 ?s2⟩
   case s2=>
    rintro σ H' ⟨⟨o6,o7,o8,o9,o10,o11,o12,rfl⟩,ps',os',rvs,hB,hw',hC,hl',hsp',hr,lr,hR⟩
    exact ⟨_,rfl,q pr rvs H' ps' os' _ _ hpr hB hw' hC hl' hsp' (by omega) hr (by omega) hR⟩
   case t2=>
    clear r8 R8 w8 sp8 B8 b8 hb8
    rintro m σ H' hm ⟨⟨o6,o7,o8,o9,o10,o11,o12,rfl⟩,ps',os',rvs,hB,hw',hC,hl',hsp',hr,lr,hR⟩
    refine ⟨_,rfl,_,rfl,a,b,_,rfl,hsp',by omega,fun ni H1 n0 n1 b1 hb1=>?_⟩
    have hbl:H' b=some (.lst [.int ((n+1+m:Nat):Int)]):=hsp'.spot
    have sp1:=hsp'.go b1 hb1
    have w1:=hw'.butl hbl (Ne.symm nbl) b1
    have B1:=hB.trans (b1.bts (S:=[l,b]) (by simp))
    have r1:=b1 _ _ (Ne.symm nbr) hr
    have R1:=hR.keep (b1.kpl (S:=[l,b,pr]) (by simp) hbl) (KpO.refl _)
    clear hw' hsp' hr hR hB b1 hb1 hbl
    refine ⟨ni,pr,rvs,rfl,rfl,r1,by omega,by omega,fun j v hj=>?_⟩
    have hjl:=lt_of_some hj
    obtain ⟨nm,ns,d,p,q',x,ys,rfl,ho,hp,hx,hq,hA,np,nq⟩:=R1 j v hj
    obtain ⟨nm2,rest,d2,ho2,hnd,hle,_,hns⟩:=hC.kd (8+j) (by omega) (by omega)
    rw[ho] at ho2
    cases ho2
    refine ⟨_,rfl,_,rfl,p,_,_,x,rfl,rfl,SqL.of hp,atI_nat (j:=0) rfl,by show 1≤sizeLine; decide,fun t to ht hto=>?_⟩
    have s2:Same H1 (upd H1 t (.frz to (.tup [x]))):=same_new ht _
    refine ⟨W,l,gd,ps',os',gv0,_,8+j,nm,rest,d,rfl,w1.same s2,ho,hnd,by omega,At.newF ht (AtAll.one1 hx),⟨t,to,_,rfl,upd_same,hto⟩,fun fo H3 s23 afo=>?_⟩
    have s3:=s2.trans s23
    clear s2 s23
    have c12:(0:Int)≤ni / 120 % 12∧ni / 120 % 12 < 12:=emod_in (by decide)
    obtain ⟨jn,vn,ejn,ean⟩:=atI_some (xs:=nms.map V.str) (k:=ni / 120 % 12) c12.1 (by rw[List.length_map,lnm]; exact c12.2)
    obtain ⟨z,hz,rfl⟩:=List.mem_map.mp (List.mem_of_getElem? ejn)
    have pn1:H1 pn=some (.lst (nms.map V.str)):=B1 _ _ (by simp[npl,npb]) hpn
    have pn3:=s3 _ _ pn1
    refine ⟨_,rfl,_,rfl,_,rfl,_,_,rfl,rfl,⟨by decide,by decide⟩,_,_,rfl,rfl,(show (0:Int) < _ by decide),pn,_,_,_,rfl,rfl,SqL.of pn3,ean,_,rfl,1,_,_,rfl,afo,rfl,fun vo hvo=>?_⟩
    intro dn hdn
    have s4:Same H1 (upd H3 dn (.dK [])):=s3.trans (same_new hdn _)
    have d4:upd H3 dn (.dK []) dn=some (.dK []):=upd_same
    have vo4:=At.same (same_new hdn (.dK [])) _ _ hvo
    revert s4 d4 vo4
    generalize upd H3 dn (.dK [])=H4
    intro s4 d4 vo4
    refine ⟨W,l,gd,ps',os',gv0,z,vo,dn,(8+j)::rest,rfl,w1.same s4,by omega,vo4,by omega,d4,fun vv H5 pp dd hdd b5 w5 a5=>?_⟩
    have l4:=(w1.same s4).t
    have k5:KpL [l,b,pr] H1 H5:=(Same.kpl s4).trans (b5.kpl (by simp) l4)
    have B5:BtS [l,b] H H5:=(B1.trans (Same.bts s4)).trans (b5.bts (by simp))
    have r5:=b5 _ _ (Ne.symm nlr) (s4 _ _ r1)
    have sp5:=(sp1.same s4).butl b5 nal nbl
    have C5:=hC.more hl' (by omega) (nm:=z) (d:=dd) ho (by omega) (hnm z hz)
    have R5:=R1.keep k5 (KpO.snoc os' (.kd z (os'.length::(8+j)::rest) dd))
    have p5:=k5.l _ _ np hp
    have q5:=k5.l _ _ nq hq
    have A5:=AtAll.fx k5.f _ _ hA
    have pn5:=b5 _ _ npl (s4 _ _ pn1)
    clear k5 w1 sp1 B1 r1 R1 s4 s3 b5 l4 d4 vo4 afo hvo pn3 pn1 hp hq hA hx
    refine ⟨_,rfl,.inl ⟨rfl,_,SqL.of r5⟩,_,rfl,_,rfl,_,rfl,_,_,rfl,rfl,⟨by decide,by decide⟩,_,_,rfl,rfl,(show (0:Int) < _ by decide),pn,_,_,_,rfl,rfl,SqL.of pn5,ean,_,rfl,by show 1≤sizeLine; decide,fun p6 hp6=>?_⟩
    have s6:Same H5 (upd H5 p6 (.lst [vv])):=same_new hp6 _
    have l6:upd H5 p6 (.lst [vv]) p6=some (.lst [vv]):=upd_same
    revert s6 l6
    generalize upd H5 p6 (.lst [vv])=H6'
    intro s6 l6
    refine ⟨_,rfl,p,_,_,.ref q',rfl,rfl,SqL.of (s6 _ _ p5),atI_nat (j:=2) rfl,p6,q',_,_,rfl,rfl,l6,s6 _ _ q5,small (by rw[List.length_singleton,A5.len,List.length_map]; omega),fun p7 hp7=>?_⟩
    have s7:Same H5 (upd H6' p7 (.lst ([vv]++ys))):=s6.trans (same_new hp7 _)
    have l7:upd H6' p7 (.lst ([vv]++ys)) p7=some (.lst (vv::ys)):=upd_same
    have n7:H5 p7=none:=none_of s6 hp7
    revert s7 l7
    generalize upd H6' p7 (.lst ([vv]++ys))=H7'
    intro s7 l7
    refine ⟨by show 3≤sizeLine; decide,fun p8 hp8=>?_⟩
    have s8:Same H5 (upd H7' p8 (.lst [vv,.str z,.ref p7])):=s7.trans (same_new hp8 _)
    have l8:upd H7' p8 (.lst [vv,.str z,.ref p7]) p8=some (.lst [vv,.str z,.ref p7]):=upd_same
    have o8:=same_new hp8 (.lst [vv,.str z,.ref p7]) _ _ l7
    have n8:H5 p8=none:=none_of s7 hp8
    revert s8 l8 o8
    generalize upd H7' p8 (.lst [vv,.str z,.ref p7])=H8'
    intro s8 l8 o8
    have r8:=s8 _ _ r5
    have kp:KpL [l,b,pr] H8' (upd H8' pr (.lst (rvs++[.ref p8]))):=KpL.put (by simp) r8
    have nS:∀p,H5 p=none→p ∉ [l,b,pr]:=fun p hp m=>by
     simp only [List.mem_cons,List.not_mem_nil,or_false] at m
     rcases m with rfl | rfl | rfl
     ·have:=w5.t; rw[hp] at this; cases this
     ·have:=sp5.spot; rw[hp] at this; cases this
     ·rw[hp] at r5; cases r5
    refine ⟨pr,rvs,.ref p8,rfl,rfl,r8,small1000 (by omega),⟨_,_,_,_,_,_,_,rfl⟩,ps'++[pp],_,rvs++[.ref p8],?_,(w5.same s8).lst r8 nlr,C5,by rw[List.length_append,hl']; rfl,(sp5.same s8).put ?_ nbr,upd_same,by rw[List.length_append,lr]; rfl,?_⟩
    ·exact (B5.trans (Same.bts s8)).putN hpr
    ·intro y
     obtain ⟨o,ho'⟩:=hao
     rw[y,hpr] at ho'; cases ho'
    ·refine ((R5.keep (Same.kpl s8) (KpO.refl _)).keep kp (KpO.refl _)).snoc (RwOk.keep ⟨z,os'.length::(8+j)::rest,dd,p8,p7,vv,vv::ys,rfl,?_,l8,At.same s8 _ _ a5,o8,?_,nS p8 n8,nS p7 n7⟩ kp (KpO.refl _)) (by rw[lr,hl']; omega)
     ·exact snoc_last
     ·rw[List.map_cons]
      exact AtAll_cons.mpr ⟨_,_,rfl,At.same s8 _ _ a5,AtAll.same s8 _ _ A5⟩
end
section
variable {X:Cx}
theorem fin_bl9 {pins:List (Addr×Obj)} {σ:L2.St} {H:Hp} {s:Shared} {Q:VK} {b b':Bool} (I:Inv X pins σ H s) (q:Q (.bl b) H) (e:b'=b):EP X pins σ Q (.bool b') s:=by
 subst e
 exact ⟨.bl b',H,I,rfl,q⟩
def rNeLD (X:Cx):R2:=fun x y H Q=>∃(p q:Addr) (us ws:List V) (ds:List D),x=.ref p∧y=.ref q∧SqL X.K H p us∧SqL X.K H q ws∧AtAll X.K H ds us∧AtAll X.K H ds ws∧deps ds≤40∧Q (.bl false) H
theorem op_neLD {k:Nat} (hr:Room k X.A):OpR X (compareOp .NotEq) (rNeLD X):=by
 intro pins s σ H x y v u Q I rx ry h
 obtain ⟨p,q,us,ws,ds,rfl,rfl,hp,hq,ha,hb,hd,hQ⟩:=h
 cases rx; cases ry
 obtain ⟨its,r1,p1,z1⟩:=I.list hp
 obtain ⟨its2,r2,p2,z2⟩:=I.list hq
 have hu:=hr.units
 have l1:its.toArray.size=ds.length:=by rw[List.size_toArray,← r1.length]; exact ha.len
 have l2:its2.toArray.size=ds.length:=by rw[List.size_toArray,← r2.length]; exact hb.len
 have e:(!(List.range its.toArray.size).all fun j=>eqD (ds.getD j .non) (ds.getD j .non))=false:=by
  rw[List.all_eq_true.mpr fun _ _=>eqD_refl _]; rfl
 exact SeqAt.RcNeAt.lists (e:=fun j=>eqD (ds.getD j .non) (ds.getD j .non)) p1.isList p2.isList (by omega) (by omega) (items_eq I (A:=X.A.in1) (n:=deps ds) r1 r2 ha hb (Nat.le_refl _) (by show X.A.units+1+deps ds < cLine; omega)) _ _ _ _ (fin_bl9 I hQ e)
def rInLD (X:Cx):R2:=fun x y H Q=>∃(p:Addr) (xs:List V) (d:D) (ds:List D),y=.ref p∧SqL X.K H p xs∧AtAll X.K H ds xs∧At X.K H d x∧(∀e∈ds,dep e≤40)∧Q (.bl (ds.any fun e=>eqD e d)) H
theorem op_inLD {k:Nat} (hr:Room k X.A):OpR X (compareOp .In) (rInLD X):=by
 intro pins s σ H x y v u Q I rx ry h
 obtain ⟨p,xs,d,ds,rfl,hp,ha,hx,hd,q⟩:=h
 cases ry
 obtain ⟨its,r,pl,hz⟩:=I.list hp
 obtain ⟨f,f1,f2⟩:=mem_D I rx hx ha r X.A.in1 (fun e he=>by have:=hr.units; have:=hd e he; show X.A.units+1+_ < _; omega)
 refine SeqAt.in_listAt f pl.isList (fun w hw=>f1 w (by simpa using hw)) ⟨.bl _,H,I,rfl,?_⟩
 rw[show its.toArray.any f=its.any f by simp,f2]
 exact q
def rEqK (K:PySem.W.Frag):R2:=fun x y H Q=>∃d e,At K H d x∧At K H e y∧dep d≤60∧Q (.bl (eqD d e)) H
theorem op_eqK {k:Nat} (hr:Room k X.A):OpR X (compareOp .Eq) (rEqK X.K):=op_eqD hr
def rInLK (K:PySem.W.Frag):R2:=fun x y H Q=>∃(p:Addr) (xs:List V) (d:D) (ds:List D),y=.ref p∧SqL K H p xs∧AtAll K H ds xs∧At K H d x∧(∀e∈ds,dep e≤40)∧Q (.bl (ds.any fun e=>eqD e d)) H
theorem op_inLK {k:Nat} (hr:Room k X.A):OpR X (compareOp .In) (rInLK X.K):=op_inLD hr
def rInNL (X:Cx):R2:=fun x y H Q=>∃(p:Addr) (xs:List V),x=.non∧y=.ref p∧SqL X.K H p xs∧(∀w∈xs,∃q zs,w=.ref q∧SqL X.K H q zs)∧Q (.bl false) H
theorem op_inNL {k:Nat} (hr:Room k X.A):OpR X (compareOp .In) (rInNL X):=by
 intro pins s σ H x y v u Q I rx ry h
 obtain ⟨p,xs,rfl,rfl,hp,ha,q⟩:=h
 cases rx; cases ry
 have hu:=hr.units
 obtain ⟨its,r,pl,hz⟩:=I.list hp
 refine SeqAt.in_listAt (fun _=>false) pl.isList (fun w hw=>?_) ⟨.bl _,H,I,rfl,?_⟩
 ·have hw:w∈its:=by simpa using hw
  obtain ⟨i,hi⟩:=List.mem_iff_getElem?.mp hw
  have hl:=r.length
  have hi2:i < xs.length:=by rw[hl]; exact lt_of_some hi
  have e1:xs[i]?=some xs[i]:=List.getElem?_eq_getElem hi2
  obtain ⟨u',hu',ru⟩:=r.get e1
  rw[hi] at hu'
  cases hu'
  obtain ⟨q',zs,ew,hq'⟩:=ha xs[i] (List.getElem_mem hi2)
  rw[ew] at ru
  cases ru
  obtain ⟨jts,_,pj,_⟩:=I.list hq'
  exact SeqAt.EqAt.list_none pj.isList (by show X.A.units+1 < _; omega)
 ·rw[show its.toArray.any (fun _=>false)=false by simp]
  exact q
end
def d2K (a b:V):List (Key×V):=[(.inr "cause",a),(.inr "context",b)]
def D2At (K:PySem.W.Frag) (H:Hp) (q:Addr) (dc dx:D):Prop:=∃a b,H q=some (.dK (d2K a b))∧At K H dc a∧At K H dx b
theorem D2At.keep {K:PySem.W.Frag} {H H':Hp} {q:Addr} {dc dx:D} (h:D2At K H q dc dx) (e:H' q=H q) (f:Fx H H'):D2At K H' q dc dx:=by
 obtain ⟨a,b,h1,h2,h3⟩:=h
 exact ⟨a,b,e.trans h1,At.fx f _ _ h2,At.fx f _ _ h3⟩
theorem D2At.same {K:PySem.W.Frag} {H H':Hp} {q:Addr} {dc dx:D} (h:D2At K H q dc dx) (s:Same H H'):D2At K H' q dc dx:=h.keep (by obtain ⟨a,b,h1,_⟩:=h; rw[s _ _ h1,h1]) (Same.fx s)
theorem d2K_val (a b:V):valV (d2K a b) (.inr "cause":Key)=some a∧valV (d2K a b) (.inr "context":Key)=some b:=⟨rfl,rfl⟩
theorem d2K_put (a b v:V):putK (d2K a b) (.inr "cause":Key) v=d2K v b∧putK (d2K a b) (.inr "context":Key) v=d2K a v:=⟨rfl,rfl⟩
theorem D2At.put {K:PySem.W.Frag} {H:Hp} {q:Addr} {dc dx:D} (h:D2At K H q dc dx) {n:Str} (hn:n="cause"∨n="context") {dv:D} {y:V} (hy:At K H dv y):∃kvs,H q=some (.dK kvs)∧kvs.length≤2∧D2At K (upd H q (.dK (putK kvs (.inr n:Key) y))) q (if n="cause" then dv else dc) (if n="cause" then dx else dv):=by
 obtain ⟨a,b,h1,h2,h3⟩:=h
 have f:∀o,Fx H (upd H q o):=fun o=>Fx.put h1 rfl
 refine ⟨_,h1,Nat.le_refl 2,?_⟩
 rcases hn with rfl | rfl
 ·rw[(d2K_put a b y).1,if_pos rfl,if_pos rfl]
  exact ⟨y,b,upd_same,At.fx (f _) _ _ hy,At.fx (f _) _ _ h3⟩
 ·rw[(d2K_put a b y).2,if_neg (by decide +kernel),if_neg (by decide +kernel)]
  exact ⟨a,y,upd_same,At.fx (f _) _ _ h2,At.fx (f _) _ _ hy⟩
def tDn (K:PySem.W.Frag):TE:=fun σ H Q=>∀qd H',Same H H'→H qd=none→D2At K H' qd noD noD→Q (.ref qd) H'
theorem pe_dn {X:Cx} {e:Expr} (h:LE X e (tDisp [(tC (.str "cause"),tTup (tCons (tC (.str "none")) tNil)),(tC (.str "context"),tTup (tCons (tC (.str "none")) tNil))])):LE X e (tDn X.K):=by
 refine le_imp h fun σ H Q q=>?_
 intro p hp
 refine ⟨by show 1≤sizeLine; decide,fun t1 ht1=>⟨by show 1≤sizeLine; decide,fun t2 ht2=>?_⟩⟩
 have s3a:=(same_new ht1 (.tup [.str "none"])).trans (same_new ht2 (.tup [.str "none"]))
 have x1:At X.K (upd (upd (upd H p (.dK [])) t1 (.tup [.str "none"])) t2 (.tup [.str "none"])) noD (.ref t1):=At.same (same_new ht2 _) _ _ (At.new ht1 (AtAll.one1 (At_str.mpr rfl)))
 have x2:At X.K (upd (upd (upd H p (.dK [])) t1 (.tup [.str "none"])) t2 (.tup [.str "none"])) noD (.ref t2):=At.new ht2 (AtAll.one1 (At_str.mpr rfl))
 revert s3a x1 x2
 generalize upd (upd (upd H p (.dK [])) t1 (.tup [.str "none"])) t2 (.tup [.str "none"])=H3
 intro s3a x1 x2
 have s3:Same H H3:=(same_new hp _).trans s3a
 have p3:H3 p=some (.dK []):=s3a _ _ upd_same
 have f4:Fx H3 (upd H3 p (.dK (d2K (.ref t1) (.ref t2)))):=Fx.put p3 rfl
 refine ⟨p3,[(.inr "cause",.ref t1),(.inr "context",.ref t2)],rfl,by show 2≤15; decide,?_⟩
 exact q p _ (same_upd s3 hp _) hp ⟨.ref t1,.ref t2,upd_same,At.fx f4 _ _ x1,At.fx f4 _ _ x2⟩
abbrev sMr:Stmt:=topd 81
def valD (d:D):D:=.tup [.str "value",d]
theorem anN_eq (nm:Str):anN nm=("a ":Str)++nm:=by
 show (Str.empty++"a"++" ")++nm=_
 rw[show (Str.empty++"a"++" ":Str)="a " by decide +kernel]
theorem PlD.tup {d:D} (h:PlD d):∃r,d=.tup r:=by
 rcases h with ⟨i,rfl⟩ | ⟨t,rfl⟩ | ⟨b,rfl⟩ | rfl
 ·exact ⟨_,rfl⟩
 ·exact ⟨_,rfl⟩
 ·exact ⟨_,rfl⟩
 ·exact ⟨_,rfl⟩
theorem fldR_w (x:D×D×D):fldR (some x) "word"=valD x.1∧fldR (some x) "cause"=valD x.2.1∧fldR (some x) "context"=valD x.2.2:=by
 unfold fldR
 refine ⟨?_,?_,?_⟩
 ·rw[fldD_some,if_pos rfl]; rfl
 ·rw[fldD_some,if_neg (by decide +kernel),if_pos rfl]; rfl
 ·rw[fldD_some,if_neg (by decide +kernel),if_neg (by decide +kernel),if_pos rfl]; rfl
theorem deps3 {a b c:D} {n:Nat} (h1:dep a≤n) (h2:dep b≤n) (h3:dep c≤n):deps [a,b,c]≤n:=by
 rw[deps,deps,deps,deps]; omega
theorem dep_val {d:D} {n:Nat} (h:dep d≤n):dep (valD d)≤n+1:=dep2 (dep_s _ _) h
theorem dep_no:dep noD≤1:=by decide +kernel
theorem mod_nat {a:Int} {b:Nat} (hb:0 < b):∃j:Nat,j < b∧a % (b:Int)=(j:Int):=by
 have h1:=Int.emod_nonneg a (b:=(b:Int)) (by omega)
 have h2:=Int.emod_lt_of_pos a (b:=(b:Int)) (by omega)
 exact ⟨(a % (b:Int)).toNat,by omega,by omega⟩
def sMd (K:PySem.W.Frag) (c:ClD):TS:=fun D0 σ H=>∃(W l g:Addr) (ps:List Addr) (os:List Th) (k:Nat) (nm:Str) (n:Int) (p q:Addr) (y1 x wv:V) (dw:D),σ=[some (.ref W),some y1,some (.int n),some (.ref p),some wv,none,none]∧H p=some (.lst [x,.str nm,.ref q])∧WAt K c H W l g ps os gv0∧(nm,k)∈gv0∧isFC os[k]?=true∧os.length≤1000∧PlD dw∧At K H dw wv∧
 ∀dw' wv' r H' pp d,PlD dw'→At K H' dw' wv'→H d=none→But9 l H H'→WAt K c H' W l g (ps++[pp]) (os++[.ob k d (some (dw',noD,noD))]) gv0→At K H' (thD os.length) r→D0.nx [some (.ref W),some y1,some (.int n),some (.ref p),some wv',some r,none] H'
def tVs (K:PySem.W.Frag):TE:=fun σ H Q=>∃wv dw,σ[4]?=some (some wv)∧At K H dw wv∧∀p ws H',Same H H'→H' p=some (.lst ws)→AtAll K H' [valD dw,valD noD,valD noD] ws→Q (.ref p) H'
section
variable {P:Program} {w:World} {K:PySem.W.Frag} {mg:Str→Option Value} {base:Heap} {f:Addr} {fd:FuncData} {c:ClD}
def spMr (K:PySem.W.Frag) (c:ClD):Sp:=fun vs H Q _=>∃(W l g lr:Addr) (ps:List Addr) (os:List Th) (B:Nat) (n:Int) (rvs:List V) (S:List Addr),vs=[.ref W,.ref lr,.int n]∧WAt K c H W l g ps os gv0∧ClO os B∧os.length≤1000∧H lr=some (.lst rvs)∧rvs.length+8=B∧RwsOk K H os S rvs∧l∈S∧
 ∀p x rp qd H' pp d k dw,H p=none→H qd=none→H d=none→qd≠d→But9 l H H'→WAt K c H' W l g (ps++[pp]) (os++[.ob k d (some (dw,noD,noD))]) gv0→isFC os[k]?=true→8≤k→k < B→H' p=some (.lst [x,.ref rp,.ref qd])→At K H' (thD os.length) x→RwOk K H' (os++[.ob k d (some (dw,noD,noD))]) S k (.ref rp)→D2At K H' qd noD noD→Q (.ref p) H'
theorem scMr:FnScope ["_law_world","_law_rows","_law_n","_law_row","_law_word","_law_found","_law_told"] ["_law_world","_law_rows","_law_n"] (defScope sMr):=⟨rfl,rfl,rfl,by decide +kernel,rfl,by decide +kernel,by decide +kernel⟩
theorem ok_Mr (F:Fun K "_law_made_right" "_law_made_right" sMr f fd) (dPl:Def P w K mg base "_law_plain" ["_law_n"] 1 (spPl K)) (dM1:DefN P w K mg base "made" ["world","name","word"] 5 (spMade K c)) (dM3:Def P w K mg base "made" ["world","name","word"] 5 (spMade K c)) (dF:Def P w K mg base "field_of" ["world","a","name"] 4 (spFof K c)) (dX:Def P w K mg base "text_of" ["world","a"] 3 (spTxt K c)):FnOk P w K mg base CX0 6 f fd ["_law_world","_law_rows","_law_n"] (spMr K c):=by
 refine F.okI scMr (fun vs H Q E h=>?_) (fun cdv A outer s H vs Q E hr h=>?_)
 ·obtain ⟨_,_,_,_,_,_,_,_,_,_,rfl,_⟩:=h; rfl
 obtain ⟨W,l,gd,lr,ps,os,B,n,rvs,S,rfl,hw,hC,hl,hlr,hB,hR,hlS,q⟩:=h
 refine ⟨_,(pss_cons (ps_set (i:=3) scMr.nd rfl (Or.inl rfl) (pe_ix (r:=rIxL K) ix_list (pv 1) (pe_op op_add pe_int (pe_op op_mod (pv 2) pe_int)) (fun _ _=>rfl)))
   (pss_cons (ps_set (i:=4) scMr.nd rfl (Or.inl rfl) (L3.pe_def dPl hr (by decide) rfl (pa_cons (pe_op op_fdiv (pv 2) pe_int) pa_nil)))
   (pss_cons (ps_imp (t':=sMd K c) (ps_if (pt_cmpR op_eq (pe_op op_mod (pe_op op_fdiv (pv 2) pe_int) pe_int) pe_int (nomark _)) (pss_cons (ps_set (i:=4) scMr.nd rfl (Or.inl rfl) (pe_tup (pa_cons pe_str pa_nil)))
   (pss_one (ps_set (i:=5) scMr.nd rfl (Or.inr rfl) (pe_defN dM1 hr (by decide) rfl (pa_cons (pv 0) (pa_cons (pe_ix (r:=rIxL K) ix_list (pv 3) pe_int (fun _ _=>rfl)) pa_nil)))))) (pss_one (ps_set (i:=5) scMr.nd rfl (Or.inr rfl) (L3.pe_def dM3 hr (by decide) rfl (pa_cons (pv 0) (pa_cons (pe_ix (r:=rIxL K) ix_list (pv 3) pe_int (fun _ _=>rfl)) (pa_cons (pv 4) pa_nil))))))) ?md)
   (pss_cons (.mk (L2.ps_setCompG (iy:=6) (cl:=[("_law_world",s.heap.objs.size+1),("_law_found",s.heap.objs.size+2)]) (Xs:=["_law_name"]) (Nf:=["_law_world","_law_found"]) (js:=[0,5]) ?k rfl (LI.out (pi_tup (pe_tup (pa_cons pe_str (pa_cons pe_str (pa_cons pe_str pa_nil)))))) (fun C s0 H0 fp=>LG.out (pg_name (i:=0) (show (["_law_name","_law_world","_law_found"]:List Str).Nodup by decide +kernel) rfl (Or.inl rfl))) (fun C s0 H0 fp=>pts_nil) (fun C s0 H0 fp=>LE.out (L3.pe_def dF hr (by decide) rfl (pa_cons (pv 1) (pa_cons (pv 2) (pa_cons (pv 0) pa_nil))))) scMr.nd rfl (Or.inl rfl)))
   (pss_cons (ps_if (LW.pt (pw_or (pt_cmpR (op_neLD hr) (pv 6) (le_imp (t':=tVs K) (pe_lst (pa_cons (pe_tup (pa_cons pe_str (pa_cons (pv 4) pa_nil))) (pa_cons (pe_tup (pa_cons pe_str (pa_cons (pe_tup (pa_cons pe_str pa_nil)) pa_nil))) (pa_cons (pe_tup (pa_cons pe_str (pa_cons (pe_tup (pa_cons pe_str pa_nil)) pa_nil))) pa_nil)))) ?vs) (nomark _)) (pw_or1 (pt_cmpR op_ne (L3.pe_def dX hr (by decide) rfl (pa_cons (pv 0) (pa_cons (pv 5) pa_nil))) (pe_op op_add_str pe_str (pe_ix (r:=rIxL K) ix_list (pv 3) pe_int (fun _ _=>rfl))) (nomark _))))) (pss_one ps_dead) pss_nil)
   (pss_one (ps_ret (pe_lst (pa_cons (pv 5) (pa_cons (pv 3) (pa_cons (pe_dn (L3.pe_disp (L3.pps_cons pe_str (pe_tup (pa_cons pe_str pa_nil)) (L3.pps_cons pe_str (pe_tup (pa_cons pe_str pa_nil)) L3.pps_nil)))) pa_nil))))))))))),?main⟩
 case k=>
  refine ⟨rfl,by decide +kernel,rfl,by decide +kernel,fun y c h=>?_,fun y hy=>?_,rfl,fun j y h=>?_⟩
  ·rcases look2 h with ⟨rfl,rfl⟩ | ⟨rfl,rfl⟩ <;> rfl
  ·have hy':([(".0",.local),("_law_name",.local),("field_of",.globalImplicit),("_law_found",.cell),("_law_world",.cell)]:List (Str×NameKind)).lookup y=some .cell∨([(".0",.local),("_law_name",.local),("field_of",.globalImplicit),("_law_found",.cell),("_law_world",.cell)]:List (Str×NameKind)).lookup y=some .free:=hy
   rcases hy' with z | z
   ·have m:=PySem.mem_of_lookup z
    simp at m
    rcases m with rfl | rfl <;> exact ⟨_,rfl⟩
   ·have m:=PySem.mem_of_lookup z
    simp at m
  ·match j,h with
   | 0,h=>cases h; exact ⟨0,rfl,rfl,rfl,.inl rfl⟩
   | 1,h=>cases h; exact ⟨5,rfl,rfl,rfl,.inl rfl⟩
   | j+2,h=>simp at h
 case md=>
  rintro D0 σ H ⟨W,l,gd,ps,os,k,nm,n,p,q',y1,x,wv,dw,rfl,hp,hw,hk,hf,hl,hP,hA,q⟩
  refine ⟨_,rfl,_,_,rfl,rfl,⟨by decide,by decide⟩,_,_,rfl,rfl,(show (0:Int) < _ by decide),rfl,_,rfl,ite_b9 (fun _=>?_) (fun _=>?_)⟩
  ·refine ⟨by show 1≤sizeLine; decide,fun t ht=>?_⟩
   have s1:Same H (upd H t (.tup [.str "none"])):=same_new ht _
   have a1:At K (upd H t (.tup [.str "none"])) noD (.ref t):=At.new ht (AtAll.one1 (At_str.mpr rfl))
   revert s1 a1
   generalize upd H t (.tup [.str "none"])=H1
   intro s1 a1
   refine ⟨_,rfl,_,rfl,p,_,_,.str nm,rfl,rfl,SqL.of (s1 _ _ hp),atI_nat (j:=1) rfl,W,l,gd,ps,os,gv0,nm,k,.non,none,rfl,hw.same s1,.inl ⟨rfl,rfl⟩,hk,hf,by decide +kernel,hl,fun r H2 pp d hd b w2 a2=>?_⟩
   exact q noD _ r H2 pp d (.inr (.inr (.inr rfl))) (At.fx (b.fx (hw.same s1).t rfl) _ _ a1) (none_of s1 hd) ((Same.but l s1).trans b) w2 a2
  ·obtain ⟨rr,rfl⟩:=hP.tup
   refine ⟨_,rfl,_,rfl,p,_,_,.str nm,rfl,rfl,SqL.of hp,atI_nat (j:=1) rfl,_,rfl,W,l,gd,ps,os,gv0,nm,k,wv,some (.tup rr),rfl,hw,.inr ⟨_,rfl,hA.tupR,hA⟩,hk,hf,by decide +kernel,hl,fun r H2 pp d hd b w2 a2=>?_⟩
   exact q _ _ r H2 pp d hP (At.fx (b.fx hw.t rfl) _ _ hA) hd b w2 a2
 case vs=>
  rintro σ H Q ⟨wv,dw,e4,hA,q⟩
  refine ⟨_,e4,by show 2≤sizeLine; decide,fun t1 ht1=>?_⟩
  have s1:=same_new ht1 (.tup [.str "value",wv])
  have a1:At K (upd H t1 (.tup [.str "value",wv])) (valD dw) (.ref t1):=At.new ht1 (AtAll2 (At_str.mpr rfl) hA)
  revert s1 a1
  generalize upd H t1 (.tup [.str "value",wv])=H1
  intro s1 a1
  refine ⟨by show 1≤sizeLine; decide,fun t2 ht2=>?_⟩
  have s2:=same_new ht2 (.tup [.str "none"])
  have a2:At K (upd H1 t2 (.tup [.str "none"])) (noD) (.ref t2):=At.new ht2 (AtAll.one1 (At_str.mpr rfl))
  revert s2 a2
  generalize upd H1 t2 (.tup [.str "none"])=H2
  intro s2 a2
  refine ⟨by show 2≤sizeLine; decide,fun t3 ht3=>?_⟩
  have s3:=same_new ht3 (.tup [.str "value",.ref t2])
  have a3:At K (upd H2 t3 (.tup [.str "value",.ref t2])) (valD noD) (.ref t3):=At.new ht3 (AtAll2 (At_str.mpr rfl) a2)
  revert s3 a3
  generalize upd H2 t3 (.tup [.str "value",.ref t2])=H3
  intro s3 a3
  refine ⟨by show 1≤sizeLine; decide,fun t4 ht4=>?_⟩
  have s4:=same_new ht4 (.tup [.str "none"])
  have a4:At K (upd H3 t4 (.tup [.str "none"])) (noD) (.ref t4):=At.new ht4 (AtAll.one1 (At_str.mpr rfl))
  revert s4 a4
  generalize upd H3 t4 (.tup [.str "none"])=H4
  intro s4 a4
  refine ⟨by show 2≤sizeLine; decide,fun t5 ht5=>?_⟩
  have s5:=same_new ht5 (.tup [.str "value",.ref t4])
  have a5:At K (upd H4 t5 (.tup [.str "value",.ref t4])) (valD noD) (.ref t5):=At.new ht5 (AtAll2 (At_str.mpr rfl) a4)
  revert s5 a5
  generalize upd H4 t5 (.tup [.str "value",.ref t4])=H5
  intro s5 a5
  refine ⟨by show 3≤sizeLine; decide,fun p hp=>?_⟩
  have s6:=same_new hp (.lst [.ref t1,.ref t3,.ref t5])
  refine q p _ _ (s1.trans (s2.trans (s3.trans (s4.trans (s5.trans s6))))) upd_same ?_
  exact AtAll3 (At.same (s2.trans (s3.trans (s4.trans (s5.trans s6)))) _ _ a1) (At.same (s4.trans (s5.trans s6)) _ _ a3) (At.same s6 _ _ a5)
 case main=>
  obtain ⟨j,hj,ej⟩:=mod_nat (a:=n) (b:=11) (by decide)
  have hj2:1+j < rvs.length:=by have:=hC.lo; omega
  have erv:rvs[1+j]?=some rvs[1+j]:=List.getElem?_eq_getElem hj2
  have eat:atI rvs (1+n % 11)=some rvs[1+j]:=by
   rw[show (1+n % 11:Int)=((1+j:Nat):Int) by rw[show ((11:Nat):Int)=11 from rfl] at ej; omega]
   exact atI_nat erv
  obtain ⟨nm,ns,dk,rp,q',x,ys,ep,ho,hp,hx,hq,hAy,np,nq⟩:=hR (1+j) _ erv
  obtain ⟨dk2,ho2⟩:=hC.gv (1+j) (by omega)
  rw[ho] at ho2
  cases ho2
  obtain ⟨_,_,_,_,o9,olen,ogv⟩:=ordN_ok (1+j) (by omega)
  have hfc:isFC os[8+(1+j)]?=true:=by rw[ho]; exact decide_eq_true (o9 (by omega))
  refine ⟨_,rfl,_,rfl,_,_,rfl,rfl,(show (0:Int) < _ by decide),_,_,rfl,rfl,lr,_,_,_,rfl,rfl,SqL.of hlr,eat,?_⟩
  rw[ep]
  refine ⟨_,rfl,_,_,rfl,rfl,⟨by decide,by decide⟩,_,rfl,fun dw wv H1 hP s1 aw=>?_⟩
  refine ⟨W,l,gd,ps,os,8+(1+j),nmN (1+j),n,rp,q',_,x,wv,dw,rfl,s1 _ _ hp,hw.same s1,ogv,hfc,hl,hP,aw,fun dw wv r H2 pp d hP2 aw2 hd0 b2 w2 a2=>?_⟩
  clear aw hP
  have hd:H d=none:=none_of s1 hd0
  have B2:But9 l H H2:=(Same.but l s1).trans b2
  have K2:KpL S H H2:=(Same.kpl s1).trans (b2.kpl hlS (hw.same s1).t)
  have R2:RwOk K H2 (os++[.ob (8+(1+j)) d (some (dw,noD,noD))]) S (8+(1+j)) (.ref rp):=by
   rw[← ep]
   exact (hR (1+j) _ erv).keep K2 (KpO.snoc _ _)
  have wf2:=hC.wf.addOb (d:=d) (fs:=some (dw,noD,noD)) ho
  have hdw:dep (valD dw)≤40:=Nat.le_trans (dep_val hP2.dep) (by decide)
  have hdn:dep (valD noD)≤40:=Nat.le_trans (dep_val dep_no) (by decide)
  refine ⟨by show 3≤sizeLine; decide,fun tp htp=>⟨tp,rfl,⟨_,SqT.of upd_same⟩,[.ref W,r],⟨rfl,fun j i h=>?_⟩,?cmp⟩⟩
  ·match j,h with
   | 0,h=>cases h; exact ⟨_,rfl,rfl⟩
   | 1,h=>cases h; exact ⟨_,rfl,rfl⟩
   | j+2,h=>simp at h
  case cmp=>
  have s3:Same H2 (upd H2 tp (.tup [.str "word",.str "cause",.str "context"])):=same_new htp _
  have sq3:SqT K (upd H2 tp (.tup [.str "word",.str "cause",.str "context"])) tp [.str "word",.str "cause",.str "context"]:=SqT.of upd_same
  revert s3 sq3
  generalize upd H2 tp (.tup [.str "word",.str "cause",.str "context"])=H3
  intro s3 sq3
  refine compG_one (vs:=[.ref W,r]) (tc:=tTrue) ([.str "word",.str "cause",.str "context"]:List V).length (fun i=>([.str "word",.str "cause",.str "context"]:List V).getD i .non) (fun _=>true) (fun i v H'=>At K H' ([valD dw,valD noD,valD noD].getD i .non) v) (fun _ _ _ _ s z=>At.same s _ _ z) (by show 3≤1000000; decide) (itt_stop sq3) (itt_go sq3) (itt_yld sq3) (fun i H2 Q' hi s2 k=>k H2 (Same.refl _)) (fun i H4 D l' Q' hi _ s4 _ hDl k=>?_) fun D H4 ys4 hD s4 hl4 hP4=>?_
  ·have s34:=s3.trans s4
   have one:∀(nme:Str) (dd:GS.D),fldR (some (dw,noD,noD)) nme=valD dd→(∀e,fldD (some (dw,noD,noD)) nme=some e→∃r,e=.tup r)→(∀v H5,Same H4 H5→At K (wo H5 D) (valD dd) v→Q' v H5)→tCall (spFof K c) [] E0 (tCons (tVar 1) (tCons (tVar 2) (tCons (tVar 0) tNil))) [some (.str nme),some (.ref W),some r] H4 Q':=fun nme dd e1 e2 k'=>
    ⟨_,rfl,_,rfl,_,rfl,W,l,gd,_,_,gv0,r,os.length,8+(1+j),d,_,nme,rfl,w2.same s34,wf2,At.same s34 _ _ a2,snoc_last,e2,fun r5 H5 s5 a5=>k' r5 H5 s5 (by rw[e1] at a5; exact At.wo (s5 _ _ hDl) _ _ a5)⟩
   obtain ⟨rw',erw⟩:=hP2.tup
   match i,hi,k with
   | 0,_,k=>exact one "word" dw (fldR_w _).1 (fun e h=>by rw[fldD_some,if_pos rfl] at h; cases h; exact ⟨_,erw⟩) k
   | 1,_,k=>exact one "cause" noD (fldR_w _).2.1 (fun e h=>by rw[fldD_some,if_neg (by decide +kernel),if_pos rfl] at h; cases h; exact ⟨_,rfl⟩) k
   | 2,_,k=>exact one "context" noD (fldR_w _).2.2 (fun e h=>by rw[fldD_some,if_neg (by decide +kernel),if_neg (by decide +kernel),if_pos rfl] at h; cases h; exact ⟨_,rfl⟩) k
   | i+3,hi,_=>exact absurd hi (by show ¬i+3 < 3; omega)
  have A4:AtAll K H4 [valD dw,valD noD,valD noD] ys4:=(hP4.mono (fun i v z=>At.same (wo_same H4 D) _ _ z)).at
  have s24:=s3.trans s4
  clear hP4 s4 s3
  refine ⟨_,rfl,wv,dw,rfl,At.same s24 _ _ aw2,fun p5 ws H5 s5 h5 A5=>⟨D,p5,ys4,ws,[valD dw,valD noD,valD noD],rfl,rfl,SqL.of (s5 _ _ hl4),SqL.of h5,AtAll.same s5 _ _ A4,A5,deps3 hdw hdn hdn,_,rfl,iteF ?_⟩⟩
  have s25:=s24.trans s5
  have w5:=w2.same s25
  have hp5:H5 rp=some (.lst [x,.str (nmN (1+j)),.ref q']):=s25 _ _ (K2.l _ _ np hp)
  refine ⟨_,rfl,_,rfl,W,l,gd,_,_,gv0,r,os.length,8+(1+j),d,_,nmN (1+j),ordN (1+j),dk,rfl,w5,At.same s25 _ _ a2,snoc_last,snoc_old ho,by omega,_,rfl,rp,_,_,.str (nmN (1+j)),rfl,rfl,SqL.of hp5,atI_nat (j:=1) rfl,_,_,rfl,rfl,small (by show 2+_≤_; omega),rfl,_,rfl,?_⟩
  rw[anN_eq,decide_eq_true rfl]
  refine iteF ⟨_,rfl,_,rfl,fun qd H6 s6 hqd d6=>⟨by show 3≤sizeLine; decide,fun p7 hp7=>?_⟩⟩
  have s26:=s25.trans s6
  have s27:Same H2 (upd H6 p7 (.lst [r,.ref rp,.ref qd])):=s26.trans (same_new hp7 _)
  have l7:upd H6 p7 (.lst [r,.ref rp,.ref qd]) p7=some (.lst [r,.ref rp,.ref qd]):=upd_same
  have d7:=d6.same (same_new hp7 (.lst [r,.ref rp,.ref qd]))
  have n27:∀{p},H2 p=none→p≠l→H p=none:=fun {p} hp ne=>by
   cases e:H p with
   | none=>rfl
   | some o=>rw[B2 _ _ ne e] at hp; cases hp
  have hl2:=w2.t
  have nqd2:H2 qd=none:=none_of s25 hqd
  have np72:H2 p7=none:=none_of s26 hp7
  revert s27 l7 d7
  generalize upd H6 p7 (.lst [r,.ref rp,.ref qd])=H7
  intro s27 l7 d7
  refine q p7 r rp qd H7 pp d _ dw (n27 np72 fun y=>by rw[y,hl2] at np72; cases np72) (n27 nqd2 fun y=>by rw[y,hl2] at nqd2; cases nqd2) hd (fun y=>?_) (B2.trans (Same.but l s27)) (w2.same s27) hfc (by omega) (by omega) l7 (At.same s27 _ _ a2) (R2.keep (Same.kpl s27) (KpO.refl _)) d7
  obtain ⟨kv,e⟩:=w2.wd ⟨os.length,_,snoc_last,rfl⟩
  rw[y,e] at nqd2; cases nqd2
end
def OnOk (K:PySem.W.Frag) (H:Hp) (os:List Th) (S:List Addr) (i:Nat) (v:V) (qd:Addr):Prop:=∃k d fs p rp x dc dx,v=.ref p∧os[i]?=some (.ob k d fs)∧H p=some (.lst [x,.ref rp,.ref qd])∧At K H (thD i) x∧RwOk K H os S k (.ref rp)∧D2At K H qd dc dx∧p ∉ S∧(isFC os[k]?=true→∃w,fs=some (w,dc,dx))
def OnsOk (K:PySem.W.Frag) (H:Hp) (os:List Th) (S:List Addr) (B:Nat) (tvs:List V) (qds:List Addr):Prop:=tvs.length=qds.length∧∀(t:Nat) (v:V) (q:Addr),tvs[t]?=some v→qds[t]?=some q→OnOk K H os S (B+t) v q
structure StO (os:List Th) (B T:Nat):Prop where
 o:∀(i k:Nat) d fs,os[i]?=some (.ob k d fs)→B≤i∧i < B+T
 k:∀(i:Nat) nm ns d,os[i]?=some (.kd nm ns d)→8≤i∧i < B
structure Lw where
 W:Addr
 l:Addr
 g:Addr
 a:Addr
 b:Addr
 lr:Addr
 lt:Addr
abbrev Lw.S (L:Lw):List Addr:=[L.l,L.b,L.lr,L.lt]
structure LwS (K:PySem.W.Frag) (c:ClD) (H:Hp) (L:Lw) (ps:List Addr) (os:List Th) (B:Nat) (rvs tvs:List V) (qds:List Addr):Prop where
 w:WAt K c H L.W L.l L.g ps os gv0
 c:ClO os B
 f:FlO os
 st:StO os B tvs.length
 ol:os.length≤100
 r:H L.lr=some (.lst rvs)
 rl:rvs.length+8=B
 rs:RwsOk K H os L.S rvs
 t:H L.lt=some (.lst tvs)
 ts:OnsOk K H os L.S B tvs qds
 qn:qds.Nodup
 qw:∀q∈qds,¬WDc os q∧q≠L.g
section
variable {K:PySem.W.Frag} {c:ClD} {H H':Hp} {L:Lw} {ps:List Addr} {os os':List Th} {B:Nat} {rvs tvs:List V} {qds:List Addr} {S:List Addr}
theorem OnOk.keep {i:Nat} {v:V} {qd:Addr} (h:OnOk K H os S i v qd) (k:KpL S H H') (kd:H' qd=H qd) (ko:KpO os os') (ki:os'[i]?=os[i]?):OnOk K H' os' S i v qd:=by
 obtain ⟨k0,d,fs,p,rp,x,dc,dx,e,h1,h2,h3,h4,h5,h6,h7⟩:=h
 refine ⟨k0,d,fs,p,rp,x,dc,dx,e,ki.trans h1,k.l _ _ h6 h2,At.fx k.f _ _ h3,h4.keep k ko,h5.keep kd k.f,h6,fun z=>h7 ?_⟩
 obtain ⟨nm,ns,d',_,_,_,_,_,e1,_⟩:=h4
 rw[ko.kd e1] at z
 rw[e1]; exact z
theorem LwS.same (h:LwS K c H L ps os B rvs tvs qds) (s:Same H H'):LwS K c H' L ps os B rvs tvs qds:=by
 refine ⟨h.w.same s,h.c,h.f,h.st,h.ol,s _ _ h.r,h.rl,h.rs.keep (Same.kpl s) (KpO.refl _),s _ _ h.t,⟨h.ts.1,fun t v q e1 e2=>?_⟩,h.qn,h.qw⟩
 have ho:=h.ts.2 t v q e1 e2
 refine ho.keep (Same.kpl s) ?_ (KpO.refl _) rfl
 obtain ⟨k0,d,fs,p,rp,x,dc,dx,e,h1,h2,h3,h4,⟨a,b,h5,_⟩,_⟩:=ho
 rw[s _ _ h5,h5]
theorem LwS.one (h:LwS K c H L ps os B rvs tvs qds) {t:Nat} {v:V} (e:tvs[t]?=some v):∃q,qds[t]?=some q∧OnOk K H os L.S (B+t) v q:=by
 have ht:t < qds.length:=by rw[← h.ts.1]; exact lt_of_some e
 exact ⟨qds[t],List.getElem?_eq_getElem ht,h.ts.2 t v _ e (List.getElem?_eq_getElem ht)⟩
theorem pairs_first {n:Nat} {b:Nat→Bool} {item:Nat→V} {ys:List V} (h:Pairs (fun i v=>v=item i) ((List.range n).filter b) ys):(ys=[]∧∀j,j < n→b j=false)∨∃j ys',j < n∧b j=true∧ys=item j::ys':=by
 cases e:(List.range n).filter b with
 | nil=>
  rw[e] at h
  cases h
  refine .inl ⟨rfl,fun j hj=>?_⟩
  have:=List.filter_eq_nil_iff.mp e j (List.mem_range.mpr hj)
  simpa using this
 | cons j r=>
  rw[e] at h
  cases h with
  | cons h1 h2=>
   have hm:j∈(List.range n).filter b:=by rw[e]; exact List.mem_cons_self
   rw[List.mem_filter] at hm
   exact .inr ⟨j,_,List.mem_range.mp hm.1,hm.2,by rw[h1]⟩
theorem eqD_thV {d:D} {i:Nat} (h:Vd os d) (e:eqD (thD i) d=true):d=thD i:=by
 rcases h.cases with ⟨j,rfl,_⟩ | ⟨k,r,rfl,hk,_⟩
 ·rw[eqD_th] at e
  rw[of_decide_eq_true e]
 ·unfold thD at e
  rw[eqD,eqDs,Bool.and_eq_true,eqD] at e
  exact absurd (eq_of_beq e.1).symm hk
theorem th_dep:∀{ns:List Nat},∀e∈ns.map thD,dep e≤40:=fun {ns} e he=>by
 obtain ⟨n,_,rfl⟩:=List.mem_map.mp he
 rw[dep_th]; decide
theorem isF_ob {i k:Nat} {d:Addr} {fs:Option (D×D×D)} (e:os[i]?=some (.ob k d fs)):isF os (thO os (thD i))=isFC os[k]?:=by rw[thO_th,e]; rfl
end
abbrev sLk:Stmt:=topd 82
abbrev sFr:Stmt:=topd 83
def sDue (K:PySem.W.Frag) (kd:Bool):TS:=fun D0 σ H=>∃(x0 x1 x2 x3 x4 x5 x6 x8:V) (fa:Bool) (d:D) (lk:Addr) (kvs:List V),σ=[some x0,some x1,some x2,some x3,some x4,some x5,some x6,some (.bl fa),some x8,none]∧At K H d x3∧At K H kF x8∧At K H (thD 9) x4∧x5=.ref lk∧H lk=some (.lst kvs)∧((kvs=[]∧kd=false)∨∃(p:Addr) (x:V) (nm:Str) (q:Addr) (ys:List V) (ns:List Nat) (kr:List V),kvs=.ref p::kr∧H p=some (.lst [x,.str nm,.ref q])∧H q=some (.lst ys)∧AtAll K H (ns.map thD) ys∧kd=decide (9∈ns))∧
 ∀y H',Same H H'→At K H' (if fa then .tup [.str "value",d] else if kd then .tup [.str "call",d] else kF) y→D0.nx [some x0,some x1,some x2,some x3,some x4,some x5,some x6,some (.bl fa),some y,none] H'
def tFa (K:PySem.W.Frag) (b:Bool):TE:=fun σ H Q=>∃(fc:V) (lo:Addr) (own:List V),σ[4]?=some (some fc)∧σ[6]?=some (some (.ref lo))∧At K H (thD 9) fc∧H lo=some (.lst own)∧((own=[]∧b=false)∨∃(p:Addr) (x:V) (rp qd:Addr) (rx:V) (nm:Str) (q:Addr) (ys:List V) (ns:List Nat) (kr:List V),own=.ref p::kr∧H p=some (.lst [x,.ref rp,.ref qd])∧H rp=some (.lst [rx,.str nm,.ref q])∧H q=some (.lst ys)∧AtAll K H (ns.map thD) ys∧b=decide (9∈ns))∧∀H',Same H H'→Q (.bl b) H'
section
variable {P:Program} {w:World} {K:PySem.W.Frag} {mg:Str→Option Value} {base:Heap} {f:Addr} {fd:FuncData} {c:ClD}
def spLk (K:PySem.W.Frag) (c:ClD):Sp:=fun vs H Q _=>∃(L:Lw) (ps:List Addr) (os:List Th) (B:Nat) (rvs tvs:List V) (qds:List Addr) (x:V) (d:D),vs=[.ref L.W,.ref L.lr,.ref L.lt,x]∧LwS K c H L ps os B rvs tvs qds∧At K H d x∧Vd os d∧dep d≤1∧∀H',Same H H'→Q (.bl true) H'
theorem scLk:FnScope ["_law_world","_law_rows","_law_things","_law_a","_law_fault_class","_law_kinds","_law_own","_law_faulty","_law_due","_law_told"] ["_law_world","_law_rows","_law_things","_law_a"] (defScope sLk):=⟨rfl,rfl,rfl,by decide +kernel,rfl,by decide +kernel,by decide +kernel⟩
theorem ok_Lk (g:Glb9 mg) (F:Fun K "_law_looked" "_law_looked" sLk f fd) (dK:Def P w K mg base "known" ["world","name"] 1 (spKn K c)) (dF:Def P w K mg base "is_fault" ["world","a"] 4 (spFlt K c)) (dR:Def P w K mg base "raised_of" ["world","a"] 5 (spRai K c)):FnOk P w K mg base CX0 6 f fd ["_law_world","_law_rows","_law_things","_law_a"] (spLk K c):=by
 refine F.okI scLk (fun vs H Q E h=>?_) (fun cdv A outer s H vs Q E hr h=>?_)
 ·obtain ⟨_,_,_,_,_,_,_,_,_,rfl,_⟩:=h; rfl
 obtain ⟨L,ps,os,B,rvs,tvs,qds,x,d,rfl,hS,hx,hv,hdep,q⟩:=h
 refine ⟨_,(pss_cons (ps_set (i:=4) scLk.nd rfl (Or.inl rfl) (L3.pe_def dK hr (by decide) rfl (pa_cons (pv 0) (pa_cons pe_str pa_nil))))
   (pss_cons (.mk (L2.ps_setCompG (iy:=5) (cl:=[("_law_a",s.heap.objs.size+1)]) (Xs:=["_law_row"]) (Nf:=["_law_a"]) (js:=[3]) ?k1 rfl (LI.out (pi_list (pv 1))) (fun C s0 H0 fp=>LG.out (pg_name (i:=0) (show (["_law_row","_law_a"]:List Str).Nodup by decide +kernel) rfl (Or.inl rfl))) (fun C s0 H0 fp=>pts_one (LT.out (pt_cmpR (r:=rEqK K) (op_eqK hr) (pe_ix (r:=rIxL K) ix_list (pv 0) pe_int (fun _ _=>rfl)) (pv 1) (nomark _)))) (fun C s0 H0 fp=>LE.out (pv 0)) scLk.nd rfl (Or.inl rfl)))
   (pss_cons (.mk (L2.ps_setCompG (iy:=6) (cl:=[("_law_a",s.heap.objs.size+1)]) (Xs:=["_law_one"]) (Nf:=["_law_a"]) (js:=[3]) ?k2 rfl (LI.out (pi_list (pv 2))) (fun C s0 H0 fp=>LG.out (pg_name (i:=0) (show (["_law_one","_law_a"]:List Str).Nodup by decide +kernel) rfl (Or.inl rfl))) (fun C s0 H0 fp=>pts_one (LT.out (pt_cmpR (r:=rEqK K) (op_eqK hr) (pe_ix (r:=rIxL K) ix_list (pv 0) pe_int (fun _ _=>rfl)) (pv 1) (nomark _)))) (fun C s0 H0 fp=>LE.out (pv 0)) scLk.nd rfl (Or.inl rfl)))
   (pss_cons (ps_set (i:=7) scLk.nd rfl (Or.inl rfl) (le_imp (t':=tFa K (isF os (thO os d))) (pe_and (pe_cmpR (op_neNil hr) (pv 6) (pe_lst pa_nil) (nomark _)) (pe_one (pe_cmpR (r:=rInLK K) (op_inLK hr) (pv 4) (pe_ix (r:=rIxL K) ix_list (pe_ix (r:=rIxL K) ix_list (pe_ix (r:=rIxL K) ix_list (pv 6) pe_int (fun _ _=>rfl)) pe_int (fun _ _=>rfl)) pe_int (fun _ _=>rfl)) rfl))) ?fa))
   (pss_cons (ps_set (i:=8) scLk.nd rfl (Or.inl rfl) (pe_tup (pa_cons pe_str (pa_cons pe_str pa_nil))))
   (pss_cons (ps_imp (t':=sDue K (isFC (thO os d))) (ps_if (pt_val (pv 7)) (pss_one (ps_set (i:=8) scLk.nd rfl (Or.inl rfl) (pe_tup (pa_cons pe_str (pa_cons (pv 3) pa_nil))))) (pss_one (ps_if (LW.pt (pw_and (pt_cmpR (op_neNil hr) (pv 5) (pe_lst pa_nil) (nomark _)) (pw_and1 (pt_cmpR (r:=rInLK K) (op_inLK hr) (pv 4) (pe_ix (r:=rIxL K) ix_list (pe_ix (r:=rIxL K) ix_list (pv 5) pe_int (fun _ _=>rfl)) pe_int (fun _ _=>rfl)) rfl)))) (pss_one (ps_set (i:=8) scLk.nd rfl (Or.inl rfl) (pe_tup (pa_cons pe_str (pa_cons (pv 3) pa_nil))))) pss_nil))) ?due)
   (pss_cons (ps_set (i:=9) scLk.nd rfl (Or.inl rfl) (L3.pe_def dF hr (by decide) rfl (pa_cons (pv 0) (pa_cons (pv 3) pa_nil))))
   (pss_one (ps_ret (pe_and (pe_callB call_isiD rfl g.nIsi b9Isi (pa_cons (pv 9) (pa_cons (pe_bltn (v:=.ty "bool") rfl g.nBool b9Bool rfl) pa_nil))) (pe_and (pe_cmpR op_eq (pv 9) (pv 7) (nomark _)) (pe_one (pe_cmpR (r:=rEqK K) (op_eqK hr) (L3.pe_def dR hr (by decide) rfl (pa_cons (pv 0) (pa_cons (pv 3) pa_nil))) (pv 8) (nomark _)))))))))))))),?main⟩
 case k1=>
  refine ⟨rfl,by decide +kernel,rfl,by decide +kernel,fun y c h=>?_,fun y hy=>?_,rfl,fun j y h=>?_⟩
  ·obtain ⟨rfl,rfl⟩:=look1 h; rfl
  ·have hy':([(".0",.local),("_law_row",.local),("_law_a",.cell)]:List (Str×NameKind)).lookup y=some .cell∨([(".0",.local),("_law_row",.local),("_law_a",.cell)]:List (Str×NameKind)).lookup y=some .free:=hy
   rcases hy' with z | z
   ·have m:=PySem.mem_of_lookup z
    simp at m
    subst m
    exact ⟨_,rfl⟩
   ·have m:=PySem.mem_of_lookup z
    simp at m
  ·match j,h with
   | 0,h=>cases h; exact ⟨3,rfl,rfl,rfl,.inl rfl⟩
   | j+1,h=>simp at h
 case k2=>
  refine ⟨rfl,by decide +kernel,rfl,by decide +kernel,fun y c h=>?_,fun y hy=>?_,rfl,fun j y h=>?_⟩
  ·obtain ⟨rfl,rfl⟩:=look1 h; rfl
  ·have hy':([(".0",.local),("_law_one",.local),("_law_a",.cell)]:List (Str×NameKind)).lookup y=some .cell∨([(".0",.local),("_law_one",.local),("_law_a",.cell)]:List (Str×NameKind)).lookup y=some .free:=hy
   rcases hy' with z | z
   ·have m:=PySem.mem_of_lookup z
    simp at m
    subst m
    exact ⟨_,rfl⟩
   ·have m:=PySem.mem_of_lookup z
    simp at m
  ·match j,h with
   | 0,h=>cases h; exact ⟨3,rfl,rfl,rfl,.inl rfl⟩
   | j+1,h=>simp at h
 case fa=>
  rintro σ H Q ⟨fc,lo,own,e4,e6,hfc,hl,ho,q⟩
  refine ⟨_,e6,Nat.zero_le _,fun pe hpe=>?_⟩
  have s1:Same H (upd H pe (.lst [])):=same_new hpe _
  have e1:SqL K (upd H pe (.lst [])) pe []:=SqL.of upd_same
  revert s1 e1
  generalize upd H pe (.lst [])=H1
  intro s1 e1
  refine ⟨lo,pe,own,rfl,rfl,SqL.of (s1 _ _ hl),e1,_,rfl,?_⟩
  rcases ho with ⟨rfl,hb⟩ | ⟨p,x,rp,qd,rx,nm,q',ys,ns,kr,rfl,hp,hrp,hq',hA,hb⟩
  ·rw[hb] at q
   exact iteF (q _ s1)
  ·refine iteT ⟨_,e4,_,e6,lo,_,_,.ref p,rfl,rfl,SqL.of (s1 _ _ hl),atI_nat (j:=0) rfl,p,_,_,.ref rp,rfl,rfl,SqL.of (s1 _ _ hp),atI_nat (j:=1) rfl,rp,_,_,.ref q',rfl,rfl,SqL.of (s1 _ _ hrp),atI_nat (j:=2) rfl,q',ys,thD 9,ns.map thD,rfl,SqL.of (s1 _ _ hq'),AtAll.same s1 _ _ hA,At.same s1 _ _ hfc,th_dep,?_⟩
   rw[th_any,← hb]
   exact q _ s1
 case due=>
  rintro D0 σ H ⟨x0,x1,x2,x3,x4,x5,x6,x8,fa,d',lk,kvs,rfl,h3,h8,h4,rfl,hk,hkd,qq⟩
  refine ⟨_,rfl,_,rfl,?_⟩
  cases fa with
  | true=>exact iteT ⟨_,rfl,by show 2≤sizeLine; decide,fun t ht=>qq _ _ (same_new ht _) (At.new ht (AtAll2 (At_str.mpr rfl) h3))⟩
  | false=>
   refine iteF ⟨_,rfl,Nat.zero_le _,fun pe hpe=>?_⟩
   have s1:Same H (upd H pe (.lst [])):=same_new hpe _
   have e1:SqL K (upd H pe (.lst [])) pe []:=SqL.of upd_same
   revert s1 e1
   generalize upd H pe (.lst [])=H1
   intro s1 e1
   refine ⟨lk,pe,kvs,rfl,rfl,SqL.of (s1 _ _ hk),e1,_,rfl,?_⟩
   rcases hkd with ⟨rfl,hkd⟩ | ⟨p,x,nm,q,ys,ns,kr,rfl,hp,hq,hA,hkd⟩
   ·rw[hkd] at qq
    exact iteF (iteF (qq _ _ s1 (At.same s1 _ _ h8)))
   ·refine iteT ⟨_,rfl,_,rfl,lk,_,_,.ref p,rfl,rfl,SqL.of (s1 _ _ hk),atI_nat (j:=0) rfl,p,_,_,.ref q,rfl,rfl,SqL.of (s1 _ _ hp),atI_nat (j:=2) rfl,q,ys,thD 9,ns.map thD,rfl,SqL.of (s1 _ _ hq),AtAll.same s1 _ _ hA,At.same s1 _ _ h4,th_dep,_,rfl,?_⟩
    rw[th_any,← hkd]
    cases hz:isFC (thO os d) with
    | true=>
     rw[hz] at qq
     exact iteT ⟨_,rfl,by show 2≤sizeLine; decide,fun t ht=>qq _ _ (s1.trans (same_new ht _)) (At.new ht (AtAll2 (At_str.mpr rfl) (At.same s1 _ _ h3)))⟩
    | false=>
     rw[hz] at qq
     exact iteF (qq _ _ s1 (At.same s1 _ _ h8))
 case main=>
  have hC:=hS.c
  have hrl:=hS.rl
  have hol:=hS.ol
  refine ⟨_,rfl,L.W,L.l,L.g,ps,os,gv0,"Fault",9,rfl,hS.w,by decide +kernel,fun fc hfc=>?_⟩
  refine ⟨_,rfl,L.lr,rfl,⟨_,SqL.of hS.r⟩,[x],⟨rfl,fun j i h=>?_⟩,compG_one (vs:=[x]) rvs.length (fun i=>rvs.getD i .non) (fun j=>eqD (thD (8+j)) d) (fun i v _=>v=rvs.getD i .non) (fun _ _ _ _ _ z=>z) (by have:=hC.hi; omega) (itl_stop (SqL.of hS.r)) (itl_go (SqL.of hS.r)) (itl_yld (SqL.of hS.r)) (fun j H1 Q' hj s1 k=>?_) (fun j H1 D l' Q' hj _ s1 _ _ k=>⟨_,rfl,k _ _ (Same.refl _) rfl⟩) fun lk H1 kvs hlk s1 hl1 hP1=>?_⟩
  ·match j,h with
   | 0,h=>cases h; exact ⟨_,rfl,rfl⟩
   | j+1,h=>simp at h
  ·have e1:rvs[j]?=some rvs[j]:=List.getElem?_eq_getElem hj
   have e2:rvs.getD j .non=rvs[j]:=by rw[List.getD_eq_getElem?_getD,e1]; rfl
   obtain ⟨nm,ns,dk,p,q',xx,ys,ep,ho,hp,hxx,_⟩:=hS.rs j _ e1
   rw[e2,ep]
   refine ⟨_,rfl,p,_,_,xx,rfl,rfl,SqL.of (s1 _ _ hp),atI_nat (j:=0) rfl,_,rfl,thD (8+j),d,At.same s1 _ _ hxx,At.same s1 _ _ hx,by rw[dep_th]; decide,_,rfl,k H1 (Same.refl _)⟩
  have hS1:=hS.same s1
  refine ⟨_,rfl,L.lt,rfl,⟨_,SqL.of hS1.t⟩,[x],⟨rfl,fun j i h=>?_⟩,compG_one (vs:=[x]) tvs.length (fun i=>tvs.getD i .non) (fun t=>eqD (thD (B+t)) d) (fun i v _=>v=tvs.getD i .non) (fun _ _ _ _ _ z=>z) (by
    by_cases h0:tvs.length=0
    ·omega
    ·obtain ⟨_,_,k0,_,_,_,_,_,_,_,_,h1,_⟩:=hS.one (t:=tvs.length - 1) (List.getElem?_eq_getElem (by omega))
     have:=lt_of_some h1
     omega) (itl_stop (SqL.of hS1.t)) (itl_go (SqL.of hS1.t)) (itl_yld (SqL.of hS1.t)) (fun t H2 Q' ht s2 k=>?_) (fun j H2 D l' Q' hj _ s2 _ _ k=>⟨_,rfl,k _ _ (Same.refl _) rfl⟩) fun lo H2 own hlo s2 hl2 hP2=>?_⟩
  ·match j,h with
   | 0,h=>cases h; exact ⟨_,rfl,rfl⟩
   | j+1,h=>simp at h
  ·have e1:tvs[t]?=some tvs[t]:=List.getElem?_eq_getElem ht
   have e2:tvs.getD t .non=tvs[t]:=by rw[List.getD_eq_getElem?_getD,e1]; rfl
   obtain ⟨qd,_,k0,dd,fs,p,rp,xx,dc,dx,ep,ho,hp,hxx,_⟩:=hS1.one e1
   rw[e2,ep]
   refine ⟨_,rfl,p,_,_,xx,rfl,rfl,SqL.of (s2 _ _ hp),atI_nat (j:=0) rfl,_,rfl,thD (B+t),d,At.same s2 _ _ hxx,At.same (s1.trans s2) _ _ hx,by rw[dep_th]; decide,_,rfl,k H2 (Same.refl _)⟩
  have s12:=s1.trans s2
  have hS2:=hS.same s12
  have kinds:(kvs=[]∧isFC (thO os d)=false)∨∃(p:Addr) (xx:V) (nm:Str) (q':Addr) (ys:List V) (ns:List Nat) (kr:List V),kvs=.ref p::kr∧H2 p=some (.lst [xx,.str nm,.ref q'])∧H2 q'=some (.lst ys)∧AtAll K H2 (ns.map thD) ys∧isFC (thO os d)=decide (9∈ns):=by
   rcases pairs_first hP1 with ⟨e,hn⟩ | ⟨j,kr,hj,hb,e⟩
   ·refine .inl ⟨e,?_⟩
    cases hz:isFC (thO os d) with
    | false=>rfl
    | true=>
     exfalso
     rcases hv.cases with ⟨i,rfl,hi⟩ | ⟨_,_,_,_,h0⟩
     ·rw[thO_th] at hz
      cases ho:os[i]? with
      | none=>rw[ho] at hz; cases hz
      | some o=>
       rw[ho] at hz
       cases o with
       | kd nm ns dk=>
        obtain ⟨h8,hB⟩:=hS.st.k i nm ns dk ho
        have:=hn (i - 8) (by omega)
        rw[show 8+(i - 8)=i by omega,eqD_refl] at this
        cases this
       | ob k dd fs=>cases hz
       | gvn n=>cases hz
       | fn=>cases hz
       | vw=>cases hz
     ·rw[h0] at hz; cases hz
   ·have ed:=eqD_thV hv hb
    have e1:rvs[j]?=some rvs[j]:=List.getElem?_eq_getElem hj
    have e2:rvs.getD j .non=rvs[j]:=by rw[List.getD_eq_getElem?_getD,e1]; rfl
    obtain ⟨nm,ns,dk,p,q',xx,ys,ep,ho,hp,hxx,hq,hA,_⟩:=hS2.rs j _ e1
    refine .inr ⟨p,xx,nm,q',ys,ns,kr,by rw[e,e2,ep],hp,hq,hA,?_⟩
    rw[ed,thO_th,ho]; rfl
  refine ⟨fc,lo,own,rfl,rfl,At.same s12 _ _ hfc,hl2,?own,fun H3 s3=>⟨by show 2≤sizeLine; decide,fun t ht=>?_⟩⟩
  case own=>
   rcases pairs_first hP2 with ⟨e,hn⟩ | ⟨t,kr,ht,hb,e⟩
   ·refine .inl ⟨e,?_⟩
    cases hz:isF os (thO os d) with
    | false=>rfl
    | true=>
     obtain ⟨j,k,dd,fs,rfl,ho,_⟩:=hv.isF hz
     obtain ⟨h1,h2⟩:=hS.st.o j k dd fs ho
     have:=hn (j - B) (by omega)
     rw[show B+(j - B)=j by omega,eqD_refl] at this
     cases this
   ·have ed:=eqD_thV hv hb
    have e1:tvs[t]?=some tvs[t]:=List.getElem?_eq_getElem ht
    have e2:tvs.getD t .non=tvs[t]:=by rw[List.getD_eq_getElem?_getD,e1]; rfl
    obtain ⟨qd,_,k0,dd,fs,p,rp,xx,dc,dx,ep,ho,hp,hxx,⟨nm,ns,dk,rp',q',rx,ys,erp,hok,hrp,_,hq',hA,_⟩,_⟩:=hS2.one e1
    cases erp
    refine .inr ⟨p,xx,rp,qd,rx,nm,q',ys,ns,kr,by rw[e,e2,ep],hp,hrp,hq',hA,?_⟩
    rw[ed,isF_ob ho,hok]; rfl
  have s5:Same H3 (upd H3 t (.tup [.str "fault",.str "KindFault"])):=same_new ht _
  have s25:=s3.trans s5
  have s15:=s12.trans s25
  refine ⟨_,_,_,_,_,_,_,_,isF os (thO os d),d,lk,kvs,rfl,At.same s15 _ _ hx,At.new ht (AtAll2 (At_str.mpr rfl) (At_str.mpr rfl)),At.same s15 _ _ hfc,rfl,(s2.trans s25) _ _ hl1,?_,fun y H6 s6 hy=>?_⟩
  ·rcases kinds with h | ⟨p,xx,nm,q',ys,ns,kr,h1,h2,h3,h4,h5⟩
   ·exact .inl h
   ·exact .inr ⟨p,xx,nm,q',ys,ns,kr,h1,s25 _ _ h2,s25 _ _ h3,AtAll.same s25 _ _ h4,h5⟩
  ·have s16:=s15.trans s6
   have hS6:=hS.same s16
   have hx6:=At.same s16 _ _ hx
   refine ⟨_,rfl,_,rfl,L.W,L.l,L.g,ps,os,gv0,x,d,rfl,hS6.w,hx6,hv,hC.wf,by decide +kernel,?_⟩
   refine ⟨_,rfl,_,"bool",.bl _,true,rfl,At_bl.mpr rfl,rfl,_,rfl,iteT ⟨_,rfl,_,rfl,rfl,_,rfl,?_⟩⟩
   rw[decide_eq_true rfl]
   refine iteT ⟨_,rfl,_,rfl,L.W,L.l,L.g,ps,os,gv0,x,d,rfl,hS6.w,hx6,hv,hC.wf,by decide +kernel,fun r H7 s7 hr7=>⟨_,rfl,raiR os d,raiR os d,hr7,At.same s7 _ _ hy,?_,?_⟩⟩
   ·unfold raiR
    have h2:dep (.tup [.str "value",d])≤2:=dep2 (dep_s _ _) hdep
    have h3:dep (.tup [.str "call",d])≤2:=dep2 (dep_s _ _) hdep
    split
    ·exact Nat.le_trans h2 (by decide)
    ·split
     ·exact Nat.le_trans h3 (by decide)
     ·decide +kernel
   ·rw[eqD_refl]
    exact q _ (s16.trans s7)
end
abbrev sNa:Stmt:=topd 84
def clN (os:List Th) (i:Nat):List Nat:=match os[i]? with
 | some (.kd _ ns _)=>ns
 | _=>[]
theorem clN_of {os:List Th} {i:Nat} {nm:Str} {ns:List Nat} {d:Addr} (e:os[i]?=some (.kd nm ns d)):clN os i=ns:=by unfold clN; rw[e]
section
variable {P:Program} {w:World} {K:PySem.W.Frag} {mg:Str→Option Value} {base:Heap} {f:Addr} {fd:FuncData} {c:ClD}
def spFr (K:PySem.W.Frag) (c:ClD):Sp:=fun vs H Q _=>∃(L:Lw) (ps:List Addr) (os:List Th) (B:Nat) (rvs tvs:List V) (qds:List Addr) (t:Nat) (v x:V) (d:D),vs=[.ref L.W,.ref L.lr,v,x]∧LwS K c H L ps os B rvs tvs qds∧tvs[t]?=some v∧At K H d x∧Vd os d∧∀H',Same H H'→Q (.bl true) H'
theorem scFr:FnScope ["_law_world","_law_rows","_law_one","_law_a","_law_kinds"] ["_law_world","_law_rows","_law_one","_law_a"] (defScope sFr):=⟨rfl,rfl,rfl,by decide +kernel,rfl,by decide +kernel,by decide +kernel⟩
theorem ok_Fr (F:Fun K "_law_fits_right" "_law_fits_right" sFr f fd) (dK:Def P w K mg base "known" ["world","name"] 1 (spKn K c)) (dF:Def P w K mg base "fits" ["world","fault","a"] 4 (spFit K c)):FnOk P w K mg base CX0 5 f fd ["_law_world","_law_rows","_law_one","_law_a"] (spFr K c):=by
 refine F.okI scFr (fun vs H Q E h=>?_) (fun cdv A outer s H vs Q E hr h=>?_)
 ·obtain ⟨_,_,_,_,_,_,_,_,_,_,_,rfl,_⟩:=h; rfl
 obtain ⟨L,ps,os,B,rvs,tvs,qds,t,v,x,d,rfl,hS,ht,hx,hv,q⟩:=h
 refine ⟨_,(pss_cons (.mk (L2.ps_setCompG (iy:=4) (cl:=[("_law_world",s.heap.objs.size+1),("_law_a",s.heap.objs.size+2)]) (Xs:=["_law_row"]) (Nf:=["_law_world","_law_a"]) (js:=[0,3]) ?k rfl (LI.out (pi_list (pv 1))) (fun C s0 H0 fp=>LG.out (pg_name (i:=0) (show (["_law_row","_law_world","_law_a"]:List Str).Nodup by decide +kernel) rfl (Or.inl rfl))) (fun C s0 H0 fp=>pts_one (LT.out (LW.pt (pw_and (pt_cmpR (r:=rEqK K) (op_eqK hr) (pe_ix (r:=rIxL K) ix_list (pv 0) pe_int (fun _ _=>rfl)) (pv 2) (nomark _)) (pw_and1 (pt_cmpR (r:=rInLK K) (op_inLK hr) (L3.pe_def dK hr (by decide) rfl (pa_cons (pv 1) (pa_cons pe_str pa_nil))) (pe_ix (r:=rIxL K) ix_list (pv 0) pe_int (fun _ _=>rfl)) rfl)))))) (fun C s0 H0 fp=>LE.out (pv 0)) scFr.nd rfl (Or.inl rfl)))
   (pss_cons (ps_if (pt_cmpR (op_eqNil hr) (pv 4) (pe_lst pa_nil) (nomark _)) (pss_one (ps_ret (pe_cmpR (r:=rEqK K) (op_eqK hr) (L3.pe_def dF hr (by decide) rfl (pa_cons (pv 0) (pa_cons (pe_ix (r:=rIxL K) ix_list (pv 2) pe_int (fun _ _=>rfl)) (pa_cons (pv 3) pa_nil)))) (pe_tup (pa_cons pe_str (pa_cons pe_str pa_nil))) (nomark _)))) pss_nil)
   (pss_one (ps_ret (pe_cmpR (r:=rEqK K) (op_eqK hr) (L3.pe_def dF hr (by decide) rfl (pa_cons (pv 0) (pa_cons (pe_ix (r:=rIxL K) ix_list (pv 2) pe_int (fun _ _=>rfl)) (pa_cons (pv 3) pa_nil)))) (pe_tup (pa_cons pe_str (pa_cons (pe_tup (pa_cons pe_str (pa_cons (pe_cmpR (r:=rInLK K) (op_inLK hr) (pv 3) (pe_ix (r:=rIxL K) ix_list (pe_ix (r:=rIxL K) ix_list (pv 2) pe_int (fun _ _=>rfl)) pe_int (fun _ _=>rfl)) rfl) pa_nil))) pa_nil))) (nomark _)))))),?main⟩
 case k=>
  refine ⟨rfl,by decide +kernel,rfl,by decide +kernel,fun y c h=>?_,fun y hy=>?_,rfl,fun j y h=>?_⟩
  ·rcases look2 h with ⟨rfl,rfl⟩ | ⟨rfl,rfl⟩ <;> rfl
  ·have hy':([(".0",.local),("_law_row",.local),("known",.globalImplicit),("_law_a",.cell),("_law_world",.cell)]:List (Str×NameKind)).lookup y=some .cell∨([(".0",.local),("_law_row",.local),("known",.globalImplicit),("_law_a",.cell),("_law_world",.cell)]:List (Str×NameKind)).lookup y=some .free:=hy
   rcases hy' with z | z
   ·have m:=PySem.mem_of_lookup z
    simp at m
    rcases m with rfl | rfl <;> exact ⟨_,rfl⟩
   ·have m:=PySem.mem_of_lookup z
    simp at m
  ·match j,h with
   | 0,h=>cases h; exact ⟨0,rfl,rfl,rfl,.inl rfl⟩
   | 1,h=>cases h; exact ⟨3,rfl,rfl,rfl,.inl rfl⟩
   | j+2,h=>simp at h
 case main=>
  have hC:=hS.c
  have hrl:=hS.rl
  refine ⟨_,rfl,L.lr,rfl,⟨_,SqL.of hS.r⟩,[.ref L.W,x],⟨rfl,fun j i h=>?_⟩,compG_one (vs:=[.ref L.W,x]) rvs.length (fun i=>rvs.getD i .non) (fun j=>eqD (thD (8+j)) d && decide (9∈clN os (8+j))) (fun i v _=>v=rvs.getD i .non) (fun _ _ _ _ _ z=>z) (by have:=hC.hi; omega) (itl_stop (SqL.of hS.r)) (itl_go (SqL.of hS.r)) (itl_yld (SqL.of hS.r)) (fun j H1 Q' hj s1 k=>?_) (fun j H1 D l' Q' hj _ s1 _ _ k=>⟨_,rfl,k _ _ (Same.refl _) rfl⟩) fun lk H1 kvs hlk s1 hl1 hP1=>?_⟩
  ·match j,h with
   | 0,h=>cases h; exact ⟨_,rfl,rfl⟩
   | 1,h=>cases h; exact ⟨_,rfl,rfl⟩
   | j+2,h=>simp at h
  ·have e1:rvs[j]?=some rvs[j]:=List.getElem?_eq_getElem hj
   have e2:rvs.getD j .non=rvs[j]:=by rw[List.getD_eq_getElem?_getD,e1]; rfl
   obtain ⟨nm,ns,dk,p,q',xx,ys,ep,ho,hp,hxx,hq',hA,_⟩:=hS.rs j _ e1
   rw[clN_of ho] at k
   rw[e2,ep]
   refine ⟨_,rfl,p,_,_,xx,rfl,rfl,SqL.of (s1 _ _ hp),atI_nat (j:=0) rfl,_,rfl,thD (8+j),d,At.same s1 _ _ hxx,At.same s1 _ _ hx,by rw[dep_th]; decide,_,rfl,?_⟩
   cases hb:eqD (thD (8+j)) d with
   | false=>
    rw[hb] at k
    exact iteF (k H1 (Same.refl _))
   | true=>
    rw[hb] at k
    refine iteT ⟨_,rfl,L.W,L.l,L.g,ps,os,gv0,"Fault",9,rfl,hS.w.same s1,by decide +kernel,fun fc hfc=>⟨_,rfl,p,_,_,.ref q',rfl,rfl,SqL.of (s1 _ _ hp),atI_nat (j:=2) rfl,q',ys,thD 9,ns.map thD,rfl,SqL.of (s1 _ _ hq'),AtAll.same s1 _ _ hA,hfc,th_dep,_,rfl,?_⟩⟩
    rw[th_any]
    exact k H1 (Same.refl _)
  have hS1:=hS.same s1
  have hx1:=At.same s1 _ _ hx
  refine ⟨_,rfl,Nat.zero_le _,fun pe hpe=>?_⟩
  have s2:Same H1 (upd H1 pe (.lst [])):=same_new hpe _
  have e2:SqL K (upd H1 pe (.lst [])) pe []:=SqL.of upd_same
  revert s2 e2
  generalize upd H1 pe (.lst [])=H2
  intro s2 e2
  have s12:=s1.trans s2
  have hS2:=hS.same s12
  have hx2:=At.same s12 _ _ hx
  have hw2:=hS2.w
  obtain ⟨qd,_,k0,dd,fs,p,rp,xx,dc,dx,rfl,ho,hp,hxx,⟨nm,ns,dk,rp',q',rx,ys,erp,hok,hrp,_,hq',hA,_⟩,_⟩:=hS2.one ht
  cases erp
  refine ⟨lk,pe,kvs,rfl,rfl,SqL.of (s2 _ _ hl1),e2,_,rfl,?_⟩
  rcases pairs_first hP1 with ⟨e,hn⟩ | ⟨j,kr,hj,hb,e⟩
  ·have hz:isFC (thO os d)=false:=by
    cases hz:isFC (thO os d) with
    | false=>rfl
    | true=>
     exfalso
     rcases hv.cases with ⟨i,rfl,hi⟩ | ⟨_,_,_,_,h0⟩
     ·rw[thO_th] at hz
      cases ho:os[i]? with
      | none=>rw[ho] at hz; cases hz
      | some o=>
       rw[ho] at hz
       cases o with
       | kd nm ns dk=>
        obtain ⟨h8,hB⟩:=hS.st.k i nm ns dk ho
        have:=hn (i - 8) (by omega)
        rw[show 8+(i - 8)=i by omega,eqD_refl,clN_of ho,show decide (9∈ns)=true from hz] at this
        cases this
       | ob k dd fs=>cases hz
       | gvn n=>cases hz
       | fn=>cases hz
       | vw=>cases hz
     ·rw[h0] at hz; cases hz
   rw[e]
   refine iteT ⟨_,rfl,_,rfl,p,_,_,xx,rfl,rfl,SqL.of hp,atI_nat (j:=0) rfl,_,rfl,L.W,L.l,L.g,ps,os,gv0,xx,x,B+t,k0,dd,fs,nm,ns,dk,d,rfl,hw2,hxx,ho,hok,hx2,hv,by decide +kernel,fun r H3 s3 hr3=>⟨by show 2≤sizeLine; decide,fun tp htp=>⟨kF,kF,?_,At.new htp (AtAll2 (At_str.mpr rfl) (At_str.mpr rfl)),by decide +kernel,?_⟩⟩⟩
   ·unfold fitR at hr3
    rw[hz] at hr3
    exact At.same (same_new htp _) _ _ hr3
   ·rw[eqD_refl]
    exact q _ ((s12.trans s3).trans (same_new htp _))
  ·rw[Bool.and_eq_true] at hb
   have ed:=eqD_thV hv hb.1
   have h9:=of_decide_eq_true hb.2
   have hz:isFC (thO os d)=true:=by
    obtain ⟨nm2,rest,d2,e2',_⟩:=hC.kd (8+j) (by omega) (by omega)
    rw[clN_of e2'] at h9
    rw[ed,thO_th,e2']
    exact decide_eq_true h9
   rw[e]
   refine iteF ⟨_,rfl,_,rfl,p,_,_,xx,rfl,rfl,SqL.of hp,atI_nat (j:=0) rfl,_,rfl,L.W,L.l,L.g,ps,os,gv0,xx,x,B+t,k0,dd,fs,nm,ns,dk,d,rfl,hw2,hxx,ho,hok,hx2,hv,by decide +kernel,fun r H3 s3 hr3=>?_⟩
   unfold fitR at hr3
   rw[hz,if_pos rfl] at hr3
   refine ⟨_,rfl,_,rfl,p,_,_,.ref rp,rfl,rfl,SqL.of (s3 _ _ hp),atI_nat (j:=1) rfl,rp,_,_,.ref q',rfl,rfl,SqL.of (s3 _ _ hrp),atI_nat (j:=2) rfl,q',ys,d,ns.map thD,rfl,SqL.of (s3 _ _ hq'),AtAll.same s3 _ _ hA,At.same s3 _ _ hx2,th_dep,by show 2≤sizeLine; decide,fun t1 ht1=>⟨by show 2≤sizeLine; decide,fun t2 ht2=>⟨_,_,At.same ((same_new ht1 _).trans (same_new ht2 _)) _ _ hr3,At.new ht2 (AtAll2 (At_str.mpr rfl) (At.new ht1 (AtAll2 (At_str.mpr rfl) (At_bl.mpr rfl)))),?_,?_⟩⟩⟩
   ·exact Nat.le_trans (dep2 (n:=1) (dep_s _ _) (dep2 (n:=0) (dep_s _ _) (by rw[dep_bl]; exact Nat.le_refl _))) (by decide)
   ·rw[eqD_refl]
    exact q _ ((s12.trans s3).trans ((same_new ht1 _).trans (same_new ht2 _)))
def spNa (K:PySem.W.Frag) (c:ClD):Sp:=fun vs H Q _=>∃(L:Lw) (ps:List Addr) (os:List Th) (B:Nat) (rvs tvs:List V) (qds:List Addr) (t:Nat) (v:V),vs=[.ref L.W,.ref L.lt,v]∧LwS K c H L ps os B rvs tvs qds∧tvs[t]?=some v∧isF os os[B+t]?=true∧∀p H',Same H H'→H' p=some (.lst ((nmsO os 8 (some (B+t))).map V.str))→Q (.ref p) H'
theorem scNa:FnScope ["_law_world","_law_things","_law_one","_law_found","_law_faults","_law_ways"] ["_law_world","_law_things","_law_one"] (defScope sNa):=⟨rfl,rfl,rfl,by decide +kernel,rfl,by decide +kernel,by decide +kernel⟩
theorem ok_Na (g:Glb9 mg) (F:Fun K "_law_names" "_law_names" sNa f fd) (dK:Def P w K mg base "known" ["world","name"] 1 (spKn K c)):FnOk P w K mg base CX0 2 f fd ["_law_world","_law_things","_law_one"] (spNa K c):=by
 refine F.okI scNa (fun vs H Q E h=>?_) (fun cdv A outer s H vs Q E hr h=>?_)
 ·obtain ⟨_,_,_,_,_,_,_,_,_,rfl,_⟩:=h; rfl
 obtain ⟨L,ps,os,B,rvs,tvs,qds,t0,v0,rfl,hS,ht0,hf0,q⟩:=h
 refine ⟨_,(pss_cons (ps_set (i:=3) scNa.nd rfl (Or.inl rfl) (pe_lst pa_nil))
   (pss_cons (.mk (L2.ps_setCompG (iy:=4) (cl:=[("_law_world",s.heap.objs.size+1)]) (Xs:=["_law_other"]) (Nf:=["_law_world"]) (js:=[0]) ?k1 rfl (LI.out (pi_list (pv 1))) (fun C s0 H0 fp=>LG.out (pg_name (i:=0) (show (["_law_other","_law_world"]:List Str).Nodup by decide +kernel) rfl (Or.inl rfl))) (fun C s0 H0 fp=>pts_one (LT.out (pt_cmpR (r:=rInLK K) (op_inLK hr) (L3.pe_def dK hr (by decide) rfl (pa_cons (pv 1) (pa_cons pe_str pa_nil))) (pe_ix (r:=rIxL K) ix_list (pe_ix (r:=rIxL K) ix_list (pv 0) pe_int (fun _ _=>rfl)) pe_int (fun _ _=>rfl)) rfl))) (fun C s0 H0 fp=>LE.out (pv 0)) scNa.nd rfl (Or.inl rfl)))
   (pss_cons (ps_while PassesOwn.never (LW.pt (pw_and (pt_cmpR op_notN (pv 2) pe_non (nomark _)) (pw_and1 (pt_cmpR op_lt (pe_callB call_len_seq rfl g.nLen b9Len (pa_cons (pv 3) pa_nil)) pe_int (nomark _))))) (pss_cons (ps_expr (pe_bm PySem.F.plainAttrs_list PySem.F.slot_list_append PySem.F.type_list_append mt_append (pv 3) (pa_cons (pe_ix (r:=rIxL K) ix_list (pe_ix (r:=rIxL K) ix_list (pv 2) pe_int (fun _ _=>rfl)) pe_int (fun _ _=>rfl)) pa_nil)))
   (pss_cons (.mk (L2.ps_setCompG (iy:=5) (cl:=[("_law_one",s.heap.objs.size+2)]) (Xs:=["_law_other"]) (Nf:=["_law_one"]) (js:=[2]) ?k2 rfl (LI.out (pi_list (pv 4))) (fun C s0 H0 fp=>LG.out (pg_name (i:=0) (show (["_law_other","_law_one"]:List Str).Nodup by decide +kernel) rfl (Or.inl rfl))) (fun C s0 H0 fp=>pts_one (LT.out (pt_cmpR (r:=rEqK K) (op_eqK hr) (pe_ix (r:=rIxL K) ix_list (pv 0) pe_int (fun _ _=>rfl)) (L3.pe_dget (hu_of hr) (pe_ix (r:=rIxL K) ix_list (pv 1) pe_int (fun _ _=>rfl)) pe_str) (nomark _)))) (fun C s0 H0 fp=>LE.out (pv 0)) scNa.nd rfl (Or.inl rfl)))
   (pss_cons (ps_set (i:=5) scNa.nd rfl (Or.inl rfl) (pe_op op_cat (pv 5) (.mk (L2.pe_compG (cl:=[("_law_one",s.heap.objs.size+2)]) (Xs:=["_law_other"]) (Nf:=["_law_one"]) (js:=[2]) ?k3 rfl (LI.out (pi_list (pv 4))) (fun C s0 H0 fp=>LG.out (pg_name (i:=0) (show (["_law_other","_law_one"]:List Str).Nodup by decide +kernel) rfl (Or.inl rfl))) (fun C s0 H0 fp=>pts_one (LT.out (pt_cmpR (r:=rEqK K) (op_eqK hr) (pe_ix (r:=rIxL K) ix_list (pv 0) pe_int (fun _ _=>rfl)) (L3.pe_dget (hu_of hr) (pe_ix (r:=rIxL K) ix_list (pv 1) pe_int (fun _ _=>rfl)) pe_str) (nomark _)))) (fun C s0 H0 fp=>LE.out (pv 0))))))
   (pss_one (ps_set (i:=2) scNa.nd rfl (Or.inr rfl) (pe_ifExp (pt_cmpR (op_neNil hr) (pv 5) (pe_lst pa_nil) (nomark _)) (pe_ix (r:=rIxL K) ix_list (pv 5) pe_int (fun _ _=>rfl)) pe_non)))))))
   (pss_one (ps_ret (pv 3)))))),?main⟩
 case k1=>
  refine ⟨rfl,by decide +kernel,rfl,by decide +kernel,fun y c h=>?_,fun y hy=>?_,rfl,fun j y h=>?_⟩
  ·obtain ⟨rfl,rfl⟩:=look1 h; rfl
  ·have hy':([(".0",.local),("_law_other",.local),("known",.globalImplicit),("_law_world",.cell)]:List (Str×NameKind)).lookup y=some .cell∨([(".0",.local),("_law_other",.local),("known",.globalImplicit),("_law_world",.cell)]:List (Str×NameKind)).lookup y=some .free:=hy
   rcases hy' with z | z
   ·have m:=PySem.mem_of_lookup z
    simp at m
    subst m
    exact ⟨_,rfl⟩
   ·have m:=PySem.mem_of_lookup z
    simp at m
  ·match j,h with
   | 0,h=>cases h; exact ⟨0,rfl,rfl,rfl,.inl rfl⟩
   | j+1,h=>simp at h
 case k2=>
  refine ⟨rfl,by decide +kernel,rfl,by decide +kernel,fun y c h=>?_,fun y hy=>?_,rfl,fun j y h=>?_⟩
  ·obtain ⟨rfl,rfl⟩:=look1 h; rfl
  ·have hy':([(".0",.local),("_law_other",.local),("_law_one",.cell)]:List (Str×NameKind)).lookup y=some .cell∨([(".0",.local),("_law_other",.local),("_law_one",.cell)]:List (Str×NameKind)).lookup y=some .free:=hy
   rcases hy' with z | z
   ·have m:=PySem.mem_of_lookup z
    simp at m
    subst m
    exact ⟨_,rfl⟩
   ·have m:=PySem.mem_of_lookup z
    simp at m
  ·match j,h with
   | 0,h=>cases h; exact ⟨2,rfl,rfl,rfl,.inl rfl⟩
   | j+1,h=>simp at h
 case k3=>
  refine ⟨rfl,by decide +kernel,rfl,by decide +kernel,fun y c h=>?_,fun y hy=>?_,rfl,fun j y h=>?_⟩
  ·obtain ⟨rfl,rfl⟩:=look1 h; rfl
  ·have hy':([(".0",.local),("_law_other",.local),("_law_one",.cell)]:List (Str×NameKind)).lookup y=some .cell∨([(".0",.local),("_law_other",.local),("_law_one",.cell)]:List (Str×NameKind)).lookup y=some .free:=hy
   rcases hy' with z | z
   ·have m:=PySem.mem_of_lookup z
    simp at m
    subst m
    exact ⟨_,rfl⟩
   ·have m:=PySem.mem_of_lookup z
    simp at m
  ·match j,h with
   | 0,h=>cases h; exact ⟨2,rfl,rfl,rfl,.inl rfl⟩
   | j+1,h=>simp at h
 case main=>
  have tlen:tvs.length≤100:=by
   by_cases h0:tvs.length=0
   ·omega
   ·obtain ⟨_,_,k0,_,_,_,_,_,_,_,_,h1,_⟩:=hS.one (t:=tvs.length - 1) (List.getElem?_eq_getElem (by omega))
    have:=lt_of_some h1
    have:=hS.ol
    omega
  refine ⟨Nat.zero_le _,fun pn hpn=>?_⟩
  have s0:Same H (upd H pn (.lst [])):=same_new hpn _
  have l0:upd H pn (.lst []) pn=some (.lst []):=upd_same
  revert s0 l0
  generalize upd H pn (.lst [])=H0
  intro s0 l0
  have hS0:=hS.same s0
  refine ⟨_,rfl,L.lt,rfl,⟨_,SqL.of hS0.t⟩,[.ref L.W],⟨rfl,fun j i h=>?_⟩,compG_one (vs:=[.ref L.W]) tvs.length (fun i=>tvs.getD i .non) (fun t=>isF os os[B+t]?) (fun i v _=>v=tvs.getD i .non) (fun _ _ _ _ _ z=>z) (by omega) (itl_stop (SqL.of hS0.t)) (itl_go (SqL.of hS0.t)) (itl_yld (SqL.of hS0.t)) (fun t H1 Q' ht s1 k=>?_) (fun j H1 D l' Q' hj _ s1 _ _ k=>⟨_,rfl,k _ _ (Same.refl _) rfl⟩) fun lf H1 fvs hlf s1 hl1 hP1=>?_⟩
  ·match j,h with
   | 0,h=>cases h; exact ⟨_,rfl,rfl⟩
   | j+1,h=>simp at h
  ·have e1:tvs[t]?=some tvs[t]:=List.getElem?_eq_getElem ht
   have e2:tvs.getD t .non=tvs[t]:=by rw[List.getD_eq_getElem?_getD,e1]; rfl
   obtain ⟨qd,_,k0,dd,fs,p,rp,xx,dc,dx,ep,ho,hp,hxx,⟨nm,ns,dk,rp',q',rx,ys,erp,hok,hrp,_,hq',hA,_⟩,_⟩:=hS0.one e1
   cases erp
   rw[ho] at k
   have hk:isF os (some (.ob k0 dd fs))=decide (9∈ns):=by
    show isFC os[k0]?=_
    rw[hok]; rfl
   rw[hk] at k
   rw[e2,ep]
   refine ⟨_,rfl,L.W,L.l,L.g,ps,os,gv0,"Fault",9,rfl,hS0.w.same s1,by decide +kernel,fun fc hfc=>⟨_,rfl,p,_,_,.ref rp,rfl,rfl,SqL.of (s1 _ _ hp),atI_nat (j:=1) rfl,rp,_,_,.ref q',rfl,rfl,SqL.of (s1 _ _ hrp),atI_nat (j:=2) rfl,q',ys,thD 9,ns.map thD,rfl,SqL.of (s1 _ _ hq'),AtAll.same s1 _ _ hA,hfc,th_dep,_,rfl,?_⟩⟩
   rw[th_any]
   exact k H1 (Same.refl _)
  have ef:=hP1.eq
  generalize efts:(List.range tvs.length).filter (fun t=>isF os os[B+t]?)=fts at ef
  have hfts:∀(u:Nat) (t:Nat),fts[u]?=some t→t < tvs.length∧isF os os[B+t]?=true:=fun u t e=>by
   have hm:=List.mem_of_getElem? e
   rw[← efts,List.mem_filter] at hm
   exact ⟨List.mem_range.mp hm.1,hm.2⟩
  have hall:∀t,t < tvs.length→isF os os[B+t]?=true→∃u:Nat,u < fts.length∧fts[u]?=some t:=fun t h1 h2=>by
   have hm:t∈fts:=by rw[← efts,List.mem_filter]; exact ⟨List.mem_range.mpr h1,h2⟩
   obtain ⟨u,hu,e⟩:=List.getElem_of_mem hm
   exact ⟨u,hu,by rw[List.getElem?_eq_getElem hu,e]⟩
  have lfv:fvs.length=fts.length:=by rw[ef,List.length_map]
  have lft:fts.length≤tvs.length:=by rw[← efts]; exact Nat.le_trans (List.length_filter_le ..) (by rw[List.length_range]; exact Nat.le_refl _)
  have fvAt:∀u,u < fts.length→∃t,fts.getD u 0=t∧fts[u]?=some t∧tvs[t]?=some (fvs.getD u .non):=fun u hu=>by
   have e1:fts[u]?=some fts[u]:=List.getElem?_eq_getElem hu
   refine ⟨fts[u],by rw[List.getD_eq_getElem?_getD,e1]; rfl,e1,?_⟩
   have h1:=(hfts u _ e1).1
   rw[ef,List.getD_eq_getElem?_getD,List.getElem?_map,e1]
   show _=some (tvs.getD fts[u] .non)
   rw[List.getD_eq_getElem?_getD,List.getElem?_eq_getElem h1]; rfl
  have npl:pn≠lf:=fun y=>by rw[← y,l0] at hlf; cases hlf
  have nlf0:H lf=none:=none_of s0 hlf
  refine ⟨fun m σ H'=>∃(v:V) (o5:Option V) (bh:Option Nat) (acc:List Str),σ=[some (.ref L.W),some (.ref L.lt),some v,some (.ref pn),some (.ref lf),o5]∧Same H H'∧H' lf=some (.lst fvs)∧H' pn=some (.lst (acc.map V.str))∧acc.length+m=8∧acc++nmsO os m (bh.map (B+·))=nmsO os 8 (some (B+t0))∧((bh=none∧v=.non)∨∃t,bh=some t∧tvs[t]?=some v∧isF os os[B+t]?=true),⟨8,v0,_,some t0,[],rfl,s0.trans s1,hl1,s1 _ _ l0,rfl,rfl,.inr ⟨t0,rfl,ht0,hf0⟩⟩,?_⟩
  clear hP1 s1 l0 s0 hS0 hl1
  rintro m σ H1 ⟨v,o5,bh,acc,rfl,s1,hlf1,l1,hm,hacc,hb⟩
  rcases hb with ⟨rfl,rfl⟩ | ⟨t,rfl,ht,hft⟩
  ·refine ⟨_,rfl,rfl,_,rfl,iteF (iteF ⟨_,rfl,q _ _ s1 ?_⟩)⟩
   rw[← hacc]
   have:nmsO os m (Option.map (B+·) none)=[]:=by cases m <;> rfl
   rw[this,List.append_nil]
   exact l1
  ·have hS1:=hS.same s1
   obtain ⟨qd,hqd,k0,dd,fs,p,rp,xx,dc,dx,rfl,ho,hp,hxx,⟨nm,ns,dk,rp',q',rx,ys,erp,hok,hrp,_,hq',hA,_⟩,⟨va,vb,hd2,ha2,hb2⟩,_,hfx⟩:=hS1.one ht
   cases erp
   have hft':isFC os[k0]?=true:=by rw[ho] at hft; exact hft
   obtain ⟨wd,rfl⟩:=hfx hft'
   obtain ⟨hvc,hvx⟩:=hS.f.v (B+t) k0 dd _ ho
   refine ⟨_,rfl,rfl,_,rfl,iteT ⟨_,rfl,pn,_,rfl,.inl (SqL.of l1),_,_,rfl,rfl,_,rfl,?_⟩⟩
   rw[List.length_map]
   cases m with
   | zero=>
    rw[decide_eq_false (by omega)]
    refine iteF ⟨_,rfl,q _ _ s1 ?_⟩
    rw[← hacc]
    have:nmsO os 0 (Option.map (B+·) (some t))=[]:=rfl
    rw[this,List.append_nil]
    exact l1
   | succ m=>
    rw[decide_eq_true (by omega)]
    refine iteT ⟨fun σ' H'=>∃(v:V) (o5:Option V) (bh:Option Nat) (acc:List Str),σ'=[some (.ref L.W),some (.ref L.lt),some v,some (.ref pn),some (.ref lf),o5]∧Same H H'∧H' lf=some (.lst fvs)∧H' pn=some (.lst (acc.map V.str))∧acc.length+m=8∧acc++nmsO os m (bh.map (B+·))=nmsO os 8 (some (B+t0))∧((bh=none∧v=.non)∨∃t,bh=some t∧tvs[t]?=some v∧isF os os[B+t]?=true),fun σ' H' h=>⟨m,Nat.lt_succ_self _,h⟩,?_⟩
    refine ⟨_,rfl,.inl ⟨rfl,_,SqL.of l1⟩,_,rfl,p,_,_,.ref rp,rfl,rfl,SqL.of hp,atI_nat (j:=1) rfl,rp,_,_,.str nm,rfl,rfl,SqL.of hrp,atI_nat (j:=1) rfl,pn,_,.str nm,rfl,rfl,l1,small1000 (by rw[List.length_map]; omega),?_⟩
    have enm:nmO os (B+t)=nm:=by unfold nmO; rw[ho]; simp only; rw[hok]
    have efx:fxO os (B+t)=(wd,dc,dx):=by unfold fxO; rw[ho]
    have s2:Same H (upd H1 pn (.lst (acc.map V.str++[.str nm]))):=same_upd s1 hpn _
    have l2:upd H1 pn (.lst (acc.map V.str++[.str nm])) pn=some (.lst ((acc++[nm]).map V.str)):=by rw[upd_same,List.map_append]; rfl
    have f2:upd H1 pn (.lst (acc.map V.str++[.str nm])) lf=some (.lst fvs):=by rw[upd_ne (Ne.symm npl)]; exact hlf1
    revert s2 l2 f2
    generalize upd H1 pn (.lst (acc.map V.str++[.str nm]))=H2
    intro s2 l2 f2
    clear hp hrp hxx hA hq' ha2 hb2 hd2 l1 hlf1 hS1
    have hS2:=hS.same s2
    obtain ⟨qd',hqd',k0',dd',fs',p',rp',xx',dc',dx',ep',ho',hp,hxx,_,⟨va,vb,hd2,ha2,hb2⟩,_,hfx'⟩:=hS2.one ht
    rw[hqd] at hqd'
    cases hqd'
    cases ep'
    rw[ho] at ho'
    cases ho'
    obtain ⟨wd',ew⟩:=hfx' hft'
    cases ew
    clear hfx' hfx
    have way:∀(H3:Hp) (u:Nat) (key:Str) (vv:V) (dk:D) (Q':Bool→Hp→Prop),Same H2 H3→u < fts.length→valV (d2K va vb) (.inr key:Key)=some vv→At K H2 dk vv→(∀H4,Same H3 H4→Q' (eqD (thD (B+fts.getD u 0)) dk) H4)→tTest (tOp (rEqK K) (tOp (rIxL K) (tVar 0) (tC (.int 0))) (tDGet (tOp (rIxL K) (tVar 1) (tC (.int 2))) (tC (.str key)))) [some (fvs.getD u .non),some (.ref p)] H3 Q':=fun H3 u key vv dk Q' s3 hu hval hAv k=>by
     obtain ⟨t1,e1,e2,e3⟩:=fvAt u hu
     obtain ⟨q1,_,k1,d1,fs1,p1,rp1,x1,_,_,ep1,ho1,hp1,hx1,_⟩:=hS2.one e3
     rw[e1] at k
     rw[ep1]
     have gd:=DGet.k (k:=.inr key) (s3 _ _ hd2)
     rw[hval] at gd
     exact ⟨_,rfl,p1,_,_,x1,rfl,rfl,SqL.of (s3 _ _ hp1),atI_nat (j:=0) rfl,_,rfl,p,_,_,.ref qd,rfl,rfl,SqL.of (s3 _ _ hp),atI_nat (j:=2) rfl,qd,vv,rfl,gd,thD (B+t1),dk,At.same s3 _ _ hx1,At.same s3 _ _ hAv,by rw[dep_th]; decide,_,rfl,k H3 (Same.refl _)⟩
    refine ⟨_,rfl,lf,rfl,⟨_,SqL.of f2⟩,[.ref p],⟨rfl,fun j i h=>?_⟩,compG_one (vs:=[.ref p]) fvs.length (fun i=>fvs.getD i .non) (fun u=>eqD (thD (B+fts.getD u 0)) dc) (fun i v _=>v=fvs.getD i .non) (fun _ _ _ _ _ z=>z) (by omega) (itl_stop (SqL.of f2)) (itl_go (SqL.of f2)) (itl_yld (SqL.of f2)) (fun u H3 Q' hu s3 k=>way H3 u "cause" va dc Q' s3 (by omega) (d2K_val va vb).1 ha2 k) (fun j H1 D l' Q' hj _ s1 _ _ k=>⟨_,rfl,k _ _ (Same.refl _) rfl⟩) fun lw1 H3 w1 hlw1 s3 hl3 hPa=>?_⟩
    ·match j,h with
     | 0,h=>cases h; exact ⟨_,rfl,rfl⟩
     | j+1,h=>simp at h
    have f3:=s3 _ _ f2
    refine ⟨_,rfl,_,rfl,lf,rfl,⟨_,SqL.of f3⟩,[.ref p],⟨rfl,fun j i h=>?_⟩,compG_one (vs:=[.ref p]) fvs.length (fun i=>fvs.getD i .non) (fun u=>eqD (thD (B+fts.getD u 0)) dx) (fun i v _=>v=fvs.getD i .non) (fun _ _ _ _ _ z=>z) (by omega) (itl_stop (SqL.of f3)) (itl_go (SqL.of f3)) (itl_yld (SqL.of f3)) (fun u H4 Q' hu s4 k=>way H4 u "context" vb dx Q' (s3.trans s4) (by omega) (d2K_val va vb).2 hb2 k) (fun j H1 D l' Q' hj _ s1 _ _ k=>⟨_,rfl,k _ _ (Same.refl _) rfl⟩) fun lw2 H4 w2 hlw2 s4 hl4 hPb=>?_⟩
    ·match j,h with
     | 0,h=>cases h; exact ⟨_,rfl,rfl⟩
     | j+1,h=>simp at h
    have lw:w1.length≤100∧w2.length≤100:=by
     refine ⟨?_,?_⟩
     ·rw[hPa.len]; exact Nat.le_trans (List.length_filter_le ..) (by rw[List.length_range]; omega)
     ·rw[hPb.len]; exact Nat.le_trans (List.length_filter_le ..) (by rw[List.length_range]; omega)
    refine ⟨lw1,lw2,w1,w2,rfl,rfl,s4 _ _ hl3,hl4,small (by omega),fun lw3 hlw3=>?_⟩
    have s25:Same H2 (upd H4 lw3 (.lst (w1++w2))):=(s3.trans s4).trans (same_new hlw3 _)
    have l5:upd H4 lw3 (.lst (w1++w2)) lw3=some (.lst (w1++w2)):=upd_same
    revert s25 l5
    generalize upd H4 lw3 (.lst (w1++w2))=H5
    intro s25 l5
    refine ⟨_,rfl,Nat.zero_le _,fun pe hpe=>?_⟩
    have s26:Same H2 (upd H5 pe (.lst [])):=s25.trans (same_new hpe _)
    have l6:upd H5 pe (.lst []) lw3=some (.lst (w1++w2)):=same_new hpe _ _ _ l5
    have e6:SqL K (upd H5 pe (.lst [])) pe []:=SqL.of upd_same
    revert s26 l6 e6
    generalize upd H5 pe (.lst [])=H6
    intro s26 l6 e6
    refine ⟨lw3,pe,_,rfl,rfl,SqL.of l6,e6,_,rfl,?_⟩
    have step:∀(bh:Option Nat) (v:V),behI os (wd,dc,dx)=bh.map (B+·)→((bh=none∧v=.non)∨∃t,bh=some t∧tvs[t]?=some v∧isF os os[B+t]?=true)→∃(v':V) (o5:Option V) (bh:Option Nat) (acc:List Str),[some (.ref L.W),some (.ref L.lt),some v,some (.ref pn),some (.ref lf),some (.ref lw3)]=[some (.ref L.W),some (.ref L.lt),some v',some (.ref pn),some (.ref lf),o5]∧Same H H6∧H6 lf=some (.lst fvs)∧H6 pn=some (.lst (acc.map V.str))∧acc.length+m=8∧acc++nmsO os m (bh.map (B+·))=nmsO os 8 (some (B+t0))∧((bh=none∧v'=.non)∨∃t,bh=some t∧tvs[t]?=some v'∧isF os os[B+t]?=true):=fun bh v e h=>by
     refine ⟨v,_,bh,acc++[nm],rfl,s2.trans s26,s26 _ _ f2,s26 _ _ l2,by rw[List.length_append,List.length_singleton]; omega,?_,h⟩
     rw[← hacc,List.append_assoc,← e]
     show _=acc++(nmO os (B+t)::nmsO os m (behI os (fxO os (B+t))))
     rw[enm,efx]; rfl
    have found:∀(u:Nat) (dk:D),u < fts.length→Vd os dk→eqD (thD (B+fts.getD u 0)) dk=true→∃t1,dk=thD (B+t1)∧tvs[t1]?=some (fvs.getD u .non)∧isF os os[B+t1]?=true∧isF os (thO os dk)=true∧thI dk=some (B+t1):=fun u dk hu hvd hbk=>by
     obtain ⟨t1,e1,e2,e3⟩:=fvAt u hu
     rw[e1] at hbk
     have ed:=eqD_thV hvd hbk
     have:=(hfts u t1 e2).2
     exact ⟨t1,ed,e3,this,by rw[ed,thO_th]; exact this,by rw[ed,thI_th]⟩
    have nofound:∀(dk:D),Vd os dk→(∀u,u < fvs.length→eqD (thD (B+fts.getD u 0)) dk=false)→isF os (thO os dk)=false:=fun dk hvd hno=>by
     cases hz:isF os (thO os dk) with
     | false=>rfl
     | true=>
      obtain ⟨j,k,d3,fs3,rfl,ho3,hf3⟩:=hvd.isF hz
      obtain ⟨h1,h2⟩:=hS.st.o j k d3 fs3 ho3
      obtain ⟨u,hu,eu⟩:=hall (j - B) (by omega) (by rw[show B+(j - B)=j by omega,ho3]; exact hf3)
      have:=hno u (by omega)
      rw[List.getD_eq_getElem?_getD,eu] at this
      have:eqD (thD (B+(j - B))) (thD j)=false:=this
      rw[show B+(j - B)=j by omega,eqD_refl] at this
      cases this
    rcases pairs_first hPa with ⟨ea,hna⟩ | ⟨u,kr,hu,hbu,ea⟩
    ·have nc:=nofound dc hvc hna
     rcases pairs_first hPb with ⟨eb,hnb⟩ | ⟨u,kr,hu,hbu,eb⟩
     ·rw[ea,eb]
      refine iteF (step none .non ?_ (.inl ⟨rfl,rfl⟩))
      unfold behI
      rw[nc,nofound dx hvx hnb]; rfl
     ·obtain ⟨t1,ed,e3,e4,e5,e6'⟩:=found u dx (by omega) hvx hbu
      rw[ea,eb] at l6 ⊢
      refine iteT ⟨_,rfl,lw3,_,_,_,rfl,rfl,SqL.of l6,atI_nat (j:=0) rfl,step (some t1) _ ?_ (.inr ⟨t1,rfl,e3,e4⟩)⟩
      unfold behI
      rw[nc,e5,if_neg Bool.false_ne_true,if_pos rfl,e6']; rfl
    ·obtain ⟨t1,ed,e3,e4,e5,e6'⟩:=found u dc (by omega) hvc hbu
     rw[ea] at l6 ⊢
     refine iteT ⟨_,rfl,lw3,_,_,_,rfl,rfl,SqL.of l6,atI_nat (j:=0) rfl,step (some t1) _ ?_ (.inr ⟨t1,rfl,e3,e4⟩)⟩
     unfold behI
     rw[e5,if_pos rfl,e6']; rfl
end
abbrev sBd:Stmt:=topd 85
section
variable {os:List Th} {i k:Nat} {d:Addr} {fs fs':Option (D×D×D)}
theorem isFC_set (e:os[i]?=some (.ob k d fs)) (m:Nat):isFC (os.set i (.ob k d fs'))[m]?=isFC os[m]?:=by
 by_cases hm:m=i
 ·subst hm
  rw[List.getElem?_set_self (lt_of_some e),e]; rfl
 ·rw[List.getElem?_set_ne (Ne.symm hm)]
theorem isF_set (e:os[i]?=some (.ob k d fs)) (m:Nat):isF (os.set i (.ob k d fs')) (os.set i (.ob k d fs'))[m]?=isF os os[m]?:=by
 by_cases hm:m=i
 ·subst hm
  rw[List.getElem?_set_self (lt_of_some e),e]
  exact isFC_set e k
 ·rw[List.getElem?_set_ne (Ne.symm hm)]
  cases ho:os[m]? with
  | none=>rfl
  | some o=>
   cases o with
   | ob k' d' fs''=>exact isFC_set e k'
   | kd nm ns d'=>rfl
   | gvn n=>rfl
   | fn=>rfl
   | vw=>rfl
theorem ob_set (e:os[i]?=some (.ob k d fs)) {j k':Nat} {d':Addr} {f':Option (D×D×D)} (h:(os.set i (.ob k d fs'))[j]?=some (.ob k' d' f')):(j=i∧k'=k∧d'=d∧f'=fs')∨(j≠i∧os[j]?=some (.ob k' d' f')):=by
 by_cases hj:j=i
 ·subst hj
  rw[List.getElem?_set_self (lt_of_some e)] at h
  cases h
  exact .inl ⟨rfl,rfl,rfl,rfl⟩
 ·rw[List.getElem?_set_ne (Ne.symm hj)] at h
  exact .inr ⟨hj,h⟩
theorem kd_set (e:os[i]?=some (.ob k d fs)) {j:Nat} {nm:Str} {ns:List Nat} {d':Addr} (h:(os.set i (.ob k d fs'))[j]?=some (.kd nm ns d')):os[j]?=some (.kd nm ns d'):=by
 by_cases hj:j=i
 ·subst hj
  rw[List.getElem?_set_self (lt_of_some e)] at h
  cases h
 ·rw[List.getElem?_set_ne (Ne.symm hj)] at h
  exact h
theorem WfO.set (h:WfO os) (e:os[i]?=some (.ob k d fs)):WfO (os.set i (.ob k d fs')):=by
 have ko:KpO os (os.set i (.ob k d fs')):=KpO.set e
 refine ⟨fun j nm ns d' ej n hn=>?_,fun j k' d' f' ej=>?_⟩
 ·obtain ⟨a,b,c',e'⟩:=h.k j nm ns d' (kd_set e ej) n hn
  exact ⟨a,b,c',ko.kd e'⟩
 ·rcases ob_set e ej with ⟨rfl,rfl,rfl,rfl⟩ | ⟨_,ej⟩
  ·obtain ⟨a,b,c',e'⟩:=h.o _ _ _ _ e
   exact ⟨a,b,c',ko.kd e'⟩
  ·obtain ⟨a,b,c',e'⟩:=h.o _ _ _ _ ej
   exact ⟨a,b,c',ko.kd e'⟩
end
def FvOk (os:List Th) (B:Nat) (tvs fvs:List V):Prop:=∀v∈fvs,∃t:Nat,tvs[t]?=some v∧isF os os[B+t]?=true
section
variable {K:PySem.W.Frag} {c:ClD} {H H1 H2:Hp} {L:Lw} {ps:List Addr} {os:List Th} {B:Nat} {rvs tvs:List V} {qds:List Addr} {t k:Nat} {v:V} {qd d:Addr} {w' wd dc dx dc' dx':D}
theorem LwS.wlaw (hS:LwS K c H L ps os B rvs tvs qds) (hq:qds[t]?=some qd) {dc1 dx1:D} (d0:D2At K H qd dc1 dx1) (b1:But9 qd H H1):WAt K c H1 L.W L.l L.g ps os gv0:=by
 obtain ⟨nw,ng⟩:=hS.qw qd (List.mem_of_getElem? hq)
 obtain ⟨a,b,h0,_⟩:=d0
 refine hS.w.keep fun p o e e2 e3=>b1 p o (fun y=>?_) e
 rw[y,h0] at e; cases e
 rcases e3 _ rfl with z | z
 ·exact ng (y ▸ z)
 ·exact nw (y ▸ z)
theorem LwS.step (hS:LwS K c H L ps os B rvs tvs qds) (ht:tvs[t]?=some v) (hq:qds[t]?=some qd) (ho:os[B+t]?=some (.ob k d (some (wd,dc,dx)))) {dc1 dx1:D} (d0:D2At K H qd dc1 dx1) (b1:But9 qd H H1) (d1:D2At K H1 qd dc' dx') (b2:But9 d H1 H2) (w2:WAt K c H2 L.W L.l L.g ps (os.set (B+t) (.ob k d (some (w',dc',dx')))) gv0) (v1:Vd os dc') (v2:Vd os dx'):LwS K c H2 L ps (os.set (B+t) (.ob k d (some (w',dc',dx')))) B rvs tvs qds∧KpL [] H H2:=by
 have hwd:WDc os d:=⟨_,_,ho,rfl⟩
 obtain ⟨kv,hd⟩:=hS.w.wd hwd
 have hqm:=List.mem_of_getElem? hq
 have nqd:qd≠d:=fun y=>(hS.qw qd hqm).1 (y ▸ hwd)
 obtain ⟨a0,b0,h0,_⟩:=id d0
 have hd1:=b1 _ _ (Ne.symm nqd) hd
 have kp:∀S,KpL S H H2:=fun S=>(b1.kpd h0).trans (b2.kpd hd1)
 have ko:KpO os (os.set (B+t) (.ob k d (some (w',dc',dx')))):=KpO.set ho
 have wf:=hS.c.wf.set (fs':=some (w',dc',dx')) ho
 have lo:os.length≤(os.set (B+t) (.ob k d (some (w',dc',dx')))).length:=ko.l
 refine ⟨⟨w2,hS.c.mono ko wf,⟨fun i k' d' fs e1 e2=>?_,fun i k' d' fx e=>?_⟩,⟨fun i k' d' fs e=>?_,fun i nm ns d' e=>hS.st.k i nm ns d' (kd_set ho e)⟩,by rw[List.length_set]; exact hS.ol,(kp []).l _ _ (by simp) hS.r,hS.rl,hS.rs.keep (kp _) ko,(kp []).l _ _ (by simp) hS.t,⟨hS.ts.1,fun t' v' q' e1 e2=>?_⟩,hS.qn,fun q' m=>⟨fun z=>(hS.qw q' m).1 (WDc.set (o':=.ob k d (some (w',dc',dx'))) ho rfl z),(hS.qw q' m).2⟩⟩,kp []⟩
 ·rw[isFC_set ho] at e2
  rcases ob_set ho e1 with ⟨rfl,rfl,rfl,rfl⟩ | ⟨_,e⟩
  ·exact ⟨_,rfl⟩
  ·exact hS.f.f _ _ _ _ e e2
 ·rcases ob_set ho e with ⟨_,_,_,u⟩ | ⟨_,u⟩
  ·cases u
   exact ⟨v1.mono lo,v2.mono lo⟩
  ·obtain ⟨a,b⟩:=hS.f.v _ _ _ _ u
   exact ⟨a.mono lo,b.mono lo⟩
 ·rcases ob_set ho e with ⟨u,_⟩ | ⟨_,u⟩
  ·rw[u]; exact hS.st.o _ _ _ _ ho
  ·exact hS.st.o _ _ _ _ u
 ·by_cases ht':t'=t
  ·subst ht'
   rw[hq] at e2
   cases e2
   obtain ⟨k0,dd,fs,p,rp,x,dca,dxa,e,h1,h2,h3,h4,h5,h6,h7⟩:=hS.ts.2 t' v' qd e1 hq
   rw[ho] at h1
   cases h1
   refine ⟨k,d,_,p,rp,x,dc',dx',e,List.getElem?_set_self (lt_of_some ho),(kp []).l _ _ (by simp) h2,At.fx (kp []).f _ _ h3,h4.keep (kp _) ko,d1.keep ?_ (b2.fx hd1 rfl),h6,fun _=>⟨w',rfl⟩⟩
   obtain ⟨a1,b1',h1',_⟩:=d1
   rw[b2 _ _ nqd h1',h1']
  ·have nq:q'≠qd:=fun y=>ht' ((List.getElem?_inj (lt_of_some e2) hS.qn).mp (by rw[e2,y,hq]))
   have nd:q'≠d:=fun y=>(hS.qw q' (List.mem_of_getElem? e2)).1 (y ▸ hwd)
   have hon:=hS.ts.2 t' v' q' e1 e2
   refine hon.keep (kp _) ?_ ko (List.getElem?_set_ne (fun y=>ht' (by omega)))
   obtain ⟨k0,dd,fs,p,rp,x,dca,dxa,e,h1,h2,h3,h4,⟨a5,b5,h5,_⟩,h6,h7⟩:=hon
   rw[b2 _ _ nd (b1 _ _ nq h5),h5]
end
def tOth (K:PySem.W.Frag) (c:ClD) (L:Lw) (os:List Th):TE:=fun σ H Q=>∃(ps:List Addr) (B:Nat) (rvs tvs fvs:List V) (qds:List Addr) (lf:Addr) (n:Int),σ[1]?=some (some (.ref L.lt))∧σ[2]?=some (some (.ref lf))∧σ[4]?=some (some (.int n))∧LwS K c H L ps os B rvs tvs qds∧H lf=some (.lst fvs)∧FvOk os B tvs fvs∧0 < fvs.length∧∀v i,i < os.length→At K H (thD i) v→Q v H
def tVal (K:PySem.W.Frag) (c:ClD) (L:Lw) (os:List Th):TE:=fun σ H Q=>∃(ps:List Addr) (B:Nat) (rvs tvs:List V) (qds:List Addr) (n:Int) (i:Nat) (u:V),σ[3]?=some (some (.ref L.lr))∧σ[6]?=some (some u)∧σ[4]?=some (some (.int n))∧LwS K c H L ps os B rvs tvs qds∧At K H (thD i) u∧i < os.length∧∀v dv H',Vd os dv→Same H H'→At K H' dv v→Q v H'
def tNme:TE:=fun σ H Q=>∃n:Int,σ[4]?=some (some (.int n))∧∀(nm:Str) H',(nm="cause"∨nm="context")→Same H H'→Q (.str nm) H'
def tHd (K:PySem.W.Frag) (c:ClD) (L:Lw) (os:List Th):TE:=fun σ H Q=>∃(ps:List Addr) (B:Nat) (rvs tvs fvs:List V) (qds:List Addr) (lf:Addr) (n:Int),σ[2]?=some (some (.ref lf))∧σ[4]?=some (some (.int n))∧LwS K c H L ps os B rvs tvs qds∧H lf=some (.lst fvs)∧FvOk os B tvs fvs∧0 < fvs.length∧∀v hd,((hd=none∧v=.non)∨∃i,hd=some i∧i < os.length∧At K H (thD i) v)→Q v H
def tCau (K:PySem.W.Frag) (os:List Th):TE:=fun σ H Q=>∃(n:Int) (i:Nat) (u:V),σ[4]?=some (some (.int n))∧σ[6]?=some (some u)∧At K H (thD i) u∧i < os.length∧∀v dv H',Vd os dv→Same H H'→At K H' dv v→Q v H'
def tCtx (K:PySem.W.Frag):TE:=fun σ H Q=>∃(u x:V) (p rp qd:Addr) (i:Nat) (hd:Option Nat),σ[5]?=some (some (.ref p))∧σ[9]?=some (some u)∧H p=some (.lst [x,.ref rp,.ref qd])∧At K H (thD i) x∧((hd=none∧u=.non)∨∃j,hd=some j∧At K H (thD j) u)∧∀v H',Same H H'→At K H' (heldD i hd) v→Q v H'
theorem atI_mod {xs:List V} {n:Int} (h:0 < xs.length):∃(j:Nat) (v:V),xs[j]?=some v∧v∈xs∧atI xs (n % ((xs.length:Nat):Int))=some v:=by
 obtain ⟨j,v,e1,e2⟩:=atI_some (xs:=xs) (k:=n % ((xs.length:Nat):Int)) (Int.emod_nonneg _ (by omega)) (Int.emod_lt_of_pos _ (by omega))
 exact ⟨j,v,e1,List.mem_of_getElem? e1,e2⟩
theorem atI_mem2 {a b:V} {k:Int} (h0:0≤k) (h1:k < 2):∃v,atI [a,b] k=some v∧(v=a∨v=b):=by
 obtain ⟨v,hv,e⟩:=atI_mem9 (xs:=[a,b]) h0 h1
 simp at hv
 exact ⟨v,e,hv⟩
section
variable {P:Program} {w:World} {K:PySem.W.Frag} {mg:Str→Option Value} {base:Heap} {f:Addr} {fd:FuncData} {c:ClD}
def spBd (K:PySem.W.Frag) (c:ClD):Sp:=fun vs H Q _=>∃(L:Lw) (ps:List Addr) (os:List Th) (B:Nat) (rvs tvs fvs:List V) (qds:List Addr) (lf:Addr) (n:Int),vs=[.ref L.W,.ref L.lt,.ref lf,.ref L.lr,.int n]∧LwS K c H L ps os B rvs tvs qds∧H lf=some (.lst fvs)∧FvOk os B tvs fvs∧0 < fvs.length∧
 ∀H' os',LwS K c H' L ps os' B rvs tvs qds→FvOk os' B tvs fvs→KpL [] H H'→os'.length=os.length→Q (.bl true) H'
theorem scBd:FnScope ["_law_world","_law_things","_law_faults","_law_rows","_law_n","_law_one","_law_other","_law_name","_law_value","_law_held","_law_cause"] ["_law_world","_law_things","_law_faults","_law_rows","_law_n"] (defScope sBd):=⟨rfl,rfl,rfl,by decide +kernel,rfl,by decide +kernel,by decide +kernel⟩
theorem ok_Bd (g:Glb9 mg) (F:Fun K "_law_bound" "_law_bound" sBd f fd) (dPl:Def P w K mg base "_law_plain" ["_law_n"] 1 (spPl K)) (dP:Def P w K mg base "put_field" ["world","a","name","v"] 2 (spPut K c)) (dB:Def P w K mg base "bind_raised" ["world","fault","cause","held"] 2 (spBnd K c)):FnOk P w K mg base CX0 3 f fd ["_law_world","_law_things","_law_faults","_law_rows","_law_n"] (spBd K c):=by
 refine F.okI scBd (fun vs H Q E h=>?_) (fun cdv A outer s H vs Q E hr h=>?_)
 ·obtain ⟨_,_,_,_,_,_,_,_,_,_,rfl,_⟩:=h; rfl
 obtain ⟨L,ps,os,B,rvs,tvs,fvs,qds,lf,n,rfl,hS,hlf,hfv,hf0,q⟩:=h
 refine ⟨_,(pss_cons (ps_set (i:=5) scBd.nd rfl (Or.inl rfl) (pe_ix (r:=rIxL K) ix_list (pv 2) (pe_op op_mod (pv 4) (pe_callB call_len_seq rfl g.nLen b9Len (pa_cons (pv 2) pa_nil))) (fun _ _=>rfl)))
   (pss_cons (ps_set (i:=6) scBd.nd rfl (Or.inl rfl) (le_imp (t':=tOth K c L os) (pe_ifExp (pt_cmpR op_gt (pe_op op_mod (pe_op op_fdiv (pv 4) pe_int) pe_int) pe_int (nomark _)) (pe_ix (r:=rIxL K) ix_list (pe_ix (r:=rIxL K) ix_list (pv 2) (pe_op op_mod (pe_op op_fdiv (pv 4) pe_int) (pe_callB call_len_seq rfl g.nLen b9Len (pa_cons (pv 2) pa_nil))) (fun _ _=>rfl)) pe_int (fun _ _=>rfl)) (pe_ix (r:=rIxL K) ix_list (pe_ix (r:=rIxL K) ix_list (pv 1) (pe_op op_mod (pe_op op_fdiv (pv 4) pe_int) (pe_callB call_len_seq rfl g.nLen b9Len (pa_cons (pv 1) pa_nil))) (fun _ _=>rfl)) pe_int (fun _ _=>rfl))) ?oth))
   (pss_cons (ps_if (pt_cmpR op_eq (pe_op op_mod (pe_op op_fdiv (pv 4) pe_int) pe_int) pe_int (nomark _)) (pss_cons (ps_set (i:=7) scBd.nd rfl (Or.inl rfl) (le_imp (t':=tNme) (pe_ix (r:=rIxL K) ix_list (pe_lst (pa_cons pe_str (pa_cons pe_str pa_nil))) (pe_op op_mod (pe_op op_fdiv (pv 4) pe_int) pe_int) (fun _ _=>rfl)) ?nme))
   (pss_cons (ps_set (i:=8) scBd.nd rfl (Or.inl rfl) (le_imp (t':=tVal K c L os) (pe_ix (r:=rIxL K) ix_list (pe_lst (pa_cons (pv 6) (pa_cons (pe_ix (r:=rIxL K) ix_list (pe_ix (r:=rIxL K) ix_list (pv 3) (pe_op op_mod (pe_op op_fdiv (pv 4) pe_int) (pe_callB call_len_seq rfl g.nLen b9Len (pa_cons (pv 3) pa_nil))) (fun _ _=>rfl)) pe_int (fun _ _=>rfl)) (pa_cons (L3.pe_def dPl hr (by decide) rfl (pa_cons (pe_op op_fdiv (pv 4) pe_int) pa_nil)) pa_nil)))) (pe_op op_mod (pe_op op_fdiv (pv 4) pe_int) pe_int) (fun _ _=>rfl)) ?val))
   (pss_cons (.mk (L2.ps_dput (hu_of hr) (LE.out (pe_ix (r:=rIxL K) ix_list (pv 5) pe_int (fun _ _=>rfl))) (LE.out (pv 7)) (LE.out (pv 8)) rfl))
   (pss_one (ps_ret (pe_cmpR (r:=rEqK K) (op_eqK hr) (L3.pe_def dP hr (by decide) rfl (pa_cons (pv 0) (pa_cons (pe_ix (r:=rIxL K) ix_list (pv 5) pe_int (fun _ _=>rfl)) (pa_cons (pv 7) (pa_cons (pv 8) pa_nil))))) (pe_tup (pa_cons pe_str (pa_cons (pe_tup (pa_cons pe_str pa_nil)) pa_nil))) (nomark _))))))) pss_nil)
   (pss_cons (ps_set (i:=9) scBd.nd rfl (Or.inl rfl) (le_imp (t':=tHd K c L os) (pe_ifExp (pt_cmpR op_eq (pe_op op_mod (pe_op op_fdiv (pv 4) pe_int) pe_int) pe_int (nomark _)) pe_non (pe_ix (r:=rIxL K) ix_list (pe_ix (r:=rIxL K) ix_list (pv 2) (pe_op op_mod (pe_op op_fdiv (pv 4) pe_int) (pe_callB call_len_seq rfl g.nLen b9Len (pa_cons (pv 2) pa_nil))) (fun _ _=>rfl)) pe_int (fun _ _=>rfl))) ?hd))
   (pss_cons (ps_set (i:=10) scBd.nd rfl (Or.inl rfl) (le_imp (t':=tCau K os) (pe_ifExp (pt_cmpR op_eq (pe_op op_mod (pe_op op_fdiv (pv 4) pe_int) pe_int) pe_int (nomark _)) (pv 6) (pe_tup (pa_cons pe_str pa_nil))) ?cau))
   (pss_cons (.mk (L2.ps_dput (hu_of hr) (LE.out (pe_ix (r:=rIxL K) ix_list (pv 5) pe_int (fun _ _=>rfl))) (LE.out pe_str) (LE.out (pv 10)) rfl))
   (pss_cons (.mk (L2.ps_dput (hu_of hr) (LE.out (pe_ix (r:=rIxL K) ix_list (pv 5) pe_int (fun _ _=>rfl))) (LE.out pe_str) (LE.out (le_imp (t':=tCtx K) (pe_ifExp (LW.pt (pw_or (pt_cmpR op_isN (pv 9) pe_non (nomark _)) (pw_or1 (pt_cmpR (r:=rEqK K) (op_eqK hr) (pv 9) (pe_ix (r:=rIxL K) ix_list (pv 5) pe_int (fun _ _=>rfl)) (nomark _))))) (pe_tup (pa_cons pe_str pa_nil)) (pv 9)) ?ctx)) rfl))
   (pss_one (ps_ret (pe_cmpR op_isN (L3.pe_def dB hr (by decide) rfl (pa_cons (pv 0) (pa_cons (pe_ix (r:=rIxL K) ix_list (pv 5) pe_int (fun _ _=>rfl)) (pa_cons (pv 10) (pa_cons (pv 9) pa_nil))))) pe_non (nomark _))))))))))),?main⟩
 case oth=>
  rintro σ H Q ⟨ps,B,rvs,tvs,fvs,qds,lf,n,e1,e2,e4,hS,hlf,hfv,hf0,q⟩
  have val:∀(v:V) (t:Nat),tvs[t]?=some v→tOp (rIxL K) (fun _ H Q=>Q v H) (tC (.int 0)) σ H Q:=fun v t e=>by
   obtain ⟨qd,_,k0,dd,fs,p,rp,xx,dc,dx,rfl,ho,hp,hxx,_⟩:=hS.one e
   exact ⟨p,_,_,xx,rfl,rfl,SqL.of hp,atI_nat (j:=0) rfl,q _ _ (lt_of_some ho) hxx⟩
  refine ⟨_,e4,_,_,rfl,rfl,⟨by decide,by decide⟩,_,_,rfl,rfl,(show (0:Int) < _ by decide),_,_,rfl,rfl,_,rfl,ite_b9 (fun _=>?_) (fun _=>?_)⟩
  ·obtain ⟨j,v,e5,m5,e6⟩:=atI_mod (n:=n / 7) hf0
   obtain ⟨t,et,_⟩:=hfv v m5
   exact ⟨_,e2,_,e4,_,_,rfl,rfl,⟨by decide,by decide⟩,_,e2,lf,_,rfl,.inl (SqL.of hlf),_,_,rfl,rfl,(by show (0:Int) < ((fvs.length:Nat):Int); omega),lf,_,_,v,rfl,rfl,SqL.of hlf,e6,val v t et⟩
  ·have ht0:0 < tvs.length:=by
    obtain ⟨v,m⟩:∃v,v∈fvs:=⟨fvs[0],List.getElem_mem hf0⟩
    obtain ⟨t,et,_⟩:=hfv v m
    have:=lt_of_some et
    omega
   obtain ⟨j,v,e5,m5,e6⟩:=atI_mod (n:=n / 7) ht0
   exact ⟨_,e1,_,e4,_,_,rfl,rfl,⟨by decide,by decide⟩,_,e1,L.lt,_,rfl,.inl (SqL.of hS.t),_,_,rfl,rfl,(by show (0:Int) < ((tvs.length:Nat):Int); omega),L.lt,_,_,v,rfl,rfl,SqL.of hS.t,e6,val v j e5⟩
 case nme=>
  rintro σ H Q ⟨n,e4,q⟩
  refine ⟨by show 2≤sizeLine; decide,fun p hp=>?_⟩
  obtain ⟨m0,m1⟩:=emod_in (a:=n / 588) (b:=2) (by decide)
  obtain ⟨v,ev,hv⟩:=atI_mem2 (a:=.str "cause") (b:=.str "context") m0 m1
  refine ⟨_,e4,_,_,rfl,rfl,⟨by decide,by decide⟩,_,_,rfl,rfl,(show (0:Int) < _ by decide),p,_,_,v,rfl,rfl,SqL.of upd_same,ev,?_⟩
  rcases hv with rfl | rfl
  ·exact q _ _ (.inl rfl) (same_new hp _)
  ·exact q _ _ (.inr rfl) (same_new hp _)
 case val=>
  rintro σ H Q ⟨ps,B,rvs,tvs,qds,n,i,u,e3,e6,e4,hS,hu,hi,q⟩
  have hr0:0 < rvs.length:=by have:=hS.rl; have:=hS.c.lo; omega
  obtain ⟨j,v,e5,m5,e7⟩:=atI_mod (n:=n / 7) hr0
  obtain ⟨nm,ns,dk,p,q',xx,ys,rfl,ho,hp,hxx,_⟩:=hS.rs j v e5
  refine ⟨_,e6,_,e3,_,e4,_,_,rfl,rfl,⟨by decide,by decide⟩,_,e3,L.lr,_,rfl,.inl (SqL.of hS.r),_,_,rfl,rfl,(by show (0:Int) < ((rvs.length:Nat):Int); omega),L.lr,_,_,_,rfl,rfl,SqL.of hS.r,e7,p,_,_,xx,rfl,rfl,SqL.of hp,atI_nat (j:=0) rfl,_,e4,_,_,rfl,rfl,⟨by decide,by decide⟩,_,rfl,fun dp vp H1 hP s1 ap=>⟨by show 3≤sizeLine; decide,fun pl hpl=>?_⟩⟩
  have s2:Same H (upd H1 pl (.lst [u,xx,vp])):=s1.trans (same_new hpl _)
  have l2:upd H1 pl (.lst [u,xx,vp]) pl=some (.lst [u,xx,vp]):=upd_same
  have a2:=At.same (same_new hpl (.lst [u,xx,vp])) _ _ ap
  revert s2 l2 a2
  generalize upd H1 pl (.lst [u,xx,vp])=H2
  intro s2 l2 a2
  obtain ⟨m0,m1⟩:=emod_in (a:=n / 1176) (b:=3) (by decide)
  obtain ⟨v,ev,hv⟩:=atI_mem3 (a:=u) (b:=xx) (c:=vp) m0 m1
  refine ⟨_,e4,_,_,rfl,rfl,⟨by decide,by decide⟩,_,_,rfl,rfl,(show (0:Int) < _ by decide),pl,_,_,v,rfl,rfl,SqL.of l2,ev,?_⟩
  rcases hv with rfl | rfl | rfl
  ·exact q _ _ _ (Vd.th hi) s2 (At.same s2 _ _ hu)
  ·exact q _ _ _ (Vd.th (lt_of_some ho)) s2 (At.same s2 _ _ hxx)
  ·exact q _ _ _ (hP.vd os).1 s2 a2
 case hd=>
  rintro σ H Q ⟨ps,B,rvs,tvs,fvs,qds,lf,n,e2,e4,hS,hlf,hfv,hf0,q⟩
  refine ⟨_,e4,_,_,rfl,rfl,⟨by decide,by decide⟩,_,_,rfl,rfl,(show (0:Int) < _ by decide),rfl,_,rfl,ite_b9 (fun _=>q _ none (.inl ⟨rfl,rfl⟩)) (fun _=>?_)⟩
  obtain ⟨j,v,e5,m5,e6⟩:=atI_mod (n:=n / 2940) hf0
  obtain ⟨t,et,_⟩:=hfv v m5
  obtain ⟨qd,_,k0,dd,fs,p,rp,xx,dc,dx,rfl,ho,hp,hxx,_⟩:=hS.one et
  exact ⟨_,e2,_,e4,_,_,rfl,rfl,⟨by decide,by decide⟩,_,e2,lf,_,rfl,.inl (SqL.of hlf),_,_,rfl,rfl,(by show (0:Int) < ((fvs.length:Nat):Int); omega),lf,_,_,_,rfl,rfl,SqL.of hlf,e6,p,_,_,xx,rfl,rfl,SqL.of hp,atI_nat (j:=0) rfl,q _ (some (B+t)) (.inr ⟨_,rfl,lt_of_some ho,hxx⟩)⟩
 case cau=>
  rintro σ H Q ⟨n,i,u,e4,e6,hu,hi,q⟩
  refine ⟨_,e4,_,_,rfl,rfl,⟨by decide,by decide⟩,_,_,rfl,rfl,(show (0:Int) < _ by decide),rfl,_,rfl,ite_b9 (fun _=>⟨_,e6,q _ _ _ (Vd.th hi) (Same.refl _) hu⟩) (fun _=>⟨by show 1≤sizeLine; decide,fun t ht=>q _ noD _ Vd.noD (same_new ht _) (At.new ht (AtAll.one1 (At_str.mpr rfl)))⟩)⟩
 case ctx=>
  rintro σ H Q ⟨u,x,p,rp,qd,i,hd,e5,e9,hp,hx,hu,q⟩
  rcases hu with ⟨rfl,rfl⟩ | ⟨j,rfl,hu⟩
  ·exact ⟨_,e9,rfl,_,rfl,iteT (iteT ⟨by show 1≤sizeLine; decide,fun t ht=>q _ _ (same_new ht _) (At.new ht (AtAll.one1 (At_str.mpr rfl)))⟩)⟩
  ·have nu:=hu.tupR
   refine ⟨_,e9,rfl,_,rfl,?_⟩
   rw[decide_eq_false nu]
   refine iteF ⟨_,e9,_,e5,p,_,_,x,rfl,rfl,SqL.of hp,atI_nat (j:=0) rfl,thD j,thD i,hu,hx,by rw[dep_th]; decide,_,rfl,?_⟩
   rw[eqD_th]
   by_cases e:j=i
   ·rw[decide_eq_true e]
    refine iteT ⟨by show 1≤sizeLine; decide,fun t ht=>q _ _ (same_new ht _) ?_⟩
    show At K _ (if j=i then noD else thD j) _
    rw[if_pos e]
    exact At.new ht (AtAll.one1 (At_str.mpr rfl))
   ·rw[decide_eq_false e]
    refine iteF ⟨_,e9,q _ _ (Same.refl _) ?_⟩
    show At K H (if j=i then noD else thD j) _
    rw[if_neg e]
    exact hu
 case main=>
  obtain ⟨j1,v1,e1,m1,ea1⟩:=atI_mod (n:=n) hf0
  obtain ⟨t,et,hft⟩:=hfv v1 m1
  obtain ⟨qd,hqd,k0,dd,fs,p,rp,xx,dc,dx,rfl,ho,hp,hxx,hrw,hd2,np,hfx⟩:=hS.one et
  have hft':isFC os[k0]?=true:=by rw[ho] at hft; exact hft
  obtain ⟨wd,rfl⟩:=hfx hft'
  have fin:∀(H':Hp) (w' dc' dx':D),LwS K c H' L ps (os.set (B+t) (.ob k0 dd (some (w',dc',dx')))) B rvs tvs qds→KpL [] H H'→Q (.bl true) H':=fun H' w' dc' dx' h1 h2=>q H' _ h1 (fun v m=>by
   obtain ⟨t',a,b⟩:=hfv v m
   exact ⟨t',a,by rw[isF_set ho]; exact b⟩) h2 (List.length_set ..)
  refine ⟨_,rfl,_,rfl,_,rfl,lf,_,rfl,.inl (SqL.of hlf),_,_,rfl,rfl,(by show (0:Int) < ((fvs.length:Nat):Int); omega),lf,_,_,_,rfl,rfl,SqL.of hlf,ea1,?_⟩
  refine ⟨ps,B,rvs,tvs,fvs,qds,lf,n,rfl,rfl,rfl,hS,hlf,hfv,hf0,fun vo io hio ho'=>?_⟩
  refine ⟨_,rfl,_,_,rfl,rfl,⟨by decide,by decide⟩,_,_,rfl,rfl,(show (0:Int) < _ by decide),rfl,_,rfl,ite_b9 (fun _=>?_) (fun _=>?_)⟩
  ·refine ⟨n,rfl,fun nme H1 hn s1=>⟨ps,B,rvs,tvs,qds,n,io,vo,rfl,rfl,rfl,hS.same s1,At.same s1 _ _ ho',hio,fun vv dv H2 hvd s2 av=>?_⟩⟩
   have s12:=s1.trans s2
   have hS2:=hS.same s12
   have hd22:=hd2.same s12
   have hp2:=s12 _ _ hp
   obtain ⟨kvs,hk,lk,hd3⟩:=hd22.put hn av
   refine ⟨_,rfl,_,rfl,p,_,_,.ref qd,rfl,rfl,SqL.of hp2,atI_nat (j:=2) rfl,_,rfl,qd,_,rfl,DPut.k (k:=.inr nme) hk (small1000 (by omega)),?_⟩
   have b3:But9 qd H2 (upd H2 qd (.dK (putK kvs (.inr nme:Key) vv))):=But9.put _ _
   have f3:Fx H2 (upd H2 qd (.dK (putK kvs (.inr nme:Key) vv))):=Fx.put hk rfl
   have p3:upd H2 qd (.dK (putK kvs (.inr nme:Key) vv)) p=some (.lst [xx,.ref rp,.ref qd]):=by rw[upd_ne (fun y=>by rw[y,hk] at hp2; cases hp2)]; exact hp2
   revert b3 f3 p3 hd3
   generalize upd H2 qd (.dK (putK kvs (.inr nme:Key) vv))=H3
   intro hd3 b3 f3 p3
   have w3:=hS2.wlaw hqd hd22 b3
   refine ⟨_,rfl,_,rfl,p,_,_,xx,rfl,rfl,SqL.of p3,atI_nat (j:=0) rfl,_,rfl,_,rfl,L.W,L.l,L.g,ps,os,gv0,xx,vv,B+t,k0,dd,(wd,dc,dx),nme,dv,rfl,w3,At.fx f3 _ _ (At.same s12 _ _ hxx),ho,hn,At.fx f3 _ _ av,fun r H4 b4 w4 a4=>?_⟩
   have hdc:=(hS.f.v _ _ _ _ ho)
   have ep:putD nme (wd,dc,dx) dv=(wd,(if nme="cause" then dv else dc),(if nme="cause" then dx else dv)):=by
    unfold putD
    split <;> rfl
   rw[ep] at w4
   obtain ⟨L4,K4⟩:=hS2.step et hqd ho hd22 b3 hd3 b4 w4 (by split; exact hvd; exact hdc.1) (by split; exact hdc.2; exact hvd)
   refine ⟨by show 1≤sizeLine; decide,fun t1 ht1=>⟨by show 2≤sizeLine; decide,fun t2 ht2=>⟨.tup [.str "value",noD],.tup [.str "value",noD],At.same ((same_new ht1 _).trans (same_new ht2 _)) _ _ a4,At.new ht2 (AtAll2 (At_str.mpr rfl) (At.new ht1 (AtAll.one1 (At_str.mpr rfl)))),by decide +kernel,?_⟩⟩⟩
   rw[eqD_refl]
   have s45:=(same_new ht1 (.tup [.str "none"])).trans (same_new ht2 (.tup [.str "value",.ref t1]))
   exact fin _ _ _ _ (L4.same s45) (((Same.kpl s12).trans K4).trans (Same.kpl s45))
  ·refine ⟨ps,B,rvs,tvs,fvs,qds,lf,n,rfl,rfl,hS,hlf,hfv,hf0,fun vh hd hh=>⟨n,io,vo,rfl,rfl,ho',hio,fun vc dcn H1 hvc s1 ac=>?_⟩⟩
   have hS1:=hS.same s1
   have hd21:=hd2.same s1
   have hp1:=s1 _ _ hp
   obtain ⟨kvs,hk,lk,hd3⟩:=hd21.put (n:="cause") (.inl rfl) ac
   rw[if_pos rfl,if_pos rfl] at hd3
   refine ⟨_,rfl,_,rfl,p,_,_,.ref qd,rfl,rfl,SqL.of hp1,atI_nat (j:=2) rfl,qd,_,rfl,DPut.k (k:=.inr "cause") hk (small1000 (by omega)),?_⟩
   have b3:But9 qd H1 (upd H1 qd (.dK (putK kvs (.inr "cause":Key) vc))):=But9.put _ _
   have f3:Fx H1 (upd H1 qd (.dK (putK kvs (.inr "cause":Key) vc))):=Fx.put hk rfl
   have p3:upd H1 qd (.dK (putK kvs (.inr "cause":Key) vc)) p=some (.lst [xx,.ref rp,.ref qd]):=by rw[upd_ne (fun y=>by rw[y,hk] at hp1; cases hp1)]; exact hp1
   revert b3 f3 p3 hd3
   generalize upd H1 qd (.dK (putK kvs (.inr "cause":Key) vc))=H3
   intro hd3 b3 f3 p3
   have fx13:=(Same.fx s1).trans f3
   have hh3:(hd=none∧vh=.non)∨∃j,hd=some j∧At K H3 (thD j) vh:=hh.imp id fun ⟨j,a,_,b⟩=>⟨j,a,At.fx fx13 _ _ b⟩
   refine ⟨vh,xx,p,rp,qd,B+t,hd,rfl,rfl,p3,At.fx fx13 _ _ hxx,hh3,fun vx H4 s4 ax=>?_⟩
   have hd34:=hd3.same s4
   have p4:=s4 _ _ p3
   obtain ⟨kvs5,hk5,lk5,hd5⟩:=hd34.put (n:="context") (.inr rfl) ax
   rw[if_neg (by decide +kernel),if_neg (by decide +kernel)] at hd5
   refine ⟨_,rfl,p,_,_,.ref qd,rfl,rfl,SqL.of p4,atI_nat (j:=2) rfl,qd,_,rfl,DPut.k (k:=.inr "context") hk5 (small1000 (by omega)),?_⟩
   have b5:But9 qd H4 (upd H4 qd (.dK (putK kvs5 (.inr "context":Key) vx))):=But9.put _ _
   have f5:Fx H4 (upd H4 qd (.dK (putK kvs5 (.inr "context":Key) vx))):=Fx.put hk5 rfl
   have p5:upd H4 qd (.dK (putK kvs5 (.inr "context":Key) vx)) p=some (.lst [xx,.ref rp,.ref qd]):=by rw[upd_ne (fun y=>by rw[y,hk5] at p4; cases p4)]; exact p4
   revert b5 f5 p5 hd5
   generalize upd H4 qd (.dK (putK kvs5 (.inr "context":Key) vx))=H5
   intro hd5 b5 f5 p5
   have b15:But9 qd H1 H5:=(b3.trans (Same.but qd s4)).trans b5
   have w5:=hS1.wlaw hqd hd21 b15
   have fx35:=(Same.fx s4).trans f5
   have fx15:=fx13.trans fx35
   refine ⟨_,rfl,_,rfl,p,_,_,xx,rfl,rfl,SqL.of p5,atI_nat (j:=0) rfl,_,rfl,_,rfl,L.W,L.l,L.g,ps,os,gv0,xx,vc,vh,B+t,k0,dd,(wd,dc,dx),dcn,hd,rfl,w5,At.fx fx15 _ _ hxx,ho,At.fx (f3.trans fx35) _ _ ac,hh3.imp id (fun ⟨j,a,b⟩=>⟨j,a,At.fx fx35 _ _ b⟩),fun H6 b6 w6=>?_⟩
   have hvh:Vd os (heldD (B+t) hd):=by
    rcases hh with ⟨rfl,_⟩ | ⟨j,rfl,hj,_⟩
    ·exact Vd.noD
    ·show Vd os (if j=B+t then noD else thD j)
     split
     ·exact Vd.noD
     ·exact Vd.th hj
   obtain ⟨L6,K6⟩:=hS1.step et hqd ho hd21 b15 hd5 b6 w6 hvc hvh
   exact ⟨rfl,fin _ _ _ _ L6 ((Same.kpl s1).trans K6)⟩
end
end GS
namespace L2
open PySem PySem.Spec PyProof.Rows PySem.Builtin PySem.Builtin.List GS
section
variable {X:Cx} {pins:List (Addr×Obj)} {σ:St} {H:Hp} {s:Shared}
theorem HOk.swap {P:Program} {w:World} {h:Heap} {d:Addr} {u u':HO} (k:HOk P w H h) (hd:H d=some u) (no:∀x,u≠.own x) (nt:∀xs,u≠.tup xs) (hu:ObjOk P w (upd H d u') h d u'):HOk P w (upd H d u') h:=by
 intro b v e
 by_cases hb:b=d
 ·subst hb
  rw[upd_same] at e
  cases e
  exact hu
 ·rw[upd_ne hb] at e
  refine (k b v e).stay (fun c v _ q=>q) (fun c q=>?_) fun c xs q=>?_
  ·rw[upd_ne (fun z=>by rw[z,hd] at q; cases q; exact no _ rfl)]; exact q
  ·rw[upd_ne (fun z=>by rw[z,hd] at q; cases q; exact nt _ rfl)]; exact q
theorem Inv.freeze {d:Addr} {kvs:List (Key×V)} {o:Obj} (I:Inv X pins σ H s) (hd:H d=some (.dK kvs)) (ho:s.heap.get? d=some o):Inv X pins σ (upd H d (.frz o (.dK kvs))) s:=by
 have hk:HOk X.prog X.w (upd H d (.frz o (.dK kvs))) s.heap:=I.hok.swap hd (by nofun) (by nofun) ⟨ho,I.hok d _ hd⟩
 exact I.step (g':=s.gens) (d':=s.drawn) (t':=s.toks) (ch:=[]) (fun _ z=>nomatch z) (fun b o _ _ _ e _=>e) (fun b o _ _ _ e _=>⟨o.slots,e⟩) (fun b o _ _ n=>by rw[upd_ne (fun z=>by rw[z,hd] at n; cases n)]; exact n) (fun b o _ e=>⟨o,e⟩)
  (fun b xs e=>by rw[upd_ne (fun z=>by rw[z,hd] at e; cases e)]; exact e) (fun b o u e=>by rw[upd_ne (fun z=>by rw[z,hd] at e; cases e)]; exact e) (fun b ps e=>by rw[upd_ne (fun z=>by rw[z,hd] at e; cases e)]; exact ⟨#[],by rw[e]; simp⟩) (fun _ h=>h) hk I.bare
theorem Inv.thaw {d:Addr} {kvs:List (Key×V)} {o:Obj} (I:Inv X pins σ H s) (hd:H d=some (.frz o (.dK kvs))) (hnf:∀o u,X.H₀ d≠some (.frz o u)):Inv X pins σ (upd H d (.dK kvs)) s:=by
 have hk:HOk X.prog X.w (upd H d (.dK kvs)) s.heap:=I.hok.swap hd (by nofun) (by nofun) (I.hok d _ hd).2
 have nn:∀b,H b=none→upd H d (.dK kvs) b=none:=fun b n=>by rw[upd_ne (fun z=>by rw[z,hd] at n; cases n)]; exact n
 refine ⟨I.ok,I.os,I.bare,⟨I.base.keep,I.base.slot,fun b o e n hx=>nn b (I.base.free b o e n hx),I.base.there,fun b xs e=>?_,fun b o u e=>?_,fun b ps e=>?_⟩,I.loc,I.cell,nn _ I.free,fun x c e=>nn _ (I.freeC x c e),fun p hp=>?_,hk,I.len⟩
 ·have:=I.base.tups b xs e
  rw[upd_ne (fun z=>by rw[z,hd] at this; cases this)]; exact this
 ·have:=I.base.frzs b o u e
  rw[upd_ne (fun z=>hnf o u (by rw[← z]; exact e))]; exact this
 ·obtain ⟨m,q⟩:=I.base.tbls b ps e
  exact ⟨m,by rw[upd_ne (fun z=>by rw[z,hd] at q; cases q)]; exact q⟩
 ·obtain ⟨a,b,c⟩:=I.pin p hp
  exact ⟨a,nn _ b,c⟩
def tThaw (t:TE):TE:=fun σ H Q=>∃d,(∃kvs,H d=some (.dK kvs))∧t σ H fun v H'=>∃o kvs,H' d=some (.frz o (.dK kvs))∧Q v (upd H' d (.dK kvs))
theorem pe_thaw {e:Expr} {t:TE} (he:PE X e t):PE X e (tThaw t):=by
 intro pins s σ H Q I h
 obtain ⟨d,⟨kvs,hd⟩,h⟩:=h
 refine wpAny_mono (he pins s σ H _ I h) (fun v s1 ⟨x,H1,I1,r1,o,kvs',hd',q⟩=>⟨x,_,I1.thaw hd' fun o u z=>?_,r1,q⟩) fun _ _ e=>e
 have:=I.base.frzs d o u z
 rw[hd] at this; cases this
def Itd (d:Addr) (o:Obj) (kvs:List (Key×V)):It:=
 ⟨fun i H=>H d=some (.frz o (.dK kvs))∧i < kvs.length,fun i H x H'=>H'=H∧∃k v,kvs[i]?=some (k,v)∧x=kV k,fun i H=>H d=some (.frz o (.dK kvs))∧kvs.length≤i⟩
theorem kV_rel {P:Program} {w:World} {k:Key} {u:Value} (h:(mixKind P w).is k u=true):RelV (kV k) u:=by
 rcases keyIs_shape (show keyIs k u=true from h) with ⟨i,t,rfl,rfl⟩ | ⟨x,t,rfl,rfl⟩
 ·exact ⟨t,rfl⟩
 ·exact ⟨t,rfl⟩
theorem dict_at {d:Addr} {kvs:List (Key×V)} {o:Obj} {es:Array DictEntry} {ep:Nat} (I:Inv X pins σ H s) (hd:H d=some (.frz o (.dK kvs))) (hep:o.data=.dict es ep):∃vs,KV kvs vs∧s.heap.DictAt (mixKind X.prog X.w) d vs ep:=by
 obtain ⟨ho,_,_,vs,hkv,o',es',ep',ho',h1,h2,h3⟩:=(show ObjOk X.prog X.w H s.heap d (.frz o (.dK kvs)) from I.hok d _ hd)
 rw[ho] at ho'
 cases ho'
 rw[hep] at h2
 cases h2
 exact ⟨vs,hkv,o,es,ho,h1,hep,h3⟩
theorem turn_dict {P:Program} {w:World} {K:PySem.W.Frag} {tg:Expr} (d it:Addr) (o:Obj) (kvs:List (Key×V)) {es:Array DictEntry} {ep:Nat} (hep:o.data=.dict es ep):Turn P w K tg (Itd d o kvs) [it] it (fun i h=>h.IsKeyIter it d i kvs.length ep) where
 mem:=by simp
 obj:=fun i h st b hb=>by
  have e:b=it:=by simpa using hb
  subst e
  obtain ⟨o,e,c,d⟩:=st
  exact ⟨o,e,fun v z=>by rw[d] at z; cases z⟩
 keep:=fun i h h' st k=>st.at fun o e=>k it (by simp) o e
 item:=by
  intro X hP hw hK hc i pins s σ H E I hf st hg
  subst hP hw hK
  obtain ⟨hd,hi⟩:=hg
  obtain ⟨vs,hkv,hD⟩:=dict_at I hd hep
  have hl:=hkv.length
  obtain ⟨f0,f1,f2,f3,f4,f5⟩:=hf it (by simp)
  have e1:kvs[i]?=some (kvs[i].1,kvs[i].2):=by rw[List.getElem?_eq_getElem hi]
  have e2:vs[i]?=some (vs[i].1,vs[i].2):=by rw[List.getElem?_eq_getElem (by omega)]
  have ek:kvs[i].1=vs[i].1:=by
   have:=congrArg (fun l=>l[i]?) hkv.keys
   simp only [List.getElem?_map] at this
   rw[e1,e2] at this
   injection this
  rw[hl] at st
  refine wpAny_pyNext_dict_item st hD e2 fun key h' hk st' sb=>?_
  have I1:Inv X pins σ H { s with heap:=h' }:=I.turned (t':=s.toks) (fun b o hb e=>(sb.2 b hb).trans e) f0 f1 f3 f4 f5
  obtain ⟨o',e,c,dd⟩:=id st'
  rw[← hl] at st'
  exact ⟨key,rfl,go_of (s:={ s with heap:=h' }) e c dd (by decide) ⟨kV kvs[i].1,H,I1,by rw[ek]; exact kV_rel hk,⟨rfl,_,_,e1,rfl⟩,st',fun b hb=>(hf b hb).1⟩⟩
 done:=by
  intro X hP hw hK hc i pins s σ H E I hf st hg
  subst hP hw hK
  obtain ⟨hd,hi⟩:=hg
  obtain ⟨vs,hkv,hD⟩:=dict_at I hd hep
  have hl:=hkv.length
  obtain ⟨f0,f1,f2,f3,f4,f5⟩:=hf it (by simp)
  rw[hl] at st
  exact wpAny_pyNext_dict_end (I.ok.hd hc) st hD (List.getElem?_eq_none (by omega)) fun h' eb=>⟨rfl,I.turned (t':=s.toks) (fun b o hb e=>eb b o hb e) f0 f1 f3 f4 f5⟩
 self:=fun _ _ _ _ _ st h=>wpAny_pyIter_keyiter st h
def iDict (te:TE):TI:=fun σ H R=>te σ H fun x H1=>∃d kvs,x=.ref d∧H1 d=some (.dK kvs)∧∀o,R (Itd d o kvs) (upd H1 d (.frz o (.dK kvs)))
theorem pi_dict {tg l:Expr} {tl:TE} (hl:PE X l tl):PI X tg l (iDict tl):=by
 intro pins s σ H R I h
 refine thn (hl pins s σ H _ I h) fun v s1 ⟨x,H1,I1,r1,q1⟩=>?_
 obtain ⟨d,kvs,e,hd,q⟩:=q1
 subst e
 cases r1
 obtain ⟨_,hs,vs,hkv,o,es,ep,ho,h1,h2,h3⟩:=(show ObjOk X.prog X.w H1 s1.heap d (.dK kvs) from I1.hok d _ hd)
 have hlen:=hkv.length
 refine wpAny_pyIter_dict (kvs:=vs) (ep:=ep) hs ⟨o,es,ho,h1,h2,h3⟩ ?_
 have I2:=I1.freeze hd ho
 refine ⟨s1.heap.objs.size,[s1.heap.objs.size],_,_,_,rfl,I2.kept (t':=s1.toks) fun b o e=>Heap.get?_push_of_some _ e,turn_dict d _ o kvs h2,⟨_,Heap.get?_push_size _ rfl,rfl,by rw[hlen]; rfl⟩,fun b hb=>?_,q o⟩
 have e:b=s1.heap.objs.size:=by simpa using hb
 subst e
 exact I2.fpOk (Nat.le_refl _) (I2.hok.fresh (Nat.le_refl _))
end
end L2
namespace L3
open PySem L2 GS
section
variable {X:Cx}
theorem pi_dict {tg l:Expr} {tl:TE} (hl:LE X l tl):LI X tg l (iDict tl):=.mk (L2.pi_dict hl.out)
theorem pe_thaw {e:Expr} {t:TE} (he:LE X e t):LE X e (tThaw t):=.mk (L2.pe_thaw he.out)
end
end L3
namespace GS
end GS
namespace GS
open PySem PyProof.Rows
open L2 hiding pe_int pe_bl pe_non pe_str pv pe_glob pe_bltn pe_op pe_un pe_cmpR pe_one pe_and pe_or pe_ifExp pe_ix po_none po_some pe_slice pa_nil pa_cons pe_lst pe_tup pe_dnewK pe_callB pe_callTy pe_bm pt_cmpR pt_val pt_not pw_and1 pw_or1 pw_and pw_or pg_name pgs_nil pgs_cons pg_tup pi_list pi_tup pi_range1 ps_ret ps_expr ps_set ps_asg ps_if ps_while ps_for pss_nil pss_cons pss_one
open L3
def isTp:HO→Bool
 | .tup _=>true
 | .frz _ (.tup _)=>true
 | _=>false
def Tk (H H':Hp):Prop:=∀p o,H p=some o→isTp o=true→H' p=some o
theorem Tk.seqT {K:PySem.W.Frag} {H H':Hp} {p:Addr} {vs:List V} (s:Tk H H') (h:SqT K H p vs):SqT K H' p vs:=by
 rcases h with (h | ⟨o,h⟩) | h
 ·exact .inl (.inl (s _ _ h rfl))
 ·exact .inl (.inr ⟨o,s _ _ h rfl⟩)
 ·exact .inr h
mutual
theorem At.tk {K:PySem.W.Frag} {H H':Hp} (s:Tk H H'):∀(d:D) (v:V),At K H d v→At K H' d v
 | .non,_,h=>At_non.mpr (At_non.mp h)
 | .bl _,_,h=>At_bl.mpr (At_bl.mp h)
 | .int _,_,h=>At_int.mpr (At_int.mp h)
 | .str _,_,h=>At_str.mpr (At_str.mp h)
 | .tup ds,_,h=>by
  obtain ⟨p,vs,rfl,h1,h2⟩:=At_tup.mp h
  exact At_tup.mpr ⟨p,vs,rfl,Tk.seqT s h1,AtAll.tk s ds vs h2⟩
theorem AtAll.tk {K:PySem.W.Frag} {H H':Hp} (s:Tk H H'):∀(ds:List D) (vs:List V),AtAll K H ds vs→AtAll K H' ds vs
 | [],_,h=>AtAll_nil.mpr (AtAll_nil.mp h)
 | d::ds,_,h=>by
  obtain ⟨v,r,rfl,h1,h2⟩:=AtAll_cons.mp h
  exact AtAll_cons.mpr ⟨v,r,rfl,At.tk s d v h1,AtAll.tk s ds r h2⟩
end
theorem Tk.put {H:Hp} {p:Addr} {o o':HO} (h:H p=some o) (e:isTp o=false):Tk H (upd H p o'):=fun q u eq z=>by
 rw[upd_ne (fun y=>by rw[y,h] at eq; cases eq; rw[e] at z; cases z)]; exact eq
theorem thaw_same {H H':Hp} {q:Addr} {o:Obj} {kvs:List (Key×V)} (h:H q=some (.dK kvs)) (s:Same (upd H q (.frz o (.dK kvs))) H'):Same H (upd H' q (.dK kvs)):=fun p u e=>by
 by_cases hp:p=q
 ·subst hp
  rw[h] at e
  rw[upd_same]; exact e
 ·rw[upd_ne hp]
  refine s _ _ ?_
  rw[upd_ne hp]; exact e
theorem itd_stop {q:Addr} {o:Obj} {kvs:List (Key×V)} {H:Hp} (h:H q=some (.frz o (.dK kvs))):∀H',Same H H'→(Itd q o kvs).stop kvs.length H':=fun H' s=>⟨s _ _ h,Nat.le_refl _⟩
theorem itd_go {q:Addr} {o:Obj} {kvs:List (Key×V)} {H:Hp} (h:H q=some (.frz o (.dK kvs))):∀i H',i < kvs.length→Same H H'→(Itd q o kvs).go i H':=fun i H' hi s=>⟨s _ _ h,hi⟩
theorem itd_yld {q:Addr} {o:Obj} {kvs:List (Key×V)} {H:Hp}:∀i H1 x H2,i < kvs.length→Same H H1→(Itd q o kvs).yld i H1 x H2→x=(kvs.map fun e=>kV e.1).getD i .non∧H2=H1:=fun i H1 x H2 hi _ hy=>by
 obtain ⟨e,k,v,e1,e2⟩:=hy
 refine ⟨?_,e⟩
 rw[List.getD_eq_getElem?_getD,List.getElem?_map,e1]
 exact e2
theorem cut_ints (ns:List Int) (lo hi:Option Int):∃ms:List Int,cutV (ns.map V.int) lo hi=ms.map V.int∧ms.length≤ns.length:=by
 refine ⟨(ns.drop (HT.sIx (ns.map V.int).length 0 lo)).take (HT.sIx (ns.map V.int).length (ns.map V.int).length hi - HT.sIx (ns.map V.int).length 0 lo),?_,?_⟩
 ·unfold cutV; rw[List.map_take,List.map_drop]
 ·rw[List.length_take,List.length_drop]; omega
structure Lw.Dis (L:Lw):Prop where
 lb:L.l≠L.b
 lr:L.l≠L.lr
 lt:L.l≠L.lt
 br:L.b≠L.lr
 bt:L.b≠L.lt
 rt:L.lr≠L.lt
 al:L.a≠L.l
 ab:L.a≠L.b
 ar:L.a≠L.lr
 at':L.a≠L.lt
section
variable {K:PySem.W.Frag} {c:ClD} {H H' H1:Hp} {L:Lw} {ps ps':List Addr} {os os':List Th} {B:Nat} {rvs tvs:List V} {qds:List Addr}
theorem LwS.dict (hS:LwS K c H L ps os B rvs tvs qds) {q:Addr} (m:q∈qds):∃kvs,H q=some (.dK kvs):=by
 obtain ⟨t,ht,e⟩:=List.getElem_of_mem m
 have ht':t < tvs.length:=by rw[hS.ts.1]; exact ht
 obtain ⟨_,_,_,_,_,_,_,_,_,_,_,_,_,⟨a,b,h,_⟩,_⟩:=hS.ts.2 t tvs[t] q (List.getElem?_eq_getElem ht') (by rw[List.getElem?_eq_getElem ht,e])
 exact ⟨_,h⟩
theorem LwS.kp (hS:LwS K c H L ps os B rvs tvs qds) (w':WAt K c H' L.W L.l L.g ps' os' gv0) (kp:KpL L.S H H') (hr:H' L.lr=H L.lr) (ht:H' L.lt=H L.lt) (hq:∀q∈qds,H' q=H q) (ko:KpO os os') (c':ClO os' B) (f':FlO os') (st':StO os' B tvs.length) (ol':os'.length≤100) (ki:∀t,t < tvs.length→os'[B+t]?=os[B+t]?) (qw':∀q∈qds,¬WDc os' q):LwS K c H' L ps' os' B rvs tvs qds:=by
 refine ⟨w',c',f',st',ol',hr.trans hS.r,hS.rl,hS.rs.keep kp ko,ht.trans hS.t,⟨hS.ts.1,fun t v q e1 e2=>?_⟩,hS.qn,fun q m=>⟨qw' q m,(hS.qw q m).2⟩⟩
 exact (hS.ts.2 t v q e1 e2).keep kp (hq q (List.mem_of_getElem? e2)) ko (ki t (lt_of_some e1))
theorem LwS.spot (hS:LwS K c H L ps os B rvs tvs qds) (dis:L.Dis) {xs:List V} (hb:H L.b=some (.lst xs)) (b:But9 L.b H H'):LwS K c H' L ps os B rvs tvs qds:=by
 refine hS.kp (hS.w.butl hb dis.lb b) (b.kpl (by simp) hb) ?_ ?_ (fun q m=>?_) (KpO.refl _) hS.c hS.f hS.st hS.ol (fun _ _=>rfl) fun q m=>(hS.qw q m).1
 ·rw[b _ _ (Ne.symm dis.br) hS.r,hS.r]
 ·rw[b _ _ (Ne.symm dis.bt) hS.t,hS.t]
 ·obtain ⟨kvs,e⟩:=hS.dict m
  rw[b _ _ (fun y=>by rw[y,hb] at e; cases e) e,e]
theorem LwS.ext (hS:LwS K c H L ps os B rvs tvs qds) (dis:L.Dis) {o:Th} (no:dOf o=none) (nob:∀k d fs,o≠.ob k d fs) (nkd:∀nm ns d,o≠.kd nm ns d) (b:But9 L.l H H') (w':WAt K c H' L.W L.l L.g ps' (os++[o]) gv0) (ol:os.length≤99):LwS K c H' L ps' (os++[o]) B rvs tvs qds:=by
 have hl:=hS.w.t
 have wf:WfO (os++[o]):=hS.c.wf.add (fun nm ns d z=>absurd z (nkd nm ns d)) (fun k d fs z=>absurd z (nob k d fs))
 have ob:∀{i k:Nat} {d:Addr} {fs:Option (D×D×D)},(os++[o])[i]?=some (.ob k d fs)→os[i]?=some (.ob k d fs):=fun {i k d fs} e=>by
  rcases getElem?_snoc e with u | ⟨_,u⟩
  ·exact u
  ·exact absurd u.symm (nob k d fs)
 have kd:∀{i:Nat} {nm:Str} {ns:List Nat} {d:Addr},(os++[o])[i]?=some (.kd nm ns d)→os[i]?=some (.kd nm ns d):=fun {i nm ns d} e=>by
  rcases getElem?_snoc e with u | ⟨_,u⟩
  ·exact u
  ·exact absurd u.symm (nkd nm ns d)
 have ll:os.length≤(os++[o]).length:=(KpO.snoc os o).l
 refine hS.kp w' (b.kpl (by simp) hl) ?_ ?_ (fun q m=>?_) (KpO.snoc _ _) (hS.c.mono (KpO.snoc _ _) wf) ⟨fun i k d fs e1 e2=>?_,fun i k d fx e=>?_⟩ ⟨fun i k d fs e=>hS.st.o i k d fs (ob e),fun i nm ns d e=>hS.st.k i nm ns d (kd e)⟩ (by rw[List.length_append,List.length_singleton]; omega) (fun t ht=>?_) fun q m z=>?_
 ·rw[b _ _ (Ne.symm dis.lr) hS.r,hS.r]
 ·rw[b _ _ (Ne.symm dis.lt) hS.t,hS.t]
 ·obtain ⟨kvs,e⟩:=hS.dict m
  rw[b _ _ (fun y=>by rw[y,hl] at e; cases e) e,e]
 ·have e:=ob e1
  obtain ⟨nm,ns,d',ek⟩:=hS.c.wf.o i k d fs e
  rw[snoc_old ek] at e2
  exact hS.f.f i k d fs e (by rw[ek]; exact e2)
 ·obtain ⟨a,b⟩:=hS.f.v i k d fx (ob e)
  exact ⟨a.mono ll,b.mono ll⟩
 ·have h1:t < qds.length:=by rw[← hS.ts.1]; exact ht
  obtain ⟨_,_,_,_,_,_,_,_,_,e,_⟩:=hS.ts.2 t tvs[t] qds[t] (List.getElem?_eq_getElem ht) (List.getElem?_eq_getElem h1)
  rw[snoc_old e,e]
 ·rcases z.snoc with z | z
  ·exact (hS.qw q m).1 z
  ·rw[no] at z; cases z
theorem LwS.more (hS:LwS K c H L ps os B rvs tvs qds) (dis:L.Dis) (hB:os.length=B+tvs.length) {k:Nat} {d p rp qd:Addr} {fs:Option (D×D×D)} {x:V} (b:But9 L.l H H1) (w1:WAt K c H1 L.W L.l L.g ps' (os++[.ob k d fs]) gv0) (h8:8≤k) (hk:k < B) (np:H p=none) (nq:H qd=none) (nd:H d=none) (nqd:qd≠d) (hp:H1 p=some (.lst [x,.ref rp,.ref qd])) (hx:At K H1 (thD os.length) x) (hr:RwOk K H1 (os++[.ob k d fs]) L.S k (.ref rp)) (hd:D2At K H1 qd noD noD) (hf:isFC os[k]?=true→∃w,fs=some (w,noD,noD)) (hsb:H p=none→False∨p≠L.b) (hf2:∀fx,fs=some fx→fx.2.1=noD∧fx.2.2=noD) (ol:os.length≤99):
  LwS K c (upd H1 L.lt (.lst (tvs++[.ref p]))) L ps' (os++[.ob k d fs]) B rvs (tvs++[.ref p]) (qds++[qd]):=by
 have hl:=hS.w.t
 have t1:H1 L.lt=some (.lst tvs):=b _ _ (Ne.symm dis.lt) hS.t
 have r1:H1 L.lr=some (.lst rvs):=b _ _ (Ne.symm dis.lr) hS.r
 obtain ⟨nm,rest,d',ek,_⟩:=hS.c.kd k h8 hk
 have wf:=hS.c.wf.addOb (d:=d) (fs:=fs) ek
 have k1:KpL L.S H H1:=b.kpl (by simp) hl
 have k2:KpL L.S H1 (upd H1 L.lt (.lst (tvs++[.ref p]))):=KpL.put (by simp) t1
 have k12:=k1.trans k2
 have ko:KpO os (os++[.ob k d fs]):=KpO.snoc _ _
 have ll:=ko.l
 have keepD:∀{q:Addr} {kvs:List (Key×V)},H1 q=some (.dK kvs)→upd H1 L.lt (.lst (tvs++[.ref p])) q=H1 q:=fun {q kvs} e=>upd_ne fun y=>by rw[y,t1] at e; cases e
 refine ⟨w1.lst t1 dis.lt,hS.c.mono ko wf,⟨fun i k' d2 fs2 e1 e2=>?_,fun i k' d2 fx e=>?_⟩,⟨fun i k' d2 fs2 e=>?_,fun i nm ns d2 e=>?_⟩,by rw[List.length_append,List.length_singleton]; omega,by rw[upd_ne dis.rt]; exact r1,hS.rl,hS.rs.keep k12 ko,upd_same,⟨by rw[List.length_append,List.length_append,hS.ts.1]; rfl,fun t v q e1 e2=>?_⟩,?_,fun q m=>?_⟩
 ·rcases getElem?_snoc e1 with u | ⟨_,u⟩
  ·obtain ⟨nm2,ns2,d3,ek2⟩:=hS.c.wf.o i k' d2 fs2 u
   rw[snoc_old ek2] at e2
   exact hS.f.f i k' d2 fs2 u (by rw[ek2]; exact e2)
  ·cases u
   rw[snoc_old ek] at e2
   obtain ⟨w,e⟩:=hf (by rw[ek]; exact e2)
   exact ⟨_,e⟩
 ·rcases getElem?_snoc e with u | ⟨_,u⟩
  ·obtain ⟨a,b⟩:=hS.f.v i k' d2 fx u
   exact ⟨a.mono ll,b.mono ll⟩
  ·cases u
   obtain ⟨a,b⟩:=hf2 fx rfl
   rw[a,b]
   exact ⟨Vd.noD,Vd.noD⟩
 ·rw[List.length_append,List.length_singleton]
  rcases getElem?_snoc e with u | ⟨ui,_⟩
  ·have:=hS.st.o i k' d2 fs2 u; omega
  ·omega
 ·rcases getElem?_snoc e with u | ⟨_,u⟩
  ·exact hS.st.k i nm ns d2 u
  ·cases u
 ·rcases getElem?_snoc e1 with u1 | ⟨u1,v1⟩
  ·have ht:=lt_of_some u1
   have u2:qds[t]?=some q:=by
    rw[List.getElem?_append_left (by rw[← hS.ts.1]; exact ht)] at e2; exact e2
   have hon:=hS.ts.2 t v q u1 u2
   refine hon.keep k12 ?_ ko ?_
   ·obtain ⟨_,_,_,_,_,_,_,_,_,_,_,_,_,⟨a,b',h,_⟩,_⟩:=hon
    have h1:=b _ _ (fun y=>by rw[y,hl] at h; cases h) h
    rw[keepD h1,h1,h]
   ·obtain ⟨_,_,_,_,_,_,_,_,_,e,_⟩:=hon
    rw[snoc_old e,e]
  ·subst u1 v1
   rw[hS.ts.1,snoc_last] at e2
   cases e2
   rw[← hB]
   obtain ⟨a,b',h,_⟩:=id hd
   refine ⟨k,d,fs,p,rp,x,noD,noD,rfl,snoc_last,?_,At.fx k2.f _ _ hx,hr.keep k2 (KpO.refl _),hd.keep (keepD h) k2.f,fun m=>?_,fun z=>?_⟩
   ·rw[upd_ne (fun y=>by rw[y,hS.t] at np; cases np)]; exact hp
   ·simp only [List.mem_cons,List.not_mem_nil,or_false] at m
    rcases m with rfl | rfl | rfl | rfl
    ·rw[np] at hl; cases hl
    ·rcases hsb np with z | z
     ·exact z
     ·exact z rfl
    ·have:=hS.r; rw[np] at this; cases this
    ·have:=hS.t; rw[np] at this; cases this
   ·rw[snoc_old ek] at z
    exact hf (by rw[ek]; exact z)
 ·rw[List.nodup_append]
  refine ⟨hS.qn,(by simp),fun y hy z hz=>?_⟩
  rw[List.mem_singleton.mp hz]
  obtain ⟨kvs,e⟩:=hS.dict hy
  exact fun w=>by rw[w,nq] at e; cases e
 ·rcases List.mem_append.mp m with m | m
  ·refine ⟨fun z=>?_,(hS.qw q m).2⟩
   rcases z.snoc with z | z
   ·exact (hS.qw q m).1 z
   ·cases z
    obtain ⟨kvs,e⟩:=hS.dict m
    rw[nd] at e; cases e
  ·rw[List.mem_singleton.mp m]
   refine ⟨fun z=>?_,fun y=>?_⟩
   ·rcases z.snoc with z | z
    ·exact hS.w.freshD nq z
    ·cases z; exact nqd rfl
   ·obtain ⟨kvs,e,_⟩:=hS.w.v
    rw[← y,nq] at e; cases e
end
abbrev sLaw:Stmt:=topd 86
theorem strs_all {K:PySem.W.Frag} {H:Hp}:∀(xs:List Str),AtAll K H (xs.map D.str) (xs.map V.str)
 | []=>AtAll_nil.mpr rfl
 | x::xs=>AtAll_cons.mpr ⟨_,_,rfl,At_str.mpr rfl,strs_all xs⟩
theorem deps_strs:∀xs:List Str,deps (xs.map D.str)≤0
 | []=>by rw[List.map_nil,deps]; exact Nat.le_refl _
 | x::xs=>by
  have:=deps_strs xs
  rw[List.map_cons,deps,dep_str]; omega
theorem deps2 {a b:D} {n:Nat} (h1:dep a≤n) (h2:dep b≤n):deps [a,b]≤n:=by
 rw[deps,deps,deps]; omega
section
variable {K:PySem.W.Frag} {H H':Hp} {a b:Addr} {n:Nat}
theorem Spot9.kp (h:Spot9 K H a b n) (k:KpL [] H H'):Spot9 K H' a b n:=by
 obtain ⟨⟨ns,h1,h2⟩,h3,h4⟩:=h
 refine ⟨⟨ns,?_,h2⟩,h3,k.l _ _ (by simp) h4⟩
 rcases h1 with (e | ⟨o',e⟩) | e
 ·exact .inl (.inl (k.l _ _ (by simp) e))
 ·exact .inl (.inr ⟨o',k.f _ _ e rfl⟩)
 ·exact .inr e
end
def sBu (K:PySem.W.Frag) (c:ClD):TS:=fun D0 σ H=>∃(L:Lw) (sc:Addr) (ps:List Addr) (os:List Th) (B:Nat) (rvs:List V) (n:Nat) (ns:List Int),σ=[some (.ref sc),some (.ref L.a),some (.ref L.b),some (.ref L.W),some (.ref L.lr),some (.ref L.lt),none,none,none,none,none,none,none,none]∧LwS K c H L ps os B rvs [] []∧L.Dis∧os.length=B∧Spot9 K H L.a L.b n∧n≤100∧SqL K H sc (ns.map V.int)∧
 ∀(o6 o7 o8:Option V) H' ps' os' tvs qds n',LwS K c H' L ps' os' B rvs tvs qds→os'.length=B+tvs.length→tvs.length≤11→Spot9 K H' L.a L.b n'→n'≤200→D0.nx [some (.ref sc),some (.ref L.a),some (.ref L.b),some (.ref L.W),some (.ref L.lr),some (.ref L.lt),o6,o7,o8,none,none,none,none,none] H'
def sTu (K:PySem.W.Frag) (c:ClD):TS:=fun D0 σ H=>∃(L:Lw) (sc:Addr) (ps:List Addr) (os:List Th) (B:Nat) (rvs tvs fvs:List V) (qds:List Addr) (lf:Addr) (n:Nat) (o6 o7 o8:Option V),σ=[some (.ref sc),some (.ref L.a),some (.ref L.b),some (.ref L.W),some (.ref L.lr),some (.ref L.lt),o6,o7,o8,none,some (.ref lf),none,none,none]∧LwS K c H L ps os B rvs tvs qds∧L.Dis∧Spot9 K H L.a L.b n∧n≤300∧H lf=some (.lst fvs)∧lf ∉ L.S∧FvOk os B tvs fvs∧0 < fvs.length∧
 ∀(o7' o9 o11 o12:Option V) H' os' n',LwS K c H' L ps os' B rvs tvs qds→FvOk os' B tvs fvs→os'.length=os.length→Spot9 K H' L.a L.b n'→n'≤400→D0.nx [some (.ref sc),some (.ref L.a),some (.ref L.b),some (.ref L.W),some (.ref L.lr),some (.ref L.lt),o6,o7',o8,o9,some (.ref lf),o11,o12,none] H'
def Vs (K:PySem.W.Frag) (H:Hp) (os:List Th) (xs:List V):Prop:=∀v∈xs,∃d,At K H d v∧Vd os d
theorem Vs.same {K:PySem.W.Frag} {H H':Hp} {os:List Th} {xs:List V} (h:Vs K H os xs) (s:Same H H'):Vs K H' os xs:=fun v m=>let ⟨d,a,b⟩:=h v m; ⟨d,At.same s _ _ a,b⟩
theorem Vs.app {K:PySem.W.Frag} {H:Hp} {os:List Th} {xs ys:List V} (h:Vs K H os xs) (h':Vs K H os ys):Vs K H os (xs++ys):=fun v m=>(List.mem_append.mp m).elim (h v) (h' v)
def FstOk (K:PySem.W.Frag) (H:Hp) (os:List Th) (v:V):Prop:=∃p x r i,v=.ref p∧H p=some (.lst (x::r))∧At K H (thD i) x∧i < os.length
theorem LwS.fstR {K:PySem.W.Frag} {c:ClD} {H:Hp} {L:Lw} {ps:List Addr} {os:List Th} {B:Nat} {rvs tvs:List V} {qds:List Addr} (hS:LwS K c H L ps os B rvs tvs qds):(∀v∈rvs,FstOk K H os v)∧∀v∈tvs,FstOk K H os v:=by
 refine ⟨fun v m=>?_,fun v m=>?_⟩
 ·obtain ⟨j,hj,e⟩:=List.getElem_of_mem m
  obtain ⟨nm,ns,d,p,q,x,ys,ev,ho,hp,hx,_⟩:=hS.rs j v (by rw[List.getElem?_eq_getElem hj,e])
  exact ⟨p,x,_,_,ev,hp,hx,lt_of_some ho⟩
 ·obtain ⟨t,ht,e⟩:=List.getElem_of_mem m
  obtain ⟨qd,_,k0,dd,fs,p,rp,xx,dc,dx,ev,ho,hp,hx,_⟩:=hS.one (t:=t) (v:=v) (by rw[List.getElem?_eq_getElem ht,e])
  exact ⟨p,xx,_,_,ev,hp,hx,lt_of_some ho⟩
theorem fst_comp {K:PySem.W.Frag} {H:Hp} {os:List Th} {p:Addr} {zs:List V} {R:Addr→Hp→Prop} (hp:H p=some (.lst zs)) (hf:∀v∈zs,FstOk K H os v) (hn:zs.length≤1000) (q:∀D H' ys,H D=none→Same H H'→H' D=some (.lst ys)→ys.length=zs.length→Vs K H' os ys→R D H'):
  ∀D,H D=none→∃W':Nat→Nat→List V→Hp→Prop,(∃m,W' 0 m [] (upd H D (.lst [])))∧∀i m ys H,W' i m ys H→
   ((Itl K p).stop i H∧R D H)∨((Itl K p).go i H∧∀x H' (ox:List (Option V)),ox.length=1→(Itl K p).yld i H x H'→gName 0 x (ox++([]:List V).map some) H' fun σ2 H2=>∃ox2,ox2.length=1∧σ2=ox2++([]:List V).map some∧tTrue σ2 H2 fun b H3=>
    if b=true then tOp (rIxL K) (tVar 0) (tC (.int 0)) σ2 H3 fun v H4=>H4 D=some (.lst ys)∧ys.length < sizeLine∧∃m',m' < m∧W' (i+1) m' (ys++[v]) (upd H4 D (.lst (ys++[v]))) else ∃m',m' < m∧W' (i+1) m' ys H3):=by
 refine compG_one (vs:=[]) (tc:=tTrue) zs.length (fun i=>zs.getD i .non) (fun _=>true) (fun _ v H'=>∃d,At K H' d v∧Vd os d) (fun _ _ _ _ s z=>let ⟨d,a,b⟩:=z; ⟨d,At.same s _ _ a,b⟩) (by omega) (itl_stop (SqL.of hp)) (itl_go (SqL.of hp)) (itl_yld (SqL.of hp)) (fun i H2 Q' hi s2 k=>k H2 (Same.refl _)) (fun j H1 D l' Q' hj _ s1 _ hDl k=>?_) fun D H1 ys hD s1 hl1 hP=>?_
 ·have e2:zs.getD j .non=zs[j]:=by rw[List.getD_eq_getElem?_getD,List.getElem?_eq_getElem hj]; rfl
  obtain ⟨pp,x,r,i,ev,h1,h2,h3⟩:=hf zs[j] (List.getElem_mem hj)
  rw[e2,ev]
  exact ⟨_,rfl,pp,_,_,x,rfl,rfl,SqL.of (s1 _ _ h1),atI_nat (j:=0) rfl,k _ _ (Same.refl _) ⟨_,At.wo hDl _ _ (At.same s1 _ _ h2),Vd.th h3⟩⟩
 ·have hl:=hP.len
  rw[List.filter_eq_self.mpr (fun _ _=>rfl),List.length_range] at hl
  refine q D H1 ys hD s1 hl1 hl fun v m=>?_
  have all:∀{is:List Nat} {vs:List V},Pairs (fun _ v=>∃d,At K (wo H1 D) d v∧Vd os d) is vs→∀v∈vs,∃d,At K (wo H1 D) d v∧Vd os d:=fun {is vs} h=>by
   induction h with
   | nil=>intro v m; simp at m
   | cons h1 _ ih=>
    intro v m
    rcases List.mem_cons.mp m with rfl | m
    ·exact h1
    ·exact ih v m
  obtain ⟨d,a,b⟩:=all hP v m
  exact ⟨d,At.same (wo_same H1 D) _ _ a,b⟩
def sCk (K:PySem.W.Frag) (c:ClD):TS:=fun D0 σ H=>∃(L:Lw) (ps:List Addr) (os:List Th) (B:Nat) (rvs tvs:List V) (qds:List Addr) (i k:Nat) (d p rp qd:Addr) (xx:V) (wd dc dx:D),σ[3]?=some (some (.ref L.W))∧σ[9]?=some (some (.ref p))∧LwS K c H L ps os B rvs tvs qds∧H p=some (.lst [xx,.ref rp,.ref qd])∧At K H (thD i) xx∧os[i]?=some (.ob k d (some (wd,dc,dx)))∧D2At K H qd dc dx∧qd∈qds∧Vd os dc∧Vd os dx∧∀H',Same H H'→D0.nx σ H'
def sWa (K:PySem.W.Frag) (c:ClD):TS:=fun D0 σ H=>∃(L:Lw) (ps:List Addr) (os:List Th) (B:Nat) (rvs tvs:List V) (qds:List Addr) (n:Int),σ[4]?=some (some (.ref L.lr))∧σ[5]?=some (some (.ref L.lt))∧σ[7]?=some (some (.int n))∧LwS K c H L ps os B rvs tvs qds∧0 < tvs.length∧∀lp ys H',Same H H'→H' lp=some (.lst ys)→0 < ys.length→ys.length≤1000→Vs K H' os ys→D0.nx (σ.set 12 (some (.ref lp))) H'
section
variable {P:Program} {w:World} {K:PySem.W.Frag} {mg:Str→Option Value} {base:Heap} {f:Addr} {fd:FuncData} {c:ClD}
def spLaw (K:PySem.W.Frag):Sp:=fun vs H Q _=>∃(a:Addr) (ns:List Int),vs=[.ref a]∧SqL K H a (ns.map V.int)∧ns.length≤63∧∀H',Q (.bl true) H'
theorem scLaw:FnScope ["_law_script","_law_cells","_law_spot","_law_world","_law_rows","_law_things","_law_k","_law_n","_law_row","_law_one","_law_faults","_law_turn","_law_wanted","_law_plain_here"] ["_law_script"] (defScope sLaw):=⟨rfl,rfl,rfl,by decide +kernel,rfl,by decide +kernel,by decide +kernel⟩
theorem ok_Law (g:Glb9 mg) (F:Fun K "law" "law" sLaw f fd) (dAt:Def P w K mg base "_law_cell_at" ["_law_script","_law_k"] 1 (spAt9 K)) (dCe:Def P w K mg base "_law_cell" ["_law_cells","_law_spot"] 1 (spCell9 K)) (MW:MkDef P w K mg base "World" c.W ["self","inputs"] 4 (spWI K c)) (dDr:Def P w K mg base "_law_drawn_names" ["_law_n"] 1 (spDrn K)) (dCl:Def P w K mg base "_law_classes" ["_law_world","_law_cells","_law_spot","_law_names_here"] 6 (spCls K c)) (dC:Def P w K mg base "called" ["world","a","values"] 6 (spCld K c)) (dM:Def P w K mg base "_law_made_right" ["_law_world","_law_rows","_law_n"] 6 (spMr K c)) (dK:Def P w K mg base "known" ["world","name"] 1 (spKn K c))
  (dB:Def P w K mg base "_law_bound" ["_law_world","_law_things","_law_faults","_law_rows","_law_n"] 3 (spBd K c)) (dF:Def P w K mg base "field_of" ["world","a","name"] 4 (spFof K c)) (dN:Def P w K mg base "names_of" ["world","fault"] 6 (spNms K c)) (dNa:Def P w K mg base "_law_names" ["_law_world","_law_things","_law_one"] 2 (spNa K c)) (dPl:Def P w K mg base "_law_plain" ["_law_n"] 1 (spPl K)) (dFr:Def P w K mg base "_law_fits_right" ["_law_world","_law_rows","_law_one","_law_a"] 5 (spFr K c)) (dFn:Def P w K mg base "function" ["world","name","params","defaults","code","around","gives"] 3 (spFun K c)) (dL:Def P w K mg base "_law_looked" ["_law_world","_law_rows","_law_things","_law_a"] 6 (spLk K c)):FnOk P w K mg base CX0 7 f fd ["_law_script"] (spLaw K):=by
 refine F.okI scLaw (fun vs H Q E h=>?_) (fun cdv A outer s H vs Q E hr h=>?_)
 ·obtain ⟨_,_,rfl,_⟩:=h; rfl
 obtain ⟨sc,ns,rfl,hsc,h63,q⟩:=h
 refine ⟨_,(pss_cons (ps_set (i:=1) scLaw.nd rfl (Or.inl rfl) (pe_slice sl_list (pv 0) (po_some pe_int) (po_some pe_int)))
   (pss_cons (ps_set (i:=2) scLaw.nd rfl (Or.inl rfl) (pe_lst (pa_cons pe_int pa_nil)))
   (pss_cons (ps_set (i:=3) scLaw.nd rfl (Or.inr rfl) (L3.pe_mk MW hr (by decide) rfl (pa_cons (pe_lst pa_nil) pa_nil)))
   (pss_cons (ps_set (i:=4) scLaw.nd rfl (Or.inr rfl) (L3.pe_def dCl hr (by decide) rfl (pa_cons (pv 3) (pa_cons (pv 1) (pa_cons (pv 2) (pa_cons (L3.pe_def dDr hr (by decide) rfl (pa_cons (L3.pe_def dAt hr (by decide) rfl (pa_cons (pv 0) (pa_cons pe_int pa_nil))) pa_nil)) pa_nil))))))
   (pss_cons (ps_set (i:=5) scLaw.nd rfl (Or.inr rfl) (pe_lst pa_nil))
   (pss_cons (ps_imp (t':=sBu K c) (ps_for PassesOwn.never rfl (pi_range1 rfl g.nRange (pa_cons (pe_op op_add pe_int (pe_op op_mod (L3.pe_def dAt hr (by decide) rfl (pa_cons (pv 0) (pa_cons pe_int pa_nil))) pe_int)) pa_nil)) (pg_name (i:=6) scLaw.nd rfl (Or.inl rfl)) (pss_cons (ps_set (i:=7) scLaw.nd rfl (Or.inl rfl) (L3.pe_def dCe hr (by decide) rfl (pa_cons (pv 1) (pa_cons (pv 2) pa_nil))))
   (pss_one (ps_if (pt_cmpR op_eq (pe_op op_mod (pv 7) pe_int) pe_int (nomark _)) (pss_cons (ps_set (i:=8) scLaw.nd rfl (Or.inl rfl) (pe_ix (r:=rIxL K) ix_list (pv 4) (pe_op op_mod (pe_op op_fdiv (pv 7) pe_int) (pe_callB call_len_seq rfl g.nLen b9Len (pa_cons (pv 4) pa_nil))) (fun _ _=>rfl)))
   (pss_one (ps_expr (pe_bm PySem.F.plainAttrs_list PySem.F.slot_list_append PySem.F.type_list_append mt_append (pv 5) (pa_cons (pe_lst (pa_cons (pe_nth (L3.pe_def dC hr (by decide) rfl (pa_cons (pv 3) (pa_cons (pe_ix (r:=rIxL K) ix_list (pv 8) pe_int (fun _ _=>rfl)) (pa_cons (pe_tup pa_nil) pa_nil))))) (pa_cons (pv 8) (pa_cons (pe_dn (L3.pe_disp (L3.pps_cons pe_str (pe_tup (pa_cons pe_str pa_nil)) (L3.pps_cons pe_str (pe_tup (pa_cons pe_str pa_nil)) L3.pps_nil)))) pa_nil)))) pa_nil))))) (pss_one (ps_expr (pe_bm PySem.F.plainAttrs_list PySem.F.slot_list_append PySem.F.type_list_append mt_append (pv 5) (pa_cons (L3.pe_def dM hr (by decide) rfl (pa_cons (pv 3) (pa_cons (pv 4) (pa_cons (pe_op op_fdiv (pv 7) pe_int) pa_nil)))) pa_nil)))))))) ?bu)
   (pss_cons (ps_expr (pe_bm PySem.F.plainAttrs_list PySem.F.slot_list_append PySem.F.type_list_append mt_append (pv 5) (pa_cons (L3.pe_def dM hr (by decide) rfl (pa_cons (pv 3) (pa_cons (pv 4) (pa_cons pe_int pa_nil)))) pa_nil)))
   (pss_cons (ps_if (pt_cmpR (op_inNL hr) pe_non (pv 5) rfl) (pss_one ps_dead) pss_nil)
   (pss_cons (.mk (L2.ps_setCompG (iy:=10) (cl:=[("_law_world",s.heap.objs.size+1)]) (Xs:=["_law_one"]) (Nf:=["_law_world"]) (js:=[3]) ?k1 rfl (LI.out (pi_list (pv 5))) (fun C s0 H0 fp=>LG.out (pg_name (i:=0) (show (["_law_one","_law_world"]:List Str).Nodup by decide +kernel) rfl (Or.inl rfl))) (fun C s0 H0 fp=>pts_one (LT.out (pt_cmpR (r:=rInLK K) (op_inLK hr) (L3.pe_def dK hr (by decide) rfl (pa_cons (pv 1) (pa_cons pe_str pa_nil))) (pe_ix (r:=rIxL K) ix_list (pe_ix (r:=rIxL K) ix_list (pv 0) pe_int (fun _ _=>rfl)) pe_int (fun _ _=>rfl)) rfl))) (fun C s0 H0 fp=>LE.out (pv 0)) scLaw.nd rfl (Or.inl rfl)))
   (pss_cons (ps_imp (t':=sTu K c) (ps_for PassesOwn.never rfl (pi_range1 rfl g.nRange (pa_cons pe_int pa_nil)) (pg_name (i:=11) scLaw.nd rfl (Or.inl rfl)) (pss_cons (ps_set (i:=7) scLaw.nd rfl (Or.inl rfl) (L3.pe_def dCe hr (by decide) rfl (pa_cons (pv 1) (pa_cons (pv 2) pa_nil))))
   (pss_cons (ps_if (pt_not (pt_val (L3.pe_def dB hr (by decide) rfl (pa_cons (pv 3) (pa_cons (pv 5) (pa_cons (pv 10) (pa_cons (pv 4) (pa_cons (pv 7) pa_nil)))))))) (pss_one ps_dead) pss_nil)
   (pss_cons (ps_set (i:=9) scLaw.nd rfl (Or.inr rfl) (pe_ix (r:=rIxL K) ix_list (pv 10) (pe_op op_mod (pe_op op_fdiv (pv 7) pe_int) (pe_callB call_len_seq rfl g.nLen b9Len (pa_cons (pv 10) pa_nil))) (fun _ _=>rfl)))
   (pss_cons (ps_imp (t':=sCk K c) (ps_if (pt_cmpR (op_neLD hr) (L3.pe_thaw (.mk (L2.pe_compG (cl:=[("_law_world",s.heap.objs.size+1),("_law_one",s.heap.objs.size+4)]) (Xs:=["_law_name"]) (Nf:=["_law_world","_law_one"]) (js:=[3,9]) ?k2 rfl (LI.out (L3.pi_dict (pe_ix (r:=rIxL K) ix_list (pv 9) pe_int (fun _ _=>rfl)))) (fun C s0 H0 fp=>LG.out (pg_name (i:=0) (show (["_law_name","_law_world","_law_one"]:List Str).Nodup by decide +kernel) rfl (Or.inl rfl))) (fun C s0 H0 fp=>pts_nil) (fun C s0 H0 fp=>LE.out (L3.pe_def dF hr (by decide) rfl (pa_cons (pv 1) (pa_cons (pe_ix (r:=rIxL K) ix_list (pv 2) pe_int (fun _ _=>rfl)) (pa_cons (pv 0) pa_nil)))))))) (L3.pe_thaw (.mk (L2.pe_compG (cl:=[("_law_one",s.heap.objs.size+4)]) (Xs:=["_law_name"]) (Nf:=["_law_one"]) (js:=[9]) ?k3 rfl (LI.out (L3.pi_dict (pe_ix (r:=rIxL K) ix_list (pv 9) pe_int (fun _ _=>rfl)))) (fun C s0 H0 fp=>LG.out (pg_name (i:=0) (show (["_law_name","_law_one"]:List Str).Nodup by decide +kernel) rfl (Or.inl rfl))) (fun C s0 H0 fp=>pts_nil) (fun C s0 H0 fp=>LE.out (pe_tup (pa_cons pe_str (pa_cons (L3.pe_dget (hu_of hr) (pe_ix (r:=rIxL K) ix_list (pv 1) pe_int (fun _ _=>rfl)) (pv 0)) pa_nil))))))) (nomark _)) (pss_one ps_dead) pss_nil) ?ck)
   (pss_cons (ps_if (pt_cmpR (op_neLD hr) (L3.pe_def dN hr (by decide) rfl (pa_cons (pv 3) (pa_cons (pe_ix (r:=rIxL K) ix_list (pv 9) pe_int (fun _ _=>rfl)) pa_nil))) (L3.pe_def dNa hr (by decide) rfl (pa_cons (pv 3) (pa_cons (pv 5) (pa_cons (pv 9) pa_nil)))) (nomark _)) (pss_one ps_dead) pss_nil)
   (pss_cons (ps_imp (t':=sWa K c) (ps_set (i:=12) scLaw.nd rfl (Or.inl rfl) (pe_op op_cat (.mk (L2.pe_compG (cl:=[]) (Xs:=["_law_row"]) (Nf:=[]) (js:=[]) ?k5 rfl (LI.out (pi_list (pv 4))) (fun C s0 H0 fp=>LG.out (pg_name (i:=0) (show (["_law_row"]:List Str).Nodup by decide +kernel) rfl (Or.inl rfl))) (fun C s0 H0 fp=>pts_nil) (fun C s0 H0 fp=>LE.out (pe_ix (r:=rIxL K) ix_list (pv 0) pe_int (fun _ _=>rfl))))) (pe_lst (pa_cons (pe_ix (r:=rIxL K) ix_list (pe_ix (r:=rIxL K) ix_list (pv 5) (pe_op op_mod (pv 7) (pe_callB call_len_seq rfl g.nLen b9Len (pa_cons (pv 5) pa_nil))) (fun _ _=>rfl)) pe_int (fun _ _=>rfl)) (pa_cons (L3.pe_def dPl hr (by decide) rfl (pa_cons (pv 7) pa_nil)) pa_nil))))) ?wa)
   (pss_one (ps_if (pt_not (pt_val (L3.pe_def dFr hr (by decide) rfl (pa_cons (pv 3) (pa_cons (pv 4) (pa_cons (pv 9) (pa_cons (pe_ix (r:=rIxL K) ix_list (pv 12) (pe_op op_mod (pe_op op_fdiv (pv 7) pe_int) (pe_callB call_len_seq rfl g.nLen b9Len (pa_cons (pv 12) pa_nil))) (fun _ _=>rfl)) pa_nil))))))) (pss_one ps_dead) pss_nil))))))))) ?tu)
   (pss_cons (ps_set (i:=13) scLaw.nd rfl (Or.inl rfl) (pe_lst (pa_cons (L3.pe_def dPl hr (by decide) rfl (pa_cons (L3.pe_def dCe hr (by decide) rfl (pa_cons (pv 1) (pa_cons (pv 2) pa_nil))) pa_nil)) (pa_cons (L3.pe_def dFn hr (by decide) rfl (pa_cons (pv 3) (pa_cons pe_str (pa_cons pe_int (pa_cons (pe_tup pa_nil) (pa_cons pe_int (pa_cons pe_int (pa_cons pe_bl pa_nil)))))))) (pa_cons (L3.pe_def dK hr (by decide) rfl (pa_cons (pv 3) (pa_cons pe_str pa_nil))) pa_nil)))))
   (pss_cons (ps_expr (pe_bm PySem.F.plainAttrs_list PySem.F.slot_list_append PySem.F.type_list_append mt_append (pv 13) (pa_cons (pe_nth (L3.pe_def dC hr (by decide) rfl (pa_cons (pv 3) (pa_cons (L3.pe_def dK hr (by decide) rfl (pa_cons (pv 3) (pa_cons pe_str pa_nil))) (pa_cons (pe_tup (pa_cons (L3.pe_def dK hr (by decide) rfl (pa_cons (pv 3) (pa_cons pe_str pa_nil))) (pa_cons (pe_ix (r:=rIxL K) ix_list (pe_ix (r:=rIxL K) ix_list (pv 5) (pe_un un_neg pe_int) (fun _ _=>rfl)) pe_int (fun _ _=>rfl)) pa_nil))) pa_nil))))) pa_nil)))
   (pss_one (ps_ret (pe_callB (call_all rfl) rfl g.nAll b9All (pa_cons (.mk (L2.pe_compG (cl:=[("_law_world",s.heap.objs.size+1),("_law_things",s.heap.objs.size+3),("_law_rows",s.heap.objs.size+2)]) (Xs:=["_law_a"]) (Nf:=["_law_world","_law_things","_law_rows"]) (js:=[3,5,4]) ?k7 rfl (LI.out (pi_list (pe_op op_cat (.mk (L2.pe_compG (cl:=[]) (Xs:=["_law_row"]) (Nf:=[]) (js:=[]) ?k6 rfl (LI.out (pi_list (pe_op op_cat (pv 4) (pv 5)))) (fun C s0 H0 fp=>LG.out (pg_name (i:=0) (show (["_law_row"]:List Str).Nodup by decide +kernel) rfl (Or.inl rfl))) (fun C s0 H0 fp=>pts_nil) (fun C s0 H0 fp=>LE.out (pe_ix (r:=rIxL K) ix_list (pv 0) pe_int (fun _ _=>rfl))))) (pv 13)))) (fun C s0 H0 fp=>LG.out (pg_name (i:=0) (show (["_law_a","_law_world","_law_things","_law_rows"]:List Str).Nodup by decide +kernel) rfl (Or.inl rfl))) (fun C s0 H0 fp=>pts_nil) (fun C s0 H0 fp=>LE.out (L3.pe_def dL hr (by decide) rfl (pa_cons (pv 1) (pa_cons (pv 3) (pa_cons (pv 2) (pa_cons (pv 0) pa_nil)))))))) pa_nil)))))))))))))))),?main⟩
 case k1=>
  refine ⟨rfl,by decide +kernel,rfl,by decide +kernel,fun y c h=>?_,fun y hy=>?_,rfl,fun j y h=>?_⟩
  ·obtain ⟨rfl,rfl⟩:=look1 h; rfl
  ·have hy':([(".0",.local),("_law_one",.local),("known",.globalImplicit),("_law_world",.cell)]:List (Str×NameKind)).lookup y=some .cell∨([(".0",.local),("_law_one",.local),("known",.globalImplicit),("_law_world",.cell)]:List (Str×NameKind)).lookup y=some .free:=hy
   rcases hy' with z | z
   ·have m:=PySem.mem_of_lookup z
    simp at m
    subst m
    exact ⟨_,rfl⟩
   ·have m:=PySem.mem_of_lookup z
    simp at m
  ·match j,h with
   | 0,h=>cases h; exact ⟨3,rfl,rfl,rfl,.inl rfl⟩
   | j+1,h=>simp at h
 case k2=>
  refine ⟨rfl,by decide +kernel,rfl,by decide +kernel,fun y c h=>?_,fun y hy=>?_,rfl,fun j y h=>?_⟩
  ·rcases look2 h with ⟨rfl,rfl⟩ | ⟨rfl,rfl⟩ <;> rfl
  ·have hy':([(".0",.local),("_law_name",.local),("field_of",.globalImplicit),("_law_one",.cell),("_law_world",.cell)]:List (Str×NameKind)).lookup y=some .cell∨([(".0",.local),("_law_name",.local),("field_of",.globalImplicit),("_law_one",.cell),("_law_world",.cell)]:List (Str×NameKind)).lookup y=some .free:=hy
   rcases hy' with z | z
   ·have m:=PySem.mem_of_lookup z
    simp at m
    rcases m with rfl | rfl <;> exact ⟨_,rfl⟩
   ·have m:=PySem.mem_of_lookup z
    simp at m
  ·match j,h with
   | 0,h=>cases h; exact ⟨3,rfl,rfl,rfl,.inl rfl⟩
   | 1,h=>cases h; exact ⟨9,rfl,rfl,rfl,.inl rfl⟩
   | j+2,h=>simp at h
 case k3=>
  refine ⟨rfl,by decide +kernel,rfl,by decide +kernel,fun y c h=>?_,fun y hy=>?_,rfl,fun j y h=>?_⟩
  ·obtain ⟨rfl,rfl⟩:=look1 h; rfl
  ·have hy':([(".0",.local),("_law_name",.local),("_law_one",.cell)]:List (Str×NameKind)).lookup y=some .cell∨([(".0",.local),("_law_name",.local),("_law_one",.cell)]:List (Str×NameKind)).lookup y=some .free:=hy
   rcases hy' with z | z
   ·have m:=PySem.mem_of_lookup z
    simp at m
    subst m
    exact ⟨_,rfl⟩
   ·have m:=PySem.mem_of_lookup z
    simp at m
  ·match j,h with
   | 0,h=>cases h; exact ⟨9,rfl,rfl,rfl,.inl rfl⟩
   | j+1,h=>simp at h
 case k5=>
  refine ⟨rfl,by decide +kernel,rfl,by decide +kernel,fun y c h=>(by cases h),fun y hy=>?_,rfl,fun j y h=>(by simp at h)⟩
  have hy':([(".0",.local),("_law_row",.local)]:List (Str×NameKind)).lookup y=some .cell∨([(".0",.local),("_law_row",.local)]:List (Str×NameKind)).lookup y=some .free:=hy
  rcases hy' with z | z <;> (have m:=PySem.mem_of_lookup z; simp at m)
 case k6=>
  refine ⟨rfl,by decide +kernel,rfl,by decide +kernel,fun y c h=>(by cases h),fun y hy=>?_,rfl,fun j y h=>(by simp at h)⟩
  have hy':([(".0",.local),("_law_row",.local)]:List (Str×NameKind)).lookup y=some .cell∨([(".0",.local),("_law_row",.local)]:List (Str×NameKind)).lookup y=some .free:=hy
  rcases hy' with z | z <;> (have m:=PySem.mem_of_lookup z; simp at m)
 case k7=>
  refine ⟨rfl,by decide +kernel,rfl,by decide +kernel,fun y c h=>?_,fun y hy=>?_,rfl,fun j y h=>?_⟩
  ·rcases look3 h with ⟨rfl,rfl⟩ | ⟨rfl,rfl⟩ | ⟨rfl,rfl⟩ <;> rfl
  ·have hy':([(".0",.local),("_law_a",.local),("_law_looked",.globalImplicit),("_law_rows",.cell),("_law_things",.cell),("_law_world",.cell)]:List (Str×NameKind)).lookup y=some .cell∨([(".0",.local),("_law_a",.local),("_law_looked",.globalImplicit),("_law_rows",.cell),("_law_things",.cell),("_law_world",.cell)]:List (Str×NameKind)).lookup y=some .free:=hy
   rcases hy' with z | z
   ·have m:=PySem.mem_of_lookup z
    simp at m
    rcases m with rfl | rfl | rfl <;> exact ⟨_,rfl⟩
   ·have m:=PySem.mem_of_lookup z
    simp at m
  ·match j,h with
   | 0,h=>cases h; exact ⟨3,rfl,rfl,rfl,.inl rfl⟩
   | 1,h=>cases h; exact ⟨5,rfl,rfl,rfl,.inl rfl⟩
   | 2,h=>cases h; exact ⟨4,rfl,rfl,rfl,.inl rfl⟩
   | j+3,h=>simp at h
 case ck=>
  rintro D0 σ H ⟨L,ps,os,B,rvs,tvs,qds,i,kc,d,p,rp,qd,xx,wd,dc,dx,e3,e9,hS,hp,hx,ho,⟨va,vb,hd,hva,hvb⟩,hqm,hvc,hvx,qq⟩
  obtain ⟨rc,erc⟩:=hvc.tup
  obtain ⟨rx,erx⟩:=hvx.tup
  refine ⟨qd,⟨_,hd⟩,_,e9,p,_,_,.ref qd,rfl,rfl,SqL.of hp,atI_nat (j:=2) rfl,qd,_,rfl,hd,fun o=>⟨[.ref L.W,.ref p],⟨rfl,fun j i h=>?_⟩,?_⟩⟩
  ·match j,h with
   | 0,h=>cases h; exact ⟨_,rfl,e3⟩
   | 1,h=>cases h; exact ⟨_,rfl,e9⟩
   | j+2,h=>simp at h
  have hf:upd H qd (.frz o (.dK (d2K va vb))) qd=some (.frz o (.dK (d2K va vb))):=upd_same
  have tk:Tk H (upd H qd (.frz o (.dK (d2K va vb)))):=Tk.put hd rfl
  have wf:WAt K c (upd H qd (.frz o (.dK (d2K va vb)))) L.W L.l L.g ps os gv0:=hS.w.keep fun p' u e1 e2 e3'=>by
   rw[upd_ne (fun y=>?_)]; exact e1
   rw[y,hd] at e1; cases e1
   rcases e3' _ rfl with z | z
   ·exact (hS.qw qd hqm).2 (y ▸ z)
   ·exact (hS.qw qd hqm).1 (y ▸ z)
  have pf:upd H qd (.frz o (.dK (d2K va vb))) p=some (.lst [xx,.ref rp,.ref qd]):=by rw[upd_ne (fun y=>by rw[y,hd] at hp; cases hp)]; exact hp
  have xf:=At.tk tk _ _ hx
  have thaw:∀{H'},Same (upd H qd (.frz o (.dK (d2K va vb)))) H'→Same H (upd H' qd (.dK (d2K va vb))):=fun s=>thaw_same hd s
  revert hf wf pf xf thaw
  generalize upd H qd (.frz o (.dK (d2K va vb)))=Hf
  intro hf wf pf xf thaw
  refine compG_one (vs:=[.ref L.W,.ref p]) (tc:=tTrue) (d2K va vb).length (fun i=>((d2K va vb).map fun e=>kV e.1).getD i .non) (fun _=>true) (fun j v H'=>At K H' ([valD dc,valD dx].getD j .non) v) (fun _ _ _ _ s z=>At.same s _ _ z) (by show 2≤1000000; decide) (itd_stop hf) (itd_go hf) itd_yld (fun i H2 Q' hi s2 k=>k H2 (Same.refl _)) (fun j H4 D l' Q' hj _ s4 _ hDl k=>?_) fun lp H4 ys hlp s4 hl4 hP4=>?_
  ·have one:∀(nme:Str) (dd:GS.D),fldR (some (wd,dc,dx)) nme=valD dd→(∀e,fldD (some (wd,dc,dx)) nme=some e→∃r,e=.tup r)→(∀v H5,Same H4 H5→At K (wo H5 D) (valD dd) v→Q' v H5)→tCall (spFof K c) [] E0 (tCons (tVar 1) (tCons (tOp (rIxL K) (tVar 2) (tC (.int 0))) (tCons (tVar 0) tNil))) [some (.str nme),some (.ref L.W),some (.ref p)] H4 Q':=fun nme dd e1 e2 k'=>
    ⟨_,rfl,_,rfl,p,_,_,xx,rfl,rfl,SqL.of (s4 _ _ pf),atI_nat (j:=0) rfl,_,rfl,L.W,L.l,L.g,ps,os,gv0,xx,i,kc,d,_,nme,rfl,wf.same s4,hS.c.wf,At.same s4 _ _ xf,ho,e2,fun r5 H5 s5 a5=>k' r5 H5 s5 (by rw[e1] at a5; exact At.wo (s5 _ _ hDl) _ _ a5)⟩
   match j,hj,k with
   | 0,_,k=>exact one "cause" dc (fldR_w _).2.1 (fun e h=>by rw[fldD_some,if_neg (by decide +kernel),if_pos rfl] at h; cases h; exact ⟨_,erc⟩) k
   | 1,_,k=>exact one "context" dx (fldR_w _).2.2 (fun e h=>by rw[fldD_some,if_neg (by decide +kernel),if_neg (by decide +kernel),if_pos rfl] at h; cases h; exact ⟨_,erx⟩) k
   | j+2,hj,_=>exact absurd hj (by show ¬j+2 < 2; omega)
  have hf4:=s4 _ _ hf
  have A4:AtAll K H4 [valD dc,valD dx] ys:=(hP4.mono (fun i v z=>At.same (wo_same H4 lp) _ _ z)).at
  refine ⟨o,d2K va vb,hf4,?_⟩
  have s5:=thaw s4
  have A5:AtAll K (upd H4 qd (.dK (d2K va vb))) [valD dc,valD dx] ys:=AtAll.tk (Tk.put hf4 rfl) _ _ A4
  have l5:upd H4 qd (.dK (d2K va vb)) lp=some (.lst ys):=by rw[upd_ne (fun y=>by rw[y,hf4] at hl4; cases hl4)]; exact hl4
  clear A4 hP4 hf4 hl4 hf pf xf wf thaw tk s4
  revert s5 A5 l5
  generalize upd H4 qd (.dK (d2K va vb))=H5
  intro s5 A5 l5
  have hd5:=s5 _ _ hd
  have hp5:=s5 _ _ hp
  refine ⟨qd,⟨_,hd5⟩,_,e9,p,_,_,.ref qd,rfl,rfl,SqL.of hp5,atI_nat (j:=2) rfl,qd,_,rfl,hd5,fun o=>⟨[.ref p],⟨rfl,fun j i h=>?_⟩,?_⟩⟩
  ·match j,h with
   | 0,h=>cases h; exact ⟨_,rfl,e9⟩
   | j+1,h=>simp at h
  have hf:upd H5 qd (.frz o (.dK (d2K va vb))) qd=some (.frz o (.dK (d2K va vb))):=upd_same
  have tk:Tk H5 (upd H5 qd (.frz o (.dK (d2K va vb)))):=Tk.put hd5 rfl
  have pf:upd H5 qd (.frz o (.dK (d2K va vb))) p=some (.lst [xx,.ref rp,.ref qd]):=by rw[upd_ne (fun y=>by rw[y,hd5] at hp5; cases hp5)]; exact hp5
  have cf:=At.tk tk _ _ (At.same s5 _ _ hva)
  have xf:=At.tk tk _ _ (At.same s5 _ _ hvb)
  have thaw:∀{H'},Same (upd H5 qd (.frz o (.dK (d2K va vb)))) H'→Same H5 (upd H' qd (.dK (d2K va vb))):=fun s=>thaw_same hd5 s
  revert hf pf cf xf thaw
  generalize upd H5 qd (.frz o (.dK (d2K va vb)))=Hf
  intro hf pf cf xf thaw
  refine compG_one (vs:=[.ref p]) (tc:=tTrue) (d2K va vb).length (fun i=>((d2K va vb).map fun e=>kV e.1).getD i .non) (fun _=>true) (fun j v H'=>At K H' ([valD dc,valD dx].getD j .non) v) (fun _ _ _ _ s z=>At.same s _ _ z) (by show 2≤1000000; decide) (itd_stop hf) (itd_go hf) itd_yld (fun i H2 Q' hi s2 k=>k H2 (Same.refl _)) (fun j H6 D l' Q' hj _ s6 _ hDl k=>?_) fun lp2 H6 ys2 hlp2 s6 hl6 hP6=>?_
  ·have one:∀(nme:Str) (dd:GS.D) (vv:V),valV (d2K va vb) (.inr nme:Key)=some vv→At K Hf dd vv→(∀v H5,Same H6 H5→At K (wo H5 D) (valD dd) v→Q' v H5)→tTup (tCons (tC (.str "value")) (tCons (tDGet (tOp (rIxL K) (tVar 1) (tC (.int 2))) (tVar 0)) tNil)) [some (.str nme),some (.ref p)] H6 Q':=fun nme dd vv e1 a1 k'=>by
    refine ⟨_,rfl,p,_,_,.ref qd,rfl,rfl,SqL.of (s6 _ _ pf),atI_nat (j:=2) rfl,_,rfl,qd,vv,rfl,.inl ⟨d2K va vb,.inr nme,.inr ⟨o,s6 _ _ hf⟩,rfl,e1.symm⟩,by show 2≤sizeLine; decide,fun tp htp=>k' _ _ (same_new htp _) ?_⟩
    exact At.wo (same_new htp _ _ _ hDl) _ _ (At.new htp (AtAll2 (At_str.mpr rfl) (At.same s6 _ _ a1)))
   match j,hj,k with
   | 0,_,k=>exact one "cause" dc va (d2K_val va vb).1 cf k
   | 1,_,k=>exact one "context" dx vb (d2K_val va vb).2 xf k
   | j+2,hj,_=>exact absurd hj (by show ¬j+2 < 2; omega)
  have hf6:=s6 _ _ hf
  have A6:AtAll K H6 [valD dc,valD dx] ys2:=(hP6.mono (fun i v z=>At.same (wo_same H6 lp2) _ _ z)).at
  refine ⟨o,d2K va vb,hf6,?_⟩
  have s7:=thaw s6
  have A7:AtAll K (upd H6 qd (.dK (d2K va vb))) [valD dc,valD dx] ys2:=AtAll.tk (Tk.put hf6 rfl) _ _ A6
  have l7:upd H6 qd (.dK (d2K va vb)) lp2=some (.lst ys2):=by rw[upd_ne (fun y=>by rw[y,hf6] at hl6; cases hl6)]; exact hl6
  exact ⟨lp,lp2,ys,ys2,[valD dc,valD dx],rfl,rfl,SqL.of (s7 _ _ l5),SqL.of l7,AtAll.same s7 _ _ A5,A7,deps2 (Nat.le_trans (dep_val hvc.2) (by decide)) (Nat.le_trans (dep_val hvx.2) (by decide)),_,rfl,iteF (qq _ (s5.trans s7))⟩
 case wa=>
  rintro D0 σ H ⟨L,ps,os,B,rvs,tvs,qds,n,e4,e5,e7,hS,ht0,qq⟩
  have hrl:=hS.rl
  have hBh:=hS.c.hi
  refine ⟨_,e4,L.lr,rfl,⟨_,SqL.of hS.r⟩,[],⟨rfl,fun j i h=>(by simp at h)⟩,fst_comp hS.r hS.fstR.1 (by omega) fun lp H1 ys hlp s1 hl1 hly hV=>?_⟩
  have hS1:=hS.same s1
  obtain ⟨j,v,e8,m8,e9⟩:=atI_mod (n:=n) ht0
  obtain ⟨p,x,r,i,rfl,hp,hx,hi⟩:=hS1.fstR.2 v m8
  refine ⟨_,e5,_,e7,_,e5,L.lt,_,rfl,.inl (SqL.of hS1.t),_,_,rfl,rfl,(by show (0:Int) < ((tvs.length:Nat):Int); omega),L.lt,_,_,_,rfl,rfl,SqL.of hS1.t,e9,p,_,_,x,rfl,rfl,SqL.of hp,atI_nat (j:=0) rfl,_,e7,_,rfl,fun dp vp H2 hP s2 ap=>⟨by show 2≤sizeLine; decide,fun pl hpl=>?_⟩⟩
  have s3:=s2.trans (same_new hpl (.lst [x,vp]))
  have l3:upd H2 pl (.lst [x,vp]) pl=some (.lst [x,vp]):=upd_same
  have a3:=At.same (same_new hpl (.lst [x,vp])) _ _ ap
  revert s3 l3 a3
  generalize upd H2 pl (.lst [x,vp])=H3
  intro s3 l3 a3
  refine ⟨lp,pl,ys,_,rfl,rfl,s3 _ _ hl1,l3,small (by rw[hly]; show _+2≤_; omega),fun p4 hp4=>?_⟩
  have s4:=same_new hp4 (.lst (ys++[x,vp]))
  refine qq p4 _ _ ((s1.trans s3).trans s4) upd_same (by rw[List.length_append]; show 0 < _+2; omega) (by rw[List.length_append,hly]; show _+2≤_; omega) ((hV.same (s3.trans s4)).app fun v m=>?_)
  simp only [List.mem_cons,List.not_mem_nil,or_false] at m
  rcases m with rfl | rfl
  ·exact ⟨_,At.same (s3.trans s4) _ _ hx,Vd.th hi⟩
  ·exact ⟨_,At.same s4 _ _ a3,(hP.vd os).1⟩
 case bu=>
  rintro D0 σ H ⟨L,sc,ps,os,B,rvs,n,ns,rfl,hS,dis,hoB,hsp,hn,hsc,qq⟩
  have hlo:=hS.c.lo
  have hhi:=hS.c.hi
  have hrl:=hS.rl
  refine ⟨_,rfl,sc,ns,0,rfl,hsc,fun ci=>⟨_,_,rfl,rfl,(show (0:Int) < _ by decide),_,_,rfl,rfl,_,rfl,?_⟩⟩
  obtain ⟨m0,m1⟩:=emod_in (a:=ci) (b:=9) (by decide)
  refine ⟨by show -(2 ^ 62)≤3+ci % 9; omega,by show 3+ci % 9 < 2 ^ 62; omega,for_range (lo:=0) (n:=(3+ci % 9).toNat) (fun m σ H'=>(∃o6 o7 o8,σ=[some (.ref sc),some (.ref L.a),some (.ref L.b),some (.ref L.W),some (.ref L.lr),some (.ref L.lt),o6,o7,o8,none,none,none,none,none])∧∃ps' os' tvs qds,LwS K c H' L ps' os' B rvs tvs qds∧os'.length=B+tvs.length∧tvs.length=m∧Spot9 K H' L.a L.b (n+m)) ⟨⟨_,_,_,rfl⟩,ps,os,[],[],hS,hoB,rfl,hsp⟩ ?t ?s⟩
  case s=>
   rintro σ H' ⟨⟨o6,o7,o8,rfl⟩,ps',os',tvs,qds,hS',hl,lt,hsp'⟩
   exact qq o6 o7 o8 H' ps' os' tvs qds _ hS' hl (by omega) hsp' (by omega)
  case t=>
   clear hS hsp hsc
   rintro m σ H' hm ⟨⟨o6,o7,o8,rfl⟩,ps',os',tvs,qds,hS,hl,lt,hsp⟩
   refine ⟨_,rfl,_,rfl,L.a,L.b,_,rfl,hsp,by omega,fun ni H1 n0 n1 b1 hb1=>?_⟩
   have hS1:=hS.spot dis hsp.spot b1
   have sp1:=hsp.go b1 hb1
   refine ⟨_,rfl,_,_,rfl,rfl,(show (0:Int) < _ by decide),rfl,_,rfl,ite_b9 (fun _=>?_) (fun _=>?_)⟩
   ·have hr0:0 < rvs.length:=by omega
    obtain ⟨j,v,e5,m5,e7⟩:=atI_mod (n:=ni / 3) hr0
    have hj:=lt_of_some e5
    obtain ⟨nm,nss,dk,rp,q',x,ys,rfl,ho,hp,hx,hq,hA,npS,nqS⟩:=hS1.rs j v e5
    refine ⟨_,rfl,_,rfl,_,_,rfl,rfl,⟨by decide,by decide⟩,_,rfl,L.lr,_,rfl,.inl (SqL.of hS1.r),_,_,rfl,rfl,(by show (0:Int) < ((rvs.length:Nat):Int); omega),L.lr,_,_,_,rfl,rfl,SqL.of hS1.r,e7,?_⟩
    refine ⟨_,rfl,.inl ⟨rfl,_,SqL.of hS1.t⟩,_,rfl,_,rfl,rp,_,_,x,rfl,rfl,SqL.of hp,atI_nat (j:=0) rfl,Nat.zero_le _,fun te hte=>?_⟩
    have s2:Same H1 (upd H1 te (.tup [])):=same_new hte _
    have a2:At K (upd H1 te (.tup [])) (.tup []) (.ref te):=At.new hte (AtAll_nil.mpr rfl)
    revert s2 a2
    generalize upd H1 te (.tup [])=H2
    intro s2 a2
    have hS2:=hS1.same s2
    refine ⟨L.W,L.l,L.g,ps',os',gv0,x,.ref te,rfl,hS2.w,by omega,.inl ⟨8+j,nm,nss,dk,hS2.c.wf,At.same s2 _ _ hx,ho,a2,by decide +kernel,fun r H3 pp d hd b3 w3 a3=>?_⟩⟩
    refine ⟨1,_,_,rfl,a3,rfl,fun xv hxv=>⟨_,rfl,fun qd H4 s4 hqd d4=>⟨by show 3≤sizeLine; decide,fun p5 hp5=>?_⟩⟩⟩
    have s35:Same H3 (upd H4 p5 (.lst [xv,.ref rp,.ref qd])):=s4.trans (same_new hp5 _)
    have l5:upd H4 p5 (.lst [xv,.ref rp,.ref qd]) p5=some (.lst [xv,.ref rp,.ref qd]):=upd_same
    have d5:=d4.same (same_new hp5 (.lst [xv,.ref rp,.ref qd]))
    have np3:H3 p5=none:=none_of s4 hp5
    revert s35 l5 d5
    generalize upd H4 p5 (.lst [xv,.ref rp,.ref qd])=H5
    intro s35 l5 d5
    have b25:But9 L.l H2 H5:=b3.trans (Same.but L.l s35)
    have hl3:=w3.t
    have n2:∀{p},H3 p=none→H2 p=none:=fun {p} hp=>by
     cases e:H2 p with
     | none=>rfl
     | some o=>rw[b3 _ _ (fun y=>by rw[y,hl3] at hp; cases hp) e] at hp; cases hp
    have K2:KpL L.S H2 H5:=b25.kpl (by simp) hS2.w.t
    have w5:=w3.same s35
    have sp5:=(sp1.same s2).butl b25 dis.al (Ne.symm dis.lb)
    have t5:=b25 _ _ (Ne.symm dis.lt) hS2.t
    have M:=hS2.more dis hl (k:=8+j) (d:=d) (p:=p5) (rp:=rp) (qd:=qd) (fs:=fs0 (isFC os'[8+j]?)) (x:=xv) b25 w5 (by omega) (by omega) (n2 np3) (n2 hqd) hd (fun y=>by
      obtain ⟨kv,e⟩:=w3.wd ⟨os'.length,_,snoc_last,rfl⟩
      rw[y,e] at hqd; cases hqd) l5 (At.same s35 _ _ hxv) (RwOk.keep (hS2.rs j _ e5) K2 (KpO.snoc _ _)) d5 (fun z=>⟨noD,by rw[z]; rfl⟩) (fun _=>.inr fun y=>by have:=(sp1.same s2).spot; rw[← y,n2 np3] at this; cases this) (fun fx e=>by
      cases hz:isFC os'[8+j]? with
      | true=>rw[hz] at e; cases e; exact ⟨rfl,rfl⟩
      | false=>rw[hz] at e; cases e) (by omega)
    exact ⟨L.lt,tvs,.ref p5,rfl,rfl,t5,small1000 (by omega),⟨_,_,_,rfl⟩,_,_,_,_,M,by rw[List.length_append,List.length_append,hl]; rfl,by rw[List.length_append,lt]; rfl,sp5.put dis.at' dis.bt⟩
   ·refine ⟨_,rfl,.inl ⟨rfl,_,SqL.of hS1.t⟩,_,rfl,_,rfl,_,rfl,_,_,rfl,rfl,⟨by decide,by decide⟩,L.W,L.l,L.g,L.lr,ps',os',B,_,rvs,L.S,rfl,hS1.w,hS1.c,by omega,hS1.r,hS1.rl,hS1.rs,by simp,fun p5 x rp qd H5 pp d k dw np nq nd nqd b5 w5 hfc h8 hk l5 hx hr hd2=>?_⟩
    have sp5:=sp1.butl b5 dis.al (Ne.symm dis.lb)
    have t5:=b5 _ _ (Ne.symm dis.lt) hS1.t
    have M:=hS1.more dis hl b5 w5 h8 hk np nq nd nqd l5 hx hr hd2 (fun z=>⟨dw,rfl⟩) (fun _=>.inr fun y=>by have:=sp1.spot; rw[← y,np] at this; cases this) (fun fx e=>by cases e; exact ⟨rfl,rfl⟩) (by omega)
    exact ⟨L.lt,tvs,.ref p5,rfl,rfl,t5,small1000 (by omega),⟨_,_,_,rfl⟩,_,_,_,_,M,by rw[List.length_append,List.length_append,hl]; rfl,by rw[List.length_append,lt]; rfl,sp5.put dis.at' dis.bt⟩
 case tu=>
  rintro D0 σ H ⟨L,sc,ps,os,B,rvs,tvs,fvs,qds,lf,n,o6,o7,o8,rfl,hS,dis,hsp,hn,hlf,nlf,hfv,hf0,qq⟩
  refine ⟨_,rfl,by decide,by decide,for_range (lo:=0) (n:=20) (fun m σ H'=>(∃o7 o9 o11 o12,σ=[some (.ref sc),some (.ref L.a),some (.ref L.b),some (.ref L.W),some (.ref L.lr),some (.ref L.lt),o6,o7,o8,o9,some (.ref lf),o11,o12,none])∧∃os',LwS K c H' L ps os' B rvs tvs qds∧FvOk os' B tvs fvs∧os'.length=os.length∧Spot9 K H' L.a L.b (n+m)∧H' lf=some (.lst fvs)) ⟨⟨_,_,_,_,rfl⟩,os,hS,hfv,rfl,hsp,hlf⟩ ?t ?s⟩
  case s=>
   rintro σ H' ⟨⟨o7,o9,o11,o12,rfl⟩,os',hS',hfv',hl',hsp',hlf'⟩
   exact qq o7 o9 o11 o12 H' os' _ hS' hfv' hl' hsp' (by omega)
  case t=>
   clear hS hsp hlf hfv
   rintro m σ H' hm ⟨⟨o7,o9,o11,o12,rfl⟩,os',hS,hfv,hl,hsp,hlf⟩
   refine ⟨_,rfl,_,rfl,L.a,L.b,_,rfl,hsp,by omega,fun ni H1 n0 n1 b1 hb1=>?_⟩
   have hS1:=hS.spot dis hsp.spot b1
   have sp1:=hsp.go b1 hb1
   have lf1:=b1 _ _ (fun y=>nlf (by rw[y]; simp)) hlf
   clear hS hsp hlf b1 hb1
   refine ⟨_,rfl,_,rfl,_,rfl,_,rfl,_,rfl,L,ps,os',B,rvs,tvs,fvs,qds,lf,ni,rfl,hS1,lf1,hfv,hf0,fun H2 os2 hS2 hfv2 k2 hl2=>⟨_,rfl,iteF ?_⟩⟩
   have sp2:=sp1.kp k2
   have lf2:=k2.l _ _ (by simp) lf1
   clear hS1 sp1 lf1 k2 hfv
   obtain ⟨j1,v1,e1,m1,ea1⟩:=atI_mod (n:=ni / 5) hf0
   obtain ⟨t,et,hft⟩:=hfv2 v1 m1
   have ht0:0 < tvs.length:=by have:=lt_of_some et; omega
   obtain ⟨qd,hqd,k0,dd,fs,p,rp,xx,dc,dx,rfl,ho,hp,hxx,hrw,hd2,np,hfx⟩:=hS2.one et
   have hft':isFC os2[k0]?=true:=by rw[ho] at hft; exact hft
   obtain ⟨wd,rfl⟩:=hfx hft'
   obtain ⟨hvc,hvx⟩:=hS2.f.v _ _ _ _ ho
   refine ⟨_,rfl,_,rfl,_,_,rfl,rfl,⟨by decide,by decide⟩,_,rfl,lf,_,rfl,.inl (SqL.of lf2),_,_,rfl,rfl,(by show (0:Int) < ((fvs.length:Nat):Int); omega),lf,_,_,_,rfl,rfl,SqL.of lf2,ea1,?_⟩
   refine ⟨L,ps,os2,B,rvs,tvs,qds,B+t,k0,dd,p,rp,qd,xx,wd,dc,dx,rfl,rfl,hS2,hp,hxx,ho,hd2,List.mem_of_getElem? hqd,hvc,hvx,fun H3 s3=>?_⟩
   have hS3:=hS2.same s3
   have hp3:=s3 _ _ hp
   refine ⟨_,rfl,_,rfl,p,_,_,xx,rfl,rfl,SqL.of hp3,atI_nat (j:=0) rfl,L.W,L.l,L.g,ps,os2,gv0,xx,B+t,k0,dd,_,rfl,hS3.w,At.same s3 _ _ hxx,ho,hft',hS3.c.wf,hS3.f,by decide +kernel,fun pa H4 s4 la=>?_⟩
   have hS4:=hS3.same s4
   refine ⟨_,rfl,_,rfl,_,rfl,L,ps,os2,B,rvs,tvs,qds,t,_,rfl,hS4,et,hft,fun pb H5 s5 lb=>⟨pa,pb,_,_,(nmsO os2 8 (some (B+t))).map D.str,rfl,rfl,SqL.of (s5 _ _ la),SqL.of lb,strs_all _,strs_all _,Nat.le_trans (deps_strs _) (by decide),_,rfl,iteF ?_⟩⟩
   have s35:=s3.trans (s4.trans s5)
   have hS5:=hS2.same s35
   refine ⟨L,ps,os2,B,rvs,tvs,qds,ni,rfl,rfl,rfl,hS5,ht0,fun lw ys H6 s6 lw6 y0 yl hV=>?_⟩
   have s36:=s35.trans s6
   have hS6:=hS2.same s36
   obtain ⟨j2,v2,e2,m2,ea2⟩:=atI_mod (n:=ni / 3) y0
   obtain ⟨d2,a2,vd2⟩:=hV v2 m2
   refine ⟨_,rfl,_,rfl,_,rfl,_,rfl,_,rfl,_,_,rfl,rfl,⟨by decide,by decide⟩,_,rfl,lw,_,rfl,.inl (SqL.of lw6),_,_,rfl,rfl,(by show (0:Int) < ((ys.length:Nat):Int); omega),lw,_,_,_,rfl,rfl,SqL.of lw6,ea2,L,ps,os2,B,rvs,tvs,qds,t,_,v2,d2,rfl,hS6,et,a2,vd2,fun H7 s7=>⟨_,rfl,iteF ?_⟩⟩
   have s27:=s36.trans s7
   exact ⟨⟨_,_,_,_,rfl⟩,os2,hS2.same s27,hfv2,by omega,sp2.same s27,s27 _ _ lf2⟩
 case main=>
  refine ⟨_,rfl,_,rfl,_,rfl,sc,_,rfl,hsc,fun a ha=>?_⟩
  obtain ⟨ms,em,hm⟩:=cut_ints ns (some 1) (some 40)
  rw[em]
  have s1:Same H (upd H a (.lst (ms.map V.int))):=same_new ha _
  have a1:upd H a (.lst (ms.map V.int)) a=some (.lst (ms.map V.int)):=upd_same
  revert s1 a1
  generalize upd H a (.lst (ms.map V.int))=H1
  intro s1 a1
  refine ⟨by show 1≤sizeLine; decide,fun b hb=>?_⟩
  have nab:a≠b:=fun y=>by rw[← y,a1] at hb; cases hb
  have s2:=s1.trans (same_new hb (.lst [.int 0]))
  have a2:=same_new hb (.lst [.int 0]) _ _ a1
  have b2:upd H1 b (.lst [.int 0]) b=some (.lst [.int ((0:Nat):Int)]):=upd_same
  have nb0:H b=none:=none_of s1 hb
  revert s2 a2 b2
  generalize upd H1 b (.lst [.int 0])=H2
  intro s2 a2 b2
  refine ⟨Nat.zero_le _,fun pi hpi=>?_⟩
  have s3:=s2.trans (same_new hpi (.lst []))
  have a3:=same_new hpi (.lst []) _ _ a2
  have b3:=same_new hpi (.lst []) _ _ b2
  have i3:upd H2 pi (.lst []) pi=some (.lst []):=upd_same
  revert s3 a3 b3 i3
  generalize upd H2 pi (.lst [])=H3
  intro s3 a3 b3 i3
  intro W dw hW hdw hne
  obtain ⟨s4,c4⟩:=new_ins (C:=c.W) hW hdw hne
  revert s4 c4
  generalize upd (upd H3 dw (.own W)) W (.ins c.W dw [])=H4
  intro s4 c4
  refine ⟨W,dw,pi,rfl,c4,SqL.of (s4 _ _ i3),fun H5 l gd ps ds lds k5 nl ng w5=>⟨rfl,?_⟩⟩
  have s35:Same H3 H5:=fun p o e=>k5 p o (fun y=>by rw[y,hW] at e; cases e) (s4 _ _ e)
  have a5:=s35 _ _ a3
  have b5:=s35 _ _ b3
  have s5:=s3.trans s35
  have nal:a≠l:=fun y=>by rw[← y,s4 _ _ a3] at nl; cases nl
  have nbl:b≠l:=fun y=>by rw[← y,s4 _ _ b3] at nl; cases nl
  have nl0:H l=none:=none_of (s3.trans s4) nl
  have sp5:Spot9 K H5 a b 0:=⟨⟨ms,SqL.of a5,by omega⟩,nab,b5⟩
  clear s4 c4 k5 s35 a3 b3 i3 s3 a2 b2 s2 a1 s1 hb ha nl ng
  refine ⟨_,rfl,_,rfl,_,rfl,_,rfl,sc,ns,0,rfl,s5.seq hsc,fun ci=>⟨ci,rfl,fun pn nms H6 s6 hpn ln6 lnm hnm=>?_⟩⟩
  have w6:=w5.same s6
  refine ⟨W,l,gd,a,b,pn,ps,ds,0,nms,rfl,w6,lds,sp5.same s6,⟨_,s6 _ _ a5⟩,Nat.zero_le _,nal,nbl,ln6,fun y=>(by have:=w5.t; rw[← y,hpn] at this; cases this),fun y=>(by rw[← y,hpn] at b5; cases b5),lnm,hnm,fun lr rvs H7 ps7 os7 B n7 hlr k7 w7 C7 l7 sp7 hn7 lr7 rl7 R7=>?_⟩
  have s7:Same H H7:=fun p o e=>k7 p o (fun m=>by
   simp only [List.mem_cons,List.not_mem_nil,or_false] at m
   rcases m with rfl | rfl
   ·rw[nl0] at e; cases e
   ·rw[nb0] at e; cases e) (s6 _ _ (s5 _ _ e))
  have nlr:∀{p o},H6 p=some o→p≠lr:=fun {p o} e y=>by rw[y,hlr] at e; cases e
  refine ⟨Nat.zero_le _,fun lt hlt=>?_⟩
  have s8:=same_new hlt (.lst [])
  have t8:upd H7 lt (.lst []) lt=some (.lst []):=upd_same
  revert s8 t8
  generalize upd H7 lt (.lst [])=H8
  intro s8 t8
  have nlt:∀{p o},H7 p=some o→lt≠p:=fun {p o} e y=>by rw[y,e] at hlt; cases hlt
  have hal:H7 a=some (.lst (ms.map V.int)):=k7 _ _ (by simp[nal,nab]) (s6 _ _ a5)
  have dis:(⟨W,l,gd,a,b,lr,lt⟩:Lw).Dis:=⟨Ne.symm nbl,nlr w6.t,Ne.symm (nlt w7.t),nlr (s6 _ _ b5),Ne.symm (nlt sp7.spot),Ne.symm (nlt lr7),nal,nab,nlr (s6 _ _ a5),Ne.symm (nlt hal)⟩
  have hS8:LwS K c H8 ⟨W,l,gd,a,b,lr,lt⟩ ps7 os7 B rvs [] []:=by
   refine ⟨w7.same s8,C7,⟨fun i k d fs e=>(C7.noob l7 e).elim,fun i k d fx e=>(C7.noob l7 e).elim⟩,⟨fun i k d fs e=>(C7.noob l7 e).elim,fun i nm nss d e=>C7.kdR l7 e⟩,by have:=C7.hi; omega,s8 _ _ lr7,rl7,fun j v e=>((R7 j v e).more fun p m=>?_).keep (Same.kpl s8) (KpO.refl _),t8,⟨rfl,fun t v q e=>(by simp at e)⟩,List.nodup_nil,fun q m=>(by simp at m)⟩
   simp only [List.mem_cons,List.not_mem_nil,or_false] at m
   rcases m with rfl | rfl | rfl | rfl
   ·exact .inl (by simp)
   ·exact .inl (by simp)
   ·exact .inl (by simp)
   ·exact .inr hlt
  have sp8:=sp7.same s8
  have sc8:SqL K H8 sc (ns.map V.int):=(s7.trans s8).seq hsc
  clear w5 w6 w7 R7 lr7 hlr k7 s7 s8 t8 hlt nlt nlr hal a5 b5 s6 s5 sp5 sp7 ln6 hpn nl0 nb0 nal nbl
  obtain ⟨L,eW,el,eg,ea,eb,er,et⟩:∃L:Lw,L=⟨W,l,gd,a,b,lr,lt⟩∧L.l=l∧L.g=gd∧L.a=a∧L.b=b∧L.lr=lr∧L.lt=lt:=⟨⟨W,l,gd,a,b,lr,lt⟩,rfl,rfl,rfl,rfl,rfl,rfl,rfl⟩
  have eWW:L.W=W:=by rw[eW]
  rw[← eW] at hS8 dis
  rw[← ea,← eb] at sp8
  have hBl:=C7.lo
  have hBh:=C7.hi
  refine ⟨L,sc,ps7,os7,B,rvs,n7,ns,by rw[ea,eb,eWW,er,et]; rfl,hS8,dis,l7,sp8,by omega,sc8,fun o6 o7 o8 H9 ps9 os9 tvs qds n9 hS9 hl9 lt9 sp9 hn9=>?_⟩
  clear hS8 sp8 sc8 hsc
  refine ⟨_,rfl,.inl ⟨rfl,_,SqL.of hS9.t⟩,_,rfl,_,rfl,L.W,L.l,L.g,L.lr,ps9,os9,B,1,rvs,L.S,rfl,hS9.w,hS9.c,by omega,hS9.r,hS9.rl,hS9.rs,by simp,fun pL xL rp qd H10 pp d k dw np nq nd nqd b10 w10 hfc h8 hk l10 hx10 hr10 hd10=>?_⟩
  have sp10:=sp9.butl b10 dis.al (Ne.symm dis.lb)
  have t10:=b10 _ _ (Ne.symm dis.lt) hS9.t
  have M:=hS9.more dis hl9 b10 w10 h8 hk np nq nd nqd l10 hx10 hr10 hd10 (fun z=>⟨dw,rfl⟩) (fun _=>.inr fun y=>by have:=sp9.spot; rw[← y,np] at this; cases this) (fun fx e=>by cases e; exact ⟨rfl,rfl⟩) (by omega)
  refine ⟨L.lt,tvs,.ref pL,rfl,rfl,t10,small1000 (by omega),?_⟩
  have sp11:=sp10.put (o:=.lst (tvs++[.ref pL])) dis.at' dis.bt
  obtain ⟨nmk,restk,dk,ek,_⟩:=hS9.c.kd k h8 hk
  have hlast:isF (os9++[Th.ob k d (some (dw,noD,noD))]) (os9++[Th.ob k d (some (dw,noD,noD))])[B+tvs.length]?=true:=by
   rw[← hl9,snoc_last]
   show isFC (os9++[Th.ob k d (some (dw,noD,noD))])[k]?=true
   rw[snoc_old ek,← ek]; exact hfc
  have hol:(os9++[Th.ob k d (some (dw,noD,noD))]).length=B+(tvs++[V.ref pL]).length:=by rw[List.length_append,List.length_append,hl9]; rfl
  have htl:(tvs++[V.ref pL]).length=tvs.length+1:=by rw[List.length_append]; rfl
  have hlv:(tvs++[V.ref pL])[tvs.length]?=some (.ref pL):=snoc_last
  revert M sp11
  generalize upd H10 L.lt (.lst (tvs++[.ref pL]))=H11
  intro M sp11
  clear hS9 sp9 sp10 t10 b10 w10 l10 hx10 hr10 hd10 np nq nd nqd hfc ek
  have etv:∃tv,tv=tvs++[V.ref pL]:=⟨_,rfl⟩
  obtain ⟨tv,etv⟩:=etv
  rw[← etv] at M hol htl hlv
  generalize os9++[Th.ob k d (some (dw,noD,noD))]=os at M hlast hol
  generalize qds++[qd]=qs at M
  refine ⟨_,rfl,L.lt,tv,rfl,rfl,SqL.of M.t,fun u m=>?_,_,rfl,iteF ?_⟩
  ·obtain ⟨p,x,r,i,ev,hp,_⟩:=M.fstR.2 u m
   exact ⟨p,_,ev,SqL.of hp⟩
  refine ⟨_,rfl,L.lt,rfl,⟨_,SqL.of M.t⟩,[.ref L.W],⟨rfl,fun j i h=>?_⟩,compG_one (vs:=[.ref L.W]) tv.length (fun i=>tv.getD i .non) (fun t=>isF os os[B+t]?) (fun i v _=>v=tv.getD i .non) (fun _ _ _ _ _ z=>z) (by omega) (itl_stop (SqL.of M.t)) (itl_go (SqL.of M.t)) (itl_yld (SqL.of M.t)) (fun t H1 Q' ht s1 k=>?_) (fun j H1 D l' Q' hj _ s1 _ _ k=>⟨_,rfl,k _ _ (Same.refl _) rfl⟩) fun lf H12 fvs hlf s12 hl12 hP1=>?_⟩
  ·match j,h with
   | 0,h=>cases h; exact ⟨_,rfl,rfl⟩
   | j+1,h=>simp at h
  ·have e1:tv[t]?=some tv[t]:=List.getElem?_eq_getElem ht
   have e2:tv.getD t .non=tv[t]:=by rw[List.getD_eq_getElem?_getD,e1]; rfl
   obtain ⟨qd,_,k0,dd,fs,p,rp,xx,dc,dx,ep,ho,hp,hxx,⟨nm,nss,dk,rp',q',rx,ys,erp,hok,hrp,_,hq',hA,_⟩,_⟩:=M.one e1
   cases erp
   rw[ho] at k
   have hk:isF os (some (.ob k0 dd fs))=decide (9∈nss):=by
    show isFC os[k0]?=_
    rw[hok]; rfl
   rw[hk] at k
   rw[e2,ep]
   refine ⟨_,rfl,L.W,L.l,L.g,_,os,gv0,"Fault",9,rfl,M.w.same s1,by decide +kernel,fun fc hfc=>⟨_,rfl,p,_,_,.ref rp,rfl,rfl,SqL.of (s1 _ _ hp),atI_nat (j:=1) rfl,rp,_,_,.ref q',rfl,rfl,SqL.of (s1 _ _ hrp),atI_nat (j:=2) rfl,q',ys,thD 9,nss.map thD,rfl,SqL.of (s1 _ _ hq'),AtAll.same s1 _ _ hA,hfc,th_dep,_,rfl,?_⟩⟩
   rw[th_any]
   exact k H1 (Same.refl _)
  have ef:=hP1.eq
  have hfv:FvOk os B tv fvs:=fun v m=>by
   rw[ef] at m
   obtain ⟨t,ht,rfl⟩:=List.mem_map.mp m
   rw[List.mem_filter] at ht
   have h1:=List.mem_range.mp ht.1
   exact ⟨t,by rw[List.getD_eq_getElem?_getD,List.getElem?_eq_getElem h1]; rfl,ht.2⟩
  have hmv:V.ref pL∈fvs:=by
   rw[ef]
   refine List.mem_map.mpr ⟨tvs.length,List.mem_filter.mpr ⟨List.mem_range.mpr (by omega),hlast⟩,?_⟩
   rw[List.getD_eq_getElem?_getD,hlv]; rfl
  have hf0:0 < fvs.length:=List.length_pos_of_mem hmv
  have nlf:lf ∉ L.S:=fun m=>by
   simp only [List.mem_cons,List.not_mem_nil,or_false] at m
   rcases m with rfl | rfl | rfl | rfl
   ·have:=M.w.t; rw[hlf] at this; cases this
   ·have:=sp11.spot; rw[hlf] at this; cases this
   ·have:=M.r; rw[hlf] at this; cases this
   ·have:=M.t; rw[hlf] at this; cases this
  clear hP1 ef hlast
  refine ⟨L,sc,_,os,B,rvs,tv,fvs,qs,lf,_,o6,o7,o8,rfl,M.same s12,dis,sp11.same s12,by omega,hl12,nlf,hfv,hf0,fun o7' o9 o11 o12 H13 os2 n13 hS13 hfv13 hol13 sp13 hn13=>?_⟩
  clear M sp11 hl12 s12 nlf hfv hlf
  obtain ⟨tl,etl,hftl⟩:=hfv13 _ hmv
  clear hfv13 hmv hf0
  refine ⟨_,rfl,_,rfl,L.a,L.b,n13,rfl,sp13,by omega,fun ci H14 c0 c1 b14 hb14=>⟨ci,rfl,fun dp vp H15 hPl s15 ap=>?_⟩⟩
  have hS15:=(hS13.spot dis sp13.spot b14).same s15
  clear hS13 sp13 b14 hb14 s15
  refine ⟨_,rfl,Nat.zero_le _,fun te hte=>?_⟩
  have s16:Same H15 (upd H15 te (.tup [])):=same_new hte _
  revert s16
  generalize upd H15 te (.tup [])=H16
  intro s16
  have hS16:=hS15.same s16
  have hl16:=hS16.w.t
  refine ⟨L.W,L.l,L.g,_,os2,gv0,_,_,_,_,_,_,rfl,hS16.w,by omega,fun fv H17 pf b17 w17 a17=>?_⟩
  have hS17:=hS16.ext (o:=.fn) dis rfl (fun _ _ _ z=>nomatch z) (fun _ _ _ z=>nomatch z) b17 w17 (by omega)
  have ap17:At K H17 dp vp:=At.fx (b17.fx hl16 rfl) _ _ (At.same s16 _ _ ap)
  refine ⟨_,rfl,L.W,L.l,L.g,_,_,gv0,"say",0,rfl,w17,by decide +kernel,fun vs hvs=>⟨by show 3≤sizeLine; decide,fun pl hpl=>?_⟩⟩
  have s18:Same H17 (upd H17 pl (.lst [vp,fv,vs])):=same_new hpl _
  have l18:upd H17 pl (.lst [vp,fv,vs]) pl=some (.lst [vp,fv,vs]):=upd_same
  have npl:pl≠L.l:=fun y=>by have:=w17.t; rw[← y,hpl] at this; cases this
  revert s18 l18
  generalize upd H17 pl (.lst [vp,fv,vs])=H18
  intro s18 l18
  have hS18:=hS17.same s18
  have ap18:=At.same s18 _ _ ap17
  have a18:=At.same s18 _ _ a17
  have hvs18:=At.same s18 _ _ hvs
  have l2:(os2++[Th.fn]).length=os2.length+1:=by rw[List.length_append]; rfl
  clear hS15 hS16 s16 b17 hl16 ap17 a17 hvs hte ap
  obtain ⟨qd,_,k0,dd,fs,p,rp,xx,dc,dx,ep,ho,hp,hxx,⟨nm,nss,dk,rp',q',rx,ys,erp,hok,hrp,_,hq',hA,_⟩,_⟩:=hS18.one etl
  cases erp
  cases ep
  have h9:9∈nss:=by
   have e1:os2[B+tl]?=some (.ob k0 dd fs):=by
    rcases getElem?_snoc ho with u | ⟨_,u⟩
    ·exact u
    ·cases u
   have e2:os2[k0]?=some (.kd nm nss dk):=by
    rcases getElem?_snoc hok with u | ⟨_,u⟩
    ·exact u
    ·cases u
   rw[e1] at hftl
   have:isFC os2[k0]?=true:=hftl
   rw[e2] at this
   exact of_decide_eq_true this
  have hat:atI tv (-1)=some (.ref pL):=by
   have e:ixN tv.length (-1)=some tvs.length:=by
    unfold ixN
    rw[if_neg (by decide),if_pos (by omega),htl]
    congr 1
    omega
   unfold atI
   rw[e]; exact hlv
  refine ⟨_,rfl,.inl ⟨rfl,_,SqL.of l18⟩,_,rfl,_,rfl,L.W,L.l,L.g,_,_,gv0,"elder",3,rfl,hS18.w,by decide +kernel,fun ve hve=>⟨_,rfl,L.W,L.l,L.g,_,_,gv0,"Fault",9,rfl,hS18.w,by decide +kernel,fun vf hvf=>⟨_,rfl,_,rfl,L.lt,_,_,_,rfl,rfl,SqL.of hS18.t,hat,pL,_,_,xx,rfl,rfl,SqL.of hp,atI_nat (j:=0) rfl,by show 2≤sizeLine; decide,fun tt htt=>?_⟩⟩⟩
  have s19:Same H18 (upd H18 tt (.tup [vf,xx])):=same_new htt _
  have a19:At K (upd H18 tt (.tup [vf,xx])) (.tup [thD 9,thD (B+tl)]) (.ref tt):=At.new htt (AtAll2 hvf hxx)
  revert s19 a19
  generalize upd H18 tt (.tup [vf,xx])=H19
  intro s19 a19
  have hS19:=hS18.same s19
  have hl19:=hS19.w.t
  refine ⟨L.W,L.l,L.g,_,_,gv0,ve,.ref tt,rfl,hS19.w,by omega,.inr ⟨3,B+tl,k0,dd,fs,nm,nss,dk,9,At.same s19 _ _ hve,hS19.c.el,ho,hok,a19,h9,fun r H20 pv b20 w20 a20=>?_⟩⟩
  have f20:Fx H18 H20:=(Same.fx s19).trans (b20.fx hl19 rfl)
  have l20:=b20 _ _ npl (s19 _ _ l18)
  refine ⟨1,_,_,rfl,a20,rfl,fun vw hvw=>⟨pl,_,vw,rfl,rfl,l20,small1000 (by show 3≤1000; decide),?_⟩⟩
  have l21:upd H20 pl (.lst ([vp,fv,vs]++[vw])) pl=some (.lst [vp,fv,vs,vw]):=upd_same
  have f21:Fx H18 (upd H20 pl (.lst ([vp,fv,vs]++[vw]))):=f20.trans (Fx.put l20 rfl)
  have g21:=At.fx (Fx.put (o':=.lst ([vp,fv,vs]++[vw])) l20 rfl) _ _ hvw
  have w21:=w20.lst (o:=.lst ([vp,fv,vs]++[vw])) l20 (Ne.symm npl)
  have b21:But9 L.l H17 (upd H20 pl (.lst ([vp,fv,vs]++[vw]))):=fun p o ne e=>by
   rw[upd_ne (fun y=>by rw[y,hpl] at e; cases e)]
   exact b20 _ _ ne (s19 _ _ (s18 _ _ e))
  revert l21 f21 g21 w21 b21
  generalize upd H20 pl (.lst ([vp,fv,vs]++[vw]))=H21
  intro l21 f21 g21 w21 b21
  have hS21:=hS17.ext (o:=.vw) dis rfl (fun _ _ _ z=>nomatch z) (fun _ _ _ z=>nomatch z) b21 w21 (by omega)
  have l3:((os2++[Th.fn])++[Th.vw]).length=os2.length+2:=by rw[List.length_append,l2]; rfl
  have hV:Vs K H21 ((os2++[Th.fn])++[Th.vw]) [vp,fv,vs,vw]:=fun v m=>by
   simp only [List.mem_cons,List.not_mem_nil,or_false] at m
   rcases m with rfl | rfl | rfl | rfl
   ·exact ⟨dp,At.fx f21 _ _ ap18,(hPl.vd _).1⟩
   ·exact ⟨_,At.fx f21 _ _ a18,Vd.th (by omega)⟩
   ·exact ⟨_,At.fx f21 _ _ hvs18,Vd.th (by omega)⟩
   ·exact ⟨_,g21,Vd.th (by omega)⟩
  have hrl:=hS21.rl
  generalize (os2++[Th.fn])++[Th.vw]=os4 at hS21 hV
  clear hS18 hS19 hS17 w21 w20 b20 b21 s19 s18 f20 f21
  refine ⟨_,rfl,_,rfl,L.lr,L.lt,rvs,tv,rfl,rfl,hS21.r,hS21.t,small (by omega),fun pc hpc=>⟨pc,rfl,⟨_,SqL.of upd_same⟩,[],⟨rfl,fun j i h=>(by simp at h)⟩,?_⟩⟩
  have s22:Same H21 (upd H21 pc (.lst (rvs++tv))):=same_new hpc _
  have l22:upd H21 pc (.lst (rvs++tv)) pc=some (.lst (rvs++tv)):=upd_same
  revert s22 l22
  generalize upd H21 pc (.lst (rvs++tv))=H22
  intro s22 l22
  have hS22:=hS21.same s22
  refine fst_comp (os:=os4) l22 (fun v m=>(List.mem_append.mp m).elim (hS22.fstR.1 v) (hS22.fstR.2 v)) (by rw[List.length_append]; omega) fun lv H23 ys hlv' s23 l23 ly hVy=>?_
  rw[List.length_append] at ly
  have s223:=s22.trans s23
  refine ⟨_,rfl,lv,pl,ys,_,rfl,rfl,l23,s223 _ _ l21,small (by show _+4≤_; omega),fun pe hpe=>⟨pe,rfl,⟨_,SqL.of upd_same⟩,[.ref L.W,.ref L.lt,.ref L.lr],⟨rfl,fun j i h=>?_⟩,?_⟩⟩
  ·match j,h with
   | 0,h=>cases h; exact ⟨_,rfl,rfl⟩
   | 1,h=>cases h; exact ⟨_,rfl,rfl⟩
   | 2,h=>cases h; exact ⟨_,rfl,rfl⟩
   | j+3,h=>simp at h
  have s24:Same H21 (upd H23 pe (.lst (ys++[vp,fv,vs,vw]))):=s223.trans (same_new hpe _)
  have l24:upd H23 pe (.lst (ys++[vp,fv,vs,vw])) pe=some (.lst (ys++[vp,fv,vs,vw])):=upd_same
  have V24:Vs K (upd H23 pe (.lst (ys++[vp,fv,vs,vw]))) os4 (ys++[vp,fv,vs,vw]):=(hVy.same (same_new hpe _)).app (hV.same s24)
  have lz:(ys++[vp,fv,vs,vw]).length≤1000:=by rw[List.length_append]; show _+4≤_; omega
  revert s24 l24 V24 lz
  generalize ys++[vp,fv,vs,vw]=zs
  generalize upd H23 pe (.lst zs)=H24
  intro s24 l24 V24 lz
  refine compG_one (vs:=[.ref L.W,.ref L.lt,.ref L.lr]) (tc:=tTrue) zs.length (fun i=>zs.getD i .non) (fun _=>true) (fun _ v _=>v=.bl true) (fun _ _ _ _ _ z=>z) (by omega) (itl_stop (SqL.of l24)) (itl_go (SqL.of l24)) (itl_yld (SqL.of l24)) (fun i H2 Q' hi s2 k=>k H2 (Same.refl _)) (fun j H25 D l' Q' hj _ s25 _ _ k=>?_) fun lb H25 bs hlb s25 hl25 hP25=>?_
  ·have e2:zs.getD j .non=zs[j]:=by rw[List.getD_eq_getElem?_getD,List.getElem?_eq_getElem hj]; rfl
   obtain ⟨d,a,vd⟩:=V24 zs[j] (List.getElem_mem hj)
   rw[e2]
   exact ⟨_,rfl,_,rfl,_,rfl,_,rfl,L,_,os4,B,rvs,tv,_,zs[j],d,rfl,hS21.same (s24.trans s25),At.same s25 _ _ a,vd,vd.2,fun H' s'=>k _ H' s' rfl⟩
  have eb':=hP25.eq
  rw[List.filter_eq_self.mpr (fun _ _=>rfl)] at eb'
  refine ⟨lb,(List.range zs.length).map fun _=>true,rfl,SqL.of (by rw[hl25,eb',List.map_map]; rfl),?_⟩
  rw[show ((List.range zs.length).map fun _=>true).all id=true by rw[List.all_map]; exact List.all_eq_true.mpr fun _ _=>rfl]
  exact q _
end
def FunAt9 (K:PySem.W.Frag) (mg:Str→Option Value) (name:Str) (st:Stmt):Prop:=∃(f:Addr) (fd:FuncData),mg name=some (.ref f)∧Fun K name name st f fd
theorem fun_at9 {K:PySem.W.Frag} {h:Heap} {mg:Str→Option Value} {name:Str} {st:Stmt} {f:Addr} {oc:Value} {od an:Option Addr} {osl:Array (Option Value)} {kV doc pm cdv ct:Value} (X:K.In h) (G:h.Ns mainGlobals mg)
  (a:PySem.W.nsIn K mainGlobals name=some (some (.ref f))) (l:K.lookup f=some ⟨oc,od,.func (PySem.W.fnOf name name (defArgs st) (defBody st) (defScope st) .none kV doc pm an cdv ct),osl⟩)
  (c:PySem.W.codeIn K cdv name=true) (k:PySem.W.keepIn K (.ref f)=true):FunAt9 K mg name st:=⟨f,_,PySem.W.mg_of X G a,fun_mk l c k⟩
def MadeAt (K:PySem.W.Frag) (mg:Str→Option Value):Prop:=∃(f:Addr) (fd:FuncData) (dV:Value),mg "made"=some (.ref f)∧FunV K "made" "made" pMade f fd dV∧Binds K fd ["world","name","word"] [.none]∧Binds K fd ["world","name","word"] []
theorem made_at {K:PySem.W.Frag} {h:Heap} {mg:Str→Option Value} {f T:Addr} {oc tc:Value} {od an td:Option Addr} {osl tsl:Array (Option Value)} {kV doc pm cdv ct:Value} {n:Nat} (X:K.In h) (G:h.Ns mainGlobals mg)
  (a:PySem.W.nsIn K mainGlobals "made"=some (some (.ref f))) (l:K.lookup f=some ⟨oc,od,.func (PySem.W.fnOf "made" "made" (defArgs pMade) (defBody pMade) (defScope pMade) (.ref T) kV doc pm an cdv ct),osl⟩)
  (c:PySem.W.codeIn K cdv "made"=true) (k:PySem.W.keepIn K (.ref f)=true) (t:K.lookup T=some ⟨tc,td,.seq #[.none] n,tsl⟩):MadeAt K mg:=
 ⟨f,_,.ref T,PySem.W.mg_of X G a,⟨⟨oc,od,kV,doc,pm,an,cdv,ct,osl,rfl,l,c⟩,k⟩,fun s us XK hl=>by
  have h2:us.length=2:=by simpa using hl
  match us,h2 with
  | [_,_],_=>exact PySem.W.binds_K XK rfl t rfl rfl rfl,fun s us XK hl=>by
  have h3:us.length=3:=by simpa using hl
  match us,h3 with
  | [_,_,_],_=>exact PySem.W.binds_K XK rfl t rfl rfl rfl⟩
def IniAt9 (K:PySem.W.Frag) (mg:Str→Option Value) (name qual:Str) (st:Stmt) (C:Addr):Prop:=∃(f:Addr) (fd:FuncData),mg name=some (.ref C)∧Mk K C f∧Fun K "__init__" qual st f fd
theorem ini_at9 {K:PySem.W.Frag} {h:Heap} {mg:Str→Option Value} {name qual:Str} {st:Stmt} {C f:Addr} {oc:Value} {od an:Option Addr} {osl:Array (Option Value)} {kV doc pm cdv ct:Value} (X:K.In h) (G:h.Ns mainGlobals mg)
  (a:PySem.W.nsIn K mainGlobals name=some (some (.ref C))) (m:Mk K C f) (l:K.lookup f=some ⟨oc,od,.func (PySem.W.fnOf "__init__" qual (defArgs st) (defBody st) (defScope st) .none kV doc pm an cdv ct),osl⟩) (cc:PySem.W.codeIn K cdv qual=true) (k:PySem.W.keepIn K (.ref f)=true):IniAt9 K mg name qual st C:=
 ⟨f,_,PySem.W.mg_of X G a,m,fun_mk l cc k⟩
structure Cz (K:PySem.W.Frag) (mg:Str→Option Value) (c:ClD):Prop where
 z:CsD K c
 mM:mg "Method"=some (.ref c.M)
 iF:IniAt9 K mg "Function" "Function.__init__" pFnI c.F
 iG:IniAt9 K mg "Given" "Given.__init__" pGvI c.G
 iK:IniAt9 K mg "Kind" "Kind.__init__" pKdI c.Kd
 iO:IniAt9 K mg "Object" "Object.__init__" pObI c.O
 iV:IniAt9 K mg "View" "View.__init__" pVwI c.Vw
 iW:IniAt9 K mg "World" "World.__init__" pWI c.W
theorem mg_at {K:PySem.W.Frag} {h:Heap} {mg:Str→Option Value} {name:Str} {C:Addr} (X:K.In h) (G:h.Ns mainGlobals mg) (a:PySem.W.nsIn K mainGlobals name=some (some (.ref C))):mg name=some (.ref C):=PySem.W.mg_of X G a
theorem cz_at {K:PySem.W.Frag} {mg:Str→Option Value} {F G M Kd O Vw W:Addr} (mM:mg "Method"=some (.ref M)) (jF:IniAt9 K mg "Function" "Function.__init__" pFnI F) (jG:IniAt9 K mg "Given" "Given.__init__" pGvI G) (jK:IniAt9 K mg "Kind" "Kind.__init__" pKdI Kd) (jO:IniAt9 K mg "Object" "Object.__init__" pObI O) (jV:IniAt9 K mg "View" "View.__init__" pVwI Vw) (jW:IniAt9 K mg "World" "World.__init__" pWI W) (z:CsD K ⟨F,G,M,Kd,O,Vw,W⟩):∃c,Cz K mg c:=⟨⟨F,G,M,Kd,O,Vw,W⟩,z,mM,jF,jG,jK,jO,jV,jW⟩
def strVs:List Str→List Value→Bool
 | [],[]=>true
 | x::xs,.str y _::vs=>x == y && strVs xs vs
 | _,_=>false
def itsK (K:PySem.W.Frag):Value→Option (List Value)
 | .ref a=>match K.lookup a with
  | some ⟨.type "tuple",_,.seq its _,_⟩=>if its.size≤sizeLine then some its.toList else none
  | _=>none
 | _=>none
def strsK (K:PySem.W.Frag) (xs:List Str) (v:Value):Bool:=match itsK K v with
 | some vs=>strVs xs vs
 | none=>false
def pairK (K:PySem.W.Frag) (x:Str×List Str) (v:Value):Bool:=match itsK K v with
 | some [.str y _,u]=>x.1 == y && strsK K x.2 u
 | _=>false
def pairVs (K:PySem.W.Frag):List (Str×List Str)→List Value→Bool
 | [],[]=>true
 | x::xs,v::vs=>pairK K x v && pairVs K xs vs
 | _,_=>false
def pairsK (K:PySem.W.Frag) (xs:List (Str×List Str)) (v:Value):Bool:=match itsK K v with
 | some vs=>pairVs K xs vs
 | none=>false
theorem itsK_sq {K:PySem.W.Frag} {v:Value} {vs:List Value} (h:itsK K v=some vs):∃a,v=.ref a∧∀(H:Hp) (us:List V),Vals us vs→SqT K H a us:=by
 unfold itsK at h
 split at h
 ·rename_i a
  refine ⟨a,rfl,fun H us r=>?_⟩
  split at h
  ·rename_i d its n sl hl
   split at h
   ·rename_i hz
    injection h with h
    exact .inr ⟨_,its,n,hl,rfl,rfl,hz,by rw[h]; exact r⟩
   ·cases h
  ·cases h
 ·cases h
theorem strVs_at {K:PySem.W.Frag}:∀{xs:List Str} {vs:List Value},strVs xs vs=true→Vals (xs.map V.str) vs
 | [],[],_=>.nil
 | [],_::_,h=>by simp[strVs] at h
 | x::xs,[],h=>by simp[strVs] at h
 | x::xs,v::vs,h=>by
  cases v with
  | str y t=>
   rw[strVs,Bool.and_eq_true] at h
   exact .cons ⟨t,by rw[eq_of_beq h.1]⟩ (strVs_at (K:=K) h.2)
  | _=>simp[strVs] at h
theorem strsK_at {K:PySem.W.Frag} {xs:List Str} {v:Value} (h:strsK K xs v=true):∃a,v=.ref a∧∀H,SqT K H a (xs.map V.str):=by
 unfold strsK at h
 split at h
 ·rename_i vs e
  obtain ⟨a,rfl,q⟩:=itsK_sq e
  exact ⟨a,rfl,fun H=>q H _ (strVs_at (K:=K) h)⟩
 ·cases h
theorem pairK_at {K:PySem.W.Frag} {x:Str×List Str} {v:Value} (h:pairK K x v=true):∃a,v=.ref a∧∀H,At K H (.tup [.str x.1,.tup (x.2.map D.str)]) (.ref a):=by
 unfold pairK at h
 split at h
 ·rename_i y t u e
  rw[Bool.and_eq_true] at h
  obtain ⟨a,rfl,q⟩:=itsK_sq e
  obtain ⟨b,rfl,q2⟩:=strsK_at h.2
  refine ⟨a,rfl,fun H=>At_tup.mpr ⟨a,[.str x.1,.ref b],rfl,q H _ (.cons ⟨t,by rw[eq_of_beq h.1]⟩ (.cons rfl .nil)),AtAll2 (At_str.mpr rfl) (At_tup.mpr ⟨b,_,rfl,q2 H,strs_all x.2⟩)⟩⟩
 ·cases h
theorem pairVs_at {K:PySem.W.Frag}:∀{xs:List (Str×List Str)} {vs:List Value},pairVs K xs vs=true→∃us:List V,Vals us vs∧∀H,AtAll K H (xs.map fun x=>.tup [.str x.1,.tup (x.2.map D.str)]) us
 | [],[],_=>⟨[],.nil,fun _=>AtAll_nil.mpr rfl⟩
 | [],_::_,h=>by simp[pairVs] at h
 | x::xs,[],h=>by simp[pairVs] at h
 | x::xs,v::vs,h=>by
  rw[pairVs,Bool.and_eq_true] at h
  obtain ⟨a,rfl,q⟩:=pairK_at h.1
  obtain ⟨us,r,q2⟩:=pairVs_at h.2
  exact ⟨.ref a::us,.cons rfl r,fun H=>AtAll_cons.mpr ⟨_,_,rfl,q H,q2 H⟩⟩
theorem tree_s {K:PySem.W.Frag} {h:Heap} {mg:Str→Option Value} {p:Addr} {x:Str} (xs:List Str) (X:K.In h) (G:h.Ns mainGlobals mg) (a:PySem.W.nsIn K mainGlobals x=some (some (.ref p))) (e:strsK K xs (.ref p)=true):TreeG K mg x (xs.map D.str):=by
 obtain ⟨q,eq,r⟩:=strsK_at e
 cases eq
 exact ⟨p,_,PySem.W.mg_of X G a,fun H=>⟨r H,strs_all xs⟩⟩
theorem tree_c {K:PySem.W.Frag} {h:Heap} {mg:Str→Option Value} {p:Addr} (X:K.In h) (G:h.Ns mainGlobals mg) (a:PySem.W.nsIn K mainGlobals "GIVEN_CLASSES"=some (some (.ref p))) (e:pairsK K gcN (.ref p)=true):TreeG K mg "GIVEN_CLASSES" gcD:=by
 unfold pairsK at e
 split at e
 ·rename_i vs ev
  obtain ⟨q,eq,r⟩:=itsK_sq ev
  cases eq
  obtain ⟨us,r1,r2⟩:=pairVs_at e
  exact ⟨p,us,PySem.W.mg_of X G a,fun H=>⟨r H us r1,r2 H⟩⟩
 ·cases e
theorem int_at9 {K:PySem.W.Frag} {h:Heap} {mg:Str→Option Value} {name:Str} {x z:Int} {t:Tok} (X:K.In h) (G:h.Ns mainGlobals mg) (a:PySem.W.nsIn K mainGlobals name=some (some (.int x t))) (e:x=z):∃t,mg name=some (.int z t):=⟨t,by rw[← e]; exact PySem.W.mg_of X G a⟩
def keysOk (P:Params):List DictEntry→Prop
 | []=>True
 | e::r=>(∃x t,e.key=.str x t∧e.hash=PyData.keyHash P x)∧keysOk P r
theorem keysOk.all {P:Params}:∀{l:List DictEntry},keysOk P l→∀e∈l,∃x t,e.key=.str x t∧e.hash=PyData.keyHash P x
 | [],_,e,m=>by simp at m
 | a::l,h,e,m=>by
  rcases List.mem_cons.mp m with rfl | m
  ·exact h.1
  ·exact keysOk.all h.2 e m
def twoK (K:PySem.W.Frag) (lo hi:Nat) (v:Value):Bool:=match itsK K v with
 | some [.int a _,.int b _]=>decide (a=(lo:Nat)) && decide (b=(hi:Nat))
 | _=>false
def bndK (K:PySem.W.Frag) (es:Array DictEntry) (p:Str×Nat×Nat):Bool:=match findBy Value.isStrOf es p.1 with
 | some v=>twoK K p.2.1 p.2.2 v
 | none=>false
theorem twoK_at {K:PySem.W.Frag} {lo hi:Nat} {v:Value} (h:twoK K lo hi v=true):∃a,v=.ref a∧∀H,At K H (.tup [.int (lo:Nat),.int (hi:Nat)]) (.ref a):=by
 unfold twoK at h
 split at h
 ·rename_i a t b u e
  rw[Bool.and_eq_true] at h
  obtain ⟨p,rfl,q⟩:=itsK_sq e
  have h1:=of_decide_eq_true h.1
  have h2:=of_decide_eq_true h.2
  subst h1 h2
  exact ⟨p,rfl,fun H=>At_tup.mpr ⟨p,[.int (lo:Nat),.int (hi:Nat)],rfl,q H _ (.cons ⟨t,rfl⟩ (.cons ⟨u,rfl⟩ .nil)),AtAll2 (At_int.mpr rfl) (At_int.mpr rfl)⟩⟩
 ·cases h
theorem bnd_at {w:World} {K:PySem.W.Frag} {h:Heap} {mg:Str→Option Value} {a:Addr} {es:Array DictEntry} {n:Nat} (X:K.In h) (G:h.Ns mainGlobals mg) (e0:PySem.W.nsIn K mainGlobals "VALUES_OF_GIVEN"=some (some (.ref a))) (l:K.lookup a=some ⟨.type "dict",none,.dict es n,#[]⟩) (hk:keysOk w.params es.toList) (hb:bnds.all (bndK K es)=true):BndG w K mg:=by
 refine ⟨a,es,n,PySem.W.mg_of X G e0,l,fun e he=>hk.all e (by simpa using he),fun nm lo hi hm=>?_⟩
 have:=List.all_eq_true.mp hb _ hm
 unfold bndK at this
 split at this
 ·rename_i v ev
  obtain ⟨u,rfl,q⟩:=twoK_at this
  exact ⟨u,ev,q⟩
 ·cases this
section
variable {P:Program} {w:World} {K:PySem.W.Frag} {mg:Str→Option Value}
theorem law_ofF (g:Glb9 mg) (cz:∃c,Cz K mg c) (tN:TreeG K mg "NONE" [.str "none"]) (tf:TreeG K mg "GIVEN_FUNCTIONS" gfD) (tc:TreeG K mg "GIVEN_CLASSES" gcD) (tF:TreeG K mg "FAULT_FIELDS" (fldN.map D.str)) (hMN:∃t,mg "MOST_NAMES"=some (.int 8 t)) (hMC:∃t,mg "MOST_CLASSES"=some (.int 40 t)) (B:BndG w K mg) (fm:MadeAt K mg) (fAdd:FunAt9 K mg "added" pAdd) (fTh:FunAt9 K mg "thing_of" pTh) (fKn:FunAt9 K mg "known" pKn) (fFun:FunAt9 K mg "function" pFun) (fNew:FunAt9 K mg "new_class" pNew) (fIsC:FunAt9 K mg "is_class" pIsC) (fIsF:FunAt9 K mg "is_fault_class" pIsF) (fObj:FunAt9 K mg "new_object" pObj) (fVw:FunAt9 K mg "new_view" pVw) (fFlt:FunAt9 K mg "is_fault" pFlt) (fRai:FunAt9 K mg "raised_of" pRai) (fBnd:FunAt9 K mg "bind_raised" pBnd) (fFit:FunAt9 K mg "fits" pFit) (fBeh:FunAt9 K mg "fault_behind" pBeh) (fNms:FunAt9 K mg "names_of" pNms) (fFin:FunAt9 K mg "found_in" pFin) (fFby:FunAt9 K mg "found_by_way" pFby) (fOoO:FunAt9 K mg "order_of_owner" pOoO) (fFof:FunAt9 K mg "field_of" pFof) (fCbp:FunAt9 K mg "can_be_put" pCbp) (fPut:FunAt9 K mg "put_field" pPut) (fNmd:FunAt9 K mg "named" pNmd) (fTot:FunAt9 K mg "text_of_thing" pTot) (fTxt:FunAt9 K mg "text_of" pTxt) (fOof:FunAt9 K mg "object_of" pOof) (fUnd:FunAt9 K mg "is_under" pUnd) (fVwd:FunAt9 K mg "viewed" pVwd) (fCG:FunAt9 K mg "called_given" pCG) (fCld:FunAt9 K mg "called" pCld) (fSame:FunAt9 K mg "is_same" pSame) (fIbh:FunAt9 K mg "is_behind_head" pIbh) (fFree:FunAt9 K mg "place_of_free" pFree) (fWo:FunAt9 K mg "without_head" pWo) (fMrg:FunAt9 K mg "merged" pMrg) (fOrd:FunAt9 K mg "order_of" pOrd) (fCO:FunAt9 K mg "class_of" pCO) (fAt:FunAt9 K mg "_law_cell_at" sAt9) (fCell:FunAt9 K mg "_law_cell" sCell9) (fDrn:FunAt9 K mg "_law_drawn_names" sDrn) (fPl:FunAt9 K mg "_law_plain" sPl) (fCls:FunAt9 K mg "_law_classes" sCls) (fMr:FunAt9 K mg "_law_made_right" sMr) (fLk:FunAt9 K mg "_law_looked" sLk) (fFr:FunAt9 K mg "_law_fits_right" sFr) (fNa:FunAt9 K mg "_law_names" sNa) (fBd:FunAt9 K mg "_law_bound" sBd) (fLaw:FunAt9 K mg "law" sLaw)
  {fa:Addr} (hfa:mg "law"=some (.ref fa)):
  ∃fd:FuncData,(∀(s:Shared) (v:Value),BindsTo s fd ⟨[v],[]⟩ [("_law_script",v)])∧∀base:Heap,FnOk P w K mg base CX0 7 fa fd ["_law_script"] (spLaw K):=by
 obtain ⟨c,z,mM,⟨aF,dF,mF,kF',FF⟩,⟨aG,dG,mG,kG,FG⟩,⟨aK,dK,mK,kK,FK⟩,⟨aO,dO,mO,kO,FO⟩,⟨aV,dV,mV,kV',FV⟩,⟨aW,dW,mW,kW,FW⟩⟩:=cz
 obtain ⟨am,dm,dVm,mm,Fm,bm,bm3⟩:=fm
 obtain ⟨aAdd_,dAdd_,mAdd_,FAdd_⟩:=fAdd
 obtain ⟨aTh_,dTh_,mTh_,FTh_⟩:=fTh
 obtain ⟨aKn_,dKn_,mKn_,FKn_⟩:=fKn
 obtain ⟨aFun_,dFun_,mFun_,FFun_⟩:=fFun
 obtain ⟨aNew_,dNew_,mNew_,FNew_⟩:=fNew
 obtain ⟨aIsC_,dIsC_,mIsC_,FIsC_⟩:=fIsC
 obtain ⟨aIsF_,dIsF_,mIsF_,FIsF_⟩:=fIsF
 obtain ⟨aObj_,dObj_,mObj_,FObj_⟩:=fObj
 obtain ⟨aVw_,dVw_,mVw_,FVw_⟩:=fVw
 obtain ⟨aFlt_,dFlt_,mFlt_,FFlt_⟩:=fFlt
 obtain ⟨aRai_,dRai_,mRai_,FRai_⟩:=fRai
 obtain ⟨aBnd_,dBnd_,mBnd_,FBnd_⟩:=fBnd
 obtain ⟨aFit_,dFit_,mFit_,FFit_⟩:=fFit
 obtain ⟨aBeh_,dBeh_,mBeh_,FBeh_⟩:=fBeh
 obtain ⟨aNms_,dNms_,mNms_,FNms_⟩:=fNms
 obtain ⟨aFin_,dFin_,mFin_,FFin_⟩:=fFin
 obtain ⟨aFby_,dFby_,mFby_,FFby_⟩:=fFby
 obtain ⟨aOoO_,dOoO_,mOoO_,FOoO_⟩:=fOoO
 obtain ⟨aFof_,dFof_,mFof_,FFof_⟩:=fFof
 obtain ⟨aCbp_,dCbp_,mCbp_,FCbp_⟩:=fCbp
 obtain ⟨aPut_,dPut_,mPut_,FPut_⟩:=fPut
 obtain ⟨aNmd_,dNmd_,mNmd_,FNmd_⟩:=fNmd
 obtain ⟨aTot_,dTot_,mTot_,FTot_⟩:=fTot
 obtain ⟨aTxt_,dTxt_,mTxt_,FTxt_⟩:=fTxt
 obtain ⟨aOof_,dOof_,mOof_,FOof_⟩:=fOof
 obtain ⟨aUnd_,dUnd_,mUnd_,FUnd_⟩:=fUnd
 obtain ⟨aVwd_,dVwd_,mVwd_,FVwd_⟩:=fVwd
 obtain ⟨aCG_,dCG_,mCG_,FCG_⟩:=fCG
 obtain ⟨aCld_,dCld_,mCld_,FCld_⟩:=fCld
 obtain ⟨aSame_,dSame_,mSame_,FSame_⟩:=fSame
 obtain ⟨aIbh_,dIbh_,mIbh_,FIbh_⟩:=fIbh
 obtain ⟨aFree_,dFree_,mFree_,FFree_⟩:=fFree
 obtain ⟨aWo_,dWo_,mWo_,FWo_⟩:=fWo
 obtain ⟨aMrg_,dMrg_,mMrg_,FMrg_⟩:=fMrg
 obtain ⟨aOrd_,dOrd_,mOrd_,FOrd_⟩:=fOrd
 obtain ⟨aCO_,dCO_,mCO_,FCO_⟩:=fCO
 obtain ⟨aAt_,dAt_,mAt_,FAt_⟩:=fAt
 obtain ⟨aCell_,dCell_,mCell_,FCell_⟩:=fCell
 obtain ⟨aDrn_,dDrn_,mDrn_,FDrn_⟩:=fDrn
 obtain ⟨aPl_,dPl_,mPl_,FPl_⟩:=fPl
 obtain ⟨aCls_,dCls_,mCls_,FCls_⟩:=fCls
 obtain ⟨aMr_,dMr_,mMr_,FMr_⟩:=fMr
 obtain ⟨aLk_,dLk_,mLk_,FLk_⟩:=fLk
 obtain ⟨aFr_,dFr_,mFr_,FFr_⟩:=fFr
 obtain ⟨aNa_,dNa_,mNa_,FNa_⟩:=fNa
 obtain ⟨aBd_,dBd_,mBd_,FBd_⟩:=fBd
 obtain ⟨aLaw,dLaw,mLaw,FLaw⟩:=fLaw
 rw[mLaw] at hfa
 have ea:aLaw=fa:=by injection hfa with e; injection e
 subst ea
 refine ⟨dLaw,fun s v=>?_,fun base=>?_⟩
 ·obtain ⟨oc,od,kV,doc,pm,an,cdv,ct,osl,rfl,lk,hcd⟩:=FLaw.ex
  exact .of_eq rfl
 have MF:MkDef P w K mg base "Function" c.F ["self","name","params","defaults","code","around","gives"] 1 (spFnI c.F):=⟨aF,dF,mF,kF',(FF.binds fun _ _ _ _ _ _ us hl=>match us,hl with | [_,_,_,_,_,_,_],_=>rfl),ok_FnI z FF⟩
 have MG:MkDef P w K mg base "Given" c.G ["self","name"] 1 (spGvI c.G):=⟨aG,dG,mG,kG,(FG.binds fun _ _ _ _ _ _ us hl=>match us,hl with | [_,_],_=>rfl),ok_GvI z FG⟩
 have MK:MkDef P w K mg base "Kind" c.Kd ["self","name","order","fields","is_given"] 1 (spKdI c.Kd):=⟨aK,dK,mK,kK,(FK.binds fun _ _ _ _ _ _ us hl=>match us,hl with | [_,_,_,_,_],_=>rfl),ok_KdI z FK⟩
 have MO:MkDef P w K mg base "Object" c.O ["self","kind","fields"] 1 (spObI c.O):=⟨aO,dO,mO,kO,(FO.binds fun _ _ _ _ _ _ us hl=>match us,hl with | [_,_,_],_=>rfl),ok_ObI z FO⟩
 have MV:MkDef P w K mg base "View" c.Vw ["self","kind","owner"] 1 (spVwI c.Vw):=⟨aV,dV,mV,kV',(FV.binds fun _ _ _ _ _ _ us hl=>match us,hl with | [_,_,_],_=>rfl),ok_VwI z FV⟩
 have DAdd:Def P w K mg base "added" ["world","thing"] 1 (spAdd K c):=def_mk FAdd_ mAdd_ (FAdd_.binds fun _ _ _ _ _ _ us hl=>match us,hl with | [_,_],_=>rfl) (ok_Add g z FAdd_)
 have DTh:Def P w K mg base "thing_of" ["world","a"] 1 (spTh K c):=def_mk FTh_ mTh_ (FTh_.binds fun _ _ _ _ _ _ us hl=>match us,hl with | [_,_],_=>rfl) (ok_Th z FTh_)
 have DKn:Def P w K mg base "known" ["world","name"] 1 (spKn K c):=def_mk FKn_ mKn_ (FKn_.binds fun _ _ _ _ _ _ us hl=>match us,hl with | [_,_],_=>rfl) (ok_Kn z FKn_)
 have DFun:Def P w K mg base "function" ["world","name","params","defaults","code","around","gives"] 3 (spFun K c):=def_mk FFun_ mFun_ (FFun_.binds fun _ _ _ _ _ _ us hl=>match us,hl with | [_,_,_,_,_,_,_],_=>rfl) (ok_Fun MF FFun_ DAdd)
 have DNew:Def P w K mg base "new_class" ["world","name","behind","fields","is_given"] 3 (spNew K c):=def_mk FNew_ mNew_ (FNew_.binds fun _ _ _ _ _ _ us hl=>match us,hl with | [_,_,_,_,_],_=>rfl) (ok_New g z MK FNew_ DAdd)
 have DIsC:Def P w K mg base "is_class" ["world","a"] 2 (spIs K c false false true false false):=def_mk FIsC_ mIsC_ (FIsC_.binds fun _ _ _ _ _ _ us hl=>match us,hl with | [_,_],_=>rfl) (ok_IsC g z mK FIsC_ DTh)
 have DIsF:Def P w K mg base "is_fault_class" ["world","a"] 3 (spFC K c):=def_mk FIsF_ mIsF_ (FIsF_.binds fun _ _ _ _ _ _ us hl=>match us,hl with | [_,_],_=>rfl) (ok_FC z FIsF_ DIsC DKn DTh)
 have DObj:Def P w K mg base "new_object" ["world","kind"] 4 (spObj K c):=def_mk FObj_ mObj_ (FObj_.binds fun _ _ _ _ _ _ us hl=>match us,hl with | [_,_],_=>rfl) (ok_Obj g z tN tF MO FObj_ DIsF DAdd)
 have DVw:Def P w K mg base "new_view" ["world","kind","owner"] 3 (spVw K c):=def_mk FVw_ mVw_ (FVw_.binds fun _ _ _ _ _ _ us hl=>match us,hl with | [_,_,_],_=>rfl) (ok_Vw MV FVw_ DAdd)
 have DFlt:Def P w K mg base "is_fault" ["world","a"] 4 (spFlt K c):=def_mk FFlt_ mFlt_ (FFlt_.binds fun _ _ _ _ _ _ us hl=>match us,hl with | [_,_],_=>rfl) (ok_Flt g z mO FFlt_ DIsF DTh)
 have DRai:Def P w K mg base "raised_of" ["world","a"] 5 (spRai K c):=def_mk FRai_ mRai_ (FRai_.binds fun _ _ _ _ _ _ us hl=>match us,hl with | [_,_],_=>rfl) (ok_Rai FRai_ DFlt DIsF)
 have DBnd:Def P w K mg base "bind_raised" ["world","fault","cause","held"] 2 (spBnd K c):=def_mk FBnd_ mBnd_ (FBnd_.binds fun _ _ _ _ _ _ us hl=>match us,hl with | [_,_,_,_],_=>rfl) (ok_Bnd z tN FBnd_ DTh)
 have DFit:Def P w K mg base "fits" ["world","fault","a"] 4 (spFit K c):=def_mk FFit_ mFit_ (FFit_.binds fun _ _ _ _ _ _ us hl=>match us,hl with | [_,_,_],_=>rfl) (ok_Fit z FFit_ DIsF DTh)
 have DBeh:Def P w K mg base "fault_behind" ["world","fault"] 5 (spBeh K c):=def_mk FBeh_ mBeh_ (FBeh_.binds fun _ _ _ _ _ _ us hl=>match us,hl with | [_,_],_=>rfl) (ok_Beh z FBeh_ DTh DFlt)
 have DNms:Def P w K mg base "names_of" ["world","fault"] 6 (spNms K c):=def_mk FNms_ mNms_ (FNms_.binds fun _ _ _ _ _ _ us hl=>match us,hl with | [_,_],_=>rfl) (ok_Nms g z hMN FNms_ DTh DBeh)
 have DFin:Def P w K mg base "found_in" ["world","classes","name"] 2 (spFin K c):=def_mk FFin_ mFin_ (FFin_.binds fun _ _ _ _ _ _ us hl=>match us,hl with | [_,_,_],_=>rfl) (ok_Fin z FFin_ DTh)
 have DFby:Def P w K mg base "found_by_way" ["world","owner","classes","name"] 3 (spFby K c):=def_mk FFby_ mFby_ (FFby_.binds fun _ _ _ _ _ _ us hl=>match us,hl with | [_,_,_,_],_=>rfl) (ok_Fby FFby_ DFin)
 have DOoO:Def P w K mg base "order_of_owner" ["world","owner"] 2 (spOoO K c):=def_mk FOoO_ mOoO_ (FOoO_.binds fun _ _ _ _ _ _ us hl=>match us,hl with | [_,_],_=>rfl) (ok_OoO z FOoO_ DTh)
 have DFof:Def P w K mg base "field_of" ["world","a","name"] 4 (spFof K c):=def_mk FFof_ mFof_ (FFof_.binds fun _ _ _ _ _ _ us hl=>match us,hl with | [_,_,_],_=>rfl) (ok_Fof g z mO FFof_ DTh DOoO DFby)
 have DCbp:Def P w K mg base "can_be_put" ["thing"] 1 (spCbp c):=def_mk FCbp_ mCbp_ (FCbp_.binds fun _ _ _ _ _ _ us hl=>match us,hl with | [_],_=>rfl) (ok_Cbp g z mO FCbp_)
 have DPut:Def P w K mg base "put_field" ["world","a","name","v"] 2 (spPut K c):=def_mk FPut_ mPut_ (FPut_.binds fun _ _ _ _ _ _ us hl=>match us,hl with | [_,_,_,_],_=>rfl) (ok_Put z tN FPut_ DTh DCbp)
 have DNmd:Def P w K mg base "named" ["word","name"] 1 (spNmd):=def_mk FNmd_ mNmd_ (FNmd_.binds fun _ _ _ _ _ _ us hl=>match us,hl with | [_,_],_=>rfl) (ok_Nmd FNmd_)
 have DTot:Def P w K mg base "text_of_thing" ["world","thing"] 2 (spTot K c):=def_mk FTot_ mTot_ (FTot_.binds fun _ _ _ _ _ _ us hl=>match us,hl with | [_,_],_=>rfl) (ok_Tot g z mF mG mM mK mO FTot_ DTh DNmd)
 have DTxt:Def P w K mg base "text_of" ["world","a"] 3 (spTxt K c):=def_mk FTxt_ mTxt_ (FTxt_.binds fun _ _ _ _ _ _ us hl=>match us,hl with | [_,_],_=>rfl) (ok_Txt FTxt_ DTh DTot)
 have DOof:Def P w K mg base "object_of" ["world","kind","values"] 5 (spOof K c):=def_mk FOof_ mOof_ (FOof_.binds fun _ _ _ _ _ _ us hl=>match us,hl with | [_,_,_],_=>rfl) (ok_Oof g FOof_ DObj DFof DIsF)
 have DUnd:Def P w K mg base "is_under" ["world","x","kind"] 3 (spUnd K c):=def_mk FUnd_ mUnd_ (FUnd_.binds fun _ _ _ _ _ _ us hl=>match us,hl with | [_,_,_],_=>rfl) (ok_Und g z mO FUnd_ DTh DOoO)
 have DVwd:Def P w K mg base "viewed" ["world","kind","x"] 4 (spVwd K c):=def_mk FVwd_ mVwd_ (FVwd_.binds fun _ _ _ _ _ _ us hl=>match us,hl with | [_,_,_],_=>rfl) (ok_Vwd FVwd_ DUnd DVw)
 have DCG:Def P w K mg base "called_given" ["world","name","values"] 5 (spCG K c):=def_mk FCG_ mCG_ (FCG_.binds fun _ _ _ _ _ _ us hl=>match us,hl with | [_,_,_],_=>rfl) (ok_CG g B FCG_ DVwd)
 have DCld:Def P w K mg base "called" ["world","a","values"] 6 (spCld K c):=def_mk FCld_ mCld_ (FCld_.binds fun _ _ _ _ _ _ us hl=>match us,hl with | [_,_,_],_=>rfl) (ok_Cld g z mF mG mM mK FCld_ DTh DOof DCG)
 have DSame:Def P w K mg base "is_same" ["one","other"] 1 (spSame9 K):=def_mk FSame_ mSame_ (FSame_.binds fun _ _ _ _ _ _ us hl=>match us,hl with | [_,_],_=>rfl) (ok_Is g FSame_)
 have DIbh:Def P w K mg base "is_behind_head" ["thing","row"] 2 (spIbh K):=def_mk FIbh_ mIbh_ (FIbh_.binds fun _ _ _ _ _ _ us hl=>match us,hl with | [_,_],_=>rfl) (ok_Ibh g FIbh_ DSame)
 have DFree:Def P w K mg base "place_of_free" ["rows"] 3 (spFree K):=def_mk FFree_ mFree_ (FFree_.binds fun _ _ _ _ _ _ us hl=>match us,hl with | [_],_=>rfl) (ok_Free g FFree_ DIbh)
 have DWo:Def P w K mg base "without_head" ["rows","head"] 2 (spWo K):=def_mk FWo_ mWo_ (FWo_.binds fun _ _ _ _ _ _ us hl=>match us,hl with | [_,_],_=>rfl) (ok_Wo g FWo_ DSame)
 have DMrg:Def P w K mg base "merged" ["rows"] 4 (spMrg K):=def_mk FMrg_ mMrg_ (FMrg_.binds fun _ _ _ _ _ _ us hl=>match us,hl with | [_],_=>rfl) (ok_Mrg g FMrg_ DFree DWo)
 have DOrd:Def P w K mg base "order_of" ["world","elders"] 5 (spOrd K c):=def_mk FOrd_ mOrd_ (FOrd_.binds fun _ _ _ _ _ _ us hl=>match us,hl with | [_,_],_=>rfl) (ok_Ord g z hMC FOrd_ DIsC DTh DMrg)
 have DCO:Def P w K mg base "class_of" ["world","name","order","fields"] 4 (spCO K c):=def_mk FCO_ mCO_ (FCO_.binds fun _ _ _ _ _ _ us hl=>match us,hl with | [_,_,_,_],_=>rfl) (ok_CO FCO_ DNew)
 have DAt:Def P w K mg base "_law_cell_at" ["_law_script","_law_k"] 1 (spAt9 K):=def_mk FAt_ mAt_ (FAt_.binds fun _ _ _ _ _ _ us hl=>match us,hl with | [_,_],_=>rfl) (ok_At9 g FAt_)
 have DCell:Def P w K mg base "_law_cell" ["_law_cells","_law_spot"] 1 (spCell9 K):=def_mk FCell_ mCell_ (FCell_.binds fun _ _ _ _ _ _ us hl=>match us,hl with | [_,_],_=>rfl) (ok_Cell9 g FCell_)
 have DDrn:Def P w K mg base "_law_drawn_names" ["_law_n"] 1 (spDrn K):=def_mk FDrn_ mDrn_ (FDrn_.binds fun _ _ _ _ _ _ us hl=>match us,hl with | [_],_=>rfl) (ok_Drn g FDrn_)
 have DPl:Def P w K mg base "_law_plain" ["_law_n"] 1 (spPl K):=def_mk FPl_ mPl_ (FPl_.binds fun _ _ _ _ _ _ us hl=>match us,hl with | [_],_=>rfl) (ok_Pl FPl_)
 have DCls:Def P w K mg base "_law_classes" ["_law_world","_law_cells","_law_spot","_law_names_here"] 6 (spCls K c):=def_mk FCls_ mCls_ (FCls_.binds fun _ _ _ _ _ _ us hl=>match us,hl with | [_,_,_,_],_=>rfl) (ok_Cls g FCls_ DKn DCell DOrd DCO)
 have DM1:DefN P w K mg base "made" ["world","name","word"] 5 (spMade K c):=⟨am,dm,mm,Fm.kp,bm,ok_Made z Fm DObj DKn DTh⟩
 have DM3:Def P w K mg base "made" ["world","name","word"] 5 (spMade K c):=⟨am,dm,mm,Fm.kp,bm3,ok_Made z Fm DObj DKn DTh⟩
 have DMr:Def P w K mg base "_law_made_right" ["_law_world","_law_rows","_law_n"] 6 (spMr K c):=def_mk FMr_ mMr_ (FMr_.binds fun _ _ _ _ _ _ us hl=>match us,hl with | [_,_,_],_=>rfl) (ok_Mr FMr_ DPl DM1 DM3 DFof DTxt)
 have DLk:Def P w K mg base "_law_looked" ["_law_world","_law_rows","_law_things","_law_a"] 6 (spLk K c):=def_mk FLk_ mLk_ (FLk_.binds fun _ _ _ _ _ _ us hl=>match us,hl with | [_,_,_,_],_=>rfl) (ok_Lk g FLk_ DKn DFlt DRai)
 have DFr:Def P w K mg base "_law_fits_right" ["_law_world","_law_rows","_law_one","_law_a"] 5 (spFr K c):=def_mk FFr_ mFr_ (FFr_.binds fun _ _ _ _ _ _ us hl=>match us,hl with | [_,_,_,_],_=>rfl) (ok_Fr FFr_ DKn DFit)
 have DNa:Def P w K mg base "_law_names" ["_law_world","_law_things","_law_one"] 2 (spNa K c):=def_mk FNa_ mNa_ (FNa_.binds fun _ _ _ _ _ _ us hl=>match us,hl with | [_,_,_],_=>rfl) (ok_Na g FNa_ DKn)
 have DBd:Def P w K mg base "_law_bound" ["_law_world","_law_things","_law_faults","_law_rows","_law_n"] 3 (spBd K c):=def_mk FBd_ mBd_ (FBd_.binds fun _ _ _ _ _ _ us hl=>match us,hl with | [_,_,_,_,_],_=>rfl) (ok_Bd g FBd_ DPl DPut DBnd)
 have MW:MkDef P w K mg base "World" c.W ["self","inputs"] 4 (spWI K c):=⟨aW,dW,mW,kW,(FW.binds fun _ _ _ _ _ _ us hl=>match us,hl with | [_,_],_=>rfl),ok_WI g z tf tc MG FW DAdd DNew⟩
 exact ok_Law g FLaw DAt DCell MW DDrn DCls DCld DMr DKn DBd DFof DNms DNa DPl DFr DFun DLk
end
theorem walkD {l:PySem.W.OpenLaw} {q:Program} {loose:List Str} {XP:(Str→Option Value)→Heap→Prop} {YP:World→Heap→Prop} {d:DefRec} {K:Params→PySem.W.Frag} (hn:l.most=some 63) (hdf:d.params.defaults=[])
  (hY:∀(w:World) (h:Heap),YP w h→(K w.params).In h)
  (F:∀(w:World) (mg:Str→Option Value) (fa:Addr) (h:Heap),(K w.params).In h→h.Ns mainGlobals mg→mg d.name=some (.ref fa)→
   ∃fd:FuncData,(∀(s:Shared) (u:Value),BindsTo s fd ⟨[u],[]⟩ [("_law_script",u)])∧∀base:Heap,FnOk l.prog w (K w.params) mg base CX0 7 fa fd ["_law_script"] (spLaw (K w.params))):
  PySem.W.WalkO q loose XP YP l.row.toRowW d [] (fun f vs=>PySem.call f vs):=
 L2.walk_of (n:=63) (k:=7) (x:="_law_script") (CX:=fun _=>CX0) (sp:=fun w=>spLaw (K w.params)) hn (by decide) hdf ⟨rfl,by decide,by decide,rfl⟩ hY (fun w mg fa h a b c=>let ⟨fd,p,q⟩:=F w mg fa h a b c; ⟨fd,p,fun base _ _=>q base⟩) (fun _ _ a ns hl _ hS=>⟨a,ns,rfl,hS,hl,fun _=>rfl⟩) fun _ _ _ _ _ z=>z
end GS
open PySem PySem.W
set_option maxRecDepth 100000 in
set_option maxHeartbeats 0 in
theorem PySem.Challenge.cw_grassnake_k14_faults_holds : PySem.Challenge.rw_grassnake_k14_faults.Holds := by
  refine holds_law GS.said9 fun said => ?_
  refine W.holds_open (q := GS.q9) (loose := GS.lo9) (Xt := fun s => xlAt GS.q9 [] s && recOk (RowW.records (OpenRow.toRowW (OpenLaw.row GS.r9))) s) (XP := XL GS.q9 []) (Yf := Hook.obs (kHook GS.K9h GS.asK9h GS.eK9h)) (Ya := Hook.val (kHook GS.K9h GS.asK9h GS.eK9h)) (YP := Hook.says (kHook GS.K9h GS.asK9h GS.eK9h)) (N := 8376) GS.left9 (Hook.of _) (Hook.keeps _) (fun s e => xl_of s (Bool.and_eq_true_iff.mp e).1) XL.keeps (by rfl) (by rfl) (by rfl) (fun s e => recFacts_of (Bool.and_eq_true_iff.mp e).2) (by rfl) said (by decide +kernel) ⟨rfl, rfl, rfl, rfl, rfl, by decide +kernel⟩ ?hw ?hc
  case hw => w_witness2
  k_fill
  refine GS.walkD (l := GS.r9) rfl rfl (fun w h Y => PySem.W.kIn_of Y) ?F
  case F =>
    intro w mg fa h KX G hmg
    have g : GS.Glb9 mg := by
      refine' ⟨?_, ?_, ?_, ?_, ?_, ?_, ?_, ?_, ?_, ?_, ?_, ?_, ?_, ?_, ?_, ?_, ?_⟩
      all_goals (refine' PySem.W.mg_none_of KX G ?a; (case a => k_is))
    have hMN : ∃ t, mg "MOST_NAMES" = some (.int 8 t) := by
      refine' GS.int_at9 KX G ?a ?e; (case a => k_is); (case e => decide)
    have hMC : ∃ t, mg "MOST_CLASSES" = some (.int 40 t) := by
      refine' GS.int_at9 KX G ?a ?e; (case a => k_is); (case e => decide)
    have tN : GS.TreeG (L2.KOf KX) mg "NONE" [.str "none"] := by
      dsimp only [L2.KOf]
      refine' GS.tree_s ["none"] KX G ?a ?e; (case a => k_is); (case e => kernel_rfl)
    have tf : GS.TreeG (L2.KOf KX) mg "GIVEN_FUNCTIONS" GS.gfD := by
      dsimp only [L2.KOf]
      refine' GS.tree_s GS.gfN KX G ?a ?e; (case a => k_is); (case e => kernel_rfl)
    have tc : GS.TreeG (L2.KOf KX) mg "GIVEN_CLASSES" GS.gcD := by
      dsimp only [L2.KOf]
      refine' GS.tree_c KX G ?a ?e; (case a => k_is); (case e => kernel_rfl)
    have tF : GS.TreeG (L2.KOf KX) mg "FAULT_FIELDS" (GS.fldN.map GS.D.str) := by
      dsimp only [L2.KOf]
      refine' GS.tree_s GS.fldN KX G ?a ?e; (case a => k_is); (case e => kernel_rfl)
    have B : GS.BndG w (L2.KOf KX) mg := by
      dsimp only [L2.KOf]
      refine' GS.bnd_at KX G ?a ?l ?k ?e; (case a => k_is); (case l => k_is); (case k => exact ⟨⟨_, _, rfl, rfl⟩, ⟨_, _, rfl, rfl⟩, ⟨_, _, rfl, rfl⟩, ⟨_, _, rfl, rfl⟩, ⟨_, _, rfl, rfl⟩, ⟨_, _, rfl, rfl⟩, ⟨_, _, rfl, rfl⟩, ⟨_, _, rfl, rfl⟩, True.intro⟩); (case e => kernel_rfl)
    have fm : GS.MadeAt (L2.KOf KX) mg := by
      dsimp only [L2.KOf]
      refine' GS.made_at KX G ?_ ?_ ?_ ?_ ?_; repeat any_goals k_is
    have cz : ∃ c, GS.Cz (L2.KOf KX) mg c := by
      dsimp only [L2.KOf]
      refine' GS.cz_at (GS.mg_at KX G ?_) (GS.ini_at9 KX G ?_ ⟨?_, ?_, ?_, ?_⟩ ?_ ?_ ?_) (GS.ini_at9 KX G ?_ ⟨?_, ?_, ?_, ?_⟩ ?_ ?_ ?_) (GS.ini_at9 KX G ?_ ⟨?_, ?_, ?_, ?_⟩ ?_ ?_ ?_) (GS.ini_at9 KX G ?_ ⟨?_, ?_, ?_, ?_⟩ ?_ ?_ ?_) (GS.ini_at9 KX G ?_ ⟨?_, ?_, ?_, ?_⟩ ?_ ?_ ?_) (GS.ini_at9 KX G ?_ ⟨?_, ?_, ?_, ?_⟩ ?_ ?_ ?_) ⟨⟨?_, ?_, ?_, ?_⟩, ?_, ?_, ?_, ?_, ⟨?_, ?_, ?_, ?_⟩, ?_, ?_, ?_, ?_, ⟨?_, ?_, ?_, ?_⟩, ?_, ⟨?_, ?_, ?_, ?_⟩, ?_, ?_, ⟨?_, ?_, ?_, ?_⟩, ?_, ?_, ?_, ?_, ?_, ?_, ⟨?_, ?_, ?_, ?_⟩, ?_, ?_, ⟨?_, ?_, ?_, ?_, ?_, ?_⟩, ⟨?_, ?_, ?_, ?_, ?_, ?_⟩, ⟨?_, ?_, ?_, ?_, ?_, ?_⟩, ⟨?_, ?_, ?_, ?_, ?_, ?_⟩, ⟨?_, ?_, ?_, ?_, ?_, ?_⟩, ⟨?_, ?_, ?_, ?_, ?_, ?_⟩, ⟨?_, ?_, ?_, ?_, ?_, ?_⟩, ⟨?_, ?_, ?_, ?_, ?_, ?_⟩, ⟨?_, ?_, ?_, ?_, ?_, ?_⟩, ⟨?_, ?_, ?_, ?_, ?_, ?_⟩⟩
      repeat any_goals first | k_is | (unfold L2.NoAttr; k_is) | rfl
      all_goals decide
    refine GS.law_ofF g cz tN tf tc tF hMN hMC B fm ?_ ?_ ?_ ?_ ?_ ?_ ?_ ?_ ?_ ?_ ?_ ?_ ?_ ?_ ?_ ?_ ?_ ?_ ?_ ?_ ?_ ?_ ?_ ?_ ?_ ?_ ?_ ?_ ?_ ?_ ?_ ?_ ?_ ?_ ?_ ?_ ?_ ?_ ?_ ?_ ?_ ?_ ?_ ?_ ?_ ?_ ?_ hmg
    all_goals ((try dsimp only [L2.KOf]); refine' GS.fun_at9 KX G ?_ ?_ ?_ ?_; repeat any_goals k_is)
