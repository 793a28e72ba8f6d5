import PyProof.Rows.All
import OpenK.AllK
import Wide.All
import Wide.FinOn
import Lean
import PyProof.EqAt
import PyProof.EqKinds
import PyProof.TupleCall
import PyProof.CompFree
import PyProof.StrWalks
import PyProof.ReprRoads
import PyProof.ReprLen
import PyProof.ToksMono
import KE.IntTextLaws
import PyProof.NeKinds
import PyProof.CallFns
import PyProof.CompUse
import KE.KDictOf
import PyProof.AttrMissHeap
import PyProof.Walks
import KE.KIsAll
import PySem.Challenge.RW_grassnake_k13_givers
set_option Elab.async false
set_option linter.all false
set_option maxRecDepth 100000
set_option maxHeartbeats 4000000
namespace GS
open PySem
noncomputable section
abbrev p9 := PySem.Challenge.pw_grassnake_k13_givers
abbrev r9 := PySem.Challenge.rw_grassnake_k13_givers
noncomputable def tp9 (i : Nat) : Stmt := p9.main.body.getD i (.Pass ⟨0, 0, 0, 0⟩)
def iC (i : Nat) : Stmt → Stmt
  | .ClassDef _ _ _ body _ _ _ _ _ _ _ => body.getD i (.Pass ⟨0, 0, 0, 0⟩)
  | _ => .Pass ⟨0, 0, 0, 0⟩
def fA (s : Stmt) : Arguments := match s with
  | .FunctionDef _ a _ _ _ _ _ _ _ _ => a
  | _ => { posonlyargs := [], args := [], vararg := none, kwonlyargs := [], kw_defaults := [], kwarg := none, defaults := [] }
def fB (s : Stmt) : List Stmt := match s with
  | .FunctionDef _ _ b _ _ _ _ _ _ _ => b
  | _ => []
def fS (s : Stmt) : Scope := match s with
  | .FunctionDef _ _ _ _ _ _ c _ _ _ => c
  | _ => { kind := .function, names := [], isGenerator := false, isCoroutine := false }
def eO (P : Params) (k : Str) (t : Nat) (v : Value) : DictEntry := ⟨PyData.keyHash P k, .str k t, v⟩
def eR (P : Params) (k : Str) (t a : Nat) : DictEntry := eO P k t (.ref a)
def dO (es : List DictEntry) (n : Nat) : Obj := ⟨.type "dict", none, .dict es.toArray n, #[]⟩
def tO (vs : List Value) : Obj := ⟨.type "tuple", none, .seq vs.toArray 0, #[]⟩
def fO (m : Str) (t : Nat) (st : Stmt) (n q : Str) (c : Nat) : Obj := ⟨.type "function", none, .func (PySem.W.fnOf n q (fA st) (fB st) (fS st) .none .none .none (.str m t) none (.ref c) .none), #[]⟩
def fD (m : Str) (t : Nat) (st : Stmt) (n q : Str) (c d : Nat) : Obj := ⟨.type "function", none, .func (PySem.W.fnOf n q (fA st) (fB st) (fS st) (.ref d) .none .none (.str m t) none (.ref c) .none), #[]⟩
noncomputable def cO (a : Nat) (v : Bool) (n q : Str) (t l k u : Nat) : Obj := ⟨.type "code", none, .fields #[.str n t, .str q (t + 1), .str "/claim/cut.py" (t + 2), .int l 0, .int k 0, .int 0 0, .int 0 0, .int 3 0, .ref (if v then a - 5 else a - 3), .bool true, .int 181 0, .ref (if v then a - 4 else a - 2), .none, if v then .ref (a - 3) else .none, if v then .ref (a - 2) else .none, .ref (a - 1), .int u 0, .int l 0, .str "/claim/cut.py" (u + 1)], #[]⟩
noncomputable def kO (n : Str) (bs mro : List Value) (ns : Nat) (sub : List Value) (sl : Array (Option Value)) : Obj := ⟨.type "type", none, .cls { name := n, bases := bs, mro := mro, ns := ns, qualname := n, subclasses := sub }, sl⟩
abbrev oT (a : Nat) (n : Str) := cO a true n n
abbrev oF (a : Nat) (n : Str) := cO a false n n
abbrev fm1 := fO "grassnake.store" 187
abbrev fn1 (i : Nat) (n : Str) := fm1 (tp9 i) n n
abbrev fm2 := fO "grassnake.faults" 627
abbrev fn2 (i : Nat) (n : Str) := fm2 (tp9 i) n n
abbrev fm3 := fO "grassnake.calls" 744
abbrev fn3 (i : Nat) (n : Str) := fm3 (tp9 i) n n
abbrev fm4 := fO "law_grassnake_k13_givers" 935
abbrev fn4 (i : Nat) (n : Str) := fm4 (tp9 i) n n
abbrev fm5 := fO "grassnake.fields" 649
abbrev fn5 (i : Nat) (n : Str) := fm5 (tp9 i) n n
noncomputable def rO (n q : Str) (st : Stmt) : Obj := ⟨.none, none, .func { PySem.W.fnOf n q (fA st) (fB st) (fS st) .none .none .none .none none .none .none with globals := 0 }, #[]⟩
noncomputable abbrev rN (i : Nat) (n : Str) := rO n n (tp9 i)
def nO (vs : List Value) : Obj := ⟨.none, none, .fields vs.toArray, #[]⟩
def gO (c : String) (vs : List Value) : Obj := ⟨.type c, none, .fields vs.toArray, #[]⟩
def qO (sl : List (Option Value)) : Obj := { cls := .type "frame", slots := sl.toArray }
def nT (xs : List (Nat × Nat × Nat)) : Obj := nO (xs.flatMap fun t => [.int t.1 0, .int t.2.1 0, .ref t.2.2])
def t12 : List (Nat × Nat × Nat) := [(6,0,48),(15,0,69),(19,0,90),(24,0,111),(31,0,132),(36,0,153),(44,0,174),(49,0,195),(60,0,214),(63,0,221),(65,0,228),(67,0,235),(69,0,242),(72,0,249),(74,0,256),(76,0,261),(79,0,268),(81,0,275),(83,0,282),(85,0,289),(87,0,296),(89,0,303),(91,0,310),(95,0,318),(101,0,325),(105,0,332),(111,0,339),(116,0,346),(118,0,353),(121,0,360),(133,0,367),(135,0,374),(141,0,381),(143,0,388),(153,0,395),(161,0,412),(167,0,419),(178,0,426),(181,0,433),(184,0,440),(186,0,447),(188,0,454),(190,0,461),(194,0,468),(197,0,475),(206,0,482),(211,0,489),(219,0,496),(238,0,503),(247,0,510),(252,0,517),(262,0,524),(266,0,531),(273,0,538),(276,0,545),(284,0,552),(290,0,559),(298,0,566),(314,0,573),(321,0,580),(329,0,587),(345,0,594),(351,0,599)]
def o11 (P : Params) : Obj := tO []
def oR (P : Params) : List Obj := gO "code" [(.str "<module>" 182),(.str "<module>" 183),(.str "/claim/cut.py" 184),(.int 1 0),(.int 0 0),(.int 0 0),(.int 0 0),(.int 0 0),(.ref 11),(.bool false),(.int 181 0),(.ref 12),.none,.none,.none,.none,(.int 185 0),(.int 1 0),(.str "/claim/cut.py" 186)]::
  qO [some (.ref 13),some (.ref 3),some (.ref 3),none,some (.str "__main__" 164),none,some (.ref 0)]::
  tO [(.str "none" 189)]::
  tO [(.str "say" 191),(.str "take" 192),(.str "isa" 193),(.str "elder" 194),(.str "count" 195),(.str "go" 196),(.str "throw" 197),(.str "shut" 198)]::
  tO []::
  tO [(.str "Thing" 200),(.ref 17)]::
  tO [(.str "Thing" 202)]::
  tO [(.str "Fault" 201),(.ref 19)]::
  tO [(.str "Fault" 204),(.str "Thing" 205)]::
  tO [(.str "NameFault" 203),(.ref 21)]::
  tO [(.str "Fault" 207),(.str "Thing" 208)]::
  tO [(.str "KindFault" 206),(.ref 23)]::
  tO [(.str "Fault" 210),(.str "Thing" 211)]::
  tO [(.str "NoughtFault" 209),(.ref 25)]::
  tO [(.str "Fault" 213),(.str "Thing" 214)]::
  tO [(.str "GreatFault" 212),(.ref 27)]::
  tO [(.str "Fault" 216),(.str "Thing" 217)]::
  tO [(.str "FieldFault" 215),(.ref 29)]::
  tO [(.str "Fault" 219),(.str "Thing" 220)]::
  tO [(.str "OrderFault" 218),(.ref 31)]::
  tO [(.str "Fault" 222),(.str "Thing" 223)]::
  tO [(.str "EndFault" 221),(.ref 33)]::
  tO [(.str "Fault" 225),(.str "Thing" 226)]::
  tO [(.str "ShutFault" 224),(.ref 35)]::
  tO [(.str "Fault" 228),(.str "Thing" 229)]::
  tO [(.str "DeepFault" 227),(.ref 37)]::
  tO [(.str "NameFault" 231),(.str "Fault" 232),(.str "Thing" 233)]::
  tO [(.str "UnboundFault" 230),(.ref 39)]::
  tO [(.ref 18),(.ref 20),(.ref 22),(.ref 24),(.ref 26),(.ref 28),(.ref 30),(.ref 32),(.ref 34),(.ref 36),(.ref 38),(.ref 40)]::
  tO [(.str "word" 235),(.str "cause" 236),(.str "context" 237)]::
  tO []::
  gO "builtin_function_or_method" [(.builtin "type.__prepare__"),(.type "type")]::
  dO [eO P "__module__" 246 (.str "grassnake.store" 187),eO P "__qualname__" 248 (.str "Function" 247),eO P "__firstlineno__" 250 (.int 6 249),eR P "__init__" 263 56,eR P "__static_attributes__" 270 57] 5::
  tO []::
  nO [(.int 8 0),(.int 4 0),(.ref 55)]::
  gO "code" [(.str "Function" 241),(.str "Function" 242),(.str "/claim/cut.py" 243),(.int 6 0),(.int 0 0),(.int 0 0),(.int 0 0),(.int 0 0),(.ref 46),(.bool false),(.int 181 0),(.ref 47),.none,.none,.none,.none,(.int 244 0),(.int 6 0),(.str "/claim/cut.py" 245)]::
  qO [some (.ref 48),some (.ref 3),some (.ref 45),none,some (.str "grassnake.store" 187),none,some (.ref 0)]::
  tO []::
  nO []::
  tO [(.str "self" 254),(.str "name" 255),(.str "params" 256),(.str "defaults" 257),(.str "code" 258),(.str "around" 259),(.str "gives" 260)]::
  tO []::
  rO "__init__" "Function.__init__" (iC 0 (tp9 5))::
  cO 55 true "__init__" "Function.__init__" 251 8 7 261::
  fm1 (iC 0 (tp9 5)) "__init__" "Function.__init__" 55::
  tO [(.str "around" 264),(.str "code" 265),(.str "defaults" 266),(.str "gives" 267),(.str "name" 268),(.str "params" 269)]::
  dO [eO P "__module__" 246 (.str "grassnake.store" 187),eO P "__firstlineno__" 250 (.int 6 249),eR P "__init__" 263 56,eR P "__static_attributes__" 270 57,eR P "__dict__" 272 60,eR P "__weakref__" 274 61,eO P "__doc__" 275 .none] 4::
  kO "Function" [(.type "object")] [(.ref 59),(.type "object")] 58 [] #[none,none,some (.str "Function" 239),some (.str "Function" 247),some (.builtin "object.__new__"),some (.bool true)]::
  gO "getset_descriptor" [(.str "__dict__" 271),(.ref 59),(.builtin "function.__dict__"),(.builtin "function.__dict__#set")]::
  gO "getset_descriptor" [(.str "__weakref__" 273),(.ref 59),(.builtin "ExceptionGroup.__weakref__"),.none]::
  gO "super" [(.ref 59),(.ref 59),(.ref 59)]::
  gO "builtin_function_or_method" [(.builtin "object.__init_subclass__"),(.ref 59)]::
  tO []::
  gO "builtin_function_or_method" [(.builtin "type.__prepare__"),(.type "type")]::
  dO [eO P "__module__" 285 (.str "grassnake.store" 187),eO P "__qualname__" 287 (.str "Given" 286),eO P "__firstlineno__" 289 (.int 15 288),eR P "__init__" 297 77,eR P "__static_attributes__" 299 78] 5::
  tO []::
  nO [(.int 17 0),(.int 4 0),(.ref 76)]::
  gO "code" [(.str "Given" 280),(.str "Given" 281),(.str "/claim/cut.py" 282),(.int 15 0),(.int 0 0),(.int 0 0),(.int 0 0),(.int 0 0),(.ref 67),(.bool false),(.int 181 0),(.ref 68),.none,.none,.none,.none,(.int 283 0),(.int 15 0),(.str "/claim/cut.py" 284)]::
  qO [some (.ref 69),some (.ref 3),some (.ref 66),none,some (.str "grassnake.store" 187),none,some (.ref 0)]::
  tO []::
  nO []::
  tO [(.str "self" 293),(.str "name" 294)]::
  tO []::
  rO "__init__" "Given.__init__" (iC 0 (tp9 6))::
  cO 76 true "__init__" "Given.__init__" 290 17 2 295::
  fm1 (iC 0 (tp9 6)) "__init__" "Given.__init__" 76::
  tO [(.str "name" 298)]::
  dO [eO P "__module__" 285 (.str "grassnake.store" 187),eO P "__firstlineno__" 289 (.int 15 288),eR P "__init__" 297 77,eR P "__static_attributes__" 299 78,eR P "__dict__" 301 81,eR P "__weakref__" 303 82,eO P "__doc__" 304 .none] 4::
  kO "Given" [(.type "object")] [(.ref 80),(.type "object")] 79 [] #[none,none,some (.str "Given" 278),some (.str "Given" 286),some (.builtin "object.__new__"),some (.bool true)]::
  gO "getset_descriptor" [(.str "__dict__" 300),(.ref 80),(.builtin "function.__dict__"),(.builtin "function.__dict__#set")]::
  gO "getset_descriptor" [(.str "__weakref__" 302),(.ref 80),(.builtin "ExceptionGroup.__weakref__"),.none]::
  gO "super" [(.ref 80),(.ref 80),(.ref 80)]::
  gO "builtin_function_or_method" [(.builtin "object.__init_subclass__"),(.ref 80)]::
  tO []::
  gO "builtin_function_or_method" [(.builtin "type.__prepare__"),(.type "type")]::
  dO [eO P "__module__" 314 (.str "grassnake.store" 187),eO P "__qualname__" 316 (.str "Method" 315),eO P "__firstlineno__" 318 (.int 19 317),eR P "__init__" 327 98,eR P "__static_attributes__" 330 99] 5::
  tO []::
  nO [(.int 21 0),(.int 4 0),(.ref 97)]::
  gO "code" [(.str "Method" 309),(.str "Method" 310),(.str "/claim/cut.py" 311),(.int 19 0),(.int 0 0),(.int 0 0),(.int 0 0),(.int 0 0),(.ref 88),(.bool false),(.int 181 0),(.ref 89),.none,.none,.none,.none,(.int 312 0),(.int 19 0),(.str "/claim/cut.py" 313)]::
  qO [some (.ref 90),some (.ref 3),some (.ref 87),none,some (.str "grassnake.store" 187),none,some (.ref 0)]::
  tO []::
  nO []::
  tO [(.str "self" 322),(.str "target" 323),(.str "owner" 324)]::
  tO []::
  rO "__init__" "Method.__init__" (iC 0 (tp9 7))::
  cO 97 true "__init__" "Method.__init__" 319 21 3 325::
  fm1 (iC 0 (tp9 7)) "__init__" "Method.__init__" 97::
  tO [(.str "owner" 328),(.str "target" 329)]::
  dO [eO P "__module__" 314 (.str "grassnake.store" 187),eO P "__firstlineno__" 318 (.int 19 317),eR P "__init__" 327 98,eR P "__static_attributes__" 330 99,eR P "__dict__" 332 102,eR P "__weakref__" 334 103,eO P "__doc__" 335 .none] 4::
  kO "Method" [(.type "object")] [(.ref 101),(.type "object")] 100 [] #[none,none,some (.str "Method" 307),some (.str "Method" 315),some (.builtin "object.__new__"),some (.bool true)]::
  gO "getset_descriptor" [(.str "__dict__" 331),(.ref 101),(.builtin "function.__dict__"),(.builtin "function.__dict__#set")]::
  gO "getset_descriptor" [(.str "__weakref__" 333),(.ref 101),(.builtin "ExceptionGroup.__weakref__"),.none]::
  gO "super" [(.ref 101),(.ref 101),(.ref 101)]::
  gO "builtin_function_or_method" [(.builtin "object.__init_subclass__"),(.ref 101)]::
  tO []::
  gO "builtin_function_or_method" [(.builtin "type.__prepare__"),(.type "type")]::
  dO [eO P "__module__" 345 (.str "grassnake.store" 187),eO P "__qualname__" 347 (.str "Kind" 346),eO P "__firstlineno__" 349 (.int 24 348),eR P "__init__" 360 119,eR P "__static_attributes__" 365 120] 5::
  tO []::
  nO [(.int 26 0),(.int 4 0),(.ref 118)]::
  gO "code" [(.str "Kind" 340),(.str "Kind" 341),(.str "/claim/cut.py" 342),(.int 24 0),(.int 0 0),(.int 0 0),(.int 0 0),(.int 0 0),(.ref 109),(.bool false),(.int 181 0),(.ref 110),.none,.none,.none,.none,(.int 343 0),(.int 24 0),(.str "/claim/cut.py" 344)]::
  qO [some (.ref 111),some (.ref 3),some (.ref 108),none,some (.str "grassnake.store" 187),none,some (.ref 0)]::
  tO []::
  nO []::
  tO [(.str "self" 353),(.str "name" 354),(.str "order" 355),(.str "fields" 356),(.str "is_given" 357)]::
  tO []::
  rO "__init__" "Kind.__init__" (iC 0 (tp9 8))::
  cO 118 true "__init__" "Kind.__init__" 350 26 5 358::
  fm1 (iC 0 (tp9 8)) "__init__" "Kind.__init__" 118::
  tO [(.str "fields" 361),(.str "is_given" 362),(.str "name" 363),(.str "order" 364)]::
  dO [eO P "__module__" 345 (.str "grassnake.store" 187),eO P "__firstlineno__" 349 (.int 24 348),eR P "__init__" 360 119,eR P "__static_attributes__" 365 120,eR P "__dict__" 367 123,eR P "__weakref__" 369 124,eO P "__doc__" 370 .none] 4::
  kO "Kind" [(.type "object")] [(.ref 122),(.type "object")] 121 [] #[none,none,some (.str "Kind" 338),some (.str "Kind" 346),some (.builtin "object.__new__"),some (.bool true)]::
  gO "getset_descriptor" [(.str "__dict__" 366),(.ref 122),(.builtin "function.__dict__"),(.builtin "function.__dict__#set")]::
  gO "getset_descriptor" [(.str "__weakref__" 368),(.ref 122),(.builtin "ExceptionGroup.__weakref__"),.none]::
  gO "super" [(.ref 122),(.ref 122),(.ref 122)]::
  gO "builtin_function_or_method" [(.builtin "object.__init_subclass__"),(.ref 122)]::
  tO []::
  gO "builtin_function_or_method" [(.builtin "type.__prepare__"),(.type "type")]::
  dO [eO P "__module__" 380 (.str "grassnake.store" 187),eO P "__qualname__" 382 (.str "Object" 381),eO P "__firstlineno__" 384 (.int 31 383),eR P "__init__" 393 140,eR P "__static_attributes__" 396 141] 5::
  tO []::
  nO [(.int 33 0),(.int 4 0),(.ref 139)]::
  gO "code" [(.str "Object" 375),(.str "Object" 376),(.str "/claim/cut.py" 377),(.int 31 0),(.int 0 0),(.int 0 0),(.int 0 0),(.int 0 0),(.ref 130),(.bool false),(.int 181 0),(.ref 131),.none,.none,.none,.none,(.int 378 0),(.int 31 0),(.str "/claim/cut.py" 379)]::
  qO [some (.ref 132),some (.ref 3),some (.ref 129),none,some (.str "grassnake.store" 187),none,some (.ref 0)]::
  tO []::
  nO []::
  tO [(.str "self" 388),(.str "kind" 389),(.str "fields" 390)]::
  tO []::
  rO "__init__" "Object.__init__" (iC 0 (tp9 9))::
  cO 139 true "__init__" "Object.__init__" 385 33 3 391::
  fm1 (iC 0 (tp9 9)) "__init__" "Object.__init__" 139::
  tO [(.str "fields" 394),(.str "kind" 395)]::
  dO [eO P "__module__" 380 (.str "grassnake.store" 187),eO P "__firstlineno__" 384 (.int 31 383),eR P "__init__" 393 140,eR P "__static_attributes__" 396 141,eR P "__dict__" 398 144,eR P "__weakref__" 400 145,eO P "__doc__" 401 .none] 4::
  kO "Object" [(.type "object")] [(.ref 143),(.type "object")] 142 [] #[none,none,some (.str "Object" 373),some (.str "Object" 381),some (.builtin "object.__new__"),some (.bool true)]::
  gO "getset_descriptor" [(.str "__dict__" 397),(.ref 143),(.builtin "function.__dict__"),(.builtin "function.__dict__#set")]::
  gO "getset_descriptor" [(.str "__weakref__" 399),(.ref 143),(.builtin "ExceptionGroup.__weakref__"),.none]::
  gO "super" [(.ref 143),(.ref 143),(.ref 143)]::
  gO "builtin_function_or_method" [(.builtin "object.__init_subclass__"),(.ref 143)]::
  tO []::
  gO "builtin_function_or_method" [(.builtin "type.__prepare__"),(.type "type")]::
  dO [eO P "__module__" 411 (.str "grassnake.store" 187),eO P "__qualname__" 413 (.str "Giver" 412),eO P "__firstlineno__" 415 (.int 36 414),eR P "__init__" 425 161,eR P "__static_attributes__" 431 162] 5::
  tO []::
  nO [(.int 38 0),(.int 4 0),(.ref 160)]::
  gO "code" [(.str "Giver" 406),(.str "Giver" 407),(.str "/claim/cut.py" 408),(.int 36 0),(.int 0 0),(.int 0 0),(.int 0 0),(.int 0 0),(.ref 151),(.bool false),(.int 181 0),(.ref 152),.none,.none,.none,.none,(.int 409 0),(.int 36 0),(.str "/claim/cut.py" 410)]::
  qO [some (.ref 153),some (.ref 3),some (.ref 150),none,some (.str "grassnake.store" 187),none,some (.ref 0)]::
  tO []::
  nO []::
  tO [(.str "self" 419),(.str "name" 420),(.str "frame" 421),(.str "many" 422)]::
  tO []::
  rO "__init__" "Giver.__init__" (iC 0 (tp9 10))::
  cO 160 true "__init__" "Giver.__init__" 416 38 4 423::
  fm1 (iC 0 (tp9 10)) "__init__" "Giver.__init__" 160::
  tO [(.str "frame" 426),(.str "handed" 427),(.str "many" 428),(.str "name" 429),(.str "state" 430)]::
  dO [eO P "__module__" 411 (.str "grassnake.store" 187),eO P "__firstlineno__" 415 (.int 36 414),eR P "__init__" 425 161,eR P "__static_attributes__" 431 162,eR P "__dict__" 433 165,eR P "__weakref__" 435 166,eO P "__doc__" 436 .none] 4::
  kO "Giver" [(.type "object")] [(.ref 164),(.type "object")] 163 [] #[none,none,some (.str "Giver" 404),some (.str "Giver" 412),some (.builtin "object.__new__"),some (.bool true)]::
  gO "getset_descriptor" [(.str "__dict__" 432),(.ref 164),(.builtin "function.__dict__"),(.builtin "function.__dict__#set")]::
  gO "getset_descriptor" [(.str "__weakref__" 434),(.ref 164),(.builtin "ExceptionGroup.__weakref__"),.none]::
  gO "super" [(.ref 164),(.ref 164),(.ref 164)]::
  gO "builtin_function_or_method" [(.builtin "object.__init_subclass__"),(.ref 164)]::
  tO []::
  gO "builtin_function_or_method" [(.builtin "type.__prepare__"),(.type "type")]::
  dO [eO P "__module__" 446 (.str "grassnake.store" 187),eO P "__qualname__" 448 (.str "View" 447),eO P "__firstlineno__" 450 (.int 44 449),eR P "__init__" 459 182,eR P "__static_attributes__" 462 183] 5::
  tO []::
  nO [(.int 46 0),(.int 4 0),(.ref 181)]::
  gO "code" [(.str "View" 441),(.str "View" 442),(.str "/claim/cut.py" 443),(.int 44 0),(.int 0 0),(.int 0 0),(.int 0 0),(.int 0 0),(.ref 172),(.bool false),(.int 181 0),(.ref 173),.none,.none,.none,.none,(.int 444 0),(.int 44 0),(.str "/claim/cut.py" 445)]::
  qO [some (.ref 174),some (.ref 3),some (.ref 171),none,some (.str "grassnake.store" 187),none,some (.ref 0)]::
  tO []::
  nO []::
  tO [(.str "self" 454),(.str "kind" 455),(.str "owner" 456)]::
  tO []::
  rO "__init__" "View.__init__" (iC 0 (tp9 11))::
  cO 181 true "__init__" "View.__init__" 451 46 3 457::
  fm1 (iC 0 (tp9 11)) "__init__" "View.__init__" 181::
  tO [(.str "kind" 460),(.str "owner" 461)]::
  dO [eO P "__module__" 446 (.str "grassnake.store" 187),eO P "__firstlineno__" 450 (.int 44 449),eR P "__init__" 459 182,eR P "__static_attributes__" 462 183,eR P "__dict__" 464 186,eR P "__weakref__" 466 187,eO P "__doc__" 467 .none] 4::
  kO "View" [(.type "object")] [(.ref 185),(.type "object")] 184 [] #[none,none,some (.str "View" 439),some (.str "View" 447),some (.builtin "object.__new__"),some (.bool true)]::
  gO "getset_descriptor" [(.str "__dict__" 463),(.ref 185),(.builtin "function.__dict__"),(.builtin "function.__dict__#set")]::
  gO "getset_descriptor" [(.str "__weakref__" 465),(.ref 185),(.builtin "ExceptionGroup.__weakref__"),.none]::
  gO "super" [(.ref 185),(.ref 185),(.ref 185)]::
  gO "builtin_function_or_method" [(.builtin "object.__init_subclass__"),(.ref 185)]::
  tO []::
  gO "builtin_function_or_method" [(.builtin "type.__prepare__"),(.type "type")]::
  dO [eO P "__module__" 477 (.str "grassnake.store" 187),eO P "__qualname__" 479 (.str "World" 478),eO P "__firstlineno__" 481 (.int 49 480),eR P "__init__" 487 201,eR P "__static_attributes__" 492 202] 5::
  tO []::
  nO [(.int 51 0),(.int 4 0),(.ref 200)]::
  gO "code" [(.str "World" 472),(.str "World" 473),(.str "/claim/cut.py" 474),(.int 49 0),(.int 0 0),(.int 0 0),(.int 0 0),(.int 0 0),(.ref 193),(.bool false),(.int 181 0),(.ref 194),.none,.none,.none,.none,(.int 475 0),(.int 49 0),(.str "/claim/cut.py" 476)]::
  qO [some (.ref 195),some (.ref 3),some (.ref 192),none,some (.str "grassnake.store" 187),none,some (.ref 0)]::
  tO []::
  nO []::
  rO "__init__" "World.__init__" (iC 0 (tp9 12))::
  cO 200 false "__init__" "World.__init__" 482 51 2 485::
  fm1 (iC 0 (tp9 12)) "__init__" "World.__init__" 200::
  tO [(.str "given" 488),(.str "left" 489),(.str "lines" 490),(.str "things" 491)]::
  dO [eO P "__module__" 477 (.str "grassnake.store" 187),eO P "__firstlineno__" 481 (.int 49 480),eR P "__init__" 487 201,eR P "__static_attributes__" 492 202,eR P "__dict__" 494 205,eR P "__weakref__" 496 206,eO P "__doc__" 497 .none] 4::
  kO "World" [(.type "object")] [(.ref 204),(.type "object")] 203 [] #[none,none,some (.str "World" 470),some (.str "World" 478),some (.builtin "object.__new__"),some (.bool true)]::
  gO "getset_descriptor" [(.str "__dict__" 493),(.ref 204),(.builtin "function.__dict__"),(.builtin "function.__dict__#set")]::
  gO "getset_descriptor" [(.str "__weakref__" 495),(.ref 204),(.builtin "ExceptionGroup.__weakref__"),.none]::
  gO "super" [(.ref 204),(.ref 204),(.ref 204)]::
  gO "builtin_function_or_method" [(.builtin "object.__init_subclass__"),(.ref 204)]::
  tO []::
  nO []::
  tO [(.str "world" 503),(.str "thing" 504)]::
  tO []::
  rN 13 "added"::
  oT 214 "added" 500 60 2 505::
  fn1 13 "added" 214::
  tO []::
  nO []::
  tO [(.str "world" 511),(.str "a" 512)]::
  tO []::
  rN 14 "thing_of"::
  oT 221 "thing_of" 508 63 2 513::
  fn1 14 "thing_of" 221::
  tO []::
  nO []::
  tO [(.str "world" 519),(.str "name" 520)]::
  tO []::
  rN 15 "known"::
  oT 228 "known" 516 65 2 521::
  fn1 15 "known" 228::
  tO []::
  nO []::
  tO [(.str "world" 527),(.str "target" 528),(.str "owner" 529)]::
  tO []::
  rN 16 "new_method"::
  oT 235 "new_method" 524 67 3 530::
  fn1 16 "new_method" 235::
  tO []::
  nO []::
  tO [(.str "world" 536),(.str "name" 537),(.str "behind" 538),(.str "fields" 539),(.str "is_given" 540),(.str "own" 541)]::
  tO []::
  rN 17 "new_class"::
  oT 242 "new_class" 533 69 5 542::
  fn1 17 "new_class" 242::
  tO []::
  nO []::
  tO [(.str "world" 548),(.str "a" 549)]::
  tO []::
  rN 18 "is_class"::
  oT 249 "is_class" 545 72 2 550::
  fn1 18 "is_class" 249::
  tO []::
  nO []::
  tO [(.str "world" 556),(.str "a" 557)]::
  tO []::
  rN 19 "is_fault_class"::
  oT 256 "is_fault_class" 553 74 2 558::
  fn1 19 "is_fault_class" 256::
  tO []::
  nO []::
  rN 20 "new_object"::
  oF 261 "new_object" 561 76 2 564::
  fn1 20 "new_object" 261::
  tO []::
  nO []::
  tO [(.str "world" 570),(.str "kind" 571),(.str "owner" 572)]::
  tO []::
  rN 21 "new_view"::
  oT 268 "new_view" 567 79 3 573::
  fn1 21 "new_view" 268::
  tO []::
  nO []::
  tO [(.str "world" 579),(.str "name" 580),(.str "frame" 581)]::
  tO []::
  rN 22 "giver"::
  oT 275 "giver" 576 81 3 582::
  fn1 22 "giver" 275::
  tO []::
  nO []::
  tO [(.str "world" 588),(.str "many" 589)]::
  tO []::
  rN 23 "new_count"::
  oT 282 "new_count" 585 83 2 590::
  fn1 23 "new_count" 282::
  tO []::
  nO []::
  tO [(.str "world" 596),(.str "a" 597)]::
  tO []::
  rN 24 "is_giver"::
  oT 289 "is_giver" 593 85 2 598::
  fn1 24 "is_giver" 289::
  tO []::
  nO []::
  tO [(.str "world" 604),(.str "g" 605)]::
  tO []::
  rN 25 "frame_of"::
  oT 296 "frame_of" 601 87 2 606::
  fn1 25 "frame_of" 296::
  tO []::
  nO []::
  tO [(.str "world" 612),(.str "g" 613)]::
  tO []::
  rN 26 "state_of"::
  oT 303 "state_of" 609 89 2 614::
  fn1 26 "state_of" 303::
  tO []::
  nO []::
  tO [(.str "world" 620),(.str "g" 621),(.str "state" 622),(.str "thing" 623)]::
  tO []::
  rN 27 "set_state"::
  oT 310 "set_state" 617 91 3 624::
  fn1 27 "set_state" 310::
  tO [.none]::
  tO []::
  nO []::
  tO [(.str "world" 632),(.str "name" 633),(.str "word" 634),(.str "fault" 635),(.str "fields" 636)]::
  tO []::
  rN 29 "made"::
  oT 318 "made" 629 95 3 637::
  fD "grassnake.faults" 627 (tp9 29) "made" "made" 318 312::
  tO []::
  nO []::
  tO [(.str "world" 643),(.str "a" 644),(.str "thing" 645)]::
  tO []::
  rN 30 "is_fault"::
  oT 325 "is_fault" 640 101 2 646::
  fn2 30 "is_fault" 325::
  tO []::
  nO []::
  tO [(.str "world" 654),(.str "classes" 655),(.str "name" 656),(.str "one" 657),(.str "fields" 658)]::
  tO []::
  rN 32 "found_in"::
  oT 332 "found_in" 651 105 3 659::
  fn5 32 "found_in" 332::
  tO []::
  nO []::
  tO [(.str "world" 665),(.str "owner" 666),(.str "classes" 667),(.str "name" 668),(.str "found" 669)]::
  tO []::
  rN 33 "found_by_way"::
  oT 339 "found_by_way" 662 111 4 670::
  fn5 33 "found_by_way" 339::
  tO []::
  nO []::
  tO [(.str "world" 676),(.str "owner" 677)]::
  tO []::
  rN 34 "order_of_owner"::
  oT 346 "order_of_owner" 673 116 2 678::
  fn5 34 "order_of_owner" 346::
  tO []::
  nO []::
  tO [(.str "world" 684),(.str "view" 685),(.str "name" 686),(.str "order" 687)]::
  tO []::
  rN 35 "found_of_view"::
  oT 353 "found_of_view" 681 118 3 688::
  fn5 35 "found_of_view" 353::
  tO []::
  nO []::
  tO [(.str "world" 694),(.str "a" 695),(.str "name" 696),(.str "thing" 697),(.str "found" 698)]::
  tO []::
  rN 36 "field_of"::
  oT 360 "field_of" 691 121 3 699::
  fn5 36 "field_of" 360::
  tO []::
  nO []::
  tO [(.str "thing" 705)]::
  tO []::
  rN 37 "can_be_put"::
  oT 367 "can_be_put" 702 133 1 706::
  fn5 37 "can_be_put" 367::
  tO []::
  nO []::
  tO [(.str "world" 712),(.str "a" 713),(.str "name" 714),(.str "v" 715),(.str "thing" 716)]::
  tO []::
  rN 38 "put_field"::
  oT 374 "put_field" 709 135 4 717::
  fn5 38 "put_field" 374::
  tO []::
  nO []::
  tO [(.str "word" 723),(.str "name" 724)]::
  tO []::
  rN 39 "named"::
  oT 381 "named" 720 141 2 725::
  fn5 39 "named" 381::
  tO []::
  nO []::
  tO [(.str "world" 731),(.str "thing" 732)]::
  tO []::
  rN 40 "text_of_thing"::
  oT 388 "text_of_thing" 728 143 2 733::
  fn5 40 "text_of_thing" 388::
  tO []::
  nO []::
  tO [(.str "world" 739),(.str "a" 740)]::
  tO []::
  rN 41 "text_of"::
  oT 395 "text_of" 736 153 2 741::
  fn5 41 "text_of" 395::
  tO [(.str "fault" 748),(.str "KindFault" 749)]::
  dO [eR P "say" 751 399,eR P "take" 754 400,eR P "isa" 757 401,eR P "elder" 760 402,eR P "count" 763 403,eR P "go" 766 404,eR P "throw" 769 405,eR P "shut" 772 406] 8::
  tO [(.int 1 752),(.int 1 753)]::
  tO [(.int 0 755),(.int 0 756)]::
  tO [(.int 2 758),(.int 2 759)]::
  tO [(.int 2 761),(.int 2 762)]::
  tO [(.int 1 764),(.int 1 765)]::
  tO [(.int 1 767),(.int 2 768)]::
  tO [(.int 2 770),(.int 2 771)]::
  tO [(.int 1 773),(.int 1 774)]::
  tO []::
  nO []::
  tO [(.str "world" 787),(.str "f" 788),(.str "values" 789),(.str "target" 790),(.str "lacking" 791)]::
  tO []::
  rN 46 "entered"::
  oT 412 "entered" 784 161 3 792::
  fn3 46 "entered" 412::
  tO []::
  nO []::
  tO [(.str "world" 798),(.str "kind" 799),(.str "values" 800),(.str "made" 801),(.str "start" 802),(.str "is_method" 803)]::
  tO []::
  rN 47 "object_of"::
  oT 419 "object_of" 795 167 3 804::
  fn3 47 "object_of" 419::
  tO []::
  nO []::
  tO [(.str "world" 810),(.str "x" 811)]::
  tO []::
  rN 48 "said"::
  oT 426 "said" 807 178 2 812::
  fn3 48 "said" 426::
  tO []::
  nO []::
  tO [(.str "world" 818),(.str "n" 819)]::
  tO []::
  rN 49 "taken_input"::
  oT 433 "taken_input" 815 181 1 820::
  fn3 49 "taken_input" 433::
  tO []::
  nO []::
  tO [(.str "world" 826),(.str "x" 827),(.str "kind" 828)]::
  tO []::
  rN 50 "is_under"::
  oT 440 "is_under" 823 184 3 829::
  fn3 50 "is_under" 440::
  tO []::
  nO []::
  tO [(.str "world" 835),(.str "x" 836),(.str "kind" 837)]::
  tO []::
  rN 51 "told_isa"::
  oT 447 "told_isa" 832 186 3 838::
  fn3 51 "told_isa" 447::
  tO []::
  nO []::
  tO [(.str "world" 844),(.str "kind" 845),(.str "x" 846)]::
  tO []::
  rN 52 "viewed"::
  oT 454 "viewed" 841 188 3 847::
  fn3 52 "viewed" 454::
  tO []::
  nO []::
  tO [(.str "world" 853),(.str "n" 854)]::
  tO []::
  rN 53 "counted"::
  oT 461 "counted" 850 190 2 855::
  fn3 53 "counted" 461::
  tO []::
  nO []::
  tO [(.str "world" 861),(.str "g" 862),(.str "state" 863)]::
  tO []::
  rN 54 "state_to_go"::
  oT 468 "state_to_go" 858 194 2 864::
  fn3 54 "state_to_go" 468::
  tO []::
  nO []::
  tO [(.str "world" 870),(.str "g" 871),(.str "v" 872),(.str "state" 873)]::
  tO []::
  rN 55 "gone_on"::
  oT 475 "gone_on" 867 197 3 874::
  fn3 55 "gone_on" 475::
  tO []::
  nO []::
  tO [(.str "world" 880),(.str "g" 881),(.str "fault" 882),(.str "state" 883)]::
  tO []::
  rN 56 "thrown"::
  oT 482 "thrown" 877 206 3 884::
  fn3 56 "thrown" 482::
  tO []::
  nO []::
  tO [(.str "world" 890),(.str "g" 891),(.str "state" 892)]::
  tO []::
  rN 57 "shut_down"::
  oT 489 "shut_down" 887 211 2 893::
  fn3 57 "shut_down" 489::
  tO []::
  nO []::
  tO [(.str "world" 899),(.str "name" 900),(.str "values" 901),(.str "bounds" 902)]::
  tO []::
  rN 58 "called_given"::
  oT 496 "called_given" 896 219 3 903::
  fn3 58 "called_given" 496::
  tO []::
  nO []::
  tO [(.str "world" 909),(.str "a" 910),(.str "values" 911),(.str "thing" 912)]::
  tO []::
  rN 59 "called"::
  oT 503 "called" 906 238 3 913::
  fn3 59 "called" 503::
  tO []::
  nO []::
  tO [(.str "world" 919),(.str "g" 920),(.str "state" 921)]::
  tO []::
  rN 60 "asked"::
  oT 510 "asked" 916 247 2 922::
  fn3 60 "asked" 510::
  tO []::
  nO []::
  tO [(.str "world" 928),(.str "g" 929),(.str "count" 930),(.str "n" 931)]::
  tO []::
  rN 61 "counted_on"::
  oT 517 "counted_on" 925 252 2 932::
  fn3 61 "counted_on" 517::
  tO []::
  nO []::
  tO [(.str "_law_script" 940),(.str "_law_k" 941)]::
  tO []::
  rN 63 "_law_cell_at"::
  oT 524 "_law_cell_at" 937 262 2 942::
  fn4 63 "_law_cell_at" 524::
  tO []::
  nO []::
  tO [(.str "_law_cells" 948),(.str "_law_spot" 949),(.str "_law_k" 950),(.str "_law_base" 951)]::
  tO []::
  rN 64 "_law_cell"::
  oT 531 "_law_cell" 945 266 2 952::
  fn4 64 "_law_cell" 531::
  tO []::
  nO []::
  tO [(.str "_law_n" 958),(.str "_law_some" 959)]::
  tO []::
  rN 65 "_law_plain"::
  oT 538 "_law_plain" 955 273 1 960::
  fn4 65 "_law_plain" 538::
  tO []::
  nO []::
  tO [(.str "_law_world" 966),(.str "_law_n" 967),(.str "_law_one" 968),(.str "_law_fault" 969),(.str "_law_g" 970),(.str "_law_some" 971),(.str "_law_word" 972),(.str "_law_values" 973)]::
  tO []::
  rN 66 "_law_wrong"::
  oT 545 "_law_wrong" 963 276 4 974::
  fn4 66 "_law_wrong" 545::
  tO []::
  nO []::
  tO [(.str "_law_world" 980),(.str "_law_one" 981),(.str "_law_v" 982),(.str "_law_found" 983)]::
  tO []::
  rN 67 "_law_go"::
  oT 552 "_law_go" 977 284 4 984::
  fn4 67 "_law_go" 552::
  tO []::
  nO []::
  tO [(.str "_law_world" 990),(.str "_law_one" 991),(.str "_law_found" 992)]::
  tO []::
  rN 68 "_law_counted"::
  oT 559 "_law_counted" 987 290 2 993::
  fn4 68 "_law_counted" 559::
  tO []::
  nO []::
  tO [(.str "_law_world" 999),(.str "_law_one" 1000),(.str "_law_n" 1001),(.str "_law_v" 1002),(.str "_law_found" 1003),(.str "_law_due" 1004),(.str "_law_right" 1005),(.str "_law_values" 1006)]::
  tO []::
  rN 69 "_law_goes_on"::
  oT 566 "_law_goes_on" 996 298 3 1007::
  fn4 69 "_law_goes_on" 566::
  tO []::
  nO []::
  tO [(.str "_law_world" 1013),(.str "_law_one" 1014),(.str "_law_fault" 1015),(.str "_law_found" 1016)]::
  tO []::
  rN 70 "_law_thrown"::
  oT 573 "_law_thrown" 1010 314 3 1017::
  fn4 70 "_law_thrown" 573::
  tO []::
  nO []::
  tO [(.str "_law_world" 1023),(.str "_law_one" 1024),(.str "_law_found" 1025)]::
  tO []::
  rN 71 "_law_shut"::
  oT 580 "_law_shut" 1020 321 2 1026::
  fn4 71 "_law_shut" 580::
  tO []::
  nO []::
  tO [(.str "_law_world" 1032),(.str "_law_givers" 1033),(.str "_law_cells" 1034),(.str "_law_spot" 1035),(.str "_law_n" 1036),(.str "_law_one" 1037),(.str "_law_more" 1038),(.str "_law_fault" 1039)]::
  tO []::
  rN 72 "_law_deed"::
  oT 587 "_law_deed" 1029 329 4 1040::
  fn4 72 "_law_deed" 587::
  tO []::
  nO []::
  tO [(.str "_law_world" 1046),(.str "_law_end" 1047),(.str "_law_g" 1048),(.str "_law_k" 1049)]::
  tO []::
  rN 73 "_law_far_right"::
  oT 594 "_law_far_right" 1043 345 2 1050::
  fn4 73 "_law_far_right" 594::
  tO []::
  nO []::
  rN 74 "law"::
  oF 599 "law" 1053 351 1 1056::
  fn4 74 "law" 599::[]
def oAll (P : Params) (g : Obj) (m : Nat) : List Obj := W.boot_o_0 P :: W.boot_o_1 P :: W.boot_o_2 P :: g :: W.boot_o_4 P :: W.boot_o_5 P :: W.boot_o_6 P :: W.boot_o_7 P :: W.boot_o_8 P :: W.boot_o_9 P :: W.boot_o_10 P :: o11 P :: nT (t12.take m) :: oR P
def ev : List Obj → List Obj
  | [] => []
  | [x] => [x]
  | x :: _ :: r => x :: ev r
def bt : Nat → List Obj → W.BT
  | 0, _ => .nil
  | _, [] => .nil
  | f + 1, x :: r => .node x (bt f (ev r)) (bt f (ev r.tail))
def l0 (P : Params) : List Obj := (oAll P (W.boot_o_3 P) 0).take 15
def l1 (P : Params) : List Obj := (oAll P (dO [eO P "__name__" 165 (.str "grassnake.store" 187),eO P "__doc__" 166 .none,eO P "__package__" 167 .none,eO P "__loader__" 168 (.builtin "__main__.__loader__#opaque"),eO P "__spec__" 169 .none,eR P "__annotations__" 170 6,eR P "__builtins__" 171 4,eO P "__file__" 173 (.str "/claim/cut.py" 172),eO P "__cached__" 174 .none,eR P "NONE" 190 15,eR P "GIVEN_FUNCTIONS" 199 16,eR P "GIVEN_CLASSES" 234 41,eR P "FAULT_FIELDS" 238 42,eR P "Function" 277 59,eR P "Given" 306 80,eR P "Method" 337 101,eR P "Kind" 372 122,eR P "Object" 403 143,eR P "Giver" 438 164,eR P "View" 469 185,eR P "World" 499 204,eR P "added" 507 215,eR P "thing_of" 515 222,eR P "known" 523 229,eR P "new_method" 532 236,eR P "new_class" 544 243] 26) 13).take 244
def l2 (P : Params) : List Obj := (oAll P (dO [eO P "__name__" 165 (.str "grassnake.calls" 744),eO P "__doc__" 166 .none,eO P "__package__" 167 .none,eO P "__loader__" 168 (.builtin "__main__.__loader__#opaque"),eO P "__spec__" 169 .none,eR P "__annotations__" 170 6,eR P "__builtins__" 171 4,eO P "__file__" 173 (.str "/claim/cut.py" 172),eO P "__cached__" 174 .none,eR P "NONE" 190 15,eR P "GIVEN_FUNCTIONS" 199 16,eR P "GIVEN_CLASSES" 234 41,eR P "FAULT_FIELDS" 238 42,eR P "Function" 277 59,eR P "Given" 306 80,eR P "Method" 337 101,eR P "Kind" 372 122,eR P "Object" 403 143,eR P "Giver" 438 164,eR P "View" 469 185,eR P "World" 499 204,eR P "added" 507 215,eR P "thing_of" 515 222,eR P "known" 523 229,eR P "new_method" 532 236,eR P "new_class" 544 243,eR P "is_class" 552 250,eR P "is_fault_class" 560 257,eR P "new_object" 566 262,eR P "new_view" 575 269,eR P "giver" 584 276,eR P "new_count" 592 283,eR P "is_giver" 600 290,eR P "frame_of" 608 297,eR P "state_of" 616 304,eR P "set_state" 626 311,eR P "made" 639 319,eR P "is_fault" 648 326,eR P "found_in" 661 333,eR P "found_by_way" 672 340,eR P "order_of_owner" 680 347,eR P "found_of_view" 690 354,eR P "field_of" 701 361,eR P "can_be_put" 708 368,eR P "put_field" 719 375,eR P "named" 727 382,eR P "text_of_thing" 735 389,eR P "text_of" 743 396,eO P "MOST_COUNT" 747 (.int 10000 746),eR P "KIND_FAULT" 750 397] 50) 35).take 398
def l3 (P : Params) : List Obj := (oAll P (dO [eO P "__name__" 165 (.str "grassnake.calls" 744),eO P "__doc__" 166 .none,eO P "__package__" 167 .none,eO P "__loader__" 168 (.builtin "__main__.__loader__#opaque"),eO P "__spec__" 169 .none,eR P "__annotations__" 170 6,eR P "__builtins__" 171 4,eO P "__file__" 173 (.str "/claim/cut.py" 172),eO P "__cached__" 174 .none,eR P "NONE" 190 15,eR P "GIVEN_FUNCTIONS" 199 16,eR P "GIVEN_CLASSES" 234 41,eR P "FAULT_FIELDS" 238 42,eR P "Function" 277 59,eR P "Given" 306 80,eR P "Method" 337 101,eR P "Kind" 372 122,eR P "Object" 403 143,eR P "Giver" 438 164,eR P "View" 469 185,eR P "World" 499 204,eR P "added" 507 215,eR P "thing_of" 515 222,eR P "known" 523 229,eR P "new_method" 532 236,eR P "new_class" 544 243,eR P "is_class" 552 250,eR P "is_fault_class" 560 257,eR P "new_object" 566 262,eR P "new_view" 575 269,eR P "giver" 584 276,eR P "new_count" 592 283,eR P "is_giver" 600 290,eR P "frame_of" 608 297,eR P "state_of" 616 304,eR P "set_state" 626 311,eR P "made" 639 319,eR P "is_fault" 648 326,eR P "found_in" 661 333,eR P "found_by_way" 672 340,eR P "order_of_owner" 680 347,eR P "found_of_view" 690 354,eR P "field_of" 701 361,eR P "can_be_put" 708 368,eR P "put_field" 719 375,eR P "named" 727 382,eR P "text_of_thing" 735 389,eR P "text_of" 743 396,eO P "MOST_COUNT" 747 (.int 10000 746),eR P "KIND_FAULT" 750 397,eR P "VALUES_OF_GIVEN" 783 398,eR P "entered" 794 413,eR P "object_of" 806 420,eR P "said" 814 427,eR P "taken_input" 822 434,eR P "is_under" 831 441,eR P "told_isa" 840 448,eR P "viewed" 849 455] 58) 42).take 456
def l4 (P : Params) : List Obj := (oAll P (dO [eO P "__name__" 165 (.str "law_grassnake_k13_givers" 935),eO P "__doc__" 166 .none,eO P "__package__" 167 .none,eO P "__loader__" 168 (.builtin "__main__.__loader__#opaque"),eO P "__spec__" 169 .none,eR P "__annotations__" 170 6,eR P "__builtins__" 171 4,eO P "__file__" 173 (.str "/claim/cut.py" 172),eO P "__cached__" 174 .none,eR P "NONE" 190 15,eR P "GIVEN_FUNCTIONS" 199 16,eR P "GIVEN_CLASSES" 234 41,eR P "FAULT_FIELDS" 238 42,eR P "Function" 277 59,eR P "Given" 306 80,eR P "Method" 337 101,eR P "Kind" 372 122,eR P "Object" 403 143,eR P "Giver" 438 164,eR P "View" 469 185,eR P "World" 499 204,eR P "added" 507 215,eR P "thing_of" 515 222,eR P "known" 523 229,eR P "new_method" 532 236,eR P "new_class" 544 243,eR P "is_class" 552 250,eR P "is_fault_class" 560 257,eR P "new_object" 566 262,eR P "new_view" 575 269,eR P "giver" 584 276,eR P "new_count" 592 283,eR P "is_giver" 600 290,eR P "frame_of" 608 297,eR P "state_of" 616 304,eR P "set_state" 626 311,eR P "made" 639 319,eR P "is_fault" 648 326,eR P "found_in" 661 333,eR P "found_by_way" 672 340,eR P "order_of_owner" 680 347,eR P "found_of_view" 690 354,eR P "field_of" 701 361,eR P "can_be_put" 708 368,eR P "put_field" 719 375,eR P "named" 727 382,eR P "text_of_thing" 735 389,eR P "text_of" 743 396,eO P "MOST_COUNT" 747 (.int 10000 746),eR P "KIND_FAULT" 750 397,eR P "VALUES_OF_GIVEN" 783 398,eR P "entered" 794 413,eR P "object_of" 806 420,eR P "said" 814 427,eR P "taken_input" 822 434,eR P "is_under" 831 441,eR P "told_isa" 840 448,eR P "viewed" 849 455,eR P "counted" 857 462,eR P "state_to_go" 866 469,eR P "gone_on" 876 476,eR P "thrown" 886 483,eR P "shut_down" 895 490,eR P "called_given" 905 497,eR P "called" 915 504,eR P "asked" 924 511,eR P "counted_on" 934 518,eR P "_law_cell_at" 944 525,eR P "_law_cell" 954 532,eR P "_law_plain" 962 539,eR P "_law_wrong" 976 546,eR P "_law_go" 986 553,eR P "_law_counted" 995 560,eR P "_law_goes_on" 1009 567,eR P "_law_thrown" 1019 574,eR P "_law_shut" 1028 581,eR P "_law_deed" 1042 588,eR P "_law_far_right" 1052 595,eR P "law" 1058 600] 79) 63).take 601
noncomputable abbrev pr9 : Program := r9.row.prog
noncomputable def env9 : Env := { scope := pr9.main.scope, locals := mainNs, globals := mainNs, cells := [], code := .ref 13, frame := some 14 }
noncomputable abbrev b9 : List Stmt := W.behindTheImports pr9
noncomputable abbrev c9 : Code := .body b9 env9
abbrev z9 : Pos := ⟨0, 0, 0, 0⟩
noncomputable abbrev tf9 : List Frame := [W.topFrame z9]
noncomputable def st9 (l : List Obj) (n t : Nat) (os : OsState) : W.SharedT := ⟨bt 12 l, n, {}, #[], {}, t, os⟩
noncomputable def lA : List Stmt := p9.main.body.take 18
noncomputable def lB : List Stmt := (p9.main.body.drop 18).take 27
noncomputable def lC : List Stmt := (p9.main.body.drop 45).take 8
noncomputable def lD : List Stmt := p9.main.body.drop 53
def K9h (P : Params) : W.Frag := (nat_lit 2,⟨.none,none,.dict #[] 0,#[]⟩)::
  (nat_lit 3,dO [eO P "__name__" 165 (.str "law_grassnake_k13_givers" 935),eO P "__doc__" 166 .none,eO P "__package__" 167 .none,eO P "__loader__" 168 (.builtin "__main__.__loader__#opaque"),eO P "__spec__" 169 .none,eR P "__annotations__" 170 6,eR P "__builtins__" 171 4,eO P "__file__" 173 (.str "/claim/cut.py" 172),eO P "__cached__" 174 .none,eR P "NONE" 190 15,eR P "GIVEN_FUNCTIONS" 199 16,eR P "GIVEN_CLASSES" 234 41,eR P "FAULT_FIELDS" 238 42,eR P "Function" 277 59,eR P "Given" 306 80,eR P "Method" 337 101,eR P "Kind" 372 122,eR P "Object" 403 143,eR P "Giver" 438 164,eR P "View" 469 185,eR P "World" 499 204,eR P "added" 507 215,eR P "thing_of" 515 222,eR P "known" 523 229,eR P "new_method" 532 236,eR P "new_class" 544 243,eR P "is_class" 552 250,eR P "is_fault_class" 560 257,eR P "new_object" 566 262,eR P "new_view" 575 269,eR P "giver" 584 276,eR P "new_count" 592 283,eR P "is_giver" 600 290,eR P "frame_of" 608 297,eR P "state_of" 616 304,eR P "set_state" 626 311,eR P "made" 639 319,eR P "is_fault" 648 326,eR P "found_in" 661 333,eR P "found_by_way" 672 340,eR P "order_of_owner" 680 347,eR P "found_of_view" 690 354,eR P "field_of" 701 361,eR P "can_be_put" 708 368,eR P "put_field" 719 375,eR P "named" 727 382,eR P "text_of_thing" 735 389,eR P "text_of" 743 396,eO P "MOST_COUNT" 747 (.int 10000 746),eR P "KIND_FAULT" 750 397,eR P "VALUES_OF_GIVEN" 783 398,eR P "entered" 794 413,eR P "object_of" 806 420,eR P "said" 814 427,eR P "taken_input" 822 434,eR P "is_under" 831 441,eR P "told_isa" 840 448,eR P "viewed" 849 455,eR P "counted" 857 462,eR P "state_to_go" 866 469,eR P "gone_on" 876 476,eR P "thrown" 886 483,eR P "shut_down" 895 490,eR P "called_given" 905 497,eR P "called" 915 504,eR P "asked" 924 511,eR P "counted_on" 934 518,eR P "_law_cell_at" 944 525,eR P "_law_cell" 954 532,eR P "_law_plain" 962 539,eR P "_law_wrong" 976 546,eR P "_law_go" 986 553,eR P "_law_counted" 995 560,eR P "_law_goes_on" 1009 567,eR P "_law_thrown" 1019 574,eR P "_law_shut" 1028 581,eR P "_law_deed" 1042 588,eR P "_law_far_right" 1052 595,eR P "law" 1058 600] 79)::
  (nat_lit 15,tO [(.str "none" 189)])::
  (nat_lit 16,tO [(.str "say" 191),(.str "take" 192),(.str "isa" 193),(.str "elder" 194),(.str "count" 195),(.str "go" 196),(.str "throw" 197),(.str "shut" 198)])::
  (nat_lit 17,tO [])::
  (nat_lit 18,tO [(.str "Thing" 200),(.ref 17)])::
  (nat_lit 19,tO [(.str "Thing" 202)])::
  (nat_lit 20,tO [(.str "Fault" 201),(.ref 19)])::
  (nat_lit 21,tO [(.str "Fault" 204),(.str "Thing" 205)])::
  (nat_lit 22,tO [(.str "NameFault" 203),(.ref 21)])::
  (nat_lit 23,tO [(.str "Fault" 207),(.str "Thing" 208)])::
  (nat_lit 24,tO [(.str "KindFault" 206),(.ref 23)])::
  (nat_lit 25,tO [(.str "Fault" 210),(.str "Thing" 211)])::
  (nat_lit 26,tO [(.str "NoughtFault" 209),(.ref 25)])::
  (nat_lit 27,tO [(.str "Fault" 213),(.str "Thing" 214)])::
  (nat_lit 28,tO [(.str "GreatFault" 212),(.ref 27)])::
  (nat_lit 29,tO [(.str "Fault" 216),(.str "Thing" 217)])::
  (nat_lit 30,tO [(.str "FieldFault" 215),(.ref 29)])::
  (nat_lit 31,tO [(.str "Fault" 219),(.str "Thing" 220)])::
  (nat_lit 32,tO [(.str "OrderFault" 218),(.ref 31)])::
  (nat_lit 33,tO [(.str "Fault" 222),(.str "Thing" 223)])::
  (nat_lit 34,tO [(.str "EndFault" 221),(.ref 33)])::
  (nat_lit 35,tO [(.str "Fault" 225),(.str "Thing" 226)])::
  (nat_lit 36,tO [(.str "ShutFault" 224),(.ref 35)])::
  (nat_lit 37,tO [(.str "Fault" 228),(.str "Thing" 229)])::
  (nat_lit 38,tO [(.str "DeepFault" 227),(.ref 37)])::
  (nat_lit 39,tO [(.str "NameFault" 231),(.str "Fault" 232),(.str "Thing" 233)])::
  (nat_lit 40,tO [(.str "UnboundFault" 230),(.ref 39)])::
  (nat_lit 41,tO [(.ref 18),(.ref 20),(.ref 22),(.ref 24),(.ref 26),(.ref 28),(.ref 30),(.ref 32),(.ref 34),(.ref 36),(.ref 38),(.ref 40)])::
  (nat_lit 42,tO [(.str "word" 235),(.str "cause" 236),(.str "context" 237)])::
  (nat_lit 58,dO [eO P "__module__" 246 (.str "grassnake.store" 187),eO P "__firstlineno__" 250 (.int 6 249),eR P "__init__" 263 56,eR P "__static_attributes__" 270 57,eR P "__dict__" 272 60,eR P "__weakref__" 274 61,eO P "__doc__" 275 .none] 4)::
  (nat_lit 59,kO "Function" [(.type "object")] [(.ref 59),(.type "object")] 58 [] #[none,none,some (.str "Function" 239),some (.str "Function" 247),some (.builtin "object.__new__"),some (.bool true)])::
  (nat_lit 76,cO 76 true "__init__" "Given.__init__" 290 17 2 295)::
  (nat_lit 77,fm1 (iC 0 (tp9 6)) "__init__" "Given.__init__" 76)::
  (nat_lit 79,dO [eO P "__module__" 285 (.str "grassnake.store" 187),eO P "__firstlineno__" 289 (.int 15 288),eR P "__init__" 297 77,eR P "__static_attributes__" 299 78,eR P "__dict__" 301 81,eR P "__weakref__" 303 82,eO P "__doc__" 304 .none] 4)::
  (nat_lit 80,kO "Given" [(.type "object")] [(.ref 80),(.type "object")] 79 [] #[none,none,some (.str "Given" 278),some (.str "Given" 286),some (.builtin "object.__new__"),some (.bool true)])::
  (nat_lit 100,dO [eO P "__module__" 314 (.str "grassnake.store" 187),eO P "__firstlineno__" 318 (.int 19 317),eR P "__init__" 327 98,eR P "__static_attributes__" 330 99,eR P "__dict__" 332 102,eR P "__weakref__" 334 103,eO P "__doc__" 335 .none] 4)::
  (nat_lit 101,kO "Method" [(.type "object")] [(.ref 101),(.type "object")] 100 [] #[none,none,some (.str "Method" 307),some (.str "Method" 315),some (.builtin "object.__new__"),some (.bool true)])::
  (nat_lit 118,cO 118 true "__init__" "Kind.__init__" 350 26 5 358)::
  (nat_lit 119,fm1 (iC 0 (tp9 8)) "__init__" "Kind.__init__" 118)::
  (nat_lit 121,dO [eO P "__module__" 345 (.str "grassnake.store" 187),eO P "__firstlineno__" 349 (.int 24 348),eR P "__init__" 360 119,eR P "__static_attributes__" 365 120,eR P "__dict__" 367 123,eR P "__weakref__" 369 124,eO P "__doc__" 370 .none] 4)::
  (nat_lit 122,kO "Kind" [(.type "object")] [(.ref 122),(.type "object")] 121 [] #[none,none,some (.str "Kind" 338),some (.str "Kind" 346),some (.builtin "object.__new__"),some (.bool true)])::
  (nat_lit 139,cO 139 true "__init__" "Object.__init__" 385 33 3 391)::
  (nat_lit 140,fm1 (iC 0 (tp9 9)) "__init__" "Object.__init__" 139)::
  (nat_lit 142,dO [eO P "__module__" 380 (.str "grassnake.store" 187),eO P "__firstlineno__" 384 (.int 31 383),eR P "__init__" 393 140,eR P "__static_attributes__" 396 141,eR P "__dict__" 398 144,eR P "__weakref__" 400 145,eO P "__doc__" 401 .none] 4)::
  (nat_lit 143,kO "Object" [(.type "object")] [(.ref 143),(.type "object")] 142 [] #[none,none,some (.str "Object" 373),some (.str "Object" 381),some (.builtin "object.__new__"),some (.bool true)])::
  (nat_lit 160,cO 160 true "__init__" "Giver.__init__" 416 38 4 423)::
  (nat_lit 161,fm1 (iC 0 (tp9 10)) "__init__" "Giver.__init__" 160)::
  (nat_lit 163,dO [eO P "__module__" 411 (.str "grassnake.store" 187),eO P "__firstlineno__" 415 (.int 36 414),eR P "__init__" 425 161,eR P "__static_attributes__" 431 162,eR P "__dict__" 433 165,eR P "__weakref__" 435 166,eO P "__doc__" 436 .none] 4)::
  (nat_lit 164,kO "Giver" [(.type "object")] [(.ref 164),(.type "object")] 163 [] #[none,none,some (.str "Giver" 404),some (.str "Giver" 412),some (.builtin "object.__new__"),some (.bool true)])::
  (nat_lit 184,dO [eO P "__module__" 446 (.str "grassnake.store" 187),eO P "__firstlineno__" 450 (.int 44 449),eR P "__init__" 459 182,eR P "__static_attributes__" 462 183,eR P "__dict__" 464 186,eR P "__weakref__" 466 187,eO P "__doc__" 467 .none] 4)::
  (nat_lit 185,kO "View" [(.type "object")] [(.ref 185),(.type "object")] 184 [] #[none,none,some (.str "View" 439),some (.str "View" 447),some (.builtin "object.__new__"),some (.bool true)])::
  (nat_lit 200,cO 200 false "__init__" "World.__init__" 482 51 2 485)::
  (nat_lit 201,fm1 (iC 0 (tp9 12)) "__init__" "World.__init__" 200)::
  (nat_lit 203,dO [eO P "__module__" 477 (.str "grassnake.store" 187),eO P "__firstlineno__" 481 (.int 49 480),eR P "__init__" 487 201,eR P "__static_attributes__" 492 202,eR P "__dict__" 494 205,eR P "__weakref__" 496 206,eO P "__doc__" 497 .none] 4)::
  (nat_lit 204,kO "World" [(.type "object")] [(.ref 204),(.type "object")] 203 [] #[none,none,some (.str "World" 470),some (.str "World" 478),some (.builtin "object.__new__"),some (.bool true)])::
  (nat_lit 214,oT 214 "added" 500 60 2 505)::
  (nat_lit 215,fn1 13 "added" 214)::
  (nat_lit 221,oT 221 "thing_of" 508 63 2 513)::
  (nat_lit 222,fn1 14 "thing_of" 221)::
  (nat_lit 228,oT 228 "known" 516 65 2 521)::
  (nat_lit 229,fn1 15 "known" 228)::
  (nat_lit 242,oT 242 "new_class" 533 69 5 542)::
  (nat_lit 243,fn1 17 "new_class" 242)::
  (nat_lit 249,oT 249 "is_class" 545 72 2 550)::
  (nat_lit 250,fn1 18 "is_class" 249)::
  (nat_lit 256,oT 256 "is_fault_class" 553 74 2 558)::
  (nat_lit 257,fn1 19 "is_fault_class" 256)::
  (nat_lit 261,oF 261 "new_object" 561 76 2 564)::
  (nat_lit 262,fn1 20 "new_object" 261)::
  (nat_lit 275,oT 275 "giver" 576 81 3 582)::
  (nat_lit 276,fn1 22 "giver" 275)::
  (nat_lit 282,oT 282 "new_count" 585 83 2 590)::
  (nat_lit 283,fn1 23 "new_count" 282)::
  (nat_lit 289,oT 289 "is_giver" 593 85 2 598)::
  (nat_lit 290,fn1 24 "is_giver" 289)::
  (nat_lit 296,oT 296 "frame_of" 601 87 2 606)::
  (nat_lit 297,fn1 25 "frame_of" 296)::
  (nat_lit 303,oT 303 "state_of" 609 89 2 614)::
  (nat_lit 304,fn1 26 "state_of" 303)::
  (nat_lit 310,oT 310 "set_state" 617 91 3 624)::
  (nat_lit 311,fn1 27 "set_state" 310)::
  (nat_lit 312,tO [.none])::
  (nat_lit 318,oT 318 "made" 629 95 3 637)::
  (nat_lit 319,fD "grassnake.faults" 627 (tp9 29) "made" "made" 318 312)::
  (nat_lit 325,oT 325 "is_fault" 640 101 2 646)::
  (nat_lit 326,fn2 30 "is_fault" 325)::
  (nat_lit 397,tO [(.str "fault" 748),(.str "KindFault" 749)])::
  (nat_lit 398,dO [eR P "say" 751 399,eR P "take" 754 400,eR P "isa" 757 401,eR P "elder" 760 402,eR P "count" 763 403,eR P "go" 766 404,eR P "throw" 769 405,eR P "shut" 772 406] 8)::
  (nat_lit 399,tO [(.int 1 752),(.int 1 753)])::
  (nat_lit 400,tO [(.int 0 755),(.int 0 756)])::
  (nat_lit 401,tO [(.int 2 758),(.int 2 759)])::
  (nat_lit 402,tO [(.int 2 761),(.int 2 762)])::
  (nat_lit 403,tO [(.int 1 764),(.int 1 765)])::
  (nat_lit 404,tO [(.int 1 767),(.int 2 768)])::
  (nat_lit 405,tO [(.int 2 770),(.int 2 771)])::
  (nat_lit 406,tO [(.int 1 773),(.int 1 774)])::
  (nat_lit 461,oT 461 "counted" 850 190 2 855)::
  (nat_lit 462,fn3 53 "counted" 461)::
  (nat_lit 468,oT 468 "state_to_go" 858 194 2 864)::
  (nat_lit 469,fn3 54 "state_to_go" 468)::
  (nat_lit 475,oT 475 "gone_on" 867 197 3 874)::
  (nat_lit 476,fn3 55 "gone_on" 475)::
  (nat_lit 482,oT 482 "thrown" 877 206 3 884)::
  (nat_lit 483,fn3 56 "thrown" 482)::
  (nat_lit 489,oT 489 "shut_down" 887 211 2 893)::
  (nat_lit 490,fn3 57 "shut_down" 489)::
  (nat_lit 496,oT 496 "called_given" 896 219 3 903)::
  (nat_lit 497,fn3 58 "called_given" 496)::
  (nat_lit 503,oT 503 "called" 906 238 3 913)::
  (nat_lit 504,fn3 59 "called" 503)::
  (nat_lit 510,oT 510 "asked" 916 247 2 922)::
  (nat_lit 511,fn3 60 "asked" 510)::
  (nat_lit 517,oT 517 "counted_on" 925 252 2 932)::
  (nat_lit 518,fn3 61 "counted_on" 517)::
  (nat_lit 524,oT 524 "_law_cell_at" 937 262 2 942)::
  (nat_lit 525,fn4 63 "_law_cell_at" 524)::
  (nat_lit 531,oT 531 "_law_cell" 945 266 2 952)::
  (nat_lit 532,fn4 64 "_law_cell" 531)::
  (nat_lit 538,oT 538 "_law_plain" 955 273 1 960)::
  (nat_lit 539,fn4 65 "_law_plain" 538)::
  (nat_lit 545,oT 545 "_law_wrong" 963 276 4 974)::
  (nat_lit 546,fn4 66 "_law_wrong" 545)::
  (nat_lit 552,oT 552 "_law_go" 977 284 4 984)::
  (nat_lit 553,fn4 67 "_law_go" 552)::
  (nat_lit 559,oT 559 "_law_counted" 987 290 2 993)::
  (nat_lit 560,fn4 68 "_law_counted" 559)::
  (nat_lit 566,oT 566 "_law_goes_on" 996 298 3 1007)::
  (nat_lit 567,fn4 69 "_law_goes_on" 566)::
  (nat_lit 573,oT 573 "_law_thrown" 1010 314 3 1017)::
  (nat_lit 574,fn4 70 "_law_thrown" 573)::
  (nat_lit 580,oT 580 "_law_shut" 1020 321 2 1026)::
  (nat_lit 581,fn4 71 "_law_shut" 580)::
  (nat_lit 587,oT 587 "_law_deed" 1029 329 4 1040)::
  (nat_lit 588,fn4 72 "_law_deed" 587)::
  (nat_lit 594,oT 594 "_law_far_right" 1043 345 2 1050)::
  (nat_lit 595,fn4 73 "_law_far_right" 594)::
  (nat_lit 599,oF 599 "law" 1053 351 1 1056)::
  (nat_lit 600,fn4 74 "law" 599)::[]
noncomputable def asK9h : List Nat := [2,3,15,16,17,18,19,20,21,22,23,24,25,26,27,28,29,30,31,32,33,34,35,36,37,38,39,40,41,42,58,59,76,77,79,80,100,101,118,119,121,122,139,140,142,143,160,161,163,164,184,185,200,201,203,204,214,215,221,222,228,229,242,243,249,250,256,257,261,262,275,276,282,283,289,290,296,297,303,304,310,311,312,318,319,325,326,397,398,399,400,401,402,403,404,405,406,461,462,468,469,475,476,482,483,489,490,496,497,503,504,510,511,517,518,524,525,531,532,538,539,545,546,552,553,559,560,566,567,573,574,580,581,587,588,594,595,599,600]
abbrev lo9 : List Str := ["made", "VALUES_OF_GIVEN"]
theorem eK9h (P : Params) : asK9h = (K9h P).map (·.1) := by kernel_rfl
noncomputable def q9 : Program := { p9 with main := { p9.main with body := [1,2,3,4,5,6,7,8,9,10,11,12,13,14,15,16,17,18,19,20,21,22,23,24,25,26,27,30,32,33,34,35,36,37,38,39,40,41,43,44,45,46,47,48,49,50,51,52,53,54,55,56,57,58,59,60,61,63,64,65,66,67,68,69,70,71,72,73,74].filterMap fun i => p9.main.body[i]? } }
theorem said9 : r9.wellSaid = true := by decide +kernel
end
end GS
set_option Elab.async false
set_option linter.all false
set_option maxRecDepth 100000
set_option maxHeartbeats 4000000
namespace GS
open PySem
theorem pre9 (w : World) (os : OsState) : W.topGo treeTable pr9 w 11 (some (.ref 6)) 12 ⟨W.boot_heap w.params, #[], W.boot_drawn, W.boot_toks, os⟩ (W.topStub pr9) = some (⟨⟨(l0 w.params).toArray, {}⟩, #[], {}, 187, os⟩, ⟨denote treeTable c9, c9, z9, tf9⟩) := by kernel_rfl
theorem blk9 (w : World) (os : OsState) : W.segRun treeTable pr9 w 11 (some (.ref 6)) 1 1 ⟨⟨(l0 w.params).toArray, {}⟩, #[], {}, 187, os⟩ (W.blockOf b9 env9 c9 z9 tf9) = some (.next, (st9 (l0 w.params) 15 187 os).abs, c9, z9) := by kernel_rfl
theorem pA9 (w : World) (os : OsState) : W.segRunT treeTable pr9 w 11 (some (.ref 6)) 1 2109 (st9 (l0 w.params) 15 187 os) (W.piecesOf lA env9 c9 z9 tf9) = some (.next, st9 (l1 w.params) 244 545 os, c9, ⟨69, 0, 71, 83⟩) := by kernel_rfl
theorem pB9 (w : World) (os : OsState) : W.segRunT treeTable pr9 w 11 (some (.ref 6)) 1 728 (st9 (l1 w.params) 244 545 os) (W.piecesOf lB env9 c9 ⟨69, 0, 71, 83⟩ tf9) = some (.next, st9 (l2 w.params) 398 751 os, c9, ⟨159, 0, 159, 10⟩) := by kernel_rfl
def qC (os : OsState) (w : World) : Prop := W.segRunT treeTable pr9 w 11 (some (.ref 6)) 1 375 (st9 (l2 w.params) 398 751 os) (W.piecesOf lC env9 c9 ⟨159, 0, 159, 10⟩ tf9) = some (.next, st9 (l3 w.params) 456 850 os, c9, ⟨188, 0, 189, 90⟩)
theorem pCf (os : OsState) (w : World) : qC os (w.withFollow "special-get-raises" false) := by unfold qC; kernel_rfl
theorem pCt (os : OsState) (w : World) : qC os (w.withFollow "special-get-raises" true) := by unfold qC; kernel_rfl
theorem pD9 (w : World) (os : OsState) : W.segRunT treeTable pr9 w 11 (some (.ref 6)) 1 678 (st9 (l3 w.params) 456 850 os) (W.piecesOf lD env9 c9 ⟨188, 0, 189, 90⟩ tf9) = some (.next, st9 (l4 w.params) 601 1059 os, c9, ⟨351, 0, 372, 138⟩) := by kernel_rfl
theorem fin9 (w : World) (os : OsState) : W.topRun treeTable pr9 w 11 (some (.ref 6)) 2 (st9 (l4 w.params) 601 1059 os).abs ⟨W.doneF .next, c9, ⟨351, 0, 372, 138⟩, tf9⟩ = some ⟨⟨(l4 w.params).toArray, {}⟩, #[], {}, 1059, os⟩ := by kernel_rfl
theorem eb9 : b9 = lA ++ (lB ++ (lC ++ (lD ++ []))) := by kernel_rfl
theorem run9 (w : World) (os : OsState) : W.topRun treeTable pr9 w 11 (some (.ref 6)) (12 + (1 + (2109 + (728 + (375 + (678 + 2)))))) ⟨W.boot_heap w.params, #[], W.boot_drawn, W.boot_toks, os⟩ (W.topStub pr9) = some ⟨⟨(l4 w.params).toArray, {}⟩, #[], {}, 1059, os⟩ := by
  refine W.go_top (pre9 w os) (W.piece_block (blk9 w os) ?_)
  have e : W.restOf b9 env9 c9 z9 tf9 = W.restOf (lA ++ (lB ++ (lC ++ (lD ++ [])))) env9 c9 z9 tf9 := congrArg (fun l => W.restOf l env9 c9 z9 tf9) eb9
  rw [e]
  exact W.piece_app (W.segRun_of (pA9 w os)) (W.piece_app (W.segRun_of (pB9 w os)) (W.piece_app (W.segRun_of (W.byRow2 "special-get-raises" (pCf os) (pCt os) w)) (W.piece_app (W.segRun_of (pD9 w os)) (W.piece_nil (fin9 w os)))))
theorem left9 : W.LeftO pr9 q9 lo9 (fun s => W.xlAt q9 [] s && W.recOk (W.RowW.records (W.OpenRow.toRowW (W.OpenLaw.row r9))) s) (W.Hook.obs (W.kHook K9h asK9h eK9h)) (W.Hook.val (W.kHook K9h asK9h eK9h)) 7880 :=
  W.LeftO.of_pieces (M := 12 + (1 + (2109 + (728 + (375 + (678 + 2)))))) (H₀ := fun P => W.boot_heap P) (H₁ := fun P => ⟨(l4 P).toArray, {}⟩) (W.boot_open (by kernel_rfl) rfl (fun s => by rfl)) (fun w => by kernel_rfl) run9 rfl (fun w => by kernel_rfl)
end GS
set_option Elab.async false
set_option linter.all false
set_option maxRecDepth 100000
/-! THE HAND LAYER, for ints, bools, texts, own classes, LISTS and tuples (index, slices, in, append, pop ..), calls, loops. Paste it whole ahead of your own text; what your proof does not reach may be deleted. -/
namespace L2
open PySem PySem.Spec PyProof.Rows

/-- a key: an int or a str -/
abbrev Key := Sum Int Str
def keyIs : Key → Value → Bool
  | .inl k, v => Value.isInt k v
  | .inr x, v => Value.isStrOf x v
def keyH (w : World) : Key → Int
  | .inl k => hashInt k
  | .inr x => hashStr w x
theorem keyIs_shape : ∀ {k : Key} {v : Value}, keyIs k v = true → (∃ i t, k = Sum.inl i ∧ v = Value.int i t) ∨ (∃ x t, k = Sum.inr x ∧ v = Value.str x t)
  | .inl i, v, h => by
    obtain ⟨t, e⟩ := Value.isInt_shape (k := i) (v := v) h
    exact .inl ⟨i, t, rfl, e⟩
  | .inr x, v, h => by
    obtain ⟨t, e⟩ := Value.isStrOf_shape (x := x) (v := v) h
    exact .inr ⟨x, t, rfl, e⟩
theorem keyIs_int (i : Int) (t : Tok) : keyIs (.inl i) (.int i t) = true := by simp [keyIs, Value.isInt]
theorem keyIs_str (x : Str) (t : Tok) : keyIs (.inr x) (.str x t) = true := by simp [keyIs, Value.isStrOf]
theorem key_ll (a b : Int) : decide ((Sum.inl a : Key) = Sum.inl b) = (a == b) := by
  by_cases e : a = b
  · subst e; simp
  · have h : ¬ (Sum.inl a : Key) = Sum.inl b := fun q => e (Sum.inl.inj q)
    rw [decide_eq_false h]
    exact (beq_eq_false_iff_ne.mpr e).symm
theorem key_rr (a b : Str) : decide ((Sum.inr a : Key) = Sum.inr b) = decide (a = b) := by
  by_cases e : a = b
  · subst e; simp
  · have h : ¬ (Sum.inr a : Key) = Sum.inr b := fun q => e (Sum.inr.inj q)
    rw [decide_eq_false h, decide_eq_false e]
theorem key_lr (a : Int) (b : Str) : decide ((Sum.inl a : Key) = Sum.inr b) = false := decide_eq_false (fun q => nomatch q)
theorem key_rl (a : Str) (b : Int) : decide ((Sum.inr a : Key) = Sum.inl b) = false := decide_eq_false (fun q => nomatch q)

def mixKind (prog : Program) (w : World) : PySem.KeyKind prog w Key where
  is := keyIs
  hash := keyH w
  inj := fun v a b ha hb => by
    rcases keyIs_shape ha with ⟨i, t, rfl, rfl⟩ | ⟨x, t, rfl, rfl⟩
    · rcases keyIs_shape hb with ⟨j, u, rfl, e⟩ | ⟨y, u, rfl, e⟩
      · injection e with e1 _; rw [e1]
      · exact nomatch e
    · rcases keyIs_shape hb with ⟨j, u, rfl, e⟩ | ⟨y, u, rfl, e⟩
      · exact nomatch e
      · injection e with e1 _; rw [e1]
  byValue := fun k v h => by
    rcases keyIs_shape h with ⟨i, t, rfl, rfl⟩ | ⟨x, t, rfl, rfl⟩ <;> rfl
  pyHash := fun hv h => by
    rcases keyIs_shape hv with ⟨i, t, rfl, rfl⟩ | ⟨x, t, rfl, rfl⟩
    · exact wpAny_pyHash_int h
    · exact wpAny_pyHash_str h
  eqBool := fun hu hv h => by
    rcases keyIs_shape hu with ⟨i, t, rfl, rfl⟩ | ⟨x, t, rfl, rfl⟩
    · rcases keyIs_shape hv with ⟨j, u, rfl, rfl⟩ | ⟨y, u, rfl, rfl⟩
      · rw [key_ll] at h; exact wpAny_eqBool_int h
      · rw [key_lr] at h; exact SeqAt.EqAt.int_str i t y u _ _ _ _ h
    · rcases keyIs_shape hv with ⟨j, u, rfl, rfl⟩ | ⟨y, u, rfl, rfl⟩
      · rw [key_rl] at h; exact SeqAt.EqAt.str_int x t j u _ _ _ _ h
      · rw [key_rr] at h; exact wpAny_eqBool_str h
  «strs» := fun k x t v h => by
    rcases keyIs_shape h with ⟨i, u, rfl, e⟩ | ⟨y, u, rfl, e⟩
    · exact nomatch e
    · injection e with e1 _
      subst e1
      cases v <;> rfl

theorem mixKind_int (prog : Program) (w : World) (i : Int) (t : Tok) : (mixKind prog w).is (.inl i) (.int i t) = true := keyIs_int i t
theorem mixKind_str (prog : Program) (w : World) (x : Str) (t : Tok) : (mixKind prog w).is (.inr x) (.str x t) = true := keyIs_str x t
end L2

namespace L2
open PySem PySem.Spec PyProof.Rows

/-- a value, without the heap -/
inductive V where
  | non | bl (b : Bool) | int (i : Int) | str (x : Str) | byt (b : Array UInt8) | flt (b : UInt64) | ref (a : Addr) | ty (n : String)
  deriving DecidableEq

def RelV : V → Value → Prop
  | .non, u => u = Value.none
  | .bl b, u => u = Value.bool b
  | .int i, u => ∃ t, u = Value.int i t
  | .str x, u => ∃ t, u = Value.str x t
  | .byt b, u => ∃ t, u = Value.bytes b t
  | .flt b, u => ∃ t, u = Value.float b t
  | .ref a, u => u = Value.ref a
  | .ty n, u => u = Value.type n

abbrev Vals : List V → List Value → Prop := Paired RelV
theorem Vals.length {xs : List V} {us : List Value} (r : Vals xs us) : xs.length = us.length := Paired.length r
theorem Vals.get : ∀ {xs : List V} {us : List Value} {i : Nat} {x : V}, Vals xs us → xs[i]? = some x → ∃ u, us[i]? = some u ∧ RelV x u
  | _, _, _, _, .nil, e => by simp at e
  | _, _, 0, _, .cons r _, e => by simp at e; subst e; exact ⟨_, rfl, r⟩
  | _, _, i + 1, x, .cons _ t, e => by
    obtain ⟨u, h1, h2⟩ := Vals.get (i := i) (x := x) t (by simpa using e)
    exact ⟨u, by simpa using h1, h2⟩
theorem Vals.set {x : V} {u : Value} (r : RelV x u) : ∀ {xs : List V} {us : List Value} (i : Nat), Vals xs us → Vals (xs.set i x) (us.set i u)
  | _, _, _, .nil => .nil
  | _, _, 0, .cons _ t => .cons r t
  | _, _, i + 1, .cons q t => .cons q (Vals.set r i t)
theorem Vals.append : ∀ {xs ys : List V} {us ws : List Value}, Vals xs us → Vals ys ws → Vals (xs ++ ys) (us ++ ws)
  | _, _, _, _, .nil, s => s
  | _, _, _, _, .cons r t, s => .cons r (Vals.append t s)
theorem Vals.take : ∀ {xs : List V} {us : List Value} (n : Nat), Vals xs us → Vals (xs.take n) (us.take n)
  | _, _, 0, _ => .nil
  | _, _, _ + 1, .nil => .nil
  | _, _, n + 1, .cons r t => .cons r (Vals.take n t)
theorem Vals.drop : ∀ {xs : List V} {us : List Value} (n : Nat), Vals xs us → Vals (xs.drop n) (us.drop n)
  | _, _, 0, r => r
  | _, _, _ + 1, .nil => .nil
  | _, _, n + 1, .cons _ t => Vals.drop n t

def RelO : Option V → Option Value → Prop
  | some v, some u => RelV v u
  | none, none => True
  | _, _ => False
def KV {κ : Type} : List (κ × V) → List (κ × Value) → Prop := Paired fun (p : κ × V) (q : κ × Value) => p.1 = q.1 ∧ RelV p.2 q.2

/-- a key of a dict (00_mix): an int or a text -/
def kV : Key → V
  | .inl i => .int i
  | .inr x => .str x

/-- what stands at a tracked address -/
inductive HO where
  /-- a list -/
  | lst (xs : List V)
  /-- a tuple (never changes) -/
  | tup (xs : List V)
  /-- a dict whose keys are ints and texts; one whose keys are tuples of ints and texts (the empty one is both) -/
  | dK (kvs : List (Key × V)) | dT (kvs : List (List Key × V))
  /-- a set of ints: its members, its size -/
  | set (S : Int → Bool) (n : Nat)
  /-- an instance of the class at C, its dict at dx, its attributes -/
  | ins (C dx : Addr) (fs : List (Str × V))
  /-- the dict of the instance at x -/
  | own (x : Addr)
  /-- the dict of an exception -/
  | xd (fs : List (Str × V))
  /-- a bound method, f of x -/
  | met (f x : Addr)
  /-- a range object lo, lo + 1, .. below hi -/
  | rng (lo hi : Int)
  /-- a thing that is known to the object (the script; a dict while a loop walks it): read, never written while it is so -/
  | frz (o : Obj) (u : HO)
  /-- a code object's table -/
  | tbl (ps : Array Value)
  /-- any other thing, by what is true of its one object (a def of one's own: SetO a S n := HO.ext fun h => ..) -/
  | ext (φ : Heap → Prop)

abbrev Hp := Addr → Option HO
def upd (H : Hp) (a : Addr) (o : HO) : Hp := fun b => if b = a then some o else H b
theorem upd_same {H : Hp} {a : Addr} {o : HO} : upd H a o a = some o := by unfold upd; rw [if_pos rfl]
theorem upd_ne {H : Hp} {a b : Addr} {o : HO} (h : b ≠ a) : upd H a o b = H b := by unfold upd; rw [if_neg h]
/-- two objects of different content stand apart -/
theorem ne_of {H : Hp} {a b : Addr} {o u : HO} (h : H a = some o) (h' : H b = some u) (d : o ≠ u) : a ≠ b := by
  intro e; subst e; rw [h] at h'; exact d (Option.some.inj h')
theorem ne_of_none {H : Hp} {a b : Addr} {o : HO} (h : H a = some o) (h' : H b = none) : a ≠ b := by
  intro e; subst e; rw [h] at h'; cases h'

section
variable (P : Program) (w : World)
def ObjOk (H : Hp) (h : Heap) (a : Addr) : HO → Prop
  | .lst xs => xs.length ≤ sizeLine ∧ ∃ (its : List Value) (n : Nat), Vals xs its ∧ h.get? a = some { cls := .type "list", data := .seq its.toArray n }
  | .tup xs => xs.length ≤ sizeLine ∧ ∃ its : List Value, Vals xs its ∧ IsTup h a its.toArray
  | .dK kvs => kvs.length ≤ sizeLine ∧ (a == sysModules) = false ∧ ∃ vs, KV kvs vs ∧ h.DictOf (mixKind P w) a vs
  | .dT kvs => kvs.length ≤ sizeLine ∧ (a == sysModules) = false ∧ ∃ xs : List (List Key × Addr × Value),
      Paired (fun (p : List Key × V) (q : List Key × Addr × Value) => p.1 = q.1 ∧ H q.2.1 = some (.tup (p.1.map kV)) ∧ RelV p.2 q.2.2) kvs xs ∧
      ∃ o es ep, h.get? a = some o ∧ o.ExactDict ∧ o.data = .dict es ep ∧ es.toList = xs.map (entryOfKey (tupleKind (mixKind P w))) ∧ (xs.map (·.1)).Nodup
  | .set S n => h.SetOf (intKind P w) a S n
  | .ins C dx fs => H dx = some (.own a) ∧ fs.length ≤ 1000 ∧ dx ≠ a ∧ h.get? a = some (PySem.W.instObj C dx) ∧
      ∃ mA, h.Ns1 dx mA ∧ (∀ f, RelO (fs.lookup f) (mA f)) ∧ PySem.Within mA (fs.map (·.1))
  | .own _ => ∃ o, h.get? a = some o
  | .xd fs => ∃ mA, h.Ns1 a mA ∧ ∀ f, RelO (fs.lookup f) (mA f)
  | .rng lo hi => ∃ t u v, h.get? a = some { cls := .type "range", data := .fields #[.int lo t, .int hi u, .int 1 v] }
  | .frz o u => h.get? a = some o ∧ ObjOk H h a u
  | .tbl ps => h.get? a = some { cls := .none, data := .fields ps }
  | .met f x => h.get? a = some (PySem.W.methodObj (.ref f) (.ref x))
  | .ext φ => φ h ∧ (∃ o, h.get? a = some o) ∧ ∀ h1 h2 : Heap, φ h1 → (∀ o, h1.get? a = some o → h2.get? a = some o) → φ h2
/-- the abstract heap is held -/
def HOk (H : Hp) (h : Heap) : Prop := ∀ a o, H a = some o → ObjOk P w H h a o
end

section
variable {P : Program} {w : World} {H H' : Hp} {h h' : Heap} {a : Addr} {o : HO}
theorem ObjOk.lt (x : ObjOk P w H h a o) : a < h.objs.size := by
  cases o with
  | lst xs => obtain ⟨_, _, _, _, e⟩ := x; exact Heap.lt_size e
  | tup xs => obtain ⟨_, _, _, p⟩ := x; exact p.lt
  | dK kvs => obtain ⟨_, _, _, _, o, _, _, e, _⟩ := x; exact Heap.lt_size e
  | dT kvs => obtain ⟨_, _, _, _, o, _, _, e, _⟩ := x; exact Heap.lt_size e
  | set S n => obtain ⟨o, _, _, _, e, _⟩ := x; exact Heap.lt_size e
  | ins C dx fs => obtain ⟨_, _, _, e, _⟩ := x; exact Heap.lt_size e
  | own y => obtain ⟨_, e⟩ := x; exact Heap.lt_size e
  | xd fs => obtain ⟨_, ⟨_, _, _, e, _⟩, _⟩ := x; exact Heap.lt_size e
  | rng lo hi => obtain ⟨_, _, _, e⟩ := x; exact Heap.lt_size e
  | frz ob u => obtain ⟨e, _⟩ := x; exact Heap.lt_size e
  | tbl ps => exact Heap.lt_size (show h.get? a = some _ from x)
  | met f y => exact Heap.lt_size (show h.get? a = some _ from x)
  | ext φ => obtain ⟨_, ⟨_, e⟩, _⟩ := x; exact Heap.lt_size e
theorem Paired.mapP {α β : Type} {F G : α → β → Prop} : ∀ {l₁ : List α} {l₂ : List β}, Paired F l₁ l₂ → (∀ a b, F a b → G a b) → Paired G l₁ l₂
  | _, _, .nil, _ => .nil
  | _, _, .cons r t, f => .cons (f _ _ r) (Paired.mapP t f)
/-- what an object's description leans on: its own object, its own dict, the tuples -/
theorem ObjOk.stay (x : ObjOk P w H h a o) (k : ∀ b u, (b = a ∨ H b = some (.own a)) → h.get? b = some u → h'.get? b = some u)
    (ho : ∀ b, H b = some (.own a) → H' b = some (.own a)) (ht : ∀ b xs, H b = some (.tup xs) → H' b = some (.tup xs)) : ObjOk P w H' h' a o := by
  induction o with
  | lst xs => obtain ⟨z, its, n, r, e⟩ := x; exact ⟨z, its, n, r, k _ _ (.inl rfl) e⟩
  | tup xs => obtain ⟨z, its, r, ob, e, c⟩ := x; exact ⟨z, its, r, ob, k _ _ (.inl rfl) e, c⟩
  | dK kvs => obtain ⟨z, y, vs, r, ob, es, ep, e, c⟩ := x; exact ⟨z, y, vs, r, ob, es, ep, k _ _ (.inl rfl) e, c⟩
  | dT kvs =>
    obtain ⟨z, y, xs, r, ob, es, ep, e, c⟩ := x
    exact ⟨z, y, xs, Paired.mapP r fun p q z => ⟨z.1, ht _ _ z.2.1, z.2.2⟩, ob, es, ep, k _ _ (.inl rfl) e, c⟩
  | set S n => obtain ⟨ob, es, ep, t, e, c⟩ := x; exact ⟨ob, es, ep, t, k _ _ (.inl rfl) e, c⟩
  | ins C dx fs =>
    obtain ⟨d, z, ne, e, mA, ⟨od, es, ep, e2, c⟩, r⟩ := x
    exact ⟨ho _ d, z, ne, k _ _ (.inl rfl) e, mA, ⟨od, es, ep, k _ _ (.inr d) e2, c⟩, r⟩
  | own y => obtain ⟨ob, e⟩ := x; exact ⟨ob, k _ _ (.inl rfl) e⟩
  | xd fs => obtain ⟨mA, ⟨od, es, ep, e, c⟩, r⟩ := x; exact ⟨mA, ⟨od, es, ep, k _ _ (.inl rfl) e, c⟩, r⟩
  | rng lo hi => obtain ⟨t, u, v, e⟩ := x; exact ⟨t, u, v, k _ _ (.inl rfl) e⟩
  | frz ob u ih => obtain ⟨e, q⟩ := x; exact ⟨k _ _ (.inl rfl) e, ih q⟩
  | tbl ps =>
    have e : h.get? a = some { cls := .none, data := .fields ps } := x
    show h'.get? a = some { cls := .none, data := .fields ps }
    exact k a _ (.inl rfl) e
  | met f y =>
    have e : h.get? a = some (PySem.W.methodObj (.ref f) (.ref y)) := x
    show h'.get? a = some (PySem.W.methodObj (.ref f) (.ref y))
    exact k a _ (.inl rfl) e
  | ext φ => obtain ⟨p, ⟨o, e⟩, st⟩ := x; exact ⟨st _ _ p fun o q => k _ _ (.inl rfl) q, ⟨o, k _ _ (.inl rfl) e⟩, st⟩
theorem HOk.lt (x : HOk P w H h) (e : H a = some o) : a < h.objs.size := (x a o e).lt
theorem HOk.fresh (x : HOk P w H h) (e : h.objs.size ≤ a) : H a = none := by
  cases q : H a with
  | none => rfl
  | some u => exact absurd (Nat.lt_of_lt_of_le (x.lt q) e) (Nat.lt_irrefl _)
/-- every object of the heap is kept -/
theorem HOk.kept (x : HOk P w H h) (k : ∀ b u, h.get? b = some u → h'.get? b = some u) : HOk P w H h' := fun a o e =>
  (x a o e).stay (fun b u _ q => k b u q) (fun _ q => q) fun _ _ q => q
/-- a new object is laid and tracked -/
theorem HOk.laid (x : HOk P w H h) (k : ∀ b u, h.get? b = some u → h'.get? b = some u) (hp : h.objs.size ≤ a) (new : ObjOk P w (upd H a o) h' a o) : HOk P w (upd H a o) h' := fun b u e => by
  have hn := x.fresh hp
  by_cases hb : b = a
  · subst hb; rw [upd_same] at e; cases e; exact new
  · rw [upd_ne hb] at e
    exact (x b u e).stay (fun c v _ q => k c v q) (fun c q => by rw [upd_ne (ne_of_none q hn)]; exact q) fun c xs q => by rw [upd_ne (ne_of_none q hn)]; exact q
end

/-- what may be read as u: it is u, or a known u -/
def Rd (H : Hp) (a : Addr) (u : HO) : Prop := H a = some u ∨ ∃ o, H a = some (.frz o u)
theorem Rd.ok {P : Program} {w : World} {H : Hp} {h : Heap} {a : Addr} {u : HO} (r : Rd H a u) (x : HOk P w H h) : ObjOk P w H h a u := by
  rcases r with r | ⟨o, r⟩
  · exact x a u r
  · obtain ⟨_, q⟩ := x a _ r
    exact q
/-- what may be written -/
def Mut : Option HO → Prop
  | some (.lst _) => True
  | some (.dK _) => True
  | some (.dT _) => True
  | some (.set _ _) => True
  | some (.ins _ _ _) => True
  | some (.ext _) => True
  | _ => False
section
variable {P : Program} {w : World} {H : Hp} {h h' : Heap} {x e : Addr} {o' : HO}
/-- the object at e is changed: x itself, or the dict of the instance x -/
theorem HOk.write (ok : HOk P w H h) (mu : Mut (H x)) (he : e = x ∨ H e = some (.own x)) (k : ∀ b u, b ≠ e → h.get? b = some u → h'.get? b = some u) (heo : ∃ u, h'.get? e = some u)
    (new : ObjOk P w (upd H x o') h' x o') : HOk P w (upd H x o') h' := fun b u q => by
  have nown : ∀ c y, H c = some (.own y) → c ≠ x := fun c y r z => by subst z; rw [r] at mu; exact mu
  have ntup : ∀ c xs, H c = some (.tup xs) → c ≠ x := fun c xs r z => by subst z; rw [r] at mu; exact mu
  by_cases hb : b = x
  · subst hb; rw [upd_same] at q; cases q; exact new
  · rw [upd_ne hb] at q
    by_cases hbe : b = e
    · have q' : H b = some (.own x) := by
        rcases he with z | z
        · exact absurd (hbe.trans z) hb
        · rw [hbe]; exact z
      rw [q] at q'; cases q'
      obtain ⟨v, hv⟩ := heo
      exact ⟨v, by rw [hbe]; exact hv⟩
    · refine (ok b u q).stay (fun c v hc r => k c v ?_ r) (fun c r => by rw [upd_ne (nown c b r)]; exact r) fun c xs r => by rw [upd_ne (ntup c xs r)]; exact r
      rcases hc with rfl | hc
      · exact hbe
      · rintro rfl
        rcases he with z | z
        · exact nown c b hc z
        · rw [hc] at z; cases z; exact hb rfl
end

/-! ### kept unless tracked; of the frames at fs (the callers') the slots may change (an exception that passes writes there); of the records at ex (iterators) nothing is said -/
structure Un (fs ex : List Addr) (H H' : Hp) (h h' : Heap) : Prop where
  keep : ∀ b o, h.get? b = some o → H b = none → b ∉ fs → b ∉ ex → h'.get? b = some o
  slot : ∀ b o, h.get? b = some o → H b = none → b ∈ fs → b ∉ ex → ∃ sl, h'.get? b = some { o with slots := sl }
  free : ∀ b o, h.get? b = some o → H b = none → b ∉ ex → H' b = none
  there : ∀ b o, h.get? b = some o → b ∉ ex → ∃ o', h'.get? b = some o'
  tups : ∀ b xs, H b = some (.tup xs) → H' b = some (.tup xs)
  frzs : ∀ b o u, H b = some (.frz o u) → H' b = some (.frz o u)
  tbls : ∀ b ps, H b = some (.tbl ps) → ∃ more, H' b = some (.tbl (ps ++ more))
section
variable {fs fs' ex ex' : List Addr} {H H1 H2 : Hp} {h h1 h2 h' : Heap} {a x e : Addr} {o : HO}
theorem Un.any (u : Un fs ex H H1 h h1) {b : Addr} {ob : Obj} (q : h.get? b = some ob) (n : H b = none) (hx : b ∉ ex) : ∃ sl, h1.get? b = some { ob with slots := sl } := by
  by_cases hb : b ∈ fs
  · exact u.slot b ob q n hb hx
  · exact ⟨ob.slots, u.keep b ob q n hb hx⟩
theorem Un.kept (k : ∀ b u, h.get? b = some u → h'.get? b = some u) : Un fs ex H H h h' :=
  ⟨fun b ob q _ _ _ => k b ob q, fun b ob q _ _ _ => ⟨ob.slots, k b ob q⟩, fun _ _ _ n _ => n, fun b ob q _ => ⟨ob, k b ob q⟩, fun _ _ q => q, fun _ _ _ q => q, fun _ ps q => ⟨#[], by rw [q]; simp⟩⟩
theorem Un.refl : Un fs ex H H h h := Un.kept fun _ _ q => q
theorem Un.laid (k : ∀ b u, h.get? b = some u → h'.get? b = some u) (hp : h.objs.size ≤ a) (hn : H a = none) : Un fs ex H (upd H a o) h h' where
  keep := fun b u q _ _ _ => k b u q
  slot := fun b u q _ _ _ => ⟨u.slots, k b u q⟩
  free := fun b u q n _ => by rw [upd_ne (Nat.ne_of_lt (Nat.lt_of_lt_of_le (Heap.lt_size q) hp))]; exact n
  there := fun b u q _ => ⟨u, k b u q⟩
  tups := fun b xs q => by rw [upd_ne (ne_of_none q hn)]; exact q
  frzs := fun b u xs q => by rw [upd_ne (ne_of_none q hn)]; exact q
  tbls := fun b ps q => ⟨#[], by rw [upd_ne (ne_of_none q hn), q]; simp⟩
theorem Un.write (mu : Mut (H x)) (he : e = x ∨ H e = some (.own x)) (k : ∀ b u, b ≠ e → h.get? b = some u → h'.get? b = some u) (heo : ∃ u, h'.get? e = some u) : Un fs ex H (upd H x o) h h' := by
  have hx : ∀ b, H b = none → b ≠ x := fun b n z => by subst z; rw [n] at mu; exact mu
  have hb : ∀ b, H b = none → b ≠ e := fun b n z => by
    subst z
    rcases he with r | r
    · exact hx b n r
    · rw [n] at r; cases r
  have hm : ∀ b u, H b = some u → ¬ Mut (some u) → b ≠ x := fun b u q nm z => by subst z; rw [q] at mu; exact nm mu
  refine ⟨fun b u q n _ _ => k b u (hb b n) q, fun b u q n _ _ => ⟨u.slots, k b u (hb b n) q⟩, fun b u q n _ => by rw [upd_ne (hx b n)]; exact n, fun b u q _ => ?_,
    fun b xs q => by rw [upd_ne (hm b _ q fun z => z)]; exact q, fun b u xs q => by rw [upd_ne (hm b _ q fun z => z)]; exact q, fun b ps q => ⟨#[], by rw [upd_ne (hm b _ q fun z => z), q]; simp⟩⟩
  by_cases hbe : b = e
  · subst hbe; exact heo
  · exact ⟨u, k b u hbe q⟩
end

/-! ### the heap without what is tracked -/
def trk (h : Heap) (H : Hp) : List Addr := (List.range h.objs.size).filter fun a => (H a).isSome
def hidT (h : Heap) (H : Hp) : Heap := PySem.W.hideAll h (trk h H)
theorem hidT_size (h : Heap) (H : Hp) : (hidT h H).objs.size = h.objs.size := PySem.W.hideAll_size _ _
theorem hidT_get {h : Heap} {H : Hp} {b : Addr} {o : Obj} (e : h.get? b = some o) (n : H b = none) : (hidT h H).get? b = some o :=
  PySem.W.hideAll_get _ e fun hm => by
    have q : (H b).isSome = true := (List.mem_filter.mp hm).2
    rw [n] at q; simp at q
theorem of_hidT {h : Heap} {H : Hp} {b : Addr} {o : Obj} (e : (hidT h H).get? b = some o) : h.get? b = some o ∧ H b = none := by
  have e' : h.get? b = some o := PySem.W.of_hideAll (trk h H) e
  refine ⟨e', ?_⟩
  cases q : H b with
  | none => rfl
  | some x =>
    have hm : b ∈ trk h H := List.mem_filter.mpr ⟨List.mem_range.mpr (Heap.lt_size e'), by simp [q]⟩
    have z : (hidT h H).get? b = none := PySem.W.hideAll_none (trk h H) hm
    rw [z] at e; cases e

/-! ### OpenK's ledger, filled with every new object but one -/
end L2

namespace L2
open PySem PySem.Spec PyProof.Rows

/-- the module's facts, over the base: the heap at the law's entry without what is tracked there -/
structure Mod (K : PySem.W.Frag) (mg : Str → Option Value) (base : Heap) : Prop where
  kin : K.In base
  glob : base.Ns mainGlobals mg
  blt : ∃ mb, base.Ns builtinsNs mb ∧ ∀ x : Str, x ≠ "__name__" → mb x = bootBuiltins x
  nolimit : base.NoLimit

/-- the context: a def's body (or a comprehension's block) running. base: fixed through the whole law; s₀, H₀: the entry; outer: the frames whose slots others may change (a def's callers); stack: all frames that run;
   ex: iterators that were made ahead of the entry and are walked here (a comprehension's); fn: the names whose cells were made at the entry (a def: all; a comprehension's block: its own); calm: not within an except suite; pn: pins that every state bears; xe: what is wanted of an exception that leaves the code -/
structure Cx where
  prog : Program
  w : World
  K : PySem.W.Frag
  mg : Str → Option Value
  base : Heap
  A : Around
  N : List Str
  s₀ : Shared
  H₀ : Hp
  env : Env
  outer : List Env
  stack : List Env
  ex : List Addr
  fn : Str → Bool
  calm : Bool
  pn : List (Addr × Obj)
  xe : Value → Shared → Prop
/-- the callers' frames -/
def frs (l : List Env) : List Addr := l.filterMap (·.frame)
abbrev Cx.fs (X : Cx) : List Addr := frs X.outer

def Vis (sc : Scope) (x : Str) : Prop := sc.names.lookup x = some .local ∨ sc.names.lookup x = some .cell ∨ sc.names.lookup x = some .free
def Loc (sc : Scope) (x : Str) : Prop := sc.names.lookup x = some .local ∨ sc.names.lookup x = some .cell
def Look (env : Env) (h : Heap) (m : Str → Option Value) (x : Str) (u : Value) : Prop :=
  (env.kindOf x = some .local ∧ m x = some u) ∨ ((env.kindOf x = some .cell ∨ env.kindOf x = some .free) ∧ ∃ c, env.cells.lookup x = some c ∧ h.IsCell c (some u))

structure Cx.Ok (X : Cx) : Prop where
  mod : Mod X.K X.mg X.base
  kind : X.env.scope.kind = .function
  glob : X.env.globals = mainGlobals
  blt : X.env.builtins = builtinsNs
  above : X.s₀.heap.objs.size ≤ X.env.locals
  inj : ∀ x y c, X.env.cells.lookup x = some c → X.env.cells.lookup y = some c → x = y
  has : ∀ x, (X.env.kindOf x = some .cell ∨ X.env.kindOf x = some .free) → ∃ c, X.env.cells.lookup x = some c
  cab : ∀ x c, X.fn x = true → X.env.cells.lookup x = some c → X.s₀.heap.objs.size ≤ c
  hd : X.calm = true → X.A.handled = none
  frames : X.A.frames = some X.stack
  stk : X.stack = X.outer ∨ (X.stack = X.env :: X.outer ∧ X.env.frame = some X.env.locals)
  exf : ∀ b ∈ X.ex, b ≠ X.env.locals ∧ ∀ x c, X.env.cells.lookup x = some c → c ≠ b
  bs : ∀ b o, X.base.get? b = some o → X.s₀.heap.get? b = some o ∧ X.H₀ b = none
  bsz : X.base.objs.size ≤ X.s₀.heap.objs.size
  noex : ∀ b o, X.base.get? b = some o → b ∉ X.ex
  exfs : ∀ b ∈ X.ex, b ∉ X.fs
  funs : X.s₀.heap.FunFrames X.base X.outer
  frf : ∀ b ∈ X.fs, X.H₀ b = none

structure Inv (X : Cx) (pins : List (Addr × Obj)) (σ : List (Option V)) (H : Hp) (s : Shared) : Prop where
  ok : X.Ok
  os : s.os = X.s₀.os
  bare : AllBare s.gens
  base : Un X.fs X.ex X.H₀ H X.s₀.heap s.heap
  loc : ∃ m, s.heap.Ns X.env.locals m ∧ ∀ (i : Nat) (x : Str) (v : V), X.N[i]? = some x → σ[i]? = some (some v) → Vis X.env.scope x → ∃ u, RelV v u ∧ Look X.env s.heap m x u
  cell : ∀ x c, X.env.cells.lookup x = some c → ∃ v, s.heap.IsCell c v
  free : H X.env.locals = none
  freeC : ∀ x c, X.env.cells.lookup x = some c → H c = none
  pin : ∀ p ∈ X.pn ++ pins, s.heap.get? p.1 = some p.2 ∧ H p.1 = none ∧ p.1 ≠ X.env.locals ∧ p.1 ∉ X.fs ∧ ∀ v, p.2.data ≠ .cell v
  hok : HOk X.prog X.w H s.heap
  len : σ.length = X.N.length

section
variable {X : Cx} {pins : List (Addr × Obj)} {σ : List (Option V)} {H H' : Hp} {s : Shared} {h' : Heap}

theorem Cx.Ok.nofr (ok : X.Ok) {b : Addr} {o : Obj} (e : X.base.get? b = some o) : b ∉ X.fs := fun hb => by
  have := (ok.funs.mem hb).1
  rw [e] at this; cases this
theorem Inv.bs (I : Inv X pins σ H s) : ∀ b o, X.base.get? b = some o → s.heap.get? b = some o ∧ H b = none := fun b o e =>
  ⟨I.base.keep b o (I.ok.bs b o e).1 (I.ok.bs b o e).2 (I.ok.nofr e) (I.ok.noex b o e), I.base.free b o (I.ok.bs b o e).1 (I.ok.bs b o e).2 (I.ok.noex b o e)⟩
theorem Inv.bk (I : Inv X pins σ H s) : ∀ b o, X.base.get? b = some o → s.heap.get? b = some o := fun b o e => (I.bs b o e).1
theorem Inv.mod (I : Inv X pins σ H s) : Mod X.K X.mg X.base := I.ok.mod
theorem Inv.kIn (I : Inv X pins σ H s) : X.K.In s.heap := I.ok.mod.kin.keeps I.bk
theorem Inv.lt (I : Inv X pins σ H s) : X.env.locals < s.heap.objs.size := let ⟨_, hn, _⟩ := I.loc; hn.lt
theorem Inv.sz (I : Inv X pins σ H s) : X.s₀.heap.objs.size ≤ s.heap.objs.size := Nat.le_trans I.ok.above (Nat.le_of_lt I.lt)
theorem Inv.nofs (I : Inv X pins σ H s) {a : Addr} (h : s.heap.objs.size ≤ a) : a ∉ X.fs := fun hb => by
  obtain ⟨_, o, ho, _⟩ := I.ok.funs.mem hb
  exact absurd (Nat.lt_of_lt_of_le (Heap.lt_size ho) (Nat.le_trans I.sz h)) (Nat.lt_irrefl _)
theorem Inv.cne (I : Inv X pins σ H s) : ∀ x c, X.env.cells.lookup x = some c → c ≠ X.env.locals := fun x c e z => by
  obtain ⟨v, o, ho, hd⟩ := I.cell x c e
  obtain ⟨m, ⟨o', es, ep, ho', hd', _⟩, _⟩ := I.loc
  rw [z, ho'] at ho; cases ho; rw [hd'] at hd; cases hd
theorem Inv.funs (I : Inv X pins σ H s) : s.heap.FunFrames X.base X.outer := by
  have all : ∀ (l : List Env), (∀ b ∈ frs l, b ∈ X.fs) → X.s₀.heap.FunFrames X.base l → s.heap.FunFrames X.base l := by
    intro l
    induction l with
    | nil => intro _ _; trivial
    | cons env r ih =>
      intro hs hl
      obtain ⟨hk, ⟨L, o, hf, hn, ho, hd⟩, hr⟩ := hl
      have hL : L ∈ X.fs := hs L (by unfold frs; rw [List.filterMap_cons, hf]; exact List.mem_cons_self)
      obtain ⟨sl, e⟩ := I.base.slot L o ho (I.ok.frf L hL) hL fun z => I.ok.exfs L z hL
      exact ⟨hk, ⟨L, _, hf, hn, e, hd⟩, ih (fun b hb => hs b (by unfold frs; rw [List.filterMap_cons, hf]; exact List.mem_cons_of_mem _ hb)) hr⟩
  exact all X.outer (fun _ hb => hb) I.ok.funs

/-- the frames that run, for a call -/
theorem Inv.stack (I : Inv X pins σ H s) : s.heap.FunFrames X.base X.stack := by
  rcases I.ok.stk with e | ⟨e, hf⟩
  · rw [e]; exact I.funs
  · rw [e]
    obtain ⟨m, hn, _⟩ := I.loc
    refine .cons (by rw [I.ok.kind]; decide) hf hn ?_ I.funs
    exact Heap.get?_none_of_le (Nat.le_trans I.ok.bsz I.ok.above)
theorem Inv.stkSub (I : Inv X pins σ H s) : ∀ b ∈ frs X.stack, b ∈ X.env.locals :: X.fs := fun b hb => by
  rcases I.ok.stk with e | ⟨e, hf⟩
  · rw [e] at hb; exact List.mem_cons_of_mem _ hb
  · rw [e] at hb
    unfold frs at hb
    rw [List.filterMap_cons, hf] at hb
    exact hb
theorem Inv.stkFree (I : Inv X pins σ H s) : ∀ b ∈ frs X.stack, H b = none := fun b hb => by
  rcases List.mem_cons.mp (I.stkSub b hb) with e | hb
  · rw [e]; exact I.free
  · obtain ⟨_, o, ho, _⟩ := I.ok.funs.mem hb
    exact I.base.free b o ho (I.ok.frf b hb) fun z => I.ok.exfs b z hb

/-- THE STEP: the untracked objects but the frame and the records at ch are kept (the callers' frames up to slots), the frame's map is kept, the new abstract heap is held -/
theorem Inv.step {g' : Array GenState} {t' : Nat} {d' : Drawn} {ch : List Addr} (I : Inv X pins σ H s)
    (hch : ∀ b ∈ ch, (b ∈ X.ex ∨ X.s₀.heap.objs.size ≤ b) ∧ b ≠ X.env.locals ∧ (∀ x c, X.env.cells.lookup x = some c → c ≠ b) ∧ ∀ p ∈ X.pn ++ pins, p.1 ≠ b)
    (keep : ∀ b o, b ≠ X.env.locals → b ∉ X.fs → b ∉ ch → s.heap.get? b = some o → H b = none → h'.get? b = some o)
    (slot : ∀ b o, b ≠ X.env.locals → b ∈ X.fs → b ∉ ch → s.heap.get? b = some o → H b = none → ∃ sl, h'.get? b = some { o with slots := sl }) (free : ∀ b o, b ∉ ch → s.heap.get? b = some o → H b = none → H' b = none)
    (there : ∀ b o, b ∉ ch → s.heap.get? b = some o → ∃ o', h'.get? b = some o')
    (tups : ∀ b xs, H b = some (.tup xs) → H' b = some (.tup xs)) (frzs : ∀ b o u, H b = some (.frz o u) → H' b = some (.frz o u)) (tbls : ∀ b ps, H b = some (.tbl ps) → ∃ more, H' b = some (.tbl (ps ++ more)))
    (ns : ∀ m, s.heap.Ns X.env.locals m → h'.Ns X.env.locals m) (hok : HOk X.prog X.w H' h') (hg : AllBare g') :
    Inv X pins σ H' { s with heap := h', gens := g', drawn := d', toks := t' } := by
  have neL : ∀ b o, X.s₀.heap.get? b = some o → b ≠ X.env.locals := fun b o e => Nat.ne_of_lt (Nat.lt_of_lt_of_le (Heap.lt_size e) I.ok.above)
  have neC : ∀ b o, X.s₀.heap.get? b = some o → b ∉ X.ex → b ∉ ch := fun b o e hx hb => by
    rcases (hch b hb).1 with z | z
    · exact hx z
    · exact absurd (Nat.lt_of_lt_of_le (Heap.lt_size e) z) (Nat.lt_irrefl _)
  have cellK : ∀ x c, X.env.cells.lookup x = some c → ∀ v, s.heap.IsCell c v → h'.IsCell c v := fun x c e v ⟨o, ho, hd⟩ => by
    have nch : c ∉ ch := fun z => (hch c z).2.2.1 x c e rfl
    by_cases hc : c ∈ X.fs
    · obtain ⟨sl, q⟩ := slot c o (I.cne x c e) hc nch ho (I.freeC x c e)
      exact ⟨_, q, hd⟩
    · exact ⟨o, keep c o (I.cne x c e) hc nch ho (I.freeC x c e), hd⟩
  refine ⟨I.ok, I.os, hg, ⟨fun b o e n hb hx => ?_, fun b o e n hb hx => ?_, fun b o e n hx => ?_, fun b o e hx => ?_, fun b xs e => tups b xs (I.base.tups b xs e), fun b o xs e => frzs b o xs (I.base.frzs b o xs e), fun b ps e => ?_⟩, ?_, fun x c e => ?_, ?_, fun x c e => ?_, fun p hp => ?_, hok, I.len⟩
  · exact keep b o (neL b o e) hb (neC b o e hx) (I.base.keep b o e n hb hx) (I.base.free b o e n hx)
  · obtain ⟨sl, e1⟩ := I.base.slot b o e n hb hx
    obtain ⟨sl', e2⟩ := slot b _ (neL b o e) hb (neC b o e hx) e1 (I.base.free b o e n hx)
    exact ⟨sl', e2⟩
  · obtain ⟨o', e1⟩ := I.base.there b o e hx
    exact free b o' (neC b o e hx) e1 (I.base.free b o e n hx)
  · obtain ⟨o', e1⟩ := I.base.there b o e hx
    exact there b o' (neC b o e hx) e1
  · obtain ⟨m1, e1⟩ := I.base.tbls b ps e
    obtain ⟨m2, e2⟩ := tbls b _ e1
    exact ⟨m1 ++ m2, by rw [e2, Array.append_assoc]⟩
  · obtain ⟨m, hn, hl⟩ := I.loc
    refine ⟨m, ns m hn, fun i x v e1 e2 e3 => ?_⟩
    obtain ⟨u, r, l⟩ := hl i x v e1 e2 e3
    refine ⟨u, r, ?_⟩
    rcases l with l | ⟨k, c, e, z⟩
    · exact .inl l
    · exact .inr ⟨k, c, e, cellK x c e _ z⟩
  · obtain ⟨v, z⟩ := I.cell x c e
    exact ⟨v, cellK x c e v z⟩
  · obtain ⟨m, ⟨o, _, _, ho, _⟩, _⟩ := I.loc
    exact free _ o (fun z => (hch _ z).2.1 rfl) ho I.free
  · obtain ⟨v, o, ho, hd⟩ := I.cell x c e
    exact free c o (fun z => (hch c z).2.2.1 x c e rfl) ho (I.freeC x c e)
  · obtain ⟨e, n, ne, nf, d⟩ := I.pin p hp
    have nch : p.1 ∉ ch := fun z => (hch p.1 z).2.2.2 p hp rfl
    exact ⟨keep p.1 p.2 ne nf nch e n, free p.1 p.2 nch e n, ne, nf, d⟩
/-- .. where the frame's own object is kept too -/
theorem Inv.un {t' : Nat} (I : Inv X pins σ H s) (u : Un X.fs [] H H' s.heap h') (hok : HOk X.prog X.w H' h') : Inv X pins σ H' { s with heap := h', toks := t' } := by
  obtain ⟨m, ⟨o, es, ep, ho, r⟩, _⟩ := id I.loc
  obtain ⟨sl, hL⟩ := u.any ho I.free (by simp)
  exact I.step (g' := s.gens) (d' := s.drawn) (ch := []) (fun _ z => nomatch z) (fun b o _ hb _ e n => u.keep b o e n hb (by simp)) (fun b o _ hb _ e n => u.slot b o e n hb (by simp)) (fun b o _ e n => u.free b o e n (by simp)) (fun b o _ e => u.there b o e (by simp)) u.tups u.frzs u.tbls (fun m' hm => by
    obtain ⟨o', es', ep', ho', r'⟩ := hm
    rw [ho] at ho'; cases ho'
    exact ⟨_, es', ep', hL, r'⟩) hok I.bare
/-- behind a call (or a comprehension's block): the slots of this frame may have changed too, the records at ch may have turned -/
theorem Inv.call {g' : Array GenState} {t' : Nat} {d' : Drawn} {ch : List Addr} (I : Inv X pins σ H s) (u : Un (frs X.stack) ch H H' s.heap h') (hok : HOk X.prog X.w H' h') (hg : AllBare g')
    (hch : ∀ b ∈ ch, (b ∈ X.ex ∨ X.s₀.heap.objs.size ≤ b) ∧ b ≠ X.env.locals ∧ (∀ x c, X.env.cells.lookup x = some c → c ≠ b) ∧ ∀ p ∈ X.pn ++ pins, p.1 ≠ b) :
    Inv X pins σ H' { s with heap := h', gens := g', drawn := d', toks := t' } := by
  obtain ⟨m, ⟨o, es, ep, ho, r⟩, _⟩ := id I.loc
  obtain ⟨sl, hL⟩ := u.any ho I.free fun z => (hch _ z).2.1 rfl
  exact I.step (ch := ch) hch (fun b o hL hb hc e n => u.keep b o e n (fun z => (List.mem_cons.mp (I.stkSub b z)).elim hL hb) hc) (fun b o _ _ hc e n => u.any e n hc) (fun b o hc e n => u.free b o e n hc) (fun b o hc e => u.there b o e hc) u.tups u.frzs u.tbls (fun m' hm => by
    obtain ⟨o', es', ep', ho', r'⟩ := hm
    rw [ho] at ho'; cases ho'
    exact ⟨_, es', ep', hL, r'⟩) hok hg
/-- an untracked record of ours (an iterator) has turned -/
theorem Inv.turned {t' : Nat} {it : Addr} (I : Inv X pins σ H s) (k : ∀ b o, b ≠ it → s.heap.get? b = some o → h'.get? b = some o) (hn : H it = none) (hL : it ≠ X.env.locals)
    (h1 : it ∈ X.ex ∨ X.s₀.heap.objs.size ≤ it) (h2 : ∀ x c, X.env.cells.lookup x = some c → c ≠ it) (h3 : ∀ p ∈ X.pn ++ pins, p.1 ≠ it) : Inv X pins σ H { s with heap := h', toks := t' } := by
  have nit : ∀ b u, H b = some u → b ≠ it := fun b u e z => by rw [z, hn] at e; cases e
  refine I.step (g' := s.gens) (d' := s.drawn) (ch := [it]) (fun b hb => ?_) (fun b o _ _ hc e _ => k b o (fun z => hc (by simp [z])) e) (fun b o _ _ hc e _ => ⟨o.slots, k b o (fun z => hc (by simp [z])) e⟩) (fun _ _ _ _ n => n)
    (fun b o hc e => ⟨o, k b o (fun z => hc (by simp [z])) e⟩) (fun _ _ e => e) (fun _ _ _ e => e) (fun b ps e => ⟨#[], by rw [e]; simp⟩) (fun m hm => ?_) (fun b u e => ?_) I.bare
  · have e : b = it := by simpa using hb
    subst e
    exact ⟨h1, hL, h2, h3⟩
  · obtain ⟨o, es, ep, ho, r⟩ := hm
    exact ⟨o, es, ep, k _ o (Ne.symm hL) ho, r⟩
  · refine (I.hok b u e).stay (fun c v hc q => k c v ?_ q) (fun _ q => q) fun _ _ q => q
    rcases hc with z | z
    · rw [z]; exact nit b u e
    · exact nit c _ z
theorem Inv.tok (I : Inv X pins σ H s) (t : Nat) : Inv X pins σ H { s with toks := t } := I.un (h' := s.heap) (t' := t) Un.refl I.hok
/-- all objects kept -/
theorem Inv.kept {t' : Nat} (I : Inv X pins σ H s) (k : ∀ b u, s.heap.get? b = some u → h'.get? b = some u) : Inv X pins σ H { s with heap := h', toks := t' } := I.un (Un.kept k) (I.hok.kept k)
/-- a new object laid and tracked -/
theorem Inv.laid {a : Addr} {o : HO} {t' : Nat} (I : Inv X pins σ H s) (k : ∀ b u, s.heap.get? b = some u → h'.get? b = some u) (hp : s.heap.objs.size ≤ a) (new : ObjOk X.prog X.w (upd H a o) h' a o) :
    Inv X pins σ (upd H a o) { s with heap := h', toks := t' } := I.un (Un.laid k hp (I.hok.fresh hp)) (I.hok.laid k hp new)
/-- an object written -/
theorem Inv.write {x e : Addr} {o : HO} {t' : Nat} (I : Inv X pins σ H s) (mu : Mut (H x)) (he : e = x ∨ H e = some (.own x)) (k : ∀ b u, b ≠ e → s.heap.get? b = some u → h'.get? b = some u) (heo : ∃ u, h'.get? e = some u)
    (new : ObjOk X.prog X.w (upd H x o) h' x o) : Inv X pins σ (upd H x o) { s with heap := h', toks := t' } := I.un (Un.write mu he k heo) (I.hok.write mu he k heo new)
theorem Inv.pins_of {pins' : List (Addr × Obj)} (I : Inv X pins σ H s) (h : ∀ p ∈ pins', s.heap.get? p.1 = some p.2 ∧ H p.1 = none ∧ p.1 ≠ X.env.locals ∧ p.1 ∉ X.fs ∧ ∀ v, p.2.data ≠ .cell v) : Inv X pins' σ H s :=
  ⟨I.ok, I.os, I.bare, I.base, I.loc, I.cell, I.free, I.freeC, fun p hp => (List.mem_append.mp hp).elim (fun z => I.pin p (List.mem_append_left _ z)) (h p), I.hok, I.len⟩

theorem nodup_ix {N : List Str} (hN : N.Nodup) {i j : Nat} {x : Str} (a : N[i]? = some x) (b : N[j]? = some x) : i = j := by
  obtain ⟨h1, e1⟩ := List.getElem?_eq_some_iff.mp a
  obtain ⟨h2, e2⟩ := List.getElem?_eq_some_iff.mp b
  exact (List.getElem_inj hN).mp (e1.trans e2.symm)

/-- a name is stored; what changed -/
theorem store_ok2 {M : Model} {A : Around} {E : Value → Shared → Prop} {i : Nat} {x : Str} {v : V} {u : Value} {Q : Unit → Shared → Prop} (I : Inv X pins σ H s) (hN : X.N.Nodup) (hi : X.N[i]? = some x) (hx : Loc X.env.scope x) (r : RelV v u)
    (h : ∀ s', Inv X pins (σ.set i (some v)) H s' → (∃ a, Heap.SameBut a s.heap s'.heap ∧ (a = X.env.locals ∨ X.env.cells.lookup x = some a)) → Q () s') (hf : X.fn x = true ∨ X.env.scope.names.lookup x = some .local := by first | exact .inl rfl | exact .inr rfl | assumption) : wpAny M A (storeName X.env x u) Q E s := by
  obtain ⟨m, hn, hl⟩ := id I.loc
  have hcls : (X.env.scope.kind == .class || (X.env.scope.kind == .module && X.env.locals != X.env.globals)) = false := by rw [I.ok.kind]; rfl
  have hiσ : i < σ.length := by rw [I.len]; exact (List.getElem?_eq_some_iff.mp hi).1
  have cne := I.cne
  have tracked : ∀ {a : Addr} {h' : Heap}, (∃ o, s.heap.get? a = some o ∧ H a = none) → Heap.SameBut a s.heap h' → HOk X.prog X.w H h' := fun {a h'} ha hs b ob e => by
    obtain ⟨_, _, hfree⟩ := ha
    refine (I.hok b ob e).stay (fun c w' hc q => (hs.2 c ?_).trans q) (fun _ q => q) fun _ _ q => q
    rintro rfl
    rcases hc with rfl | hc
    · rw [hfree] at e; cases e
    · rw [hfree] at hc; cases hc
  rcases hx with hk | hk
  · refine wpAny_storeName_local hk hn (fun h' hn' hs => ?_) hcls
    obtain ⟨oL, _, _, hoL, _⟩ := id hn
    refine h _ ⟨I.ok, I.os, I.bare, ⟨fun b o e n hb hx => ?_, fun b o e n hb hx => ?_, I.base.free, fun b o e hx => ?_, I.base.tups, I.base.frzs, I.base.tbls⟩, ⟨_, hn', fun j y v' e1 e2 e3 => ?_⟩, fun y c e => ?_, I.free, I.freeC, fun p hp => ?_, tracked ⟨oL, hoL, I.free⟩ hs, by simpa using I.len⟩ ⟨_, hs, .inl rfl⟩
    · exact (hs.2 b (Nat.ne_of_lt (Nat.lt_of_lt_of_le (Heap.lt_size e) I.ok.above))).trans (I.base.keep b o e n hb hx)
    · obtain ⟨sl, e1⟩ := I.base.slot b o e n hb hx
      exact ⟨sl, (hs.2 b (Nat.ne_of_lt (Nat.lt_of_lt_of_le (Heap.lt_size e) I.ok.above))).trans e1⟩
    · obtain ⟨o', e1⟩ := I.base.there b o e hx
      exact ⟨o', (hs.2 b (Nat.ne_of_lt (Nat.lt_of_lt_of_le (Heap.lt_size e) I.ok.above))).trans e1⟩
    · by_cases hj : j = i
      · subst hj
        rw [hi] at e1; cases e1
        rw [List.getElem?_set_self hiσ] at e2
        cases e2
        exact ⟨u, r, .inl ⟨hk, by simp⟩⟩
      · rw [List.getElem?_set_ne (Ne.symm hj)] at e2
        obtain ⟨u', r', q⟩ := hl j y v' e1 e2 e3
        refine ⟨u', r', ?_⟩
        rcases q with ⟨k, e⟩ | ⟨k, c, e, z⟩
        · refine .inl ⟨k, ?_⟩
          have : y ≠ x := fun e => hj (nodup_ix hN e1 (e ▸ hi))
          simp [this, e]
        · exact .inr ⟨k, c, e, z.sameBut hs (cne y c e)⟩
    · obtain ⟨w', z⟩ := I.cell y c e
      exact ⟨w', z.sameBut hs (cne y c e)⟩
    · obtain ⟨e, n, ne, nf, d⟩ := I.pin p hp
      exact ⟨(hs.2 p.1 ne).trans e, n, ne, nf, d⟩
  · have hfn : X.fn x = true := by
      rcases hf with z | z
      · exact z
      · rw [z] at hk; cases hk
    obtain ⟨c, hc⟩ := I.ok.has x (.inl hk)
    obtain ⟨w', z⟩ := I.cell x c hc
    refine wpAny_storeName_cell I.ok.kind hk hc z (fun h' hc' hs => ?_)
    obtain ⟨oc, hoc, hocd⟩ := id z
    refine h { s with heap := h' } ⟨I.ok, I.os, I.bare, ⟨fun b o e n hb hx => ?_, fun b o e n hb hx => ?_, I.base.free, fun b o e hx => ?_, I.base.tups, I.base.frzs, I.base.tbls⟩, ⟨m, hn.sameBut hs (Ne.symm (cne x c hc)), fun j y v' e1 e2 e3 => ?_⟩, fun y c' e => ?_, I.free, I.freeC, fun p hp => ?_, tracked ⟨oc, hoc, I.freeC x c hc⟩ hs, by simpa using I.len⟩ ⟨c, hs, .inr hc⟩
    · exact (hs.2 b (Nat.ne_of_lt (Nat.lt_of_lt_of_le (Heap.lt_size e) (I.ok.cab x c hfn hc)))).trans (I.base.keep b o e n hb hx)
    · obtain ⟨sl, e1⟩ := I.base.slot b o e n hb hx
      exact ⟨sl, (hs.2 b (Nat.ne_of_lt (Nat.lt_of_lt_of_le (Heap.lt_size e) (I.ok.cab x c hfn hc)))).trans e1⟩
    · obtain ⟨o', e1⟩ := I.base.there b o e hx
      exact ⟨o', (hs.2 b (Nat.ne_of_lt (Nat.lt_of_lt_of_le (Heap.lt_size e) (I.ok.cab x c hfn hc)))).trans e1⟩
    · by_cases hj : j = i
      · subst hj
        rw [hi] at e1; cases e1
        rw [List.getElem?_set_self hiσ] at e2
        cases e2
        exact ⟨u, r, .inr ⟨.inl hk, c, hc, hc'⟩⟩
      · rw [List.getElem?_set_ne (Ne.symm hj)] at e2
        obtain ⟨u', r', q⟩ := hl j y v' e1 e2 e3
        refine ⟨u', r', ?_⟩
        rcases q with q | ⟨k, c', e, z'⟩
        · exact .inl q
        · refine .inr ⟨k, c', e, z'.sameBut hs ?_⟩
          rintro rfl
          exact hj (nodup_ix hN e1 (I.ok.inj _ _ _ e hc ▸ hi))
    · by_cases hcc : c' = c
      · subst hcc; exact ⟨_, hc'⟩
      · obtain ⟨w2, z2⟩ := I.cell y c' e
        exact ⟨w2, z2.sameBut hs hcc⟩
    · obtain ⟨e, n, ne, nf, d⟩ := I.pin p hp
      refine ⟨(hs.2 p.1 ?_).trans e, n, ne, nf, d⟩
      intro q
      rw [q, hoc] at e
      have q' : oc = p.2 := Option.some.inj e
      exact d w' (by rw [← q']; exact hocd)
theorem store_ok {M : Model} {A : Around} {E : Value → Shared → Prop} {i : Nat} {x : Str} {v : V} {u : Value} {Q : Unit → Shared → Prop} (I : Inv X pins σ H s) (hN : X.N.Nodup) (hi : X.N[i]? = some x) (hx : Loc X.env.scope x) (r : RelV v u)
    (h : ∀ s', Inv X pins (σ.set i (some v)) H s' → Q () s') (hf : X.fn x = true ∨ X.env.scope.names.lookup x = some .local := by first | exact .inl rfl | exact .inr rfl | assumption) : wpAny M A (storeName X.env x u) Q E s :=
  store_ok2 I hN hi hx r (fun s' I' _ => h s' I') hf
/-- behind a call or a block, the state as it is -/
theorem Inv.call' {s' : Shared} {ch : List Addr} (I : Inv X pins σ H s) (ho : s'.os = s.os) (u : Un (frs X.stack) ch H H' s.heap s'.heap) (hok : HOk X.prog X.w H' s'.heap) (hg : AllBare s'.gens)
    (hch : ∀ b ∈ ch, (b ∈ X.ex ∨ X.s₀.heap.objs.size ≤ b) ∧ b ≠ X.env.locals ∧ (∀ x c, X.env.cells.lookup x = some c → c ≠ b) ∧ ∀ p ∈ X.pn ++ pins, p.1 ≠ b) : Inv X pins σ H' s' := by
  obtain ⟨h', g', d', t', o'⟩ := s'
  have e : o' = s.os := ho
  subst e
  exact I.call (g' := g') (t' := t') (d' := d') u hok hg hch
end

/-! ### the judgements -/
/-- an exception: its class, its own dict's address (where it has one), the abstract heap behind it -/
abbrev XK := Value → Option Addr → Hp → Prop
abbrev St := List (Option V)
abbrev VK := V → Hp → Prop
/-- an expression's reading; a test's; an argument list's -/
abbrev TE := St → Hp → VK → Prop
abbrev TT := St → Hp → (Bool → Hp → Prop) → Prop
abbrev TA := St → Hp → (List V → Hp → Prop) → Prop
/-- what is wanted behind a statement -/
structure Ends where
  nx : St → Hp → Prop
  rt : VK
  bk : St → Hp → Prop := fun _ _ => False
  ct : St → Hp → Prop := fun _ _ => False
abbrev TS := Ends → St → Hp → Prop

def EP (X : Cx) (pins : List (Addr × Obj)) (σ : St) (Q : VK) (u : Value) (s' : Shared) : Prop := ∃ v H', Inv X pins σ H' s' ∧ RelV v u ∧ Q v H'
def TP (X : Cx) (pins : List (Addr × Obj)) (σ : St) (Q : Bool → Hp → Prop) (b : Bool) (s' : Shared) : Prop := ∃ H', Inv X pins σ H' s' ∧ Q b H'
def AP (X : Cx) (pins : List (Addr × Obj)) (σ : St) (Q : List V → Hp → Prop) (us : List Value) (s' : Shared) : Prop := ∃ vs H', Inv X pins σ H' s' ∧ Vals vs us ∧ Q vs H'
def SP (X : Cx) (pins : List (Addr × Obj)) (D : Ends) (f : Flow) (s' : Shared) : Prop :=
  match f with
  | .next => ∃ σ' H', Inv X pins σ' H' s' ∧ D.nx σ' H'
  | .brk => ∃ σ' H', Inv X pins σ' H' s' ∧ D.bk σ' H'
  | .cont => ∃ σ' H', Inv X pins σ' H' s' ∧ D.ct σ' H'
  | .ret u => ∃ v σ' H', Inv X pins σ' H' s' ∧ RelV v u ∧ D.rt v H'

def PE (X : Cx) (e : Expr) (t : TE) : Prop :=
  ∀ (pins : List (Addr × Obj)) (s : Shared) (σ : St) (H : Hp) (Q : VK), Inv X pins σ H s → t σ H Q → wpAny (model X.prog X.w) X.A (eval e X.env) (EP X pins σ Q) X.xe s
def PT (X : Cx) (e : Expr) (t : TT) : Prop :=
  ∀ (pins : List (Addr × Obj)) (s : Shared) (σ : St) (H : Hp) (Q : Bool → Hp → Prop), Inv X pins σ H s → t σ H Q → wpAny (model X.prog X.w) X.A (isTrue e X.env (eval e X.env)) (TP X pins σ Q) X.xe s
/-- a test whatever its 'whole' is (and, or) -/
def PW (X : Cx) (e : Expr) (t : TT) : Prop :=
  ∀ (whole : Sem Value) (pins : List (Addr × Obj)) (s : Shared) (σ : St) (H : Hp) (Q : Bool → Hp → Prop), Inv X pins σ H s → t σ H Q → wpAny (model X.prog X.w) X.A (isTrue e X.env whole) (TP X pins σ Q) X.xe s
theorem PW.pt {X : Cx} {e : Expr} {t : TT} (h : PW X e t) : PT X e t := h _
/-- an argument list (no star), from the left -/
def PA (X : Cx) (es : List Expr) (t : TA) : Prop :=
  ∀ (pos : Pos) (pins : List (Addr × Obj)) (s : Shared) (σ : St) (H : Hp) (Q : List V → Hp → Prop), Inv X pins σ H s → t σ H Q → wpAny (model X.prog X.w) X.A (spliced (backTo pos (starEach es X.env))) (AP X pins σ Q) X.xe s
def PS (X : Cx) (st : Stmt) (t : TS) : Prop :=
  ∀ (pins : List (Addr × Obj)) (s : Shared) (σ : St) (H : Hp) (D : Ends), Inv X pins σ H s → t D σ H → wpAny (model X.prog X.w) X.A (exec st X.env) (SP X pins D) X.xe s
def PSs (X : Cx) (st : List Stmt) (t : TS) : Prop :=
  ∀ (pins : List (Addr × Obj)) (s : Shared) (σ : St) (H : Hp) (D : Ends), Inv X pins σ H s → t D σ H → wpAny (model X.prog X.w) X.A (execs st X.env) (SP X pins D) X.xe s
/-- weaken the end -/
theorem thn {α : Type} {t : Sem α} {Q Q' : α → Shared → Prop} {M : Model} {A : Around} {E : Value → Shared → Prop} {s : Shared} (h : wpAny M A t Q E s) (hQ : ∀ a s, Q a s → Q' a s) : wpAny M A t Q' E s := wpAny_mono h hQ fun _ _ x => x
end L2

namespace L2
open PySem PySem.Spec PyProof.Rows
section
variable {X : Cx}

/-- two expressions in a row -/
theorem bin {a b : Expr} {ta tb : TE} (ha : PE X a ta) (hb : PE X b tb) {pins : List (Addr × Obj)} {s : Shared} {σ : St} {H : Hp} {R : V → V → Hp → Prop} (I : Inv X pins σ H s) (h : ta σ H fun x H1 => tb σ H1 fun y H2 => R x y H2)
    {α : Type} {Q : α → Shared → Prop} {f : Value → Value → Sem α}
    (hf : ∀ v u s2 x y H2, Inv X pins σ H2 s2 → RelV x v → RelV y u → R x y H2 → wpAny (model X.prog X.w) X.A (f v u) Q X.xe s2) :
    wpAny (model X.prog X.w) X.A (eval a X.env) (fun v s₁ => wpAny (model X.prog X.w) X.A (eval b X.env) (fun u s₂ => wpAny (model X.prog X.w) X.A (f v u) Q X.xe s₂) X.xe s₁) X.xe s := by
  refine thn (ha pins s σ H _ I h) fun v s1 ⟨x, H1, I1, r1, q1⟩ => ?_
  refine thn (hb pins s1 σ H1 _ I1 q1) fun u s2 ⟨y, H2, I2, r2, q2⟩ => ?_
  exact hf v u s2 x y H2 I2 r1 r2 q2

/-! ### names and constants -/
def tVar (i : Nat) : TE := fun σ H Q => ∃ v, σ[i]? = some (some v) ∧ Q v H
def tC (v : V) : TE := fun _ H Q => Q v H
theorem pe_var {i : Nat} {x : Str} {pos : Pos} (hN : X.N[i]? = some x) (hv : Vis X.env.scope x) (hd : (x == ("__debug__" : Str)) = false := by decide) (hcd : (x == ("__classdict__" : Str)) = false := by decide) : PE X (.Name x pos) (tVar i) := by
  intro pins s σ H Q I h
  obtain ⟨v, e, h⟩ := h
  obtain ⟨m, hn, hl⟩ := I.loc
  obtain ⟨u, r, l⟩ := hl i x v hN e hv
  have fin : EP X pins σ Q u s := ⟨v, H, I, r, h⟩
  rcases l with ⟨hk, hm⟩ | ⟨hk, c, hc, hcell⟩
  · exact wpAny_Name (wpAny_loadName_local I.ok.kind hk hn hm fin) hd
  · rcases hk with hk | hk
    · exact wpAny_Name (wpAny_loadName_cell I.ok.kind hk hc hcell fin) hd
    · exact wpAny_Name (wpAny_loadName_free I.ok.kind hk hc hcell fin hcd) hd
theorem pe_int {i j pos} : PE X (.Constant (.int i) j pos) (tC (.int i)) := fun _ _ _ H _ I h => wpAny_Constant_int ⟨.int i, H, I.tok _, ⟨_, rfl⟩, h⟩
theorem pe_bl {b j pos} : PE X (.Constant (.bool b) j pos) (tC (.bl b)) := fun _ _ _ H _ I h => Constant_bool ⟨.bl b, H, I, rfl, h⟩
theorem pe_non {j pos} : PE X (.Constant .none j pos) (tC .non) := fun _ _ _ H _ I h => Constant_none ⟨.non, H, I, rfl, h⟩
theorem pe_str {x j pos} : PE X (.Constant (.str x) j pos) (tC (.str x)) := fun _ _ _ H _ I h => Calls.Constant_str ⟨.str x, H, I.tok _, ⟨_, rfl⟩, h⟩

/-- a global name of the def -/
def Gl (X : Cx) (x : Str) : Prop := X.env.kindOf x = some .globalImplicit
theorem ld_glob {E : Value → Shared → Prop} {pins : List (Addr × Obj)} {s : Shared} {σ : St} {H : Hp} {x : Str} {u : Value} {pos : Pos} {Q : Value → Shared → Prop} (I : Inv X pins σ H s) (hg : Gl X x) (hm : X.mg x = some u) (h : Q u s)
    (hd : (x == ("__debug__" : Str)) = false := by decide) : wpAny (model X.prog X.w) X.A (eval (.Name x pos) X.env) Q E s :=
  Calls.Name_function_global I.ok.kind hg (Calls.loadGlobal_global (by rw [I.ok.glob]; exact I.mod.glob.keeps I.bk) hm h) hd
theorem ld_blt {E : Value → Shared → Prop} {pins : List (Addr × Obj)} {s : Shared} {σ : St} {H : Hp} {x : Str} {u : Value} {pos : Pos} {Q : Value → Shared → Prop} (I : Inv X pins σ H s) (hg : Gl X x) (hm : X.mg x = none) (hv : bootBuiltins x = some u) (h : Q u s)
    (hn : x ≠ "__name__" := by decide) (hd : (x == ("__debug__" : Str)) = false := by decide) : wpAny (model X.prog X.w) X.A (eval (.Name x pos) X.env) Q E s := by
  obtain ⟨mb, h1, h2⟩ := I.mod.blt
  exact Calls.Name_function_global I.ok.kind hg (Calls.loadGlobal_builtin (by rw [I.ok.glob]; exact I.mod.glob.keeps I.bk) hm (by rw [I.ok.blt]; exact h1.keeps I.bk) ((h2 x hn).trans hv) h) hd
/-- a module's constant, a class, a function, as a value -/
theorem pe_glob {x : Str} {v : V} {u : Value} {pos : Pos} (hg : Gl X x) (hm : X.mg x = some u) (r : RelV v u) (hd : (x == ("__debug__" : Str)) = false := by decide) : PE X (.Name x pos) (tC v) :=
  fun _ _ _ H _ I h => ld_glob I hg hm ⟨v, H, I, r, h⟩ hd

/-! ### arithmetic -/
variable {a b : Expr} {ta tb : TE} {pos : Pos}

/-! ### comparisons -/
/-- a comparison as a value, as a test -/
def tB (t : TE) : TT := fun σ H Q => t σ H fun x H1 => ∃ c, x = .bl c ∧ Q c H1
/-- an expression whose value is a bool, as a test -/
theorem pt_val {e : Expr} {t : TE} (h : PE X e t) (he : ∀ whole, isTrue e X.env whole = (do let v ← whole; standAt e.pos; holding [v] (truthy v)) := by intro _; rfl) : PT X e (tB t) := by
  intro pins s σ H Q I hw
  refine isTrue_plain (thn (h pins s σ H _ I hw) fun v s1 ⟨x, H1, I1, r1, q1⟩ => ?_) (he _)
  obtain ⟨d, rfl, q⟩ := q1
  cases r1
  exact wpAny_truthy_bool ⟨H1, I1, q⟩

/-! ### and, or, not -/
variable {tA tB' : TT} {rest : List Expr}
def tAnd (t u : TT) : TT := fun σ H Q => t σ H fun c H1 => if c = true then u σ H1 Q else Q false H1
def tOr (t u : TT) : TT := fun σ H Q => t σ H fun c H1 => if c = true then Q true H1 else u σ H1 Q
def tNot (t : TT) : TT := fun σ H Q => t σ H fun c H1 => Q (!c) H1
theorem pw_and1 (ha : PT X a tA) : PW X (.BoolOp .And [a] pos) tA := by
  intro wh pins s σ H Q I h
  refine isTrue_and (thn (ha pins s σ H Q I h) fun c s1 e => ?_)
  cases c with
  | true => exact isTrue_and_nil e
  | false => exact e
theorem pw_or1 (ha : PT X a tA) : PW X (.BoolOp .Or [a] pos) tA := by
  intro wh pins s σ H Q I h
  refine isTrue_or (thn (ha pins s σ H Q I h) fun c s1 e => ?_)
  cases c with
  | false => exact isTrue_or_nil e
  | true => exact e
theorem pw_and (ha : PT X a tA) (hb : PW X (.BoolOp .And (b :: rest) pos) tB') : PW X (.BoolOp .And (a :: b :: rest) pos) (tAnd tA tB') := by
  intro wh pins s σ H Q I h
  refine isTrue_and (thn (ha pins s σ H _ I h) fun c s1 ⟨H1, I1, q1⟩ => ?_)
  cases c with
  | true => exact hb wh pins s1 σ H1 Q I1 q1
  | false => exact ⟨H1, I1, q1⟩
theorem pw_or (ha : PT X a tA) (hb : PW X (.BoolOp .Or (b :: rest) pos) tB') : PW X (.BoolOp .Or (a :: b :: rest) pos) (tOr tA tB') := by
  intro wh pins s σ H Q I h
  refine isTrue_or (thn (ha pins s σ H _ I h) fun c s1 ⟨H1, I1, q1⟩ => ?_)
  cases c with
  | true => exact ⟨H1, I1, q1⟩
  | false => exact hb wh pins s1 σ H1 Q I1 q1
theorem pt_not (ha : PT X a tA) : PT X (.UnaryOp .Not a pos) (tNot tA) := by
  intro pins s σ H Q I h
  exact isTrue_not (ha pins s σ H (fun c H1 => Q (!c) H1) I h)
/-- .. as values (bools) -/
def tAndV (ta tb : TE) : TE := fun σ H Q => ta σ H fun x H1 => ∃ c, x = .bl c ∧ if c = true then tb σ H1 Q else Q (.bl false) H1
def tNotV (ta : TE) : TE := fun σ H Q => ta σ H fun x H1 => ∃ c, x = .bl c ∧ Q (.bl (!c)) H1
theorem pe_one {op} {t : TE} (h : PE X a t) : PE X (.BoolOp op [a] pos) t := fun pins s σ H Q I hw => BoolOp_one (h pins s σ H Q I hw)
theorem pe_and (ha : PE X a ta) (hb : PE X (.BoolOp .And (b :: rest) pos) tb) : PE X (.BoolOp .And (a :: b :: rest) pos) (tAndV ta tb) := by
  intro pins s σ H Q I h
  refine BoolOp_and (thn (ha pins s σ H _ I h) fun v s1 ⟨x, H1, I1, r1, q1⟩ => ?_)
  obtain ⟨c, rfl, q1⟩ := q1
  cases r1
  refine wpAny_truthy_bool ?_
  cases c with
  | true => exact hb pins s1 σ H1 Q I1 q1
  | false => exact ⟨.bl false, H1, I1, rfl, q1⟩
theorem pe_not (ha : PE X a ta) : PE X (.UnaryOp .Not a pos) (tNotV ta) := by
  intro pins s σ H Q I h
  refine UnaryOp_ (thn (ha pins s σ H _ I h) fun v s1 ⟨x, H1, I1, r1, q1⟩ => ?_)
  obtain ⟨c, rfl, q1⟩ := q1
  cases r1
  exact not_of (wpAny_truthy_bool ⟨.bl (!c), H1, I1, rfl, q1⟩)
/-- a if t else b -/
def tIf (t : TT) (ta tb : TE) : TE := fun σ H Q => t σ H fun c H1 => if c = true then ta σ H1 Q else tb σ H1 Q
theorem pe_ifExp {c : Expr} (hc : PT X c tA) (ha : PE X a ta) (hb : PE X b tb) : PE X (.IfExp c a b pos) (tIf tA ta tb) := by
  intro pins s σ H Q I h
  refine wpAny_IfExp (thn (hc pins s σ H _ I h) fun d s1 ⟨H1, I1, q1⟩ => ?_)
  cases d with
  | true => exact ha pins s1 σ H1 Q I1 q1
  | false => exact hb pins s1 σ H1 Q I1 q1
end
end L2

namespace L2
open PySem PySem.Spec PyProof.Rows

/-! ### a list, a tuple that is read: tracked, frozen, or an object of the module -/
def SqL (K : PySem.W.Frag) (H : Hp) (a : Addr) (xs : List V) : Prop :=
  Rd H a (.lst xs) ∨
    ∃ (o : Obj) (its : Array Value) (n : Nat), K.lookup a = some o ∧ o.cls = .type "list" ∧ o.dict = none ∧ o.data = .seq its n ∧ its.size ≤ sizeLine ∧ Vals xs its.toList
def SqT (K : PySem.W.Frag) (H : Hp) (a : Addr) (xs : List V) : Prop :=
  Rd H a (.tup xs) ∨
    ∃ (o : Obj) (its : Array Value) (n : Nat), K.lookup a = some o ∧ o.cls = .type "tuple" ∧ o.data = .seq its n ∧ its.size ≤ sizeLine ∧ Vals xs its.toList
def absV : Value → Option V
  | .none => some .non
  | .bool b => some (.bl b)
  | .int i _ => some (.int i)
  | .str x _ => some (.str x)
  | .bytes b _ => some (.byt b)
  | .float b _ => some (.flt b)
  | .ref a => some (.ref a)
  | .type n => some (.ty n)
  | _ => none
theorem RelV.abs {x : V} {u : Value} (r : RelV x u) : absV u = some x := by
  cases x with
  | non => cases r; rfl
  | bl _ => cases r; rfl
  | int _ => obtain ⟨t, rfl⟩ := r; rfl
  | str _ => obtain ⟨t, rfl⟩ := r; rfl
  | byt _ => obtain ⟨t, rfl⟩ := r; rfl
  | flt _ => obtain ⟨t, rfl⟩ := r; rfl
  | ref _ => cases r; rfl
  | ty _ => cases r; rfl
theorem RelV.inj {x y : V} {u : Value} (r : RelV x u) (q : RelV y u) : x = y := Option.some.inj (r.abs.symm.trans q.abs)
theorem Vals.inj : ∀ {xs ys : List V} {us : List Value}, Vals xs us → Vals ys us → xs = ys
  | _, _, _, .nil, .nil => rfl
  | _, _, _, .cons r t, .cons r' t' => by rw [r.inj r', Vals.inj t t']
section
variable {X : Cx} {pins : List (Addr × Obj)} {σ : St} {H : Hp} {s : Shared} {a : Addr} {xs ys : List V}
theorem SqL.of {K : PySem.W.Frag} (h : H a = some (.lst xs)) : SqL K H a xs := .inl (.inl h)
theorem SqT.of {K : PySem.W.Frag} (h : H a = some (.tup xs)) : SqT K H a xs := .inl (.inl h)
theorem Inv.list (I : Inv X pins σ H s) (h : SqL X.K H a xs) : ∃ its : List Value, Vals xs its ∧ PlainL s.heap a its.toArray ∧ xs.length ≤ sizeLine := by
  rcases h with h | ⟨o, its, n, hk, hc, hd, hs, hz, r⟩
  · obtain ⟨z, its, n, r, e⟩ := h.ok I.hok
    exact ⟨its, r, ⟨_, n, e, rfl, rfl, rfl⟩, z⟩
  · refine ⟨its.toList, r, ⟨o, n, I.kIn a o hk, hc, hd, by simpa using hs⟩, ?_⟩
    have e := r.length
    simp only [Array.length_toList] at e
    omega
theorem Inv.tuple (I : Inv X pins σ H s) (h : SqT X.K H a xs) : ∃ its : List Value, Vals xs its ∧ IsTup s.heap a its.toArray ∧ xs.length ≤ sizeLine := by
  rcases h with h | ⟨o, its, n, hk, hc, hs, hz, r⟩
  · obtain ⟨z, its, r, p⟩ := h.ok I.hok
    exact ⟨its, r, p, z⟩
  · refine ⟨its.toList, r, ⟨o, I.kIn a o hk, hc, n, by simpa using hs⟩, ?_⟩
    have e := r.length
    simp only [Array.length_toList] at e
    omega
theorem Inv.list_inj (I : Inv X pins σ H s) (h : SqL X.K H a xs) (h' : SqL X.K H a ys) : xs = ys := by
  obtain ⟨its, r, ⟨o, n, e, _, _, d⟩, _⟩ := I.list h
  obtain ⟨its', r', ⟨o', n', e', _, _, d'⟩, _⟩ := I.list h'
  rw [e] at e'; cases e'
  rw [d] at d'
  injection d' with d1 _
  have : its = its' := by simpa using congrArg Array.toList d1
  subst this
  exact r.inj r'
theorem Inv.tuple_inj (I : Inv X pins σ H s) (h : SqT X.K H a xs) (h' : SqT X.K H a ys) : xs = ys := by
  obtain ⟨its, r, ⟨o, e, _, n, d⟩, _⟩ := I.tuple h
  obtain ⟨its', r', ⟨o', e', _, n', d'⟩, _⟩ := I.tuple h'
  rw [e] at e'; cases e'
  rw [d] at d'
  injection d' with d1 _
  have : its = its' := by simpa using congrArg Array.toList d1
  subst this
  exact r.inj r'
end

/-! ### another wish about exceptions -/
abbrev Cx.wish (X : Cx) (E : Value → Shared → Prop) : Cx := { X with xe := E }
/-- no exception leaves -/
abbrev Cx.nox (X : Cx) : Cx := X.wish fun _ _ => False
theorem Cx.Ok.wish {X : Cx} (ok : X.Ok) (E : Value → Shared → Prop) : (X.wish E).Ok :=
  ⟨ok.mod, ok.kind, ok.glob, ok.blt, ok.above, ok.inj, ok.has, ok.cab, ok.hd, ok.frames, ok.stk, ok.exf, ok.bs, ok.bsz, ok.noex, ok.exfs, ok.funs, ok.frf⟩
theorem Cx.Ok.unwish {X : Cx} {E : Value → Shared → Prop} (ok : (X.wish E).Ok) : X.Ok :=
  ⟨ok.mod, ok.kind, ok.glob, ok.blt, ok.above, ok.inj, ok.has, ok.cab, ok.hd, ok.frames, ok.stk, ok.exf, ok.bs, ok.bsz, ok.noex, ok.exfs, ok.funs, ok.frf⟩
section
variable {X : Cx} {pins : List (Addr × Obj)} {σ : St} {H : Hp} {s : Shared} {E : Value → Shared → Prop}
theorem Inv.wish (I : Inv X pins σ H s) (E : Value → Shared → Prop) : Inv (X.wish E) pins σ H s := ⟨I.ok.wish E, I.os, I.bare, I.base, I.loc, I.cell, I.free, I.freeC, I.pin, I.hok, I.len⟩
theorem Inv.unwish (I : Inv (X.wish E) pins σ H s) : Inv X pins σ H s := ⟨I.ok.unwish, I.os, I.bare, I.base, I.loc, I.cell, I.free, I.freeC, I.pin, I.hok, I.len⟩
theorem SP.unwish {D : Ends} {f : Flow} {s' : Shared} (h : SP (X.wish E) pins D f s') : SP X pins D f s' := by
  cases f with
  | next => obtain ⟨σ', H', I, q⟩ := h; exact ⟨σ', H', I.unwish, q⟩
  | brk => obtain ⟨σ', H', I, q⟩ := h; exact ⟨σ', H', I.unwish, q⟩
  | cont => obtain ⟨σ', H', I, q⟩ := h; exact ⟨σ', H', I.unwish, q⟩
  | ret u => obtain ⟨v, σ', H', I, r, q⟩ := h; exact ⟨v, σ', H', I.unwish, r, q⟩
theorem PSs.nox {st : List Stmt} {t : TS} (h : PSs X.nox st t) : PSs X st t := fun pins s σ H D I hw =>
  wpAny_mono (h pins s σ H D (I.wish _) hw) (fun _ _ q => q.unwish) fun _ _ z => False.elim z
end

/-! ### blocks and small statements -/
section
variable {X : Cx} {st : Stmt} {rest : List Stmt} {t u : TS} {e : Expr} {te : TE} {pos : Pos}
def tNext : TS := fun D σ H => D.nx σ H
def tSeq (t u : TS) : TS := fun D σ H => t { D with nx := u D } σ H
theorem pss_nil : PSs X [] tNext := fun _ _ σ H _ I h => wpAny_execs_nil ⟨σ, H, I, h⟩
theorem pss_cons (h1 : PS X st t) (h2 : PSs X rest u) : PSs X (st :: rest) (tSeq t u) := by
  intro pins s σ H D I h
  refine wpAny_execs_cons (thn (h1 pins s σ H { D with nx := u D } I h) fun f s1 q => ?_)
  cases f with
  | next =>
    obtain ⟨σ', H', I', q⟩ := q
    exact h2 pins s1 σ' H' D I' q
  | ret v => exact q
  | brk => exact q
  | cont => exact q
theorem pss_one (h1 : PS X st t) : PSs X [st] t := by
  intro pins s σ H D I h
  refine wpAny_execs_cons (thn (h1 pins s σ H D I h) fun f s1 q => ?_)
  cases f with
  | next => exact wpAny_execs_nil q
  | ret v => exact q
  | brk => exact q
  | cont => exact q
/-- in a def's body nothing is shown -/
theorem Inv.quiet {pins : List (Addr × Obj)} {σ : St} {H : Hp} {s : Shared} (I : Inv X pins σ H s) : interactive X.env = false := by simp [interactive, I.ok.kind]
/-- an expression whose value is dropped -/
def tDrop (te : TE) : TS := fun D σ H => te σ H fun _ H1 => D.nx σ H1
theorem ps_expr (he : PE X e te) (hs : swapsWith e none pos.line X.env = pure false := by rfl) : PS X (.Expr e pos) (tDrop te) := by
  intro pins s σ H D I h
  exact wpAny_Expr_any (thn (he pins s σ H _ I h) fun v s1 ⟨x, H1, I1, r1, q1⟩ => ⟨σ, H1, I1, q1⟩) I.quiet hs
def tRet (te : TE) : TS := fun D σ H => te σ H D.rt
theorem ps_ret (he : PE X e te) : PS X (.Return (some e) pos) (tRet te) := by
  intro pins s σ H D I h
  exact wpAny_Return_some (thn (he pins s σ H _ I h) fun v s1 ⟨x, H1, I1, r1, q1⟩ => ⟨x, σ, H1, I1, r1, q1⟩)
def tIfS (c : TT) (t u : TS) : TS := fun D σ H => c σ H fun b H1 => if b = true then t D σ H1 else u D σ H1
theorem ps_if {c : Expr} {a b : List Stmt} {tc : TT} (hc : PT X c tc) (ha : PSs X a t) (hb : PSs X b u) : PS X (.If c a b pos) (tIfS tc t u) := by
  intro pins s σ H D I h
  refine wpAny_If (thn (hc pins s σ H _ I h) fun d s1 ⟨H1, I1, q1⟩ => ?_)
  cases d with
  | true => exact ha pins s1 σ H1 D I1 q1
  | false => exact hb pins s1 σ H1 D I1 q1
end

/-! ### targets -/
abbrev TG := V → St → Hp → (St → Hp → Prop) → Prop
abbrev TGs := List V → St → Hp → (St → Hp → Prop) → Prop
def PG (X : Cx) (target : Expr) (t : TG) : Prop :=
  ∀ (pins : List (Addr × Obj)) (s : Shared) (σ : St) (H : Hp) (v : V) (u : Value) (Q : St → Hp → Prop), Inv X pins σ H s → RelV v u → t v σ H Q →
    wpAny (model X.prog X.w) X.A (assign target X.env u) (fun _ s' => ∃ σ' H', Inv X pins σ' H' s' ∧ Q σ' H') X.xe s
/-- several targets, one after another -/
def PGs (X : Cx) (ts : List Expr) (t : TGs) : Prop :=
  ∀ (pins : List (Addr × Obj)) (s : Shared) (σ : St) (H : Hp) (vs : List V) (us : List Value) (Q : St → Hp → Prop), Inv X pins σ H s → Vals vs us → t vs σ H Q →
    wpAny (model X.prog X.w) X.A (assignInOrder ((assignEach ts X.env).map (·.2)) us) (fun _ s' => ∃ σ' H', Inv X pins σ' H' s' ∧ Q σ' H') X.xe s
/-- o[i] = v, by values -/
abbrev TSet := V → V → V → Hp → (Hp → Prop) → Prop
def PSet (X : Cx) (t : TSet) : Prop :=
  ∀ (pins : List (Addr × Obj)) (s : Shared) (σ : St) (H : Hp) (o i v : V) (ov iv u : Value) (Q : Hp → Prop), Inv X pins σ H s → RelV o ov → RelV i iv → RelV v u → t o i v H Q →
    wpAny (model X.prog X.w) X.A (setItem ov iv u) (fun _ s' => ∃ H', Inv X pins σ H' s' ∧ Q H') X.xe s
section
variable {X : Cx} {pos : Pos}
def gName (i : Nat) : TG := fun v σ H Q => Q (σ.set i (some v)) H
theorem pg_name {i : Nat} {x : Str} (hN : X.N.Nodup) (hi : X.N[i]? = some x) (hx : Loc X.env.scope x) (hf : X.fn x = true ∨ X.env.scope.names.lookup x = some .local := by first | exact .inl rfl | exact .inr rfl | assumption) : PG X (.Name x pos) (gName i) := by
  intro pins s σ H v u Q I r h
  exact wpAny_assign_Name (store_ok I hN hi hx r (fun s' I' => ⟨_, H, I', h⟩) hf)
def gNil : TGs := fun vs σ H Q => vs = [] ∧ Q σ H
def gCons (t : TG) (u : TGs) : TGs := fun vs σ H Q => ∃ v r, vs = v :: r ∧ t v σ H fun σ' H' => u r σ' H' Q
theorem pgs_nil : PGs X [] gNil := by
  intro pins s σ H vs us Q I r h
  obtain ⟨e, h⟩ := h
  subst e
  cases r
  exact assignInOrder_nil ⟨σ, H, I, h⟩
theorem pgs_cons {e : Expr} {es : List Expr} {t : TG} {u : TGs} (h1 : PG X e t) (h2 : PGs X es u)
    (hs : (assignEach (e :: es) X.env).map (·.2) = assign e X.env :: (assignEach es X.env).map (·.2) := by rfl) : PGs X (e :: es) (gCons t u) := by
  intro pins s σ H vs us Q I r h
  obtain ⟨v, vr, e1, h⟩ := h
  subst e1
  cases r with
  | cons r rr =>
    rw [hs]
    refine assignInOrder_cons (thn (h1 pins s σ H _ _ _ I r h) fun _ s1 ⟨σ1, H1, I1, q1⟩ => ?_)
    exact h2 pins s1 σ1 H1 _ _ Q I1 rr q1
/-- (a, b, ..) = a tuple of that length -/
def gTup (K : PySem.W.Frag) (n : Nat) (t : TGs) : TG := fun v σ H Q => ∃ a xs, v = .ref a ∧ SqT K H a xs ∧ xs.length = n ∧ t xs σ H Q
theorem pg_tup {es : List Expr} {k : Nat} {t : TGs} {n : Nat} (hc : X.calm = true) (h : PGs X es t)
    (hn : (assignEach es X.env).length = n := by rfl) (hst : (assignEach es X.env).findIdx? (·.1) = none := by rfl) : PG X (.Tuple es k pos) (gTup X.K n t) := by
  intro pins s σ H v u Q I r hw
  obtain ⟨a, xs, e1, hq, hl, hw⟩ := hw
  subst e1
  cases r
  obtain ⟨its, rv, ht, hz⟩ := I.tuple hq
  refine assign_Tuple_tuple (I.ok.hd hc) ht (by simp [hn, ← hl, rv.length]) hst fun h' hx => ?_
  have I1 : Inv X pins σ H { s with heap := h' } := I.kept (t' := s.toks) fun b o e => hx b o (Nat.ne_of_lt (Heap.lt_size e)) e
  exact h pins _ σ H xs _ Q I1 (by simpa using rv) hw
/-- o[i] = .. -/
def gSub (to ti : TE) (t : TSet) : TG := fun v σ H Q => to σ H fun o H1 => ti σ H1 fun i H2 => t o i v H2 fun H3 => Q σ H3
theorem pg_sub {o i : Expr} {to ti : TE} {t : TSet} (ho : PE X o to) (hi : PE X i ti) (hs : PSet X t)
    (ha : ∀ v, assign (.Subscript o i pos) X.env v = (do
      let ov ← holding [v] (eval o X.env)
      let iv ← holding [v, ov] (eval i X.env)
      standAt pos
      holding [v, ov, iv] (setItem ov iv v)
      release [v, ov, iv] []) := by intro _; rfl) : PG X (.Subscript o i pos) (gSub to ti t) := by
  intro pins s σ H v u Q I r h
  rw [ha]
  refine wpAny_bind (wpAny_holding (thn (ho pins s σ H _ I h) fun ov s1 ⟨x, H1, I1, r1, q1⟩ => ?_))
  refine wpAny_bind (wpAny_holding (thn (hi pins s1 σ H1 _ I1 q1) fun iv s2 ⟨y, H2, I2, r2, q2⟩ => ?_))
  refine wpAny_bind (wpAny_standAt (wpAny_bind (wpAny_holding (thn (hs pins s2 σ H2 x y v ov iv u _ I2 r1 r2 r q2) fun _ s3 ⟨H3, I3, q3⟩ => ?_))))
  exact wpAny_release ⟨σ, H3, I3, q3⟩
/-- target = value -/
def tAsg (te : TE) (g : TG) : TS := fun D σ H => te σ H fun x H1 => g x σ H1 D.nx
theorem ps_asg {tg e : Expr} {te : TE} {g : TG} (he : PE X e te) (hg : PG X tg g) (hs : swapsWithSole [tg] e pos.line X.env = pure false := by rfl) (hw : swappedStores [tg] e X.env = pure none := by rfl)
    (h1 : (assignEach [tg] X.env).map (·.2) = [assign tg X.env] := by rfl) : PS X (.Assign [tg] e pos) (tAsg te g) := by
  intro pins s σ H D I h
  refine wpAny_Assign_stores (thn (he pins s σ H _ I h) fun v s1 ⟨x, H1, I1, r1, q1⟩ => ?_) hs hw
  rw [h1]
  exact thn (hg pins s1 σ H1 x v _ I1 r1 q1) fun _ s2 q => q
/-- name = value -/
theorem ps_set {i : Nat} {x : Str} {e : Expr} {te : TE} {pos' : Pos} (hN : X.N.Nodup) (hi : X.N[i]? = some x) (hx : Loc X.env.scope x) (he : PE X e te) (hs : swapsWith e (some (.Name x pos')) pos.line X.env = pure false := by rfl) (hf : X.fn x = true ∨ X.env.scope.names.lookup x = some .local := by first | exact .inl rfl | exact .inr rfl | assumption) :
    PS X (.Assign [.Name x pos'] e pos) (tAsg te (gName i)) := by
  intro pins s σ H D I h
  refine wpAny_Assign_Name (thn (he pins s σ H _ I h) fun v s1 ⟨y, H1, I1, r1, q1⟩ => ?_) hs
  exact store_ok I1 hN hi hx r1 (fun s2 I2 => ⟨_, H1, I2, q1⟩) hf
end

/-! ### while -/
section
variable {X : Cx} {pos : Pos}
end

/-! ### what a loop or a comprehension walks -/
/-- at turn i: it yields x (the heap may grow), or it stops -/
structure It where
  go : Nat → Hp → Prop
  yld : Nat → Hp → V → Hp → Prop
  stop : Nat → Hp → Prop
/-- the iterator's own objects may turn: they are not the frame's, not pinned, younger than the entry (or a comprehension's own) -/
def FpOk (X : Cx) (pins : List (Addr × Obj)) (H : Hp) (b : Addr) : Prop :=
  H b = none ∧ b ≠ X.env.locals ∧ b ∉ X.fs ∧ (b ∈ X.ex ∨ X.s₀.heap.objs.size ≤ b) ∧ (∀ x c, X.env.cells.lookup x = some c → c ≠ b) ∧ ∀ p ∈ X.pn ++ pins, p.1 ≠ b
theorem Inv.fpOk {X : Cx} {pins : List (Addr × Obj)} {σ : St} {H H' : Hp} {s : Shared} {b : Addr} (I : Inv X pins σ H s) (hb : s.heap.objs.size ≤ b) (hn : H' b = none) : FpOk X pins H' b := by
  refine ⟨hn, Nat.ne_of_gt (Nat.lt_of_lt_of_le I.lt hb), I.nofs hb, .inr (Nat.le_trans I.sz hb), fun x c e z => ?_, fun p hp z => ?_⟩
  · obtain ⟨v, q⟩ := I.cell x c e
    exact absurd (Nat.lt_of_lt_of_le q.lt (by rw [z]; exact hb)) (Nat.lt_irrefl _)
  · exact absurd (Nat.lt_of_lt_of_le (Heap.lt_size (I.pin p hp).1) (by rw [z]; exact hb)) (Nat.lt_irrefl _)
structure Turn (P : Program) (w : World) (K : PySem.W.Frag) (tg : Expr) (J : It) (fp : List Addr) (it : Addr) (tn : Nat → Heap → Prop) : Prop where
  mem : it ∈ fp
  obj : ∀ i h, tn i h → ∀ b ∈ fp, ∃ o, h.get? b = some o ∧ ∀ v, o.data ≠ .cell v
  keep : ∀ i h h', tn i h → (∀ b ∈ fp, ∀ o, h.get? b = some o → h'.get? b = some o) → tn i h'
  item : ∀ (X : Cx), X.prog = P → X.w = w → X.K = K → X.calm = true → ∀ (i : Nat) (pins : List (Addr × Obj)) (s : Shared) (σ : St) (H : Hp) (E : Value → Shared → Prop), Inv X pins σ H s → (∀ b ∈ fp, FpOk X pins H b) → tn i s.heap → J.go i H →
    wpAny (model P w) X.A (pyNext (.ref it)) (fun r s1 => ∃ u, r = some u ∧
      wpAny (model P w) X.A (letOwnedTupleGo tg (.ref it) u) (fun _ s2 => ∃ x H', Inv X pins σ H' s2 ∧ RelV x u ∧ J.yld i H x H' ∧ tn (i + 1) s2.heap ∧ ∀ b ∈ fp, H' b = none) E s1) E s
  done : ∀ (X : Cx), X.prog = P → X.w = w → X.K = K → X.calm = true → ∀ (i : Nat) (pins : List (Addr × Obj)) (s : Shared) (σ : St) (H : Hp) (E : Value → Shared → Prop), Inv X pins σ H s → (∀ b ∈ fp, FpOk X pins H b) → tn i s.heap → J.stop i H →
    wpAny (model P w) X.A (pyNext (.ref it)) (fun r s1 => r = none ∧ Inv X pins σ H s1) E s
  self : ∀ (A : Around) (i : Nat) (s : Shared) (Q : Value → Shared → Prop) (E : Value → Shared → Prop), tn i s.heap → Q (.ref it) s → wpAny (model P w) A (pyIter (.ref it)) Q E s
abbrev TI := St → Hp → (It → Hp → Prop) → Prop
/-- an iterator has come -/
def PIE (X : Cx) (pins : List (Addr × Obj)) (σ : St) (tg : Expr) (R : It → Hp → Prop) (itv : Value) (s2 : Shared) : Prop :=
  ∃ (it : Addr) (fp : List Addr) (tn : Nat → Heap → Prop) (J : It) (H' : Hp), itv = .ref it ∧ Inv X pins σ H' s2 ∧ Turn X.prog X.w X.K tg J fp it tn ∧ tn 0 s2.heap ∧ (∀ b ∈ fp, FpOk X pins H' b) ∧ R J H'
def PI (X : Cx) (tg iter : Expr) (wi : TI) : Prop :=
  ∀ (pins : List (Addr × Obj)) (s : Shared) (σ : St) (H : Hp) (R : It → Hp → Prop), Inv X pins σ H s → wi σ H R →
    wpAny (model X.prog X.w) X.A (eval iter X.env) (fun v s1 => wpAny (model X.prog X.w) X.A (pyIter v) (PIE X pins σ tg R) X.xe s1) X.xe s

/-- the step ahead of the store is nothing for an iterator that keeps no tuple -/
theorem go_of {M : Model} {A : Around} {E : Value → Shared → Prop} {s : Shared} {tg : Expr} {it : Addr} {u : Value} {o : Obj} {n : String} {vs : Array Value} {Q : Unit → Shared → Prop} (ho : s.heap.get? it = some o) (hc : o.cls = .type n) (hd : o.data = .fields vs)
    (hn : ["enumerate", "zip", "dict_itemiterator", "dict_reverseitemiterator", "odict_iterator", "itertools.zip_longest", "itertools.pairwise"].contains n = false) (hQ : Q () s) : wpAny M A (letOwnedTupleGo tg (.ref it) u) Q E s := by
  unfold letOwnedTupleGo
  cases tg <;> first
    | exact wpAny_pure hQ
    | (cases u <;> first
        | exact wpAny_pure hQ
        | (refine wpAny_bind (wpAny_load ho ?_)
           rw [hc, hd]
           show wpAny M A (if (["enumerate", "zip", "dict_itemiterator", "dict_reverseitemiterator", "odict_iterator", "itertools.zip_longest", "itertools.pairwise"].contains n && vs[0]? == some (rawInt _)) = true then _ else _) Q E s
           rw [if_neg (by intro h; rw [hn, Bool.false_and] at h; cases h)]
           exact wpAny_pure hQ))

/-- the list at a, as it stands at each turn (a loop may append to it) -/
def Itl (K : PySem.W.Frag) (a : Addr) : It :=
  ⟨fun i H => ∃ xs x, SqL K H a xs ∧ xs[i]? = some x, fun i H x H' => H' = H ∧ ∀ xs, SqL K H a xs → xs[i]? = some x, fun i H => ∃ xs, SqL K H a xs ∧ xs.length ≤ i⟩
def Itt (K : PySem.W.Frag) (a : Addr) : It :=
  ⟨fun i H => ∃ xs x, SqT K H a xs ∧ xs[i]? = some x, fun i H x H' => H' = H ∧ ∀ xs, SqT K H a xs → xs[i]? = some x, fun i H => ∃ xs, SqT K H a xs ∧ xs.length ≤ i⟩
/-- lo, lo + 1, .. (n of them) -/
def Itr (lo : Int) (n : Nat) : It := ⟨fun i _ => i < n, fun i H x H' => H' = H ∧ x = .int (lo + i), fun i _ => n ≤ i⟩
theorem turn_list {P : Program} {w : World} {K : PySem.W.Frag} {tg : Expr} (a it : Addr) : Turn P w K tg (Itl K a) [it] it (fun i h => h.IsListIter it a i) where
  mem := by simp
  obj := fun i h st b hb => by
    have e : b = it := by simpa using hb
    subst e
    obtain ⟨o, e, c, d⟩ := st
    exact ⟨o, e, fun v z => by rw [d] at z; cases z⟩
  keep := fun i h h' st k => st.at fun o e => k it (by simp) o e
  item := by
    intro X hP hw hK hc i pins s σ H E I hf st hg
    subst hP hw hK
    obtain ⟨xs, x, hq, hx⟩ := hg
    obtain ⟨its, rv, p, hz⟩ := I.list hq
    obtain ⟨u, hu, ru⟩ := rv.get hx
    obtain ⟨f0, f1, f2, f3, f4, f5⟩ := hf it (by simp)
    refine wpAny_pyNext_list_item st p.isList (x := u) (by simpa using hu) fun h' st' sb => ?_
    have I1 : Inv X pins σ H { s with heap := h' } := I.turned (t' := s.toks) (fun b o hb e => (sb.2 b hb).trans e) f0 f1 f3 f4 f5
    obtain ⟨o, e, c, d⟩ := id st'
    exact ⟨u, rfl, go_of (s := { s with heap := h' }) e c d (by decide) ⟨x, H, I1, ru, ⟨rfl, fun ys hy => by rw [I.list_inj hy hq]; exact hx⟩, st', fun b hb => (hf b hb).1⟩⟩
  done := by
    intro X hP hw hK hc i pins s σ H E I hf st hg
    subst hP hw hK
    obtain ⟨xs, hq, hx⟩ := hg
    obtain ⟨its, rv, p, hz⟩ := I.list hq
    obtain ⟨f0, f1, f2, f3, f4, f5⟩ := hf it (by simp)
    have hl := rv.length
    exact wpAny_pyNext_list_end (I.ok.hd hc) st p.isList (by simp; omega) fun h' eb => ⟨rfl, I.turned (t' := s.toks) (fun b o hb e => eb b o hb e) f0 f1 f3 f4 f5⟩
  self := fun _ _ _ _ _ st h => wpAny_pyIter_listiter st h
theorem turn_tuple {P : Program} {w : World} {K : PySem.W.Frag} {tg : Expr} (a it : Addr) : Turn P w K tg (Itt K a) [it] it (fun i h => h.IsTupleIter it a i) where
  mem := by simp
  obj := fun i h st b hb => by
    have e : b = it := by simpa using hb
    subst e
    obtain ⟨o, e, c, d⟩ := st
    exact ⟨o, e, fun v z => by rw [d] at z; cases z⟩
  keep := fun i h h' st k => st.at fun o e => k it (by simp) o e
  item := by
    intro X hP hw hK hc i pins s σ H E I hf st hg
    subst hP hw hK
    obtain ⟨xs, x, hq, hx⟩ := hg
    obtain ⟨its, rv, p, hz⟩ := I.tuple hq
    obtain ⟨u, hu, ru⟩ := rv.get hx
    obtain ⟨f0, f1, f2, f3, f4, f5⟩ := hf it (by simp)
    refine wpAny_pyNext_tuple_item st (show s.heap.IsTuple a its.toArray from p) (x := u) (by simpa using hu) fun h' st' sb => ?_
    have I1 : Inv X pins σ H { s with heap := h' } := I.turned (t' := s.toks) (fun b o hb e => (sb.2 b hb).trans e) f0 f1 f3 f4 f5
    obtain ⟨o, e, c, d⟩ := id st'
    exact ⟨u, rfl, go_of (s := { s with heap := h' }) e c d (by decide) ⟨x, H, I1, ru, ⟨rfl, fun ys hy => by rw [I.tuple_inj hy hq]; exact hx⟩, st', fun b hb => (hf b hb).1⟩⟩
  done := by
    intro X hP hw hK hc i pins s σ H E I hf st hg
    subst hP hw hK
    obtain ⟨xs, hq, hx⟩ := hg
    obtain ⟨its, rv, p, hz⟩ := I.tuple hq
    obtain ⟨f0, f1, f2, f3, f4, f5⟩ := hf it (by simp)
    have hl := rv.length
    exact wpAny_pyNext_tuple_end (I.ok.hd hc) st (show s.heap.IsTuple a its.toArray from p) (by simp; omega) fun h' eb => ⟨rfl, I.turned (t' := s.toks) (fun b o hb e => eb b o hb e) f0 f1 f3 f4 f5⟩
  self := fun _ _ _ _ _ st h => wpAny_pyIter_tupleiter st h
theorem turn_range {P : Program} {w : World} {K : PySem.W.Frag} {tg : Expr} (it : Addr) (lo : Int) (n : Nat) : Turn P w K tg (Itr lo n) [it] it (fun i h => IsRangeIter h it (lo + (i : Nat) * 1) ((n : Int) - (i : Nat)) 1) where
  mem := by simp
  obj := fun i h st b hb => by
    have e : b = it := by simpa using hb
    subst e
    exact ⟨_, st, fun v z => by
      have z' : Data.fields _ = Data.cell v := z
      cases z'⟩
  keep := fun i h h' st k => k it (by simp) _ st
  item := by
    intro X hP hw hK hc i pins s σ H E I hf st hg
    subst hP hw hK
    obtain ⟨f0, f1, f2, f3, f4, f5⟩ := hf it (by simp)
    have W := Walks.range (prog := X.prog) (w := X.w) (I.ok.hd hc) it lo 1 n
    refine W.item i s _ _ hg st fun v h' tk hv st' kk => ?_
    obtain ⟨t, rfl⟩ := hv
    have I1 : Inv X pins σ H { s with heap := h', toks := tk } := I.turned (fun b o hb e => kk b o (by simpa using hb) e) f0 f1 f3 f4 f5
    refine ⟨_, rfl, go_of (s := { s with heap := h', toks := tk }) (n := "range_iterator") st' rfl rfl (by decide) ⟨.int (lo + i), H, I1, ⟨t, ?_⟩, ⟨rfl, rfl⟩, st', fun b hb => (hf b hb).1⟩⟩
    rw [Int.mul_one]
  done := by
    intro X hP hw hK hc i pins s σ H E I hf st hg
    subst hP hw hK
    obtain ⟨f0, f1, f2, f3, f4, f5⟩ := hf it (by simp)
    exact wpAny_pyNext_range_end (I.ok.hd hc) st (by have : n ≤ i := hg; omega) fun h' eb => ⟨rfl, I.turned (t' := s.toks) (fun b o hb e => eb b o hb e) f0 f1 f3 f4 f5⟩
  self := fun _ _ _ _ _ st h => wpAny_pyIter_rangeiter st h
end L2

namespace L2
open PySem PySem.Spec PyProof.Rows
section
variable {X : Cx} {tg : Expr}
def iList (K : PySem.W.Frag) (tl : TE) : TI := fun σ H R => tl σ H fun x H1 => ∃ a, x = .ref a ∧ (∃ xs, SqL K H1 a xs) ∧ R (Itl K a) H1
def iTup (K : PySem.W.Frag) (tl : TE) : TI := fun σ H R => tl σ H fun x H1 => ∃ a, x = .ref a ∧ (∃ xs, SqT K H1 a xs) ∧ R (Itt K a) H1
theorem pi_list {l : Expr} {tl : TE} (hl : PE X l tl) : PI X tg l (iList X.K tl) := by
  intro pins s σ H R I h
  refine thn (hl pins s σ H _ I h) fun v s1 ⟨x, H1, I1, r1, q1⟩ => ?_
  obtain ⟨a, e, ⟨xs, hq⟩, q⟩ := q1
  subst e
  cases r1
  obtain ⟨its, rv, p, hz⟩ := I1.list hq
  refine wpAny_pyIter_list p.isList ?_
  refine ⟨s1.heap.objs.size, [s1.heap.objs.size], _, _, H1, rfl, I1.kept (t' := s1.toks) fun b o e => Heap.get?_push_of_some _ e, turn_list a _, ⟨_, Heap.get?_push_size _ rfl, rfl, rfl⟩, fun b hb => ?_, q⟩
  have e : b = s1.heap.objs.size := by simpa using hb
  subst e
  exact I1.fpOk (Nat.le_refl _) (I1.hok.fresh (Nat.le_refl _))
theorem pi_tup {l : Expr} {tl : TE} (hl : PE X l tl) : PI X tg l (iTup X.K tl) := by
  intro pins s σ H R I h
  refine thn (hl pins s σ H _ I h) fun v s1 ⟨x, H1, I1, r1, q1⟩ => ?_
  obtain ⟨a, e, ⟨xs, hq⟩, q⟩ := q1
  subst e
  cases r1
  obtain ⟨its, rv, p, hz⟩ := I1.tuple hq
  refine wpAny_pyIter_tuple (show s1.heap.IsTuple a its.toArray from p) ?_
  refine ⟨s1.heap.objs.size, [s1.heap.objs.size], _, _, H1, rfl, I1.kept (t' := s1.toks) fun b o e => Heap.get?_push_of_some _ e, turn_tuple a _, ⟨_, Heap.get?_push_size _ rfl, rfl, rfl⟩, fun b hb => ?_, q⟩
  have e : b = s1.heap.objs.size := by simpa using hb
  subst e
  exact I1.fpOk (Nat.le_refl _) (I1.hok.fresh (Nat.le_refl _))
/-- a range object just made, walked -/
theorem range_it {pins : List (Addr × Obj)} {σ : St} {H : Hp} {s : Shared} {R : It → Hp → Prop} {E : Value → Shared → Prop} {lo hi : Int} {t u v : Tok} {tk : Nat} (I : Inv X pins σ H s) (h1 : -(2 ^ 62) ≤ lo) (h2 : lo < 2 ^ 62) (h3 : -(2 ^ 62) ≤ hi) (h4 : hi < 2 ^ 62)
    (q : R (Itr lo (hi - lo).toNat) H) : wpAny (model X.prog X.w) X.A (pyIter (.ref s.heap.objs.size)) (PIE X pins σ tg R) E { s with heap := s.heap.push { cls := .type "range", data := .fields #[.int lo t, .int hi u, .int 1 v] }, toks := tk } := by
  refine wpAny_pyIter_range (IsRange.new ..) (small_one h1 h2 h3 h4) ?_
  have I1 : Inv X pins σ H { s with heap := s.heap.push { cls := .type "range", data := .fields #[.int lo t, .int hi u, .int 1 v] }, toks := tk } := I.kept fun b o e => Heap.get?_push_of_some _ e
  refine ⟨(s.heap.push { cls := .type "range", data := .fields #[.int lo t, .int hi u, .int 1 v] }).objs.size, [(s.heap.push { cls := .type "range", data := .fields #[.int lo t, .int hi u, .int 1 v] }).objs.size], _, _, H, rfl,
    I1.kept (t' := tk) fun b o e => Heap.get?_push_of_some _ e, turn_range _ lo (hi - lo).toNat, ?_, fun b hb => ?_, q⟩
  · have e1 : lo + ((0 : Nat) : Int) * 1 = lo := by simp
    have e2 : (((hi - lo).toNat : Nat) : Int) - ((0 : Nat) : Int) = Builtin.Range.rangeSize lo hi 1 := by rw [rangeSize_one]; split <;> omega
    show IsRangeIter _ _ (lo + ((0 : Nat) : Int) * 1) ((((hi - lo).toNat : Nat) : Int) - ((0 : Nat) : Int)) 1
    rw [e1, e2]
    exact Heap.get?_push_size _ rfl
  · have e : b = (s.heap.push { cls := .type "range", data := .fields #[.int lo t, .int hi u, .int 1 v] }).objs.size := by simpa using hb
    subst e
    exact I1.fpOk (Nat.le_refl _) (I1.hok.fresh (Nat.le_refl _))
def iRng1 (ta : TA) : TI := fun σ H R => ta σ H fun vs H1 => ∃ j : Int, vs = [.int j] ∧ -(2 ^ 62) ≤ j ∧ j < 2 ^ 62 ∧ R (Itr 0 j.toNat) H1
theorem pi_range1 {a : Expr} {ta : TA} {p pos : Pos} (hg : Gl X "range") (hm : X.mg "range" = none) (ha : PA X [a] ta) (hs : starEach [a] X.env = [(false, eval a X.env)] := by rfl) : PI X tg (.Call (.Name "range" p) [a] [] pos) (iRng1 ta) := by
  intro pins s σ H R I h
  refine Call_ (ld_blt I hg hm boot_range (PyProof.Rows.callWith_type1 (thn (ha pos pins s σ H _ I h) fun us s1 ⟨vs, H1, I1, r1, q1⟩ => ?_) hs rfl))
  obtain ⟨j, e, q1, q2, q⟩ := q1
  subst e
  cases r1 with
  | cons r rr =>
    cases rr
    obtain ⟨t, rfl⟩ := r
    exact call_range_1 (range_it I1 (by omega) (by omega) q1 q2 (by simpa using q))

/-! ### for -/
/-- W: the invariant by the turn and a measure; N: what the body is to reach -/
def tFor (wi : TI) (g : TG) (tb : TS) : TS := fun D σ H => wi σ H fun J H1 => ∃ W : Nat → Nat → St → Hp → Prop, (∃ m, W 0 m σ H1) ∧ ∀ i m σ H, W i m σ H →
  (J.stop i H ∧ D.nx σ H) ∨ (J.go i H ∧ ∃ N : St → Hp → Prop, (∀ σ' H', N σ' H' → ∃ m', m' < m ∧ W (i + 1) m' σ' H') ∧ ∀ x H', J.yld i H x H' → g x σ H' fun σ2 H2 => tb { D with nx := N, ct := N, bk := D.nx } σ2 H2)
/-- the records at fp as they stand -/
def pinsAt (fp : List Addr) (h : Heap) : List (Addr × Obj) := fp.filterMap fun b => (h.get? b).map fun o => (b, o)
theorem mem_pinsAt {fp : List Addr} {h : Heap} {b : Addr} {o : Obj} (hb : b ∈ fp) (e : h.get? b = some o) : (b, o) ∈ pinsAt fp h := List.mem_filterMap.mpr ⟨b, hb, by rw [e]; rfl⟩
theorem of_pinsAt {fp : List Addr} {h : Heap} {p : Addr × Obj} (hp : p ∈ pinsAt fp h) : p.1 ∈ fp ∧ h.get? p.1 = some p.2 := by
  obtain ⟨b, hb, e⟩ := List.mem_filterMap.mp hp
  cases q : h.get? b with
  | none => rw [q] at e; cases e
  | some o =>
    rw [q] at e
    have e' : (b, o) = p := Option.some.inj e
    subst e'
    exact ⟨hb, q⟩
theorem Inv.pinned {pins : List (Addr × Obj)} {σ : St} {H : Hp} {s : Shared} {fp : List Addr} (I : Inv X pins σ H s) (hf : ∀ b ∈ fp, FpOk X pins H b) (ho : ∀ b ∈ fp, ∃ o, s.heap.get? b = some o ∧ ∀ v, o.data ≠ .cell v) : Inv X (pins ++ pinsAt fp s.heap) σ H s :=
  I.pins_of fun p hp => (List.mem_append.mp hp).elim (fun z => I.pin p (List.mem_append_right _ z)) fun z => by
    obtain ⟨hb, e⟩ := of_pinsAt z
    obtain ⟨f0, f1, f2, _⟩ := hf p.1 hb
    obtain ⟨o, e', d⟩ := ho p.1 hb
    rw [e] at e'; cases e'
    exact ⟨e, f0, f1, f2, d⟩
theorem Inv.unpinned {pins pl : List (Addr × Obj)} {σ : St} {H : Hp} {s : Shared} (I : Inv X (pins ++ pl) σ H s) : Inv X pins σ H s := I.pins_of fun p hp => I.pin p (List.mem_append_right _ (List.mem_append_left _ hp))
theorem ps_for {iter : Expr} {body : List Stmt} {wi : TI} {g : TG} {tb : TS} {pos : Pos} (hp : PassesOwn (model X.prog X.w) X.A X.env X.xe) (hc : X.calm = true) (hi : PI X tg iter wi) (hg : PG X tg g) (hb : PSs X body tb)
    (hs : ∀ x, foldedSetIterable iter X.env x = pure x := by intro _; rfl) : PS X (.For tg iter body [] pos) (tFor wi g tb) := by
  intro pins s σ H D I h
  refine wpAny_For (thn (hi pins s σ H _ I h) fun v s1 h1 => thn h1 fun itv s2 h2 => ?_) hs
  obtain ⟨it, fp, tn, J, H2, e, I2, T, st2, f2, W, ⟨m0, w0⟩, turn⟩ := h2
  subst e
  -- what stays true of the iterator's objects through the loop
  have stat : ∀ {H' : Hp}, (∀ b ∈ fp, H' b = none) → ∀ b ∈ fp, FpOk X pins H' b := fun hn b hb => ⟨hn b hb, (f2 b hb).2⟩
  refine codeAny_forLoop_any (fun n s' => ∃ i σ' H', Inv X pins σ' H' s' ∧ tn i s'.heap ∧ (∀ b ∈ fp, H' b = none) ∧ W i n σ' H') ?_ m0 ⟨0, σ, H2, I2, st2, fun b hb => (f2 b hb).1, w0⟩
  rintro n s3 ⟨i, σ3, H3, I3, st3, fr3, w3⟩
  rcases turn i n σ3 H3 w3 with ⟨stop, qn⟩ | ⟨go, N, hN, step⟩
  · refine wpAny_passesOwn hp (thn (T.done X rfl rfl rfl hc i pins s3 σ3 H3 X.xe I3 (stat fr3) st3 stop) fun r s4 ⟨hr, I4⟩ => ?_)
    subst hr
    exact wpAny_execs_nil ⟨σ3, H3, I4, qn⟩
  · refine wpAny_passesOwn hp (thn (T.item X rfl rfl rfl hc i pins s3 σ3 H3 X.xe I3 (stat fr3) st3 go) fun r s4 ⟨u, hr, h4⟩ => ?_)
    subst hr
    refine wpAny_passesOwn hp (thn h4 fun _ s5 ⟨x, H5, I5, r5, y5, st5, fr5⟩ => ?_)
    have I5' := I5.pinned (stat fr5) (T.obj _ _ st5)
    refine wpAny_passesOwn hp (thn (hg _ s5 σ3 H5 x u _ I5' r5 (step x H5 y5)) fun _ s6 ⟨σ6, H6, I6, q6⟩ => ?_)
    refine wpAny_passesOwn hp (thn (hb _ s6 σ6 H6 _ I6 q6) fun f s7 q7 => ?_)
    have again : ∀ {σ7 : St} {H7 : Hp}, Inv X (pins ++ pinsAt fp s5.heap) σ7 H7 s7 → N σ7 H7 → ∃ m, m < n ∧ ∃ i σ' H', Inv X pins σ' H' s7 ∧ tn i s7.heap ∧ (∀ b ∈ fp, H' b = none) ∧ W i m σ' H' := fun {σ7 H7} I7 n7 => by
      obtain ⟨m', hm, w7⟩ := hN σ7 H7 n7
      refine ⟨m', hm, i + 1, σ7, H7, I7.unpinned, T.keep _ _ _ st5 fun b hb o e => (I7.pin (b, o) (List.mem_append_right _ (List.mem_append_right _ (mem_pinsAt hb e)))).1, fun b hb => ?_, w7⟩
      obtain ⟨o, e, d⟩ := T.obj _ _ st5 b hb
      exact (I7.pin (b, o) (List.mem_append_right _ (List.mem_append_right _ (mem_pinsAt hb e)))).2.1
    cases f with
    | next => obtain ⟨σ7, H7, I7, n7⟩ := q7; exact again I7 n7
    | cont => obtain ⟨σ7, H7, I7, n7⟩ := q7; exact again I7 n7
    | brk => obtain ⟨σ7, H7, I7, q7⟩ := q7; exact ⟨σ7, H7, I7.unpinned, q7⟩
    | ret v => obtain ⟨x7, σ7, H7, I7, r7, q7⟩ := q7; exact ⟨x7, σ7, H7, I7.unpinned, r7, q7⟩
end

/-! ### the forms one uses -/
/-- over a list that the body leaves as it is -/
theorem for_list {K : PySem.W.Frag} {a : Addr} {xs : List V} {g : TG} {tb : TS} {D : Ends} {σ : St} {H : Hp} (Pv : Nat → St → Hp → Prop) (h0 : Pv 0 σ H) (hl : ∀ i σ H, i ≤ xs.length → Pv i σ H → SqL K H a xs)
    (hs : ∀ i x σ H, xs[i]? = some x → Pv i σ H → g x σ H fun σ2 H2 => tb { D with nx := Pv (i + 1), ct := Pv (i + 1), bk := D.nx } σ2 H2) (hd : ∀ σ H, Pv xs.length σ H → D.nx σ H) :
    ∃ W : Nat → Nat → St → Hp → Prop, (∃ m, W 0 m σ H) ∧ ∀ i m σ H, W i m σ H →
      ((Itl K a).stop i H ∧ D.nx σ H) ∨ ((Itl K a).go i H ∧ ∃ N : St → Hp → Prop, (∀ σ' H', N σ' H' → ∃ m', m' < m ∧ W (i + 1) m' σ' H') ∧ ∀ x H', (Itl K a).yld i H x H' → g x σ H' fun σ2 H2 => tb { D with nx := N, ct := N, bk := D.nx } σ2 H2) := by
  refine ⟨fun i m σ H => m = xs.length - i ∧ i ≤ xs.length ∧ Pv i σ H, ⟨xs.length, by simp, Nat.zero_le _, h0⟩, ?_⟩
  rintro i m σ H ⟨rfl, hi, p⟩
  have q := hl i σ H hi p
  by_cases hlt : i < xs.length
  · refine .inr ⟨⟨xs, xs[i], q, by simp [hlt]⟩, Pv (i + 1), fun σ' H' p' => ⟨xs.length - (i + 1), by omega, rfl, hlt, p'⟩, fun x H' y => ?_⟩
    obtain ⟨e, y⟩ := y
    subst e
    exact hs i x σ _ (y xs q) p
  · have e : i = xs.length := by omega
    subst e
    exact .inl ⟨⟨xs, q, Nat.le_refl _⟩, hd σ H p⟩
theorem for_tup {K : PySem.W.Frag} {a : Addr} {xs : List V} {g : TG} {tb : TS} {D : Ends} {σ : St} {H : Hp} (Pv : Nat → St → Hp → Prop) (h0 : Pv 0 σ H) (hl : ∀ i σ H, i ≤ xs.length → Pv i σ H → SqT K H a xs)
    (hs : ∀ i x σ H, xs[i]? = some x → Pv i σ H → g x σ H fun σ2 H2 => tb { D with nx := Pv (i + 1), ct := Pv (i + 1), bk := D.nx } σ2 H2) (hd : ∀ σ H, Pv xs.length σ H → D.nx σ H) :
    ∃ W : Nat → Nat → St → Hp → Prop, (∃ m, W 0 m σ H) ∧ ∀ i m σ H, W i m σ H →
      ((Itt K a).stop i H ∧ D.nx σ H) ∨ ((Itt K a).go i H ∧ ∃ N : St → Hp → Prop, (∀ σ' H', N σ' H' → ∃ m', m' < m ∧ W (i + 1) m' σ' H') ∧ ∀ x H', (Itt K a).yld i H x H' → g x σ H' fun σ2 H2 => tb { D with nx := N, ct := N, bk := D.nx } σ2 H2) := by
  refine ⟨fun i m σ H => m = xs.length - i ∧ i ≤ xs.length ∧ Pv i σ H, ⟨xs.length, by simp, Nat.zero_le _, h0⟩, ?_⟩
  rintro i m σ H ⟨rfl, hi, p⟩
  have q := hl i σ H hi p
  by_cases hlt : i < xs.length
  · refine .inr ⟨⟨xs, xs[i], q, by simp [hlt]⟩, Pv (i + 1), fun σ' H' p' => ⟨xs.length - (i + 1), by omega, rfl, hlt, p'⟩, fun x H' y => ?_⟩
    obtain ⟨e, y⟩ := y
    subst e
    exact hs i x σ _ (y xs q) p
  · have e : i = xs.length := by omega
    subst e
    exact .inl ⟨⟨xs, q, Nat.le_refl _⟩, hd σ H p⟩
theorem for_range {lo : Int} {n : Nat} {g : TG} {tb : TS} {D : Ends} {σ : St} {H : Hp} (Pv : Nat → St → Hp → Prop) (h0 : Pv 0 σ H)
    (hs : ∀ i σ H, i < n → Pv i σ H → g (.int (lo + i)) σ H fun σ2 H2 => tb { D with nx := Pv (i + 1), ct := Pv (i + 1), bk := D.nx } σ2 H2) (hd : ∀ σ H, Pv n σ H → D.nx σ H) :
    ∃ W : Nat → Nat → St → Hp → Prop, (∃ m, W 0 m σ H) ∧ ∀ i m σ H, W i m σ H →
      ((Itr lo n).stop i H ∧ D.nx σ H) ∨ ((Itr lo n).go i H ∧ ∃ N : St → Hp → Prop, (∀ σ' H', N σ' H' → ∃ m', m' < m ∧ W (i + 1) m' σ' H') ∧ ∀ x H', (Itr lo n).yld i H x H' → g x σ H' fun σ2 H2 => tb { D with nx := N, ct := N, bk := D.nx } σ2 H2) := by
  refine ⟨fun i m σ H => m = n - i ∧ i ≤ n ∧ Pv i σ H, ⟨n, by simp, Nat.zero_le _, h0⟩, ?_⟩
  rintro i m σ H ⟨rfl, hi, p⟩
  by_cases hlt : i < n
  · refine .inr ⟨hlt, Pv (i + 1), fun σ' H' p' => ⟨n - (i + 1), by omega, rfl, hlt, p'⟩, fun x H' y => ?_⟩
    obtain ⟨e, y⟩ := y
    subst e y
    exact hs i σ _ hlt p
  · have e : i = n := by omega
    subst e
    exact .inl ⟨Nat.le_refl _, hd σ H p⟩
end L2

namespace L2
open PySem PySem.Spec PyProof.Rows

abbrev R2 := V → V → Hp → VK → Prop
/-- a two-place operation on values: f is binaryOp op, inplaceOp op or compareOp op -/
def OpR (X : Cx) (f : Value → Value → Sem Value) (r : R2) : Prop :=
  ∀ (pins : List (Addr × Obj)) (s : Shared) (σ : St) (H : Hp) (x y : V) (v u : Value) (Q : VK), Inv X pins σ H s → RelV x v → RelV y u → r x y H Q →
    wpAny (model X.prog X.w) X.A (f v u) (EP X pins σ Q) X.xe s
/-- a call of a value that is known (a builtin, a type) with values -/
def CallR (X : Cx) (f : Value) (r : List V → Hp → VK → Prop) : Prop :=
  ∀ (pins : List (Addr × Obj)) (s : Shared) (σ : St) (H : Hp) (xs : List V) (us : List Value) (Q : VK), Inv X pins σ H s → Vals xs us → r xs H Q →
    wpAny (model X.prog X.w) X.A (call f us) (EP X pins σ Q) X.xe s

def tOp (r : R2) (ta tb : TE) : TE := fun σ H Q => ta σ H fun x H1 => tb σ H1 fun y H2 => r x y H2 Q
/-- ints in, under C, and a value out -/
def rI (C : Int → Int → Prop) (g : Int → Int → V) : R2 := fun x y H Q => ∃ i j, x = .int i ∧ y = .int j ∧ C i j ∧ Q (g i j) H
def rI0 (g : Int → Int → V) : R2 := fun x y H Q => ∃ i j, x = .int i ∧ y = .int j ∧ Q (g i j) H

section
variable {X : Cx} {a b c : Expr} {ta tb tc : TE} {pos : Pos}

theorem binT (ha : PE X a ta) (hb : PE X b tb) {pins : List (Addr × Obj)} {s : Shared} {σ : St} {H : Hp} {R : V → V → Hp → Prop} (I : Inv X pins σ H s)
    (h : ta σ H fun x H1 => tb σ H1 fun y H2 => R x y H2) {Q : Value → Shared → Prop} {f : Value → Value → Sem Value}
    (hf : ∀ v u s2 x y H2, Inv X pins σ H2 s2 → RelV x v → RelV y u → R x y H2 → wpAny (model X.prog X.w) X.A (f v u) Q X.xe s2) :
    wpAny (model X.prog X.w) X.A (eval a X.env) (fun v s₁ => wpAny (model X.prog X.w) X.A (eval b X.env) (fun u s₂ => wpAny (model X.prog X.w) X.A (f v u) Q X.xe s₂) X.xe s₁) X.xe s := by
  refine thn (ha pins s σ H _ I h) fun v s1 ⟨x, H1, I1, r1, q1⟩ => ?_
  refine thn (hb pins s1 σ H1 _ I1 q1) fun u s2 ⟨y, H2, I2, r2, q2⟩ => ?_
  exact hf v u s2 x y H2 I2 r1 r2 q2

theorem pe_op {op : Operator} {r : R2} (ho : OpR X (binaryOp op) r) (ha : PE X a ta) (hb : PE X b tb) : PE X (.BinOp a op b pos) (tOp r ta tb) := by
  intro pins s σ H Q I h
  exact wpAny_BinOp (binT ha hb I h fun v u s2 x y H2 I2 rx ry q => ho pins s2 σ H2 x y v u Q I2 rx ry q)

/-! ### ints -/
theorem opI {f : Value → Value → Sem Value} {C : Int → Int → Prop} {g : Int → Int → Int}
    (rule : ∀ (i j : Int) (t u : Tok) (s : Shared) (Q : Value → Shared → Prop) (E : Value → Shared → Prop), C i j → Q (.int (g i j) s.toks) { s with toks := s.toks + 1 } → wpAny (model X.prog X.w) X.A (f (.int i t) (.int j u)) Q E s) :
    OpR X f (rI C fun i j => .int (g i j)) := by
  intro pins s σ H x y v u Q I rx ry h
  obtain ⟨i, j, rfl, rfl, hc, q⟩ := h
  obtain ⟨t, rfl⟩ := rx
  obtain ⟨t', rfl⟩ := ry
  exact rule i j t t' s _ _ hc ⟨.int (g i j), H, I.tok _, ⟨_, rfl⟩, q⟩
theorem opI0 {f : Value → Value → Sem Value} {g : Int → Int → Int}
    (rule : ∀ (i j : Int) (t u : Tok) (s : Shared) (Q : Value → Shared → Prop) (E : Value → Shared → Prop), Q (.int (g i j) s.toks) { s with toks := s.toks + 1 } → wpAny (model X.prog X.w) X.A (f (.int i t) (.int j u)) Q E s) :
    OpR X f (rI0 fun i j => .int (g i j)) := by
  intro pins s σ H x y v u Q I rx ry h
  obtain ⟨i, j, rfl, rfl, q⟩ := h
  obtain ⟨t, rfl⟩ := rx
  obtain ⟨t', rfl⟩ := ry
  exact rule i j t t' s _ _ ⟨.int (g i j), H, I.tok _, ⟨_, rfl⟩, q⟩
theorem opB0 {f : Value → Value → Sem Value} {g : Int → Int → Bool}
    (rule : ∀ (i j : Int) (t u : Tok) (s : Shared) (Q : Value → Shared → Prop) (E : Value → Shared → Prop), Q (.bool (g i j)) s → wpAny (model X.prog X.w) X.A (f (.int i t) (.int j u)) Q E s) :
    OpR X f (rI0 fun i j => .bl (g i j)) := by
  intro pins s σ H x y v u Q I rx ry h
  obtain ⟨i, j, rfl, rfl, q⟩ := h
  obtain ⟨t, rfl⟩ := rx
  obtain ⟨t', rfl⟩ := ry
  exact rule i j t t' s _ _ ⟨.bl (g i j), H, I, rfl, q⟩

def CDiv (i j : Int) : Prop := 0 < j ∧ j < 1073741824
def CPow (i j : Int) : Prop := 0 ≤ j ∧ j ≤ 1000000 ∧ i.natAbs < 2 ^ 64
def CMul (i j : Int) : Prop := (-(2 ^ 64) < i ∧ i < 2 ^ 64) ∨ (-(2 ^ 64) < j ∧ j < 2 ^ 64)
theorem CMul.ok {i j : Int} (h : CMul i j) : IntMulOk i j := by
  rcases h with ⟨h1, h2⟩ | ⟨h1, h2⟩
  · exact .of_left (intBits_le_64 h1 h2)
  · exact .of_right (intBits_le_64 h1 h2)

theorem op_add : OpR X (binaryOp .Add) (rI0 fun i j => .int (i + j)) := opI0 fun _ _ _ _ _ _ _ q => add_int q
theorem op_sub : OpR X (binaryOp .Sub) (rI0 fun i j => .int (i - j)) := opI0 fun _ _ _ _ _ _ _ q => sub_int q
theorem op_mul : OpR X (binaryOp .Mult) (rI CMul fun i j => .int (i * j)) := opI fun _ _ _ _ _ _ _ hc q => mul_int q hc.ok
/-- // by a positive divisor -/
theorem op_fdiv : OpR X (binaryOp .FloorDiv) (rI CDiv fun i j => .int (i / j)) := opI fun i j _ _ _ _ _ hc q => by
  have h1 : (0 : Int) < j := hc.1
  have h2 : j < 1073741824 := hc.2
  exact floordiv_int (by omega) (by rw [Int.fdiv_eq_ediv_of_nonneg i (by omega)]; exact q) (.inl (PyProof.noPylong_small (by omega)))
/-- % by a positive divisor of any size -/
theorem op_mod : OpR X (binaryOp .Mod) (rI (fun _ j => 0 < j) fun i j => .int (i % j)) := opI fun i j _ _ _ _ _ hc q => by
  have h1 : (0 : Int) < j := hc
  exact mod_int' (by omega) (by rw [Int.fmod_eq_emod_of_nonneg i (by omega)]; exact q)
theorem op_pow : OpR X (binaryOp .Pow) (rI CPow fun i j => .int (i ^ j.toNat)) := opI fun _ _ _ _ _ _ _ hc q => pow_int_small hc.1 hc.2.1 hc.2.2 q



/-! ### bools among ints: n += (a < b) -/
end

/-! ### comparisons -/
/-- the scalars that == tells apart as data does -/
def scal : V → V → Bool
  | .non, .non => true | .non, .int _ => true | .int _, .non => true | .non, .bl _ => true | .bl _, .non => true | .non, .str _ => true | .str _, .non => true
  | .int _, .int _ => true | .bl _, .bl _ => true | .str _, .str _ => true | .byt _, .byt _ => true
  | .int _, .str _ => true | .str _, .int _ => true | .bl _, .str _ => true | .str _, .bl _ => true
  | _, _ => false
def rEq : R2 := fun x y H Q => scal x y = true ∧ Q (.bl (decide (x = y))) H
def rNe : R2 := fun x y H Q => scal x y = true ∧ Q (.bl (!decide (x = y))) H

theorem dec_int {i j : Int} : decide (V.int i = V.int j) = (i == j) := by
  rw [Bool.eq_iff_iff]
  simp
theorem dec_bl {i j : Bool} : decide (V.bl i = V.bl j) = (i == j) := by
  rw [Bool.eq_iff_iff]
  simp
theorem dec_str {i j : Str} : decide (V.str i = V.str j) = (i == j) := by
  rw [Bool.eq_iff_iff]
  simp
theorem dec_byt {i j : Array UInt8} : decide (V.byt i = V.byt j) = (i.toList == j.toList) := by
  rw [Bool.eq_iff_iff]
  cases i
  cases j
  simp

section
variable {X : Cx} {a b c : Expr} {ta tb tc : TE} {pos : Pos}
theorem fin_bl {pins : List (Addr × Obj)} {σ : St} {H : Hp} {s : Shared} {Q : VK} {k k' : Bool} (I : Inv X pins σ H s) (q : Q (.bl k) H) (e : k = k') : EP X pins σ Q (.bool k') s := by
  subst e
  exact ⟨.bl k, H, I, rfl, q⟩
theorem op_eq : OpR X (compareOp .Eq) rEq := by
  intro pins s σ H x y v u Q I rx ry h
  obtain ⟨hs, q⟩ := h
  cases x with
  | non =>
    cases rx
    cases y with
    | non => cases ry; exact PySem.EqNone.eq_none_none (fin_bl I q (by simp))
    | bl j => cases ry; exact PySem.EqNone.eq_none_bool (fin_bl I q (by simp))
    | int j => obtain ⟨t', rfl⟩ := ry; exact PySem.EqNone.eq_none_int (fin_bl I q (by simp))
    | str j => obtain ⟨t', rfl⟩ := ry; exact PySem.EqNone.eq_none_str (fin_bl I q (by simp))
    | _ => exact absurd (show false = true from hs) Bool.false_ne_true
  | bl i =>
    cases rx
    cases y with
    | non => cases ry; exact PySem.EqNone.eq_bool_none (fin_bl I q (by simp))
    | bl j => cases ry; exact eq_bool (fin_bl I q dec_bl)
    | str j => obtain ⟨t', rfl⟩ := ry; exact PySem.EqMixed.eq_bool_str (fin_bl I q (by simp))
    | _ => exact absurd (show false = true from hs) Bool.false_ne_true
  | int i =>
    obtain ⟨t, rfl⟩ := rx
    cases y with
    | non => cases ry; exact PySem.EqNone.eq_int_none (fin_bl I q (by simp))
    | int j => obtain ⟨t', rfl⟩ := ry; exact eq_int (fin_bl I q dec_int)
    | str j => obtain ⟨t', rfl⟩ := ry; exact PySem.EqMixed.eq_int_str (fin_bl I q (by simp))
    | _ => exact absurd (show false = true from hs) Bool.false_ne_true
  | str i =>
    obtain ⟨t, rfl⟩ := rx
    cases y with
    | non => cases ry; exact PySem.EqNone.eq_str_none (fin_bl I q (by simp))
    | bl j => cases ry; exact PySem.EqMixed.eq_str_bool (fin_bl I q (by simp))
    | int j => obtain ⟨t', rfl⟩ := ry; exact PySem.EqMixed.eq_str_int (fin_bl I q (by simp))
    | str j => obtain ⟨t', rfl⟩ := ry; exact eq_str (fin_bl I q dec_str)
    | _ => exact absurd (show false = true from hs) Bool.false_ne_true
  | byt i =>
    obtain ⟨t, rfl⟩ := rx
    cases y with
    | byt j => obtain ⟨t', rfl⟩ := ry; exact PySem.W.eq_bytes (fin_bl I q dec_byt)
    | _ => exact absurd (show false = true from hs) Bool.false_ne_true
  | _ => cases y <;> exact absurd (show false = true from hs) Bool.false_ne_true
theorem op_ne : OpR X (compareOp .NotEq) rNe := by
  intro pins s σ H x y v u Q I rx ry h
  obtain ⟨hs, q⟩ := h
  cases x with
  | non =>
    cases rx
    cases y with
    | non => cases ry; exact PySem.EqNone.ne_none_none (fin_bl I q (by simp))
    | bl j => cases ry; exact PySem.EqNone.ne_none_bool (fin_bl I q (by simp))
    | int j => obtain ⟨t', rfl⟩ := ry; exact PySem.EqNone.ne_none_int (fin_bl I q (by simp))
    | str j => obtain ⟨t', rfl⟩ := ry; exact PySem.EqNone.ne_none_str (fin_bl I q (by simp))
    | _ => exact absurd (show false = true from hs) Bool.false_ne_true
  | bl i =>
    cases rx
    cases y with
    | non => cases ry; exact PySem.EqNone.ne_bool_none (fin_bl I q (by simp))
    | bl j => cases ry; exact ne_bool (fin_bl I q (congrArg not dec_bl))
    | str j => obtain ⟨t', rfl⟩ := ry; exact PySem.EqMixed.ne_bool_str (fin_bl I q (by simp))
    | _ => exact absurd (show false = true from hs) Bool.false_ne_true
  | int i =>
    obtain ⟨t, rfl⟩ := rx
    cases y with
    | non => cases ry; exact PySem.EqNone.ne_int_none (fin_bl I q (by simp))
    | int j => obtain ⟨t', rfl⟩ := ry; exact ne_int (fin_bl I q (congrArg not dec_int))
    | str j => obtain ⟨t', rfl⟩ := ry; exact PySem.EqMixed.ne_int_str (fin_bl I q (by simp))
    | _ => exact absurd (show false = true from hs) Bool.false_ne_true
  | str i =>
    obtain ⟨t, rfl⟩ := rx
    cases y with
    | non => cases ry; exact PySem.EqNone.ne_str_none (fin_bl I q (by simp))
    | bl j => cases ry; exact PySem.EqMixed.ne_str_bool (fin_bl I q (by simp))
    | int j => obtain ⟨t', rfl⟩ := ry; exact PySem.EqMixed.ne_str_int (fin_bl I q (by simp))
    | str j => obtain ⟨t', rfl⟩ := ry; exact ne_str (fin_bl I q (congrArg not dec_str))
    | _ => exact absurd (show false = true from hs) Bool.false_ne_true
  | byt i =>
    obtain ⟨t, rfl⟩ := rx
    cases y with
    | byt j => obtain ⟨t', rfl⟩ := ry; exact PySem.W.ne_bytes (fin_bl I q (congrArg not dec_byt))
    | _ => exact absurd (show false = true from hs) Bool.false_ne_true
  | _ => cases y <;> exact absurd (show false = true from hs) Bool.false_ne_true

theorem op_lt : OpR X (compareOp .Lt) (rI0 fun i j => .bl (decide (i < j))) := opB0 fun _ _ _ _ _ _ _ q => lt_int q
theorem op_gt : OpR X (compareOp .Gt) (rI0 fun i j => .bl (decide (j < i))) := opB0 fun _ _ _ _ _ _ _ q => gt_int q
theorem op_ge : OpR X (compareOp .GtE) (rI0 fun i j => .bl (decide (j ≤ i))) := opB0 fun _ _ _ _ _ _ _ q => ge_int q

/-- is None, is not None: the right side a value none -/
theorem op_isN : OpR X (compareOp .Is) (fun x y H Q => y = .non ∧ Q (.bl (decide (x = .non))) H) := by
  intro pins s σ H x y v u Q I rx ry h
  obtain ⟨rfl, q⟩ := h
  cases ry
  refine is_none_gen (fin_bl I q ?_)
  cases x <;> first
    | (cases rx; rfl)
    | (obtain ⟨t, rfl⟩ := rx; rfl)
theorem op_notN : OpR X (compareOp .IsNot) (fun x y H Q => y = .non ∧ Q (.bl (!decide (x = .non))) H) := by
  intro pins s σ H x y v u Q I rx ry h
  obtain ⟨rfl, q⟩ := h
  cases ry
  refine isnot_none_gen (fin_bl I q ?_)
  cases x <;> first
    | (cases rx; rfl)
    | (obtain ⟨t, rfl⟩ := rx; rfl)


/-- two rules for one operation: by cases -/
theorem OpR.or {f : Value → Value → Sem Value} {r r' : R2} (h : OpR X f r) (h' : OpR X f r') : OpR X f (fun x y H Q => r x y H Q ∨ r' x y H Q) := by
  intro pins s σ H x y v u Q I rx ry q
  rcases q with q | q
  · exact h pins s σ H x y v u Q I rx ry q
  · exact h' pins s σ H x y v u Q I rx ry q

theorem nomark (b : Expr) {op : CmpOp} (h : op ≠ .In := by decide) (h2 : op ≠ .NotIn := by decide) : behindInMarks op b = false := by
  have e1 : (op == CmpOp.In) = false := by cases op <;> first | rfl | exact absurd rfl h
  have e2 : (op == CmpOp.NotIn) = false := by cases op <;> first | rfl | exact absurd rfl h2
  cases b <;> simp [behindInMarks, e1, e2]
/-- a comparison as a value; hm: nomark b, or (for in, not in) by with_unfolding_all rfl -/
theorem pe_cmpR {op : CmpOp} {r : R2} (ho : OpR X (compareOp op) r) (ha : PE X a ta) (hb : PE X b tb) (hm : behindInMarks op b = false) : PE X (.Compare a [op] [b] pos) (tOp r ta tb) := by
  intro pins s σ H Q I h
  exact wpAny_Compare1 (binT ha hb I h fun v u s2 x y H2 I2 rx ry q => ho pins s2 σ H2 x y v u Q I2 rx ry q) hm
/-- a reading of a value as a test -/
def tTest (t : TE) : TT := fun σ H Q => t σ H fun x H' => ∃ k, x = .bl k ∧ Q k H'
theorem pt_cmpR {op : CmpOp} {r : R2} (ho : OpR X (compareOp op) r) (ha : PE X a ta) (hb : PE X b tb) (hm : behindInMarks op b = false) : PT X (.Compare a [op] [b] pos) (tTest (tOp r ta tb)) := by
  intro pins s σ H Q I h
  refine wpAny_isTrue_Compare1 (thn (ha pins s σ H _ I h) fun v s1 ⟨x, H1, I1, r1, q1⟩ => thn (hb pins s1 σ H1 _ I1 q1) fun u s2 ⟨y, H2, I2, r2, q2⟩ =>
    thn (ho pins s2 σ H2 x y v u _ I2 r1 r2 q2) fun c s3 ⟨z, H3, I3, r3, k, e, q3⟩ => ?_) hm
  subst e
  cases r3
  exact wpAny_truthy_bool ⟨H3, I3, q3⟩

/-! ### truth -/
theorem line63 : (sizeLine : Nat) < 2 ^ 63 := by rw [sizeLine_eq]; decide

/-! ### strs and bytes -/
theorem op_add_str : OpR X (binaryOp .Add) (fun x y H Q => ∃ i j, x = .str i ∧ y = .str j ∧ i.length + j.length ≤ sizeLine ∧ Q (.str (i ++ j)) H) := by
  intro pins s σ H x y v u Q I rx ry h
  obtain ⟨i, j, rfl, rfl, hz, q⟩ := h
  obtain ⟨t, rfl⟩ := rx
  obtain ⟨t', rfl⟩ := ry
  exact add_str (fun t' tk => ⟨.str (i ++ j), H, I.tok _, ⟨_, rfl⟩, q⟩) hz


/-! ### scalar builtins, by CallR -/
theorem vals1 {x : V} {us : List Value} (r : Vals [x] us) : ∃ u, us = [u] ∧ RelV x u := by
  cases r with
  | cons r1 r2 => cases r2; exact ⟨_, rfl, r1⟩
theorem vals2 {x y : V} {us : List Value} (r : Vals [x, y] us) : ∃ u w', us = [u, w'] ∧ RelV x u ∧ RelV y w' := by
  cases r with
  | cons r1 r2 =>
    cases r2 with
    | cons r3 r4 => cases r4; exact ⟨_, _, rfl, r1, r3⟩
theorem call_int1 : CallR X (.type "int") (fun xs H Q => (∃ i, xs = [.int i] ∧ Q (.int i) H) ∨ ∃ k, xs = [.bl k] ∧ Q (.int (if k then 1 else 0)) H) := by
  intro pins s σ H xs us Q I r h
  rcases h with ⟨i, rfl, q⟩ | ⟨k, rfl, q⟩
  · obtain ⟨u, rfl, t, rfl⟩ := vals1 r
    exact call_int_int ⟨.int i, H, I, ⟨_, rfl⟩, q⟩
  · obtain ⟨u, rfl, r1⟩ := vals1 r
    cases r1
    exact call_int_bool ⟨.int (if k then 1 else 0), H, I.tok _, ⟨_, rfl⟩, q⟩
theorem call_str_int : CallR X (.type "str") (fun xs H Q => ∃ i, xs = [.int i] ∧ i.natAbs.log2 < 1920 ∧ Q (.str (toString i)) H) := by
  intro pins s σ H xs us Q I r h
  obtain ⟨i, rfl, hz, q⟩ := h
  obtain ⟨u, rfl, t, rfl⟩ := vals1 r
  exact PySem.P.str_of_int hz ⟨.str _, H, I.tok _, ⟨_, rfl⟩, q⟩
end
end L2

namespace L2
open PySem PySem.Spec PyProof.Rows

/-! ### an instance, its attributes a map -/
structure ObjM (h : Heap) (x dx C : Addr) (mA : Str → Option Value) : Prop where
  obj : h.get? x = some (PySem.W.instObj C dx)
  ns : h.Ns1 dx mA
  ne : dx ≠ x

theorem lookIn_ns {h : Heap} {dx : Addr} {mA : Str → Option Value} (n : h.Ns1 dx mA) : ∃ od, h.get? dx = some od ∧ ∀ name, PySem.W.lookIn name od = some (mA name) := by
  obtain ⟨o, es, ep, ho, hd, hk, _, hm⟩ := n
  refine ⟨o, ho, fun name => ?_⟩
  have e := hm name
  unfold nsFind findBy at e
  rw [← Array.find?_toList] at e
  unfold PySem.W.lookIn
  rw [hd]
  dsimp only
  split
  · rename_i y q
    rw [q] at e
    exact congrArg some e
  · rename_i q
    rw [q] at e
    have a : es.toList.any (·.refKey) = false := by
      rw [List.any_eq_false]
      intro y hy
      obtain ⟨z, t, hkey⟩ := hk y (Array.mem_toList_iff.mp hy)
      simp [DictEntry.refKey, hkey]
    have a' : ¬ es.toList.any (·.refKey) = true := by rw [a]; exact Bool.false_ne_true
    rw [if_neg a']
    exact congrArg some e

theorem ObjM.look {h : Heap} {x dx C : Addr} {mA : Str → Option Value} (I : ObjM h x dx C mA) : ∃ od, PySem.W.InstAt h x (PySem.W.instObj C dx) C (some od) ∧ ∀ name, PySem.W.lookIn name od = some (mA name) :=
  let ⟨od, ho, hl⟩ := lookIn_ns I.ns
  ⟨od, ⟨I.obj, rfl, rfl, ho⟩, hl⟩

section
variable {prog : Program} {w : World} {A : Around} {E : Value → Shared → Prop} {s : Shared} {K : PySem.W.Frag} {x dx C f : Addr} {mA : Str → Option Value} {name : Str} {v : Value}

theorem get_map {expr : Bool} {Q : Value → Shared → Prop} (X : K.In s.heap) (I : ObjM s.heap x dx C mA) (hg : PySem.W.plainGet K C name = true) (hh : PySem.W.hasDictIn K C = true)
    (ha : PySem.W.findIn K (.ref C) name = some none) (hv : mA name = some v) (hv' : PySem.W.handedIn v = true) (h : Q v { s with toks := s.toks + 1 }) :
    wpAny (model prog w) A (getAttr (.ref x) name expr) Q E s := by
  obtain ⟨od, J, hl⟩ := I.look
  exact PySem.W.get_value X J (PySem.W.plainGet_of hg).1 (PySem.W.findObj_own hh ha rfl (by rw [hl, hv])) hv' h



theorem set_map {ns : List Str} {Q : Unit → Shared → Prop} (X : K.In s.heap) (I : ObjM s.heap x dx C mA)
    (hs : PySem.W.findIn K (.ref C) "__setattr__" = some (some (.builtin "object.__setattr__"))) (hp : PySem.W.plainOver K C = true) (ht : PySem.W.takerIn K C name = some none) (hh : PySem.W.hasDictIn K C = true)
    (hw : PySem.Within mA ns) (hsz : ns.length ≤ sizeLine)
    (h : ∀ h', ObjM h' x dx C (fun y => if y = name then some v else mA y) → Heap.SameBut dx s.heap h' → Q () { s with heap := h', toks := s.toks + 2 }) :
    wpAny (model prog w) A (setAttr (.ref x) name v) Q E s := by
  obtain ⟨od, J, hl⟩ := I.look
  refine PySem.W.set_plain X J hs (PySem.W.osa_open (s := { s with toks := s.toks + 1 }) (r := none) X J hp ht fun b => ?_)
  obtain ⟨cd, hc, hd'⟩ := PySem.W.any_some hh
  have hx : s.heap.get? x = some ⟨.ref C, some dx, .plain, #[]⟩ := I.obj
  refine wpAny_bind (wpAny_pure (wpAny_bind (wpAny_bind (wpAny_loadPart hx (wpAny_bind (PySem.W.Looks.here (s := { s with toks := s.toks + 1 }) (PySem.W.looks_clsIn X hc) ?_))))))
  rw [hd']
  refine wpAny_pure (a := some dx) (wpAny_bind (wpAny_pure (wpAny_bind ?_)))
  refine wpAny_nsSet1 (s := { s with toks := s.toks + 1 }) I.ns fun h' hn2 hs2 => ?_
  obtain ⟨oD, esD, epD, hoD, hdD, hcD⟩ := hn2.count (PySem.Within.cons name v hw)
  refine wpAny_bind (wpAny_lookBehind hoD (by rw [hdD]; exact pastItsLine_dict (Nat.le_trans hcD (by rw [List.length_cons]; omega))) ?_)
  exact wpAny_pure (h _ ⟨(hs2.2 _ (Ne.symm I.ne)).trans I.obj, hn2, I.ne⟩ hs2)

/-- C(..): the dict at the heap's end, the instance behind it; then its __init__ -/
theorem make_map {R : Result → Shared → Prop} {vs : List Value} {kw : List (Str × Value)} (X : K.In s.heap) (hm : PySem.W.makesIn K C = true)
    (hi : PySem.W.findIn K (.ref C) "__init__" = some (some (.ref f))) (hf : PySem.W.typeIn K (.ref f) = some (.type "function"))
    (h : codeAny (model prog w) (A.under (.builtin "type.__call__" ⟨.ref C :: vs, kw⟩)) (.call (.ref f) ⟨.ref (s.heap.objs.size + 1) :: vs, kw⟩) (PySem.W.InitBack (s.heap.objs.size + 1) R)
      { s with heap := (s.heap.push PySem.W.emptyDict).push (PySem.W.instObj C s.heap.objs.size) }) :
    codeAny (model prog w) A (.call (.ref C) ⟨vs, kw⟩) R s := by
  obtain ⟨hh, g, d, t, os⟩ := s
  exact PySem.W.make_core (PySem.W.makes_of X hm) (PySem.W.looks_findIn X hi) (fun self => PySem.W.bind_fn X self hf) (.inl rfl) h
end

/-! ### the attributes as a list of pairs -/
def putF (f : Str) (v : V) : List (Str × V) → List (Str × V)
  | [] => [(f, v)]
  | (g, x) :: r => if g = f then (g, v) :: r else (g, x) :: putF f v r
theorem lookup_putF (f g : Str) (v : V) : ∀ fs : List (Str × V), (putF f v fs).lookup g = if g = f then some v else fs.lookup g
  | [] => by
    show List.lookup g [(f, v)] = _
    by_cases h : g = f
    · have hb : (g == f) = true := beq_iff_eq.mpr h
      simp only [List.lookup, hb, if_pos h]
    · have hb : (g == f) = false := beq_eq_false_iff_ne.mpr h
      simp only [List.lookup, hb, if_neg h]
  | (k, x) :: r => by
    have ih := lookup_putF f g v r
    rw [show putF f v ((k, x) :: r) = (if k = f then (k, v) :: r else (k, x) :: putF f v r) from rfl]
    by_cases hk : k = f
    · rw [if_pos hk]
      by_cases h : g = k
      · have hb : (g == k) = true := beq_iff_eq.mpr h
        simp only [List.lookup, hb, if_pos (h.trans hk)]
      · have hb : (g == k) = false := beq_eq_false_iff_ne.mpr h
        simp only [List.lookup, hb, if_neg (fun e : g = f => h (e.trans hk.symm))]
    · rw [if_neg hk]
      by_cases h : g = k
      · have hb : (g == k) = true := beq_iff_eq.mpr h
        simp only [List.lookup, hb, if_neg (fun e : g = f => hk (h.symm.trans e))]
      · have hb : (g == k) = false := beq_eq_false_iff_ne.mpr h
        simp only [List.lookup, hb]
        exact ih
theorem keys_putF (f : Str) (v : V) : ∀ fs : List (Str × V), f ∈ (putF f v fs).map (·.1) ∧ ∀ g, g ∈ fs.map (·.1) → g ∈ (putF f v fs).map (·.1)
  | [] => ⟨by simp [putF], fun g h => by simp at h⟩
  | (k, x) :: r => by
    obtain ⟨i1, i2⟩ := keys_putF f v r
    rw [show putF f v ((k, x) :: r) = (if k = f then (k, v) :: r else (k, x) :: putF f v r) from rfl]
    by_cases hk : k = f
    · rw [if_pos hk]
      subst hk
      exact ⟨by simp, fun g h => by simpa using h⟩
    · rw [if_neg hk]
      refine ⟨?_, fun g h => ?_⟩
      · rw [List.map_cons]
        exact List.mem_cons_of_mem _ i1
      · rw [List.map_cons] at h ⊢
        rcases List.mem_cons.mp h with e | e
        · exact List.mem_cons.mpr (.inl e)
        · exact List.mem_cons_of_mem _ (i2 g e)
theorem length_putF (f : Str) (v : V) : ∀ fs : List (Str × V), (putF f v fs).length ≤ fs.length + 1
  | [] => by simp [putF]
  | (k, x) :: r => by
    have ih := length_putF f v r
    rw [show putF f v ((k, x) :: r) = (if k = f then (k, v) :: r else (k, x) :: putF f v r) from rfl]
    by_cases hk : k = f
    · rw [if_pos hk, List.length_cons, List.length_cons]; omega
    · rw [if_neg hk, List.length_cons, List.length_cons]; omega

theorem RelO.some_of {v : V} {o : Option Value} (r : RelO (some v) o) : ∃ u, o = some u ∧ RelV v u := by
  cases o with
  | none => exact (show False from r).elim
  | some u => exact ⟨u, rfl, r⟩
theorem handed_of {v : V} {u : Value} (r : RelV v u) : PySem.W.handedIn u = true := by
  cases v with
  | non => cases (show u = Value.none from r); rfl
  | bl b => cases (show u = Value.bool b from r); rfl
  | int i => obtain ⟨t, e⟩ := (show ∃ t, u = Value.int i t from r); cases e; rfl
  | str x => obtain ⟨t, e⟩ := (show ∃ t, u = Value.str x t from r); cases e; rfl
  | byt b => obtain ⟨t, e⟩ := (show ∃ t, u = Value.bytes b t from r); cases e; rfl
  | flt b => obtain ⟨t, e⟩ := (show ∃ t, u = Value.float b t from r); cases e; rfl
  | ref a => cases (show u = Value.ref a from r); rfl
  | ty n => cases (show u = Value.type n from r); rfl

section
variable {P : Program} {w : World} {H H' : Hp} {h h' : Heap} {a C dx : Addr} {fs fs' : List (Str × V)}
theorem ins_get (hok : HOk P w H h) (e : H a = some (.ins C dx fs)) : ∃ mA, ObjM h a dx C mA ∧ (∀ f, RelO (fs.lookup f) (mA f)) ∧ PySem.Within mA (fs.map (·.1)) ∧ fs.length ≤ 1000 ∧ H dx = some (.own a) := by
  obtain ⟨d, z, ne, ob, mA, n, r, q⟩ := (show ObjOk P w H h a (.ins C dx fs) from hok a _ e)
  exact ⟨mA, ⟨ob, n, ne⟩, r, q, z, d⟩
end

/-! ### what of the text a class must have -/
structure Cls (K : PySem.W.Frag) (C : Addr) : Prop where
  pg : PySem.W.plainGet K C Str.empty = true
  hd : PySem.W.hasDictIn K C = true
  po : PySem.W.plainOver K C = true
  sa : PySem.W.findIn K (.ref C) "__setattr__" = some (some (.builtin "object.__setattr__"))
theorem Cls.get {K : PySem.W.Frag} {C : Addr} (c : Cls K C) (f : Str) : PySem.W.plainGet K C f = true := c.pg
/-- no class of it has the name -/
def NoAttr (K : PySem.W.Frag) (C : Addr) (f : Str) : Prop := PySem.W.findIn K (.ref C) f = some none
theorem NoAttr.taker {K : PySem.W.Frag} {C : Addr} {f : Str} (n : NoAttr K C f) : PySem.W.takerIn K C f = some none := by
  unfold PySem.W.takerIn
  rw [show PySem.W.findIn K (.ref C) f = some none from n]
  rfl

section
variable {X : Cx} {pins : List (Addr × Obj)} {σ : St} {H : Hp} {s : Shared} {a C dx : Addr} {fs : List (Str × V)} {f : Str} {v : V} {A : Around} {E : Value → Shared → Prop}

theorem getattr_ok {b : Bool} {Q : Value → Shared → Prop} (I : Inv X pins σ H s) (e : H a = some (.ins C dx fs)) (c : Cls X.K C) (n : NoAttr X.K C f) (l : fs.lookup f = some v)
    (h : ∀ u s', Inv X pins σ H s' → RelV v u → Q u s') : wpAny (model X.prog X.w) A (getAttr (.ref a) f b) Q E s := by
  obtain ⟨mA, O, r, _, _, _⟩ := ins_get I.hok e
  obtain ⟨u, hu, ru⟩ := RelO.some_of (v := v) (o := mA f) (by rw [← l]; exact r f)
  exact get_map I.kIn O (c.get f) c.hd n hu (handed_of ru) (h u _ (I.tok _) ru)



theorem setattr_ok {y : V} {u : Value} {Q : Unit → Shared → Prop} (I : Inv X pins σ H s) (e : H a = some (.ins C dx fs)) (c : Cls X.K C) (n : NoAttr X.K C f) (hl : fs.length < 1000) (ry : RelV y u)
    (h : ∀ s', Inv X pins σ (upd H a (.ins C dx (putF f y fs))) s' → Q () s') : wpAny (model X.prog X.w) A (setAttr (.ref a) f u) Q E s := by
  obtain ⟨mA, O, r, wi, _, ho⟩ := ins_get I.hok e
  have hz : (fs.map (·.1)).length ≤ sizeLine := by rw [List.length_map, sizeLine_eq]; omega
  refine set_map I.kIn O c.sa c.po n.taker c.hd wi hz fun h' O' sb => h _ ?_
  have hd : ∃ o, h'.get? dx = some o := let ⟨o, _, _, e', _⟩ := O'.ns; ⟨o, e'⟩
  refine I.write (x := a) (e := dx) (by rw [e]; exact True.intro) (.inr ho) (fun b q hb z => (sb.2 b hb).trans z) hd ?_
  refine ⟨by rw [upd_ne O.ne]; exact ho, ?_, O.ne, O'.obj, _, O'.ns, fun g => ?_, fun g hg => ?_⟩
  · have := length_putF f y fs; omega
  · show RelO ((putF f y fs).lookup g) (if g = f then some u else mA g)
    rw [lookup_putF]
    by_cases q : g = f
    · rw [if_pos q, if_pos q]; exact ry
    · rw [if_neg q, if_neg q]; exact r g
  · by_cases q : g = f
    · rw [q]; exact (keys_putF f y fs).1
    · refine (keys_putF f y fs).2 g (wi g fun z => hg ?_)
      show (if g = f then some u else mA g) = none
      rw [if_neg q]; exact z

/-- a new instance, tracked, without attributes -/
theorem Inv.made (I : Inv X pins σ H s) : Inv X pins σ (upd (upd H s.heap.objs.size (.own (s.heap.objs.size + 1))) (s.heap.objs.size + 1) (.ins C s.heap.objs.size []))
    { s with heap := (s.heap.push PySem.W.emptyDict).push (PySem.W.instObj C s.heap.objs.size) } := by
  have e1 : (s.heap.push PySem.W.emptyDict).get? s.heap.objs.size = some PySem.W.emptyDict := Heap.get?_push_size s.heap rfl
  have e2 : ((s.heap.push PySem.W.emptyDict).push (PySem.W.instObj C s.heap.objs.size)).get? (s.heap.objs.size + 1) = some (PySem.W.instObj C s.heap.objs.size) := by
    have := Heap.get?_push_size (s.heap.push PySem.W.emptyDict) (o := PySem.W.instObj C s.heap.objs.size) rfl
    rwa [Heap.size_push] at this
  have e3 : (s.heap.push PySem.W.emptyDict).Ns s.heap.objs.size (fun _ => none) := ⟨PySem.W.emptyDict, #[], _, e1, rfl, (fun e he => absurd he (by simp)), fun _ => rfl⟩
  have I1 := I.laid (a := s.heap.objs.size) (o := .own (s.heap.objs.size + 1)) (h' := s.heap.push PySem.W.emptyDict) (t' := s.toks) (fun b u q => Heap.get?_push_of_some _ q) (Nat.le_refl _) ⟨_, e1⟩
  refine I1.laid (a := s.heap.objs.size + 1) (o := .ins C s.heap.objs.size []) (t' := s.toks) (fun b u q => Heap.get?_push_of_some _ q) (Nat.le_of_eq (Heap.size_push _ _)) ?_
  have ne : s.heap.objs.size ≠ s.heap.objs.size + 1 := Nat.ne_of_lt (Nat.lt_succ_self _)
  refine ⟨by rw [upd_ne ne, upd_same], Nat.zero_le _, ne, e2, fun _ => none, (Heap.Ns1.of_empty e3).at fun o q => Heap.get?_push_of_some _ q, fun _ => True.intro, fun y hy => absurd rfl hy⟩

/-- e.f where nothing but the object is asked: through attributeBase (super) and the last hold -/
theorem attr_of {prog : Program} {w : World} {env : Env} {e : Expr} {f : Str} {pos : Pos} {s : Shared} {Q : Value → Shared → Prop} (hb : attributeBase e f env (eval e env) = eval e env)
    (h : wpAny (model prog w) A (eval e env) (fun o s₁ => wpAny (model prog w) A (getAttr o f true) Q E s₁) E s) : wpAny (model prog w) A (eval (.Attribute e f pos) env) Q E s :=
  Attribute_any_ h (by rw [arm_eval_Attribute, hb])
end

/-! ### readings and rules -/
/-- e.f, an attribute of the instance -/
def tFld (K : PySem.W.Frag) (ta : TE) (f : Str) : TE := fun σ H Q => ta σ H fun x H1 => ∃ a C dx fs v, x = .ref a ∧ H1 a = some (.ins C dx fs) ∧ Cls K C ∧ NoAttr K C f ∧ fs.lookup f = some v ∧ Q v H1
/-- e.f = value -/
def sFld (K : PySem.W.Frag) (ta tv : TE) (f : Str) : TS := fun D σ H => tv σ H fun y H1 => ta σ H1 fun x H2 => ∃ a C dx fs, x = .ref a ∧ H2 a = some (.ins C dx fs) ∧ Cls K C ∧ NoAttr K C f ∧ fs.length < 1000 ∧
  D.nx σ (upd H2 a (.ins C dx (putF f y fs)))

section
variable {X : Cx} {o e value : Expr} {f : Str} {pos pos' tpos : Pos} {ta tv : TE}
theorem pe_fld (he : PE X e ta) (hb : attributeBase e f X.env (eval e X.env) = eval e X.env) : PE X (.Attribute e f pos) (tFld X.K ta f) := by
  intro pins s σ H Q I h
  refine attr_of hb (thn (he pins s σ H _ I h) fun u s1 ⟨x, H1, I1, rx, a, C, dx, fs, v, ex, ea, c, n, l, q⟩ => ?_)
  subst ex
  obtain rfl : u = Value.ref a := rx
  exact getattr_ok I1 ea c n l fun u' s2 I2 ru => ⟨v, H1, I2, ru, q⟩
theorem ps_fld (ha : PE X o ta) (hv : PE X value tv) (hs : swapsWith value (some (.Attribute o f pos')) pos.line X.env = pure false) : PS X (.Assign [.Attribute o f pos'] value pos) (sFld X.K ta tv f) := by
  intro pins s σ H D I h
  refine plainObj_wpAny_Assign_Attribute (thn (hv pins s σ H _ I h) fun u s1 ⟨y, H1, I1, ry, q⟩ => thn (ha pins s1 σ H1 _ I1 q) fun ov s2 ⟨x, H2, I2, rx, a, C, dx, fs, ex, ea, c, n, l, q2⟩ => ?_) hs
  subst ex
  obtain rfl : ov = Value.ref a := rx
  exact setattr_ok I2 ea c n l ry fun s3 I3 => ⟨σ, _, I3, q2⟩

end

/-! ### isinstance -/
section
variable {X : Cx} {pins : List (Addr × Obj)} {σ : St} {H : Hp} {s : Shared} {A : Around} {E : Value → Shared → Prop} {Q : Value → Shared → Prop} {c : Value} {b : Bool}
end
end L2

namespace L2
open PySem PySem.Spec PyProof.Rows

/-! ### room -/
structure Room (k : Nat) (A : Around) : Prop where
  hd : A.handled = none
  dp : A.depth + 3 * k + 5 < recursionLimit
  un : A.units + 16 * k + 200 < cLine
  gd : A.guards = some []
theorem Room.mono {j k : Nat} {A : Around} (r : Room k A) (h : j ≤ k) : Room j A := ⟨r.hd, by have := r.dp; omega, by have := r.un; omega, r.gd⟩
theorem Room.deeper {k : Nat} {A : Around} (r : Room (k + 1) A) (env : Env) : Room k (A.deeper env) :=
  ⟨r.hd, by have := r.dp; show A.depth + 1 + 3 * k + 5 < _; omega, by have := r.un; show A.units + 3 + 16 * k + 200 < _; omega, r.gd⟩
theorem make_depth {A : Around} {C : Addr} {us : List Value} {kw : List (Str × Value)} : (A.under (.builtin "type.__call__" ⟨.ref C :: us, kw⟩)).depth = A.depth + 1 := by
  first | rfl | simp [Around.under, Code.weight, Code.isCreation, Code.isGuard, Code.isCaller, Code.frames, Code.isFrame, guardIds]
theorem make_units {A : Around} {C : Addr} {us : List Value} {kw : List (Str × Value)} : (A.under (.builtin "type.__call__" ⟨.ref C :: us, kw⟩)).units = A.units + 1 := by
  first | rfl | simp [Around.under, Code.cUnits, Code.frames, Code.isFrame]
theorem Room.make {k : Nat} {A : Around} (r : Room (k + 1) A) (C : Addr) (us : List Value) (kw : List (Str × Value)) : Room k (A.under (.builtin "type.__call__" ⟨.ref C :: us, kw⟩)) :=
  ⟨r.hd, by have := r.dp; rw [make_depth]; omega, by have := r.un; rw [make_units]; omega, r.gd⟩
theorem Room.depth {k : Nat} {A : Around} (r : Room k A) : A.depth < recursionLimit := by have := r.dp; omega
theorem Room.units {k : Nat} {A : Around} (r : Room k A) : A.units + 64 < cLine := by have := r.un; omega

/-! ### argument lists and displays -/
def tNil : TA := fun _ H Q => Q [] H
def tCons (ta : TE) (tr : TA) : TA := fun σ H Q => ta σ H fun x H1 => tr σ H1 fun xs H2 => Q (x :: xs) H2
section
variable {X : Cx} {e : Expr} {es : List Expr} {te : TE} {t : TA} {pos : Pos}
theorem pa_nil : PA X [] tNil := fun _ _ _ _ H Q I h => Calls.spliced_nil ⟨[], H, I, .nil, h⟩
theorem pa_cons (ha : PE X e te) (hr : PA X es t) (hs : starEach (e :: es) X.env = (false, eval e X.env) :: starEach es X.env := by rfl) : PA X (e :: es) (tCons te t) := by
  intro pos pins s σ H Q I h
  rw [hs]
  show wpAny _ _ (spliced ((false, eval e X.env) :: backTo pos (starEach es X.env))) _ _ s
  refine Calls.spliced_cons (thn (ha pins s σ H _ I h) fun u s1 ⟨x, H1, I1, r1, q1⟩ => ?_)
  exact thn (hr pos pins s1 σ H1 _ I1 q1) fun us s2 ⟨xs, H2, I2, r2, q2⟩ => ⟨x :: xs, H2, I2, .cons r1 r2, q2⟩

/-- a tuple, a list of written items -/
def tTup (t : TA) : TE := fun σ H Q => t σ H fun xs H1 => xs.length ≤ sizeLine ∧ ∀ p, H1 p = none → Q (.ref p) (upd H1 p (.tup xs))
def tLst (t : TA) : TE := fun σ H Q => t σ H fun xs H1 => xs.length ≤ sizeLine ∧ ∀ p, H1 p = none → Q (.ref p) (upd H1 p (.lst xs))
theorem pe_tup {x1} (h : PA X es t) : PE X (.Tuple es x1 pos) (tTup t) := by
  intro pins s σ H Q I hq
  refine wpAny_Tuple_spliced (thn (h pos pins s σ H _ I hq) fun us s1 ⟨xs, H1, I1, r, z, q⟩ => ⟨by rw [← r.length]; exact z, ?_⟩)
  have hf : H1 s1.heap.objs.size = none := I1.hok.fresh (Nat.le_refl _)
  refine ⟨.ref s1.heap.objs.size, upd H1 s1.heap.objs.size (.tup xs), I1.laid (t' := s1.toks) (fun b u e => Heap.get?_push_of_some _ e) (Nat.le_refl _) ?_, rfl, q _ hf⟩
  exact ⟨z, us, r, ⟨_, Heap.get?_push_size _ rfl, rfl, _, rfl⟩⟩
theorem pe_lst (h : PA X es t) : PE X (.List es pos) (tLst t) := by
  intro pins s σ H Q I hq
  refine wpAny_List_spliced (thn (h pos pins s σ H _ I hq) fun us s1 ⟨xs, H1, I1, r, z, q⟩ => ⟨by rw [← r.length]; exact z, ?_⟩)
  have hf : H1 s1.heap.objs.size = none := I1.hok.fresh (Nat.le_refl _)
  refine ⟨.ref s1.heap.objs.size, upd H1 s1.heap.objs.size (.lst xs), I1.laid (t' := s1.toks) (fun b u e => Heap.get?_push_of_some _ e) (Nat.le_refl _) ?_, rfl, q _ hf⟩
  exact ⟨z, us, 0, r, Heap.get?_push_size _ rfl⟩
end

/-! ### what a def promises -/
/-- a def's promise: the bound arguments in the parameters' order, the heap, the wanted end, the wanted exception -/
abbrev Sp := List V → Hp → VK → XK → Prop
/-- how an exception lies behind a call (file 08 gives it): the callers' frames, abstract heap and state ahead of the call, the wish, the exception, the state -/
abbrev CXT := List Env → Hp → Shared → XK → Value → Shared → Prop

/-- the state at a call -/
structure Env0 (P : Program) (w : World) (K : PySem.W.Frag) (mg : Str → Option Value) (base : Heap) (A : Around) (outer : List Env) (s : Shared) (H : Hp) : Prop where
  frames : A.frames = some outer
  mod : Mod K mg base
  bs : ∀ b o, base.get? b = some o → s.heap.get? b = some o ∧ H b = none
  bsz : base.objs.size ≤ s.heap.objs.size
  funs : s.heap.FunFrames base outer
  frf : ∀ b ∈ frs outer, H b = none
  hok : HOk P w H s.heap
  bare : AllBare s.gens
/-- a call's end -/
def CE (outer : List Env) (P : Program) (w : World) (H : Hp) (s : Shared) (Q : VK) (u : Value) (s' : Shared) : Prop :=
  ∃ v H', s'.os = s.os ∧ AllBare s'.gens ∧ Un (frs outer) [] H H' s.heap s'.heap ∧ HOk P w H' s'.heap ∧ RelV v u ∧ Q v H'
def CR (CX : CXT) (outer : List Env) (P : Program) (w : World) (H : Hp) (s : Shared) (Q : VK) (E : XK) (r : Result) (s' : Shared) : Prop :=
  match r with
  | .ok (.ret u) => CE outer P w H s Q u s'
  | .ok _ => False
  | .error e => CX outer H s E e s'
structure FnOk (P : Program) (w : World) (K : PySem.W.Frag) (mg : Str → Option Value) (base : Heap) (CX : CXT) (k : Nat) (f : Addr) (fd : FuncData) (ps : List Str) (sp : Sp) : Prop where
  len : ∀ vs H Q E, sp vs H Q E → vs.length = ps.length
  run : ∀ (A : Around) (outer : List Env) (s : Shared) (H : Hp) (args : Args) (us : List Value) (vs : List V) (Q : VK) (E : XK), Room k A → Env0 P w K mg base A outer s H → BindsTo s fd args (ps.zip us) → Vals vs us → sp vs H Q E →
    codeAny (model P w) A (.call (.ref f) args) (CR CX outer P w H s Q E) s
theorem FnOk.mono {P : Program} {w : World} {K : PySem.W.Frag} {mg : Str → Option Value} {base : Heap} {CX : CXT} {j k : Nat} {f : Addr} {fd : FuncData} {ps : List Str} {sp : Sp} (F : FnOk P w K mg base CX j f fd ps sp) (h : j ≤ k) :
    FnOk P w K mg base CX k f fd ps sp := ⟨F.len, fun A outer s H args us vs Q E hr => F.run A outer s H args us vs Q E (hr.mono h)⟩

theorem Env0.make {P : Program} {w : World} {K : PySem.W.Frag} {mg : Str → Option Value} {base : Heap} {A : Around} {outer : List Env} {s : Shared} {H : Hp} (e : Env0 P w K mg base A outer s H) (C : Addr) (us : List Value) (kw : List (Str × Value)) :
    Env0 P w K mg base (A.under (.builtin "type.__call__" ⟨.ref C :: us, kw⟩)) outer s H := ⟨by first | exact e.frames | (simpa [Around.under, Code.envs, Code.isFrame, pushEnvs] using e.frames), e.mod, e.bs, e.bsz, e.funs, e.frf, e.hok, e.bare⟩

section
variable {X : Cx} {pins : List (Addr × Obj)} {σ : St} {H : Hp} {s s' : Shared}
/-- from a body: what a callee wants -/
theorem Inv.env0 (I : Inv X pins σ H s) : Env0 X.prog X.w X.K X.mg X.base X.A X.stack s H :=
  ⟨I.ok.frames, I.ok.mod, I.bs, Nat.le_trans I.ok.bsz I.sz, I.stack, I.stkFree, I.hok, I.bare⟩
/-- behind a call -/
theorem Inv.after {Q : VK} {u : Value} (I : Inv X pins σ H s) (h : CE X.stack X.prog X.w H s Q u s') : EP X pins σ Q u s' := by
  obtain ⟨v, H', os, bare, un, hok, r, q⟩ := h
  obtain ⟨hh, g, d, t, os'⟩ := s'
  obtain rfl : os' = s.os := os
  exact ⟨v, H', I.call (h' := hh) (g' := g) (d' := d) (t' := t) (ch := []) un hok bare (fun b z => absurd z (by simp)), r, q⟩
end

/-! ### calls -/
/-- f(..): the written arguments, then the defaults dvs; E: what is wanted of an exception -/
def tCall (sp : Sp) (dvs : List V) (E : XK) (t : TA) : TE := fun σ H Q => t σ H fun vs H1 => sp (vs ++ dvs) H1 Q E
/-- C(..): a new instance and its dict, then __init__ -/
def tMake (C : Addr) (sp : Sp) (dvs : List V) (E : XK) (t : TA) : TE := fun σ H Q => t σ H fun vs H1 => ∀ x dx, H1 x = none → H1 dx = none → dx ≠ x →
  sp (.ref x :: (vs ++ dvs)) (upd (upd H1 dx (.own x)) x (.ins C dx [])) (fun v H2 => v = .non ∧ Q (.ref x) H2) E

/-- how the parameters are bound: us the positional arguments, kw the keywords' values by name, ds the defaults that fill up -/
def Binds (K : PySem.W.Frag) (fd : FuncData) (ps : List Str) (ds : List Value) : Prop :=
  ∀ (s : Shared) (us : List Value), K.In s.heap → (us ++ ds).length = ps.length → BindsTo s fd ⟨us, []⟩ (ps.zip (us ++ ds))
/-- every parameter is given -/
theorem Binds.all {K : PySem.W.Frag} {fd : FuncData} {ps : List Str} (h : ∀ us : List Value, us.length = ps.length → bindArgs fd ⟨us, []⟩ = pure (ps.zip us)) : Binds K fd ps [] := fun s us _ hl => by
  rw [List.append_nil] at hl ⊢
  exact .of_eq (h us hl)

/-- an exception of a callee reaches what this body wants of exceptions -/
def Passes (CX : CXT) (X : Cx) (E : XK) : Prop := ∀ (pins : List (Addr × Obj)) (σ : St) (H : Hp) (s : Shared) (e : Value) (s' : Shared), Inv X pins σ H s → CX X.stack H s E e s' → X.xe e s'

section
variable {X : Cx} {CX : CXT} {k : Nat} {f C : Addr} {fd : FuncData} {ps : List Str} {sp : Sp} {dvs : List V} {ds : List Value} {E : XK} {x m : Str} {p pos apos : Pos} {e o : Expr} {es : List Expr} {ta : TE} {t : TA}

/-- the callee runs -/
theorem run_fn {pins : List (Addr × Obj)} {σ : St} {H : Hp} {s : Shared} {Q : VK} {us : List Value} {vs : List V} (F : FnOk X.prog X.w X.K X.mg X.base CX k f fd ps sp) (hr : Room k X.A) (hb : Binds X.K fd ps ds) (hd : Vals dvs ds) (hx : Passes CX X E)
    (I : Inv X pins σ H s) (r : Vals vs us) (h : sp (vs ++ dvs) H Q E) : wpAny (model X.prog X.w) X.A (call (.ref f) us) (EP X pins σ Q) X.xe s := by
  have r2 : Vals (vs ++ dvs) (us ++ ds) := r.append hd
  have hl : (us ++ ds).length = ps.length := by rw [← r2.length]; exact F.len _ _ _ _ h
  refine wpAny_call (codeAny_mono (F.run X.A X.stack s H ⟨us, []⟩ (us ++ ds) (vs ++ dvs) Q E hr I.env0 (hb s us I.kIn hl) r2 h) fun r s' hq => ?_)
  cases r with
  | error e => exact hx pins σ H s e s' I hq
  | ok fl =>
    cases fl with
    | ret u => exact I.after hq
    | next => exact False.elim hq
    | brk => exact False.elim hq
    | cont => exact False.elim hq

theorem pe_call (F : FnOk X.prog X.w X.K X.mg X.base CX k f fd ps sp) (hr : Room k X.A) (hg : Gl X x) (hm : X.mg x = some (.ref f)) (hk : PySem.W.keepIn X.K (.ref f) = true) (hb : Binds X.K fd ps ds) (hd : Vals dvs ds) (hx : Passes CX X E)
    (ha : PA X (e :: es) t) (hdb : (x == ("__debug__" : Str)) = false := by decide) (he : starEach (e :: es) X.env = (false, eval e X.env) :: starEach es X.env := by rfl) (hpl : (backTo pos (starEach es X.env)).any (·.1) = false := by rfl) :
    PE X (.Call (.Name x p) (e :: es) [] pos) (tCall sp dvs E t) := by
  intro pins s σ H Q I h
  refine wpAny_Call_Name_kw (ld_glob I hg hm ?_ hdb)
  refine PySem.W.callWith_K (h₀ := X.base) I.ok.mod.kin hk (thn (ha pos pins s σ H _ I h) fun us s1 ⟨vs, H1, I1, r, q⟩ => ⟨I1.kIn, ?_⟩) he hpl
  exact run_fn F hr hb hd hx I1 r q


/-- what a class must have to be made -/
structure Mk (K : PySem.W.Frag) (C f : Addr) : Prop where
  makes : PySem.W.makesIn K C = true
  init : PySem.W.findIn K (.ref C) "__init__" = some (some (.ref f))
  fn : PySem.W.isFn K (.ref f) = true
  kp : PySem.W.keepIn K (.ref C) = true

theorem run_make {pins : List (Addr × Obj)} {σ : St} {H : Hp} {s : Shared} {Q : VK} {us : List Value} {vs : List V} (M : Mk X.K C f) (F : FnOk X.prog X.w X.K X.mg X.base CX k f fd ps sp) (hr : Room (k + 1) X.A) (hb : Binds X.K fd ps ds) (hd : Vals dvs ds)
    (hx : Passes CX X E) (I : Inv X pins σ H s) (r : Vals vs us)
    (h : ∀ x dx, H x = none → H dx = none → dx ≠ x → sp (.ref x :: (vs ++ dvs)) (upd (upd H dx (.own x)) x (.ins C dx [])) (fun v H2 => v = .non ∧ Q (.ref x) H2) E) :
    wpAny (model X.prog X.w) X.A (call (.ref C) us) (EP X pins σ Q) X.xe s := by
  have hq := h (s.heap.objs.size + 1) s.heap.objs.size (I.hok.fresh (Nat.le_succ _)) (I.hok.fresh (Nat.le_refl _)) (Nat.ne_of_lt (Nat.lt_succ_self _))
  have I2 := Inv.made (C := C) I
  have r2 : Vals (V.ref (s.heap.objs.size + 1) :: (vs ++ dvs)) (Value.ref (s.heap.objs.size + 1) :: (us ++ ds)) := .cons rfl (r.append hd)
  have hl : (Value.ref (s.heap.objs.size + 1) :: us ++ ds).length = ps.length := by
    have e := r2.length
    rw [F.len _ _ _ _ hq] at e
    exact e.symm
  refine wpAny_call (make_map (f := f) I.kIn M.makes M.init (beq_iff_eq.mp M.fn) (codeAny_mono (F.run _ X.stack _ _ ⟨Value.ref (s.heap.objs.size + 1) :: us, []⟩ (Value.ref (s.heap.objs.size + 1) :: (us ++ ds)) _ _ E (hr.make C us [])
    (I2.env0.make C us []) (hb _ (Value.ref (s.heap.objs.size + 1) :: us) I2.kIn hl) r2 hq) fun r s' hq' => ?_))
  cases r with
  | error e => exact hx pins σ _ _ e s' I2 hq'
  | ok fl =>
    cases fl with
    | ret u =>
      obtain ⟨v, H', I3, rv, ev, q3⟩ := I2.after hq'
      subst ev
      exact ⟨rv, ⟨V.ref (s.heap.objs.size + 1), H', I3, rfl, q3⟩⟩
    | next => exact False.elim hq'
    | brk => exact False.elim hq'
    | cont => exact False.elim hq'
theorem pe_make (M : Mk X.K C f) (F : FnOk X.prog X.w X.K X.mg X.base CX k f fd ps sp) (hr : Room (k + 1) X.A) (hg : Gl X x) (hm : X.mg x = some (.ref C)) (hb : Binds X.K fd ps ds) (hd : Vals dvs ds) (hx : Passes CX X E)
    (ha : PA X (e :: es) t) (hdb : (x == ("__debug__" : Str)) = false := by decide) (he : starEach (e :: es) X.env = (false, eval e X.env) :: starEach es X.env := by rfl) (hpl : (backTo pos (starEach es X.env)).any (·.1) = false := by rfl) :
    PE X (.Call (.Name x p) (e :: es) [] pos) (tMake C sp dvs E t) := by
  intro pins s σ H Q I h
  refine wpAny_Call_Name_kw (ld_glob I hg hm ?_ hdb)
  refine PySem.W.callWith_K (h₀ := X.base) I.ok.mod.kin M.kp (thn (ha pos pins s σ H _ I h) fun us s1 ⟨vs, H1, I1, r, q⟩ => ⟨I1.kIn, ?_⟩) he hpl
  exact run_make M F hr hb hd hx I1 r q
end

/-! ### keywords -/
section
variable {X : Cx} {CX : CXT} {k : Nat} {f C : Addr} {fd : FuncData} {ps ks : List Str} {sp : Sp} {E : XK} {x m : Str} {p pos apos kpos : Pos} {e o : Expr} {es : List Expr} {kws : List Keyword} {te ta : TE} {t tk : TA} {nm : Option Str}

variable {g : List Value → List Value → List Value} {gV : List V → List V → List V}
end

/-! ### a def's body keeps its promise -/
/-- names: the parameters first -/
structure FnScope (N P : List Str) (sc : Scope) : Prop where
  kind : sc.kind = .function
  co : sc.isCoroutine = false
  gen : sc.isGenerator = false
  nd : N.Nodup
  pre : N.take P.length = P
  par : ∀ x ∈ P, sc.names.lookup x = some .local ∨ sc.names.lookup x = some .cell
  nofree : ∀ y ∈ sc.names, y.2 ≠ .free

theorem bindL_out {kindOf : Str → Option NameKind} {x : Str} : ∀ {binds : List (Str × Value)} {m : Str → Option Value}, (∀ v, (x, v) ∉ binds) → bindL kindOf binds m x = m x
  | [], _, _ => rfl
  | (n, v) :: r, m, h => by
    unfold bindL
    rw [bindL_out fun w hw => h w (List.mem_cons_of_mem _ hw)]
    split
    · have : x ≠ n := by rintro rfl; exact h v List.mem_cons_self
      simp [this]
    · rfl
theorem bindC_out {kindOf : Str → Option NameKind} {x : Str} : ∀ {binds : List (Str × Value)} {m : Str → Option Value}, (∀ v, (x, v) ∉ binds) → bindC kindOf binds m x = m x
  | [], _, _ => rfl
  | (n, v) :: r, m, h => by
    unfold bindC
    rw [bindC_out fun w hw => h w (List.mem_cons_of_mem _ hw)]
    split
    · rfl
    · have : x ≠ n := by rintro rfl; exact h v List.mem_cons_self
      simp [this]
theorem bindL_get {kindOf : Str → Option NameKind} {x : Str} {v : Value} : ∀ {P : List Str} {vs : List Value} {i : Nat} {m : Str → Option Value}, P.Nodup → P[i]? = some x → vs[i]? = some v → kindOf x = some .local →
    bindL kindOf (P.zip vs) m x = some v
  | [], _, _, _, _, h, _, _ => by simp at h
  | _ :: _, [], _, _, _, _, h, _ => by simp at h
  | p :: P, w :: vs, 0, m, nd, h1, h2, hk => by
    simp at h1 h2; subst h1; subst h2
    show bindL kindOf ((p, w) :: P.zip vs) m p = _
    unfold bindL
    rw [bindL_out fun v hv => (List.nodup_cons.mp nd).1 (List.of_mem_zip hv).1, if_pos hk]
    simp
  | p :: P, w :: vs, i + 1, m, nd, h1, h2, hk => by
    show bindL kindOf ((p, w) :: P.zip vs) m x = _
    unfold bindL
    exact bindL_get (i := i) (List.nodup_cons.mp nd).2 (by simpa using h1) (by simpa using h2) hk
theorem bindC_get {kindOf : Str → Option NameKind} {x : Str} {v : Value} : ∀ {P : List Str} {vs : List Value} {i : Nat} {m : Str → Option Value}, P.Nodup → P[i]? = some x → vs[i]? = some v → kindOf x ≠ some .local →
    bindC kindOf (P.zip vs) m x = some v
  | [], _, _, _, _, h, _, _ => by simp at h
  | _ :: _, [], _, _, _, _, h, _ => by simp at h
  | p :: P, w :: vs, 0, m, nd, h1, h2, hk => by
    simp at h1 h2; subst h1; subst h2
    show bindC kindOf ((p, w) :: P.zip vs) m p = _
    unfold bindC
    rw [bindC_out fun v hv => (List.nodup_cons.mp nd).1 (List.of_mem_zip hv).1, if_neg hk]
    simp
  | p :: P, w :: vs, i + 1, m, nd, h1, h2, hk => by
    show bindC kindOf ((p, w) :: P.zip vs) m x = _
    unfold bindC
    exact bindC_get (i := i) (List.nodup_cons.mp nd).2 (by simpa using h1) (by simpa using h2) hk

/-- the names' values at the entry -/
def start (N : List Str) (vs : List V) : St := vs.map some ++ List.replicate (N.length - vs.length) none

/-- the context of a def's body, at its entry; an exception leaves the frame, then lies as CX says -/
def cxOf (CX : CXT) (P : Program) (w : World) (K : PySem.W.Frag) (mg : Str → Option Value) (base : Heap) (N : List Str) (qual : Str) (scope : Scope) (f : Addr) (cd : Value) (A : Around) (outer : List Env) (s : Shared) (H : Hp) (E : XK) : Cx where
  prog := P
  w := w
  K := K
  mg := mg
  base := base
  A := A.deeper (envOfC qual scope s.heap.objs.size f cd)
  N := N
  s₀ := s
  H₀ := H
  env := envOfC qual scope s.heap.objs.size f cd
  outer := outer
  stack := envOfC qual scope s.heap.objs.size f cd :: outer
  ex := []
  calm := true
  fn := fun _ => true
  pn := []
  xe := fun e s' => wpAny (model P w) (A.deeper (envOfC qual scope s.heap.objs.size f cd)) (leaving (envOfC qual scope s.heap.objs.size f cd) e) (fun _ s'' => CX outer H s E e s'') (fun e' s'' => CX outer H s E e' s'') s'

theorem cell_has {sc : Scope} {n : Nat} {x : Str} (h : sc.names.lookup x = some .cell) : ∃ c, (cellsFrom n sc.names []).lookup x = some c := by
  have q := PySem.W.cellsFrom_some sc.names n [] (.inl h)
  exact Option.isSome_iff_exists.mp q

theorem inv_start {CX : CXT} {P : Program} {w : World} {K : PySem.W.Frag} {mg : Str → Option Value} {base : Heap} {N ps : List Str} {qual : Str} {scope : Scope} {f : Addr} {cd : Value} {A : Around} {outer : List Env} {s s1 : Shared} {H : Hp} {E : XK} {us : List Value} {vs : List V}
    (S : FnScope N ps scope) (hd : A.handled = none) (e0 : Env0 P w K mg base A outer s H) (hl : vs.length = ps.length) (r : Vals vs us)
    (x : InCallC s s.heap.objs.size (bindL (envOfC qual scope s.heap.objs.size f cd).kindOf (ps.zip us) fun _ => none) (cellsFrom (s.heap.objs.size + 1) scope.names []) (bindC (envOfC qual scope s.heap.objs.size f cd).kindOf (ps.zip us) fun _ => none) s1) :
    Inv (cxOf CX P w K mg base N qual scope f cd A outer s H E) [] (start N vs) H s1 := by
  have hpl : ps.length ≤ N.length := by have := congrArg List.length S.pre; rw [List.length_take] at this; omega
  obtain ⟨h1, tk, rfl, hk⟩ := x.done
  have noA : ∀ b : Addr, b ∉ (cxOf CX P w K mg base N qual scope f cd A outer s H E).ex := fun b z => absurd (show b ∈ ([] : List Addr) from z) (by simp)
  refine ⟨⟨e0.mod, S.kind, rfl, rfl, Nat.le_refl _, fun y z c h1 h2 => ?_, fun y hy => ?_, fun y c _ h => ?_, fun _ => hd, Around.frames_deeper e0.frames, .inr ⟨rfl, rfl⟩, fun b z => absurd z (noA b), e0.bs, e0.bsz, fun b _ _ => noA b, fun b z => absurd z (noA b), e0.funs, e0.frf⟩,
    rfl, e0.bare, Un.kept hk, ⟨_, x.toInCall.ns, fun i y v h1 h2 h3 => ?_⟩, fun y c h => ⟨_, x.cell y c h⟩, e0.hok.fresh (Nat.le_refl _), fun y c h => ?_, fun p hp => absurd (show p ∈ ([] : List (Addr × Obj)) from hp) (by simp), e0.hok.kept hk, ?_⟩
  · exact name_of_addr x.apart (PySem.mem_of_lookup h1) (PySem.mem_of_lookup h2)
  · have hy : scope.names.lookup y = some .cell ∨ scope.names.lookup y = some .free := hy
    rcases hy with hy | hy
    · exact cell_has hy
    · exact absurd rfl (S.nofree _ (PySem.mem_of_lookup hy))
  · exact Nat.le_of_lt (x.above y c (PySem.mem_of_lookup h))
  · have hi : i < vs.length := by
      unfold start at h2
      by_cases hi : i < vs.length
      · exact hi
      · rw [List.getElem?_append_right (by simpa using hi)] at h2
        rw [List.getElem?_replicate] at h2
        split at h2 <;> cases h2
    have ha : vs[i]? = some v := by
      unfold start at h2
      rw [List.getElem?_append_left (by simpa using hi), List.getElem?_map] at h2
      cases e : vs[i]? with
      | none => rw [e] at h2; cases h2
      | some a => rw [e] at h2; cases h2; rfl
    obtain ⟨u, hu, rv⟩ := r.get ha
    have hp : ps[i]? = some y := by
      rw [← S.pre, List.getElem?_take_of_lt (by omega)]; exact h1
    have ndP : ps.Nodup := by rw [← S.pre]; exact S.nd.sublist (List.take_sublist _ _)
    refine ⟨u, rv, ?_⟩
    rcases S.par y (List.mem_of_getElem? hp) with k | k
    · exact .inl ⟨k, bindL_get ndP hp hu k⟩
    · obtain ⟨c, e⟩ := cell_has (n := s.heap.objs.size + 1) k
      refine .inr ⟨.inl k, c, e, ?_⟩
      have q := x.cell y c e
      rw [bindC_get ndP hp hu (by show scope.names.lookup y ≠ _; rw [k]; decide)] at q
      exact q
  · exact e0.hok.fresh (Nat.le_of_lt (x.above y c (PySem.mem_of_lookup h)))
  · unfold start
    show _ = N.length
    rw [List.length_append, List.length_map, List.length_replicate]
    omega

/-- THE RULE: a def (or a method) of the text, by its body. The body's reading t is chosen for each entry; it is run at the parameters' values -/
theorem fn_of {CX : CXT} {P : Program} {w : World} {K : PySem.W.Frag} {mg : Str → Option Value} {base : Heap} {k : Nat} {f : Addr} {name qual : Str} {params : Arguments} {body : List Stmt} {scope : Scope} {dV kV doc pm cdv ct oc : Value} {an od : Option Addr}
    {osl : Array (Option Value)} {N ps : List Str} {sp : Sp} (lk : K.lookup f = some ⟨oc, od, .func (PySem.W.fnOf name qual params body scope dV kV doc pm an cdv ct), osl⟩) (hcd : PySem.W.codeIn K cdv qual = true) (S : FnScope N ps scope)
    (len : ∀ vs H Q E, sp vs H Q E → vs.length = ps.length)
    (hbody : ∀ (A : Around) (outer : List Env) (s : Shared) (H : Hp) (vs : List V) (Q : VK) (E : XK), Room k (A.deeper (envOfC qual scope s.heap.objs.size f cdv)) → sp vs H Q E →
      ∃ t, PSs (cxOf CX P w K mg base N qual scope f cdv A outer s H E) body t ∧ t { nx := fun _ H' => Q .non H', rt := Q } (start N vs) H) :
    FnOk P w K mg base CX (k + 1) f (PySem.W.fnOf name qual params body scope dV kV doc pm an cdv ct) ps sp := by
  refine ⟨len, fun A outer s H args us vs Q E hr e0 hb r hsp => ?_⟩
  have hl := len _ _ _ _ hsp
  have KX : K.In s.heap := e0.mod.kin.keeps fun b o e => (e0.bs b o e).1
  have lim : s.heap.NoLimit := e0.mod.nolimit.keeps fun b o e => (e0.bs b o e).1
  have hkind : ∀ y ∈ ps.zip us, scope.names.lookup y.1 = some .local ∨ (scope.names.lookup y.1 = some .cell ∧ ((cellsFrom (s.heap.objs.size + 1) scope.names []).lookup y.1).isSome = true) := fun ⟨n, v⟩ hy => by
    rcases S.par n (List.of_mem_zip hy).1 with q | q
    · exact .inl q
    · exact .inr ⟨q, PySem.W.cellsFrom_some _ _ _ (.inl q)⟩
  refine codeAny_call_function hr.depth (KX _ _ lk) rfl S.co S.gen rfl (PySem.W.codeRec_of KX hcd) (hb _ _ _ _ ?_)
  refine wpAny_newFunctionEnv_cells S.kind hkind fun env he s1 x => ?_
  subst he
  refine ⟨lim.keeps x.toInCall.keep, codeAny_func ?_⟩
  obtain ⟨t, ht, hq⟩ := hbody A outer s H vs Q E (hr.deeper _) hsp
  have I : Inv (cxOf CX P w K mg base N qual scope f cdv A outer s H E) [] (start N vs) H s1 := inv_start S hr.hd e0 hl r x
  refine wpAny_mono (ht [] s1 (start N vs) H _ I hq) (fun fl s' hs => ?_) fun e s' hs => hs
  have fin : ∀ {σ' : St} {H' : Hp} {v : V} {u : Value}, Inv (cxOf CX P w K mg base N qual scope f cdv A outer s H E) [] σ' H' s' → RelV v u → Q v H' → CE outer P w H s Q u s' :=
    fun {σ' H' v u} J rv q => ⟨v, H', J.os, J.bare, J.base, J.hok, rv, q⟩
  cases fl with
  | ret u =>
    obtain ⟨v, σ', H', J, rv, q⟩ := hs
    exact fin J rv q
  | next =>
    obtain ⟨σ', H', J, q⟩ := hs
    exact fin (v := V.non) (u := Value.none) J rfl q
  | brk =>
    obtain ⟨_, _, _, q⟩ := hs
    exact False.elim q
  | cont =>
    obtain ⟨_, _, _, q⟩ := hs
    exact False.elim q
end L2

namespace L2
open PySem PySem.Spec PyProof.Rows
section
variable {X : Cx} {x : Str} {p pos : Pos} {e : Expr} {es : List Expr} {t : TA} {id T : String} {r : List V → Hp → VK → Prop}

def tCB (r : List V → Hp → VK → Prop) (t : TA) : TE := fun σ H Q => t σ H fun vs H1 => r vs H1 Q
/-- f(e, ..), f a built-in function -/
theorem pe_callB (hc : CallR X (.builtin id) r) (hg : Gl X x) (hm : X.mg x = none) (hv : bootBuiltins x = some (.builtin id)) (ha : PA X (e :: es) t) (hn : x ≠ "__name__" := by decide) (hdb : (x == ("__debug__" : Str)) = false := by decide)
    (he : starEach (e :: es) X.env = (false, eval e X.env) :: starEach es X.env := by rfl) (hpl : (backTo pos (starEach es X.env)).any (·.1) = false := by rfl) : PE X (.Call (.Name x p) (e :: es) [] pos) (tCB r t) := by
  intro pins s σ H Q I h
  refine wpAny_Call_Name_kw (ld_blt I hg hm hv ?_ hn hdb)
  exact PyProof.Rows.callWith_builtin1 (thn (ha pos pins s σ H _ I h) fun us s1 ⟨vs, H1, I1, r1, q1⟩ => hc pins s1 σ H1 vs us Q I1 r1 q1) he hpl
/-- T(e, ..), T a built-in type -/
theorem pe_callTy (hc : CallR X (.type T) r) (hg : Gl X x) (hm : X.mg x = none) (hv : bootBuiltins x = some (.type T)) (ha : PA X (e :: es) t) (hn : x ≠ "__name__" := by decide) (hdb : (x == ("__debug__" : Str)) = false := by decide)
    (he : starEach (e :: es) X.env = (false, eval e X.env) :: starEach es X.env := by rfl) (hpl : (backTo pos (starEach es X.env)).any (·.1) = false := by rfl) : PE X (.Call (.Name x p) (e :: es) [] pos) (tCB r t) := by
  intro pins s σ H Q I h
  refine wpAny_Call_Name_kw (ld_blt I hg hm hv ?_ hn hdb)
  exact PyProof.Rows.callWith_type1 (thn (ha pos pins s σ H _ I h) fun us s1 ⟨vs, H1, I1, r1, q1⟩ => hc pins s1 σ H1 vs us Q I1 r1 q1) he hpl
end
end L2

namespace HT
open PySem PyProof.Rows



section
open PySem.SeqAt
open PySem.AutoSeq1 (wpAny_loadPart')
open PySem.MeetsSeq PySem.MeetsSeq2 PySem.MeetsSeq3

end

section
variable {prog : Program} {w : World} {A : Around} {E : Value → Shared → Prop} {s : Shared}


/-- t + u, t not empty -/
theorem cat_tup {t b : Addr} {vs ws : List Value} {Q : Value → Shared → Prop} (ht : IsTup s.heap t vs.toArray) (hb : IsTup s.heap b ws.toArray) (hv : vs ≠ [])
    (h1 : ws = [] → Q (.ref t) s) (h2 : ws ≠ [] → Q (.ref s.heap.objs.size) { s with heap := s.heap.push { cls := .type "tuple", data := .seq (vs ++ ws).toArray } })
    (hsz : vs.length + ws.length ≤ sizeLine) : wpAny (model prog w) A (binaryOp .Add (.ref t) (.ref b)) Q E s := by
  obtain ⟨⟨cls, dd, data, sl⟩, ho, hc, n, hd⟩ := id ht
  obtain ⟨⟨cls2, dd2, data2, sl2⟩, ho2, hc2, n2, hd2⟩ := id hb
  simp only at hc hd hc2 hd2
  subst hc hd hc2 hd2
  have e : vs.toArray ++ ws.toArray = (vs ++ ws).toArray := by simp
  by_cases hw : ws = []
  · exact concat_meets ⟨_, ho, rfl⟩ ⟨_, ho2, rfl⟩ noFill_tuple_add seq_tuple_add PySem.F.slot_tuple_add PySem.F.entry_tuple_add (PySem.F.args_tuple_add_2 _ _)
      (tuple_addW1 t b vs.toArray ws.toArray n n2 dd dd2 sl sl2 (by simpa using hv) (by simp [hw])) ⟨ho, ho2, h1 hw⟩
  · refine concat_meets ⟨_, ho, rfl⟩ ⟨_, ho2, rfl⟩ noFill_tuple_add seq_tuple_add PySem.F.slot_tuple_add PySem.F.entry_tuple_add (PySem.F.args_tuple_add_2 _ _)
      (tuple_addW2 t b vs.toArray ws.toArray n n2 dd dd2 sl sl2 (by simpa using hv) (by simpa using hw) (by rw [List.size_toArray, List.size_toArray]; exact hsz)) ⟨ho, ho2, ?_⟩
    rw [e]
    exact h2 hw

/-! ### t[a:b], not the whole -/
/-- a slice's bound as a place among n (d where it is left out) -/
def sIx (n d : Nat) : Option Int → Nat
  | none => d
  | some v => if v < 0 then (v + (n : Int)).toNat else min v.toNat n
theorem sIx_nat (n d k : Nat) : sIx n d (some (k : Int)) = min k n := by
  show (if (k : Int) < 0 then ((k : Int) + (n : Int)).toNat else min (k : Int).toNat n) = min k n
  rw [if_neg (by omega), Int.toNat_natCast]

end
end HT

namespace L2
open PySem PySem.Spec PyProof.Rows

/-! ### the parts of a slice -/
abbrev TO := St → Hp → (Option Int → Hp → Prop) → Prop
/-- a slice's part (left out, or an int) -/
def PO (X : Cx) (e : Option Expr) (t : TO) : Prop :=
  ∀ (pins : List (Addr × Obj)) (s : Shared) (σ : St) (H : Hp) (Q : Option Int → Hp → Prop), Inv X pins σ H s → t σ H Q →
    wpAny (model X.prog X.w) X.A (evalPart e X.env) (fun u s' => ∃ o H', Inv X pins σ H' s' ∧ IsPart u o ∧ Q o H') X.xe s
def tNoPart : TO := fun _ H Q => Q none H
def tPart (t : TE) : TO := fun σ H Q => t σ H fun x H1 => ∃ i, x = .int i ∧ Q (some i) H1


section
variable {X : Cx} {e : Expr} {te : TE} {lo hi : Option Expr} {tl th : TO} {pos p2 : Pos}

theorem po_none : PO X none tNoPart := by
  intro pins s σ H Q I h
  rw [evalPart_none]
  exact wpAny_pure ⟨none, H, I, .none, h⟩
theorem po_some (h : PE X e te) : PO X (some e) (tPart te) := by
  intro pins s σ H Q I hw
  rw [evalPart_some]
  refine thn (h pins s σ H _ I hw) fun u s1 ⟨x, H1, I1, r1, q1⟩ => ?_
  obtain ⟨i, rfl, q⟩ := q1
  obtain ⟨t, rfl⟩ := r1
  exact ⟨some i, H1, I1, .int i t, q⟩

/-- what a slice of a value is, by values: the slice object stands at sl -/
def SlR (X : Cx) (r : V → Option Int → Option Int → Hp → VK → Prop) : Prop :=
  ∀ (pins : List (Addr × Obj)) (s : Shared) (σ : St) (H : Hp) (x : V) (v vl vu : Value) (lo hi : Option Int) (sl : Addr) (Q : VK), Inv X pins σ H s → RelV x v → s.heap.IsSliceOf sl vl vu .none → IsPart vl lo → IsPart vu hi → r x lo hi H Q →
    ∃ T id, typeLookup (.type T) "__getitem__" = pure (some (.builtin id)) ∧ s.TypeIs v T ∧ wpAny (model X.prog X.w) X.A (getItem v (.ref sl)) (EP X pins σ Q) X.xe s
def tSl (r : V → Option Int → Option Int → Hp → VK → Prop) (te : TE) (tl th : TO) : TE := fun σ H Q => te σ H fun x H1 => tl σ H1 fun l H2 => th σ H2 fun u H3 => r x l u H3 Q
/-- a[lo:hi], any a -/
theorem pe_slice {r : V → Option Int → Option Int → Hp → VK → Prop} (hr : SlR X r) (he : PE X e te) (hl : PO X lo tl) (hu : PO X hi th) : PE X (.Subscript e (.Slice lo hi none p2) pos) (tSl r te tl th) := by
  intro pins s σ H Q I h
  refine Subscript_ (thn (he pins s σ H _ I h) fun v s1 ⟨x, H1, I1, r1, q1⟩ => ?_)
  refine wpAny_Slice (thn (hl pins s1 σ H1 _ I1 q1) fun vl s2 ⟨l, H2, I2, pl, q2⟩ => thn (hu pins s2 σ H2 _ I2 q2) fun vu s3 ⟨u, H3, I3, pu, q3⟩ => ?_)
  rw [evalPart_none]
  refine wpAny_pure ?_
  have I4 : Inv X pins σ H3 { s3 with heap := s3.heap.push { cls := .type "slice", data := .fields #[vl, vu, .none] } } := I3.kept (t' := s3.toks) fun b ob q => Heap.get?_push_of_some _ q
  obtain ⟨T, id, hT, ht, hg⟩ := hr pins { s3 with heap := s3.heap.push { cls := .type "slice", data := .fields #[vl, vu, .none] } } σ H3 x v vl vu l u s3.heap.objs.size Q I4 r1 (Heap.IsSliceOf.new ..) pl pu q3
  show wpAny (model X.prog X.w) X.A (subscriptTail e (.Slice lo hi none p2) v (.ref s3.heap.objs.size)) (EP X pins σ Q) X.xe { s3 with heap := s3.heap.push { cls := .type "slice", data := .fields #[vl, vu, .none] } }
  exact tail_any (ops := [.ref s3.heap.objs.size, v]) ht hT hg (by with_unfolding_all rfl)

/-- the items of xs[lo:hi] -/
def cutV (xs : List V) (lo hi : Option Int) : List V := (xs.drop (HT.sIx xs.length 0 lo)).take (HT.sIx xs.length xs.length hi - HT.sIx xs.length 0 lo)
theorem cutV_length (xs : List V) (lo hi : Option Int) : (cutV xs lo hi).length ≤ xs.length := by
  unfold cutV
  rw [List.length_take, List.length_drop]
  omega

/-! ### t < u, t + u -/
/-- t + u, t not empty: u empty gives t itself -/
def rCatT (K : PySem.W.Frag) : R2 := fun x y H Q => ∃ a b xs ys, x = .ref a ∧ y = .ref b ∧ SqT K H a xs ∧ SqT K H b ys ∧ xs ≠ [] ∧ xs.length + ys.length ≤ sizeLine ∧
  (ys = [] → Q (.ref a) H) ∧ (ys ≠ [] → ∀ p, H p = none → Q (.ref p) (upd H p (.tup (xs ++ ys))))
theorem Vals.nil_iff {xs : List V} {us : List Value} (r : Vals xs us) : us = [] ↔ xs = [] := by
  cases r with
  | nil => simp
  | cons _ _ => simp
theorem op_catT : OpR X (binaryOp .Add) (rCatT X.K) := by
  intro pins s σ H x y v u Q I rx ry h
  obtain ⟨a, b, xs, ys, rfl, rfl, ha, hb, hx, hz, q1, q2⟩ := h
  cases rx
  cases ry
  obtain ⟨its, r1, p1, _⟩ := I.tuple ha
  obtain ⟨its2, r2, p2, _⟩ := I.tuple hb
  refine HT.cat_tup p1 p2 (fun z => hx (r1.nil_iff.mp z)) (fun z => ⟨.ref a, H, I, rfl, q1 (r2.nil_iff.mp z)⟩) (fun z => ?_) (by rw [← r1.length, ← r2.length]; exact hz)
  refine ⟨.ref s.heap.objs.size, _, I.laid (t' := s.toks) (o := .tup (xs ++ ys)) (fun b ob q => Heap.get?_push_of_some _ q) (Nat.le_refl _) ?_, rfl, q2 (fun w => z (r2.nil_iff.mpr w)) _ (I.hok.fresh (Nat.le_refl _))⟩
  exact ⟨by rw [List.length_append]; exact hz, _, r1.append r2, IsTup.new _ _⟩
end
end L2

namespace L2
open PySem PySem.Spec PyProof.Rows

/-! ### places -/
/-- the place that an index of any sign means -/
def ixN (n : Nat) (i : Int) : Option Nat := if 0 ≤ i then (if i < n then some i.toNat else none) else if -(n : Int) ≤ i then some (i + n).toNat else none
def atI {α : Type} (xs : List α) (i : Int) : Option α := (ixN xs.length i).bind fun j => xs[j]?
theorem ixN_seq {n : Nat} {i : Int} {j : Nat} (h : ixN n i = some j) : seqIndex? i n = some j ∧ j < n ∧ -(n : Int) ≤ i ∧ i < n := by
  unfold ixN at h
  by_cases h0 : 0 ≤ i
  · rw [if_pos h0] at h
    by_cases h1 : i < n
    · rw [if_pos h1] at h
      have e : i.toNat = j := Option.some.inj h
      exact ⟨by rw [seqIndex_of h0 h1, e], by omega, by omega, h1⟩
    · rw [if_neg h1] at h; cases h
  · rw [if_neg h0] at h
    by_cases h1 : -(n : Int) ≤ i
    · rw [if_pos h1] at h
      have e : (i + n).toNat = j := Option.some.inj h
      exact ⟨by rw [seqIndex_neg (by omega) h1, e], by omega, h1, by omega⟩
    · rw [if_neg h1] at h; cases h
theorem atI_get {α : Type} {xs : List α} {i : Int} {v : α} (h : atI xs i = some v) : ∃ j, seqIndex? i xs.length = some j ∧ xs[j]? = some v ∧ j < xs.length ∧ -(xs.length : Int) ≤ i ∧ i < xs.length := by
  unfold atI at h
  cases e : ixN xs.length i with
  | none => rw [e] at h; cases h
  | some j =>
    rw [e] at h
    obtain ⟨h1, h2, h3, h4⟩ := ixN_seq e
    exact ⟨j, h1, h, h2, h3, h4⟩
theorem atI_nat {α : Type} {xs : List α} {j : Nat} {v : α} (h : xs[j]? = some v) : atI xs (j : Int) = some v := by
  have hj : j < xs.length := (List.getElem?_eq_some_iff.mp h).1
  have e : ixN xs.length (j : Int) = some j := by
    unfold ixN
    rw [if_pos (by omega), if_pos (by omega)]; simp
  unfold atI; rw [e]; exact h

/-! ### what may be subscripted -/
/-- what stands as an index of a plain subscript -/
def PlainIx (b : Expr) : Prop := ∀ o i, subscripted b false o i = operate [o, i] (getItem o i)
/-- a subscript by values -/
def IxR (X : Cx) (r : R2) : Prop :=
  ∀ (value slice : Expr) (pins : List (Addr × Obj)) (s : Shared) (σ : St) (H : Hp) (x y : V) (v u : Value) (Q : VK), Inv X pins σ H s → RelV x v → RelV y u → r x y H Q →
    subscripted slice false v u = operate [v, u] (getItem v u) → wpAny (model X.prog X.w) X.A (subscriptTail value slice v u) (EP X pins σ Q) X.xe s
/-- a call of a builtin's method by values: the receiver, the arguments -/
def MtR (X : Cx) (id : String) (r : V → List V → Hp → VK → Prop) : Prop :=
  ∀ (pins : List (Addr × Obj)) (s : Shared) (σ : St) (H : Hp) (x : V) (xs : List V) (v : Value) (us : List Value) (Q : VK), Inv X pins σ H s → RelV x v → Vals xs us → r x xs H Q →
    wpAny (model X.prog X.w) X.A (call (.builtin id) (v :: us)) (EP X pins σ Q) X.xe s
section
variable {X : Cx} {a b : Expr} {ta tb : TE} {pos : Pos}
/-- a[b] -/
theorem pe_ix {r : R2} (hr : IxR X r) (ha : PE X a ta) (hb : PE X b tb) (hs : PlainIx b) : PE X (.Subscript a b pos) (tOp r ta tb) := by
  intro pins s σ H Q I h
  exact Subscript_ (binT ha hb I h fun v u s2 x y H2 I2 rx ry q => hr a b pins s2 σ H2 x y v u Q I2 rx ry q (hs _ _))

def rIxL (K : PySem.W.Frag) : R2 := fun x y H Q => ∃ p xs i v, x = .ref p ∧ y = .int i ∧ SqL K H p xs ∧ atI xs i = some v ∧ Q v H
def rIxT (K : PySem.W.Frag) : R2 := fun x y H Q => ∃ p xs i v, x = .ref p ∧ y = .int i ∧ SqT K H p xs ∧ atI xs i = some v ∧ Q v H
theorem ix_list : IxR X (rIxL X.K) := by
  intro value slice pins s σ H x y v u Q I rx ry h hs
  obtain ⟨p, xs, i, z, rfl, rfl, hq, he, q⟩ := h
  cases rx
  obtain ⟨t, rfl⟩ := ry
  obtain ⟨its, r, pl, hz⟩ := I.list hq
  obtain ⟨j, h1, h2, h3, h4, h5⟩ := atI_get he
  obtain ⟨w, ew, rw'⟩ := r.get h2
  have hl := r.length
  have hn := line63
  have fin : EP X pins σ Q w s := ⟨z, H, I, rw', q⟩
  by_cases h0 : 0 ≤ i
  · have hj : i.toNat = j := by
      rw [seqIndex_of h0 h5] at h1
      exact Option.some.inj h1
    exact item_listR pl.isList h0 (by omega) (by rw [hj]; simpa using ew) fin hs
  · have hj : (i + (its.toArray.size : Int)).toNat = j := by
      rw [seqIndex_neg (by omega) h4] at h1
      rw [List.size_toArray, ← hl]
      exact Option.some.inj h1
    exact subscriptTail_builtinR (x := w) pl.isList.typeIs slot_list_getitem.lookup
      (wpAny_getItem_list_neg (Q := fun r s' => r = w ∧ EP X pins σ Q r s') pl.isList (by omega) (by rw [List.size_toArray] <;> omega) (by omega) (by rw [hj]; simpa using ew) ⟨rfl, fin⟩) hs
theorem ix_tup : IxR X (rIxT X.K) := by
  intro value slice pins s σ H x y v u Q I rx ry h hs
  obtain ⟨p, xs, i, z, rfl, rfl, hq, he, q⟩ := h
  cases rx
  obtain ⟨t, rfl⟩ := ry
  obtain ⟨its, r, pl, hz⟩ := I.tuple hq
  obtain ⟨j, h1, h2, h3, h4, h5⟩ := atI_get he
  obtain ⟨w, ew, rw'⟩ := r.get h2
  have hl := r.length
  have hn := line63
  have fin : EP X pins σ Q w s := ⟨z, H, I, rw', q⟩
  exact subscriptTail_builtinR (x := w) pl.typeIs slot_tuple_getitem.lookup
    (getItem_tuple (j := j) (Q := fun r s' => r = w ∧ EP X pins σ Q r s') pl (by omega) (by omega) (by rw [List.size_toArray, ← hl]; exact h1) (by simpa using ew) ⟨rfl, fin⟩) hs

/-! ### xs[i] = v, any sign -/
/-- the list's object behind a store -/
theorem mapSeq_set (its : List Value) (n j : Nat) (u : Value) : Obj.mapSeq (·.setIfInBounds j u) { cls := .type "list", data := .seq its.toArray n } = { cls := .type "list", data := .seq (its.set j u).toArray n } := by
  simp [Obj.mapSeq]
theorem Inv.lst {pins : List (Addr × Obj)} {σ : St} {H : Hp} {s : Shared} {p : Addr} {xs : List V} (I : Inv X pins σ H s) (h : H p = some (.lst xs)) :
    ∃ (its : List Value) (n : Nat), Vals xs its ∧ s.heap.get? p = some { cls := .type "list", data := .seq its.toArray n } ∧ xs.length ≤ sizeLine := by
  obtain ⟨z, its, n, r, e⟩ := I.hok p _ h
  exact ⟨its, n, r, e, z⟩
/-- the list at p is written by an update of its object -/
theorem Inv.lstUpd {pins : List (Addr × Obj)} {σ : St} {H : Hp} {s : Shared} {p : Addr} {xs ys : List V} {its its' : List Value} {n n' : Nat} {f : Obj → Obj} (I : Inv X pins σ H s) (h : H p = some (.lst xs))
    (ho : s.heap.get? p = some { cls := .type "list", data := .seq its.toArray n }) (hf : f { cls := .type "list", data := .seq its.toArray n } = { cls := .type "list", data := .seq its'.toArray n' }) (r : Vals ys its') (hz : ys.length ≤ sizeLine) (t : Nat) :
    Inv X pins σ (upd H p (.lst ys)) { s with heap := s.heap.update p f, toks := t } := by
  have e : (s.heap.update p f).get? p = some { cls := .type "list", data := .seq its'.toArray n' } := by
    rw [Heap.get?_update_self f ho (by rw [hf] <;> rfl), hf]
  refine I.write (x := p) (e := p) (by rw [h]; trivial) (.inl rfl) (fun b u hb q => (Heap.get?_update_other _ _ (Ne.symm hb)).trans q) ⟨_, e⟩ ?_
  exact ⟨hz, its', n', r, e⟩
def rSetL : V → V → V → Hp → (Hp → Prop) → Prop := fun o i v H Q => ∃ p xs k j, o = .ref p ∧ i = .int k ∧ H p = some (.lst xs) ∧ ixN xs.length k = some j ∧ Q (upd H p (.lst (xs.set j v)))
theorem set_list : PSet X rSetL := by
  intro pins s σ H o i v ov iv u Q I ro ri rv h
  obtain ⟨p, xs, k, j, rfl, rfl, hp, hj, q⟩ := h
  cases ro
  obtain ⟨t, rfl⟩ := ri
  obtain ⟨its, n, r, ho, hz⟩ := I.lst hp
  obtain ⟨h1, h2, h3, h4⟩ := ixN_seq hj
  have hl := r.length
  have hn := line63
  have I' : Inv X pins σ (upd H p (.lst (xs.set j v))) { s with heap := s.heap.update p (Obj.mapSeq (·.setIfInBounds j u)) } :=
    I.lstUpd hp ho (mapSeq_set its n j u) (r.set rv j) (by rw [List.length_set]; exact hz) s.toks
  by_cases h0 : 0 ≤ k
  · have hk : k.toNat = j := by
      rw [seqIndex_of h0 h4] at h1
      exact Option.some.inj h1
    exact PySem.W.ki_setAt ho h0 (by omega) (by rw [List.size_toArray, ← hl]; exact h4) (by rw [hk]; exact ⟨_, I', q⟩)
  · have hk : (k + (its.toArray.size : Int)).toNat = j := by
      rw [seqIndex_neg (by omega) h3] at h1
      rw [List.size_toArray, ← hl]
      exact Option.some.inj h1
    exact PySem.W.ki_setBack ho (by omega) (by rw [List.size_toArray, ← hl]; exact h3) (by omega) (by rw [hk]; exact ⟨_, I', q⟩)

/-! ### slices -/
theorem slice_bounds (lo hi : Option Int) (n : Nat) : (sliceBounds lo hi none n).1 = ((HT.sIx n 0 lo : Nat) : Int) ∧ (sliceBounds lo hi none n).2.1 = ((HT.sIx n n hi : Nat) : Int) ∧ (sliceBounds lo hi none n).2.2 = 1 := by
  refine ⟨?_, ?_, rfl⟩
  · cases lo with
    | none => simp [sliceBounds, HT.sIx]
    | some i =>
      simp only [sliceBounds, HT.sIx, Option.getD_none, show (1 : Int) > 0 by decide, if_true]
      by_cases h : i < 0
      · simp only [h, if_true] <;> omega
      · simp only [h, if_false] <;> omega
  · cases hi with
    | none => simp [sliceBounds, HT.sIx]
    | some i =>
      simp only [sliceBounds, HT.sIx, Option.getD_none, show (1 : Int) > 0 by decide, if_true]
      by_cases h : i < 0
      · simp only [h, if_true] <;> omega
      · simp only [h, if_false] <;> omega
theorem slicePick_cut (its : List Value) (lo hi : Option Int) : slicePick its.toArray lo hi none = ((its.drop (HT.sIx its.length 0 lo)).take (HT.sIx its.length its.length hi - HT.sIx its.length 0 lo)).toArray := by
  obtain ⟨h1, h2, h3⟩ := slice_bounds lo hi its.toArray.size
  unfold slicePick
  rw [h1, h2, h3]
  simp only [sliceRange_one, pick_run, List.size_toArray] <;> rfl
/-- xs[lo:hi] of a list: a new list -/
def rSlL (K : PySem.W.Frag) : V → Option Int → Option Int → Hp → VK → Prop := fun x lo hi H Q => ∃ a xs, x = .ref a ∧ SqL K H a xs ∧ ∀ p, H p = none → Q (.ref p) (upd H p (.lst (cutV xs lo hi)))
theorem sl_list : SlR X (rSlL X.K) := by
  intro pins s σ H x v vl vu lo hi sl Q I rx hs pl pu h
  obtain ⟨a, xs, rfl, hx, q⟩ := h
  cases rx
  obtain ⟨its, r, ht, hz⟩ := I.list hx
  have hlen := r.length
  refine ⟨"list", _, slot_list_getitem.lookup, ht.isList.typeIs, ?_⟩
  refine wpAny_getItem_list_slice ht.isList hs pl pu .none (by simp) ?_ (by rw [List.size_toArray] <;> omega)
  rw [slicePick_cut, ← hlen]
  refine ⟨.ref s.heap.objs.size, _, I.laid (t' := s.toks) (o := .lst (cutV xs lo hi)) (fun b ob q => Heap.get?_push_of_some _ q) (Nat.le_refl _) ?_, rfl, q _ (I.hok.fresh (Nat.le_refl _))⟩
  exact ⟨Nat.le_trans (cutV_length xs lo hi) hz, _, 0, (r.drop (HT.sIx xs.length 0 lo)).take (HT.sIx xs.length xs.length hi - HT.sIx xs.length 0 lo), Heap.get?_push_size _ rfl⟩

/-! ### in, not in: flat items -/

/-! ### len, list(x), tuple(x) of any list or tuple that is read -/
theorem call_len_seq : CallR X (.builtin "len") (fun xs H Q => ∃ p ys, xs = [.ref p] ∧ (SqL X.K H p ys ∨ SqT X.K H p ys) ∧ Q (.int ys.length) H) := by
  intro pins s σ H xs us Q I r h
  obtain ⟨p, ys, rfl, hq, q⟩ := h
  obtain ⟨u, rfl, rx⟩ := vals1 r
  cases rx
  have hn := line63
  rcases hq with hq | hq
  · obtain ⟨its, r', pl, hz⟩ := I.list hq
    have hlen := r'.length
    exact Calls.call_len_list pl.isList (by simp only [List.size_toArray] <;> omega) ⟨.int ys.length, H, I.tok _, ⟨s.toks + 1, by rw [List.size_toArray, hlen]⟩, q⟩
  · obtain ⟨its, r', pl, hz⟩ := I.tuple hq
    have hlen := r'.length
    exact len_tuple pl (by simp only [List.size_toArray] <;> omega) ⟨.int ys.length, H, I.tok _, ⟨s.toks + 1, by rw [List.size_toArray, hlen]⟩, q⟩
theorem call_list_of : CallR X (.type "list") (fun xs H Q => ∃ p ys, xs = [.ref p] ∧ (SqL X.K H p ys ∨ SqT X.K H p ys) ∧ ∀ l, H l = none → Q (.ref l) (upd H l (.lst ys))) := by
  intro pins s σ H xs us Q I r h
  obtain ⟨p, ys, rfl, hq, q⟩ := h
  obtain ⟨u, rfl, rx⟩ := vals1 r
  cases rx
  have fin : ∀ (its : List Value), Vals ys its → ys.length ≤ sizeLine → ∀ (h' : Heap) (c' : Nat), (∀ b o', s.heap.get? b = some o' → h'.get? b = some o') →
      h'.get? s.heap.objs.size = some { cls := .type "list", dict := none, data := .seq its.toArray c', slots := #[] } → EP X pins σ Q (.ref s.heap.objs.size) { s with heap := h' } := fun its r' hz h' c' kp e =>
    ⟨.ref s.heap.objs.size, _, I.laid (t' := s.toks) kp (Nat.le_refl _) (show ObjOk X.prog X.w _ h' _ (.lst ys) from ⟨hz, its, c', r', e⟩), rfl, q _ (I.hok.fresh (Nat.le_refl _))⟩
  rcases hq with hq | hq
  · obtain ⟨its, r', pl, hz⟩ := I.list hq
    have hlen := r'.length
    obtain ⟨o, ho, hc, n, hd⟩ := pl.isList
    exact call_list_seq p (.inl rfl) ho hc hd (fun h' c' kp e => fin its r' hz h' c' kp e) (by simp only [List.size_toArray] <;> omega)
  · obtain ⟨its, r', pl, hz⟩ := I.tuple hq
    have hlen := r'.length
    obtain ⟨o, ho, hc, n, hd⟩ := pl
    exact call_list_seq p (.inr rfl) ho hc hd (fun h' c' kp e => fin its r' hz h' c' kp e) (by simp only [List.size_toArray] <;> omega)
theorem call_tuple_of : CallR X (.type "tuple") (fun xs H Q => ∃ p ys, xs = [.ref p] ∧ ((SqL X.K H p ys ∧ ∀ l, H l = none → Q (.ref l) (upd H l (.tup ys))) ∨ (SqT X.K H p ys ∧ Q (.ref p) H))) := by
  intro pins s σ H xs us Q I r h
  obtain ⟨p, ys, rfl, h⟩ := h
  obtain ⟨u, rfl, rx⟩ := vals1 r
  cases rx
  rcases h with ⟨hq, q⟩ | ⟨hq, q⟩
  · obtain ⟨its, r', pl, hz⟩ := I.list hq
    have hlen := r'.length
    refine call_tuple_list pl.isList (fun h' kp => ?_) (by simp only [List.size_toArray] <;> omega)
    have I1 : Inv X pins σ H { s with heap := h' } := I.kept (t' := s.toks) kp
    have I2 : Inv X pins σ (upd H h'.objs.size (.tup ys)) { s with heap := h'.push { cls := .type "tuple", data := .seq its.toArray } } :=
      I1.laid (t' := s.toks) (fun b o e => Heap.get?_push_of_some _ e) (Nat.le_refl _) (show ObjOk X.prog X.w _ _ _ (.tup ys) from ⟨hz, its, r', IsTup.new _ _⟩)
    exact ⟨.ref h'.objs.size, _, I2, rfl, q _ (I1.hok.fresh (Nat.le_refl _))⟩
  · obtain ⟨its, r', pl, hz⟩ := I.tuple hq
    exact call_tuple_same pl ⟨.ref p, H, I, rfl, q⟩

/-! ### the call of a builtin's method: o.m(..) -/
/-- the value is of that builtin type -/
def tyV (K : PySem.W.Frag) (T : String) (x : V) (H : Hp) : Prop := match x with
  | .str _ => T = "str"
  | .int _ => T = "int"
  | .ref p => (T = "list" ∧ ∃ xs, SqL K H p xs) ∨ (T = "tuple" ∧ ∃ o, K.lookup p = some o ∧ o.cls = .type "tuple" ∧ o.dict = none) ∨
      (T = "dict" ∧ ((∃ kvs, H p = some (.dK kvs)) ∨ ∃ kvs, H p = some (.dT kvs))) ∨ (T = "set" ∧ ∃ S n, H p = some (.set S n))
  | _ => False
theorem tyV_is {pins : List (Addr × Obj)} {σ : St} {H : Hp} {s : Shared} {T : String} {x : V} {v : Value} (I : Inv X pins σ H s) (r : RelV x v) (ty : tyV X.K T x H) :
    s.TypeIs v T ∧ ∀ a, v = .ref a → ∃ ob, s.heap.get? a = some ob ∧ ob.dict = none := by
  cases x with
  | str z =>
    obtain ⟨t, rfl⟩ := r
    cases (show T = "str" from ty)
    exact ⟨typeIs_str s z t, fun _ e => nomatch e⟩
  | int i =>
    obtain ⟨t, rfl⟩ := r
    cases (show T = "int" from ty)
    exact ⟨typeIs_int s i t, fun _ e => nomatch e⟩
  | ref p =>
    cases r
    rcases ty with ⟨rfl, xs, hq⟩ | ⟨rfl, o, hk, hc, hd⟩ | ⟨rfl, hk⟩ | ⟨rfl, S, n, hk⟩
    · obtain ⟨its, _, pl, _⟩ := I.list hq
      refine ⟨pl.isList.typeIs, fun a e => ?_⟩
      cases e
      obtain ⟨o, n, e, c, hd, _⟩ := pl
      exact ⟨o, e, hd⟩
    · refine ⟨⟨o, I.kIn p o hk, hc⟩, fun a e => ?_⟩
      cases e
      exact ⟨o, I.kIn _ o hk, hd⟩
    · have z : ∃ o, s.heap.get? p = some o ∧ o.ExactDict := by
        rcases hk with ⟨kvs, hk⟩ | ⟨kvs, hk⟩
        · obtain ⟨_, _, _, _, o, _, _, e, ex, _⟩ := I.hok p _ hk
          exact ⟨o, e, ex⟩
        · obtain ⟨_, _, _, _, o, _, _, e, ex, _⟩ := I.hok p _ hk
          exact ⟨o, e, ex⟩
      obtain ⟨o, e, ex⟩ := z
      refine ⟨⟨o, e, ex.1⟩, fun a e2 => ?_⟩
      cases e2
      exact ⟨o, e, ex.2.1⟩
    · obtain ⟨o, _, _, _, e, ex, _⟩ := I.hok p _ hk
      refine ⟨⟨o, e, ex.1⟩, fun a e2 => ?_⟩
      cases e2
      exact ⟨o, e, ex.2.1⟩
  | _ => exact False.elim ty
def tBM (K : PySem.W.Frag) (T : String) (r : V → List V → Hp → VK → Prop) (to : TE) (t : TA) : TE := fun σ H Q => to σ H fun x H1 => tyV K T x H1 ∧ t σ H1 fun xs H2 => r x xs H2 Q
variable {o e : Expr} {es : List Expr} {to : TE} {t : TA} {name : Str} {apos cpos : Pos} {T id : String} {r : V → List V → Hp → VK → Prop}
theorem pe_bm (pa : PlainAttrs T) (slot : Slot T name id) (hty : typeOf (.builtin id) = pure (.type "method_descriptor")) (hm : MtR X id r) (ho : PE X o to) (ha : PA X (e :: es) t)
    (hbase : attributeBase o name X.env (eval o X.env) = eval o X.env := by rfl)
    (hfew : ((backTo cpos (starEach (e :: es) X.env)).all (fun x => !x.1) && (backToKw cpos (keywordEach [] X.env)).all (fun x => x.1.isSome)
      && decide ((e :: es).length + ([] : List Keyword).length + (if ([] : List Keyword).isEmpty then 0 else 1) < 30)) = true := by rfl)
    (hline : (apos.endLine == cpos.line) = true := by rfl) (hs : starEach (e :: es) X.env = (false, eval e X.env) :: starEach es X.env := by rfl) (hplain : (backTo cpos (starEach es X.env)).any (·.1) = false := by rfl) :
    PE X (.Call (.Attribute o name apos) (e :: es) [] cpos) (tBM X.K T r to t) := by
  intro pins s σ H Q I h
  refine wpAny_Call_method_late hbase hfew hline rfl (thn (ho pins s σ H _ I h) fun v s1 ⟨x, H1, I1, r1, ty, q1⟩ => ?_)
  obtain ⟨h1, h2⟩ := tyV_is I1 r1 ty
  refine ⟨T, id, pa, slot, hty, h1, h2, ?_⟩
  have hA := ha cpos pins s1 σ H1 _ I1 q1
  rw [hs] at hA ⊢
  refine Calls.callWith_builtin (by show (false || (backTo cpos (starEach es X.env)).any (·.1)) = false; rw [hplain] <;> rfl) (Calls.evalArgs_plain ?_)
  exact thn hA fun us s2 ⟨vs, H2, I2, r2, q2⟩ => hm pins s2 σ H2 x vs v us Q I2 r1 r2 q2
/- xs.append(e), list.index on a module's tuple .. are MtR facts of 06m -/
end
end L2

namespace L2
open PySem PySem.Spec PyProof.Rows

def MtM (X : Cx) (id : String) (r : V → List V → Hp → VK → Prop) : Prop :=
  ∀ (pins : List (Addr × Obj)) (s : Shared) (σ : St) (H : Hp) (x : V) (xs : List V) (v : Value) (us : List Value) (Q : VK), Inv X pins σ H s → RelV x v → Vals xs us → r x xs H Q →
    wpAny (model X.prog X.w) X.A (call (.builtin id) (v :: us)) (EP X pins σ Q) X.xe s

/-! ### lists of values -/
theorem Vals.one : ∀ {x : V} {us : List Value}, Vals [x] us → ∃ u, us = [u] ∧ RelV x u
  | _, _, .cons r .nil => ⟨_, rfl, r⟩

section
variable {X : Cx} {pins : List (Addr × Obj)} {σ : St} {H : Hp} {s : Shared} {l b : Addr} {xs ys zs : List V}

/-! ### the two steps: a tracked list is rewritten, a new list is laid -/
theorem Inv.lset {its its' : List Value} {n : Nat} {f : Array Value → Array Value} {t' : Nat} (I : Inv X pins σ H s) (hH : H l = some (.lst xs))
    (e : s.heap.get? l = some { cls := .type "list", data := .seq its.toArray n }) (hf : f its.toArray = its'.toArray) (hv : Vals ys its') (hz : ys.length ≤ sizeLine) :
    Inv X pins σ (upd H l (.lst ys)) { s with heap := s.heap.update l (Obj.mapSeq f), toks := t' } := by
  have q := PySem.IsL.update e f
  rw [hf] at q
  refine I.write (x := l) (e := l) (by rw [hH]; exact trivial) (.inl rfl) (fun b' u hb hu => (Heap.get?_update_other s.heap (Obj.mapSeq f) (Ne.symm hb)).trans hu) ⟨_, q⟩ ?_
  exact ⟨hz, its', _, hv, q⟩
theorem Inv.lnew {its : List Value} {t' : Nat} (I : Inv X pins σ H s) (hv : Vals ys its) (hz : ys.length ≤ sizeLine) :
    Inv X pins σ (upd H s.heap.objs.size (.lst ys)) { s with heap := s.heap.push { cls := .type "list", data := .seq its.toArray }, toks := t' } :=
  I.laid (fun _ _ q => Heap.get?_push_of_some _ q) (Nat.le_refl _) ⟨hz, its, 0, hv, Heap.get?_push_size _ rfl⟩
theorem Inv.fresh (I : Inv X pins σ H s) : H s.heap.objs.size = none := I.hok.fresh (Nat.le_refl _)
theorem Inv.lstM (I : Inv X pins σ H s) (hH : H l = some (.lst xs)) : xs.length ≤ sizeLine ∧ ∃ (its : List Value) (n : Nat), Vals xs its ∧ xs.length = its.length ∧ s.heap.get? l = some { cls := .type "list", data := .seq its.toArray n } := by
  obtain ⟨z, its, n, r, e⟩ := I.hok l _ hH
  exact ⟨z, its, n, r, r.length, e⟩

end

section
variable {X : Cx}

/-! ### methods -/
def rAppend : V → List V → Hp → VK → Prop := fun x vs H Q => ∃ l xs y, x = .ref l ∧ vs = [y] ∧ H l = some (.lst xs) ∧ xs.length < sizeLine ∧ Q .non (upd H l (.lst (xs ++ [y])))
theorem mt_append : MtM X "list.append" rAppend := by
  intro pins s σ H x vs v us Q I rx rv h
  obtain ⟨l, xs, y, rfl, rfl, hH, hz, q⟩ := h
  cases rx
  obtain ⟨u, rfl, ru⟩ := rv.one
  obtain ⟨z, its, n, r, hl, e⟩ := I.lstM hH
  refine call_meets F.slot_list_append ⟨_, e, rfl⟩ F.entry_list_append (F.args_list_append_2 _ _) (PySem.list_append l its.toArray n u (by rw [List.size_toArray]; omega)) ⟨e, ?_⟩
  refine ⟨.non, _, I.lset (its' := its ++ [u]) hH e (by simp) (r.append (.cons ru .nil)) ?_, rfl, q⟩
  rw [List.length_append, List.length_singleton]
  omega






/-! ### list + list, list += list, list * int -/
def rCat : R2 := fun x y H Q => ∃ l b xs zs, x = .ref l ∧ y = .ref b ∧ H l = some (.lst xs) ∧ H b = some (.lst zs) ∧ xs.length + zs.length ≤ sizeLine ∧ ∀ p, H p = none → Q (.ref p) (upd H p (.lst (xs ++ zs)))
theorem op_cat : OpR X (binaryOp .Add) rCat := by
  intro pins s σ H x y v u Q I rx ry h
  obtain ⟨l, b, xs, zs, rfl, rfl, hH, hB, hz, q⟩ := h
  cases rx
  cases ry
  obtain ⟨z, its, n, r, hl, e⟩ := I.lstM hH
  obtain ⟨z2, its2, n2, r2, hl2, e2⟩ := I.lstM hB
  refine PySem.P.add_list e e2 ?_ (by rw [List.size_toArray, List.size_toArray]; omega)
  have ea : its.toArray ++ its2.toArray = (its ++ its2).toArray := by simp
  rw [ea]
  exact ⟨.ref _, _, I.lnew (t' := s.toks) (r.append r2) (by rw [List.length_append]; omega), rfl, q _ I.fresh⟩

/-! ### del xs[i] -/
end

/-! ### xs[a:b] = ys -/
section
variable {prog : Program} {w : World} {A : Around} {E : Value → Shared → Prop} {s : Shared}
set_option maxRecDepth 100000 in
end

section
variable {X : Cx}
end
end L2

namespace Att
open PySem PySem.W PySem.Calls PyProof.Rows

/-! ### the script -/
theorem ints_of_wellAll {P : Params} {h : Heap} : ∀ (ns : List Int) (vs : List Value), WellAll P h vs (ns.map WData.int) → IntsAre vs ns := by
  intro ns
  induction ns with
  | nil =>
    intro vs w
    rw [List.map_nil] at w
    cases w
    exact .nil
  | cons n ns ih =>
    intro vs w
    rw [List.map_cons] at w
    cases w with
    | cons a b =>
      cases a
      exact .cons _ _ (ih _ b)

theorem script_of {l : OpenLaw} {n : Nat} (hn : l.most = some n) {P : Params} {h : Heap} {args : List WData} {vals : List Value}
    (hpre : l.row.toRowW.claim.pre args = true) (hwl : WellAll P h vals args) :
    ∃ a vs ns, vals = [Value.ref a] ∧ args = [WData.list (ns.map WData.int)] ∧ h.get? a = some { cls := .type "list", data := .seq vs.toArray } ∧ IntsAre vs ns ∧ ns.length ≤ n := by
  have hsh : WShape.hasAll [] args [.list .int] = true := (pre_splitW hpre).1
  have hc : l.pre.holds [] { args := args } = true := (pre_splitW hpre).2
  obtain ⟨d, r, rfl, h1, h2⟩ := hasAllW_cons hsh
  obtain rfl := hasAllW_nil h2
  obtain ⟨xs, rfl, h3⟩ := hasW_list h1
  obtain ⟨ns, rfl⟩ := items_int h3
  have hlen : ns.length ≤ n := by
    unfold OpenLaw.pre at hc
    have h4 : (WTm.not (.lt (.lit (.int (n : Int))) (.len (.arg 0)))).holds [] { args := [.list (ns.map .int)] } = true := by
      have h4 := (holds_andW hc).1
      rw [hn] at h4
      exact h4
    have h5 := condW_of h4 (w_not (w_lt w_lit (w_len_list (w_arg rfl))))
    rw [List.length_map] at h5
    refine Nat.le_of_not_lt fun q => ?_
    have q' : (n : Int) < ((ns.length : Nat) : Int) := by omega
    first
      | (rw [decide_eq_true q'] at h5; exact absurd h5 (by decide))
      | (simp at h5; omega)
  cases hwl with
  | cons w1 w2 =>
    cases w2
    cases w1 with
    | list ho hall => exact ⟨_, _, ns, rfl, rfl, ho, ints_of_wellAll ns _ hall, hlen⟩

theorem post_true (l : OpenLaw) (args : List WData) : l.row.toRowW.claim.post args (.bool true) args = true :=
  postW_of (r := l.row.toRowW) (X := (true == true))
    (show WShape.has [] (.bool true) .bool = true by first | rfl | decide | simp [WShape.has, WShape.arms, WShape.armsAll])
    (show (WTm.eq .res (.lit (.bool true))).value [] { args := args, res := some (.bool true), after := args } = some (.bool (true == true)) from w_eq_bool (w_res rfl) w_lit) rfl

/-! ### the attachment: holds_open's last premise (the goal 'hc' behind k_head) from a wpAny of the law's body -/

/-- the same from a codeAny of the CALL (for a layer whose function contracts speak of calls) -/
theorem attach_call {l : OpenLaw} {n : Nat} {q : Program} {loose : List Str} {XP : (Str → Option Value) → Heap → Prop} {YP : World → Heap → Prop} {d : DefRec}
    (hn : l.most = some n) (hdf : d.params.defaults = [])
    (call : ∀ (w : World) (s₀ s₁ : Shared) (mg mb : Str → Option Value) (fa : Addr) (o : Obj) (pm cd doc : Value) (a : Addr) (vs : List Value) (ns : List Int),
      Ground q loose [] XP w s₀ mg mb s₁.heap → YP w s₁.heap →
      s₁.heap.get? fa = some o → o.data = .func (docDef d.name d.params d.body d.scope pm cd doc) → s₁.heap.CodeRec cd d.name → mg d.name = some (.ref fa) →
      s₁.heap.get? a = some { cls := .type "list", data := .seq vs.toArray } → IntsAre vs ns → ns.length ≤ n → s₁.gens = #[] →
      codeAny (model l.prog w) callerA (.call (.ref fa) ⟨[.ref a], []⟩) (fun r s' => r = .ok (.ret (.bool true)) ∧ OldK s₁.heap s'.heap ∧ s'.os = s₁.os ∧ AllBare s'.gens) s₁) :
    WalkO q loose XP YP l.row.toRowW d [] (fun f vs => PySem.call f vs) := by
  intro w s₀ s₁ mg mb G Y fa o pm cd doc dV kV ho hd hcd hD hmg hg args vals as hpre hlay hrd hwl hlo
  obtain rfl : dV = .none := Dflts.none hD hdf
  obtain rfl : kV = .none := Dflts.noKw hD
  obtain ⟨a, vs, ns, rfl, rfl, hobj, hints, hlen⟩ := script_of hn hpre hwl
  refine enter_call (codeAny_mono (call w s₀ s₁ mg mb fa o pm cd doc a vs ns G Y ho (fd_plain hd) hcd hmg hobj hints hlen hg) fun r s' hq => ?_)
  obtain ⟨rfl, h2, h3, h4⟩ := hq
  exact ⟨.inl ⟨.bool true, .bool true, [], rfl, fun _ => rfl, .bool true, post_true l _, fun _ => ⟨List.Pairwise.nil, fun _ hm => (nomatch hm)⟩⟩, h2, h3, h4⟩


/-! ### rules over ANY heap (no ledger) from facts about the written part K: the library's own take a ledger (News) for what they write -/
section
variable {prog : Program} {w : World} {A : Around} {E : Value → Shared → Prop} {s : Shared} {K : Frag}





/-! the whole heap as the ledger: makes every rule that writes through a ledger a rule over any heap -/

end
end Att

namespace L2
open PySem PySem.Spec PyProof.Rows

theorem vals_ints : ∀ {vs : List Value} {ns : List Int}, IntsAre vs ns → Vals (ns.map V.int) vs
  | _, _, .nil => .nil
  | _, _, .cons n t h => .cons ⟨t, rfl⟩ (vals_ints h)

/-- nothing is tracked but the script, known to the object (or it is an object of the module) -/
def Only (H : Hp) : Prop := ∀ b, H b = none ∨ ∃ o xs, H b = some (.frz o (.lst xs))

/-- THE HEAD: the law's promise, at the heap behind the top. F, the promise of the law's def, may use that base is part of the heap (so K.In base, base.Ns mainGlobals mg stand in Mod) -/
theorem law_call {P : Program} {w : World} {K : PySem.W.Frag} {mg mb : Str → Option Value} {CX : CXT} {k : Nat} {fa a : Addr} {fd : FuncData} {x : Str} {sp : Sp} {s₁ : Shared} {vs : List Value} {ns : List Int}
    (KX : K.In s₁.heap) (hns : s₁.heap.Ns mainGlobals mg) (hb : s₁.heap.Ns builtinsNs mb) (hbb : ∀ x : Str, x ≠ "__name__" → mb x = bootBuiltins x) (hlim : s₁.heap.NoLimit) (hg : s₁.gens = #[])
    (ha : s₁.heap.get? a = some { cls := .type "list", data := .seq vs.toArray }) (hi : IntsAre vs ns) (hl : ns.length ≤ sizeLine) (hr : Room k callerA)
    (F : ∀ base : Heap, K.In base → base.Ns mainGlobals mg → FnOk P w K mg base CX k fa fd [x] sp) (hbind : ∀ (s : Shared) (u : Value), BindsTo s fd ⟨[u], []⟩ [(x, u)])
    (hsp : ∀ H : Hp, Only H → SqL K H a (ns.map V.int) → sp [.ref a] H (fun v _ => v = .bl true) fun _ _ _ => False)
    (hCX : ∀ H e s', CX [] H s₁ (fun _ _ _ => False) e s' → False) :
    codeAny (model P w) callerA (.call (.ref fa) ⟨[.ref a], []⟩) (fun r s' => r = .ok (.ret (.bool true)) ∧ OldK s₁.heap s'.heap ∧ s'.os = s₁.os ∧ AllBare s'.gens) s₁ := by
  have rv := vals_ints hi
  have lenV := hi.length
  -- from an abstract heap in which nothing but the script may be tracked
  have core : ∀ H : Hp, Only H → SqL K H a (ns.map V.int) → HOk P w H s₁.heap → (∀ b, H b ≠ none → b = a) → (H a ≠ none → K.lookup a = none) →
      codeAny (model P w) callerA (.call (.ref fa) ⟨[.ref a], []⟩) (fun r s' => r = .ok (.ret (.bool true)) ∧ OldK s₁.heap s'.heap ∧ s'.os = s₁.os ∧ AllBare s'.gens) s₁ := by
    intro H hO hS hok hA hK
    have base_of : ∀ {b : Addr} {o : Obj}, s₁.heap.get? b = some o → H b = none → (hidT s₁.heap H).get? b = some o := fun e n => hidT_get e n
    have noA : ∀ {b : Addr} {o : Obj} {es : Array DictEntry} {ep : Nat}, s₁.heap.get? b = some o → o.data = .dict es ep → H b = none := fun {b o es ep} e d => by
      cases q : H b with
      | none => rfl
      | some u =>
        have e' : b = a := hA b (by rw [q]; simp)
        subst e'
        rw [ha] at e; cases e
        have d' : Data.seq vs.toArray _ = Data.dict es ep := d
        cases d'
    have nsK : ∀ {b : Addr} {m : Str → Option Value}, s₁.heap.Ns b m → (hidT s₁.heap H).Ns b m := fun {b m} ⟨o, es, ep, e, d, r⟩ => ⟨o, es, ep, base_of e (noA e d), d, r⟩
    have hKb : K.In (hidT s₁.heap H) := fun b o e => base_of (KX b o e) (by
      cases q : H b with
      | none => rfl
      | some u =>
        have e' : b = a := hA b (by rw [q]; simp)
        subst e'
        rw [hK (by rw [q]; simp)] at e; cases e)
    have hM : Mod K mg (hidT s₁.heap H) := ⟨hKb, nsK hns, ⟨mb, nsK hb, hbb⟩, let ⟨mc, h1, h2⟩ := hlim; ⟨mc, nsK h1, h2⟩⟩
    have e0 : Env0 P w K mg (hidT s₁.heap H) callerA [] s₁ H := ⟨rfl, hM, fun b o e => of_hidT e, Nat.le_of_eq (hidT_size _ _), trivial, fun b hb => absurd (show b ∈ ([] : List Addr) from hb) (by simp), hok, .of_eq hg⟩
    refine codeAny_mono ((F _ hKb (nsK hns)).run callerA [] s₁ H ⟨[.ref a], []⟩ [.ref a] [.ref a] _ _ hr e0 (hbind s₁ (.ref a)) (.cons rfl .nil) (hsp H hO hS)) fun r s' h => ?_
    cases r with
    | error e => exact (hCX H e s' h).elim
    | ok fl =>
      cases fl with
      | next => exact False.elim h
      | brk => exact False.elim h
      | cont => exact False.elim h
      | ret u =>
        obtain ⟨v, H', os, bare, un, hok', r', q⟩ := h
        have q' : v = .bl true := q
        subst q'
        obtain rfl : u = Value.bool true := r'
        refine ⟨rfl, OldK.of_keep fun b o e => ?_, os, bare⟩
        cases q : H b with
        | none => exact un.keep b o e q (by intro z; exact absurd (show b ∈ ([] : List Addr) from z) (by simp)) (by simp)
        | some u =>
          rcases hO b with z | ⟨ob, xs, z⟩
          · rw [q] at z; cases z
          · have z2 := un.frzs b ob _ z
            obtain ⟨e1, _⟩ := hok b _ z
            obtain ⟨e2, _⟩ := hok' b _ z2
            rw [e] at e1; cases e1
            exact e2
  cases hk : K.lookup a with
  | some o =>
    -- the script is one of the module's own objects
    have e := KX a o hk
    rw [ha] at e
    cases e
    refine core (fun _ => none) (fun _ => .inl rfl) (.inr ⟨_, vs.toArray, _, hk, rfl, rfl, rfl, by rw [List.size_toArray, lenV]; exact hl, by simpa using rv⟩) (fun b u z => by have z' : (none : Option HO) = some u := z; cases z') (fun b z => absurd rfl z) fun z => absurd rfl z
  | none =>
    refine core (fun b => if b = a then some (.frz { cls := .type "list", data := .seq vs.toArray } (.lst (ns.map V.int))) else none) (fun b => ?_) (.inl (.inr ⟨{ cls := .type "list", data := .seq vs.toArray }, if_pos rfl⟩)) (fun b u z => ?_) (fun b z => ?_) fun _ => hk
    · by_cases hb : b = a
      · exact .inr ⟨_, _, if_pos hb⟩
      · exact .inl (if_neg hb)
    · by_cases hb : b = a
      · have z' := (if_pos hb).symm.trans z
        cases z'
        subst hb
        exact ⟨ha, by rw [List.length_map]; exact hl, vs, _, rv, ha⟩
      · have z' := (if_neg hb).symm.trans z
        cases z'
    · by_cases hb : b = a
      · exact hb
      · exact absurd (if_neg hb) z
end L2

namespace L2
open PySem PySem.Spec PyProof.Rows

abbrev KOf {K : PySem.W.Frag} {h : Heap} (_ : K.In h) : PySem.W.Frag := K

/-- the goal that k_head leaves (case hc), from the law's promise. F gives the function object fd (K's own) once, then the promise over every base -/
theorem walk_of {l : PySem.W.OpenLaw} {n k : Nat} {q : Program} {loose : List Str} {XP : (Str → Option Value) → Heap → Prop} {YP : World → Heap → Prop} {d : DefRec} {K : Params → PySem.W.Frag} {CX : World → CXT} {sp : World → Sp} {x : Str}
    (hn : l.most = some n) (hn2 : n ≤ sizeLine) (hdf : d.params.defaults = []) (hr : Room k callerA)
    (hY : ∀ (w : World) (h : Heap), YP w h → (K w.params).In h)
    (F : ∀ (w : World) (mg : Str → Option Value) (fa : Addr) (h : Heap), (K w.params).In h → h.Ns mainGlobals mg → mg d.name = some (.ref fa) →
      ∃ fd : FuncData, (∀ (s : Shared) (u : Value), BindsTo s fd ⟨[u], []⟩ [(x, u)]) ∧
        ∀ base : Heap, (K w.params).In base → base.Ns mainGlobals mg → FnOk l.prog w (K w.params) mg base (CX w) k fa fd [x] (sp w))
    (hsp : ∀ (w : World) (H : Hp) (a : Addr) (ns : List Int), ns.length ≤ n → Only H → SqL (K w.params) H a (ns.map V.int) → sp w [.ref a] H (fun v _ => v = .bl true) fun _ _ _ => False)
    (hCX : ∀ (w : World) (H : Hp) (s : Shared) (e : Value) (s' : Shared), CX w [] H s (fun _ _ _ => False) e s' → False) :
    PySem.W.WalkO q loose XP YP l.row.toRowW d [] (fun f vs => PySem.call f vs) := by
  refine Att.attach_call hn hdf fun w s₀ s₁ mg mb fa o pm cd doc a vs ns G Y ho hd hcd hmg hobj hints hlen hg => ?_
  have KX := hY w _ Y
  obtain ⟨fd, hb, hF⟩ := F w mg fa _ KX G.T.g hmg
  exact law_call KX G.T.g G.T.b G.T.builtins G.T.nolimit hg hobj hints (Nat.le_trans hlen hn2) hr hF hb (fun H hO hS => hsp w H a ns hlen hO hS) fun H e s' => hCX w H s₁ e s'
end L2

/- THE LAST THEOREM (shape; LID, My.* are yours):
   My.Adr: a structure of the addresses that your layer names (classes, functions); My.Txt K t: a structure (Prop) of the equations over K;
   My.txt_mk : {K} {implicit addresses ..} (e1 : nsIn K mainGlobals "law" = some (some (.ref f))) (e2 : K.lookup f = some ⟨oc, od, .func (fnOf "law" "law" params body scope dV kV doc pm an cdv ct), sl⟩) (e3 : codeIn K cdv "law" = true) .. : ∃ t, My.Txt K t

set_option maxRecDepth 100000 in
set_option maxHeartbeats 0 in
theorem PySem.Challenge.cw_LID_holds : PySem.Challenge.rw_LID.Holds := by
  w_on; o_law; k_head; (case hw => w_witness2)
  k_fill
  refine L2.walk_of (l := PySem.Challenge.rw_LID) (n := 63) (k := 40) (x := "script") (CX := fun w => ..) (sp := fun _ => My.sp_law) rfl (by decide) rfl ⟨rfl, by decide, by decide⟩ (fun w h Y => PySem.W.kIn_of Y) ?F ?S ?C
  case F =>
    intro w mg fa h KX G hmg
    have T : ∃ t, My.Txt (L2.KOf KX) t := by
      dsimp only [L2.KOf]                          -- K must stand as «<heap const> w.params» for k_is
      refine' My.txt_mk ?e1 ?e2 ?e3 ..
      (case e1 => PySem.W.k_is)                    -- in the order: a name -> its address -> its object -> its parts
      (case e2 => PySem.W.k_is)
      ..
    obtain ⟨t, T⟩ := T
    have e0 := hmg.symm.trans (PySem.W.mg_of KX G T.law)
    cases e0                                       -- fa is the law's own address
    exact ⟨_, fun s u => .of_eq rfl, fun base kb nb => My.law_fn T kb nb⟩     -- if «.of_eq rfl» comes too early: refine' ⟨_, ?b, fun base kb nb => My.law_fn T kb nb⟩; exact fun s u => .of_eq rfl
  case S => exact fun w H a ns hl hO hS => ..
  case C => exact ..
(the tactic k_is has no namespace: write k_is) -/

/-! SHORT WORDS over the layer: a def of the text, its body, what a loop and a test want. -/
namespace L2
open PySem PySem.Spec PyProof.Rows

/-! ### the text by places -/
def defArgs (s : Stmt) : Arguments := match s with
  | .FunctionDef _ a _ _ _ _ _ _ _ _ => a
  | _ => { posonlyargs := [], args := [], vararg := none, kwonlyargs := [], kw_defaults := [], kwarg := none, defaults := [] }
def defBody (s : Stmt) : List Stmt := match s with
  | .FunctionDef _ _ b _ _ _ _ _ _ _ => b
  | _ => []
def defScope (s : Stmt) : Scope := match s with
  | .FunctionDef _ _ _ _ _ _ sc _ _ _ => sc
  | _ => { kind := .function, names := [], isGenerator := false, isCoroutine := false }

/-! ### no exception leaves a def -/
abbrev CX0 : CXT := fun _ _ _ _ _ _ => False
abbrev E0 : XK := fun _ _ _ => False
theorem pass0 {X : Cx} : Passes CX0 X E0 := fun _ _ _ _ _ _ _ h => h.elim

/-! ### a def (or method) of the text as it stands behind the top -/
structure Fun (K : PySem.W.Frag) (x qual : Str) (st : Stmt) (f : Addr) (fd : FuncData) : Prop where
  ex : ∃ (oc : Value) (od : Option Addr) (kV doc pm : Value) (an : Option Addr) (cdv ct : Value) (osl : Array (Option Value)),
    fd = PySem.W.fnOf x qual (defArgs st) (defBody st) (defScope st) .none kV doc pm an cdv ct ∧ K.lookup f = some ⟨oc, od, .func fd, osl⟩ ∧ PySem.W.codeIn K cdv qual = true
  kp : PySem.W.keepIn K (.ref f) = true
section
variable {P : Program} {w : World} {K : PySem.W.Frag} {mg : Str → Option Value} {base : Heap}
/-- THE RULE for a def: its body as a term of rules, and the reading of that term -/
theorem Fun.ok {x qual : Str} {st : Stmt} {f : Addr} {fd : FuncData} {N ps : List Str} {k : Nat} {sp : Sp} (F : Fun K x qual st f fd) (S : FnScope N ps (defScope st)) (len : ∀ vs H Q E, sp vs H Q E → vs.length = ps.length)
    (hbody : ∀ (cdv : Value) (A : Around) (outer : List Env) (s : Shared) (H : Hp) (vs : List V) (Q : VK) (E : XK), Room k (A.deeper (envOfC qual (defScope st) s.heap.objs.size f cdv)) → sp vs H Q E →
      ∃ t, PSs (cxOf CX0 P w K mg base N qual (defScope st) f cdv A outer s H E).nox (defBody st) t ∧ t { nx := fun _ H' => Q .non H', rt := Q } (start N vs) H) : FnOk P w K mg base CX0 (k + 1) f fd ps sp := by
  obtain ⟨oc, od, kV, doc, pm, an, cdv, ct, osl, rfl, lk, hcd⟩ := F.ex
  refine fn_of lk hcd S len fun A outer s H vs Q E hr hsp => ?_
  obtain ⟨t, h, q⟩ := hbody cdv A outer s H vs Q E hr hsp
  exact ⟨t, h.nox, q⟩
/-- how its arguments bind (no defaults): h is «fun _ _ _ _ _ _ us hl => match us, hl with | [_, _], _ => rfl», one _ a parameter -/
theorem Fun.binds {x qual : Str} {st : Stmt} {f : Addr} {fd : FuncData} {ps : List Str} (F : Fun K x qual st f fd)
    (h : ∀ (kV doc pm : Value) (an : Option Addr) (cdv ct : Value) (us : List Value), us.length = ps.length → bindArgs (PySem.W.fnOf x qual (defArgs st) (defBody st) (defScope st) .none kV doc pm an cdv ct) ⟨us, []⟩ = pure (ps.zip us)) : Binds K fd ps [] := by
  obtain ⟨oc, od, kV, doc, pm, an, cdv, ct, osl, rfl, lk, hcd⟩ := F.ex
  exact .all (h kV doc pm an cdv ct)
theorem fun_mk {x qual : Str} {st : Stmt} {f : Addr} {oc : Value} {od an : Option Addr} {osl : Array (Option Value)} {kV doc pm cdv ct : Value} (l : K.lookup f = some ⟨oc, od, .func (PySem.W.fnOf x qual (defArgs st) (defBody st) (defScope st) .none kV doc pm an cdv ct), osl⟩)
    (c : PySem.W.codeIn K cdv qual = true) (k : PySem.W.keepIn K (.ref f) = true) : Fun K x qual st f (PySem.W.fnOf x qual (defArgs st) (defBody st) (defScope st) .none kV doc pm an cdv ct) := ⟨⟨oc, od, kV, doc, pm, an, cdv, ct, osl, rfl, l, c⟩, k⟩
end
theorem hu_of {A : Around} {k : Nat} (hr : Room k A) : A.units + 1 < cLine := Nat.lt_of_le_of_lt (Nat.add_le_add_left (by decide : 1 ≤ 64) _) hr.units
theorem small1000 {n : Nat} (h : n ≤ 1000) : n < sizeLine := Nat.lt_of_le_of_lt h (by decide)

/-! ### expressions in short: the name that stands in the i-th slot -/
section
variable {X : Cx}
theorem pv (i : Nat) {x : Str} {pos : Pos} (hN : X.N[i]? = some x := by rfl) (hv : Vis X.env.scope x := by first | exact Or.inl rfl | exact Or.inr (Or.inl rfl) | exact Or.inr (Or.inr rfl)) (hd : (x == ("__debug__" : Str)) = false := by decide)
    (hcd : (x == ("__classdict__" : Str)) = false := by decide) : PE X (.Name x pos) (tVar i) := pe_var hN hv hd hcd
end

/-! ### tests -/
theorem iteF {A B : Prop} (h : B) : if false = true then A else B := by
  rw [if_neg Bool.false_ne_true]
  exact h
theorem iteT {A B : Prop} (h : A) : if true = true then A else B := by
  rw [if_pos rfl]
  exact h

/-! ### heaps -/
/-- all that was tracked is as it was -/
def Same (H H' : Hp) : Prop := ∀ b o, H b = some o → H' b = some o
theorem Same.refl (H : Hp) : Same H H := fun _ _ h => h
theorem Same.trans {H H1 H2 : Hp} (a : Same H H1) (b : Same H1 H2) : Same H H2 := fun c o h => b c o (a c o h)
theorem Same.free {H H' : Hp} (e : Same H H') {l : Addr} (h : H' l = Option.none) : H l = Option.none := by
  cases q : H l with
  | none => rfl
  | some o =>
    rw [e l o q] at h
    cases h
theorem Same.seq {K : PySem.W.Frag} {H H' : Hp} {a : Addr} {xs : List V} (e : Same H H') (h : SqL K H a xs) : SqL K H' a xs := by
  rcases h with (h | ⟨o, h⟩) | h
  · exact .inl (.inl (e _ _ h))
  · exact .inl (.inr ⟨o, e _ _ h⟩)
  · exact .inr h

end L2
namespace GS
/-! the law's own going -/
/-! a name is one word -/
end GS
set_option Elab.async false
set_option linter.all false
set_option maxRecDepth 100000
set_option maxHeartbeats 4000000
namespace L2
open PySem PySem.Spec PyProof.Rows PySem.Builtin PySem.Builtin.Str

/-! ### texts -/
section
variable {X : Cx}
def rSlS : V → Option Int → Option Int → Hp → VK → Prop := fun x lo hi H Q => ∃ z, x = .str z ∧ z.length ≤ sizeLine ∧ Q (.str (StrLaws.sliceText z lo hi)) H
theorem sliceText_le (x : Str) (l u : Option Int) : (StrLaws.sliceText x l u).length ≤ x.length := Txt.slice_le x l u
theorem sl_str : SlR X rSlS := by
  intro pins s σ H x v vl vu lo hi sl Q I rx hs pl pu h
  obtain ⟨z, rfl, hz, q⟩ := h
  obtain ⟨t, rfl⟩ := rx
  have fin : ∀ t' k, EP X pins σ Q (.str (StrLaws.sliceText z lo hi) t') { s with toks := k } := fun t' k => ⟨.str _, H, I.tok _, ⟨_, rfl⟩, q⟩
  refine ⟨"str", _, F.slot_str_getitem.lookup, typeIs_str _ _ _, ?_⟩
  cases pl with
  | none =>
    cases pu with
    | none => exact wpAny_getItem_str_slice (l := none) (u := none) (st := none) hs rfl (post_val_or_str ⟨Nat.le_trans (sliceText_le z _ _) hz, fin⟩)
    | int j uj => exact wpAny_getItem_str_slice (l := none) (u := some (j, uj)) (st := none) hs rfl (post_val_or_str ⟨Nat.le_trans (sliceText_le z _ _) hz, fin⟩)
  | int i ui =>
    cases pu with
    | none => exact wpAny_getItem_str_slice (l := some (i, ui)) (u := none) (st := none) hs rfl (post_val_or_str ⟨Nat.le_trans (sliceText_le z _ _) hz, fin⟩)
    | int j uj => exact wpAny_getItem_str_slice (l := some (i, ui)) (u := some (j, uj)) (st := none) hs rfl (post_val_or_str ⟨Nat.le_trans (sliceText_le z _ _) hz, fin⟩)

end
end L2
set_option Elab.async false
set_option linter.all false
set_option maxRecDepth 100000
set_option maxHeartbeats 4000000
namespace PySem
section
variable {prog : Program} {w : World} {A : Around} {E : Value → Shared → Prop} {R : Result → Shared → Prop} {s : Shared}
end
end PySem
namespace L2
open PySem PySem.Spec PyProof.Rows PySem.Builtin PySem.Builtin.Str

/-! ### a text is walked -/
section
variable {X : Cx} {tg : Expr}
end

/-! ### a comprehension of one clause -/
def blk (X : Cx) (scope : Scope) (cl : List (Str × Addr)) (C : Addr) (N' : List Str) (s0 : Shared) (H0 : Hp) (fp : List Addr) : Cx :=
  { X with N := N', s₀ := s0, H₀ := H0, env := compEnvC scope cl C X.env, outer := X.stack, stack := X.stack, ex := fp, fn := fun _ => false, pn := [], xe := fun _ _ => False }
section
variable {X : Cx}
end
end L2
set_option Elab.async false
set_option linter.all false
set_option maxRecDepth 100000
set_option maxHeartbeats 4000000
namespace L2
open PySem PySem.Spec PyProof.Rows PySem.Builtin PySem.Builtin.Str
section
variable {X : Cx}
/-! ### all of a list of truths -/
theorem vals_bools : ∀ {bs : List Bool} {us : List Value}, Vals (bs.map V.bl) us → us = bs.map Value.bool
  | [], _, .nil => rfl
  | b :: bs, _, .cons r rr => by
    have e : _ = Value.bool b := r
    rw [e, vals_bools rr]; rfl
theorem all_getD (bs : List Bool) : (List.range bs.length).all (fun j => (bs[j]?).getD true) = bs.all id := by
  rw [Bool.eq_iff_iff, List.all_eq_true, List.all_eq_true]
  constructor
  · intro h x hx
    obtain ⟨i, hi, rfl⟩ := List.mem_iff_getElem.mp hx
    have := h i (List.mem_range.mpr hi)
    simpa [hi] using this
  · intro h j hj
    have hj' := List.mem_range.mp hj
    have := h _ (List.getElem_mem hj')
    simpa [hj'] using this
theorem call_all (hc : X.calm = true) : CallR X (.builtin "all") (fun xs H Q => ∃ (p : Addr) (bs : List Bool), xs = [.ref p] ∧ SqL X.K H p (bs.map V.bl) ∧ Q (.bl (bs.all id)) H) := by
  intro pins s σ H xs us Q I r h
  obtain ⟨p, bs, rfl, hq, q⟩ := h
  obtain ⟨u, rfl, ru⟩ := vals1 r
  cases ru
  obtain ⟨its, rv, pl, hz⟩ := I.list hq
  have ei := vals_bools rv
  subst ei
  have hpl : p < s.heap.objs.size := let ⟨o, n, e, _⟩ := pl; Heap.lt_size e
  refine call_all_walk (wpAny_pyIter_list pl.isList ?_)
  refine ⟨s.heap.objs.size, [s.heap.objs.size, p], [s.heap.objs.size], (bs.map Value.bool).toArray.size, _, _, (fun j => (bs[j]?).getD true), rfl,
    Walks.list (A := X.A.in1) (I.ok.hd hc) _ p (Nat.ne_of_lt hpl) (bs.map Value.bool).toArray, ⟨⟨_, Heap.get?_push_size _ rfl, rfl, rfl⟩, ?_⟩, fun i v s' Q' E' hP hQ' => ?_, fun h' tk k => ?_⟩
  · obtain ⟨o, ho, r⟩ := pl.isList
    exact ⟨o, Heap.get?_push_of_some _ ho, r⟩
  · have hP' : (bs.map Value.bool)[i]? = some v := by simpa using hP
    rw [List.getElem?_map] at hP'
    cases e : bs[i]? with
    | none => rw [e] at hP'; cases hP'
    | some b =>
      rw [e] at hP'
      have e' : Value.bool b = v := by simpa using hP'
      subst e'
      have hQ2 : Q' b s' := by simpa [e] using hQ'
      exact wpAny_truthy_bool hQ2
  · have e1 : (bs.map Value.bool).toArray.size = bs.length := by simp
    rw [e1, all_getD bs]
    refine ⟨.bl _, H, I.kept fun b o e => k b o ?_ (Heap.get?_push_of_some _ e), rfl, q⟩
    intro hm
    exact Nat.ne_of_lt (Heap.lt_size e) (List.mem_singleton.mp hm)
/-! ### isinstance -/
/-! ### {} -/
theorem Inv.big {pins : List (Addr × Obj)} {σ : St} {H : Hp} {s : Shared} (I : Inv X pins σ H s) : sysModules < s.heap.objs.size := by
  have h : mainGlobals < s.heap.objs.size := (I.mod.glob.keeps I.bk).lt
  exact Nat.lt_trans (by decide) h
theorem dk_empty {P : Program} {w : World} {H : Hp} (h : Heap) (hb : sysModules < h.objs.size) : ObjOk P w H (h.push { cls := .type "dict", data := .dict #[] }) h.objs.size (.dK []) :=
  ⟨Nat.zero_le _, beq_eq_false_iff_ne.mpr (Ne.symm (Nat.ne_of_lt hb)), [], .nil, Heap.DictOf.new h⟩
def tDNewK : TE := fun _ H Q => ∀ p, H p = none → Q (.ref p) (upd H p (.dK []))
theorem pe_dnewK {pos : Pos} : PE X (.Dict [] [] pos) tDNewK := fun pins s σ H Q I h =>
  wpAny_Dict_empty ⟨.ref s.heap.objs.size, _, I.laid (a := s.heap.objs.size) (o := .dK []) (t' := s.toks) (fun _ _ q => Heap.get?_push_of_some _ q) (Nat.le_refl _) (dk_empty s.heap I.big), rfl, h _ (I.hok.fresh (Nat.le_refl _))⟩
/-! ### join at a written text, with the tokens that it leaves; replace of one written text by another -/
end
end L2
set_option Elab.async false
set_option linter.all false
set_option maxRecDepth 100000
set_option maxHeartbeats 4000000
namespace GS
open PySem L2 PyProof.Rows
/-! ### a def that is there, with its promise -/
structure Def (P : Program) (w : World) (K : PySem.W.Frag) (mg : Str → Option Value) (base : Heap) (name : Str) (ps : List Str) (k : Nat) (sp : Sp) : Prop where
  ex : ∃ (f : Addr) (fd : FuncData), mg name = some (.ref f) ∧ PySem.W.keepIn K (.ref f) = true ∧ Binds K fd ps [] ∧ FnOk P w K mg base CX0 k f fd ps sp
theorem pe_def {X : Cx} {name : Str} {ps : List Str} {k k' : Nat} {sp : Sp} {e : Expr} {es : List Expr} {t : TA} {p pos : Pos} (F : Def X.prog X.w X.K X.mg X.base name ps k sp) (hr : Room k' X.A) (hk : k ≤ k') (hg : Gl X name) (ha : PA X (e :: es) t)
    (hdb : (name == ("__debug__" : Str)) = false := by decide) (he : starEach (e :: es) X.env = (false, eval e X.env) :: starEach es X.env := by rfl) (hpl : (backTo pos (starEach es X.env)).any (·.1) = false := by rfl) :
    PE X (.Call (.Name name p) (e :: es) [] pos) (tCall sp [] E0 t) := by
  obtain ⟨f, fd, h1, h2, h3, h4⟩ := F.ex
  exact pe_call (h4.mono hk) hr hg h1 h2 h3 .nil pass0 ha hdb he hpl
theorem def_mk {P : Program} {w : World} {K : PySem.W.Frag} {mg : Str → Option Value} {base : Heap} {name : Str} {ps : List Str} {k : Nat} {sp : Sp} {st : Stmt} {f : Addr} {fd : FuncData} (F : Fun K name name st f fd) (hm : mg name = some (.ref f)) (hb : Binds K fd ps []) (h : FnOk P w K mg base CX0 k f fd ps sp) :
    Def P w K mg base name ps k sp := ⟨f, fd, hm, F.kp, hb, h⟩
theorem pe_gint {X : Cx} {x : Str} {z : Int} {pos : Pos} (hg : Gl X x) (hm : ∃ t, X.mg x = some (.int z t)) (hd : (x == ("__debug__" : Str)) = false := by decide) : PE X (.Name x pos) (tC (.int z)) := by
  obtain ⟨t, e⟩ := hm
  exact pe_glob hg e ⟨t, rfl⟩ hd
/-! ### texts by their codes -/
theorem same_new {H : Hp} {p : Addr} (h : H p = none) (o : HO) : Same H (upd H p o) := fun b u q => by rw [upd_ne (ne_of_none q h)]; exact q
theorem same_upd {H H' : Hp} {p : Addr} (e : Same H H') (h : H p = none) (o : HO) : Same H (upd H' p o) := fun b u q => by rw [upd_ne (ne_of_none q h)]; exact e b u q
theorem small {n : Nat} (h : n ≤ 1000000) : n ≤ sizeLine := by rw [sizeLine_eq]; omega
end GS
set_option Elab.async false
set_option linter.all false
set_option maxRecDepth 100000
set_option maxHeartbeats 4000000
/-! THE LAYER'S RULES UNDER A LID: the same names in namespace L3, over judgements that Lean doesn't unfold (an application whose type is an open judgement costs a run of the text that it speaks of: seconds a list, minutes a list of lists). A def's proof is F.okI in the place of F.ok; an open rule's term comes in by .mk. -/
namespace L3
open PySem PySem.Spec PyProof.Rows L2
@[irreducible] def LE (X : Cx) (e : Expr) (t : TE) : Prop := PE X e t
@[irreducible] def LT (X : Cx) (e : Expr) (t : TT) : Prop := PT X e t
@[irreducible] def LW (X : Cx) (e : Expr) (t : TT) : Prop := PW X e t
@[irreducible] def LA (X : Cx) (es : List Expr) (t : TA) : Prop := PA X es t
@[irreducible] def LO (X : Cx) (e : Option Expr) (t : TO) : Prop := PO X e t
@[irreducible] def LG (X : Cx) (e : Expr) (t : TG) : Prop := PG X e t
@[irreducible] def LGs (X : Cx) (es : List Expr) (t : TGs) : Prop := PGs X es t
@[irreducible] def LI (X : Cx) (tg e : Expr) (t : TI) : Prop := PI X tg e t
@[irreducible] def LS (X : Cx) (st : Stmt) (t : TS) : Prop := PS X st t
@[irreducible] def LSs (X : Cx) (st : List Stmt) (t : TS) : Prop := PSs X st t
section
variable {X : Cx} {e a b c o tg : Expr} {es rest : List Expr} {oe lo hi : Option Expr} {st : Stmt} {sts : List Stmt} {te ta tb to : TE} {tA tB' tc : TT} {tl th : TO} {t : TA} {ts us : TS} {tg' : TG} {tgs : TGs} {wi : TI} {pos p p2 apos cpos : Pos}
theorem LE.mk (h : PE X e te) : LE X e te := by unfold LE; exact h
theorem LE.out (h : LE X e te) : PE X e te := by unfold LE at h; exact h
theorem LT.mk (h : PT X e tA) : LT X e tA := by unfold LT; exact h
theorem LT.out (h : LT X e tA) : PT X e tA := by unfold LT at h; exact h
theorem LW.mk (h : PW X e tA) : LW X e tA := by unfold LW; exact h
theorem LW.out (h : LW X e tA) : PW X e tA := by unfold LW at h; exact h
theorem LA.mk (h : PA X es t) : LA X es t := by unfold LA; exact h
theorem LA.out (h : LA X es t) : PA X es t := by unfold LA at h; exact h
theorem LO.mk (h : PO X oe tl) : LO X oe tl := by unfold LO; exact h
theorem LO.out (h : LO X oe tl) : PO X oe tl := by unfold LO at h; exact h
theorem LG.mk (h : PG X e tg') : LG X e tg' := by unfold LG; exact h
theorem LG.out (h : LG X e tg') : PG X e tg' := by unfold LG at h; exact h
theorem LGs.mk (h : PGs X es tgs) : LGs X es tgs := by unfold LGs; exact h
theorem LGs.out (h : LGs X es tgs) : PGs X es tgs := by unfold LGs at h; exact h
theorem LI.mk (h : PI X tg e wi) : LI X tg e wi := by unfold LI; exact h
theorem LI.out (h : LI X tg e wi) : PI X tg e wi := by unfold LI at h; exact h
theorem LS.mk (h : PS X st ts) : LS X st ts := by unfold LS; exact h
theorem LS.out (h : LS X st ts) : PS X st ts := by unfold LS at h; exact h
theorem LSs.mk (h : PSs X sts ts) : LSs X sts ts := by unfold LSs; exact h
theorem LSs.out (h : LSs X sts ts) : PSs X sts ts := by unfold LSs at h; exact h
/-! expressions -/
theorem pe_int {i : Int} {j : Nat} : LE X (.Constant (.int i) j pos) (tC (.int i)) := .mk L2.pe_int
theorem pe_bl {b : Bool} {j : Nat} : LE X (.Constant (.bool b) j pos) (tC (.bl b)) := .mk L2.pe_bl
theorem pe_non {j : Nat} : LE X (.Constant .none j pos) (tC .non) := .mk L2.pe_non
theorem pe_str {x : Str} {j : Nat} : LE X (.Constant (.str x) j pos) (tC (.str x)) := .mk L2.pe_str
theorem pv (i : Nat) {x : Str} (hN : X.N[i]? = some x := by rfl) (hv : Vis X.env.scope x := by first | exact Or.inl rfl | exact Or.inr (Or.inl rfl) | exact Or.inr (Or.inr rfl)) (hd : (x == ("__debug__" : Str)) = false := by decide)
    (hcd : (x == ("__classdict__" : Str)) = false := by decide) : LE X (.Name x pos) (tVar i) := .mk (L2.pv i hN hv hd hcd)
theorem pe_glob {x : Str} {v : V} {u : Value} (hg : Gl X x) (hm : X.mg x = some u) (r : RelV v u) (hd : (x == ("__debug__" : Str)) = false := by decide) : LE X (.Name x pos) (tC v) := .mk (L2.pe_glob hg hm r hd)
theorem pe_gint {x : Str} {z : Int} (hg : Gl X x) (hm : ∃ t, X.mg x = some (.int z t)) (hd : (x == ("__debug__" : Str)) = false := by decide) : LE X (.Name x pos) (tC (.int z)) := .mk (GS.pe_gint hg hm hd)
theorem pe_op {op : Operator} {r : R2} (ho : OpR X (binaryOp op) r) (ha : LE X a ta) (hb : LE X b tb) : LE X (.BinOp a op b pos) (tOp r ta tb) := .mk (L2.pe_op ho ha.out hb.out)
theorem pe_cmpR {op : CmpOp} {r : R2} (ho : OpR X (compareOp op) r) (ha : LE X a ta) (hb : LE X b tb) (hm : behindInMarks op b = false) : LE X (.Compare a [op] [b] pos) (tOp r ta tb) := .mk (L2.pe_cmpR ho ha.out hb.out hm)
theorem pe_one {op : BoolOp} (h : LE X a te) : LE X (.BoolOp op [a] pos) te := .mk (L2.pe_one h.out)
theorem pe_and (ha : LE X a ta) (hb : LE X (.BoolOp .And (b :: rest) pos) tb) : LE X (.BoolOp .And (a :: b :: rest) pos) (tAndV ta tb) := .mk (L2.pe_and ha.out hb.out)
theorem pe_ifExp (hc : LT X c tA) (ha : LE X a ta) (hb : LE X b tb) : LE X (.IfExp c a b pos) (tIf tA ta tb) := .mk (L2.pe_ifExp hc.out ha.out hb.out)
theorem pe_ix {r : R2} (hr : IxR X r) (ha : LE X a ta) (hb : LE X b tb) (hs : PlainIx b) : LE X (.Subscript a b pos) (tOp r ta tb) := .mk (L2.pe_ix hr ha.out hb.out hs)
theorem po_none : LO X none tNoPart := .mk L2.po_none
theorem po_some (h : LE X e te) : LO X (some e) (tPart te) := .mk (L2.po_some h.out)
theorem pe_slice {r : V → Option Int → Option Int → Hp → VK → Prop} (hr : SlR X r) (he : LE X e te) (hl : LO X lo tl) (hu : LO X hi th) : LE X (.Subscript e (.Slice lo hi none p2) pos) (tSl r te tl th) := .mk (L2.pe_slice hr he.out hl.out hu.out)
theorem pa_nil : LA X [] tNil := .mk L2.pa_nil
theorem pa_cons (ha : LE X e te) (hr : LA X es t) (hs : starEach (e :: es) X.env = (false, eval e X.env) :: starEach es X.env := by rfl) : LA X (e :: es) (tCons te t) := .mk (L2.pa_cons ha.out hr.out hs)
theorem pe_lst (h : LA X es t) : LE X (.List es pos) (tLst t) := .mk (L2.pe_lst h.out)
theorem pe_tup {k : Nat} (h : LA X es t) : LE X (.Tuple es k pos) (tTup t) := .mk (L2.pe_tup h.out)
theorem pe_callB {x : Str} {id : String} {r : List V → Hp → VK → Prop} (hc : CallR X (.builtin id) r) (hg : Gl X x) (hm : X.mg x = none) (hv : bootBuiltins x = some (.builtin id)) (ha : LA X (e :: es) t) (hn : x ≠ "__name__" := by decide) (hdb : (x == ("__debug__" : Str)) = false := by decide)
    (he : starEach (e :: es) X.env = (false, eval e X.env) :: starEach es X.env := by rfl) (hpl : (backTo pos (starEach es X.env)).any (·.1) = false := by rfl) : LE X (.Call (.Name x p) (e :: es) [] pos) (tCB r t) := .mk (L2.pe_callB hc hg hm hv ha.out hn hdb he hpl)
theorem pe_callTy {x : Str} {T : String} {r : List V → Hp → VK → Prop} (hc : CallR X (.type T) r) (hg : Gl X x) (hm : X.mg x = none) (hv : bootBuiltins x = some (.type T)) (ha : LA X (e :: es) t) (hn : x ≠ "__name__" := by decide) (hdb : (x == ("__debug__" : Str)) = false := by decide)
    (he : starEach (e :: es) X.env = (false, eval e X.env) :: starEach es X.env := by rfl) (hpl : (backTo pos (starEach es X.env)).any (·.1) = false := by rfl) : LE X (.Call (.Name x p) (e :: es) [] pos) (tCB r t) := .mk (L2.pe_callTy hc hg hm hv ha.out hn hdb he hpl)
theorem pe_bm {T id : String} {name : Str} {r : V → List V → Hp → VK → Prop} (pa : PlainAttrs T) (slot : Slot T name id) (hty : typeOf (.builtin id) = pure (.type "method_descriptor")) (hm : MtR X id r) (ho : LE X o to) (ha : LA X (e :: es) t)
    (hbase : attributeBase o name X.env (eval o X.env) = eval o X.env := by rfl)
    (hfew : ((backTo cpos (starEach (e :: es) X.env)).all (fun x => !x.1) && (backToKw cpos (keywordEach [] X.env)).all (fun x => x.1.isSome)
      && decide ((e :: es).length + ([] : List Keyword).length + (if ([] : List Keyword).isEmpty then 0 else 1) < 30)) = true := by rfl)
    (hline : (apos.endLine == cpos.line) = true := by rfl) (hs : starEach (e :: es) X.env = (false, eval e X.env) :: starEach es X.env := by rfl) (hplain : (backTo cpos (starEach es X.env)).any (·.1) = false := by rfl) :
    LE X (.Call (.Attribute o name apos) (e :: es) [] cpos) (tBM X.K T r to t) := .mk (L2.pe_bm pa slot hty hm ho.out ha.out hbase hfew hline hs hplain)
theorem pe_def {name : Str} {ps : List Str} {k k' : Nat} {sp : Sp} (F : GS.Def X.prog X.w X.K X.mg X.base name ps k sp) (hr : Room k' X.A) (hk : k ≤ k') (hg : Gl X name) (ha : LA X (e :: es) t)
    (hdb : (name == ("__debug__" : Str)) = false := by decide) (he : starEach (e :: es) X.env = (false, eval e X.env) :: starEach es X.env := by rfl) (hpl : (backTo pos (starEach es X.env)).any (·.1) = false := by rfl) :
    LE X (.Call (.Name name p) (e :: es) [] pos) (tCall sp [] E0 t) := .mk (GS.pe_def F hr hk hg ha.out hdb he hpl)
/-! tests -/
theorem pt_cmpR {op : CmpOp} {r : R2} (ho : OpR X (compareOp op) r) (ha : LE X a ta) (hb : LE X b tb) (hm : behindInMarks op b = false) : LT X (.Compare a [op] [b] pos) (tTest (tOp r ta tb)) := .mk (L2.pt_cmpR ho ha.out hb.out hm)
theorem pt_val (h : LE X e te) (he : ∀ whole, isTrue e X.env whole = (do let v ← whole; standAt e.pos; holding [v] (truthy v)) := by intro _; rfl) : LT X e (tB te) := .mk (L2.pt_val h.out he)
theorem pt_not (ha : LT X a tA) : LT X (.UnaryOp .Not a pos) (tNot tA) := .mk (L2.pt_not ha.out)
theorem pw_and1 (ha : LT X a tA) : LW X (.BoolOp .And [a] pos) tA := .mk (L2.pw_and1 ha.out)
theorem pw_or1 (ha : LT X a tA) : LW X (.BoolOp .Or [a] pos) tA := .mk (L2.pw_or1 ha.out)
theorem pw_and (ha : LT X a tA) (hb : LW X (.BoolOp .And (b :: rest) pos) tB') : LW X (.BoolOp .And (a :: b :: rest) pos) (tAnd tA tB') := .mk (L2.pw_and ha.out hb.out)
theorem pw_or (ha : LT X a tA) (hb : LW X (.BoolOp .Or (b :: rest) pos) tB') : LW X (.BoolOp .Or (a :: b :: rest) pos) (tOr tA tB') := .mk (L2.pw_or ha.out hb.out)
theorem LW.pt (h : LW X e tA) : LT X e tA := .mk (L2.PW.pt h.out)
/-! targets, walks -/
theorem pg_name {i : Nat} {x : Str} (hN : X.N.Nodup) (hi : X.N[i]? = some x) (hx : Loc X.env.scope x) (hf : X.fn x = true ∨ X.env.scope.names.lookup x = some .local := by first | exact .inl rfl | exact .inr rfl | assumption) : LG X (.Name x pos) (gName i) := .mk (L2.pg_name hN hi hx hf)
theorem pgs_nil : LGs X [] gNil := .mk L2.pgs_nil
theorem pgs_cons (h1 : LG X e tg') (h2 : LGs X es tgs) (hs : (assignEach (e :: es) X.env).map (·.2) = assign e X.env :: (assignEach es X.env).map (·.2) := by rfl) : LGs X (e :: es) (gCons tg' tgs) := .mk (L2.pgs_cons h1.out h2.out hs)
theorem pg_tup {k n : Nat} (hc : X.calm = true) (h : LGs X es tgs) (hn : (assignEach es X.env).length = n := by rfl) (hst : (assignEach es X.env).findIdx? (·.1) = none := by rfl) : LG X (.Tuple es k pos) (gTup X.K n tgs) := .mk (L2.pg_tup hc h.out hn hst)
theorem pi_list (hl : LE X e te) : LI X tg e (iList X.K te) := .mk (L2.pi_list hl.out)
theorem pi_tup (hl : LE X e te) : LI X tg e (iTup X.K te) := .mk (L2.pi_tup hl.out)
theorem pi_range1 (hg : Gl X "range") (hm : X.mg "range" = none) (ha : LA X [a] t) (hs : starEach [a] X.env = [(false, eval a X.env)] := by rfl) : LI X tg (.Call (.Name "range" p) [a] [] pos) (iRng1 t) := .mk (L2.pi_range1 hg hm ha.out hs)
/-! statements -/
theorem ps_ret (he : LE X e te) : LS X (.Return (some e) pos) (tRet te) := .mk (L2.ps_ret he.out)
theorem ps_expr (he : LE X e te) (hs : swapsWith e none pos.line X.env = pure false := by rfl) : LS X (.Expr e pos) (tDrop te) := .mk (L2.ps_expr he.out hs)
theorem ps_set {i : Nat} {x : Str} {pos' : Pos} (hN : X.N.Nodup) (hi : X.N[i]? = some x) (hx : Loc X.env.scope x) (he : LE X e te) (hs : swapsWith e (some (.Name x pos')) pos.line X.env = pure false := by rfl)
    (hf : X.fn x = true ∨ X.env.scope.names.lookup x = some .local := by first | exact .inl rfl | exact .inr rfl | assumption) : LS X (.Assign [.Name x pos'] e pos) (tAsg te (gName i)) := .mk (L2.ps_set hN hi hx he.out hs hf)
theorem ps_asg (he : LE X e te) (hg : LG X tg tg') (hs : swapsWithSole [tg] e pos.line X.env = pure false := by rfl) (hw : swappedStores [tg] e X.env = pure none := by rfl) (h1 : (assignEach [tg] X.env).map (·.2) = [assign tg X.env] := by rfl) :
    LS X (.Assign [tg] e pos) (tAsg te tg') := .mk (L2.ps_asg he.out hg.out hs hw h1)
theorem ps_if {a b : List Stmt} (hc : LT X c tc) (ha : LSs X a ts) (hb : LSs X b us) : LS X (.If c a b pos) (tIfS tc ts us) := .mk (L2.ps_if hc.out ha.out hb.out)
theorem ps_for {iter : Expr} {body : List Stmt} (hp : PassesOwn (model X.prog X.w) X.A X.env X.xe) (hc : X.calm = true) (hi : LI X tg iter wi) (hg : LG X tg tg') (hb : LSs X body ts)
    (hs : ∀ x, foldedSetIterable iter X.env x = pure x := by intro _; rfl) : LS X (.For tg iter body [] pos) (tFor wi tg' ts) := .mk (L2.ps_for hp hc hi.out hg.out hb.out hs)
theorem ps_imp {t' : TS} (h : LS X st ts) (hi : ∀ D σ H, t' D σ H → ts D σ H) : LS X st t' := .mk fun pins s σ H D I q => h.out pins s σ H D I (hi D σ H q)
theorem pss_nil : LSs X [] tNext := .mk L2.pss_nil
theorem pss_cons (h1 : LS X st ts) (h2 : LSs X sts us) : LSs X (st :: sts) (tSeq ts us) := .mk (L2.pss_cons h1.out h2.out)
theorem pss_one (h1 : LS X st ts) : LSs X [st] ts := .mk (L2.pss_one h1.out)
end
end L3
namespace L2
open PySem PySem.Spec PyProof.Rows
theorem Fun.okI {P : Program} {w : World} {K : PySem.W.Frag} {mg : Str → Option Value} {base : Heap} {x qual : Str} {st : Stmt} {f : Addr} {fd : FuncData} {N ps : List Str} {k : Nat} {sp : Sp} (F : Fun K x qual st f fd) (S : FnScope N ps (defScope st)) (len : ∀ vs H Q E, sp vs H Q E → vs.length = ps.length)
    (hbody : ∀ (cdv : Value) (A : Around) (outer : List Env) (s : Shared) (H : Hp) (vs : List V) (Q : VK) (E : XK), Room k (A.deeper (envOfC qual (defScope st) s.heap.objs.size f cdv)) → sp vs H Q E →
      ∃ t, L3.LSs (cxOf CX0 P w K mg base N qual (defScope st) f cdv A outer s H E).nox (defBody st) t ∧ t { nx := fun _ H' => Q .non H', rt := Q } (start N vs) H) : FnOk P w K mg base CX0 (k + 1) f fd ps sp :=
  F.ok S len fun cdv A outer s H vs Q E hr h => let ⟨t, h1, h2⟩ := hbody cdv A outer s H vs Q E hr h; ⟨t, h1.out, h2⟩
end L2
set_option Elab.async false
set_option linter.all false
set_option maxRecDepth 100000
set_option maxHeartbeats 4000000
namespace GS
open PySem L2 PyProof.Rows
/-! ### things without change: None, truths, numbers, texts, and tuples of such -/
inductive D where
  | non | bl (b : Bool) | int (i : Int) | str (x : Str) | tup (xs : List D)
mutual
/-- the value v is the thing d -/
def At (K : PySem.W.Frag) (H : Hp) : D → V → Prop
  | .non, v => v = .non
  | .bl b, v => v = .bl b
  | .int i, v => v = .int i
  | .str x, v => v = .str x
  | .tup ds, v => ∃ p vs, v = .ref p ∧ SqT K H p vs ∧ AtAll K H ds vs
def AtAll (K : PySem.W.Frag) (H : Hp) : List D → List V → Prop
  | [], vs => vs = []
  | d :: ds, vs => ∃ v r, vs = v :: r ∧ At K H d v ∧ AtAll K H ds r
end
section
variable {K : PySem.W.Frag} {H H' : Hp}
theorem At_tup {ds : List D} {v : V} : At K H (.tup ds) v ↔ ∃ p vs, v = .ref p ∧ SqT K H p vs ∧ AtAll K H ds vs := by rw [At]
theorem AtAll_nil {vs : List V} : AtAll K H [] vs ↔ vs = [] := by rw [AtAll]
theorem AtAll_cons {d : D} {ds : List D} {vs : List V} : AtAll K H (d :: ds) vs ↔ ∃ v r, vs = v :: r ∧ At K H d v ∧ AtAll K H ds r := by rw [AtAll]
theorem At_non {v : V} : At K H .non v ↔ v = .non := by rw [At]
theorem At_bl {b : Bool} {v : V} : At K H (.bl b) v ↔ v = .bl b := by rw [At]
theorem At_int {i : Int} {v : V} : At K H (.int i) v ↔ v = .int i := by rw [At]
theorem At_str {x : Str} {v : V} : At K H (.str x) v ↔ v = .str x := by rw [At]
theorem Same.seqT {a : Addr} {xs : List V} (e : Same H H') (h : SqT K H a xs) : SqT K H' a xs := by
  rcases h with (h | ⟨o, h⟩) | h
  · exact .inl (.inl (e _ _ h))
  · exact .inl (.inr ⟨o, e _ _ h⟩)
  · exact .inr h
mutual
theorem At.same (e : Same H H') : ∀ (d : D) (v : V), At K H d v → At K H' d v
  | .non, _, h => At_non.mpr (At_non.mp h)
  | .bl _, _, h => At_bl.mpr (At_bl.mp h)
  | .int _, _, h => At_int.mpr (At_int.mp h)
  | .str _, _, h => At_str.mpr (At_str.mp h)
  | .tup ds, _, h => by
    obtain ⟨p, vs, rfl, h1, h2⟩ := At_tup.mp h
    exact At_tup.mpr ⟨p, vs, rfl, Same.seqT e h1, AtAll.same e ds vs h2⟩
theorem AtAll.same (e : Same H H') : ∀ (ds : List D) (vs : List V), AtAll K H ds vs → AtAll K H' ds vs
  | [], _, h => AtAll_nil.mpr (AtAll_nil.mp h)
  | d :: ds, _, h => by
    obtain ⟨v, r, rfl, h1, h2⟩ := AtAll_cons.mp h
    exact AtAll_cons.mpr ⟨v, r, rfl, At.same e d v h1, AtAll.same e ds r h2⟩
end
theorem AtAll.len : ∀ {ds : List D} {vs : List V}, AtAll K H ds vs → vs.length = ds.length
  | [], _, h => by rw [AtAll_nil.mp h]; rfl
  | d :: ds, _, h => by
    obtain ⟨v, r, rfl, _, h2⟩ := AtAll_cons.mp h
    rw [List.length_cons, List.length_cons, AtAll.len h2]
theorem AtAll.get : ∀ {ds : List D} {vs : List V} {i : Nat} {d : D}, AtAll K H ds vs → ds[i]? = some d → ∃ v, vs[i]? = some v ∧ At K H d v
  | [], _, i, d, _, e => by simp at e
  | d0 :: ds, _, 0, d, h, e => by
    obtain ⟨v, r, rfl, h1, _⟩ := AtAll_cons.mp h
    have : d0 = d := by simpa using e
    subst this
    exact ⟨v, rfl, h1⟩
  | d0 :: ds, _, i + 1, d, h, e => by
    obtain ⟨v, r, rfl, _, h2⟩ := AtAll_cons.mp h
    obtain ⟨u, e1, e2⟩ := AtAll.get h2 (by simpa using e)
    exact ⟨u, by simpa using e1, e2⟩
end
/-! ### one value is one thing -/
section
variable {X : Cx} {pins : List (Addr × Obj)} {σ : L2.St} {H : Hp} {s : Shared}
mutual
theorem At.one (I : Inv X pins σ H s) : ∀ (d e : D) (v : V), At X.K H d v → At X.K H e v → d = e
  | .non, e, v, h, h' => by
    rw [At_non.mp h] at h'
    cases e with
    | non => rfl
    | tup ds => obtain ⟨p, vs, z, _⟩ := At_tup.mp h'; cases z
    | bl b => cases At_bl.mp h'
    | int i => cases At_int.mp h'
    | str x => cases At_str.mp h'
  | .bl b, e, v, h, h' => by
    rw [At_bl.mp h] at h'
    cases e with
    | bl c => cases At_bl.mp h'; rfl
    | tup ds => obtain ⟨p, vs, z, _⟩ := At_tup.mp h'; cases z
    | non => cases At_non.mp h'
    | int i => cases At_int.mp h'
    | str x => cases At_str.mp h'
  | .int i, e, v, h, h' => by
    rw [At_int.mp h] at h'
    cases e with
    | int c => cases At_int.mp h'; rfl
    | tup ds => obtain ⟨p, vs, z, _⟩ := At_tup.mp h'; cases z
    | non => cases At_non.mp h'
    | bl i => cases At_bl.mp h'
    | str x => cases At_str.mp h'
  | .str x, e, v, h, h' => by
    rw [At_str.mp h] at h'
    cases e with
    | str c => cases At_str.mp h'; rfl
    | tup ds => obtain ⟨p, vs, z, _⟩ := At_tup.mp h'; cases z
    | non => cases At_non.mp h'
    | bl i => cases At_bl.mp h'
    | int x => cases At_int.mp h'
  | .tup ds, e, v, h, h' => by
    obtain ⟨p, vs, rfl, h1, h2⟩ := At_tup.mp h
    cases e with
    | tup es =>
      obtain ⟨q, ws, z, g1, g2⟩ := At_tup.mp h'
      cases z
      have e1 := I.tuple_inj h1 g1
      subst e1
      rw [AtAll.one I ds es vs h2 g2]
    | non => cases At_non.mp h'
    | bl i => cases At_bl.mp h'
    | int x => cases At_int.mp h'
    | str x => cases At_str.mp h'
theorem AtAll.one (I : Inv X pins σ H s) : ∀ (ds es : List D) (vs : List V), AtAll X.K H ds vs → AtAll X.K H es vs → ds = es
  | [], [], _, _, _ => rfl
  | [], _ :: _, _, h, h' => by
    rw [AtAll_nil.mp h] at h'
    obtain ⟨v, r, z, _⟩ := AtAll_cons.mp h'; cases z
  | d :: ds, [], _, h, h' => by
    rw [AtAll_nil.mp h'] at h
    obtain ⟨v, r, z, _⟩ := AtAll_cons.mp h; cases z
  | d :: ds, e :: es, _, h, h' => by
    obtain ⟨v, r, rfl, h1, h2⟩ := AtAll_cons.mp h
    obtain ⟨v', r', z, g1, g2⟩ := AtAll_cons.mp h'
    cases z
    rw [At.one I d e v h1 g1, AtAll.one I ds es r h2 g2]
end
end
/-! ### == -/
mutual
def eqD : D → D → Bool
  | .non, .non => true
  | .bl a, .bl b => a == b
  | .bl a, .int b => (if a then 1 else 0) == b
  | .int a, .bl b => a == (if b then 1 else 0)
  | .int a, .int b => a == b
  | .str a, .str b => a == b
  | .tup xs, .tup ys => eqDs xs ys
  | _, _ => false
def eqDs : List D → List D → Bool
  | [], [] => true
  | x :: xs, y :: ys => eqD x y && eqDs xs ys
  | _, _ => false
end
mutual
def dep : D → Nat
  | .tup xs => deps xs + 1
  | _ => 0
def deps : List D → Nat
  | [] => 0
  | x :: xs => max (dep x) (deps xs)
end
theorem eqD_non_bl (b' : Bool) : eqD .non (.bl b') = false := by rw [eqD] <;> nofun
theorem eqD_non_int (i' : Int) : eqD .non (.int i') = false := by rw [eqD] <;> nofun
theorem eqD_non_str (x' : Str) : eqD .non (.str x') = false := by rw [eqD] <;> nofun
theorem eqD_non_tup (xs' : List D) : eqD .non (.tup xs') = false := by rw [eqD] <;> nofun
theorem eqD_bl_non (b : Bool) : eqD (.bl b) .non = false := by rw [eqD] <;> nofun
theorem eqD_bl_str (b : Bool) (x' : Str) : eqD (.bl b) (.str x') = false := by rw [eqD] <;> nofun
theorem eqD_bl_tup (b : Bool) (xs' : List D) : eqD (.bl b) (.tup xs') = false := by rw [eqD] <;> nofun
theorem eqD_int_non (i : Int) : eqD (.int i) .non = false := by rw [eqD] <;> nofun
theorem eqD_int_str (i : Int) (x' : Str) : eqD (.int i) (.str x') = false := by rw [eqD] <;> nofun
theorem eqD_int_tup (i : Int) (xs' : List D) : eqD (.int i) (.tup xs') = false := by rw [eqD] <;> nofun
theorem eqD_str_non (x : Str) : eqD (.str x) .non = false := by rw [eqD] <;> nofun
theorem eqD_str_bl (x : Str) (b' : Bool) : eqD (.str x) (.bl b') = false := by rw [eqD] <;> nofun
theorem eqD_str_int (x : Str) (i' : Int) : eqD (.str x) (.int i') = false := by rw [eqD] <;> nofun
theorem eqD_str_tup (x : Str) (xs' : List D) : eqD (.str x) (.tup xs') = false := by rw [eqD] <;> nofun
theorem eqD_tup_non (xs : List D) : eqD (.tup xs) .non = false := by rw [eqD] <;> nofun
theorem eqD_tup_bl (xs : List D) (b' : Bool) : eqD (.tup xs) (.bl b') = false := by rw [eqD] <;> nofun
theorem eqD_tup_int (xs : List D) (i' : Int) : eqD (.tup xs) (.int i') = false := by rw [eqD] <;> nofun
theorem eqD_tup_str (xs : List D) (x' : Str) : eqD (.tup xs) (.str x') = false := by rw [eqD] <;> nofun
theorem dep_non : dep .non = 0 := by rw [dep] <;> nofun
theorem dep_bl (b : Bool) : dep (.bl b) = 0 := by rw [dep] <;> nofun
theorem dep_int (i : Int) : dep (.int i) = 0 := by rw [dep] <;> nofun
theorem dep_str (x : Str) : dep (.str x) = 0 := by rw [dep] <;> nofun
theorem dep_mem : ∀ {ds : List D} {i : Nat} {d : D}, ds[i]? = some d → dep d ≤ deps ds
  | [], i, d, e => by simp at e
  | x :: xs, 0, d, e => by
    have : x = d := by simpa using e
    subst this
    rw [deps]; exact Nat.le_max_left ..
  | x :: xs, i + 1, d, e => by
    have := dep_mem (ds := xs) (i := i) (d := d) (by simpa using e)
    rw [deps]; exact Nat.le_trans this (Nat.le_max_right ..)
mutual
theorem eqD_refl : ∀ d : D, eqD d d = true
  | .non => rfl
  | .bl b => by rw [eqD]; exact beq_self_eq_true b
  | .int i => by rw [eqD]; exact beq_self_eq_true i
  | .str x => by rw [eqD]; exact beq_self_eq_true x
  | .tup xs => by rw [eqD]; exact eqDs_refl xs
theorem eqDs_refl : ∀ ds : List D, eqDs ds ds = true
  | [] => by rw [eqDs]
  | d :: ds => by rw [eqDs, eqD_refl d, eqDs_refl ds]; rfl
end
theorem eqDs_iff : ∀ (ds es : List D), eqDs ds es = true ↔ ds.length = es.length ∧ ∀ (j : Nat) (d e : D), ds[j]? = some d → es[j]? = some e → eqD d e = true
  | [], [] => by rw [eqDs]; simp
  | [], e :: es => by
    have h : eqDs [] (e :: es) = false := by rw [eqDs] <;> nofun
    rw [h]; simp
  | d :: ds, [] => by
    have h : eqDs (d :: ds) [] = false := by rw [eqDs] <;> nofun
    rw [h]; simp
  | d :: ds, e :: es => by
    rw [eqDs, Bool.and_eq_true, eqDs_iff ds es]
    constructor
    · rintro ⟨h1, h2, h3⟩
      refine ⟨by simp [h2], fun j d' e' a b => ?_⟩
      cases j with
      | zero =>
        have e1 : d = d' := by simpa using a
        have e2 : e = e' := by simpa using b
        subst e1 e2; exact h1
      | succ j => exact h3 j d' e' (by simpa using a) (by simpa using b)
    · rintro ⟨h1, h2⟩
      exact ⟨h2 0 d e rfl rfl, by simpa using h1, fun j d' e' a b => h2 (j + 1) d' e' (by simpa using a) (by simpa using b)⟩
theorem eqDs_all (ds es : List D) : ((List.range (min ds.length es.length)).all (fun j => eqD (ds.getD j .non) (es.getD j .non)) && ds.length == es.length) = eqDs ds es := by
  rw [Bool.eq_iff_iff, Bool.and_eq_true, eqDs_iff, List.all_eq_true, beq_iff_eq]
  constructor
  · rintro ⟨h1, h2⟩
    refine ⟨h2, fun j d e a b => ?_⟩
    have hj : j < ds.length := (List.getElem?_eq_some_iff.mp a).1
    have := h1 j (List.mem_range.mpr (by omega))
    rw [List.getD_eq_getElem?_getD, List.getD_eq_getElem?_getD, a, b] at this
    exact this
  · rintro ⟨h1, h2⟩
    refine ⟨fun j hj => ?_, h1⟩
    have hj' := List.mem_range.mp hj
    have a : ds[j]? = some ds[j] := List.getElem?_eq_getElem (by omega)
    have b : es[j]? = some es[j] := List.getElem?_eq_getElem (by omega)
    rw [List.getD_eq_getElem?_getD, List.getD_eq_getElem?_getD, a, b]
    exact h2 j _ _ a b
section
variable {X : Cx} {pins : List (Addr × Obj)} {σ : L2.St} {H : Hp} {s : Shared}
/-- the comparison within another one -/
theorem eqAt_D (I : Inv X pins σ H s) : ∀ (n : Nat) (d e : D) (A : Around) (x y : V) (u v : Value), dep d ≤ n → RelV x u → RelV y v → At X.K H d x → At X.K H e y → A.units + n < cLine → SeqAt.EqAt A s u v (eqD d e) := by
  intro n
  induction n with
  | zero =>
    intro d e A x y u v hd rx ry hx hy hu
    cases d with
    | tup ds => rw [dep] at hd; omega
    | non =>
      have ex := At_non.mp hx; subst ex; cases rx
      cases e with
      | non => have ey := At_non.mp hy; subst ey; cases ry; rw [eqD]; exact SeqAt.EqAt.same _
      | bl b => have ey := At_bl.mp hy; subst ey; cases ry; rw [eqD_non_bl]; exact SeqAt.EqAt.none_bool b
      | int b => have ey := At_int.mp hy; subst ey; obtain ⟨t, rfl⟩ := ry; rw [eqD_non_int]; exact SeqAt.EqAt.none_int b t
      | str b => have ey := At_str.mp hy; subst ey; obtain ⟨t, rfl⟩ := ry; rw [eqD_non_str]; exact SeqAt.EqAt.none_str b t
      | tup es =>
        obtain ⟨p, vs, rfl, h1, _⟩ := At_tup.mp hy; cases ry
        obtain ⟨its, rv, ht, _⟩ := I.tuple h1
        rw [eqD_non_tup]; exact SeqAt.EqAt.none_tuple ht (by omega)
    | bl a =>
      have ex := At_bl.mp hx; subst ex; cases rx
      cases e with
      | non => have ey := At_non.mp hy; subst ey; cases ry; rw [eqD_bl_non]; exact SeqAt.EqAt.bool_none a
      | bl b => have ey := At_bl.mp hy; subst ey; cases ry; rw [eqD]; exact SeqAt.EqAt.bool_bool a b
      | int b => have ey := At_int.mp hy; subst ey; obtain ⟨t, rfl⟩ := ry; rw [eqD]; exact SeqAt.EqAt.bool_int a b t
      | str b => have ey := At_str.mp hy; subst ey; obtain ⟨t, rfl⟩ := ry; rw [eqD_bl_str]; exact SeqAt.EqAt.bool_str a b t
      | tup es =>
        obtain ⟨p, vs, rfl, h1, _⟩ := At_tup.mp hy; cases ry
        obtain ⟨its, rv, ht, _⟩ := I.tuple h1
        rw [eqD_bl_tup]; exact SeqAt.EqAt.bool_tuple a ht (by omega)
    | int a =>
      have ex := At_int.mp hx; subst ex; obtain ⟨t', rfl⟩ := rx
      cases e with
      | non => have ey := At_non.mp hy; subst ey; cases ry; rw [eqD_int_non]; exact SeqAt.EqAt.int_none a t'
      | bl b => have ey := At_bl.mp hy; subst ey; cases ry; rw [eqD]; exact SeqAt.EqAt.int_bool a t' b
      | int b => have ey := At_int.mp hy; subst ey; obtain ⟨t, rfl⟩ := ry; rw [eqD]; exact SeqAt.EqAt.int_int a t' b t
      | str b => have ey := At_str.mp hy; subst ey; obtain ⟨t, rfl⟩ := ry; rw [eqD_int_str]; exact SeqAt.EqAt.int_str a t' b t
      | tup es =>
        obtain ⟨p, vs, rfl, h1, _⟩ := At_tup.mp hy; cases ry
        obtain ⟨its, rv, ht, _⟩ := I.tuple h1
        rw [eqD_int_tup]; exact SeqAt.EqAt.int_tuple a t' ht (by omega)
    | str a =>
      have ex := At_str.mp hx; subst ex; obtain ⟨t', rfl⟩ := rx
      cases e with
      | non => have ey := At_non.mp hy; subst ey; cases ry; rw [eqD_str_non]; exact SeqAt.EqAt.str_none a t'
      | bl b => have ey := At_bl.mp hy; subst ey; cases ry; rw [eqD_str_bl]; exact SeqAt.EqAt.str_bool a t' b
      | int b => have ey := At_int.mp hy; subst ey; obtain ⟨t, rfl⟩ := ry; rw [eqD_str_int]; exact SeqAt.EqAt.str_int a t' b t
      | str b => have ey := At_str.mp hy; subst ey; obtain ⟨t, rfl⟩ := ry; rw [eqD]; exact SeqAt.EqAt.str_str a t' b t
      | tup es =>
        obtain ⟨p, vs, rfl, h1, _⟩ := At_tup.mp hy; cases ry
        obtain ⟨its, rv, ht, _⟩ := I.tuple h1
        rw [eqD_str_tup]; exact SeqAt.EqAt.str_tuple a t' ht (by omega)
  | succ n ih =>
    intro d e A x y u v hd rx ry hx hy hu
    cases d with
    | tup ds =>
      obtain ⟨p, vs, rfl, h1, h2⟩ := At_tup.mp hx
      cases rx
      obtain ⟨its, rv, ht, _⟩ := I.tuple h1
      cases e with
      | non => have ey := At_non.mp hy; subst ey; cases ry; rw [eqD_tup_non]; exact SeqAt.EqAt.tuple_none ht (by omega)
      | bl b => have ey := At_bl.mp hy; subst ey; cases ry; rw [eqD_tup_bl]; exact SeqAt.EqAt.tuple_bool b ht (by omega)
      | int b => have ey := At_int.mp hy; subst ey; obtain ⟨t, rfl⟩ := ry; rw [eqD_tup_int]; exact SeqAt.EqAt.tuple_int b t ht (by omega)
      | str b => have ey := At_str.mp hy; subst ey; obtain ⟨t, rfl⟩ := ry; rw [eqD_tup_str]; exact SeqAt.EqAt.tuple_str b t ht (by omega)
      | tup es =>
        obtain ⟨q, ws, rfl, g1, g2⟩ := At_tup.mp hy
        cases ry
        obtain ⟨jts, rw', hq, _⟩ := I.tuple g1
        rw [eqD]
        by_cases hpq : p = q
        · subst hpq
          have e1 := At.one I (.tup ds) (.tup es) (.ref p) hx hy
          injection e1 with e2
          rw [e2, eqDs_refl]
          exact SeqAt.EqAt.same _
        · have l1 : its.length = ds.length := by rw [← rv.length]; exact AtAll.len h2
          have l2 : jts.length = es.length := by rw [← rw'.length]; exact AtAll.len g2
          have R := SeqAt.RcAt.tuples (A := A) (s := s) (e := fun j => eqD (ds.getD j .non) (es.getD j .non)) (show s.heap.IsTuple p its.toArray from ht) (show s.heap.IsTuple q jts.toArray from hq) (by omega) (fun j k1 k2 => by
            have k1' : j < ds.length := by simpa [l1] using k1
            have k2' : j < es.length := by simpa [l2] using k2
            have a : ds[j]? = some ds[j] := List.getElem?_eq_getElem k1'
            have b : es[j]? = some es[j] := List.getElem?_eq_getElem k2'
            obtain ⟨x', ex, hx'⟩ := AtAll.get h2 a
            obtain ⟨y', ey, hy'⟩ := AtAll.get g2 b
            obtain ⟨u', eu, ru⟩ := rv.get ex
            obtain ⟨v', ev, rv2⟩ := rw'.get ey
            have e3 : its.toArray[j] = u' := by
              have : its[j]? = some u' := eu
              have := (List.getElem?_eq_some_iff.mp this).2
              simpa using this
            have e4 : jts.toArray[j] = v' := by
              have : jts[j]? = some v' := ev
              have := (List.getElem?_eq_some_iff.mp this).2
              simpa using this
            rw [e3, e4, List.getD_eq_getElem?_getD, List.getD_eq_getElem?_getD, a, b]
            have hdn : dep ds[j] ≤ n := by
              have := dep_mem a
              rw [dep] at hd
              omega
            exact ih ds[j] es[j] A.in1 x' y' u' v' hdn ru rv2 hx' hy' (by show A.units + 1 + n < cLine; omega))
          have e5 : ((List.range (min its.toArray.size jts.toArray.size)).all (fun j => eqD (ds.getD j .non) (es.getD j .non)) && its.toArray.size == jts.toArray.size) = eqDs ds es := by
            have a1 : its.toArray.size = ds.length := by rw [List.size_toArray, l1]
            have a2 : jts.toArray.size = es.length := by rw [List.size_toArray, l2]
            rw [a1, a2]; exact eqDs_all ds es
          rw [e5] at R
          exact SeqAt.EqAt.of_refs hpq R
    | non => exact ih .non e A x y u v (by rw [dep_non]; exact Nat.zero_le _) rx ry hx hy (by omega)
    | bl a => exact ih (.bl a) e A x y u v (by rw [dep_bl]; exact Nat.zero_le _) rx ry hx hy (by omega)
    | int a => exact ih (.int a) e A x y u v (by rw [dep_int]; exact Nat.zero_le _) rx ry hx hy (by omega)
    | str a => exact ih (.str a) e A x y u v (by rw [dep_str]; exact Nat.zero_le _) rx ry hx hy (by omega)
end
end GS
set_option Elab.async false
set_option linter.all false
set_option maxRecDepth 100000
set_option maxHeartbeats 4000000
namespace GS
open PySem L2 PyProof.Rows
/-! ### things: made, asked by a place, compared, shown -/
section
variable {K : PySem.W.Frag} {H : Hp}
theorem At.new {p : Addr} {ds : List D} {vs : List V} (hp : H p = none) (h : AtAll K H ds vs) : At K (upd H p (.tup vs)) (.tup ds) (.ref p) :=
  At_tup.mpr ⟨p, vs, rfl, SqT.of upd_same, AtAll.same (same_new hp _) ds vs h⟩
theorem At.ix {ds : List D} {v : V} {i : Nat} {d : D} (h : At K H (.tup ds) v) (hi : ds[i]? = some d) : ∃ p vs w, v = .ref p ∧ SqT K H p vs ∧ atI vs (i : Int) = some w ∧ At K H d w := by
  obtain ⟨p, vs, rfl, h1, h2⟩ := At_tup.mp h
  obtain ⟨w, e, hw⟩ := AtAll.get h2 hi
  exact ⟨p, vs, w, rfl, h1, atI_nat e, hw⟩
end
section
variable {X : Cx} {pins : List (Addr × Obj)} {σ : L2.St} {H : Hp} {s : Shared}
theorem items_eq (I : Inv X pins σ H s) {ds es : List D} {vs ws : List V} {its jts : List Value} {A : Around} {n : Nat} (rv : Vals vs its) (rw' : Vals ws jts) (h2 : AtAll X.K H ds vs) (g2 : AtAll X.K H es ws) (hd : deps ds ≤ n) (hu : A.units + n < cLine) :
    ∀ j (k1 : j < its.toArray.size) (k2 : j < jts.toArray.size), SeqAt.EqAt A s its.toArray[j] jts.toArray[j] (eqD (ds.getD j .non) (es.getD j .non)) := by
  intro j k1 k2
  have l1 : its.length = ds.length := by rw [← rv.length]; exact AtAll.len h2
  have l2 : jts.length = es.length := by rw [← rw'.length]; exact AtAll.len g2
  have k1' : j < ds.length := by simpa [l1] using k1
  have k2' : j < es.length := by simpa [l2] using k2
  have a : ds[j]? = some ds[j] := List.getElem?_eq_getElem k1'
  have b : es[j]? = some es[j] := List.getElem?_eq_getElem k2'
  obtain ⟨x', ex, hx'⟩ := AtAll.get h2 a
  obtain ⟨y', ey, hy'⟩ := AtAll.get g2 b
  obtain ⟨u', eu, ru⟩ := rv.get ex
  obtain ⟨v', ev, rv2⟩ := rw'.get ey
  have e3 : its.toArray[j] = u' := by
    have := (List.getElem?_eq_some_iff.mp eu).2
    simpa using this
  have e4 : jts.toArray[j] = v' := by
    have := (List.getElem?_eq_some_iff.mp ev).2
    simpa using this
  rw [e3, e4, List.getD_eq_getElem?_getD, List.getD_eq_getElem?_getD, a, b]
  exact eqAt_D I n ds[j] es[j] A x' y' u' v' (Nat.le_trans (dep_mem a) hd) ru rv2 hx' hy' hu
theorem sizes_eq {ds es : List D} {vs ws : List V} {its jts : List Value} (rv : Vals vs its) (rw' : Vals ws jts) (h2 : AtAll X.K H ds vs) (g2 : AtAll X.K H es ws) :
    ((List.range (min its.toArray.size jts.toArray.size)).all (fun j => eqD (ds.getD j .non) (es.getD j .non)) && its.toArray.size == jts.toArray.size) = eqDs ds es := by
  have a1 : its.toArray.size = ds.length := by rw [List.size_toArray, ← rv.length]; exact AtAll.len h2
  have a2 : jts.toArray.size = es.length := by rw [List.size_toArray, ← rw'.length]; exact AtAll.len g2
  rw [a1, a2]; exact eqDs_all ds es
/-- ==, by itself -/
theorem rcAt_D (I : Inv X pins σ H s) (d e : D) (A : Around) (x y : V) (u v : Value) (rx : RelV x u) (ry : RelV y v) (hx : At X.K H d x) (hy : At X.K H e y) (hu : A.units + dep d < cLine) : SeqAt.RcAt A s u v (eqD d e) := by
  cases d with
  | tup ds =>
    rw [dep] at hu
    obtain ⟨p, vs, rfl, h1, h2⟩ := At_tup.mp hx
    cases rx
    obtain ⟨its, rv, ht, _⟩ := I.tuple h1
    cases e with
    | non => have ey := At_non.mp hy; subst ey; cases ry; rw [eqD_tup_non]; exact SeqAt.RcAt.tuple_none ht (by omega)
    | bl b => have ey := At_bl.mp hy; subst ey; cases ry; rw [eqD_tup_bl]; exact SeqAt.RcAt.tuple_bool b ht (by omega)
    | int b => have ey := At_int.mp hy; subst ey; obtain ⟨t, rfl⟩ := ry; rw [eqD_tup_int]; exact SeqAt.RcAt.tuple_int b t ht (by omega)
    | str b => have ey := At_str.mp hy; subst ey; obtain ⟨t, rfl⟩ := ry; rw [eqD_tup_str]; exact SeqAt.RcAt.tuple_str b t ht (by omega)
    | tup es =>
      obtain ⟨q, ws, rfl, g1, g2⟩ := At_tup.mp hy
      cases ry
      obtain ⟨jts, rw', hq, _⟩ := I.tuple g1
      have R := SeqAt.RcAt.tuples (A := A) (s := s) (e := fun j => eqD (ds.getD j .non) (es.getD j .non)) (show s.heap.IsTuple p its.toArray from ht) (show s.heap.IsTuple q jts.toArray from hq) (by omega)
        (items_eq I (A := A.in1) (n := deps ds) rv rw' h2 g2 (Nat.le_refl _) (by show A.units + 1 + deps ds < cLine; omega))
      rw [sizes_eq rv rw' h2 g2] at R
      rw [eqD]; exact R
  | non =>
    rw [dep_non] at hu
    have ex := At_non.mp hx; subst ex; cases rx
    cases e with
    | non => have ey := At_non.mp hy; subst ey; cases ry; rw [eqD]; exact SeqAt.RcAt.none_none
    | bl b => have ey := At_bl.mp hy; subst ey; cases ry; rw [eqD_non_bl]; exact SeqAt.RcAt.none_bool b
    | int b => have ey := At_int.mp hy; subst ey; obtain ⟨t, rfl⟩ := ry; rw [eqD_non_int]; exact SeqAt.RcAt.none_int b t
    | str b => have ey := At_str.mp hy; subst ey; obtain ⟨t, rfl⟩ := ry; rw [eqD_non_str]; exact SeqAt.RcAt.none_str b t
    | tup es =>
      obtain ⟨p, vs, rfl, h1, _⟩ := At_tup.mp hy; cases ry
      obtain ⟨its, rv, ht, _⟩ := I.tuple h1
      rw [eqD_non_tup]; exact SeqAt.RcAt.none_tuple ht (by omega)
  | bl a =>
    rw [dep_bl] at hu
    have ex := At_bl.mp hx; subst ex; cases rx
    cases e with
    | non => have ey := At_non.mp hy; subst ey; cases ry; rw [eqD_bl_non]; exact SeqAt.RcAt.bool_none a
    | bl b => have ey := At_bl.mp hy; subst ey; cases ry; rw [eqD]; exact SeqAt.RcAt.bool_bool a b
    | int b => have ey := At_int.mp hy; subst ey; obtain ⟨t, rfl⟩ := ry; rw [eqD]; exact SeqAt.RcAt.bool_int a b t
    | str b => have ey := At_str.mp hy; subst ey; obtain ⟨t, rfl⟩ := ry; rw [eqD_bl_str]; exact SeqAt.RcAt.bool_str a b t
    | tup es =>
      obtain ⟨p, vs, rfl, h1, _⟩ := At_tup.mp hy; cases ry
      obtain ⟨its, rv, ht, _⟩ := I.tuple h1
      rw [eqD_bl_tup]; exact SeqAt.RcAt.bool_tuple a ht (by omega)
  | int a =>
    rw [dep_int] at hu
    have ex := At_int.mp hx; subst ex; obtain ⟨t', rfl⟩ := rx
    cases e with
    | non => have ey := At_non.mp hy; subst ey; cases ry; rw [eqD_int_non]; exact SeqAt.RcAt.int_none a t'
    | bl b => have ey := At_bl.mp hy; subst ey; cases ry; rw [eqD]; exact SeqAt.RcAt.int_bool a t' b
    | int b => have ey := At_int.mp hy; subst ey; obtain ⟨t, rfl⟩ := ry; rw [eqD]; exact SeqAt.RcAt.int_int a t' b t
    | str b => have ey := At_str.mp hy; subst ey; obtain ⟨t, rfl⟩ := ry; rw [eqD_int_str]; exact SeqAt.RcAt.int_str a t' b t
    | tup es =>
      obtain ⟨p, vs, rfl, h1, _⟩ := At_tup.mp hy; cases ry
      obtain ⟨its, rv, ht, _⟩ := I.tuple h1
      rw [eqD_int_tup]; exact SeqAt.RcAt.int_tuple a t' ht (by omega)
  | str a =>
    rw [dep_str] at hu
    have ex := At_str.mp hx; subst ex; obtain ⟨t', rfl⟩ := rx
    cases e with
    | non => have ey := At_non.mp hy; subst ey; cases ry; rw [eqD_str_non]; exact SeqAt.RcAt.str_none a t'
    | bl b => have ey := At_bl.mp hy; subst ey; cases ry; rw [eqD_str_bl]; exact SeqAt.RcAt.str_bool a t' b
    | int b => have ey := At_int.mp hy; subst ey; obtain ⟨t, rfl⟩ := ry; rw [eqD_str_int]; exact SeqAt.RcAt.str_int a t' b t
    | str b => have ey := At_str.mp hy; subst ey; obtain ⟨t, rfl⟩ := ry; rw [eqD]; exact SeqAt.RcAt.str_str a t' b t
    | tup es =>
      obtain ⟨p, vs, rfl, h1, _⟩ := At_tup.mp hy; cases ry
      obtain ⟨its, rv, ht, _⟩ := I.tuple h1
      rw [eqD_str_tup]; exact SeqAt.RcAt.str_tuple a t' ht (by omega)
end
section
variable {X : Cx}
def rEqD (X : Cx) : R2 := fun x y H Q => ∃ d e, At X.K H d x ∧ At X.K H e y ∧ dep d ≤ 60 ∧ Q (.bl (eqD d e)) H
theorem op_eqD {k : Nat} (hr : Room k X.A) : OpR X (compareOp .Eq) (rEqD X) := by
  intro pins s σ H x y v u Q I rx ry h
  obtain ⟨d, e, hx, hy, hd, q⟩ := h
  exact rcAt_D I d e X.A x y v u rx ry hx hy (by have := hr.units; omega) _ _ _ _ ⟨.bl _, H, I, rfl, q⟩
end
end GS
set_option Elab.async false
set_option linter.all false
set_option maxRecDepth 100000
set_option maxHeartbeats 4000000
namespace GS
open PySem L2 PyProof.Rows
section
variable {X : Cx} {pins : List (Addr × Obj)} {σ : L2.St} {H : Hp} {s : Shared}
/-- != -/
theorem rcNeAt_D (I : Inv X pins σ H s) (d e : D) (A : Around) (x y : V) (u v : Value) (rx : RelV x u) (ry : RelV y v) (hx : At X.K H d x) (hy : At X.K H e y) (hu : A.units + dep d < cLine) : SeqAt.RcNeAt A s u v (!eqD d e) := by
  cases d with
  | tup ds =>
    rw [dep] at hu
    obtain ⟨p, vs, rfl, h1, h2⟩ := At_tup.mp hx
    cases rx
    obtain ⟨its, rv, ht, _⟩ := I.tuple h1
    cases e with
    | non => have ey := At_non.mp hy; subst ey; cases ry; rw [eqD_tup_non]; exact SeqAt.RcNeAt.tuple_none ht (by omega)
    | bl b => have ey := At_bl.mp hy; subst ey; cases ry; rw [eqD_tup_bl]; exact SeqAt.RcNeAt.tuple_bool b ht (by omega)
    | int b => have ey := At_int.mp hy; subst ey; obtain ⟨t, rfl⟩ := ry; rw [eqD_tup_int]; exact SeqAt.RcNeAt.tuple_int b t ht (by omega)
    | str b => have ey := At_str.mp hy; subst ey; obtain ⟨t, rfl⟩ := ry; rw [eqD_tup_str]; exact SeqAt.RcNeAt.tuple_str b t ht (by omega)
    | tup es =>
      obtain ⟨q, ws, rfl, g1, g2⟩ := At_tup.mp hy
      cases ry
      obtain ⟨jts, rw', hq, _⟩ := I.tuple g1
      have R := SeqAt.RcNeAt.tuples (A := A) (s := s) (e := fun j => eqD (ds.getD j .non) (es.getD j .non)) (show s.heap.IsTuple p its.toArray from ht) (show s.heap.IsTuple q jts.toArray from hq) (by omega)
        (items_eq I (A := A.in1) (n := deps ds) rv rw' h2 g2 (Nat.le_refl _) (by show A.units + 1 + deps ds < cLine; omega))
      rw [sizes_eq rv rw' h2 g2] at R
      rw [eqD]; exact R
  | non =>
    rw [dep_non] at hu
    have ex := At_non.mp hx; subst ex; cases rx
    cases e with
    | non => have ey := At_non.mp hy; subst ey; cases ry; rw [eqD]; exact SeqAt.RcNeAt.none_none
    | bl b => have ey := At_bl.mp hy; subst ey; cases ry; rw [eqD_non_bl]; exact SeqAt.RcNeAt.none_bool b
    | int b => have ey := At_int.mp hy; subst ey; obtain ⟨t, rfl⟩ := ry; rw [eqD_non_int]; exact SeqAt.RcNeAt.none_int b t
    | str b => have ey := At_str.mp hy; subst ey; obtain ⟨t, rfl⟩ := ry; rw [eqD_non_str]; exact SeqAt.RcNeAt.none_str b t
    | tup es =>
      obtain ⟨p, vs, rfl, h1, _⟩ := At_tup.mp hy; cases ry
      obtain ⟨its, rv, ht, _⟩ := I.tuple h1
      rw [eqD_non_tup]; exact SeqAt.RcNeAt.none_tuple ht (by omega)
  | bl a =>
    rw [dep_bl] at hu
    have ex := At_bl.mp hx; subst ex; cases rx
    cases e with
    | non => have ey := At_non.mp hy; subst ey; cases ry; rw [eqD_bl_non]; exact SeqAt.RcNeAt.bool_none a
    | bl b => have ey := At_bl.mp hy; subst ey; cases ry; rw [eqD]; exact SeqAt.RcNeAt.bool_bool a b
    | int b => have ey := At_int.mp hy; subst ey; obtain ⟨t, rfl⟩ := ry; rw [eqD]; exact SeqAt.RcNeAt.bool_int a b t
    | str b => have ey := At_str.mp hy; subst ey; obtain ⟨t, rfl⟩ := ry; rw [eqD_bl_str]; exact SeqAt.RcNeAt.bool_str a b t
    | tup es =>
      obtain ⟨p, vs, rfl, h1, _⟩ := At_tup.mp hy; cases ry
      obtain ⟨its, rv, ht, _⟩ := I.tuple h1
      rw [eqD_bl_tup]; exact SeqAt.RcNeAt.bool_tuple a ht (by omega)
  | int a =>
    rw [dep_int] at hu
    have ex := At_int.mp hx; subst ex; obtain ⟨t', rfl⟩ := rx
    cases e with
    | non => have ey := At_non.mp hy; subst ey; cases ry; rw [eqD_int_non]; exact SeqAt.RcNeAt.int_none a t'
    | bl b => have ey := At_bl.mp hy; subst ey; cases ry; rw [eqD]; exact SeqAt.RcNeAt.int_bool a t' b
    | int b => have ey := At_int.mp hy; subst ey; obtain ⟨t, rfl⟩ := ry; rw [eqD]; exact SeqAt.RcNeAt.int_int a t' b t
    | str b => have ey := At_str.mp hy; subst ey; obtain ⟨t, rfl⟩ := ry; rw [eqD_int_str]; exact SeqAt.RcNeAt.int_str a t' b t
    | tup es =>
      obtain ⟨p, vs, rfl, h1, _⟩ := At_tup.mp hy; cases ry
      obtain ⟨its, rv, ht, _⟩ := I.tuple h1
      rw [eqD_int_tup]; exact SeqAt.RcNeAt.int_tuple a t' ht (by omega)
  | str a =>
    rw [dep_str] at hu
    have ex := At_str.mp hx; subst ex; obtain ⟨t', rfl⟩ := rx
    cases e with
    | non => have ey := At_non.mp hy; subst ey; cases ry; rw [eqD_str_non]; exact SeqAt.RcNeAt.str_none a t'
    | bl b => have ey := At_bl.mp hy; subst ey; cases ry; rw [eqD_str_bl]; exact SeqAt.RcNeAt.str_bool a t' b
    | int b => have ey := At_int.mp hy; subst ey; obtain ⟨t, rfl⟩ := ry; rw [eqD_str_int]; exact SeqAt.RcNeAt.str_int a t' b t
    | str b => have ey := At_str.mp hy; subst ey; obtain ⟨t, rfl⟩ := ry; rw [eqD]; exact SeqAt.RcNeAt.str_str a t' b t
    | tup es =>
      obtain ⟨p, vs, rfl, h1, _⟩ := At_tup.mp hy; cases ry
      obtain ⟨its, rv, ht, _⟩ := I.tuple h1
      rw [eqD_str_tup]; exact SeqAt.RcNeAt.str_tuple a t' ht (by omega)
end
section
variable {X : Cx}
def rNeD (X : Cx) : R2 := fun x y H Q => ∃ d e, At X.K H d x ∧ At X.K H e y ∧ dep d ≤ 60 ∧ Q (.bl (!eqD d e)) H
theorem op_neD {k : Nat} (hr : Room k X.A) : OpR X (compareOp .NotEq) (rNeD X) := by
  intro pins s σ H x y v u Q I rx ry h
  obtain ⟨d, e, hx, hy, hd, q⟩ := h
  exact rcNeAt_D I d e X.A x y v u rx ry hx hy (by have := hr.units; omega) _ _ _ _ ⟨.bl _, H, I, rfl, q⟩
end
/-! ### the text of a thing -/



section
variable {X : Cx} {pins : List (Addr × Obj)} {σ : L2.St} {H : Hp} {s : Shared}

end
section
variable {X : Cx}
end
end GS
set_option Elab.async false
set_option linter.all false
set_option maxRecDepth 100000
set_option maxHeartbeats 4000000
namespace GS
open PySem L2 PyProof.Rows
section
variable {X : Cx}
/-! ### «in» a tuple of such things -/
theorem mem_D {pins : List (Addr × Obj)} {σ : L2.St} {H : Hp} {s : Shared} (I : Inv X pins σ H s) {d : D} {x : V} {v : Value} (rx : RelV x v) (hx : At X.K H d x) {ds : List D} {xs : List V} {its : List Value} (ha : AtAll X.K H ds xs) (rv : Vals xs its) (A : Around) (hu : ∀ e ∈ ds, A.units + dep e < cLine) :
    ∃ f : Value → Bool, (∀ u ∈ its, SeqAt.EqAt A s u v (f u)) ∧ its.any f = ds.any fun e => eqD e d := by
  classical
  have fact : ∀ (i : Nat) (u : Value), its[i]? = some u → ∃ e y, ds[i]? = some e ∧ RelV y u ∧ At X.K H e y := fun i u hu => by
    have hi : i < its.length := (List.getElem?_eq_some_iff.mp hu).1
    have h1 := rv.length
    have h2 := ha.len
    obtain ⟨e, he⟩ : ∃ e, ds[i]? = some e := ⟨ds[i]'(by omega), by simp⟩
    obtain ⟨y, hy, hy2⟩ := ha.get he
    obtain ⟨u', hu', ru⟩ := rv.get hy
    rw [hu] at hu'
    cases hu'
    exact ⟨e, y, he, ru, hy2⟩
  have val : ∀ (i : Nat) (u : Value) (e : D), its[i]? = some u → ds[i]? = some e → (decide (∃ (j : Nat) (e' : D), its[j]? = some u ∧ ds[j]? = some e' ∧ eqD e' d = true)) = eqD e d := fun i u e hu he => by
    rw [Bool.eq_iff_iff, decide_eq_true_eq]
    constructor
    · rintro ⟨j, e', hj, hj2, h⟩
      obtain ⟨e1, y1, k1, k2, k3⟩ := fact i u hu
      obtain ⟨e2, y2, l1, l2, l3⟩ := fact j u hj
      rw [he] at k1; cases k1
      rw [hj2] at l1; cases l1
      have ey := RelV.inj k2 l2
      subst ey
      have := At.one I _ _ _ k3 l3
      rw [this]; exact h
    · exact fun h => ⟨i, e, hu, he, h⟩
  refine ⟨fun u => decide (∃ (j : Nat) (e' : D), its[j]? = some u ∧ ds[j]? = some e' ∧ eqD e' d = true), fun u hu' => ?_, ?_⟩
  · obtain ⟨i, hi⟩ := List.mem_iff_getElem?.mp hu'
    obtain ⟨e, y, he, ry, hy⟩ := fact i u hi
    dsimp only
    rw [val i u e hi he]
    exact eqAt_D I (dep e) e d A y x u v (Nat.le_refl _) ry rx hy hx (hu e (List.mem_of_getElem? he))
  · rw [Bool.eq_iff_iff, List.any_eq_true, List.any_eq_true]
    constructor
    · rintro ⟨u, hu', h⟩
      obtain ⟨i, hi⟩ := List.mem_iff_getElem?.mp hu'
      obtain ⟨e, y, he, ry, hy⟩ := fact i u hi
      rw [val i u e hi he] at h
      exact ⟨e, List.mem_of_getElem? he, h⟩
    · rintro ⟨e, he, h⟩
      obtain ⟨i, hi⟩ := List.mem_iff_getElem?.mp he
      obtain ⟨y, hy, _⟩ := ha.get hi
      obtain ⟨u, hu', _⟩ := rv.get hy
      exact ⟨u, List.mem_of_getElem? hu', by rw [val i u e hu' hi]; exact h⟩
def rInD (X : Cx) (neg : Bool) : R2 := fun x y H Q => ∃ d ds, At X.K H d x ∧ At X.K H (.tup ds) y ∧ (∀ e ∈ ds, dep e ≤ 60) ∧ Q (.bl (if neg then !(ds.any fun e => eqD e d) else ds.any fun e => eqD e d)) H
end
end GS
set_option Elab.async false
set_option linter.all false
set_option maxRecDepth 100000
set_option maxHeartbeats 4000000
namespace GS
open PySem PySem.Builtin PyProof.Rows L2
open AutoSeq1 (wpAny_loadPart')
section
variable {X : Cx}
/-! ### is a list empty -/
/-! ### any -/
end
/-! ### xs.extend(t), of a tuple -/
section
variable {X : Cx}
end
end GS
namespace GS
open PySem PySem.Builtin PyProof.Rows L2
section
variable {X : Cx}
end
end GS
set_option Elab.async false
set_option linter.all false
set_option maxRecDepth 100000
set_option maxHeartbeats 4000000
namespace PySem
section
variable {prog : Program} {w : World} {A : Around} {E : Value → Shared → Prop} {R : Result → Shared → Prop} {s : Shared}
/-- the tests of a comprehension's clause -/
def testsOf (ifs : List Expr) (env : Env) : Sem Bool := forIn ifs true fun c r => if r = true then do let ok ← PySem.isTrue c env (eval c env); pure (ForInStep.yield ok) else pure (ForInStep.yield r)
theorem compLoop_goC {elt target iter : Expr} {ifs : List Expr} {scope : Scope} {pos : Pos} {it acc : Value} {env : Env} (I : Nat → Shared → Prop)
    (turn : ∀ n s, I n s → wpAny (model prog w) A (pyNext it) (fun r s₁ => match r with
      | none => R (.ok .next) s₁
      | some v => wpAny (model prog w) A (letOwnedTupleGo target it v) (fun _ s₂ => wpAny (model prog w) A (assign target env v) (fun _ s₃ =>
          wpAny (model prog w) A (testsOf ifs env) (fun b s₄ => if b = true then
            wpAny (model prog w) A (eval elt env) (fun x s₄ =>
              wpAny (model prog w) A (call (.builtin "list.append") [acc, x]) (fun _ s₅ => ∃ m, m < n ∧ I m s₅) (notedBy (model prog w) A env fun e s' => R (.error e) s') s₄) (notedBy (model prog w) A env fun e s' => R (.error e) s') s₄ else ∃ m, m < n ∧ I m s₄) (notedBy (model prog w) A env fun e s' => R (.error e) s') s₃) (notedBy (model prog w) A env fun e s' => R (.error e) s') s₂) (notedBy (model prog w) A env fun e s' => R (.error e) s') s₁) (notedBy (model prog w) A env fun e s' => R (.error e) s') s)
    (n : Nat) (h : I n s) :
    codeAny (model prog w) A (.compLoop (.ListComp elt [⟨target, iter, ifs, 0⟩] scope pos) 0 it acc env) R s := by
  refine codeAny_loop rfl I (fun n s hI => ?_) n h
  show wpAny _ A ((compTurn (.ListComp elt [⟨target, iter, ifs, 0⟩] scope pos) 0 it acc env).onRaise (fun x => do noteFrame x env; theTreesLotGoes x)) _ _ s
  refine wpAny_noted ?_
  rw [compTurn_list]
  refine wpAny_bind (wpAny_standAt (wpAny_bind (wpAny_mono (turn n s hI) (fun r s₁ h₁ => ?_) fun _ _ h' => h')))
  cases r with
  | none => exact wpAny_pure h₁
  | some v =>
    refine wpAny_bind (wpAny_mono h₁ (fun _ s₂ h₂ => wpAny_bind (wpAny_mono h₂ (fun _ s₃ h₃ => ?_) fun _ _ h' => h')) fun _ _ h' => h')
    refine wpAny_bind (wpAny_mono h₃ (fun b s₄ h₄ => ?_) fun _ _ h' => h')
    cases b with
    | false =>
      rw [if_neg Bool.false_ne_true] at h₄
      exact wpAny_ite_false (by simp) (wpAny_pure ⟨rfl, h₄⟩)
    | true =>
      rw [if_pos rfl] at h₄
      exact wpAny_ite_true (by simp) (wpAny_bind (wpAny_bind (wpAny_mono h₄ (fun x s₄ h₄ => wpAny_bind (wpAny_mono h₄ (fun _ s₅ h₅ => wpAny_pure (wpAny_pure ⟨rfl, h₅⟩)) fun _ _ h' => h')) fun _ _ h' => h')))
end
end PySem
namespace L2
open PySem PySem.Spec PyProof.Rows PySem.Builtin PySem.Builtin.Str
/-! ### a comprehension of one clause, with a test or none, of any target -/
structure CompOkG (X : Cx) (scope : Scope) (cl : List (Str × Addr)) (Xs Nf : List Str) (js : List Nat) : Prop where
  clos : closureFor scope X.env = pure cl
  cell : ∀ y ∈ scope.names, y.2 ≠ .cell
  kind : scope.kind = .function
  names : ∀ y ∈ scope.names, y.2 = .local → scope.names.lookup y.1 = some .local
  sub : ∀ y c, cl.lookup y = some c → X.env.cells.lookup y = some c
  has : ∀ y, ((relabel scope X.env).names.lookup y = some .cell ∨ (relabel scope X.env).names.lookup y = some .free) → ∃ c, cl.lookup y = some c
  len : js.length = Nf.length
  frees : ∀ (j : Nat) (y : Str), Nf[j]? = some y → ∃ i, js[j]? = some i ∧ X.N[i]? = some y ∧ X.env.scope.names.lookup y = some .cell ∧ ((relabel scope X.env).names.lookup y = some .cell ∨ (relabel scope X.env).names.lookup y = some .free)
def PTs (X : Cx) (ifs : List Expr) (tc : TT) : Prop := ∀ (pins : List (Addr × Obj)) (s : Shared) (σ : St) (H : Hp) (Q : Bool → Hp → Prop), Inv X pins σ H s → tc σ H Q → wpAny (model X.prog X.w) X.A (testsOf ifs X.env) (TP X pins σ Q) X.xe s
def tTrue : TT := fun _ H Q => Q true H
theorem pts_nil {X : Cx} : PTs X [] tTrue := fun pins s σ H Q I h => wpAny_tests_nil ⟨H, I, h⟩
def tCompG (k : Nat) (js : List Nat) (wi : TI) (g : TG) (tc : TT) (te : TE) : TE := fun σ H Q => wi σ H fun J H1 => ∃ vs : List V, (vs.length = js.length ∧ ∀ (j i : Nat), js[j]? = some i → ∃ v, vs[j]? = some v ∧ σ[i]? = some (some v)) ∧
  ∀ D, H1 D = none → ∃ W : Nat → Nat → List V → Hp → Prop, (∃ m, W 0 m [] (upd H1 D (.lst []))) ∧ ∀ i m ys H, W i m ys H →
    (J.stop i H ∧ Q (.ref D) H) ∨ (J.go i H ∧ ∀ x H' (ox : List (Option V)), ox.length = k → J.yld i H x H' → g x (ox ++ vs.map some) H' fun σ2 H2 => ∃ ox2, ox2.length = k ∧ σ2 = ox2 ++ vs.map some ∧ tc σ2 H2 fun b H3 =>
      if b = true then te σ2 H3 fun v H4 => H4 D = some (.lst ys) ∧ ys.length < sizeLine ∧ ∃ m', m' < m ∧ W (i + 1) m' (ys ++ [v]) (upd H4 D (.lst (ys ++ [v]))) else ∃ m', m' < m ∧ W (i + 1) m' ys H3)
section
variable {X : Cx}
theorem blk_startG {pins : List (Addr × Obj)} {σ : St} {H : Hp} {s : Shared} {scope : Scope} {cl : List (Str × Addr)} {Xs Nf : List Str} {js : List Nat} {vs : List V} {fp : List Addr} {h1 : Heap} {tk : Nat} {m : Str → Option Value}
    (K : CompOkG X scope cl Xs Nf js) (I : Inv X pins σ H s) (hvl : vs.length = js.length) (hvs : ∀ (j i : Nat), js[j]? = some i → ∃ v, vs[j]? = some v ∧ σ[i]? = some (some v))
    (hf : ∀ b ∈ fp, FpOk X pins H b) (hlt : ∀ b ∈ fp, b < s.heap.objs.size) (ns : h1.Ns s.heap.objs.size m) (keep : ∀ b o, s.heap.get? b = some o → h1.get? b = some o) :
    Inv (blk X scope cl s.heap.objs.size (Xs ++ Nf) s H fp) [] (List.replicate Xs.length none ++ vs.map some) H { s with heap := h1, toks := tk } := by
  refine ⟨⟨I.ok.mod, K.kind, I.ok.glob, I.ok.blt, Nat.le_refl _, fun y z c e1 e2 => I.ok.inj y z c (K.sub y c e1) (K.sub z c e2), fun y hy => K.has y hy, fun y c e _ => (Bool.noConfusion (show false = true from e)), I.ok.hd, I.ok.frames, .inl rfl,
    fun b hb => ⟨Nat.ne_of_lt (hlt b hb), fun y c e => (hf b hb).2.2.2.2.1 y c (K.sub y c e)⟩, I.bs, Nat.le_trans I.ok.bsz I.sz, fun b o e hb => ?_, fun b hb z => ?_, I.stack, I.stkFree⟩,
    rfl, I.bare, Un.kept keep, ⟨m, ns, fun i y v e1 e2 e3 => ?_⟩, fun y c e => ?_, I.hok.fresh (Nat.le_refl _), fun y c e => I.freeC y c (K.sub y c e), fun p hp => absurd (show p ∈ ([] : List (Addr × Obj)) from hp) (by simp), I.hok.kept keep, ?_⟩
  · rcases (hf b hb).2.2.2.1 with z | z
    · exact I.ok.noex b o e z
    · exact absurd (Nat.lt_of_lt_of_le (Heap.lt_size e) (Nat.le_trans I.ok.bsz z)) (Nat.lt_irrefl _)
  · rcases List.mem_cons.mp (I.stkSub b z) with e | e
    · exact (hf b hb).2.1 e
    · exact (hf b hb).2.2.1 e
  · by_cases hi : i < Xs.length
    · rw [List.getElem?_append_left (by rw [List.length_replicate]; exact hi)] at e2
      rw [List.getElem?_replicate] at e2
      split at e2 <;> simp at e2
    · obtain ⟨j, rfl⟩ : ∃ j, i = Xs.length + j := ⟨i - Xs.length, by omega⟩
      have e1' : Nf[j]? = some y := by
        have e1'' : (Xs ++ Nf)[Xs.length + j]? = some y := e1
        rw [List.getElem?_append_right (by omega)] at e1''
        simpa using e1''
      have e2b : (vs.map some)[j]? = some (some v) := by
        rw [List.getElem?_append_right (by rw [List.length_replicate]; omega), List.length_replicate] at e2
        simpa using e2
      obtain ⟨i0, hj, hN, hk, hr⟩ := K.frees j y e1'
      obtain ⟨v', hv1, hv2⟩ := hvs j i0 hj
      have ev : v = v' := by
        have e2' : (vs.map some)[j]? = some (some v) := e2b
        rw [List.getElem?_map, hv1] at e2'
        simpa using e2'.symm
      subst ev
      obtain ⟨m0, hn0, hl⟩ := I.loc
      obtain ⟨u, r, l⟩ := hl i0 y v hN hv2 (.inr (.inl hk))
      refine ⟨u, r, ?_⟩
      rcases l with ⟨l1, _⟩ | ⟨_, c, hc, o, ho, hd⟩
      · have l1' : X.env.scope.names.lookup y = some .local := l1
        rw [hk] at l1'; cases l1'
      · obtain ⟨c', hc'⟩ := K.has y hr
        have ec := K.sub y c' hc'
        rw [hc] at ec; cases ec
        exact .inr ⟨hr, c, hc', o, keep c o ho, hd⟩
  · obtain ⟨v, o, ho, hd⟩ := I.cell y c (K.sub y c e)
    exact ⟨v, o, keep c o ho, hd⟩
  · show (List.replicate Xs.length none ++ vs.map some).length = (Xs ++ Nf).length
    rw [List.length_append, List.length_append, List.length_replicate, List.length_map, hvl, K.len]
theorem pe_compG {elt iter tg : Expr} {ifs : List Expr} {pos : Pos} {scope : Scope} {cl : List (Str × Addr)} {Xs Nf : List Str} {js : List Nat} {wi : TI} {g : TG} {tc : TT} {te : TE} (K : CompOkG X scope cl Xs Nf js) (hc : X.calm = true) (hi : PI X tg iter wi)
    (hg : ∀ C s0 H0 fp, PG (blk X scope cl C (Xs ++ Nf) s0 H0 fp) tg g) (hcn : ∀ C s0 H0 fp, PTs (blk X scope cl C (Xs ++ Nf) s0 H0 fp) ifs tc) (he : ∀ C s0 H0 fp, PE (blk X scope cl C (Xs ++ Nf) s0 H0 fp) elt te) (hs : ∀ x, foldedSetIterable iter X.env x = pure x := by intro _; rfl) :
    PE X (.ListComp elt [⟨tg, iter, ifs, 0⟩] scope pos) (tCompG Xs.length js wi g tc te) := by
  intro pins s σ H Q I h
  rw [eval_ListComp]
  refine wpAny_comprehension_free (use := none) rfl hs K.clos K.kind K.names (thn (hi pins s σ H _ I h) fun v s1 h1 => thn h1 fun itv s2 h2 => ?_)
  obtain ⟨it, fp, tn, J, H2, e, I2, T, st2, f2, vs, ⟨hvl, hvs⟩, hW⟩ := h2
  subst e
  have hD : H2 s2.heap.objs.size = none := I2.hok.fresh (Nat.le_refl _)
  obtain ⟨W, ⟨m0, w0⟩, turn⟩ := hW s2.heap.objs.size hD
  have hlt2 : ∀ b ∈ fp, b < s2.heap.objs.size := fun b hb => let ⟨o, e, _⟩ := T.obj _ _ st2 b hb; Heap.lt_size e
  refine wpAny_newObj_type (wpAny_newFunctionEnv K.cell (by intro y hy; simp at hy) (fun h₁ hns₁ hsb₁ => ?_) K.kind)
  dsimp only at hns₁ hsb₁ ⊢
  generalize hP3 : s2.heap.push { cls := .type "list", dict := none, data := .seq ([] : List Value).toArray } = P3 at hns₁ hsb₁ ⊢
  obtain ⟨s3, hs3⟩ : ∃ s3 : Shared, s3 = { s2 with heap := P3 } := ⟨_, rfl⟩
  have eP : P3 = s3.heap := by rw [hs3]
  rw [eP] at hns₁ hsb₁ ⊢
  have I3 : Inv X pins σ (upd H2 s2.heap.objs.size (.lst [])) s3 := by
    rw [hs3, ← hP3]
    exact I2.laid (t' := s2.toks) (fun b u e => Heap.get?_push_of_some _ e) (Nat.le_refl _) ⟨Nat.zero_le _, [], 0, .nil, Heap.get?_push_size _ rfl⟩
  have keep23 : ∀ b o, s2.heap.get? b = some o → s3.heap.get? b = some o := fun b o e => by rw [← eP, ← hP3]; exact Heap.get?_push_of_some _ e
  have f3 : ∀ b ∈ fp, FpOk X pins (upd H2 s2.heap.objs.size (.lst [])) b := fun b hb => ⟨by rw [upd_ne (Nat.ne_of_lt (hlt2 b hb))]; exact (f2 b hb).1, (f2 b hb).2⟩
  have st3 : tn 0 s3.heap := T.keep _ _ _ st2 fun b hb o e => keep23 b o e
  have hlt3 : ∀ b ∈ fp, b < s3.heap.objs.size := fun b hb => let ⟨o, e, _⟩ := T.obj _ _ st3 b hb; Heap.lt_size e
  have keep34 : ∀ b o, s3.heap.get? b = some o → h₁.get? b = some o := fun b o e => hsb₁.extBut b o (Nat.ne_of_lt (Heap.lt_size e)) (Heap.get?_push_of_some _ e)
  have st4 : tn 0 h₁ := T.keep _ _ _ st3 fun b hb o e => keep34 b o e
  have fr3 : ∀ b ∈ fp, upd H2 s2.heap.objs.size (.lst []) b = none := fun b hb => (f3 b hb).1
  have stat : ∀ {H' : Hp}, (∀ b ∈ fp, H' b = none) → ∀ b ∈ fp, FpOk (blk X scope cl s3.heap.objs.size (Xs ++ Nf) s3 (upd H2 s2.heap.objs.size (.lst [])) fp) [] H' b := fun {H'} hn b hb => by
    refine ⟨hn b hb, Nat.ne_of_lt (hlt3 b hb), fun z => ?_, .inl hb, fun y c e => (f3 b hb).2.2.2.2.1 y c (K.sub y c e), fun p hp => absurd (show p ∈ ([] : List (Addr × Obj)) from hp) (by simp)⟩
    rcases List.mem_cons.mp (I3.stkSub b z) with e | e
    · exact (f3 b hb).2.1 e
    · exact (f3 b hb).2.2.1 e
  have fin : ∀ {σ' : St} {H' : Hp} {s' : Shared}, Inv (blk X scope cl s3.heap.objs.size (Xs ++ Nf) s3 (upd H2 s2.heap.objs.size (.lst [])) fp) [] σ' H' s' → Q (.ref s2.heap.objs.size) H' →
      compPost (model X.prog X.w) X.A X.xe none (EP X pins σ Q) (.ref s2.heap.objs.size) s3.heap.objs.size (.ok .next) s' := fun {σ' H' s'} J q => by
    obtain ⟨m, hn, _⟩ := J.loc
    refine ⟨m, hn, fun h' hs' => ⟨.ref s2.heap.objs.size, H', ?_, rfl, q⟩⟩
    have ne : ∀ b o, s3.heap.get? b = some o → b ≠ s3.heap.objs.size := fun b o e => Nat.ne_of_lt (Heap.lt_size e)
    have nC : ∀ b u, H' b = some u → b ≠ s3.heap.objs.size := fun b u e z => by
      have f := J.free
      rw [z] at e
      have f' : H' s3.heap.objs.size = none := f
      rw [f'] at e; cases e
    have B := J.base
    refine I3.call' (ch := fp) (s' := { s' with heap := h' }) J.os ?_ (fun b u e => (J.hok b u e).stay (fun c v hc q => hs'.extBut c v ?_ q) (fun _ q => q) fun _ _ q => q) J.bare fun b hb => ⟨(f3 b hb).2.2.2.1, (f3 b hb).2.1, (f3 b hb).2.2.2.2.1, (f3 b hb).2.2.2.2.2⟩
    · exact ⟨fun b o e n hb hx => hs'.extBut b o (ne b o e) (B.keep b o e n hb hx), fun b o e n hb hx => let ⟨sl, z⟩ := B.slot b o e n hb hx; ⟨sl, hs'.extBut b _ (ne b o e) z⟩, fun b o e n hx => B.free b o e n hx,
        fun b o e hx => let ⟨o', z⟩ := B.there b o e hx; ⟨o', hs'.extBut b _ (ne b o e) z⟩, B.tups, B.frzs, B.tbls⟩
    · rcases hc with z | z
      · rw [z]; exact nC b u e
      · exact nC c _ z
  have loop : ∀ s4 : Shared, s4 = { s3 with heap := h₁, toks := s3.toks + ([] : List (Str × Value)).length } →
      codeAny (model X.prog X.w) X.A (.compLoop (.ListComp elt [⟨tg, iter, ifs, 0⟩] scope pos) 0 (.ref it) (.ref s2.heap.objs.size) (compEnvC scope cl s3.heap.objs.size X.env))
        (compPost (model X.prog X.w) X.A X.xe none (EP X pins σ Q) (.ref s2.heap.objs.size) s3.heap.objs.size) s4 := by
    rintro s4 rfl
    have I4 := blk_startG (Xs := Xs) (tk := s3.toks + ([] : List (Str × Value)).length) K I3 hvl hvs f3 hlt3 hns₁ keep34
    refine compLoop_goC (fun n s' => ∃ i ox ys H', ox.length = Xs.length ∧ Inv (blk X scope cl s3.heap.objs.size (Xs ++ Nf) s3 (upd H2 s2.heap.objs.size (.lst [])) fp) [] (ox ++ vs.map some) H' s' ∧ tn i s'.heap ∧ (∀ b ∈ fp, H' b = none) ∧ W i n ys H') ?_ m0 ⟨0, List.replicate Xs.length none, [], _, List.length_replicate, I4, st4, fr3, w0⟩
    rintro n s5 ⟨i, ox, ys, H5, hox, I5, st5, fr5, w5⟩
    rcases turn i n ys H5 w5 with ⟨stop, qn⟩ | ⟨go, step⟩
    · refine wpAny_mono (T.done (blk X scope cl s3.heap.objs.size (Xs ++ Nf) s3 (upd H2 s2.heap.objs.size (.lst [])) fp) rfl rfl rfl hc i [] s5 _ H5 _ I5 (stat fr5) st5 stop) (fun r s6 ⟨hr, I6⟩ => ?_) fun _ _ z => z
      subst hr
      exact fin I6 qn
    · refine wpAny_mono (T.item (blk X scope cl s3.heap.objs.size (Xs ++ Nf) s3 (upd H2 s2.heap.objs.size (.lst [])) fp) rfl rfl rfl hc i [] s5 _ H5 _ I5 (stat fr5) st5 go) (fun r s6 ⟨u, hr, h6⟩ => ?_) fun _ _ z => z
      subst hr
      refine wpAny_mono h6 (fun _ s7 ⟨x7, H7, I7, r7, y7, st7, fr7⟩ => ?_) fun _ _ z => z
      have I7' := I7.pinned (stat fr7) (T.obj _ _ st7)
      refine wpAny_mono (hg s3.heap.objs.size s3 (upd H2 s2.heap.objs.size (.lst [])) fp _ s7 _ H7 x7 u _ I7' r7 (step x7 H7 ox hox y7)) (fun _ s8 ⟨σ8, H8, I8, ox2, hox2, e8, q8⟩ => ?_) fun _ _ z => False.elim z
      subst e8
      refine wpAny_mono (hcn s3.heap.objs.size s3 _ fp _ s8 _ H8 _ I8 q8) (fun b8 s8b ⟨H8b, I8b, q8b⟩ => ?_) fun _ _ z => False.elim z
      have ends : ∀ (H10 : Hp) (s10 : Shared) (ys' : List V) (m' : Nat), m' < n → W (i + 1) m' ys' H10 → Inv (blk X scope cl s3.heap.objs.size (Xs ++ Nf) s3 (upd H2 s2.heap.objs.size (.lst [])) fp) ([] ++ pinsAt fp s7.heap) (ox2 ++ vs.map some) H10 s10 →
          ∃ m, m < n ∧ ∃ i ox ys H', ox.length = Xs.length ∧ Inv (blk X scope cl s3.heap.objs.size (Xs ++ Nf) s3 (upd H2 s2.heap.objs.size (.lst [])) fp) [] (ox ++ vs.map some) H' s10 ∧ tn i s10.heap ∧ (∀ b ∈ fp, H' b = none) ∧ W i m ys H' := fun H10 s10 ys' m' hm' w9 I10 => by
        refine ⟨m', hm', i + 1, ox2, ys', _, hox2, I10.unpinned, T.keep _ _ _ st7 fun b hb o e => (I10.pin (b, o) (List.mem_append_right _ (List.mem_append_right _ (mem_pinsAt hb e)))).1, fun b hb => ?_, w9⟩
        obtain ⟨o, e, d⟩ := T.obj _ _ st7 b hb
        exact (I10.pin (b, o) (List.mem_append_right _ (List.mem_append_right _ (mem_pinsAt hb e)))).2.1
      cases b8 with
      | false =>
        rw [if_neg Bool.false_ne_true] at q8b ⊢
        obtain ⟨m', hm', w9⟩ := q8b
        exact ends _ _ _ _ hm' w9 I8b
      | true =>
        rw [if_pos rfl] at q8b ⊢
        refine wpAny_mono (he s3.heap.objs.size s3 _ fp _ s8b _ H8b _ I8b q8b) (fun v9 s9 ⟨v, H9, I9, r9, hD9, hz9, m', hm', w9⟩ => ?_) fun _ _ z => False.elim z
        refine wpAny_mono (mt_append (X := blk X scope cl s3.heap.objs.size (Xs ++ Nf) s3 (upd H2 s2.heap.objs.size (.lst [])) fp) _ s9 _ H9 (.ref s2.heap.objs.size) [v] (.ref s2.heap.objs.size) [v9] (fun _ H' => H' = upd H9 s2.heap.objs.size (.lst (ys ++ [v]))) I9 rfl (.cons r9 .nil) ⟨_, ys, v, rfl, rfl, hD9, hz9, rfl⟩)
          (fun _ s10 ⟨_, H10, I10, _, e10⟩ => ?_) fun _ _ z => False.elim z
        subst e10
        exact ends _ _ _ _ hm' w9 I10
  have e4 : ({ s2 with heap := h₁, toks := s2.toks + ([] : List (Str × Value)).length } : Shared) = { s3 with heap := h₁, toks := s3.toks + ([] : List (Str × Value)).length } := by rw [hs3]
  rw [e4]
  exact codeAny_compStart_list (loop _ rfl) (T.self _ 0 _ _ _ st4 (loop _ rfl))
end
end L2
set_option Elab.async false
set_option linter.all false
set_option maxRecDepth 100000
set_option maxHeartbeats 4000000
namespace L2
open PySem PySem.Spec PyProof.Rows PySem.Builtin PySem.Builtin.Str
/-! ### a comprehension with a test, bound right away -/
section
variable {X : Cx}
end
end L2
set_option Elab.async false
set_option linter.all false
set_option maxRecDepth 100000
set_option maxHeartbeats 4000000
namespace GS
open PySem PySem.Spec PySem.Builtin PyProof.Rows L2
open PySem.SeqAt
open PySem.MeetsSeq PySem.MeetsSeq2 PySem.MeetsSeq3
/-! ### the whole of a tuple, as a slice: itself -/
section
variable {X : Cx} {K : PySem.W.Frag} {H : Hp}
end
end GS
set_option Elab.async false
set_option linter.all false
set_option maxRecDepth 100000
set_option maxHeartbeats 4000000
namespace L2
open PySem PySem.Spec PyProof.Rows

/-! ### lists of pairs as tables -/
section
variable {κ : Type} [DecidableEq κ]
def valV (kvs : List (κ × V)) (k : κ) : Option V := (kvs.find? fun kv => decide (kv.1 = k)).map (·.2)
/-- in its place, or at the end -/
def putK (kvs : List (κ × V)) (k : κ) (v : V) : List (κ × V) :=
  if (kvs.any fun kv => decide (kv.1 = k)) = true then kvs.map (fun kv => if kv.1 = k then (kv.1, v) else kv) else kvs ++ [(k, v)]

theorem valV_pos {p : κ × V} {r : List (κ × V)} {k : κ} (e : p.1 = k) : valV (p :: r) k = some p.2 := by simp [valV, List.find?_cons, e]
theorem valV_neg {p : κ × V} {r : List (κ × V)} {k : κ} (e : ¬ p.1 = k) : valV (p :: r) k = valV r k := by simp [valV, List.find?_cons, e]
theorem valV_any (k : κ) : ∀ kvs : List (κ × V), (kvs.any fun kv => decide (kv.1 = k)) = (valV kvs k).isSome
  | [] => rfl
  | p :: r => by
    rw [List.any_cons]
    by_cases e : p.1 = k
    · simp only [valV_pos e, decide_eq_true e, Bool.true_or, Option.isSome_some]
    · rw [valV_neg e, decide_eq_false e, Bool.false_or]; exact valV_any k r
theorem valV_map (k j : κ) (y : V) : ∀ kvs : List (κ × V), valV (kvs.map fun kv => if kv.1 = k then (kv.1, y) else kv) j = (valV kvs j).map fun x => if j = k then y else x
  | [] => rfl
  | p :: r => by
    have ih := valV_map k j y r
    rw [List.map_cons]
    by_cases h : p.1 = k
    · rw [if_pos h]
      by_cases e : p.1 = j
      · rw [valV_pos (p := (p.1, y)) e, valV_pos e, Option.map_some, if_pos (e.symm.trans h)]
      · rw [valV_neg (p := (p.1, y)) e, valV_neg e, ih]
    · rw [if_neg h]
      by_cases e : p.1 = j
      · rw [valV_pos (p := p) e, valV_pos e, Option.map_some, if_neg (fun z => h (e.trans z))]
      · rw [valV_neg (p := p) e, valV_neg e, ih]
theorem valV_snoc (k j : κ) (y : V) : ∀ kvs : List (κ × V), valV kvs k = none → valV (kvs ++ [(k, y)]) j = if j = k then some y else valV kvs j
  | [], _ => by
    by_cases e : k = j
    · rw [if_pos e.symm]; exact valV_pos (p := (k, y)) e
    · rw [if_neg (fun z => e z.symm)]; exact valV_neg (p := (k, y)) e
  | p :: r, hn => by
    rw [List.cons_append]
    have hk : ¬ p.1 = k := fun z => by rw [valV_pos z] at hn; cases hn
    rw [valV_neg hk] at hn
    have ih := valV_snoc k j y r hn
    by_cases e : p.1 = j
    · rw [valV_pos e, valV_pos e, if_neg (fun z => hk (e.trans z))]
    · rw [valV_neg e, valV_neg e, ih]
theorem valV_put (kvs : List (κ × V)) (k j : κ) (y : V) : valV (putK kvs k y) j = if j = k then some y else valV kvs j := by
  unfold putK
  by_cases a : (kvs.any fun kv => decide (kv.1 = k)) = true
  · rw [if_pos a, valV_map]
    rw [valV_any] at a
    by_cases e : j = k
    · obtain ⟨x, hx⟩ := Option.isSome_iff_exists.mp a
      rw [if_pos e, e, hx, Option.map_some, if_pos rfl]
    · rw [if_neg e]
      cases valV kvs j with
      | none => rfl
      | some x => rw [Option.map_some, if_neg e]
  · rw [if_neg a]
    refine valV_snoc k j y kvs ?_
    rw [valV_any] at a
    cases q : valV kvs k with
    | none => rfl
    | some x => rw [q] at a; exact (a rfl).elim
theorem length_putK (kvs : List (κ × V)) (k : κ) (v : V) : (putK kvs k v).length ≤ kvs.length + 1 := by
  unfold putK
  split
  · rw [List.length_map]; omega
  · rw [List.length_append, List.length_cons, List.length_nil]; omega

theorem RelO.isSome_eq {o : Option V} {u : Option Value} (r : RelO o u) : o.isSome = u.isSome := by
  cases o with
  | none => cases u with
    | none => rfl
    | some _ => exact (show False from r).elim
  | some _ => cases u with
    | none => exact (show False from r).elim
    | some _ => rfl
theorem RelO.getD {o : Option V} {u : Option Value} {d : V} {d' : Value} (r : RelO o u) (rd : RelV d d') : RelV (o.getD d) (u.getD d') := by
  cases o with
  | none => cases u with
    | none => exact rd
    | some _ => exact (show False from r).elim
  | some _ => cases u with
    | none => exact (show False from r).elim
    | some _ => exact r

/-- raw tables of the same keys -/
theorem KV.val {kvs : List (κ × V)} {vs : List (κ × Value)} (r : KV kvs vs) (k : κ) : RelO (valV kvs k) (valueAt vs k) := by
  unfold KV at r
  induction r with
  | nil => exact True.intro
  | @cons p q ps qs h t ih =>
    obtain ⟨h1, h2⟩ := h
    by_cases e : p.1 = k
    · have e' : q.1 = k := h1.symm.trans e
      have b : valueAt (q :: qs) k = some q.2 := by simp [valueAt, List.find?_cons, e']
      rw [valV_pos e, b]; exact h2
    · have e' : ¬ q.1 = k := fun z => e (h1.trans z)
      have b : valueAt (q :: qs) k = valueAt qs k := by simp [valueAt, List.find?_cons, e']
      rw [valV_neg e, b]; exact ih
theorem KV.any {kvs : List (κ × V)} {vs : List (κ × Value)} (r : KV kvs vs) (k : κ) : (kvs.any fun kv => decide (kv.1 = k)) = vs.any fun kv => decide (kv.1 = k) := by
  unfold KV at r
  induction r with
  | nil => rfl
  | cons h t ih => rw [List.any_cons, List.any_cons, ih, h.1]
theorem KV.repl {kvs : List (κ × V)} {vs : List (κ × Value)} (r : KV kvs vs) (k : κ) {y : V} {u : Value} (ry : RelV y u) :
    KV (kvs.map fun kv => if kv.1 = k then (kv.1, y) else kv) (vs.map fun kv => if kv.1 = k then (kv.1, u) else kv) := by
  unfold KV at r ⊢
  induction r with
  | nil => exact .nil
  | @cons p q ps qs h t ih =>
    rw [List.map_cons, List.map_cons]
    refine .cons ?_ ih
    obtain ⟨h1, h2⟩ := h
    by_cases e : p.1 = k
    · rw [if_pos e, if_pos (h1.symm.trans e)]; exact ⟨h1, ry⟩
    · rw [if_neg e, if_neg (fun z => e (h1.trans z))]; exact ⟨h1, h2⟩
theorem KV.put {kvs : List (κ × V)} {vs : List (κ × Value)} (r : KV kvs vs) (k : κ) {y : V} {u : Value} (ry : RelV y u) : KV (putK kvs k y) (stored vs k u) := by
  unfold putK stored
  rw [r.any k]
  by_cases e : (vs.any fun kv => decide (kv.1 = k)) = true
  · rw [if_pos e, if_pos e]; exact r.repl k ry
  · rw [if_neg e, if_neg e]; exact Paired.snoc r ⟨rfl, ry⟩
theorem KV.length {kvs : List (κ × V)} {vs : List (κ × Value)} (r : KV kvs vs) : kvs.length = vs.length := Paired.length r
end


/-! ### a tracked dict, its keys ints and texts or tuples of these -/
theorem kV_is {P : Program} {w : World} {k : Key} {u : Value} (r : RelV (kV k) u) : (mixKind P w).is k u = true := by
  cases k with
  | inl i => obtain ⟨t, e⟩ := (show ∃ t, u = Value.int i t from r); subst e; exact mixKind_int P w i t
  | inr x => obtain ⟨t, e⟩ := (show ∃ t, u = Value.str x t from r); subst e; exact mixKind_str P w x t
theorem items_are {P : Program} {w : World} : ∀ {ks : List Key} {us : List Value}, Vals (ks.map kV) us → ItemsAre (mixKind P w) ks us
  | [], _, r => by rw [List.map_nil] at r; cases r; exact .nil
  | k :: ks, _, r => by
    rw [List.map_cons] at r
    cases r with
    | cons h t => exact .cons (kV_is h) (items_are t)

/-- raw entries of a dict with tuple keys -/
abbrev KT (H : Hp) : List (List Key × V) → List (List Key × Addr × Value) → Prop := Paired fun p q => p.1 = q.1 ∧ H q.2.1 = some (.tup (p.1.map kV)) ∧ RelV p.2 q.2.2
theorem KT.val {H : Hp} {kvs : List (List Key × V)} {xs : List (List Key × Addr × Value)} (r : KT H kvs xs) (k : List Key) : RelO (valV kvs k) ((atKey xs k).map (·.2)) := by
  induction r with
  | nil => exact True.intro
  | @cons p q ps qs h t ih =>
    obtain ⟨h1, _, h2⟩ := h
    by_cases e : p.1 = k
    · have e' : q.1 = k := h1.symm.trans e
      have b : atKey (q :: qs) k = some q.2 := by simp [atKey, List.find?_cons, e']
      rw [valV_pos e, b]; exact h2
    · have e' : ¬ q.1 = k := fun z => e (h1.trans z)
      have b : atKey (q :: qs) k = atKey qs k := by simp [atKey, List.find?_cons, e']
      rw [valV_neg e, b]; exact ih
theorem KT.repl {H : Hp} {kvs : List (List Key × V)} {xs : List (List Key × Addr × Value)} (r : KT H kvs xs) (k : List Key) {y : V} {u : Value} (ry : RelV y u) :
    KT H (kvs.map fun kv => if kv.1 = k then (kv.1, y) else kv) (xs.map (putAt k u)) := by
  induction r with
  | nil => exact .nil
  | @cons p q ps qs h t ih =>
    rw [List.map_cons, List.map_cons]
    refine .cons ?_ ih
    obtain ⟨h1, h2, h3⟩ := h
    unfold putAt
    by_cases e : p.1 = k
    · rw [if_pos e, if_pos (h1.symm.trans e)]; exact ⟨h1, h2, ry⟩
    · rw [if_neg e, if_neg (fun z => e (h1.trans z))]; exact ⟨h1, h2, h3⟩
theorem KT.put {H : Hp} {kvs : List (List Key × V)} {xs : List (List Key × Addr × Value)} (r : KT H kvs xs) (k : List Key) {b : Addr} {y : V} {u : Value} (hb : H b = some (.tup (k.map kV))) (ry : RelV y u) :
    KT H (putK kvs k y) (storedH xs k b u) := by
  have e : (kvs.any fun kv => decide (kv.1 = k)) = (atKey xs k).isSome := by
    rw [valV_any, (r.val k).isSome_eq, Option.isSome_map]
  unfold putK storedH
  rw [e]
  by_cases q : (atKey xs k).isSome = true
  · rw [if_pos q, if_pos q]; exact r.repl k ry
  · rw [if_neg q, if_neg q]; exact Paired.snoc r ⟨rfl, hb, ry⟩
theorem KT.keeps {H H' : Hp} {kvs : List (List Key × V)} {xs : List (List Key × Addr × Value)} (r : KT H kvs xs) (ht : ∀ b ys, H b = some (.tup ys) → H' b = some (.tup ys)) : KT H' kvs xs :=
  Paired.mapP r fun _ _ z => ⟨z.1, ht _ _ z.2.1, z.2.2⟩

section
variable {P : Program} {w : World} {H : Hp} {h : Heap} {a : Addr}
theorem rd_of {u : HO} (ok : HOk P w H h) (e : Rd H a u) : ObjOk P w H h a u := e.ok ok
theorem dk_rd {kvs : List (Key × V)} (ok : HOk P w H h) (e : Rd H a (.dK kvs)) : kvs.length ≤ sizeLine ∧ (a == sysModules) = false ∧ ∃ vs, KV kvs vs ∧ h.DictOf (mixKind P w) a vs :=
  show ObjOk P w H h a (.dK kvs) from rd_of ok e
theorem dk_of {kvs : List (Key × V)} (ok : HOk P w H h) (e : H a = some (.dK kvs)) : kvs.length ≤ sizeLine ∧ (a == sysModules) = false ∧ ∃ vs, KV kvs vs ∧ h.DictOf (mixKind P w) a vs := dk_rd ok (.inl e)
/-- a tracked tuple of ints and texts is a key -/
theorem key_of {ks : List Key} (ok : HOk P w H h) (e : H a = some (.tup (ks.map kV))) : (tupleKind (mixKind P w)).is h ks a := by
  obtain ⟨_, its, r, o, h1, h2, n, h3⟩ := (show ObjOk P w H h a (.tup (ks.map kV)) from ok a _ e)
  exact ⟨o, its.toArray, n, h1, h2, h3, by simpa using items_are r⟩
theorem dt_rd {kvs : List (List Key × V)} (ok : HOk P w H h) (e : Rd H a (.dT kvs)) : kvs.length ≤ sizeLine ∧ (a == sysModules) = false ∧
    ∃ xs, KT H kvs xs ∧ h.DictOfH (tupleKind (mixKind P w)) a xs := by
  obtain ⟨z, y, xs, r, o, es, ep, h1, h2, h3, h4, h5⟩ := (show ObjOk P w H h a (.dT kvs) from rd_of ok e)
  refine ⟨z, y, xs, r, o, es, ep, h1, h2, h3, h4, fun x hx => ?_, h5⟩
  have all : ∀ {l : List (List Key × V)} {m : List (List Key × Addr × Value)}, KT H l m → ∀ x ∈ m, (tupleKind (mixKind P w)).is h x.1 x.2.1 := by
    intro l m q
    induction q with
    | nil => intro x hx; exact nomatch hx
    | @cons p q ps qs hq t ih =>
      intro x hx
      rcases List.mem_cons.mp hx with e | hx
      · subst e
        exact key_of ok (by rw [← hq.1]; exact hq.2.1)
      · exact ih x hx
  exact all r x hx
theorem dt_of {kvs : List (List Key × V)} (ok : HOk P w H h) (e : H a = some (.dT kvs)) : kvs.length ≤ sizeLine ∧ (a == sysModules) = false ∧
    ∃ xs, KT H kvs xs ∧ h.DictOfH (tupleKind (mixKind P w)) a xs := dt_rd ok (.inl e)
end

/-- what the dict at a holds at the key y -/
def DGet (H : Hp) (a : Addr) (y : V) (r : Option V) : Prop :=
  (∃ kvs k, Rd H a (.dK kvs) ∧ y = kV k ∧ r = valV kvs k) ∨ ∃ kvs k b, Rd H a (.dT kvs) ∧ y = .ref b ∧ H b = some (.tup (k.map kV)) ∧ r = valV kvs k
/-- the heap behind a[y] = v -/
def DPut (H : Hp) (a : Addr) (y v : V) (H' : Hp) : Prop :=
  (∃ kvs k, H a = some (.dK kvs) ∧ y = kV k ∧ kvs.length < sizeLine ∧ H' = upd H a (.dK (putK kvs k v))) ∨
  ∃ kvs k b, H a = some (.dT kvs) ∧ y = .ref b ∧ H b = some (.tup (k.map kV)) ∧ kvs.length < sizeLine ∧ H' = upd H a (.dT (putK kvs k v))
theorem DGet.k {H : Hp} {a : Addr} {kvs : List (Key × V)} {k : Key} (e : H a = some (.dK kvs)) : DGet H a (kV k) (valV kvs k) := .inl ⟨kvs, k, .inl e, rfl, rfl⟩
theorem DPut.k {H : Hp} {a : Addr} {kvs : List (Key × V)} {k : Key} {v : V} (e : H a = some (.dK kvs)) (hl : kvs.length < sizeLine) : DPut H a (kV k) v (upd H a (.dK (putK kvs k v))) := .inl ⟨kvs, k, e, rfl, hl, rfl⟩


section
variable {X : Cx} {pins : List (Addr × Obj)} {σ : St} {H : Hp} {s : Shared} {a : Addr} {y v : V} {u r : Value} {o : Option V} {A : Around} {E : Value → Shared → Prop}


/-- d[y], there -/
theorem d_getItem {Q : Value → Shared → Prop} (hu : A.units + 1 < cLine) (I : Inv X pins σ H s) (g : DGet H a y (some v)) (ry : RelV y u) (h : ∀ w' s', Inv X pins σ H s' → RelV v w' → Q w' s') :
    wpAny (model X.prog X.w) A (getItem (.ref a) u) Q E s := by
  rcases g with ⟨kvs, k, e, ey, l⟩ | ⟨kvs, k, b, e, ey, eb, l⟩
  · subst ey
    obtain ⟨z, hd, vs, rel, dd⟩ := dk_rd I.hok e
    obtain ⟨w', hw, rw'⟩ := RelO.some_of (v := v) (o := valueAt vs k) (by rw [l]; exact rel.val k)
    exact wpAny_getItem_of (kV_is ry) dd.mapOf hw (h w' _ (I.tok _) rw')
  · subst ey
    cases (show u = Value.ref b from ry)
    obtain ⟨z, hd, xs, rel, dd⟩ := dt_rd I.hok e
    obtain ⟨w', hw, rw'⟩ := RelO.some_of (v := v) (o := (atKey xs k).map (·.2)) (by rw [l]; exact rel.val k)
    obtain ⟨p, hp, hp2⟩ := Option.map_eq_some_iff.mp hw
    refine wpAny_getItem_heap (tupleKind_room_in1 hu) (key_of I.hok eb) dd hp ?_
    rw [hp2]
    exact h w' _ (I.tok _) rw'
/-- a dict's object is replaced -/
theorem d_write {h' : Heap} {t' : Nat} {ob : HO} (I : Inv X pins σ H s) (mu : Mut (H a)) (hs : Heap.SameBut a s.heap h') (he : ∃ q, h'.get? a = some q) (new : ObjOk X.prog X.w (upd H a ob) h' a ob) :
    Inv X pins σ (upd H a ob) { s with heap := h', toks := t' } :=
  I.write (x := a) (e := a) mu (.inl rfl) (fun b q hb z => (hs.2 b hb).trans z) he new
theorem dk_new {P : Program} {w : World} {H' : Hp} {h' : Heap} {kvs : List (Key × V)} {vs : List (Key × Value)} (z : kvs.length ≤ sizeLine) (hd : (a == sysModules) = false) (rel : KV kvs vs) (dd : h'.DictOf (mixKind P w) a vs) :
    ObjOk P w H' h' a (.dK kvs) := ⟨z, hd, vs, rel, dd⟩
/-- d[y] = v -/
theorem d_setItem {H' : Hp} {Q : Unit → Shared → Prop} (hu : A.units + 1 < cLine) (I : Inv X pins σ H s) (g : DPut H a y v H') (ry : RelV y u) (rv : RelV v r) (h : ∀ s', Inv X pins σ H' s' → Q () s') :
    wpAny (model X.prog X.w) A (setItem (.ref a) u r) Q E s := by
  rcases g with ⟨kvs, k, e, ey, l, eH⟩ | ⟨kvs, k, b, e, ey, eb, l, eH⟩
  · subst ey eH
    obtain ⟨z, hd, vs, rel, dd⟩ := dk_of I.hok e
    have hz : vs.length ≤ sizeLine := by rw [← rel.length]; exact z
    have hl : (putK kvs k v).length ≤ sizeLine := by have := length_putK kvs k v; omega
    refine wpAny_setItem_pairs (hsz := hz) (kV_is ry) dd fun h' dd' hs => h _ ?_
    have he : ∃ q, h'.get? a = some q := let ⟨q, _, _, hq, _⟩ := dd'; ⟨q, hq⟩
    exact d_write I (by rw [e]; exact True.intro) hs he (dk_new hl hd (rel.put k rv) dd')
  · subst ey eH
    cases (show u = Value.ref b from ry)
    obtain ⟨z, hd, xs, rel, dd⟩ := dt_of I.hok e
    have hz : xs.length ≤ sizeLine := by rw [← Paired.length rel]; exact z
    have hl : (putK kvs k v).length ≤ sizeLine := by have := length_putK kvs k v; omega
    refine wpAny_setItem_heap (hsz := hz) (tupleKind_room_in1 hu) (key_of I.hok eb) dd fun h' dd' hs => h _ ?_
    obtain ⟨q, es, ep, hq, h2, h3, h4, _, h5⟩ := dd'
    refine d_write I (by rw [e]; exact True.intro) hs ⟨q, hq⟩ ⟨hl, hd, _, (rel.put k eb rv).keeps fun c ys ec => ?_, q, es, ep, hq, h2, h3, h4, h5⟩
    rw [upd_ne (ne_of ec e (fun z => nomatch z))]
    exact ec
end

section
variable {X : Cx} {pins : List (Addr × Obj)} {σ : St} {H : Hp} {s : Shared} {a : Addr} {kvs : List (Key × V)} {k : Key} {u : Value} {A : Around} {E : Value → Shared → Prop}
end


/-! ### readings and rules -/
/-- the element of a subscription, not a slice -/
def NoSl (i : Expr) : Prop := ∀ ov iv, subscripted i false ov iv = operate [ov, iv] (getItem ov iv)
theorem subD_of {prog : Program} {w : World} {A : Around} {E : Value → Shared → Prop} {s : Shared} {env : Env} {value slice : Expr} {pos : Pos} {T id : String} {Q : Value → Shared → Prop}
    (hl : typeLookup (.type T) "__getitem__" = pure (some (.builtin id))) (hs : NoSl slice)
    (h : wpAny (model prog w) A (eval value env) (fun o s₁ => wpAny (model prog w) A (eval slice env) (fun i s₂ => s₂.TypeIs o T ∧ wpAny (model prog w) A (getItem o i) Q E s₂) E s₁) E s) :
    wpAny (model prog w) A (eval (.Subscript value slice pos) env) Q E s := by
  refine Subscript_ (wpAny_mono h (fun o s₁ h₁ => wpAny_mono h₁ (fun i s₂ h₂ => ?_) fun _ _ x => x) fun _ _ x => x)
  obtain ⟨hT, h₂⟩ := h₂
  unfold subscriptTail
  refine wpAny_bind ?_
  rw [getitemInPython_of_ne hT.not_modules]
  refine wpAny_bind (wpAny_specialOf hT hl ?_)
  have fin : wpAny (model prog w) A (subscripted slice false o i) (fun r s₃ => wpAny (model prog w) A (letTemporaryGo value o r >>= fun _ => pure r) Q E s₃) E s₂ := by
    rw [hs o i]
    exact wpAny_operating (wpAny_mono h₂ (fun r s₃ h₃ => wpAny_bind (wpAny_letTemporaryGo (wpAny_pure h₃))) fun _ _ x => x)
  first
    | exact wpAny_pure (wpAny_bind fin)
    | exact wpAny_bind (wpAny_pure (wpAny_bind fin))
    | exact wpAny_bind fin

theorem dict_typeIs {X : Cx} {pins : List (Addr × Obj)} {σ : St} {H : Hp} {s : Shared} {a : Addr} {y : V} {o : Option V} (I : Inv X pins σ H s) (g : DGet H a y o) : s.TypeIs (.ref a) "dict" := by
  rcases g with ⟨kvs, k, e, _, _⟩ | ⟨kvs, k, b, e, _, _, _⟩
  · obtain ⟨_, _, vs, _, dd⟩ := dk_rd I.hok e
    exact dd.typeIs
  · obtain ⟨_, _, xs, _, dd⟩ := dt_rd I.hok e
    exact dd.typeIs

/-- d[y] -/
def tDGet (td ty : TE) : TE := fun σ H Q => td σ H fun x H1 => ty σ H1 fun y H2 => ∃ a v, x = .ref a ∧ DGet H2 a y (some v) ∧ Q v H2
/-- d[y] = v -/
def sDPut (td ty tv : TE) : TS := fun D σ H => tv σ H fun v H1 => td σ H1 fun x H2 => ty σ H2 fun y H3 => ∃ a H4, x = .ref a ∧ DPut H3 a y v H4 ∧ D.nx σ H4

section
variable {X : Cx} {o i e value : Expr} {pos pos' tpos : Pos} {td ty tv : TE}
theorem pe_dget (hu : X.A.units + 1 < cLine) (ho : PE X o td) (hi : PE X i ty) (hs : NoSl i) : PE X (.Subscript o i pos) (tDGet td ty) := by
  intro pins s σ H Q I h
  refine subD_of PySem.F.slot_dict_getitem.lookup hs (thn (ho pins s σ H _ I h) fun u s1 ⟨x, H1, I1, rx, q1⟩ => thn (hi pins s1 σ H1 _ I1 q1) fun iv s2 ⟨y, H2, I2, ry, a, v, ex, g, q2⟩ => ?_)
  subst ex
  obtain rfl : u = Value.ref a := rx
  exact ⟨dict_typeIs I2 g, d_getItem hu I2 g ry fun w' s3 I3 rw' => ⟨v, H2, I3, rw', q2⟩⟩
theorem ps_dput (hu : X.A.units + 1 < cLine) (ho : PE X o td) (hi : PE X i ty) (hv : PE X value tv) (hs : swapsWith value (some (.Subscript o i pos')) pos.line X.env = pure false) :
    PS X (.Assign [.Subscript o i pos'] value pos) (sDPut td ty tv) := by
  intro pins s σ H D I h
  refine wpAny_Assign_Subscript (thn (hv pins s σ H _ I h) fun r s1 ⟨v, H1, I1, rv, q1⟩ => thn (ho pins s1 σ H1 _ I1 q1) fun u s2 ⟨x, H2, I2, rx, q2⟩ => thn (hi pins s2 σ H2 _ I2 q2) fun iv s3 ⟨y, H3, I3, ry, a, H4, ex, g, q3⟩ => ?_) hs
  subst ex
  obtain rfl : u = Value.ref a := rx
  exact d_setItem hu I3 g ry rv fun s4 I4 => ⟨σ, H4, I4, q3⟩
end


/-! ### displays -/
section
variable {X : Cx} {pos : Pos}
end

/-- the pairs of a display, from the left -/
def tPairs : List (TE × TE) → St → Hp → (List (V × V) → Hp → Prop) → Prop
  | [], _, H, Q => Q [] H
  | (tk, tv) :: r, σ, H, Q => tk σ H fun x H1 => tv σ H1 fun y H2 => tPairs r σ H2 fun ps H3 => Q ((x, y) :: ps) H3
abbrev VV : List (V × V) → List (Value × Value) → Prop := Paired fun p q => RelV p.1 q.1 ∧ RelV p.2 q.2
def PPs (X : Cx) (pos : Pos) (keys : List (Option Expr)) (values : List Expr) (trs : List (TE × TE)) : Prop :=
  ∀ (pins : List (Addr × Obj)) (s : Shared) (σ : St) (H : Hp) (Q : List (V × V) → Hp → Prop), Inv X pins σ H s → tPairs trs σ H Q →
    wpAny (model X.prog X.w) X.A (evalPairs (pairTrees keys values X.env pos)) (fun vs s' => ∃ ps H', Inv X pins σ H' s' ∧ VV ps vs ∧ Q ps H') X.xe s
theorem pps_nil {X : Cx} {pos : Pos} : PPs X pos [] [] [] := fun pins s σ H Q I h => pairTrees_nil_walk ⟨[], H, I, .nil, h⟩
theorem pps_cons {X : Cx} {pos : Pos} {k v : Expr} {ks : List (Option Expr)} {vs : List Expr} {tk tv : TE} {trs : List (TE × TE)} (hk : PE X k tk) (hv : PE X v tv) (hr : PPs X pos ks vs trs) :
    PPs X pos (some k :: ks) (v :: vs) ((tk, tv) :: trs) := fun pins s σ H Q I h =>
  pairTrees_cons_walk (thn (hk pins s σ H _ I h) fun u s1 ⟨x, H1, I1, rx, q1⟩ => thn (hv pins s1 σ H1 _ I1 q1) fun w2 s2 ⟨y, H2, I2, ry, q2⟩ =>
    thn (hr pins s2 σ H2 _ I2 q2) fun ws s3 ⟨ps, H3, I3, rel, q3⟩ => ⟨(x, y) :: ps, H3, I3, .cons ⟨rx, ry⟩ rel, q3⟩)

def mergeK (kvs more : List (Key × V)) : List (Key × V) := more.foldl (fun acc kv => putK acc kv.1 kv.2) kvs
theorem KV.merge : ∀ {more : List (Key × V)} {rs : List (Key × Value)} {kvs : List (Key × V)} {vs : List (Key × Value)}, KV more rs → KV kvs vs → KV (mergeK kvs more) (merged vs rs) := by
  intro more rs kvs vs r
  unfold KV at r
  induction r generalizing kvs vs with
  | nil => intro q; exact q
  | @cons p q ps qs h t ih =>
    intro r0
    have e : KV (putK kvs p.1 p.2) (stored vs q.1 q.2) := by
      have := r0.put p.1 h.2
      rw [← h.1]; exact this
    exact ih e
theorem length_mergeK : ∀ (more kvs : List (Key × V)), (mergeK kvs more).length ≤ kvs.length + more.length
  | [], kvs => by show kvs.length ≤ kvs.length + 0; omega
  | p :: r, kvs => by
    have h1 := length_mergeK r (putK kvs p.1 p.2)
    have h2 := length_putK kvs p.1 p.2
    show (mergeK (putK kvs p.1 p.2) r).length ≤ _
    rw [List.length_cons]; omega
theorem carries_of {P : Program} {w : World} : ∀ {kvs : List (Key × V)} {ws : List (Value × Value)}, VV (kvs.map fun kv => (kV kv.1, kv.2)) ws → ∃ rs, Carries (mixKind P w) ws rs ∧ KV kvs rs
  | [], _, r => by rw [List.map_nil] at r; cases r; exact ⟨[], True.intro, .nil⟩
  | p :: kvs, _, r => by
    rw [List.map_cons] at r
    cases r with
    | @cons a b as bs h t =>
      obtain ⟨rs, c, q⟩ := carries_of (P := P) (w := w) t
      obtain ⟨b1, b2⟩ := b
      exact ⟨(p.1, b2) :: rs, ⟨kV_is h.1, rfl, c⟩, .cons ⟨rfl, h.2⟩ q⟩
/-- {k: v, ..} with keys ints and texts; the new dict stands empty while the pairs are made -/
def tDisp (trs : List (TE × TE)) : TE := fun σ H Q => ∀ p, H p = none → tPairs trs σ (upd H p (.dK [])) fun ps H2 => H2 p = some (.dK []) ∧ ∃ kvs : List (Key × V), ps = kvs.map (fun kv => (kV kv.1, kv.2)) ∧ kvs.length ≤ 15 ∧ Q (.ref p) (upd H2 p (.dK (mergeK [] kvs)))
theorem pe_disp {X : Cx} {pos : Pos} {keys : List (Option Expr)} {values : List Expr} {trs : List (TE × TE)} (h : PPs X pos keys values trs) (hall : keys.all (·.isSome) = true) (hl : keys.length = values.length) (h0 : keys ≠ [])
    (h15 : keys.length ≤ 15) : PE X (.Dict keys values pos) (tDisp trs) := by
  intro pins s σ H Q I q
  have hn := I.hok.fresh (Nat.le_refl s.heap.objs.size)
  have I1 := I.laid (a := s.heap.objs.size) (o := .dK []) (h' := s.heap.push { cls := .type "dict", data := .dict #[] }) (t' := s.toks) (fun _ _ q => Heap.get?_push_of_some _ q) (Nat.le_refl _) (dk_empty s.heap I.big)
  refine wpAny_Dict_walk (knd := mixKind X.prog X.w) hall hl h0 h15 (thn (h pins _ σ _ _ I1 (q _ hn)) fun ws s2 ⟨ps, H2, I2, rel, e, kvs, ep, lk, q2⟩ => ?_)
  subst ep
  obtain ⟨rs, c, rk⟩ := carries_of (P := X.prog) (w := X.w) rel
  obtain ⟨z, hd, vs0, r0, dd⟩ := dk_of I2.hok e
  cases r0
  refine ⟨rs, c, dd, fun h' dd' hs => ⟨.ref s.heap.objs.size, _, ?_, rfl, q2⟩⟩
  have hz : (mergeK [] kvs).length ≤ sizeLine := by
    have h1 := length_mergeK kvs []
    rw [List.length_nil] at h1
    rw [sizeLine_eq]; omega
  have he : ∃ q, h'.get? s.heap.objs.size = some q := let ⟨q, _, _, hq, _⟩ := dd'; ⟨q, hq⟩
  exact d_write I2 (by rw [e]; exact True.intro) hs he (dk_new hz hd (rk.merge .nil) dd')


/-! ### methods -/
/-- a method call o.m(e) of a built-in, with one argument: what must be seen of the text -/
structure M1 (X : Cx) (o : Expr) (m : Str) (apos : Pos) (e : Expr) (cpos : Pos) : Prop where
  base : attributeBase o m X.env (eval o X.env) = eval o X.env
  few : ((backTo cpos (starEach [e] X.env)).all (fun x => !x.1) && (backToKw cpos (keywordEach [] X.env)).all (fun x => x.1.isSome)
    && decide (([e] : List Expr).length + ([] : List Keyword).length + (if ([] : List Keyword).isEmpty then 0 else 1) < 30)) = true
  line : (apos.endLine == cpos.line) = true
  trees : backTo cpos (starEach [e] X.env) = [(false, eval e X.env)]
structure M2 (X : Cx) (o : Expr) (m : Str) (apos : Pos) (e f : Expr) (cpos : Pos) : Prop where
  base : attributeBase o m X.env (eval o X.env) = eval o X.env
  few : ((backTo cpos (starEach [e, f] X.env)).all (fun x => !x.1) && (backToKw cpos (keywordEach [] X.env)).all (fun x => x.1.isSome)
    && decide (([e, f] : List Expr).length + ([] : List Keyword).length + (if ([] : List Keyword).isEmpty then 0 else 1) < 30)) = true
  line : (apos.endLine == cpos.line) = true
  trees : backTo cpos (starEach [e, f] X.env) = [(false, eval e X.env), (false, eval f X.env)]

/-- a is a dict, whatever its keys -/
def IsD (H : Hp) (a : Addr) : Prop := (∃ kvs, Rd H a (.dK kvs)) ∨ ∃ kvs, Rd H a (.dT kvs)
theorem isD_at {X : Cx} {pins : List (Addr × Obj)} {σ : St} {H : Hp} {s : Shared} {a : Addr} (I : Inv X pins σ H s) (d : IsD H a) :
    s.TypeIs (.ref a) "dict" ∧ (∀ b, Value.ref a = .ref b → ∃ ob, s.heap.get? b = some ob ∧ ob.dict = none) ∧ (a == sysModules) = false := by
  rcases d with ⟨kvs, e⟩ | ⟨kvs, e⟩
  · obtain ⟨_, hd, vs, _, dd⟩ := dk_rd I.hok e
    refine ⟨dd.typeIs, fun b q => ?_, hd⟩
    cases q
    obtain ⟨ob, _, _, h1, h2, _⟩ := dd
    exact ⟨ob, h1, h2.2.1⟩
  · obtain ⟨_, hd, xs, _, dd⟩ := dt_rd I.hok e
    refine ⟨dd.typeIs, fun b q => ?_, hd⟩
    cases q
    obtain ⟨ob, _, _, h1, h2, _⟩ := dd
    exact ⟨ob, h1, h2.2.1⟩

section
variable {X : Cx} {pins : List (Addr × Obj)} {σ : St} {H : Hp} {s : Shared} {a : Addr} {y d : V} {u r : Value} {o : Option V} {A : Around} {E : Value → Shared → Prop}
/-- d.get(y) -/
theorem d_get1 {Q : Value → Shared → Prop} (hu : A.units + 1 < cLine) (I : Inv X pins σ H s) (g : DGet H a y o) (ry : RelV y u) (h : ∀ w' s', Inv X pins σ H s' → RelV (o.getD .non) w' → Q w' s') :
    wpAny (model X.prog X.w) A (call (.builtin "dict.get") [.ref a, u]) Q E s := by
  rcases g with ⟨kvs, k, e, ey, l⟩ | ⟨kvs, k, b, e, ey, eb, l⟩
  · subst ey
    obtain ⟨z, hd, vs, rel, dd⟩ := dk_rd I.hok e
    refine call_meetsIn PySem.F.slot_dict_get dd.typeIs PySem.F.entry_dict_get (PySem.F.args_dict_get_2 _ _) (meets_dict_get (mixKind X.prog X.w) a (kV_is ry) hd) ⟨_, dd.mapOf, h _ _ (I.tok _) ?_⟩
    rw [l]
    exact (rel.val k).getD rfl
  · subst ey
    cases (show u = Value.ref b from ry)
    obtain ⟨z, hd, xs, rel, dd⟩ := dt_rd I.hok e
    refine call_meetsIn PySem.F.slot_dict_get dd.typeIs PySem.F.entry_dict_get (PySem.F.args_dict_get_2 _ _) (meetsH_dict_get (tupleKind (mixKind X.prog X.w)) a b hd) ⟨tupleKind_room_in1 hu, k, xs, key_of I.hok eb, dd, h _ _ (I.tok _) ?_⟩
    rw [l]
    exact (rel.val k).getD rfl
/-- d.get(y, x) -/
theorem d_get2 {Q : Value → Shared → Prop} (hu : A.units + 1 < cLine) (I : Inv X pins σ H s) (g : DGet H a y o) (ry : RelV y u) (rd : RelV d r) (h : ∀ w' s', Inv X pins σ H s' → RelV (o.getD d) w' → Q w' s') :
    wpAny (model X.prog X.w) A (call (.builtin "dict.get") [.ref a, u, r]) Q E s := by
  rcases g with ⟨kvs, k, e, ey, l⟩ | ⟨kvs, k, b, e, ey, eb, l⟩
  · subst ey
    obtain ⟨z, hd, vs, rel, dd⟩ := dk_rd I.hok e
    refine call_meetsIn PySem.F.slot_dict_get dd.typeIs PySem.F.entry_dict_get (PySem.F.args_dict_get_3 _ _ _) (meets_dict_get_default (mixKind X.prog X.w) a (kV_is ry) hd r) ⟨_, dd.mapOf, h _ _ (I.tok _) ?_⟩
    rw [l]
    exact (rel.val k).getD rd
  · subst ey
    cases (show u = Value.ref b from ry)
    obtain ⟨z, hd, xs, rel, dd⟩ := dt_rd I.hok e
    refine call_meetsIn PySem.F.slot_dict_get dd.typeIs PySem.F.entry_dict_get (PySem.F.args_dict_get_3 _ _ _) (meetsH_dict_get_default (tupleKind (mixKind X.prog X.w)) a b hd r) ⟨tupleKind_room_in1 hu, k, xs, key_of I.hok eb, dd, h _ _ (I.tok _) ?_⟩
    rw [l]
    exact (rel.val k).getD rd
end

def tDGet1 (td ty : TE) : TE := fun σ H Q => td σ H fun x H1 => ∃ a, x = .ref a ∧ IsD H1 a ∧ ty σ H1 fun y H2 => ∃ o, DGet H2 a y o ∧ Q (o.getD .non) H2
def tDGet2 (td ty tx : TE) : TE := fun σ H Q => td σ H fun x H1 => ∃ a, x = .ref a ∧ IsD H1 a ∧ ty σ H1 fun y H2 => tx σ H2 fun z H3 => ∃ o, DGet H3 a y o ∧ Q (o.getD z) H3
section
variable {X : Cx} {o e f : Expr} {apos cpos : Pos} {td ty tx : TE}
theorem pe_dget1 (hu : X.A.units + 1 < cLine) (ho : PE X o td) (he : PE X e ty) (m : M1 X o "get" apos e cpos) : PE X (.Call (.Attribute o "get" apos) [e] [] cpos) (tDGet1 td ty) := by
  intro pins s σ H Q I h
  refine wpAny_Call_method m.base m.few m.line PySem.F.plainAttrs_dict PySem.F.slot_dict_get PySem.F.type_dict_get (thn (ho pins s σ H _ I h) fun u s1 ⟨x, H1, I1, rx, a, ex, d, q1⟩ => ?_)
  subst ex
  obtain rfl : u = Value.ref a := rx
  obtain ⟨t1, t2, _⟩ := isD_at I1 d
  refine ⟨t1, t2, ?_⟩
  rw [m.trees]
  refine Calls.callWith_builtin rfl (Calls.evalArgs_plain (Calls.spliced_cons (thn (he pins s1 σ H1 _ I1 q1) fun iv s2 ⟨y, H2, I2, ry, ov, g, q2⟩ => Calls.spliced_nil ?_)))
  exact d_get1 hu I2 g ry fun w' s3 I3 rw' => ⟨_, H2, I3, rw', q2⟩
theorem pe_dget2 (hu : X.A.units + 1 < cLine) (ho : PE X o td) (he : PE X e ty) (hf : PE X f tx) (m : M2 X o "get" apos e f cpos) : PE X (.Call (.Attribute o "get" apos) [e, f] [] cpos) (tDGet2 td ty tx) := by
  intro pins s σ H Q I h
  refine wpAny_Call_method m.base m.few m.line PySem.F.plainAttrs_dict PySem.F.slot_dict_get PySem.F.type_dict_get (thn (ho pins s σ H _ I h) fun u s1 ⟨x, H1, I1, rx, a, ex, d, q1⟩ => ?_)
  subst ex
  obtain rfl : u = Value.ref a := rx
  obtain ⟨t1, t2, _⟩ := isD_at I1 d
  refine ⟨t1, t2, ?_⟩
  rw [m.trees]
  refine Calls.callWith_builtin rfl (Calls.evalArgs_plain (Calls.spliced_cons (thn (he pins s1 σ H1 _ I1 q1) fun iv s2 ⟨y, H2, I2, ry, q2⟩ =>
    Calls.spliced_cons (thn (hf pins s2 σ H2 _ I2 q2) fun fv s3 ⟨z, H3, I3, rz, ov, g, q3⟩ => Calls.spliced_nil ?_))))
  exact d_get2 hu I3 g ry rz fun w' s4 I4 rw' => ⟨_, H3, I4, rw', q3⟩
end

/-! ### dict(d): a copy -/
section
variable {X : Cx} {pins : List (Addr × Obj)} {σ : St} {H : Hp} {s : Shared} {a : Addr} {kvs : List (Key × V)} {A : Around} {E : Value → Shared → Prop}
end


section
variable {X : Cx} {pins : List (Addr × Obj)} {σ : St} {H : Hp} {s : Shared} {a : Addr} {y : V} {u : Value} {A : Around} {E : Value → Shared → Prop}
end
end L2
set_option Elab.async false
set_option linter.all false
set_option maxRecDepth 100000
set_option maxHeartbeats 4000000
namespace L2
open PySem PySem.Spec PyProof.Rows PySem.Builtin PySem.Builtin.Str
section
variable {X : Cx}
/-! ### any of a list of truths: some truth -/
/-! ### xs.count(x): some number -/
/-! ### any tuple's slice -/
end
end L2
namespace L3
open PySem PyProof.Rows L2
section
variable {X : Cx} {o i : Expr} {pos : Pos} {td ty : TE}
theorem pe_dget (hu : X.A.units + 1 < cLine) (ho : LE X o td) (hi : LE X i ty) (hs : NoSl i := by intro _ _; rfl) : LE X (.Subscript o i pos) (tDGet td ty) := .mk (L2.pe_dget hu ho.out hi.out hs)
end
end L3
set_option Elab.async false
set_option linter.all false
set_option maxRecDepth 100000
set_option maxHeartbeats 4000000
namespace GS
open PySem L2 PyProof.Rows
section
variable {X : Cx}
/-! ### isinstance of data -/
end
end GS
set_option Elab.async false
set_option linter.all false
set_option maxRecDepth 100000
set_option maxHeartbeats 4000000
namespace L2
open PySem PySem.Spec PyProof.Rows PySem.Builtin PySem.Builtin.Str
/-! ### enumerate of a list, walked -/
section
variable {X : Cx} {elts : List Expr} {x1 : Nat} {tpos : Pos}
end
section
variable {X : Cx}
end
end L2
set_option Elab.async false
set_option linter.all false
set_option maxRecDepth 100000
set_option maxHeartbeats 4000000
namespace L2
open PySem PySem.Spec PyProof.Rows
section
variable {X : Cx} {o e : Expr} {td ty : TE} {apos cpos : Pos}
/-! ### d.update(c), both with keys ints and texts -/
end
end L2
set_option Elab.async false
set_option linter.all false
set_option maxRecDepth 100000
set_option maxHeartbeats 4000000
namespace L3
open PySem PyProof.Rows L2
section
variable {X : Cx} {pos apos cpos : Pos} {k v o e f a b c : Expr} {ks : List (Option Expr)} {vs : List Expr} {tk tv td ty tx ta tb tc : TE} {trs : List (TE × TE)}
@[irreducible] def LPs (X : Cx) (pos : Pos) (ks : List (Option Expr)) (vs : List Expr) (trs : List (TE × TE)) : Prop := PPs X pos ks vs trs
theorem LPs.mk (h : PPs X pos ks vs trs) : LPs X pos ks vs trs := by unfold LPs; exact h
theorem LPs.out (h : LPs X pos ks vs trs) : PPs X pos ks vs trs := by unfold LPs at h; exact h
theorem pps_nil : LPs X pos [] [] [] := .mk L2.pps_nil
theorem pps_cons (hk : LE X k tk) (hv : LE X v tv) (hr : LPs X pos ks vs trs) : LPs X pos (some k :: ks) (v :: vs) ((tk, tv) :: trs) := .mk (L2.pps_cons hk.out hv.out hr.out)
theorem pe_disp (h : LPs X pos ks vs trs) (hall : ks.all (·.isSome) = true := by rfl) (hl : ks.length = vs.length := by rfl) (h0 : ks ≠ [] := by simp) (h15 : ks.length ≤ 15 := by decide) : LE X (.Dict ks vs pos) (tDisp trs) := .mk (L2.pe_disp h.out hall hl h0 h15)
theorem pe_dget2 (hu : X.A.units + 1 < cLine) (ho : LE X o td) (he : LE X e ty) (hf : LE X f tx) (m : M2 X o "get" apos e f cpos := by exact ⟨rfl, rfl, rfl, rfl⟩) : LE X (.Call (.Attribute o "get" apos) [e, f] [] cpos) (tDGet2 td ty tx) := .mk (L2.pe_dget2 hu ho.out he.out hf.out m)
end
end L3
set_option Elab.async false
set_option linter.all false
set_option maxRecDepth 100000
set_option maxHeartbeats 4000000
namespace GS
open PySem PySem.Spec PyProof.Rows
theorem list_keys_none : typeLookup (.type "list") "keys" = pure none := by rw [typeLookup_type, builtinLookup_eq_fast]; kernel_rfl
theorem getAttrQ_list {prog : Program} {w : World} {A : Around} {E : Value → Shared → Prop} {s : Shared} {a : Addr} {o : Obj} {xs : Array Value} {k : Nat} {Q : Option Value → Shared → Prop}
    (hx : s.heap.get? a = some o) (hc : o.cls = .type "list") (hdat : o.data = .seq xs k) (hd : o.dict = none) (hA : A.handled = none)
    (h : ∀ h' tk, (∀ b ob, s.heap.get? b = some ob → h'.get? b = some ob) → Q none { s with heap := h', toks := tk }) : wpAny (model prog w) A (getAttr? (.ref a) "keys") Q E s := by
  obtain ⟨c, dct, dat, sl⟩ := o
  simp only at hc hdat hd
  subst hc hdat hd
  obtain ⟨hp, g, d, tk, os⟩ := s
  have hT : ∀ tk', (⟨hp, g, d, tk', os⟩ : Shared).TypeIs (.ref a) "list" := fun _ => ⟨_, hx, rfl⟩
  have f1 := sub_AttributeError
  have f3 := F.slot_list_getattribute.lookup
  have f4 := F.slot_list_getattribute.bind (.ref a)
  have f5 := am_list_getattr_none
  unfold getAttr? getAttrBy? getAttrBy
  repeat (any_goals (first | assumption | exact hT _ | ((with_reducible show wpAny _ _ (call (Value.builtin "list.__getattribute__") _ _) _ _ _); refine call_meets F.slot_list_getattribute (hT _) am_entry_list_getattribute (F.args_list_getattribute_2 _ _) (meets_getattribute_miss_list a xs k sl "keys" _ list_keys_none (by decide +kernel)) ⟨hx, hA, fun h' tk' e hx' => ?_⟩) | wp_step))
  obtain ⟨t', u', he⟩ := hx'.there
  show wpAny _ _ (getattributeRaised _ _ _ _ _ _ _) _ _ _
  unfold getattributeRaised
  repeat (any_goals (first | assumption | wp_step))
  exact h _ _ hx'.keeps
theorem entry_dict_loop : entryFor table "dict.update.loop" = some Builtin.«dict.update.loop» := entryFor_of_tree (by kernel_rfl)
theorem plain_dict_loop : plainId "dict.update.loop" = true := by decide +kernel
/-- the dict of the first i pairs -/
def firstP (kv : Nat → L2.Key × Value) (i : Nat) : List (L2.Key × Value) := merged [] ((List.range i).map kv)
theorem firstP_succ (kv : Nat → L2.Key × Value) (i : Nat) : firstP kv (i + 1) = stored (firstP kv i) (kv i).1 (kv i).2 := by
  unfold firstP merged
  rw [List.range_succ, List.map_append, List.foldl_append]
  rfl
theorem stored_len (kvs : List (L2.Key × Value)) (k : L2.Key) (v : Value) : (stored kvs k v).length ≤ kvs.length + 1 := by
  unfold stored
  split
  · rw [List.length_map]; omega
  · rw [List.length_append, List.length_singleton]; exact Nat.le_refl _
theorem firstP_len (kv : Nat → L2.Key × Value) : ∀ i, (firstP kv i).length ≤ i
  | 0 => Nat.le_refl _
  | i + 1 => by
    rw [firstP_succ]
    have h1 := stored_len (firstP kv i) (kv i).1 (kv i).2
    have h2 := firstP_len kv i
    omega
section
variable {prog : Program} {w : World} {A : Around} {R : Result → Shared → Prop} {I : Addr} {fp wr : List Addr} {n : Nat} {P : Nat → Value → Prop} {St : Nat → Heap → Prop}
theorem codeAny_dict_loop (W : Walks prog w A.in1 I fp wr n P St) (d : Addr) (hdf : d ∉ fp) (kv : Nat → L2.Key × Value) (pr : Nat → Addr) (ks : Nat → Value) (hP : ∀ i v, i < n → P i v → v = .ref (pr i)) (hk : ∀ i, i < n → (L2.mixKind prog w).is (kv i).1 (ks i) = true)
    (hpd : ∀ i, i < n → pr i ≠ d ∧ pr i ∉ wr) (hz : n ≤ sizeLine) :
    ∀ (k i : Nat) (s : Shared) (t : Tok), n - i = k → i ≤ n → St i s.heap → s.heap.DictOf (L2.mixKind prog w) d (firstP kv i) → (∀ j, j < n → IsTup s.heap (pr j) #[ks j, (kv j).2]) →
      (∀ h' tk, (∀ b o, b ≠ d → b ∉ wr → s.heap.get? b = some o → h'.get? b = some o) → h'.DictOf (L2.mixKind prog w) d (firstP kv n) → R (.ok (.ret .none)) { s with heap := h', toks := tk }) →
      codeAny (model prog w) A (.builtin "dict.update.loop" ⟨[.ref d, .ref I, .int (i : Nat) t, .none], []⟩) R s := by
  have hdw : d ∉ wr := fun h => hdf (W.sub _ h)
  intro k
  induction k with
  | zero =>
    intro i s t hki hi hst hD hT hR
    have hin : i = n := by omega
    subst hin
    refine codeAny_builtin entry_dict_loop ?_
    rw [Around.under_plainId plain_dict_loop _]
    show wpAny _ A.in1 (pyNext (.ref I) >>= _) _ _ s
    refine wpAny_bind (W.done s _ _ hst fun h' tk hm => ?_)
    show wpAny _ A.in1 (Builtin.Dict.addKeywords d [] >>= _) _ _ _
    exact wpAny_bind (wpAny_pure (wpAny_pure (hR h' tk (fun b o _ hb e => hm b o hb e) (by
      obtain ⟨o, es, ep, ho, rest⟩ := hD
      exact ⟨o, es, ep, hm d _ hdw ho, rest⟩))))
  | succ k ih =>
    intro i s t hki hi hst hD hT hR
    have hlt : i < n := by omega
    refine codeAny_builtin entry_dict_loop ?_
    rw [Around.under_plainId plain_dict_loop _]
    show wpAny _ A.in1 (pyNext (.ref I) >>= _) _ _ s
    refine wpAny_bind (W.item i s _ _ hlt hst fun v h' tk hPv hst' hm => ?_)
    have ev := hP i v hlt hPv
    subst ev
    have hD' : h'.DictOf (L2.mixKind prog w) d (firstP kv i) := by
      obtain ⟨o, es, ep, ho, rest⟩ := hD
      exact ⟨o, es, ep, hm d _ hdw ho, rest⟩
    have hT' : ∀ j, j < n → IsTup h' (pr j) #[ks j, (kv j).2] := fun j hj => by
      obtain ⟨o, ho, rest⟩ := hT j hj
      exact ⟨o, hm _ _ (hpd j hj).2 ho, rest⟩
    obtain ⟨o, ho, hoc, m, hod⟩ := id (hT' i hlt)
    have hTy : (⟨h', s.gens, s.drawn, tk, s.os⟩ : Shared).TypeIs (.ref (pr i)) "tuple" := ⟨o, ho, hoc⟩
    refine wpAny_bind (wpAny_holding (wpAny_bind ?_))
    refine wpAny_tryCatch ?_
    unfold Builtin.Dict.pairItems
    refine wpAny_bind (wpAny_typeOf hTy ?_)
    rw [if_pos (by decide)]
    refine wpAny_bind (wpAny_seqItems ho hod ?_)
    refine wpAny_pure ?_
    show wpAny _ A.in1 (holding [ks i, (kv i).2] (dictSet d (ks i) (kv i).2)) _ _ _
    refine wpAny_holding (wpAny_dictSet_pairs (hk i hlt) hD' (fun h2 hD2 hsb => ?_) (Nat.le_trans (firstP_len kv i) (by omega)))
    rw [← firstP_succ] at hD2
    refine wpAny_pure ⟨plainId_quiet plain_dict_loop _, ?_⟩
    have hcast : ((i : Nat) : Int) + 1 = ((i + 1 : Nat) : Int) := by omega
    rw [hcast]
    refine ih (i + 1) _ _ (by omega) hlt (W.frame _ _ _ hst' fun b hb o e => ?_) hD2 (fun j hj => ?_) fun h3 tk3 hk3 hD3 => ?_
    · rw [hsb.2 b (fun h : b = d => hdf (by rw [← h]; exact hb))]; exact e
    · obtain ⟨o, ho, rest⟩ := hT' j hj
      exact ⟨o, (hsb.2 _ (hpd j hj).1).trans ho, rest⟩
    · exact hR h3 tk3 (fun b o hb hbw e => hk3 b o hb hbw ((hsb.2 b hb).trans (hm b o hbw e))) hD3
end
open L2
theorem vals_refs : ∀ {ps : List Addr} {its : List Value}, Vals (ps.map V.ref) its → its = ps.map Value.ref
  | [], _, h => by rw [List.map_nil] at h; cases h; rfl
  | p :: ps, _, h => by
    rw [List.map_cons] at h
    cases h with
    | cons a b => rw [vals_refs b, show _ = Value.ref p from a]; rfl
theorem kv_range {kvs : List (Key × V)} {g : Nat → Key × Value} (h : ∀ i kv, kvs[i]? = some kv → kv.1 = (g i).1 ∧ RelV kv.2 (g i).2) : KV kvs ((List.range kvs.length).map g) := by
  induction kvs generalizing g with
  | nil => exact .nil
  | cons a r ih =>
    rw [List.length_cons, List.range_succ_eq_map, List.map_cons, List.map_map]
    exact .cons (h 0 a rfl) (ih fun i kv e => h (i + 1) kv e)
section
variable {X : Cx}
theorem call_dictP (hc : X.calm = true) : CallR X (.type "dict") (fun xs H Q => ∃ (p : Addr) (ps : List Addr) (kvs : List (Key × V)), xs = [.ref p] ∧ SqL X.K H p (ps.map V.ref) ∧ ps.length = kvs.length ∧ (∀ (i : Nat) (a : Addr) (kv : Key × V), ps[i]? = some a → kvs[i]? = some kv → SqT X.K H a [kV kv.1, kv.2]) ∧ kvs.length ≤ sizeLine ∧
    ∀ l, H l = none → Q (.ref l) (upd H l (.dK (mergeK [] kvs)))) := by
  intro pins s σ H xs us Q I r h
  obtain ⟨p, ps, kvs, rfl, hq, hlen, hT, hz, q⟩ := h
  obtain ⟨u, rfl, ru⟩ := vals1 r
  cases ru
  obtain ⟨its, rv, pl, hzz⟩ := I.list hq
  have ei := vals_refs rv
  subst ei
  have hpl : p < s.heap.objs.size := let ⟨o, n, e, _⟩ := pl; Heap.lt_size e
  have hex : ∀ i : Nat, ∃ y : Addr × (Key × Value) × Value, i < kvs.length → ps[i]? = some y.1 ∧ (∀ kv, kvs[i]? = some kv → kv.1 = y.2.1.1 ∧ RelV kv.2 y.2.1.2) ∧ (mixKind X.prog X.w).is y.2.1.1 y.2.2 = true ∧ IsTup s.heap y.1 #[y.2.2, y.2.1.2] := fun i => by
    by_cases hi : i < kvs.length
    · have hi2 : i < ps.length := by omega
      obtain ⟨its2, r2, p2, _⟩ := I.tuple (hT i ps[i] kvs[i] (by simp [hi2]) (by simp [hi]))
      cases r2 with
      | @cons _ u1 _ us1 a1 b1 =>
        cases b1 with
        | @cons _ u2 _ us2 a2 b2 =>
          cases b2
          refine ⟨(ps[i], (kvs[i].1, u2), u1), fun _ => ⟨by simp [hi2], fun kv e => ?_, kV_is a1, p2⟩⟩
          have : kvs[i] = kv := by simpa [hi] using e
          rw [← this]; exact ⟨rfl, a2⟩
    · exact ⟨(0, (.inl 0, .none), .none), fun z => absurd z hi⟩
  obtain ⟨y, hy⟩ := Classical.axiomOfChoice hex
  refine callType_codes (Q₁ := fun obj s₁ => obj = .ref s.heap.objs.size ∧ s₁ = { s with heap := s.heap.push { cls := .type "dict", data := .dict #[] } }) F.kt_called_dict (F.kt_typeCall_dict_1 _) F.entry_dict_init (kt_code_dict_new _ ⟨rfl, rfl⟩) ?_
  rintro obj s₁ ⟨rfl, rfl⟩
  have hnew : (s.heap.push { cls := .type "dict", data := .dict #[] }).DictOf (mixKind X.prog X.w) s.heap.objs.size [] := Heap.DictOf.new s.heap
  refine ⟨hnew.typeIs, F.args_dict_init_2 _ _, ?_⟩
  unfold Builtin.«dict.__init__»
  refine wpAny_bind ?_
  unfold Builtin.Dict.selfAndRest
  refine wpAny_bind (wpAny_notOrdered_dict hnew.typeIs ?_)
  show wpAny _ _ (pure (s.heap.objs.size, [Value.ref p])) _ _ _
  refine wpAny_pure ?_
  show wpAny _ _ (Builtin.Dict.updateFrom "dict.__init__" s.heap.objs.size (.ref p) [] .none) _ _ _
  unfold Builtin.Dict.updateFrom
  obtain ⟨o, nn, e, hoc, hod⟩ := id pl
  have e1 : (s.heap.push { cls := .type "dict", data := .dict #[] }).get? p = some o := Heap.get?_push_of_some _ e
  refine wpAny_bind (wpAny_typeOf (T := "list") ⟨o, e1, hoc⟩ ?_)
  rw [if_pos (by decide)]
  have hd0 := I.ok.hd hc
  refine wpAny_bind (getAttrQ_list (xs := (ps.map Value.ref).toArray) (k := nn) e1 hoc hod.2 hod.1 hd0 fun h1 tk1 hk1 => ?_)
  show wpAny _ _ (rule _ >>= _) _ _ _
  have e2 : h1.get? p = some o := hk1 _ _ e1
  have hL : h1.IsList p (ps.map Value.ref).toArray := ⟨o, e2, hoc, nn, hod.2⟩
  refine wpAny_bind (wpAny_rule (wpAny_bind (wpAny_pyIter_list (s := ⟨h1, s.gens, s.drawn, tk1, s.os⟩) hL ?_)))
  have hsz : s.heap.objs.size < h1.objs.size := by
    obtain ⟨o', _, _, ho', _⟩ := hnew
    exact Heap.lt_size (hk1 _ _ ho')
  refine wpAny_pure ⟨plainId_quiet plain_dict_loop _, ?_⟩
  have hn1 : (ps.map Value.ref).toArray.size = kvs.length := by rw [List.size_toArray, List.length_map]; exact hlen
  have keep : ∀ b ob, s.heap.get? b = some ob → (h1.push { cls := .type "list_iterator", data := .fields #[.ref p, .int 0 0] }).get? b = some ob := fun b ob hb => Heap.get?_push_of_some _ (hk1 _ _ (Heap.get?_push_of_some _ hb))
  have hpI : p ≠ h1.objs.size := Nat.ne_of_lt (Nat.lt_trans hpl hsz)
  have hold : ∀ {b ob}, s.heap.get? b = some ob → b ≠ s.heap.objs.size ∧ b ∉ [h1.objs.size] := fun {b ob} hb => by
    have := Heap.lt_size hb
    exact ⟨Nat.ne_of_lt this, fun m => by rw [List.mem_singleton] at m; exact Nat.lt_asymm hsz (m ▸ this)⟩
  have hd2 : X.A.in1.in1.handled = none := hd0
  refine codeAny_dict_loop (A := X.A.in1) (Walks.list (A := X.A.in1.in1) hd2 h1.objs.size p hpI (ps.map Value.ref).toArray) s.heap.objs.size (fun m => ?m1) (fun i => (y i).2.1) (fun i => (y i).1) (fun i => (y i).2.2) (fun i v hi hv => ?m2) (fun i hi => (hy i (by rw [← hn1]; exact hi)).2.2.1) (fun i hi => ?m3) (by rw [hn1]; exact hz) _ 0 _ 0 rfl (Nat.zero_le _) ⟨?m4, ?m5⟩ ?m6 (fun j hj => ?m7) (fun h' tk hk hD => ?m8)
  case m1 =>
    simp only [List.mem_cons, List.not_mem_nil, or_false] at m
    rcases m with m | m
    · exact Nat.ne_of_lt hsz m
    · exact Nat.ne_of_lt hpl m.symm
  case m2 =>
    have hi' : i < kvs.length := by rw [← hn1]; exact hi
    have h1' := (hy i hi').1
    have : (ps.map Value.ref)[i]? = some v := by simpa using hv
    rw [List.getElem?_map, h1'] at this
    simpa using this.symm
  case m3 =>
    obtain ⟨_, _, _, o', ho', _⟩ := hy i (by rw [← hn1]; exact hi)
    exact hold ho'
  case m4 => exact ⟨_, Heap.get?_push_size _ rfl, rfl, rfl⟩
  case m5 => exact ⟨o, Heap.get?_push_of_some _ e2, hoc, nn, hod.2⟩
  case m6 =>
    obtain ⟨o', es, ep, ho', rest⟩ := hnew
    exact ⟨o', es, ep, Heap.get?_push_of_some _ (hk1 _ _ ho'), rest⟩
  case m7 =>
    obtain ⟨_, _, _, o', ho', rest⟩ := hy j (by rw [← hn1]; exact hj)
    exact ⟨o', keep _ _ ho', rest⟩
  case m8 =>
    have rel : KV kvs ((List.range kvs.length).map fun i => (y i).2.1) := kv_range fun i kv e => (hy i (List.getElem?_eq_some_iff.mp e).1).2.1 kv e
    have hD' : h'.DictOf (mixKind X.prog X.w) s.heap.objs.size (merged [] ((List.range kvs.length).map fun i => (y i).2.1)) := by
      have : firstP (fun i => (y i).2.1) (ps.map Value.ref).toArray.size = merged [] ((List.range kvs.length).map fun i => (y i).2.1) := by rw [hn1]; rfl
      rw [← this]; exact hD
    have hz2 : (mergeK [] kvs).length ≤ sizeLine := Nat.le_trans (length_mergeK kvs []) (by simpa using hz)
    refine ⟨rfl, .ref s.heap.objs.size, _, I.laid (a := s.heap.objs.size) (o := .dK (mergeK [] kvs)) (h' := h') (t' := tk) (fun b u hb => ?_) (Nat.le_refl _) (dk_new hz2 (beq_eq_false_iff_ne.mpr (Ne.symm (Nat.ne_of_lt I.big))) (rel.merge .nil) hD'), rfl, q _ (I.hok.fresh (Nat.le_refl _))⟩
    exact hk b u (hold hb).1 (hold hb).2 (keep _ _ hb)
end
end GS
set_option Elab.async false
set_option linter.all false
set_option maxRecDepth 100000
set_option maxHeartbeats 4000000
namespace GS
open PySem PyProof.Rows L2
/-- a class whose __init__ keeps a promise -/
structure MkDef (P : Program) (w : World) (K : PySem.W.Frag) (mg : Str → Option Value) (base : Heap) (name : Str) (C : Addr) (ps : List Str) (k : Nat) (sp : Sp) : Prop where
  ex : ∃ (f : Addr) (fd : FuncData), mg name = some (.ref C) ∧ Mk K C f ∧ Binds K fd ps [] ∧ FnOk P w K mg base CX0 k f fd ps sp
end GS
namespace L3
open PySem PyProof.Rows L2
section
variable {X : Cx} {e o value : Expr} {es : List Expr} {f : Str} {pos pos' p apos : Pos} {ta tv te : TE} {t : TA}
theorem pe_fld (he : LE X e ta) (hb : attributeBase e f X.env (eval e X.env) = eval e X.env := by rfl) : LE X (.Attribute e f pos) (tFld X.K ta f) := .mk (L2.pe_fld he.out hb)
theorem ps_fld (ha : LE X o ta) (hv : LE X value tv) (hs : swapsWith value (some (.Attribute o f pos')) pos.line X.env = pure false := by rfl) : LS X (.Assign [.Attribute o f pos'] value pos) (sFld X.K ta tv f) := .mk (L2.ps_fld ha.out hv.out hs)
theorem pe_mk {name : Str} {C : Addr} {ps : List Str} {k k' : Nat} {sp : Sp} (M : GS.MkDef X.prog X.w X.K X.mg X.base name C ps k sp) (hr : Room (k' + 1) X.A) (hk : k ≤ k') (hg : Gl X name) (ha : LA X (e :: es) t)
    (hdb : (name == ("__debug__" : Str)) = false := by decide) (he : starEach (e :: es) X.env = (false, eval e X.env) :: starEach es X.env := by rfl) (hpl : (backTo pos (starEach es X.env)).any (·.1) = false := by rfl) :
    LE X (.Call (.Name name p) (e :: es) [] pos) (tMake C sp [] E0 t) := by
  obtain ⟨f, fd, h1, h2, h3, h4⟩ := M.ex
  exact .mk (L2.pe_make h2 (h4.mono hk) hr hg h1 h3 .nil pass0 ha.out hdb he hpl)
end
end L3
set_option Elab.async false
set_option linter.all false
set_option maxRecDepth 100000
set_option maxHeartbeats 4000000
namespace GS
open PySem PyProof.Rows
open L2 hiding pe_int pe_bl pe_non pe_str pv pe_glob pe_op pe_cmpR pe_one pe_and pe_ifExp pe_ix po_none po_some pe_slice pa_nil pa_cons pe_lst pe_tup pe_dnewK pe_callB pe_callTy pe_bm pt_cmpR pt_val pt_not pw_and1 pw_or1 pw_and pw_or pg_name pgs_nil pgs_cons pg_tup pi_list pi_tup pi_range1 ps_ret ps_expr ps_set ps_asg ps_if ps_for pss_nil pss_cons pss_one
open L3
def topd (i : Nat) : Stmt := PySem.Challenge.pw_grassnake_k13_givers.main.body.getD i (.Pass ⟨0, 0, 0, 0⟩)
structure Glb9 (mg : Str → Option Value) : Prop where
  nAll : mg "all" = none
  nAny : mg "any" = none
  nBool : mg "bool" = none
  nDict : mg "dict" = none
  nEnum : mg "enumerate" = none
  nInt : mg "int" = none
  nIsi : mg "isinstance" = none
  nLen : mg "len" = none
  nList : mg "list" = none
  nMax : mg "max" = none
  nRange : mg "range" = none
  nSet : mg "set" = none
  nSort : mg "sorted" = none
  nStr : mg "str" = none
  nTuple : mg "tuple" = none
  nZip : mg "zip" = none
theorem b9Len : bootBuiltins "len" = some (.builtin "len") := by decide +kernel
theorem b9Isi : bootBuiltins "isinstance" = some (.builtin "isinstance") := by decide +kernel
theorem b9All : bootBuiltins "all" = some (.builtin "all") := by decide +kernel
theorem b9Tuple : bootBuiltins "tuple" = some (.type "tuple") := by decide +kernel
theorem b9List : bootBuiltins "list" = some (.type "list") := by decide +kernel
theorem b9Str : bootBuiltins "str" = some (.type "str") := by decide +kernel
/-! ### rows: a list, or a tuple -/
def RowAt (K : PySem.W.Frag) (H : Hp) (ds : List D) (v : V) : Prop := ∃ p vs, v = .ref p ∧ (SqL K H p vs ∨ SqT K H p vs) ∧ AtAll K H ds vs
theorem RowAt.same {K : PySem.W.Frag} {H H' : Hp} {ds : List D} {v : V} (s : Same H H') (h : RowAt K H ds v) : RowAt K H' ds v := by
  obtain ⟨p, vs, e, h1, h2⟩ := h
  exact ⟨p, vs, e, h1.imp (fun z => s.seq z) (fun z => Same.seqT s z), AtAll.same s _ _ h2⟩
/-! ### either walk -/
end GS
namespace L3
open PySem PyProof.Rows L2
section
variable {X : Cx} {pos : Pos}
theorem pe_fldK {K : PySem.W.Frag} {e : Expr} {f : Str} {ta : TE} (hK : X.K = K) (he : LE X e ta) (hb : attributeBase e f X.env (eval e X.env) = eval e X.env := by rfl) : LE X (.Attribute e f pos) (tFld K ta f) := by
  subst hK
  exact L3.pe_fld he hb
/-- what is never come to -/
theorem ps_dead {st : Stmt} : LS X st (fun _ _ _ => False) := .mk fun pins s σ H D I q => q.elim
theorem pe_dead {e : Expr} : LE X e (fun _ _ _ => False) := .mk fun pins s σ H D I q => q.elim
end
end L3
set_option Elab.async false
set_option linter.all false
set_option maxRecDepth 100000
set_option maxHeartbeats 4000000
namespace GS
open PySem PyProof.Rows
open L2 hiding pe_int pe_bl pe_non pe_str pv pe_glob pe_op pe_cmpR pe_one pe_and pe_ifExp pe_ix po_none po_some pe_slice pa_nil pa_cons pe_lst pe_tup pe_dnewK pe_callB pe_callTy pe_bm pt_cmpR pt_val pt_not pw_and1 pw_or1 pw_and pw_or pg_name pgs_nil pgs_cons pg_tup pi_list pi_tup pi_range1 ps_ret ps_expr ps_set ps_asg ps_if ps_for pss_nil pss_cons pss_one
open L3
/-! ### what a comprehension gathers -/
inductive Pairs (P : Nat → V → Prop) : List Nat → List V → Prop
  | nil : Pairs P [] []
  | cons {i : Nat} {v : V} {is : List Nat} {vs : List V} : P i v → Pairs P is vs → Pairs P (i :: is) (v :: vs)
theorem Pairs.snoc {P : Nat → V → Prop} {i : Nat} {v : V} (h : P i v) : ∀ {is : List Nat} {vs : List V}, Pairs P is vs → Pairs P (is ++ [i]) (vs ++ [v])
  | _, _, .nil => .cons h .nil
  | _, _, .cons h1 h2 => .cons h1 (h2.snoc h)
theorem Pairs.mono {P P' : Nat → V → Prop} (hp : ∀ i v, P i v → P' i v) : ∀ {is : List Nat} {vs : List V}, Pairs P is vs → Pairs P' is vs
  | _, _, .nil => .nil
  | _, _, .cons h1 h2 => .cons (hp _ _ h1) (h2.mono hp)
theorem Pairs.len {P : Nat → V → Prop} : ∀ {is : List Nat} {vs : List V}, Pairs P is vs → vs.length = is.length
  | _, _, .nil => rfl
  | _, _, .cons _ h2 => by rw [List.length_cons, List.length_cons, h2.len]
theorem Pairs.at {K : PySem.W.Frag} {H : Hp} {f : Nat → D} : ∀ {is : List Nat} {vs : List V}, Pairs (fun i v => At K H (f i) v) is vs → AtAll K H (is.map f) vs
  | _, _, .nil => AtAll_nil.mpr rfl
  | _, _, .cons h1 h2 => AtAll_cons.mpr ⟨_, _, rfl, h1, h2.at⟩
theorem Pairs.eq {f : Nat → V} : ∀ {is : List Nat} {vs : List V}, Pairs (fun i v => v = f i) is vs → vs = is.map f
  | _, _, .nil => rfl
  | _, _, .cons h1 h2 => by rw [List.map_cons, h1, h2.eq]
theorem range_getD {α : Type} (l : List α) (d : α) : (List.range l.length).map (fun i => l.getD i d) = l := by
  refine List.ext_getElem (by simp) fun i h1 h2 => ?_
  simp [List.getD_eq_getElem?_getD, h2]
theorem range_map {α β : Type} (l : List α) (d : α) (g : α → β) : (List.range l.length).map (fun i => g (l.getD i d)) = l.map g := by
  conv => rhs; rw [← range_getD l d]
  rw [List.map_map]; rfl
/-! ### all but one place -/
def wo (H : Hp) (D : Addr) : Hp := fun p => if p = D then none else H p
theorem wo_at {H : Hp} {D p : Addr} (h : p ≠ D) : wo H D p = H p := if_neg h
theorem wo_same (H : Hp) (D : Addr) : Same (wo H D) H := fun p o e => by
  unfold wo at e
  split at e
  · cases e
  · exact e
theorem wo_mono {H H' : Hp} (D : Addr) (s : Same H H') : Same (wo H D) (wo H' D) := fun p o e => by
  unfold wo at e ⊢
  split at e
  · cases e
  · rename_i h; rw [if_neg h]; exact s _ _ e
theorem wo_upd (H : Hp) (D : Addr) (o : HO) : wo (upd H D o) D = wo H D := by
  funext p
  unfold wo
  split
  · rfl
  · rename_i h; rw [upd_ne h]
section
variable {K : PySem.W.Frag} {H : Hp} {D' : Addr}
theorem SqT.wo {p : Addr} {vs l : List V} (hD : H D' = some (.lst l)) (h : SqT K H p vs) : SqT K (GS.wo H D') p vs := by
  rcases h with (h | ⟨o, h⟩) | h
  · refine .inl (.inl ?_)
    rw [wo_at (fun z => by rw [z, hD] at h; cases h)]
    exact h
  · refine .inl (.inr ⟨o, ?_⟩)
    rw [wo_at (fun z => by rw [z, hD] at h; cases h)]
    exact h
  · exact .inr h
mutual
theorem At.wo {l : List V} (hD : H D' = some (.lst l)) : ∀ (d : D) (v : V), At K H d v → At K (GS.wo H D') d v
  | .non, _, h => At_non.mpr (At_non.mp h)
  | .bl _, _, h => At_bl.mpr (At_bl.mp h)
  | .int _, _, h => At_int.mpr (At_int.mp h)
  | .str _, _, h => At_str.mpr (At_str.mp h)
  | .tup ds, _, h => by
    obtain ⟨p, vs, rfl, h1, h2⟩ := At_tup.mp h
    exact At_tup.mpr ⟨p, vs, rfl, SqT.wo hD h1, AtAll.wo hD ds vs h2⟩
theorem AtAll.wo {l : List V} (hD : H D' = some (.lst l)) : ∀ (ds : List D) (vs : List V), AtAll K H ds vs → AtAll K (GS.wo H D') ds vs
  | [], _, h => AtAll_nil.mpr (AtAll_nil.mp h)
  | d :: ds, _, h => by
    obtain ⟨v, r, rfl, h1, h2⟩ := AtAll_cons.mp h
    exact AtAll_cons.mpr ⟨v, r, rfl, At.wo hD d v h1, AtAll.wo hD ds r h2⟩
end
end
/-- a comprehension over what gives a known row of things, and that keeps all that stands -/
theorem compG_one {J : It} {tc : TT} {te : TE} {H : Hp} {R : Addr → Hp → Prop} {vs : List V} (n : Nat) (item : Nat → V) (b : Nat → Bool) (Pv : Nat → V → Hp → Prop) (hPs : ∀ i v H H', Same H H' → Pv i v H → Pv i v H') (hn : n ≤ 1000000)
    (hstop : ∀ H', Same H H' → J.stop n H') (hgo : ∀ i H', i < n → Same H H' → J.go i H') (hyld : ∀ i H1 x H2, i < n → Same H H1 → J.yld i H1 x H2 → x = item i ∧ H2 = H1)
    (htc : ∀ i H1 (Q' : Bool → Hp → Prop), i < n → Same H H1 → (∀ H2, Same H1 H2 → Q' (b i) H2) → tc (some (item i) :: vs.map some) H1 Q')
    (hte : ∀ i H1 D l (Q' : VK), i < n → b i = true → Same H H1 → H D = none → H1 D = some (.lst l) → (∀ v H2, Same H1 H2 → Pv i v (wo H2 D) → Q' v H2) → te (some (item i) :: vs.map some) H1 Q')
    (q : ∀ D H' ys, H D = none → Same H H' → H' D = some (.lst ys) → Pairs (fun i v => Pv i v (wo H' D)) ((List.range n).filter b) ys → R D H') :
    ∀ D, H D = none → ∃ W : Nat → Nat → List V → Hp → Prop, (∃ m, W 0 m [] (upd H D (.lst []))) ∧ ∀ i m ys H, W i m ys H →
      (J.stop i H ∧ R D H) ∨ (J.go i H ∧ ∀ x H' (ox : List (Option V)), ox.length = 1 → J.yld i H x H' → gName 0 x (ox ++ vs.map some) H' fun σ2 H2 => ∃ ox2, ox2.length = 1 ∧ σ2 = ox2 ++ vs.map some ∧ tc σ2 H2 fun b H3 =>
        if b = true then te σ2 H3 fun v H4 => H4 D = some (.lst ys) ∧ ys.length < sizeLine ∧ ∃ m', m' < m ∧ W (i + 1) m' (ys ++ [v]) (upd H4 D (.lst (ys ++ [v]))) else ∃ m', m' < m ∧ W (i + 1) m' ys H3) := by
  intro D hD
  refine ⟨fun i m ys H' => m = n - i ∧ i ≤ n ∧ Same H H' ∧ H' D = some (.lst ys) ∧ Pairs (fun i v => Pv i v (wo H' D)) ((List.range i).filter b) ys, ⟨n, rfl, Nat.zero_le _, same_new hD _, upd_same, .nil⟩, ?_⟩
  rintro i m ys H1 ⟨rfl, hi, sH, hDl, hP⟩
  by_cases hlt : i < n
  · refine .inr ⟨hgo i H1 hlt sH, fun x H' ox hox hy => ?_⟩
    obtain ⟨rfl, rfl⟩ := hyld i H1 x H' hlt sH hy
    obtain ⟨o, rfl⟩ : ∃ o, ox = [o] := by
      match ox, hox with
      | [o], _ => exact ⟨o, rfl⟩
    refine ⟨[some (item i)], rfl, rfl, htc i _ _ hlt sH fun H2 s2 => ?_⟩
    have hl := hP.len
    have hl2 : ((List.range i).filter b).length ≤ i := Nat.le_trans (List.length_filter_le ..) (by simp)
    have er : (List.range (i + 1)).filter b = (List.range i).filter b ++ (if b i = true then [i] else []) := by
      rw [List.range_succ, List.filter_append, List.filter_cons, List.filter_nil]
    cases hb : b i with
    | false =>
      refine iteF ⟨n - (i + 1), by omega, rfl, hlt, sH.trans s2, s2 _ _ hDl, ?_⟩
      rw [er, hb, if_neg Bool.false_ne_true, List.append_nil]
      exact hP.mono fun j v z => hPs _ _ _ _ (wo_mono D s2) z
    | true =>
      refine iteT (hte i H2 D ys _ hlt hb (sH.trans s2) hD (s2 _ _ hDl) fun v H3 s3 hv => ?_)
      have s4 := s2.trans s3
      refine ⟨s4 _ _ hDl, Nat.lt_of_lt_of_le (Nat.lt_succ_self _) (small (n := ys.length + 1) (by omega)), n - (i + 1), by omega, rfl, hlt, same_upd (sH.trans s4) hD _, upd_same, ?_⟩
      rw [er, hb, if_pos rfl, wo_upd]
      exact (hP.mono fun j v z => hPs _ _ _ _ (wo_mono D s4) z).snoc hv
  · have e : i = n := by omega
    subst e
    exact .inl ⟨hstop H1 sH, q D H1 ys hD sH hDl hP⟩
/-! ### the walks of a list and a tuple -/
section
variable {K : PySem.W.Frag} {H : Hp} {a : Addr} {xs : List V}
theorem itl_stop (h : SqL K H a xs) : ∀ H', Same H H' → (Itl K a).stop xs.length H' := fun H' s => ⟨xs, s.seq h, Nat.le_refl _⟩
theorem itl_go (h : SqL K H a xs) : ∀ i H', i < xs.length → Same H H' → (Itl K a).go i H' := fun i H' hi s => ⟨xs, xs[i], s.seq h, List.getElem?_eq_getElem hi⟩
theorem itl_yld (h : SqL K H a xs) : ∀ i H1 x H2, i < xs.length → Same H H1 → (Itl K a).yld i H1 x H2 → x = xs.getD i .non ∧ H2 = H1 := fun i H1 x H2 hi s hy => by
  obtain ⟨e, hy⟩ := hy
  refine ⟨?_, e⟩
  rw [List.getD_eq_getElem?_getD, hy xs (s.seq h)]; rfl
theorem itt_stop (h : SqT K H a xs) : ∀ H', Same H H' → (Itt K a).stop xs.length H' := fun H' s => ⟨xs, Same.seqT s h, Nat.le_refl _⟩
theorem itt_go (h : SqT K H a xs) : ∀ i H', i < xs.length → Same H H' → (Itt K a).go i H' := fun i H' hi s => ⟨xs, xs[i], Same.seqT s h, List.getElem?_eq_getElem hi⟩
theorem itt_yld (h : SqT K H a xs) : ∀ i H1 x H2, i < xs.length → Same H H1 → (Itt K a).yld i H1 x H2 → x = xs.getD i .non ∧ H2 = H1 := fun i H1 x H2 hi s hy => by
  obtain ⟨e, hy⟩ := hy
  refine ⟨?_, e⟩
  rw [List.getD_eq_getElem?_getD, hy xs (Same.seqT s h)]; rfl
end
theorem look1 {a : Str} {x c : Addr} {y : Str} (h : ([(a, x)] : List (Str × Addr)).lookup y = some c) : y = a ∧ c = x := by
  rw [List.lookup_cons] at h
  split at h
  · rename_i e; exact ⟨eq_of_beq e, by injection h with h; exact h.symm⟩
  · cases h
end GS
set_option Elab.async false
set_option linter.all false
set_option maxRecDepth 100000
set_option maxHeartbeats 4000000
namespace GS
open PySem PyProof.Rows
open L2 hiding pe_int pe_bl pe_non pe_str pv pe_glob pe_op pe_cmpR pe_one pe_and pe_ifExp pe_ix po_none po_some pe_slice pa_nil pa_cons pe_lst pe_tup pe_dnewK pe_callB pe_callTy pe_bm pt_cmpR pt_val pt_not pw_and1 pw_or1 pw_and pw_or pg_name pgs_nil pgs_cons pg_tup pi_list pi_tup pi_range1 ps_ret ps_expr ps_set ps_asg ps_if ps_for pss_nil pss_cons pss_one
open L3
/-! ### the classes of the store -/
structure ClD where
  F : Addr
  G : Addr
  M : Addr
  Kd : Addr
  O : Addr
  Gr : Addr
  W : Addr
/-- what isinstance asks of an object's class -/
structure OwnI (K : PySem.W.Frag) (D : Addr) : Prop where
  hg : PySem.W.plainGet K D "__class__" = true
  hd : PySem.W.hasDictIn K D = true
  ha : PySem.W.findIn K (.ref D) "__class__" = some (some (.builtin "object.__class__"))
  hn : PySem.W.specialIn K (.builtin "object.__class__") "__get__" = some (some (.builtin "getset_descriptor.__get__"))
  tk : PySem.W.takesIn K (.builtin "object.__class__") = some true
  hm : PySem.W.mroIn K D (.type "object") = some true
/-- what isinstance tells of a thing's class -/
structure KitD (K : PySem.W.Frag) (c : ClD) (C : Addr) (g k o r : Bool) : Prop where
  tG : PySem.W.kitOne K (.ref c.G) (.ref C) = some g
  tK : PySem.W.kitOne K (.ref c.Kd) (.ref C) = some k
  tO : PySem.W.kitOne K (.ref c.O) (.ref C) = some o
  tR : PySem.W.kitOne K (.ref c.Gr) (.ref C) = some r
  tN : PySem.W.kitOne K (.type "NoneType") (.ref C) = some false
structure CsD (K : PySem.W.Frag) (c : ClD) : Prop where
  kc : Cls K c.Kd
  k1 : NoAttr K c.Kd "name"
  k2 : NoAttr K c.Kd "order"
  k3 : NoAttr K c.Kd "fields"
  k4 : NoAttr K c.Kd "is_given"
  wc : Cls K c.W
  w1 : NoAttr K c.W "lines"
  w2 : NoAttr K c.W "left"
  w3 : NoAttr K c.W "things"
  w4 : NoAttr K c.W "given"
  gc : Cls K c.G
  g1 : NoAttr K c.G "name"
  oc : Cls K c.O
  o1 : NoAttr K c.O "kind"
  o2 : NoAttr K c.O "fields"
  rc : Cls K c.Gr
  r1 : NoAttr K c.Gr "name"
  r2 : NoAttr K c.Gr "frame"
  r3 : NoAttr K c.Gr "state"
  r4 : NoAttr K c.Gr "many"
  r5 : NoAttr K c.Gr "handed"
  iK : OwnI K c.Kd
  iG : OwnI K c.G
  iO : OwnI K c.O
  iR : OwnI K c.Gr
  tF : KitD K c c.F false false false false
  tM : KitD K c c.M false false false false
  tK : KitD K c c.Kd false true false false
  tO : KitD K c c.O false false true false
  tR : KitD K c c.Gr false false false true
  tG : KitD K c c.G true false false false
  nWR : c.W ≠ c.Gr
def rIsO (K : PySem.W.Frag) : List V → Hp → VK → Prop := fun xs H Q => ∃ x C b, xs = [x, .ref C] ∧ ((∃ p D dx fs, x = .ref p ∧ H p = some (.ins D dx fs) ∧ OwnI K D ∧ PySem.W.kitOne K (.ref D) (.ref C) = some b) ∨ (x = .non ∧ PySem.W.kitOne K (.type "NoneType") (.ref C) = some b)) ∧ Q (.bl b) H
theorem call_isO {X : Cx} : CallR X (.builtin "isinstance") (rIsO X.K) := by
  intro pins s σ H xs us Q I r h
  obtain ⟨x, C, b, rfl, hx, q⟩ := h
  obtain ⟨u, w', rfl, r1, r2⟩ := vals2 r
  cases r2
  rcases hx with ⟨p, D, dx, fs, rfl, hp, o, hk⟩ | ⟨rfl, hk⟩
  · cases (show u = Value.ref p from r1)
    obtain ⟨mA, hO, _⟩ := ins_get I.hok hp
    obtain ⟨od, hI, _⟩ := hO.look
    exact PySem.W.kia_one (PySem.W.kitx_own (ox := PySem.W.instObj D dx) (od := od) o.hg o.hd o.ha o.hn o.tk o.hm) I.kIn hI hk (fun z => nomatch z) fun tk => ⟨.bl b, H, I.tok _, rfl, q⟩
  · cases (show u = Value.none from r1)
    exact PySem.W.kia_one PySem.W.kitx_none I.kIn True.intro hk (fun z => nomatch z) fun tk => ⟨.bl b, H, I.tok _, rfl, q⟩
/-! ### what stays -/
def fixT : HO → Bool
  | .tup _ => true
  | .frz _ _ => true
  | _ => false
def Fx (H H' : Hp) : Prop := ∀ p o, H p = some o → fixT o = true → H' p = some o
theorem Same.fx {H H' : Hp} (s : Same H H') : Fx H H' := fun p o e _ => s p o e
theorem Fx.put {H : Hp} {p : Addr} {o o' : HO} (h : H p = some o) (e : fixT o = false) : Fx H (upd H p o') := fun q u eq z => by
  rw [upd_ne (fun y => by rw [y, h] at eq; cases eq; rw [e] at z; cases z)]; exact eq
/-- all but one place -/
def But9 (l : Addr) (H H' : Hp) : Prop := ∀ p o, p ≠ l → H p = some o → H' p = some o
theorem But9.fx {l : Addr} {H H' : Hp} {o' : HO} (b : But9 l H H') (h : H l = some o') (e' : fixT o' = false) : Fx H H' := fun p o e z => b p o (fun y => by rw [y, h] at e; cases e; rw [e'] at z; cases z) e
theorem Same.but {H H' : Hp} (l : Addr) (s : Same H H') : But9 l H H' := fun p o _ e => s p o e
theorem But9.trans {l : Addr} {H H1 H2 : Hp} (a : But9 l H H1) (b : But9 l H1 H2) : But9 l H H2 := fun p o n e => b p o n (a p o n e)
theorem But9.put {l : Addr} (H : Hp) (o : HO) : But9 l H (upd H l o) := fun p u n e => by rw [upd_ne n]; exact e
/-- all but the list of things, and givers -/
def noGr (c : ClD) (o : HO) : Prop := ∀ dx fs, o ≠ .ins c.Gr dx fs
def Chg (c : ClD) (l : Addr) (H H' : Hp) : Prop := ∀ p o, p ≠ l → noGr c o → H p = some o → H' p = some o
theorem Same.chg {c : ClD} {l : Addr} {H H' : Hp} (s : Same H H') : Chg c l H H' := fun p o _ _ e => s p o e
theorem But9.chg {c : ClD} {l : Addr} {H H' : Hp} (s : But9 l H H') : Chg c l H H' := fun p o n _ e => s p o n e
theorem Chg.trans {c : ClD} {l : Addr} {H H1 H2 : Hp} (a : Chg c l H H1) (b : Chg c l H1 H2) : Chg c l H H2 := fun p o n z e => b p o n z (a p o n z e)
theorem Chg.fx {c : ClD} {l : Addr} {H H' : Hp} {xs : List V} (s : Chg c l H H') (hl : H l = some (.lst xs)) : Fx H H' := fun p o e z =>
  s p o (fun y => by rw [y, hl] at e; cases e; cases z) (fun dx fs y => by rw [y] at z; cases z) e
theorem Chg.dict {c : ClD} {l d : Addr} {H H' : Hp} {xs : List V} {kvs : List (Key × V)} (s : Chg c l H H') (hl : H l = some (.lst xs)) (h : H d = some (.dK kvs)) : H' d = some (.dK kvs) :=
  s _ _ (fun y => by rw [y, hl] at h; cases h) (fun dx fs y => nomatch y) h
theorem Chg.lst {c : ClD} {l d : Addr} {H H' : Hp} {ys : List V} (s : Chg c l H H') (n : d ≠ l) (h : H d = some (.lst ys)) : H' d = some (.lst ys) := s _ _ n (fun dx fs y => nomatch y) h
section
variable {K : PySem.W.Frag} {H H' : Hp}
theorem Fx.seqT {p : Addr} {vs : List V} (s : Fx H H') (h : SqT K H p vs) : SqT K H' p vs := by
  rcases h with (h | ⟨o, h⟩) | h
  · exact .inl (.inl (s _ _ h rfl))
  · exact .inl (.inr ⟨o, s _ _ h rfl⟩)
  · exact .inr h
mutual
theorem At.fx (s : Fx H H') : ∀ (d : D) (v : V), At K H d v → At K H' d v
  | .non, _, h => At_non.mpr (At_non.mp h)
  | .bl _, _, h => At_bl.mpr (At_bl.mp h)
  | .int _, _, h => At_int.mpr (At_int.mp h)
  | .str _, _, h => At_str.mpr (At_str.mp h)
  | .tup ds, _, h => by
    obtain ⟨p, vs, rfl, h1, h2⟩ := At_tup.mp h
    exact At_tup.mpr ⟨p, vs, rfl, Fx.seqT s h1, AtAll.fx s ds vs h2⟩
theorem AtAll.fx (s : Fx H H') : ∀ (ds : List D) (vs : List V), AtAll K H ds vs → AtAll K H' ds vs
  | [], _, h => AtAll_nil.mpr (AtAll_nil.mp h)
  | d :: ds, _, h => by
    obtain ⟨v, r, rfl, h1, h2⟩ := AtAll_cons.mp h
    exact AtAll_cons.mpr ⟨v, r, rfl, At.fx s d v h1, AtAll.fx s ds r h2⟩
end
end
/-! ### the things of a world -/
def thD (i : Nat) : D := .tup [.str "thing", .int (i : Nat)]
def kdF (v1 vo v3 v4 : V) : List (Str × V) := [("name", v1), ("order", vo), ("fields", v3), ("is_given", v4)]
def grF (v1 fr : V) (st : Str) (m h : Int) : List (Str × V) := [("name", v1), ("frame", fr), ("state", .str st), ("many", .int m), ("handed", .int h)]
def obF (v1 v2 : V) : List (Str × V) := [("kind", v1), ("fields", v2)]
inductive Th where
  | gvn (n : Str)
  | kd (ns : List Nat)
  | gr (fr : V) (st : Str) (m h : Int)
  | ob (k : Nat)
def ObjD (K : PySem.W.Frag) (c : ClD) (H : Hp) : Th → Addr → Prop
  | .gvn n, p => ∃ dx, H p = some (.ins c.G dx [("name", .str n)])
  | .kd ns, p => ∃ dx v1 vo v3 v4, H p = some (.ins c.Kd dx (kdF v1 vo v3 v4)) ∧ At K H (.tup (ns.map thD)) vo
  | .gr fr st m h, p => ∃ dx v1, H p = some (.ins c.Gr dx (grF v1 fr st m h))
  | .ob k, p => ∃ dx v1 v2, H p = some (.ins c.O dx (obF v1 v2)) ∧ At K H (thD k) v1
theorem ObjD.ins {K : PySem.W.Frag} {c : ClD} {H : Hp} {o : Th} {p : Addr} (h : ObjD K c H o p) : ∃ C dx fs, H p = some (.ins C dx fs) := by
  cases o with
  | gvn n => obtain ⟨dx, e⟩ := h; exact ⟨_, _, _, e⟩
  | kd ns => obtain ⟨dx, _, _, _, _, e, _⟩ := h; exact ⟨_, _, _, e⟩
  | gr fr st m h' => obtain ⟨dx, _, e⟩ := h; exact ⟨_, _, _, e⟩
  | ob k => obtain ⟨dx, _, _, e, _⟩ := h; exact ⟨_, _, _, e⟩
theorem ObjD.keep {K : PySem.W.Frag} {c : ClD} {H H' : Hp} {o : Th} {p : Addr} (e : H' p = H p) (f : Fx H H') (h : ObjD K c H o p) : ObjD K c H' o p := by
  cases o with
  | gvn n => obtain ⟨dx, h⟩ := h; exact ⟨dx, e.trans h⟩
  | kd ns => obtain ⟨dx, _, _, _, _, h, a⟩ := h; exact ⟨dx, _, _, _, _, e.trans h, At.fx f _ _ a⟩
  | gr fr st m h' => obtain ⟨dx, _, h⟩ := h; exact ⟨dx, _, e.trans h⟩
  | ob k => obtain ⟨dx, _, _, h, a⟩ := h; exact ⟨dx, _, _, e.trans h, At.fx f _ _ a⟩
def wF (a b : V) (l g : Addr) : List (Str × V) := [("lines", a), ("left", b), ("things", .ref l), ("given", .ref g)]
/-- the names that a world gives -/
def GivAt (K : PySem.W.Frag) (H : Hp) (g : Addr) (gv : List (Str × Nat)) : Prop := ∃ kvs, H g = some (.dK kvs) ∧ kvs.length ≤ gv.length ∧ ∀ n i, (n, i) ∈ gv → ∃ v, valV kvs (.inr n) = some v ∧ At K H (thD i) v
theorem GivAt.keep {K : PySem.W.Frag} {H H' : Hp} {g : Addr} {gv : List (Str × Nat)} (e : H' g = H g) (f : Fx H H') (h : GivAt K H g gv) : GivAt K H' g gv := by
  obtain ⟨kvs, h1, hl, h2⟩ := h
  exact ⟨kvs, e.trans h1, hl, fun n i e => let ⟨v, a, b⟩ := h2 n i e; ⟨v, a, At.fx f _ _ b⟩⟩
structure WAt (K : PySem.W.Frag) (c : ClD) (H : Hp) (W l g : Addr) (ps : List Addr) (os : List Th) (gv : List (Str × Nat)) : Prop where
  w : ∃ dx a b, H W = some (.ins c.W dx (wF a b l g))
  t : H l = some (.lst (ps.map V.ref))
  n : ps.length = os.length
  nd : ps.Nodup
  o : ∀ (i : Nat) (p : Addr) (o : Th), ps[i]? = some p → os[i]? = some o → ObjD K c H o p
  b : ∀ (i k : Nat), os[i]? = some (.ob k) → k < os.length
  v : GivAt K H g gv
section
variable {K : PySem.W.Frag} {c : ClD} {H H' : Hp} {W l g : Addr} {ps : List Addr} {os : List Th} {gv : List (Str × Nat)}
theorem WAt.at (h : WAt K c H W l g ps os gv) {i : Nat} {o : Th} (e : os[i]? = some o) : ∃ p, ps[i]? = some p ∧ ObjD K c H o p := by
  have hi : i < ps.length := by rw [h.n]; exact (List.getElem?_eq_some_iff.mp e).1
  have e1 : ps[i]? = some ps[i] := List.getElem?_eq_getElem hi
  exact ⟨_, e1, h.o i _ o e1 e⟩
theorem WAt.in (h : WAt K c H W l g ps os gv) {p : Addr} (m : p ∈ ps) : ∃ C dx fs, H p = some (.ins C dx fs) := by
  obtain ⟨i, hi, e⟩ := List.getElem_of_mem m
  have h2 : i < os.length := by rw [← h.n]; exact hi
  exact (h.o i p os[i] (by rw [List.getElem?_eq_getElem hi, e]) (List.getElem?_eq_getElem h2)).ins
theorem WAt.fresh (h : WAt K c H W l g ps os gv) {p : Addr} (e : H p = none) : p ∉ ps := fun m => by
  obtain ⟨_, _, _, e'⟩ := h.in m
  rw [e] at e'; cases e'
theorem WAt.same (s : Same H H') (h : WAt K c H W l g ps os gv) : WAt K c H' W l g ps os gv := by
  obtain ⟨⟨dx, a, b, h1⟩, h2, h3, h4, h5, h6, kvs, h7, h8, h9⟩ := h
  refine ⟨⟨dx, a, b, s _ _ h1⟩, s _ _ h2, h3, h4, fun i p o e1 e2 => ?_, h6, kvs, s _ _ h7, h8, fun n i e => let ⟨v, a, b⟩ := h9 n i e; ⟨v, a, At.same s _ _ b⟩⟩
  have := h5 i p o e1 e2
  obtain ⟨C, dx, fs, e⟩ := this.ins
  exact this.keep (by rw [s _ _ e, e]) (Same.fx s)
theorem WAt.dict (h : WAt K c H W l g ps os gv) {d : Addr} {kvs : List (Key × V)} {o : HO} (e : H d = some (.dK kvs)) (ne : g ≠ d) : WAt K c (upd H d o) W l g ps os gv := by
  obtain ⟨⟨dx, a, b, h1⟩, h2, h3, h4, h5, h6, h7⟩ := h
  have f : Fx H (upd H d o) := Fx.put e rfl
  refine ⟨⟨dx, a, b, by rw [upd_ne (fun y => by rw [y, e] at h1; cases h1)]; exact h1⟩, by rw [upd_ne (fun y => by rw [y, e] at h2; cases h2)]; exact h2, h3, h4, fun i p o e1 e2 => ?_, h6, h7.keep (upd_ne ne) f⟩
  have := h5 i p o e1 e2
  obtain ⟨C, dx, fs, e'⟩ := this.ins
  exact this.keep (upd_ne (fun y => by rw [y, e] at e'; cases e')) f
theorem WAt.lst (h : WAt K c H W l g ps os gv) {d : Addr} {xs : List V} {o : HO} (e : H d = some (.lst xs)) (ne : l ≠ d) : WAt K c (upd H d o) W l g ps os gv := by
  obtain ⟨⟨dx, a, b, h1⟩, h2, h3, h4, h5, h6, h7⟩ := h
  have f : Fx H (upd H d o) := Fx.put e rfl
  refine ⟨⟨dx, a, b, by rw [upd_ne (fun y => by rw [y, e] at h1; cases h1)]; exact h1⟩, by rw [upd_ne ne]; exact h2, h3, h4, fun i p o e1 e2 => ?_, h6, h7.keep (upd_ne fun y => ?_) f⟩
  · have := h5 i p o e1 e2
    obtain ⟨C, dx, fs, e'⟩ := this.ins
    exact this.keep (upd_ne (fun y => by rw [y, e] at e'; cases e')) f
  · obtain ⟨kvs, h8, _⟩ := h7
    rw [y, e] at h8; cases h8
theorem getElem?_snoc {α : Type} {xs : List α} {x y : α} {i : Nat} (h : (xs ++ [x])[i]? = some y) : xs[i]? = some y ∨ (i = xs.length ∧ y = x) := by
  by_cases hi : i < xs.length
  · rw [List.getElem?_append_left hi] at h; exact .inl h
  · have hl := (List.getElem?_eq_some_iff.mp h).1
    rw [List.length_append, List.length_singleton] at hl
    have ei : i = xs.length := by omega
    subst ei
    rw [List.getElem?_append_right (Nat.le_refl _), Nat.sub_self] at h
    cases h
    exact .inr ⟨rfl, rfl⟩
theorem snoc_last {α : Type} {xs : List α} {x : α} : (xs ++ [x])[xs.length]? = some x := by rw [List.getElem?_append_right (Nat.le_refl _), Nat.sub_self]; rfl
theorem snoc_old {α : Type} {xs : List α} {x y : α} {i : Nat} (h : xs[i]? = some y) : (xs ++ [x])[i]? = some y := by rw [List.getElem?_append_left (List.getElem?_eq_some_iff.mp h).1]; exact h
theorem WAt.add (h : WAt K c H W l g ps os gv) {o : Th} {p : Addr} (hp : p ∉ ps) (ho : ObjD K c H o p) (hb : ∀ k, o = .ob k → k < os.length) : WAt K c (upd H l (.lst (ps.map V.ref ++ [.ref p]))) W l g (ps ++ [p]) (os ++ [o]) gv := by
  obtain ⟨⟨dx, a, b, h1⟩, h2, h3, h4, h5, h6, h7⟩ := h
  have f : Fx H (upd H l (.lst (ps.map V.ref ++ [.ref p]))) := Fx.put h2 rfl
  have kp : ∀ {q o'}, ObjD K c H o' q → ObjD K c (upd H l (.lst (ps.map V.ref ++ [.ref p]))) o' q := fun {q o'} z => by
    obtain ⟨C, dx, fs, e'⟩ := z.ins
    exact z.keep (upd_ne (fun y => by rw [y, h2] at e'; cases e')) f
  refine ⟨⟨dx, a, b, by rw [upd_ne (fun y => by rw [y, h2] at h1; cases h1)]; exact h1⟩, by rw [upd_same, List.map_append]; rfl, by rw [List.length_append, List.length_append, h3]; rfl, ?_, fun i q o' e1 e2 => ?_, fun i k e => ?_, h7.keep (upd_ne fun y => ?_) f⟩
  · rw [List.nodup_append]
    refine ⟨h4, (by simp), fun x hx y hy => ?_⟩
    rw [List.mem_singleton.mp hy]
    exact fun z => hp (z ▸ hx)
  · rcases getElem?_snoc e1 with e1 | ⟨rfl, rfl⟩
    · have hi : i < os.length := by rw [← h3]; exact (List.getElem?_eq_some_iff.mp e1).1
      rw [List.getElem?_append_left hi] at e2
      exact kp (h5 i q o' e1 e2)
    · rw [h3, snoc_last] at e2
      cases e2
      exact kp ho
  · rw [List.length_append, List.length_singleton]
    rcases getElem?_snoc e with e1 | ⟨rfl, e2⟩
    · have := h6 i k e1; omega
    · have := hb k e2.symm; omega
  · obtain ⟨kvs, h8, _⟩ := h7
    rw [y, h2] at h8; cases h8
theorem WAt.put (h : WAt K c H W l g ps os gv) (nW : c.W ≠ c.Gr) {i : Nat} {p dx : Addr} {v1 fr fr' : V} {st st' : Str} {m m' h0 h' : Int} (ep : ps[i]? = some p) (eo : os[i]? = some (.gr fr st m h0)) (e : H p = some (.ins c.Gr dx (grF v1 fr st m h0))) :
    WAt K c (upd H p (.ins c.Gr dx (grF v1 fr' st' m' h'))) W l g ps (os.set i (.gr fr' st' m' h')) gv ∧ Chg c l H (upd H p (.ins c.Gr dx (grF v1 fr' st' m' h'))) := by
  obtain ⟨⟨dw, a, b, h1⟩, h2, h3, h4, h5, h6, h7⟩ := h
  have f : Fx H (upd H p (.ins c.Gr dx (grF v1 fr' st' m' h'))) := Fx.put e rfl
  have hi := (List.getElem?_eq_some_iff.mp eo).1
  refine ⟨⟨⟨dw, a, b, by rw [upd_ne (fun y => by rw [y, e] at h1; injection h1 with h1; injection h1 with h1; exact nW h1.symm)]; exact h1⟩, by rw [upd_ne (fun y => by rw [y, e] at h2; cases h2)]; exact h2, by rw [List.length_set, h3], h4, fun j q o' e1 e2 => ?_, fun j k ek => ?_, h7.keep (upd_ne fun y => ?_) f⟩, fun q o n z eq => ?_⟩
  · by_cases hj : j = i
    · subst hj
      rw [ep] at e1; cases e1
      rw [List.getElem?_set_self hi] at e2; cases e2
      exact ⟨dx, v1, upd_same⟩
    · rw [List.getElem?_set_ne (Ne.symm hj)] at e2
      refine (h5 j q o' e1 e2).keep (upd_ne fun y => hj ?_) f
      subst y
      exact (List.getElem?_inj (List.getElem?_eq_some_iff.mp e1).1 h4).mp (e1.trans ep.symm)
  · rw [List.length_set]
    by_cases hj : j = i
    · subst hj; rw [List.getElem?_set_self hi] at ek; cases ek
    · rw [List.getElem?_set_ne (Ne.symm hj)] at ek; exact h6 j k ek
  · obtain ⟨kvs, h8, _⟩ := h7
    rw [y, e] at h8; cases h8
  · rw [upd_ne (fun y => by rw [y, e] at eq; injection eq with eq; exact z _ _ eq.symm)]; exact eq
end
/-! ### values, and the things that they tell -/
def Vd (os : List Th) (d : D) : Prop := ∃ k r, d = .tup (.str k :: r) ∧ (k = "thing" → ∃ i : Nat, r = [.int (i : Nat)] ∧ i < os.length)
def thO (os : List Th) : D → Option Th
  | .tup [.str k, .int i] => if k = "thing" ∧ 0 ≤ i then os[i.toNat]? else none
  | _ => none
theorem thO_th (os : List Th) (i : Nat) : thO os (thD i) = os[i]? := by
  show (if ("thing" : Str) = "thing" ∧ (0 : Int) ≤ (i : Nat) then os[((i : Nat) : Int).toNat]? else none) = _
  rw [if_pos ⟨rfl, by omega⟩, Int.toNat_natCast]
theorem thO_no (os : List Th) {k : Str} (r : List D) (h : k ≠ "thing") : thO os (.tup (.str k :: r)) = none := by
  unfold thO
  split
  · rename_i k' i e
    injection e with e
    injection e with e1 e2
    injection e1 with e1
    subst e1
    rw [if_neg (fun z => h z.1)]
  · rfl
theorem Vd.th {os : List Th} {i : Nat} (h : i < os.length) : Vd os (thD i) := ⟨_, _, rfl, fun _ => ⟨i, rfl, h⟩⟩
theorem Vd.no {os : List Th} {k : Str} {r : List D} (h : k ≠ "thing") : Vd os (.tup (.str k :: r)) := ⟨_, _, rfl, fun z => absurd z h⟩
end GS
set_option Elab.async false
set_option linter.all false
set_option maxRecDepth 100000
set_option maxHeartbeats 4000000
namespace GS
open PySem PyProof.Rows
open L2 hiding pe_int pe_bl pe_non pe_str pv pe_glob pe_op pe_cmpR pe_one pe_and pe_ifExp pe_ix po_none po_some pe_slice pa_nil pa_cons pe_lst pe_tup pe_dnewK pe_callB pe_callTy pe_bm pt_cmpR pt_val pt_not pw_and1 pw_or1 pw_and pw_or pg_name pgs_nil pgs_cons pg_tup pi_list pi_tup pi_range1 ps_ret ps_expr ps_set ps_asg ps_if ps_for pss_nil pss_cons pss_one
open L3
/-- a def of a class -/
def inCls (i : Nat) : Stmt → Stmt
  | .ClassDef _ _ _ body _ _ _ _ _ _ _ => body.getD i (.Pass ⟨0, 0, 0, 0⟩)
  | _ => .Pass ⟨0, 0, 0, 0⟩
theorem putF_ne {f g : Str} {v x : V} {r : List (Str × V)} (h : g ≠ f) : putF f v ((g, x) :: r) = (g, x) :: putF f v r := if_neg h
section
variable {P : Program} {w : World} {K : PySem.W.Frag} {mg : Str → Option Value} {base : Heap} {f : Addr} {fd : FuncData}
abbrev pGvI : Stmt := (inCls 0 (topd 6))
def spGvI (C : Addr) : Sp := fun vs H Q _ => ∃ (x dx : Addr) (v1 : V), vs = [.ref x, v1] ∧ H x = some (.ins C dx []) ∧ ∀ H', (∀ p, p ≠ x → H' p = H p) → H' x = some (.ins C dx [("name", v1)]) → Q .non H'
theorem scGvI : FnScope ["self", "name"] ["self", "name"] (defScope pGvI) := ⟨rfl, rfl, rfl, by decide +kernel, rfl, by decide +kernel, by decide +kernel⟩
theorem ok_GvI {c : ClD} (z : CsD K c) (F : Fun K "__init__" "Given.__init__" pGvI f fd) : FnOk P w K mg base CX0 1 f fd ["self", "name"] (spGvI c.G) := by
  refine F.okI scGvI (fun vs H Q E h => ?_) (fun cdv A outer s H vs Q E hr h => ?_)
  · obtain ⟨_, _, _, rfl, _⟩ := h; rfl
  obtain ⟨x, dx, v1, rfl, hx, q⟩ := h
  refine ⟨_, (pss_one (L3.ps_fld (pv 0) (pv 1))), ?_⟩
  have e1 : putF "name" v1 ([] : List (Str × V)) = ([("name", v1)] : List (Str × V)) := by rfl
  refine ⟨_, rfl, _, rfl, x, c.G, dx, _, rfl, hx, z.gc, z.g1, by decide, ?_⟩
  rw [e1]
  exact q _ (fun p hp => by rw [upd_ne hp]) upd_same
abbrev pKdI : Stmt := (inCls 0 (topd 8))
def spKdI (C : Addr) : Sp := fun vs H Q _ => ∃ (x dx : Addr) (v1 v2 v3 v4 : V), vs = [.ref x, v1, v2, v3, v4] ∧ H x = some (.ins C dx []) ∧ ∀ H', (∀ p, p ≠ x → H' p = H p) → H' x = some (.ins C dx [("name", v1), ("order", v2), ("fields", v3), ("is_given", v4)]) → Q .non H'
theorem scKdI : FnScope ["self", "name", "order", "fields", "is_given"] ["self", "name", "order", "fields", "is_given"] (defScope pKdI) := ⟨rfl, rfl, rfl, by decide +kernel, rfl, by decide +kernel, by decide +kernel⟩
theorem ok_KdI {c : ClD} (z : CsD K c) (F : Fun K "__init__" "Kind.__init__" pKdI f fd) : FnOk P w K mg base CX0 1 f fd ["self", "name", "order", "fields", "is_given"] (spKdI c.Kd) := by
  refine F.okI scKdI (fun vs H Q E h => ?_) (fun cdv A outer s H vs Q E hr h => ?_)
  · obtain ⟨_, _, _, _, _, _, rfl, _⟩ := h; rfl
  obtain ⟨x, dx, v1, v2, v3, v4, rfl, hx, q⟩ := h
  refine ⟨_, (pss_cons (L3.ps_fld (pv 0) (pv 1))
      (pss_cons (L3.ps_fld (pv 0) (pv 2))
      (pss_cons (L3.ps_fld (pv 0) (pv 3))
      (pss_one (L3.ps_fld (pv 0) (pv 4)))))), ?_⟩
  have e1 : putF "name" v1 ([] : List (Str × V)) = ([("name", v1)] : List (Str × V)) := by rfl
  have e2 : putF "order" v2 ([("name", v1)] : List (Str × V)) = ([("name", v1), ("order", v2)] : List (Str × V)) := by rw [putF_ne (by decide +kernel)]; rfl
  have e3 : putF "fields" v3 ([("name", v1), ("order", v2)] : List (Str × V)) = ([("name", v1), ("order", v2), ("fields", v3)] : List (Str × V)) := by rw [putF_ne (by decide +kernel), putF_ne (by decide +kernel)]; rfl
  have e4 : putF "is_given" v4 ([("name", v1), ("order", v2), ("fields", v3)] : List (Str × V)) = ([("name", v1), ("order", v2), ("fields", v3), ("is_given", v4)] : List (Str × V)) := by rw [putF_ne (by decide +kernel), putF_ne (by decide +kernel), putF_ne (by decide +kernel)]; rfl
  refine ⟨_, rfl, _, rfl, x, c.Kd, dx, _, rfl, hx, z.kc, z.k1, by decide, ?_⟩
  rw [e1]
  refine ⟨_, rfl, _, rfl, x, c.Kd, dx, _, rfl, upd_same, z.kc, z.k2, Nat.lt_of_lt_of_le (Nat.lt_succ_self 1) (by decide), ?_⟩
  rw [e2]
  refine ⟨_, rfl, _, rfl, x, c.Kd, dx, _, rfl, upd_same, z.kc, z.k3, Nat.lt_of_lt_of_le (Nat.lt_succ_self 2) (by decide), ?_⟩
  rw [e3]
  refine ⟨_, rfl, _, rfl, x, c.Kd, dx, _, rfl, upd_same, z.kc, z.k4, Nat.lt_of_lt_of_le (Nat.lt_succ_self 3) (by decide), ?_⟩
  rw [e4]
  exact q _ (fun p hp => by rw [upd_ne hp, upd_ne hp, upd_ne hp, upd_ne hp]) upd_same
abbrev pObI : Stmt := (inCls 0 (topd 9))
def spObI (C : Addr) : Sp := fun vs H Q _ => ∃ (x dx : Addr) (v1 v2 : V), vs = [.ref x, v1, v2] ∧ H x = some (.ins C dx []) ∧ ∀ H', (∀ p, p ≠ x → H' p = H p) → H' x = some (.ins C dx [("kind", v1), ("fields", v2)]) → Q .non H'
theorem scObI : FnScope ["self", "kind", "fields"] ["self", "kind", "fields"] (defScope pObI) := ⟨rfl, rfl, rfl, by decide +kernel, rfl, by decide +kernel, by decide +kernel⟩
theorem ok_ObI {c : ClD} (z : CsD K c) (F : Fun K "__init__" "Object.__init__" pObI f fd) : FnOk P w K mg base CX0 1 f fd ["self", "kind", "fields"] (spObI c.O) := by
  refine F.okI scObI (fun vs H Q E h => ?_) (fun cdv A outer s H vs Q E hr h => ?_)
  · obtain ⟨_, _, _, _, rfl, _⟩ := h; rfl
  obtain ⟨x, dx, v1, v2, rfl, hx, q⟩ := h
  refine ⟨_, (pss_cons (L3.ps_fld (pv 0) (pv 1))
      (pss_one (L3.ps_fld (pv 0) (pv 2)))), ?_⟩
  have e1 : putF "kind" v1 ([] : List (Str × V)) = ([("kind", v1)] : List (Str × V)) := by rfl
  have e2 : putF "fields" v2 ([("kind", v1)] : List (Str × V)) = ([("kind", v1), ("fields", v2)] : List (Str × V)) := by rw [putF_ne (by decide +kernel)]; rfl
  refine ⟨_, rfl, _, rfl, x, c.O, dx, _, rfl, hx, z.oc, z.o1, by decide, ?_⟩
  rw [e1]
  refine ⟨_, rfl, _, rfl, x, c.O, dx, _, rfl, upd_same, z.oc, z.o2, Nat.lt_of_lt_of_le (Nat.lt_succ_self 1) (by decide), ?_⟩
  rw [e2]
  exact q _ (fun p hp => by rw [upd_ne hp, upd_ne hp]) upd_same
abbrev pGrI : Stmt := (inCls 0 (topd 10))
def spGrI (C : Addr) : Sp := fun vs H Q _ => ∃ (x dx : Addr) (v1 v2 v3 : V), vs = [.ref x, v1, v2, v3] ∧ H x = some (.ins C dx []) ∧ ∀ H', (∀ p, p ≠ x → H' p = H p) → H' x = some (.ins C dx [("name", v1), ("frame", v2), ("state", .str "new"), ("many", v3), ("handed", .int 0)]) → Q .non H'
theorem scGrI : FnScope ["self", "name", "frame", "many"] ["self", "name", "frame", "many"] (defScope pGrI) := ⟨rfl, rfl, rfl, by decide +kernel, rfl, by decide +kernel, by decide +kernel⟩
theorem ok_GrI {c : ClD} (z : CsD K c) (F : Fun K "__init__" "Giver.__init__" pGrI f fd) : FnOk P w K mg base CX0 1 f fd ["self", "name", "frame", "many"] (spGrI c.Gr) := by
  refine F.okI scGrI (fun vs H Q E h => ?_) (fun cdv A outer s H vs Q E hr h => ?_)
  · obtain ⟨_, _, _, _, _, rfl, _⟩ := h; rfl
  obtain ⟨x, dx, v1, v2, v3, rfl, hx, q⟩ := h
  refine ⟨_, (pss_cons (L3.ps_fld (pv 0) (pv 1))
      (pss_cons (L3.ps_fld (pv 0) (pv 2))
      (pss_cons (L3.ps_fld (pv 0) pe_str)
      (pss_cons (L3.ps_fld (pv 0) (pv 3))
      (pss_one (L3.ps_fld (pv 0) pe_int)))))), ?_⟩
  have e1 : putF "name" (v1) ([] : List (Str × V)) = ([("name", v1)] : List (Str × V)) := by rfl
  have e2 : putF "frame" (v2) ([("name", v1)] : List (Str × V)) = ([("name", v1), ("frame", v2)] : List (Str × V)) := by rw [putF_ne (by decide +kernel)]; rfl
  have e3 : putF "state" (.str "new") ([("name", v1), ("frame", v2)] : List (Str × V)) = ([("name", v1), ("frame", v2), ("state", .str "new")] : List (Str × V)) := by rw [putF_ne (by decide +kernel), putF_ne (by decide +kernel)]; rfl
  have e4 : putF "many" (v3) ([("name", v1), ("frame", v2), ("state", .str "new")] : List (Str × V)) = ([("name", v1), ("frame", v2), ("state", .str "new"), ("many", v3)] : List (Str × V)) := by rw [putF_ne (by decide +kernel), putF_ne (by decide +kernel), putF_ne (by decide +kernel)]; rfl
  have e5 : putF "handed" (.int 0) ([("name", v1), ("frame", v2), ("state", .str "new"), ("many", v3)] : List (Str × V)) = ([("name", v1), ("frame", v2), ("state", .str "new"), ("many", v3), ("handed", .int 0)] : List (Str × V)) := by rw [putF_ne (by decide +kernel), putF_ne (by decide +kernel), putF_ne (by decide +kernel), putF_ne (by decide +kernel)]; rfl
  refine ⟨_, rfl, _, rfl, x, c.Gr, dx, _, rfl, hx, z.rc, z.r1, by decide, ?_⟩
  rw [e1]
  refine ⟨_, rfl, _, rfl, x, c.Gr, dx, _, rfl, upd_same, z.rc, z.r2, Nat.lt_of_lt_of_le (Nat.lt_succ_self 1) (by decide), ?_⟩
  rw [e2]
  refine ⟨_, rfl, x, c.Gr, dx, _, rfl, upd_same, z.rc, z.r3, Nat.lt_of_lt_of_le (Nat.lt_succ_self 2) (by decide), ?_⟩
  rw [e3]
  refine ⟨_, rfl, _, rfl, x, c.Gr, dx, _, rfl, upd_same, z.rc, z.r4, Nat.lt_of_lt_of_le (Nat.lt_succ_self 3) (by decide), ?_⟩
  rw [e4]
  refine ⟨_, rfl, x, c.Gr, dx, _, rfl, upd_same, z.rc, z.r5, Nat.lt_of_lt_of_le (Nat.lt_succ_self 4) (by decide), ?_⟩
  rw [e5]
  exact q _ (fun p hp => by rw [upd_ne hp, upd_ne hp, upd_ne hp, upd_ne hp, upd_ne hp]) upd_same
end
end GS
set_option Elab.async false
set_option linter.all false
set_option maxRecDepth 100000
set_option maxHeartbeats 4000000
namespace GS
open PySem PyProof.Rows
open L2 hiding pe_int pe_bl pe_non pe_str pv pe_glob pe_op pe_cmpR pe_one pe_and pe_ifExp pe_ix po_none po_some pe_slice pa_nil pa_cons pe_lst pe_tup pe_dnewK pe_callB pe_callTy pe_bm pt_cmpR pt_val pt_not pw_and1 pw_or1 pw_and pw_or pg_name pgs_nil pgs_cons pg_tup pi_list pi_tup pi_range1 ps_ret ps_expr ps_set ps_asg ps_if ps_for pss_nil pss_cons pss_one
open L3
abbrev pAdd : Stmt := topd 13
abbrev pTh : Stmt := topd 14
abbrev pKn : Stmt := topd 15
abbrev pIsC : Stmt := topd 18
abbrev pIsG : Stmt := topd 24
abbrev pFrO : Stmt := topd 25
abbrev pStO : Stmt := topd 26
abbrev pStS : Stmt := topd 27
theorem decS (x y : Str) : decide (V.str x = V.str y) = decide (x = y) := decide_eq_decide.mpr ⟨V.str.inj, fun e => by rw [e]⟩
theorem decN {x y : Str} (h : x ≠ y) : decide (V.str x = V.str y) = false := decide_eq_false fun z => h (V.str.inj z)
theorem ite_b9 {b : Bool} {A B : Prop} (h1 : b = true → A) (h2 : b = false → B) : if b = true then A else B := by
  cases b with
  | true => exact iteT (h1 rfl)
  | false => exact iteF (h2 rfl)
def rNth (K : PySem.W.Frag) : R2 := fun x y H Q => ∃ (i : Nat) (ds : List D) (d : D), y = .int (i : Nat) ∧ At K H (.tup ds) x ∧ ds[i]? = some d ∧ ∀ v, At K H d v → Q v H
theorem ixD {X : Cx} : IxR X (rNth X.K) := by
  intro value slice pins s σ H x y v u Q I rx ry h hs
  obtain ⟨i, ds, d, rfl, hx, hd, q⟩ := h
  obtain ⟨p, vs, w, rfl, h2, h3, h4⟩ := At.ix (i := i) hx hd
  exact ix_tup value slice pins s σ H _ _ v u Q I rx ry ⟨p, vs, _, w, rfl, rfl, h2, h3, q w h4⟩ hs
theorem pe_nth {X : Cx} {e : Expr} {te : TE} {n : Int} {j : Nat} {p pos : Pos} (he : LE X e te) : LE X (.Subscript e (.Constant (.int n) j p) pos) (tOp (rNth X.K) te (tC (.int n))) := pe_ix ixD he pe_int (fun _ _ => rfl)
theorem wF_things (a b : V) (l g : Addr) : (wF a b l g).lookup ("things" : Str) = some (.ref l) := rfl
theorem wF_given (a b : V) (l g : Addr) : (wF a b l g).lookup ("given" : Str) = some (.ref g) := rfl
theorem kdF_order (a b c d : V) : (kdF a b c d).lookup ("order" : Str) = some b := rfl
theorem grF_frame (v1 fr : V) (st : Str) (m h : Int) : (grF v1 fr st m h).lookup ("frame" : Str) = some fr := rfl
theorem grF_state (v1 fr : V) (st : Str) (m h : Int) : (grF v1 fr st m h).lookup ("state" : Str) = some (.str st) := rfl
theorem grF_many (v1 fr : V) (st : Str) (m h : Int) : (grF v1 fr st m h).lookup ("many" : Str) = some (.int m) := rfl
theorem grF_handed (v1 fr : V) (st : Str) (m h : Int) : (grF v1 fr st m h).lookup ("handed" : Str) = some (.int h) := rfl
theorem obF_kind (a b : V) : (obF a b).lookup ("kind" : Str) = some a := rfl
theorem grF_pst (v1 fr : V) (st st' : Str) (m h : Int) : putF "state" (.str st') (grF v1 fr st m h) = grF v1 fr st' m h := by
  unfold grF
  rw [putF_ne (by decide +kernel), putF_ne (by decide +kernel)]; rfl
theorem grF_ph (v1 fr : V) (st : Str) (m h h' : Int) : putF "handed" (.int h') (grF v1 fr st m h) = grF v1 fr st m h' := by
  unfold grF
  rw [putF_ne (by decide +kernel), putF_ne (by decide +kernel), putF_ne (by decide +kernel), putF_ne (by decide +kernel)]; rfl
theorem AtAll.one1 {K : PySem.W.Frag} {H : Hp} {a : D} {x : V} (h : At K H a x) : AtAll K H [a] [x] := AtAll_cons.mpr ⟨x, [], rfl, h, AtAll_nil.mpr rfl⟩
theorem AtAll2 {K : PySem.W.Frag} {H : Hp} {a b : D} {x y : V} (h : At K H a x) (h2 : At K H b y) : AtAll K H [a, b] [x, y] := AtAll_cons.mpr ⟨x, _, rfl, h, AtAll.one1 h2⟩
theorem AtAll3 {K : PySem.W.Frag} {H : Hp} {a b c : D} {x y z : V} (h : At K H a x) (h2 : At K H b y) (h3 : At K H c z) : AtAll K H [a, b, c] [x, y, z] := AtAll_cons.mpr ⟨x, _, rfl, h, AtAll2 h2 h3⟩
theorem thD_inj {i j : Nat} (h : thD i = thD j) : i = j := by
  unfold thD at h
  injection h with h
  injection h with _ h
  injection h with h _
  injection h with h
  exact Int.ofNat.inj h
/-- what thing_of tells -/
def TV (K : PySem.W.Frag) (c : ClD) (H : Hp) (ps : List Addr) (os : List Th) (d : D) (v : V) : Prop := (thO os d = none ∧ v = .non) ∨ ∃ (i : Nat) (p : Addr) (o : Th), d = thD i ∧ thO os d = some o ∧ ps[i]? = some p ∧ os[i]? = some o ∧ v = .ref p ∧ ObjD K c H o p
def tagB (g k o r : Bool) : Option Th → Bool
  | none => false
  | some (.gvn _) => g
  | some (.kd _) => k
  | some (.ob _) => o
  | some (.gr ..) => r
section
variable {K : PySem.W.Frag} {c : ClD} {H : Hp} {ps : List Addr} {os : List Th} {d : D} {v : V}
theorem TV.th {i : Nat} {o : Th} (e : os[i]? = some o) (t : TV K c H ps os (thD i) v) : ∃ p, ps[i]? = some p ∧ v = .ref p ∧ ObjD K c H o p := by
  rcases t with ⟨h, _⟩ | ⟨j, p, o', h1, h2, h3, h4, h5, h6⟩
  · rw [thO_th, e] at h; cases h
  · have := thD_inj h1
    subst this
    rw [e] at h4; cases h4
    exact ⟨p, h3, h5, h6⟩
theorem TV.is (z : CsD K c) (t : TV K c H ps os d v) {C : Addr} {g k o r : Bool} (kt : KitD K c C g k o r) : (∃ p D dx fs, v = .ref p ∧ H p = some (.ins D dx fs) ∧ OwnI K D ∧ PySem.W.kitOne K (.ref D) (.ref C) = some (tagB g k o r (thO os d))) ∨ (v = .non ∧ PySem.W.kitOne K (.type "NoneType") (.ref C) = some (tagB g k o r (thO os d))) := by
  rcases t with ⟨h, e⟩ | ⟨j, p, o', h1, h2, h3, h4, h5, h6⟩
  · rw [h]; exact .inr ⟨e, kt.tN⟩
  · rw [h2]
    cases o' with
    | gvn n => obtain ⟨dx, h⟩ := h6; exact .inl ⟨p, _, dx, _, h5, h, z.iG, kt.tG⟩
    | kd ns => obtain ⟨dx, _, _, _, _, h, _⟩ := h6; exact .inl ⟨p, _, dx, _, h5, h, z.iK, kt.tK⟩
    | gr fr st m hh => obtain ⟨dx, _, h⟩ := h6; exact .inl ⟨p, _, dx, _, h5, h, z.iR, kt.tR⟩
    | ob n => obtain ⟨dx, _, _, h, _⟩ := h6; exact .inl ⟨p, _, dx, _, h5, h, z.iO, kt.tO⟩
end
section
variable {P : Program} {w : World} {K : PySem.W.Frag} {mg : Str → Option Value} {base : Heap} {f : Addr} {fd : FuncData} {c : ClD}
/-! ### added -/
def spAdd (K : PySem.W.Frag) (c : ClD) : Sp := fun vs H Q _ => ∃ (W l g : Addr) (ps : List Addr) (os : List Th) (gv : List (Str × Nat)) (o : Th) (p : Addr), vs = [.ref W, .ref p] ∧ WAt K c H W l g ps os gv ∧ ObjD K c H o p ∧ p ∉ ps ∧ (∀ k, o = .ob k → k < os.length) ∧ os.length ≤ 1000 ∧
  ∀ r H', But9 l H H' → WAt K c H' W l g (ps ++ [p]) (os ++ [o]) gv → At K H' (thD os.length) r → Q r H'
theorem scAdd : FnScope ["world", "thing"] ["world", "thing"] (defScope pAdd) := ⟨rfl, rfl, rfl, by decide +kernel, rfl, by decide +kernel, by decide +kernel⟩
theorem ok_Add (g : Glb9 mg) (z : CsD K c) (F : Fun K "added" "added" pAdd f fd) : FnOk P w K mg base CX0 1 f fd ["world", "thing"] (spAdd K c) := by
  refine F.okI scAdd (fun vs H Q E h => ?_) (fun cdv A outer s H vs Q E hr h => ?_)
  · obtain ⟨_, _, _, _, _, _, _, _, rfl, _⟩ := h; rfl
  obtain ⟨W, l, gd, ps, os, gv, o, p, rfl, hw, hv, hp, hk, hl, q⟩ := h
  refine ⟨_, pss_cons (ps_expr (pe_bm PySem.F.plainAttrs_list PySem.F.slot_list_append PySem.F.type_list_append mt_append (L3.pe_fld (pv 0)) (pa_cons (pv 1) pa_nil)))
    (pss_one (ps_ret (pe_tup (pa_cons pe_str (pa_cons (pe_op op_sub (pe_callB call_len_seq rfl g.nLen b9Len (pa_cons (L3.pe_fld (pv 0)) pa_nil)) pe_int) pa_nil))))), ?_⟩
  obtain ⟨dx, a, b, h1⟩ := hw.w
  have h2 := hw.t
  have h3 := hw.n
  refine ⟨_, rfl, W, c.W, dx, _, _, rfl, h1, z.wc, z.w3, wF_things .., .inl ⟨rfl, _, SqL.of h2⟩, _, rfl, l, _, .ref p, rfl, rfl, h2, small1000 (by rw [List.length_map]; omega), ?_⟩
  have hw' := hw.add hp hv hk
  have hb : But9 l H (upd H l (.lst (ps.map V.ref ++ [.ref p]))) := But9.put H _
  have h2' : upd H l (.lst (ps.map V.ref ++ [.ref p])) l = some (.lst (ps.map V.ref ++ [.ref p])) := upd_same
  revert hw' hb h2'
  generalize upd H l (.lst (ps.map V.ref ++ [.ref p])) = H1
  intro hw' hb h2'
  obtain ⟨dx', a', b', h1'⟩ := hw'.w
  refine ⟨_, rfl, W, c.W, dx', _, _, rfl, h1', z.wc, z.w3, wF_things .., l, _, rfl, .inl (SqL.of h2'), _, _, rfl, rfl, ?_⟩
  refine ⟨by show 2 ≤ sizeLine; decide, fun t ht => ?_⟩
  have s1 : Same H1 (upd H1 t (.tup [.str "thing", .int (((ps.map V.ref ++ [V.ref p]).length : Nat) - 1)])) := same_new ht _
  refine q _ _ (hb.trans (Same.but l s1)) (hw'.same s1) (At.new ht (AtAll2 (At_str.mpr rfl) (At_int.mpr (congrArg V.int ?_))))
  rw [List.length_append, List.length_singleton, List.length_map, h3]
  omega
/-! ### thing_of -/
def spTh (K : PySem.W.Frag) (c : ClD) : Sp := fun vs H Q _ => ∃ (W l g : Addr) (ps : List Addr) (os : List Th) (gv : List (Str × Nat)) (x : V) (d : D), vs = [.ref W, x] ∧ WAt K c H W l g ps os gv ∧ At K H d x ∧ Vd os d ∧ ∀ v, TV K c H ps os d v → Q v H
theorem scTh : FnScope ["world", "a"] ["world", "a"] (defScope pTh) := ⟨rfl, rfl, rfl, by decide +kernel, rfl, by decide +kernel, by decide +kernel⟩
theorem ok_Th (z : CsD K c) (F : Fun K "thing_of" "thing_of" pTh f fd) : FnOk P w K mg base CX0 1 f fd ["world", "a"] (spTh K c) := by
  refine F.okI scTh (fun vs H Q E h => ?_) (fun cdv A outer s H vs Q E hr h => ?_)
  · obtain ⟨_, _, _, _, _, _, _, _, rfl, _⟩ := h; rfl
  obtain ⟨W, l, gd, ps, os, gv, x, d, rfl, hw, hx, ⟨k, r, rfl, hv⟩, q⟩ := h
  refine ⟨_, pss_one (ps_ret (pe_ifExp (pt_cmpR op_eq (pe_nth (pv 1)) pe_str (nomark _)) (pe_ix (r := rIxL K) ix_list (L3.pe_fld (pv 0)) (pe_nth (pv 1)) (fun _ _ => rfl)) pe_non)), ?_⟩
  obtain ⟨dx, a, b, h1⟩ := hw.w
  refine ⟨_, rfl, 0, _, _, rfl, hx, rfl, fun yk hyk => ?_⟩
  rw [At_str.mp hyk]
  refine ⟨rfl, _, rfl, ?_⟩
  rw [decS]
  by_cases hk : k = "thing"
  · obtain ⟨i, rfl, hi⟩ := hv hk
    subst hk
    rw [decide_eq_true rfl]
    obtain ⟨p, ep, hp⟩ := hw.at (List.getElem?_eq_getElem hi)
    refine iteT ⟨_, rfl, W, c.W, dx, _, _, rfl, h1, z.wc, z.w3, wF_things .., _, rfl, 1, _, _, rfl, hx, rfl, fun yi hyi => ?_⟩
    rw [At_int.mp hyi]
    refine ⟨l, _, i, .ref p, rfl, rfl, SqL.of hw.t, atI_nat (by rw [List.getElem?_map, ep]; rfl), q _ (.inr ⟨i, p, _, rfl, ?_, ep, List.getElem?_eq_getElem hi, rfl, hp⟩)⟩
    exact (thO_th os i).trans (List.getElem?_eq_getElem hi)
  · rw [decide_eq_false hk]
    exact iteF (q _ (.inl ⟨thO_no os r hk, rfl⟩))
/-! ### known -/
def spKn (K : PySem.W.Frag) (c : ClD) : Sp := fun vs H Q _ => ∃ (W l g : Addr) (ps : List Addr) (os : List Th) (gv : List (Str × Nat)) (n : Str) (i : Nat), vs = [.ref W, .str n] ∧ WAt K c H W l g ps os gv ∧ (n, i) ∈ gv ∧ ∀ v, At K H (thD i) v → Q v H
theorem scKn : FnScope ["world", "name"] ["world", "name"] (defScope pKn) := ⟨rfl, rfl, rfl, by decide +kernel, rfl, by decide +kernel, by decide +kernel⟩
theorem ok_Kn (z : CsD K c) (F : Fun K "known" "known" pKn f fd) : FnOk P w K mg base CX0 1 f fd ["world", "name"] (spKn K c) := by
  refine F.okI scKn (fun vs H Q E h => ?_) (fun cdv A outer s H vs Q E hr h => ?_)
  · obtain ⟨_, _, _, _, _, _, _, _, rfl, _⟩ := h; rfl
  obtain ⟨W, l, gd, ps, os, gv, n, i, rfl, hw, hn, q⟩ := h
  refine ⟨_, pss_one (ps_ret (.mk (L2.pe_dget1 (hu_of hr) (LE.out (L3.pe_fld (pv 0))) (LE.out (pv 1)) ⟨rfl, rfl, rfl, rfl⟩))), ?_⟩
  obtain ⟨dx, a, b, h1⟩ := hw.w
  obtain ⟨kvs, hk, _, hv⟩ := hw.v
  obtain ⟨v, e, hA⟩ := hv n i hn
  refine ⟨_, rfl, W, c.W, dx, _, _, rfl, h1, z.wc, z.w4, wF_given .., gd, rfl, .inl ⟨kvs, .inl hk⟩, _, rfl, _, DGet.k (k := .inr n) hk, ?_⟩
  rw [e]
  exact q v hA
/-! ### is_class, is_giver -/
def spIs (K : PySem.W.Frag) (c : ClD) (g k o r : Bool) : Sp := fun vs H Q _ => ∃ (W l gd : Addr) (ps : List Addr) (os : List Th) (gv : List (Str × Nat)) (x : V) (d : D), vs = [.ref W, x] ∧ WAt K c H W l gd ps os gv ∧ At K H d x ∧ Vd os d ∧ Q (.bl (tagB g k o r (thO os d))) H
theorem scIsC : FnScope ["world", "a"] ["world", "a"] (defScope pIsC) := ⟨rfl, rfl, rfl, by decide +kernel, rfl, by decide +kernel, by decide +kernel⟩
theorem ok_IsC (g : Glb9 mg) (z : CsD K c) (hK : mg "Kind" = some (.ref c.Kd)) (F : Fun K "is_class" "is_class" pIsC f fd) (dT : Def P w K mg base "thing_of" ["world", "a"] 1 (spTh K c)) : FnOk P w K mg base CX0 2 f fd ["world", "a"] (spIs K c false true false false) := by
  refine F.okI scIsC (fun vs H Q E h => ?_) (fun cdv A outer s H vs Q E hr h => ?_)
  · obtain ⟨_, _, _, _, _, _, _, _, rfl, _⟩ := h; rfl
  obtain ⟨W, l, gd, ps, os, gv, x, d, rfl, hw, hx, hv, q⟩ := h
  refine ⟨_, pss_one (ps_ret (pe_callB call_isO rfl g.nIsi b9Isi (pa_cons (L3.pe_def dT hr (by decide) rfl (pa_cons (pv 0) (pa_cons (pv 1) pa_nil))) (pa_cons (pe_glob (v := .ref c.Kd) rfl hK rfl) pa_nil)))), ?_⟩
  exact ⟨_, rfl, _, rfl, W, l, gd, ps, os, gv, x, d, rfl, hw, hx, hv, fun v t => ⟨_, c.Kd, _, rfl, t.is z z.tK, q⟩⟩
theorem scIsG : FnScope ["world", "a"] ["world", "a"] (defScope pIsG) := ⟨rfl, rfl, rfl, by decide +kernel, rfl, by decide +kernel, by decide +kernel⟩
theorem ok_IsG (g : Glb9 mg) (z : CsD K c) (hK : mg "Giver" = some (.ref c.Gr)) (F : Fun K "is_giver" "is_giver" pIsG f fd) (dT : Def P w K mg base "thing_of" ["world", "a"] 1 (spTh K c)) : FnOk P w K mg base CX0 2 f fd ["world", "a"] (spIs K c false false false true) := by
  refine F.okI scIsG (fun vs H Q E h => ?_) (fun cdv A outer s H vs Q E hr h => ?_)
  · obtain ⟨_, _, _, _, _, _, _, _, rfl, _⟩ := h; rfl
  obtain ⟨W, l, gd, ps, os, gv, x, d, rfl, hw, hx, hv, q⟩ := h
  refine ⟨_, pss_one (ps_ret (pe_callB call_isO rfl g.nIsi b9Isi (pa_cons (L3.pe_def dT hr (by decide) rfl (pa_cons (pv 0) (pa_cons (pv 1) pa_nil))) (pa_cons (pe_glob (v := .ref c.Gr) rfl hK rfl) pa_nil)))), ?_⟩
  exact ⟨_, rfl, _, rfl, W, l, gd, ps, os, gv, x, d, rfl, hw, hx, hv, fun v t => ⟨_, c.Gr, _, rfl, t.is z z.tR, q⟩⟩
/-! ### frame_of, state_of, set_state -/
def spFrO (K : PySem.W.Frag) (c : ClD) : Sp := fun vs H Q _ => ∃ (W l gd : Addr) (ps : List Addr) (os : List Th) (gv : List (Str × Nat)) (x : V) (i : Nat) (fr : V) (st : Str) (m h : Int), vs = [.ref W, x] ∧ WAt K c H W l gd ps os gv ∧ At K H (thD i) x ∧ os[i]? = some (.gr fr st m h) ∧ Q fr H
def spStO (K : PySem.W.Frag) (c : ClD) : Sp := fun vs H Q _ => ∃ (W l gd : Addr) (ps : List Addr) (os : List Th) (gv : List (Str × Nat)) (x : V) (i : Nat) (fr : V) (st : Str) (m h : Int), vs = [.ref W, x] ∧ WAt K c H W l gd ps os gv ∧ At K H (thD i) x ∧ os[i]? = some (.gr fr st m h) ∧ Q (.str st) H
theorem lt_of_some {α : Type} {xs : List α} {i : Nat} {x : α} (h : xs[i]? = some x) : i < xs.length := (List.getElem?_eq_some_iff.mp h).1
theorem scFrO : FnScope ["world", "g"] ["world", "g"] (defScope pFrO) := ⟨rfl, rfl, rfl, by decide +kernel, rfl, by decide +kernel, by decide +kernel⟩
theorem ok_FrO (z : CsD K c) (F : Fun K "frame_of" "frame_of" pFrO f fd) (dT : Def P w K mg base "thing_of" ["world", "a"] 1 (spTh K c)) : FnOk P w K mg base CX0 2 f fd ["world", "g"] (spFrO K c) := by
  refine F.okI scFrO (fun vs H Q E h => ?_) (fun cdv A outer s H vs Q E hr h => ?_)
  · obtain ⟨_, _, _, _, _, _, _, _, _, _, _, _, rfl, _⟩ := h; rfl
  obtain ⟨W, l, gd, ps, os, gv, x, i, fr, st, m, hh, rfl, hw, hx, ho, q⟩ := h
  refine ⟨_, pss_one (ps_ret (L3.pe_fld (L3.pe_def dT hr (by decide) rfl (pa_cons (pv 0) (pa_cons (pv 1) pa_nil))))), ?_⟩
  refine ⟨_, rfl, _, rfl, W, l, gd, ps, os, gv, x, thD i, rfl, hw, hx, Vd.th (lt_of_some ho), fun v t => ?_⟩
  obtain ⟨p, _, rfl, dx, v1, hp⟩ := t.th ho
  exact ⟨p, c.Gr, dx, _, _, rfl, hp, z.rc, z.r2, grF_frame .., q⟩
theorem scStO : FnScope ["world", "g"] ["world", "g"] (defScope pStO) := ⟨rfl, rfl, rfl, by decide +kernel, rfl, by decide +kernel, by decide +kernel⟩
theorem ok_StO (z : CsD K c) (F : Fun K "state_of" "state_of" pStO f fd) (dT : Def P w K mg base "thing_of" ["world", "a"] 1 (spTh K c)) : FnOk P w K mg base CX0 2 f fd ["world", "g"] (spStO K c) := by
  refine F.okI scStO (fun vs H Q E h => ?_) (fun cdv A outer s H vs Q E hr h => ?_)
  · obtain ⟨_, _, _, _, _, _, _, _, _, _, _, _, rfl, _⟩ := h; rfl
  obtain ⟨W, l, gd, ps, os, gv, x, i, fr, st, m, hh, rfl, hw, hx, ho, q⟩ := h
  refine ⟨_, pss_one (ps_ret (L3.pe_fld (L3.pe_def dT hr (by decide) rfl (pa_cons (pv 0) (pa_cons (pv 1) pa_nil))))), ?_⟩
  refine ⟨_, rfl, _, rfl, W, l, gd, ps, os, gv, x, thD i, rfl, hw, hx, Vd.th (lt_of_some ho), fun v t => ?_⟩
  obtain ⟨p, _, rfl, dx, v1, hp⟩ := t.th ho
  exact ⟨p, c.Gr, dx, _, _, rfl, hp, z.rc, z.r3, grF_state .., q⟩
def spStS (K : PySem.W.Frag) (c : ClD) : Sp := fun vs H Q _ => ∃ (W l gd : Addr) (ps : List Addr) (os : List Th) (gv : List (Str × Nat)) (x : V) (i : Nat) (fr : V) (st st' : Str) (m h : Int), vs = [.ref W, x, .str st'] ∧ WAt K c H W l gd ps os gv ∧ At K H (thD i) x ∧ os[i]? = some (.gr fr st m h) ∧
  ∀ H', Chg c l H H' → WAt K c H' W l gd ps (os.set i (.gr fr st' m h)) gv → Q .non H'
theorem scStS : FnScope ["world", "g", "state", "thing"] ["world", "g", "state"] (defScope pStS) := ⟨rfl, rfl, rfl, by decide +kernel, rfl, by decide +kernel, by decide +kernel⟩
theorem ok_StS (z : CsD K c) (F : Fun K "set_state" "set_state" pStS f fd) (dT : Def P w K mg base "thing_of" ["world", "a"] 1 (spTh K c)) : FnOk P w K mg base CX0 2 f fd ["world", "g", "state"] (spStS K c) := by
  refine F.okI scStS (fun vs H Q E h => ?_) (fun cdv A outer s H vs Q E hr h => ?_)
  · obtain ⟨_, _, _, _, _, _, _, _, _, _, _, _, _, rfl, _⟩ := h; rfl
  obtain ⟨W, l, gd, ps, os, gv, x, i, fr, st, st', m, hh, rfl, hw, hx, ho, q⟩ := h
  refine ⟨_, pss_cons (ps_set (i := 3) scStS.nd rfl (Or.inl rfl) (L3.pe_def dT hr (by decide) rfl (pa_cons (pv 0) (pa_cons (pv 1) pa_nil)))) (pss_one (L3.ps_fld (pv 3) (pv 2))), ?_⟩
  refine ⟨_, rfl, _, rfl, W, l, gd, ps, os, gv, x, thD i, rfl, hw, hx, Vd.th (lt_of_some ho), fun v t => ?_⟩
  obtain ⟨p, ep, rfl, dx, v1, hp⟩ := t.th ho
  refine ⟨_, rfl, _, rfl, p, c.Gr, dx, _, rfl, hp, z.rc, z.r3, by show 5 < 1000; decide, ?_⟩
  rw [grF_pst]
  have h2 := hw.put z.nWR (fr' := fr) (st' := st') (m' := m) (h' := hh) ep ho hp
  exact q _ h2.2 h2.1
end
end GS
set_option Elab.async false
set_option linter.all false
set_option maxRecDepth 100000
set_option maxHeartbeats 4000000
namespace GS
open PySem PyProof.Rows
open L2 hiding pe_int pe_bl pe_non pe_str pv pe_glob pe_op pe_cmpR pe_one pe_and pe_ifExp pe_ix po_none po_some pe_slice pa_nil pa_cons pe_lst pe_tup pe_dnewK pe_callB pe_callTy pe_bm pt_cmpR pt_val pt_not pw_and1 pw_or1 pw_and pw_or pg_name pgs_nil pgs_cons pg_tup pi_list pi_tup pi_range1 ps_ret ps_expr ps_set ps_asg ps_if ps_for pss_nil pss_cons pss_one
open L3
abbrev pNew : Stmt := topd 17
abbrev pIsF : Stmt := topd 19
abbrev pObj : Stmt := topd 20
abbrev pGiv : Stmt := topd 22
abbrev pCnt : Stmt := topd 23
abbrev pMade : Stmt := topd 29
abbrev pFlt : Stmt := topd 30
theorem b9Dict : bootBuiltins "dict" = some (.type "dict") := by decide +kernel
theorem op_inD {X : Cx} {k : Nat} (hr : Room k X.A) : OpR X (compareOp .In) (rInD X false) := by
  intro pins s σ H x y v u Q I rx ry h
  obtain ⟨d, ds, hx, hy, hd, q⟩ := h
  obtain ⟨p, xs, rfl, hq, ha⟩ := At_tup.mp hy
  cases ry
  obtain ⟨its, r, pl, hz⟩ := I.tuple hq
  obtain ⟨f, f1, f2⟩ := mem_D I rx hx ha r X.A.in1 (fun e he => by have := hr.units; have := hd e he; show X.A.units + 1 + _ < _; omega)
  refine SeqAt.in_tupleAt f pl (fun w hw => f1 w (by simpa using hw)) ⟨.bl _, H, I, rfl, ?_⟩
  rw [show its.toArray.any f = its.any f by simp, f2]
  exact q
/-! ### dict(d) -/
def rDictD : List V → Hp → VK → Prop := fun xs H Q => ∃ (p : Addr) (kvs : List (Key × V)), xs = [.ref p] ∧ H p = some (.dK kvs) ∧ ∀ l, H l = none → Q (.ref l) (upd H l (.dK kvs))
theorem call_dictD {X : Cx} : CallR X (.type "dict") rDictD := by
  intro pins s σ H xs us Q I r h
  obtain ⟨p, kvs, rfl, hp, q⟩ := h
  obtain ⟨u, rfl, ru⟩ := vals1 r
  cases ru
  obtain ⟨hz, hs, vs, hkv, hd⟩ := (show ObjOk X.prog X.w H s.heap p (.dK kvs) from I.hok p _ hp)
  have hl : kvs.length = vs.length := hkv.length
  refine kt_call_dict hs hd (by omega) fun h' hd' hsb => ?_
  have keep : ∀ b o, s.heap.get? b = some o → h'.get? b = some o := fun b o e => (hsb.2 b (Nat.ne_of_lt (Heap.lt_size e))).trans (Heap.get?_push_of_some _ e)
  refine ⟨.ref s.heap.objs.size, _, I.laid (t' := s.toks) (o := .dK kvs) keep (Nat.le_refl _) ⟨hz, ?_, vs, hkv, hd'⟩, rfl, q _ (I.hok.fresh (Nat.le_refl _))⟩
  exact beq_false_of_ne (Nat.ne_of_gt I.big)
theorem new_ins {H1 : Hp} {C x dx : Addr} (hx : H1 x = none) (hd : H1 dx = none) (hne : dx ≠ x) : Same H1 (upd (upd H1 dx (.own x)) x (.ins C dx [])) ∧ upd (upd H1 dx (.own x)) x (.ins C dx []) x = some (.ins C dx []) := by
  refine ⟨(same_new hd _).trans (same_new ?_ _), upd_same⟩
  rw [upd_ne (Ne.symm hne)]; exact hx
theorem le_imp {X : Cx} {e : Expr} {t t' : TE} (h : LE X e t) (hi : ∀ σ H Q, t' σ H Q → t σ H Q) : LE X e t' := .mk fun pins s σ H Q I q => h.out pins s σ H Q I (hi σ H Q q)
theorem eqD_th (i j : Nat) : eqD (thD i) (thD j) = decide (i = j) := by
  by_cases h : i = j
  · rw [h, eqD_refl, decide_eq_true rfl]
  · rw [decide_eq_false h]
    unfold thD
    simp only [eqD, eqDs]
    simp
    omega
theorem dep_th (i : Nat) : dep (thD i) = 1 := by
  unfold thD
  rw [GS.dep, deps, deps, deps, dep_str, dep_int]; rfl
def TreeG (K : PySem.W.Frag) (mg : Str → Option Value) (x : Str) (ds : List D) : Prop := ∃ p vs, mg x = some (.ref p) ∧ ∀ H, SqT K H p vs ∧ AtAll K H ds vs
/-- whether it is a class under Fault; whether it is a fault -/
def isFC : Option Th → Bool
  | some (.kd ns) => decide (9 ∈ ns)
  | _ => false
def isF (os : List Th) : Option Th → Bool
  | some (.ob k) => isFC os[k]?
  | _ => false
section
variable {P : Program} {w : World} {K : PySem.W.Frag} {mg : Str → Option Value} {base : Heap} {f : Addr} {fd : FuncData} {c : ClD}
/-! ### new_class -/
def spNew (K : PySem.W.Frag) (c : ClD) : Sp := fun vs H Q _ => ∃ (W l g : Addr) (ps : List Addr) (os : List Th) (gv : List (Str × Nat)) (v1 v2 v4 : V) (d : Addr) (kvs : List (Key × V)) (ns : List Nat), vs = [.ref W, v1, v2, .ref d, v4] ∧ WAt K c H W l g ps os gv ∧ os.length ≤ 1000 ∧
  RowAt K H (ns.map thD) v2 ∧ ns.length ≤ 1000 ∧ H d = some (.dK kvs) ∧ ∀ r H' p, But9 l H H' → WAt K c H' W l g (ps ++ [p]) (os ++ [.kd (os.length :: ns)]) gv → At K H' (thD os.length) r → Q r H'
/-- (own,) + tuple(behind) -/
def tOwn (K : PySem.W.Frag) : TE := fun σ H Q => ∃ (x5 x2 : V) (d : D) (ds : List D), σ[5]? = some (some x5) ∧ σ[2]? = some (some x2) ∧ At K H d x5 ∧ RowAt K H ds x2 ∧ ds.length ≤ 1000 ∧ ∀ v H', Same H H' → At K H' (.tup (d :: ds)) v → Q v H'
theorem scNew : FnScope ["world", "name", "behind", "fields", "is_given", "own"] ["world", "name", "behind", "fields", "is_given"] (defScope pNew) := ⟨rfl, rfl, rfl, by decide +kernel, rfl, by decide +kernel, by decide +kernel⟩
theorem ok_New (g : Glb9 mg) (z : CsD K c) (M : MkDef P w K mg base "Kind" c.Kd ["self", "name", "order", "fields", "is_given"] 1 (spKdI c.Kd)) (F : Fun K "new_class" "new_class" pNew f fd) (dA : Def P w K mg base "added" ["world", "thing"] 1 (spAdd K c)) : FnOk P w K mg base CX0 3 f fd ["world", "name", "behind", "fields", "is_given"] (spNew K c) := by
  refine F.okI scNew (fun vs H Q E h => ?_) (fun cdv A outer s H vs Q E hr h => ?_)
  · obtain ⟨_, _, _, _, _, _, _, _, _, _, _, _, rfl, _⟩ := h; rfl
  obtain ⟨W, l, gd, ps, os, gv, v1, v2, v4, d, kvs, ns, rfl, hw, hl, hb, hn, hd, q⟩ := h
  refine ⟨_, pss_cons (ps_set (i := 5) scNew.nd rfl (Or.inl rfl) (pe_tup (pa_cons pe_str (pa_cons (pe_callB call_len_seq rfl g.nLen b9Len (pa_cons (L3.pe_fld (pv 0)) pa_nil)) pa_nil))))
    (pss_one (ps_ret (L3.pe_def dA hr (by decide) rfl (pa_cons (pv 0) (pa_cons (L3.pe_mk M hr (by decide) rfl (pa_cons (pv 1) (pa_cons (le_imp (t' := tOwn K) (pe_op op_catT (pe_tup (pa_cons (pv 5) pa_nil)) (pe_callTy call_tuple_of rfl g.nTuple b9Tuple (pa_cons (pv 2) pa_nil))) ?cat) (pa_cons (pe_callTy call_dictD rfl g.nDict b9Dict (pa_cons (pv 3) pa_nil)) (pa_cons (pv 4) pa_nil))))) pa_nil))))), ?main⟩
  case cat =>
    rintro σ H Q ⟨x5, x2, d, ds, e5, e2, h5, hr2, hl, q⟩
    refine ⟨x5, e5, by show 1 ≤ sizeLine; decide, fun p hp => ?_⟩
    have s1 : Same H (upd H p (.tup [x5])) := same_new hp _
    have a1 : SqT K (upd H p (.tup [x5])) p [x5] := SqT.of upd_same
    revert s1 a1
    generalize upd H p (.tup [x5]) = H1
    intro s1 a1
    obtain ⟨pb, vb, rfl, hq, hA⟩ := hr2
    have lb := hA.len
    have fin : ∀ (b : Addr) (H2 : Hp), Same H1 H2 → SqT K H2 b vb → rCatT K (.ref p) (.ref b) H2 Q := fun b H2 s2 hb => by
      have s12 := s1.trans s2
      refine ⟨p, b, [x5], vb, rfl, rfl, Same.seqT s2 a1, hb, by simp, small (by rw [List.length_singleton]; omega), fun e => ?_, fun e r hr => ?_⟩
      · subst e
        have ed : ds = [] := List.length_eq_zero_iff.mp (by simpa using lb.symm)
        subst ed
        exact q _ _ s12 (At_tup.mpr ⟨p, _, rfl, Same.seqT s2 a1, AtAll.one1 (At.same s12 _ _ h5)⟩)
      · have s3 : Same H2 (upd H2 r (.tup ([x5] ++ vb))) := same_new hr _
        exact q _ _ (s12.trans s3) (At_tup.mpr ⟨r, _, rfl, SqT.of upd_same, AtAll_cons.mpr ⟨_, _, rfl, At.same (s12.trans s3) _ _ h5, AtAll.same (s12.trans s3) _ _ hA⟩⟩)
    refine ⟨_, e2, pb, vb, rfl, ?_⟩
    rcases hq with hq | hq
    · exact .inl ⟨s1.seq hq, fun b hb => fin b _ (same_new hb _) (SqT.of upd_same)⟩
    · exact .inr ⟨Same.seqT s1 hq, fin pb H1 (Same.refl _) (Same.seqT s1 hq)⟩
  case main =>
    obtain ⟨dx, a, b, h1⟩ := hw.w
    have h2 := hw.t
    have h3 : (ps.map V.ref).length = os.length := by rw [List.length_map]; exact hw.n
    refine ⟨_, rfl, W, c.W, dx, _, _, rfl, h1, z.wc, z.w3, wF_things .., l, _, rfl, .inl (SqL.of h2), by show 2 ≤ sizeLine; decide, fun p hp => ?_⟩
    have s1 : Same H (upd H p (.tup [.str "thing", .int ((ps.map V.ref).length : Nat)])) := same_new hp _
    have a1 : At K (upd H p (.tup [.str "thing", .int ((ps.map V.ref).length : Nat)])) (thD os.length) (.ref p) := At.new hp (AtAll2 (At_str.mpr rfl) (At_int.mpr (by rw [h3])))
    revert s1 a1
    generalize upd H p (.tup [.str "thing", .int ((ps.map V.ref).length : Nat)]) = H1
    intro s1 a1
    refine ⟨_, rfl, _, rfl, _, _, thD os.length, ns.map thD, rfl, rfl, a1, hb.same s1, by rw [List.length_map]; exact hn, fun vo H2 s2 hvo => ?_⟩
    have s12 := s1.trans s2
    refine ⟨_, rfl, d, kvs, rfl, s12 _ _ hd, fun dn hdn => ?_⟩
    have s3 : Same H2 (upd H2 dn (.dK kvs)) := same_new hdn _
    revert s3
    generalize upd H2 dn (.dK kvs) = H3
    intro s3
    have s13 := s12.trans s3
    refine ⟨_, rfl, fun x dx' hx hdx hne => ?_⟩
    obtain ⟨s4, c4⟩ := new_ins (C := c.Kd) hx hdx hne
    revert s4 c4
    generalize upd (upd H3 dx' (.own x)) x (.ins c.Kd dx' []) = H4
    intro s4 c4
    refine ⟨x, dx', v1, vo, .ref dn, v4, rfl, c4, fun H5 hB hx5 => ⟨rfl, ?_⟩⟩
    have s5 : Same H3 H5 := fun p o e => by
      rw [hB p (fun y => by rw [y, hx] at e; cases e)]; exact s4 _ _ e
    have s15 := s13.trans s5
    refine ⟨W, l, gd, ps, os, gv, .kd (os.length :: ns), x, rfl, hw.same s15, ⟨dx', v1, vo, .ref dn, v4, hx5, At.same (s3.trans s5) _ _ hvo⟩, (hw.same s13).fresh hx, fun k e => (nomatch e), hl, fun r H6 b6 w6 a6 => q r H6 x ((Same.but l s15).trans b6) w6 a6⟩
/-! ### giver, new_count -/
def spGiv (K : PySem.W.Frag) (c : ClD) : Sp := fun vs H Q _ => ∃ (W l g : Addr) (ps : List Addr) (os : List Th) (gv : List (Str × Nat)) (v1 fr : V), vs = [.ref W, v1, fr] ∧ WAt K c H W l g ps os gv ∧ os.length ≤ 1000 ∧
  ∀ r H' p, But9 l H H' → WAt K c H' W l g (ps ++ [p]) (os ++ [.gr fr "new" 0 0]) gv → At K H' (thD os.length) r → Q r H'
theorem scGiv : FnScope ["world", "name", "frame"] ["world", "name", "frame"] (defScope pGiv) := ⟨rfl, rfl, rfl, by decide +kernel, rfl, by decide +kernel, by decide +kernel⟩
theorem ok_Giv (M : MkDef P w K mg base "Giver" c.Gr ["self", "name", "frame", "many"] 1 (spGrI c.Gr)) (F : Fun K "giver" "giver" pGiv f fd) (dA : Def P w K mg base "added" ["world", "thing"] 1 (spAdd K c)) : FnOk P w K mg base CX0 3 f fd ["world", "name", "frame"] (spGiv K c) := by
  refine F.okI scGiv (fun vs H Q E h => ?_) (fun cdv A outer s H vs Q E hr h => ?_)
  · obtain ⟨_, _, _, _, _, _, _, _, rfl, _⟩ := h; rfl
  obtain ⟨W, l, gd, ps, os, gv, v1, fr, rfl, hw, hl, q⟩ := h
  refine ⟨_, pss_one (ps_ret (L3.pe_def dA hr (by decide) rfl (pa_cons (pv 0) (pa_cons (L3.pe_mk M hr (by decide) rfl (pa_cons (pv 1) (pa_cons (pv 2) (pa_cons pe_int pa_nil)))) pa_nil)))), ?_⟩
  refine ⟨_, rfl, _, rfl, _, rfl, fun x dx hx hdx hne => ?_⟩
  obtain ⟨s1, c1⟩ := new_ins (C := c.Gr) hx hdx hne
  revert s1 c1
  generalize upd (upd H dx (.own x)) x (.ins c.Gr dx []) = H1
  intro s1 c1
  refine ⟨x, dx, v1, fr, .int 0, rfl, c1, fun H2 hB hx2 => ⟨rfl, ?_⟩⟩
  have s2 : Same H H2 := fun p o e => by
    rw [hB p (fun y => by rw [y, hx] at e; cases e)]; exact s1 _ _ e
  exact ⟨W, l, gd, ps, os, gv, .gr fr "new" 0 0, x, rfl, hw.same s2, ⟨dx, v1, hx2⟩, hw.fresh hx, fun k e => (nomatch e), hl, fun r H3 b3 w3 a3 => q r H3 x ((Same.but l s2).trans b3) w3 a3⟩
def spCnt (K : PySem.W.Frag) (c : ClD) : Sp := fun vs H Q _ => ∃ (W l g : Addr) (ps : List Addr) (os : List Th) (gv : List (Str × Nat)) (m : Int), vs = [.ref W, .int m] ∧ WAt K c H W l g ps os gv ∧ os.length ≤ 1000 ∧
  ∀ r H' p, But9 l H H' → WAt K c H' W l g (ps ++ [p]) (os ++ [.gr .non "new" m 0]) gv → At K H' (thD os.length) r → Q r H'
theorem scCnt : FnScope ["world", "many"] ["world", "many"] (defScope pCnt) := ⟨rfl, rfl, rfl, by decide +kernel, rfl, by decide +kernel, by decide +kernel⟩
theorem ok_Cnt (M : MkDef P w K mg base "Giver" c.Gr ["self", "name", "frame", "many"] 1 (spGrI c.Gr)) (F : Fun K "new_count" "new_count" pCnt f fd) (dA : Def P w K mg base "added" ["world", "thing"] 1 (spAdd K c)) : FnOk P w K mg base CX0 3 f fd ["world", "many"] (spCnt K c) := by
  refine F.okI scCnt (fun vs H Q E h => ?_) (fun cdv A outer s H vs Q E hr h => ?_)
  · obtain ⟨_, _, _, _, _, _, _, rfl, _⟩ := h; rfl
  obtain ⟨W, l, gd, ps, os, gv, m, rfl, hw, hl, q⟩ := h
  refine ⟨_, pss_one (ps_ret (L3.pe_def dA hr (by decide) rfl (pa_cons (pv 0) (pa_cons (L3.pe_mk M hr (by decide) rfl (pa_cons pe_str (pa_cons pe_non (pa_cons (pv 1) pa_nil)))) pa_nil)))), ?_⟩
  refine ⟨_, rfl, _, rfl, fun x dx hx hdx hne => ?_⟩
  obtain ⟨s1, c1⟩ := new_ins (C := c.Gr) hx hdx hne
  revert s1 c1
  generalize upd (upd H dx (.own x)) x (.ins c.Gr dx []) = H1
  intro s1 c1
  refine ⟨x, dx, _, .non, .int m, rfl, c1, fun H2 hB hx2 => ⟨rfl, ?_⟩⟩
  have s2 : Same H H2 := fun p o e => by
    rw [hB p (fun y => by rw [y, hx] at e; cases e)]; exact s1 _ _ e
  exact ⟨W, l, gd, ps, os, gv, .gr .non "new" m 0, x, rfl, hw.same s2, ⟨dx, _, hx2⟩, hw.fresh hx, fun k e => (nomatch e), hl, fun r H3 b3 w3 a3 => q r H3 x ((Same.but l s2).trans b3) w3 a3⟩
/-! ### is_fault_class, is_fault -/
def spFC (K : PySem.W.Frag) (c : ClD) : Sp := fun vs H Q _ => ∃ (W l gd : Addr) (ps : List Addr) (os : List Th) (gv : List (Str × Nat)) (x : V) (d : D), vs = [.ref W, x] ∧ WAt K c H W l gd ps os gv ∧ At K H d x ∧ Vd os d ∧ ((("Fault" : Str), 9) : Str × Nat) ∈ gv ∧ Q (.bl (isFC (thO os d))) H
theorem scFC : FnScope ["world", "a"] ["world", "a"] (defScope pIsF) := ⟨rfl, rfl, rfl, by decide +kernel, rfl, by decide +kernel, by decide +kernel⟩
theorem th_any (n : Nat) : ∀ ns : List Nat, ((ns.map thD).any fun e => eqD e (thD n)) = decide (n ∈ ns)
  | [] => by simp
  | m :: ns => by
    rw [List.map_cons, List.any_cons, th_any n ns, eqD_th, Bool.eq_iff_iff]
    simp only [Bool.or_eq_true, decide_eq_true_eq, List.mem_cons]
    exact ⟨fun h => h.imp Eq.symm id, fun h => h.imp Eq.symm id⟩
theorem ok_FC (z : CsD K c) (F : Fun K "is_fault_class" "is_fault_class" pIsF f fd) (dC : Def P w K mg base "is_class" ["world", "a"] 2 (spIs K c false true false false)) (dK : Def P w K mg base "known" ["world", "name"] 1 (spKn K c)) (dT : Def P w K mg base "thing_of" ["world", "a"] 1 (spTh K c)) : FnOk P w K mg base CX0 3 f fd ["world", "a"] (spFC K c) := by
  refine F.okI scFC (fun vs H Q E h => ?_) (fun cdv A outer s H vs Q E hr h => ?_)
  · obtain ⟨_, _, _, _, _, _, _, _, rfl, _⟩ := h; rfl
  obtain ⟨W, l, gd, ps, os, gv, x, d, rfl, hw, hx, hv, hg, q⟩ := h
  refine ⟨_, pss_one (ps_ret (pe_and (L3.pe_def dC hr (by decide) rfl (pa_cons (pv 0) (pa_cons (pv 1) pa_nil))) (pe_one (pe_cmpR (op_inD hr) (L3.pe_def dK hr (by decide) rfl (pa_cons (pv 0) (pa_cons pe_str pa_nil))) (L3.pe_fld (L3.pe_def dT hr (by decide) rfl (pa_cons (pv 0) (pa_cons (pv 1) pa_nil)))) rfl)))), ?_⟩
  refine ⟨_, rfl, _, rfl, W, l, gd, ps, os, gv, x, d, rfl, hw, hx, hv, _, rfl, ?_⟩
  have nk : tagB false true false false (thO os d) = false → isFC (thO os d) = false := fun e => by
    cases ho : thO os d with
    | none => rfl
    | some o => rw [ho] at e; cases o <;> first | rfl | cases e
  refine ite_b9 (fun e => ?_) (fun e => by rw [nk e] at q; exact q)
  refine ⟨_, rfl, W, l, gd, ps, os, gv, "Fault", 9, rfl, hw, hg, fun vf hvf => ?_⟩
  refine ⟨_, rfl, _, rfl, W, l, gd, ps, os, gv, x, d, rfl, hw, hx, hv, fun v t => ?_⟩
  rcases t with ⟨h0, _⟩ | ⟨i, p, o, h1, h2, h3, h4, rfl, h6⟩
  · rw [h0] at e; cases e
  rw [h2] at e q
  cases o with
  | kd ns =>
    obtain ⟨dx, v1, vo, v3, v4, hp, ha⟩ := h6
    refine ⟨p, c.Kd, dx, _, _, rfl, hp, z.kc, z.k2, kdF_order .., thD 9, ns.map thD, hvf, ha, fun e he => ?_, ?_⟩
    · obtain ⟨n, _, rfl⟩ := List.mem_map.mp he
      rw [dep_th]; decide
    · rw [if_neg Bool.false_ne_true, th_any]
      exact q
  | gvn n => cases e
  | gr fr st m hh => cases e
  | ob n => cases e
def spFlt (K : PySem.W.Frag) (c : ClD) : Sp := fun vs H Q _ => ∃ (W l gd : Addr) (ps : List Addr) (os : List Th) (gv : List (Str × Nat)) (x : V) (d : D), vs = [.ref W, x] ∧ WAt K c H W l gd ps os gv ∧ At K H d x ∧ Vd os d ∧ ((("Fault" : Str), 9) : Str × Nat) ∈ gv ∧ Q (.bl (isF os (thO os d))) H
theorem scFlt : FnScope ["world", "a", "thing"] ["world", "a"] (defScope pFlt) := ⟨rfl, rfl, rfl, by decide +kernel, rfl, by decide +kernel, by decide +kernel⟩
theorem ok_Flt (g : Glb9 mg) (z : CsD K c) (hO : mg "Object" = some (.ref c.O)) (F : Fun K "is_fault" "is_fault" pFlt f fd) (dFC : Def P w K mg base "is_fault_class" ["world", "a"] 3 (spFC K c)) (dT : Def P w K mg base "thing_of" ["world", "a"] 1 (spTh K c)) : FnOk P w K mg base CX0 4 f fd ["world", "a"] (spFlt K c) := by
  refine F.okI scFlt (fun vs H Q E h => ?_) (fun cdv A outer s H vs Q E hr h => ?_)
  · obtain ⟨_, _, _, _, _, _, _, _, rfl, _⟩ := h; rfl
  obtain ⟨W, l, gd, ps, os, gv, x, d, rfl, hw, hx, hv, hg, q⟩ := h
  refine ⟨_, pss_cons (ps_set (i := 2) scFlt.nd rfl (Or.inl rfl) (L3.pe_def dT hr (by decide) rfl (pa_cons (pv 0) (pa_cons (pv 1) pa_nil))))
    (pss_one (ps_ret (pe_and (pe_callB call_isO rfl g.nIsi b9Isi (pa_cons (pv 2) (pa_cons (pe_glob (v := .ref c.O) rfl hO rfl) pa_nil))) (pe_one (L3.pe_def dFC hr (by decide) rfl (pa_cons (pv 0) (pa_cons (L3.pe_fld (pv 2)) pa_nil))))))), ?_⟩
  refine ⟨_, rfl, _, rfl, W, l, gd, ps, os, gv, x, d, rfl, hw, hx, hv, fun v t => ?_⟩
  refine ⟨_, rfl, v, c.O, _, rfl, t.is z z.tO, _, rfl, ?_⟩
  have nk : tagB false false true false (thO os d) = false → isF os (thO os d) = false := fun e => by
    cases ho : thO os d with
    | none => rfl
    | some o => rw [ho] at e; cases o <;> first | rfl | cases e
  refine ite_b9 (fun e => ?_) (fun e => by rw [nk e] at q; exact q)
  rcases t with ⟨h0, _⟩ | ⟨i, p, o, h1, h2, h3, h4, rfl, h6⟩
  · rw [h0] at e; cases e
  rw [h2] at e q
  cases o with
  | ob k =>
    obtain ⟨dx, v1, v2, hp, ha⟩ := h6
    refine ⟨_, rfl, _, rfl, p, c.O, dx, _, _, rfl, hp, z.oc, z.o1, obF_kind .., W, l, gd, ps, os, gv, v1, thD k, rfl, hw, ha, Vd.th (hw.b i k h4), hg, ?_⟩
    rw [thO_th]
    exact q
  | gvn n => cases e
  | gr fr st m hh => cases e
  | kd n => cases e
/-! ### new_object -/
def spObj (K : PySem.W.Frag) (c : ClD) : Sp := fun vs H Q _ => ∃ (W l gd : Addr) (ps : List Addr) (os : List Th) (gv : List (Str × Nat)) (x : V) (k : Nat), vs = [.ref W, x] ∧ WAt K c H W l gd ps os gv ∧ At K H (thD k) x ∧ isFC os[k]? = true ∧ ((("Fault" : Str), 9) : Str × Nat) ∈ gv ∧ os.length ≤ 1000 ∧
  ∀ r H' p, But9 l H H' → WAt K c H' W l gd (ps ++ [p]) (os ++ [.ob k]) gv → At K H' (thD os.length) r → Q r H'
def fldN : List Str := ["word", "cause", "context"]
theorem pairs_dict {K : PySem.W.Frag} {H : Hp} {nm : Nat → Str} {dd : Nat → D} {is : List Nat} {ys : List V} (h : Pairs (fun i v => ∃ (tp : Addr) (u : V), v = .ref tp ∧ H tp = some (.tup [.str (nm i), u]) ∧ At K H (dd i) u) is ys) :
    ∃ (ps : List Addr) (kvs : List (Key × V)), ys = ps.map V.ref ∧ ps.length = kvs.length ∧ kvs.length = is.length ∧ (∀ (j : Nat) (a : Addr) (kv : Key × V), ps[j]? = some a → kvs[j]? = some kv → H a = some (.tup [kV kv.1, kv.2])) := by
  induction h with
  | nil => exact ⟨[], [], rfl, rfl, rfl, fun j a kv e => by simp at e⟩
  | @cons i v is vs h1 h2 ih =>
    obtain ⟨tp, u, rfl, h3, h4⟩ := h1
    obtain ⟨ps, kvs, rfl, e2, e3, e4⟩ := ih
    refine ⟨tp :: ps, (.inr (nm i), u) :: kvs, rfl, by rw [List.length_cons, List.length_cons, e2], by rw [List.length_cons, List.length_cons, e3], fun j a kv x y => ?_⟩
    cases j with
    | zero =>
      have x' : tp = a := by simpa using x
      have y' : ((.inr (nm i) : Key), u) = kv := by simpa using y
      subst x' y'
      exact h3
    | succ j => exact e4 j a kv (by simpa using x) (by simpa using y)
theorem scObj : FnScope ["world", "kind", "names"] ["world", "kind"] (defScope pObj) := ⟨rfl, rfl, rfl, by decide +kernel, rfl, by decide +kernel, by decide +kernel⟩
theorem ok_Obj (g : Glb9 mg) (z : CsD K c) (tN : TreeG K mg "NONE" [.str "none"]) (tF : TreeG K mg "FAULT_FIELDS" (fldN.map D.str)) (M : MkDef P w K mg base "Object" c.O ["self", "kind", "fields"] 1 (spObI c.O)) (F : Fun K "new_object" "new_object" pObj f fd) (dFC : Def P w K mg base "is_fault_class" ["world", "a"] 3 (spFC K c)) (dA : Def P w K mg base "added" ["world", "thing"] 1 (spAdd K c)) : FnOk P w K mg base CX0 4 f fd ["world", "kind"] (spObj K c) := by
  refine F.okI scObj (fun vs H Q E h => ?_) (fun cdv A outer s H vs Q E hr h => ?_)
  · obtain ⟨_, _, _, _, _, _, _, _, rfl, _⟩ := h; rfl
  obtain ⟨W, l, gd, ps, os, gv, x, k, rfl, hw, hx, hk, hg, hl, q⟩ := h
  obtain ⟨pN, vN, mN, aN⟩ := tN
  obtain ⟨pF, vF, mF, aF⟩ := tF
  refine ⟨_, pss_cons (ps_set (i := 2) scObj.nd rfl (Or.inl rfl) (pe_ifExp (pt_val (L3.pe_def dFC hr (by decide) rfl (pa_cons (pv 0) (pa_cons (pv 1) pa_nil)))) (pe_glob (v := .ref pF) rfl mF rfl) (pe_tup pa_nil)))
    (pss_one (ps_ret (L3.pe_def dA hr (by decide) rfl (pa_cons (pv 0) (pa_cons (L3.pe_mk M hr (by decide) rfl (pa_cons (pv 1) (pa_cons (pe_callTy (call_dictP rfl) rfl g.nDict b9Dict (pa_cons (.mk (L2.pe_compG (cl := []) (Xs := ["name"]) (Nf := []) (js := []) ?k rfl (LI.out (pi_tup (pv 2))) (fun C s0 H0 fp => LG.out (pg_name (i := 0) (show (["name"] : List Str).Nodup by decide +kernel) rfl (Or.inl rfl))) (fun C s0 H0 fp => pts_nil) (fun C s0 H0 fp => LE.out (pe_tup (pa_cons (pv 0) (pa_cons (pe_glob (v := .ref pN) rfl mN rfl) pa_nil)))))) pa_nil)) pa_nil))) pa_nil))))), ?main⟩
  case k =>
    refine ⟨rfl, by decide +kernel, rfl, by decide +kernel, fun y c h => (by cases h), fun y hy => ?_, rfl, fun j y h => (by simp at h)⟩
    have hy' : ([(".0", .local), ("name", .local), ("NONE", .globalImplicit)] : List (Str × NameKind)).lookup y = some .cell ∨ ([(".0", .local), ("name", .local), ("NONE", .globalImplicit)] : List (Str × NameKind)).lookup y = some .free := hy
    rcases hy' with z | z <;> (have m := PySem.mem_of_lookup z; simp at m)
  case main =>
    have hk2 : k < os.length := by
      cases e : os[k]? with
      | none => rw [e] at hk; cases hk
      | some o => exact lt_of_some e
    have lf : vF.length = 3 := (aF H).2.len
    refine ⟨_, rfl, _, rfl, W, l, gd, ps, os, gv, x, thD k, rfl, hw, hx, Vd.th hk2, hg, _, rfl, ?_⟩
    rw [thO_th, hk]
    refine iteT ?_
    refine ⟨_, rfl, _, rfl, _, rfl, pF, rfl, ⟨vF, (aF H).1⟩, [], ⟨rfl, fun j i h => (by simp at h)⟩, compG_one (vs := []) (tc := tTrue) vF.length (fun i => vF.getD i .non) (fun _ => true) (fun i v H' => ∃ (tp : Addr) (u : V), v = .ref tp ∧ H' tp = some (.tup [.str (fldN.getD i ""), u]) ∧ At K H' (.tup [.str "none"]) u) (fun i v H' H'' s z => by obtain ⟨tp, u, e, h1, h2⟩ := z; exact ⟨tp, u, e, s _ _ h1, At.same s _ _ h2⟩) (by omega) (itt_stop (aF H).1) (itt_go (aF H).1) (itt_yld (aF H).1) (fun i H4 Q' hi s4 k => k H4 (Same.refl _)) (fun i H4 D l' Q' hi _ s4 hD hl4 k => ?_) fun gl H5 ys hgl s5 h5 hP => ?_⟩
    · obtain ⟨v', hv', hAi⟩ := AtAll.get (i := i) (aF H).2 (d := .str (fldN.getD i "")) (by
        rw [List.getElem?_map, List.getD_eq_getElem?_getD, List.getElem?_eq_getElem (show i < fldN.length by rw [lf] at hi; exact hi)]; rfl)
      have ev : vF.getD i .non = .str (fldN.getD i "") := by rw [List.getD_eq_getElem?_getD, hv']; exact At_str.mp hAi
      rw [ev]
      refine ⟨_, rfl, by show 2 ≤ sizeLine; decide, fun tp htp => k _ _ (same_new htp _) ⟨tp, .ref pN, rfl, ?_, ?_⟩⟩
      · rw [wo_at (fun z => by rw [z, hl4] at htp; cases htp)]; exact upd_same
      · exact At_tup.mpr ⟨pN, vN, rfl, (aN _).1, (aN _).2⟩
    rw [List.filter_eq_self.mpr (fun _ _ => rfl)] at hP
    have hP6 : Pairs (fun i v => ∃ (tp : Addr) (u : V), v = .ref tp ∧ H5 tp = some (.tup [.str (fldN.getD i ""), u]) ∧ At K H5 (.tup [.str "none"]) u) (List.range vF.length) ys := by
      refine hP.mono fun i v z => ?_
      obtain ⟨tp, u, e, h1, h2⟩ := z
      exact ⟨tp, u, e, wo_same H5 gl _ _ h1, At.same (wo_same H5 gl) _ _ h2⟩
    obtain ⟨qs, kvs, rfl, lp1, lp2, hp1⟩ := pairs_dict hP6
    rw [List.length_range] at lp2
    refine ⟨gl, qs, kvs, rfl, SqL.of h5, lp1, fun i x kv e1 e2 => .inl (.inl (hp1 i x kv e1 e2)), small (by omega), fun td htd => ?_⟩
    have s7 : Same H5 (upd H5 td (.dK (mergeK [] kvs))) := same_new htd _
    revert s7
    generalize upd H5 td (.dK (mergeK [] kvs)) = H7
    intro s7
    have s17 := s5.trans s7
    intro x1 dx hx1 hdx hne
    obtain ⟨s8, c8⟩ := new_ins (C := c.O) hx1 hdx hne
    revert s8 c8
    generalize upd (upd H7 dx (.own x1)) x1 (.ins c.O dx []) = H8
    intro s8 c8
    refine ⟨x1, dx, x, .ref td, rfl, c8, fun H9 hB hx9 => ⟨rfl, ?_⟩⟩
    have s9 : Same H7 H9 := fun p o e => by
      rw [hB p (fun y => by rw [y, hx1] at e; cases e)]; exact s8 _ _ e
    have s19 := s17.trans s9
    exact ⟨W, l, gd, ps, os, gv, .ob k, x1, rfl, hw.same s19, ⟨dx, x, .ref td, hx9, At.same s19 _ _ hx⟩, (hw.same s17).fresh hx1, fun k' e => (by cases e; exact hk2), hl, fun r H3 b3 w3 a3 => q r H3 x1 ((Same.but l s19).trans b3) w3 a3⟩
/-! ### made -/
structure FunV (K : PySem.W.Frag) (x qual : Str) (st : Stmt) (f : Addr) (fd : FuncData) (dV : Value) : Prop where
  ex : ∃ (oc : Value) (od : Option Addr) (kV doc pm : Value) (an : Option Addr) (cdv ct : Value) (osl : Array (Option Value)),
    fd = PySem.W.fnOf x qual (defArgs st) (defBody st) (defScope st) dV kV doc pm an cdv ct ∧ K.lookup f = some ⟨oc, od, .func fd, osl⟩ ∧ PySem.W.codeIn K cdv qual = true
  kp : PySem.W.keepIn K (.ref f) = true
theorem FunV.okI {x qual : Str} {st : Stmt} {dV : Value} {N ps : List Str} {k : Nat} {sp : Sp} (F : FunV K x qual st f fd dV) (S : FnScope N ps (defScope st)) (len : ∀ vs H Q E, sp vs H Q E → vs.length = ps.length)
    (hbody : ∀ (cdv : Value) (A : Around) (outer : List Env) (s : Shared) (H : Hp) (vs : List V) (Q : VK) (E : XK), Room k (A.deeper (envOfC qual (defScope st) s.heap.objs.size f cdv)) → sp vs H Q E →
      ∃ t, LSs (cxOf CX0 P w K mg base N qual (defScope st) f cdv A outer s H E).nox (defBody st) t ∧ t { nx := fun _ H' => Q .non H', rt := Q } (start N vs) H) : FnOk P w K mg base CX0 (k + 1) f fd ps sp := by
  obtain ⟨oc, od, kV, doc, pm, an, cdv, ct, osl, rfl, lk, hcd⟩ := F.ex
  refine fn_of lk hcd S len fun A outer s H vs Q E hr hsp => ?_
  obtain ⟨t, h, q⟩ := hbody cdv A outer s H vs Q E hr hsp
  exact ⟨t, h.out.nox, q⟩
def spMade (K : PySem.W.Frag) (c : ClD) : Sp := fun vs H Q _ => ∃ (W l gd : Addr) (ps : List Addr) (os : List Th) (gv : List (Str × Nat)) (n : Str) (k : Nat), vs = [.ref W, .str n, .non] ∧ WAt K c H W l gd ps os gv ∧ (n, k) ∈ gv ∧ isFC os[k]? = true ∧ ((("Fault" : Str), 9) : Str × Nat) ∈ gv ∧ os.length ≤ 1000 ∧
  ∀ r H' p, But9 l H H' → WAt K c H' W l gd (ps ++ [p]) (os ++ [.ob k]) gv → At K H' (thD os.length) r → Q r H'
theorem scMade : FnScope ["world", "name", "word", "fault", "fields"] ["world", "name", "word"] (defScope pMade) := ⟨rfl, rfl, rfl, by decide +kernel, rfl, by decide +kernel, by decide +kernel⟩
theorem ok_Made {dV : Value} (F : FunV K "made" "made" pMade f fd dV) (dO : Def P w K mg base "new_object" ["world", "kind"] 4 (spObj K c)) (dK : Def P w K mg base "known" ["world", "name"] 1 (spKn K c)) (dT : Def P w K mg base "thing_of" ["world", "a"] 1 (spTh K c)) : FnOk P w K mg base CX0 5 f fd ["world", "name", "word"] (spMade K c) := by
  refine F.okI scMade (fun vs H Q E h => ?_) (fun cdv A outer s H vs Q E hr h => ?_)
  · obtain ⟨_, _, _, _, _, _, _, _, rfl, _⟩ := h; rfl
  obtain ⟨W, l, gd, ps, os, gv, n, k, rfl, hw, hn, hk, hg, hl, q⟩ := h
  refine ⟨_, pss_cons (ps_set (i := 3) scMade.nd rfl (Or.inl rfl) (L3.pe_def dO hr (by decide) rfl (pa_cons (pv 0) (pa_cons (L3.pe_def dK hr (by decide) rfl (pa_cons (pv 0) (pa_cons (pv 1) pa_nil))) pa_nil))))
    (pss_cons (ps_if (pt_cmpR op_notN (pv 2) pe_non (nomark _)) (pss_cons (ps_set (i := 4) scMade.nd rfl (Or.inl rfl) (L3.pe_fld (L3.pe_def dT hr (by decide) rfl (pa_cons (pv 0) (pa_cons (pv 3) pa_nil))))) (pss_one (.mk (L2.ps_dput (hu_of hr) (LE.out (pv 4)) (LE.out pe_str) (LE.out (pv 2)) rfl)))) pss_nil)
    (pss_one (ps_ret (pv 3)))), ?_⟩
  refine ⟨_, rfl, _, rfl, _, rfl, W, l, gd, ps, os, gv, n, k, rfl, hw, hn, fun v hv => ⟨W, l, gd, ps, os, gv, v, k, rfl, hw, hv, hk, hg, hl, fun r H' p b w' a => ?_⟩⟩
  exact ⟨_, rfl, rfl, _, rfl, iteF ⟨_, rfl, q r H' p b w' a⟩⟩
end
/-- a def with one default, None -/
structure DefN (P : Program) (w : World) (K : PySem.W.Frag) (mg : Str → Option Value) (base : Heap) (name : Str) (ps : List Str) (k : Nat) (sp : Sp) : Prop where
  ex : ∃ (f : Addr) (fd : FuncData), mg name = some (.ref f) ∧ PySem.W.keepIn K (.ref f) = true ∧ Binds K fd ps [.none] ∧ FnOk P w K mg base CX0 k f fd ps sp
theorem pe_defN {X : Cx} {name : Str} {ps : List Str} {k k' : Nat} {sp : Sp} {e : Expr} {es : List Expr} {t : TA} {p pos : Pos} (F : DefN X.prog X.w X.K X.mg X.base name ps k sp) (hr : Room k' X.A) (hk : k ≤ k') (hg : Gl X name) (ha : LA X (e :: es) t)
    (hdb : (name == ("__debug__" : Str)) = false := by decide) (he : starEach (e :: es) X.env = (false, eval e X.env) :: starEach es X.env := by rfl) (hpl : (backTo pos (starEach es X.env)).any (·.1) = false := by rfl) :
    LE X (.Call (.Name name p) (e :: es) [] pos) (tCall sp [.non] E0 t) := by
  obtain ⟨f, fd, h1, h2, h3, h4⟩ := F.ex
  exact .mk (pe_call (h4.mono hk) hr hg h1 h2 h3 (.cons rfl .nil) pass0 ha.out hdb he hpl)
end GS
set_option Elab.async false
set_option linter.all false
set_option maxRecDepth 100000
set_option maxHeartbeats 4000000
namespace GS
open PySem PyProof.Rows
open L2 hiding pe_int pe_bl pe_non pe_str pv pe_glob pe_op pe_cmpR pe_one pe_and pe_ifExp pe_ix po_none po_some pe_slice pa_nil pa_cons pe_lst pe_tup pe_dnewK pe_callB pe_callTy pe_bm pt_cmpR pt_val pt_not pw_and1 pw_or1 pw_and pw_or pg_name pgs_nil pgs_cons pg_tup pi_list pi_tup pi_range1 ps_ret ps_expr ps_set ps_asg ps_if ps_for pss_nil pss_cons pss_one
open L3
abbrev pWI : Stmt := inCls 0 (topd 12)
/-! ### what a world gives -/
def gfN : List Str := ["say", "take", "isa", "elder", "count", "go", "throw", "shut"]
def gcN : List (Str × List Str) := [("Thing", []), ("Fault", ["Thing"]), ("NameFault", ["Fault", "Thing"]), ("KindFault", ["Fault", "Thing"]), ("NoughtFault", ["Fault", "Thing"]), ("GreatFault", ["Fault", "Thing"]), ("FieldFault", ["Fault", "Thing"]), ("OrderFault", ["Fault", "Thing"]), ("EndFault", ["Fault", "Thing"]), ("ShutFault", ["Fault", "Thing"]), ("DeepFault", ["Fault", "Thing"]), ("UnboundFault", ["NameFault", "Fault", "Thing"])]
def gfD : List D := gfN.map D.str
def gcD : List D := gcN.map fun x => .tup [.str x.1, .tup (x.2.map D.str)]
def allN : List Str := gfN ++ gcN.map (·.1)
def ixN9 (x : Str) : Nat := allN.findIdx (· == x)
def gv0 : List (Str × Nat) := allN.zipIdx
def os0 : List Th := gfN.map Th.gvn ++ gcN.map fun x => .kd ((x.1 :: x.2).map ixN9)
theorem allN_nd : allN.Nodup := by decide +kernel
theorem gc_ok : ∀ j, j < 12 → ∀ e ∈ (gcN.getD j ("", [])).2, (e, ixN9 e) ∈ gv0.take (8 + j) := by decide +kernel
theorem gc_ix : ∀ j, j < 12 → ixN9 (gcN.getD j ("", [])).1 = 8 + j := by decide +kernel
theorem gcN_at (j : Nat) (h : j < 12) : gcN[j]? = some (gcN.getD j ("", [])) := by rw [List.getD_eq_getElem?_getD, List.getElem?_eq_getElem (show j < gcN.length from h)]; rfl
theorem gfN_at (j : Nat) (h : j < 8) : gfN[j]? = some (gfN.getD j "") := by rw [List.getD_eq_getElem?_getD, List.getElem?_eq_getElem (show j < gfN.length from h)]; rfl
theorem os_ok (j : Nat) (h : j < 12) : os0[8 + j]? = some (.kd ((8 + j) :: (gcN.getD j ("", [])).2.map ixN9)) := by
  unfold os0
  rw [List.getElem?_append_right (by show 8 ≤ 8 + j; omega)]
  show (gcN.map fun x => Th.kd ((x.1 :: x.2).map ixN9))[8 + j - 8]? = _
  rw [show 8 + j - 8 = j by omega, List.getElem?_map, gcN_at j h]
  show some (Th.kd (ixN9 (gcN.getD j ("", [])).1 :: (gcN.getD j ("", [])).2.map ixN9)) = _
  rw [gc_ix j h]
theorem os_f (j : Nat) (h : j < 8) : os0[j]? = some (.gvn (gfN.getD j "")) := by
  unfold os0
  rw [List.getElem?_append_left (by show j < 8; exact h), List.getElem?_map, gfN_at j h]; rfl
theorem os0_len : os0.length = 20 := rfl
theorem gv_f : ∀ j, j < 8 → gv0[j]? = some (gfN.getD j "", j) := by decide +kernel
theorem gv_c : ∀ j, j < 12 → gv0[8 + j]? = some ((gcN.getD j ("", [])).1, 8 + j) := by decide +kernel
theorem WAt.give {K : PySem.W.Frag} {c : ClD} {H : Hp} {W l g : Addr} {ps : List Addr} {os : List Th} {gv : List (Str × Nat)} (h : WAt K c H W l g ps os gv) :
    ∃ kvs, H g = some (.dK kvs) ∧ kvs.length ≤ gv.length ∧ ∀ (v : V) (n : Str) (i : Nat), At K H (thD i) v → (∀ j, (n, j) ∉ gv) → WAt K c (upd H g (.dK (putK kvs (.inr n) v))) W l g ps os (gv ++ [(n, i)]) := by
  obtain ⟨⟨dx, a, b, h1⟩, h2, h3, h4, h5, h6, kvs, h7, h8, h9⟩ := h
  refine ⟨kvs, h7, h8, fun v n i hv hn => ?_⟩
  have f : Fx H (upd H g (.dK (putK kvs (.inr n) v))) := Fx.put h7 rfl
  refine ⟨⟨dx, a, b, by rw [upd_ne (fun y => by rw [y, h7] at h1; cases h1)]; exact h1⟩, by rw [upd_ne (fun y => by rw [y, h7] at h2; cases h2)]; exact h2, h3, h4, fun i p o e1 e2 => ?_, h6, _, upd_same, by have := length_putK kvs (.inr n) v; rw [List.length_append, List.length_singleton]; omega, fun m j hm => ?_⟩
  · have := h5 i p o e1 e2
    obtain ⟨C, dx, fs, e'⟩ := this.ins
    exact this.keep (upd_ne (fun y => by rw [y, h7] at e'; cases e')) f
  · rcases List.mem_append.mp hm with hm | hm
    · obtain ⟨u, e, a⟩ := h9 m j hm
      refine ⟨u, ?_, At.fx f _ _ a⟩
      rw [valV_put, if_neg (fun z => hn j (by injection z with z; rw [← z]; exact hm))]
      exact e
    · rw [List.mem_singleton] at hm
      obtain ⟨rfl, rfl⟩ := Prod.mk.inj hm
      exact ⟨v, by rw [valV_put, if_pos rfl], At.fx f _ _ hv⟩
theorem gv_new {j : Nat} {n : Str} {i : Nat} (h : gv0[j]? = some (n, i)) : ∀ k, (n, k) ∉ gv0.take j := by
  have hz : ∀ (m : Nat) (x : Str) (y : Nat), gv0[m]? = some (x, y) → allN[m]? = some x := fun m x y e => by
    unfold gv0 at e
    rw [List.getElem?_zipIdx] at e
    cases e2 : allN[m]? with
    | none => rw [e2] at e; cases e
    | some u => rw [e2] at e; injection e with e; injection e with e _; rw [e]
  intro k hk
  obtain ⟨m, hm, e⟩ := List.getElem_of_mem hk
  rw [List.length_take] at hm
  have e' : gv0[m]? = some (n, k) := by
    rw [List.getElem?_eq_some_iff]
    exact ⟨by omega, by rw [← e, List.getElem_take]⟩
  have h1 := hz _ _ _ h
  have h2 := hz _ _ _ e'
  have hj := (List.getElem?_eq_some_iff.mp h1).1
  have := (List.getElem?_inj hj allN_nd).mp (h1.trans h2.symm)
  omega
section
variable {P : Program} {w : World} {K : PySem.W.Frag} {mg : Str → Option Value} {base : Heap} {f : Addr} {fd : FuncData} {c : ClD}
/-! ### World.__init__ -/
def spWI (K : PySem.W.Frag) (c : ClD) : Sp := fun vs H Q _ => ∃ (x dx q : Addr), vs = [.ref x, .ref q] ∧ H x = some (.ins c.W dx []) ∧ SqL K H q [] ∧
  ∀ H' l g ps, (∀ p o, p ≠ x → H p = some o → H' p = some o) → H l = none → H g = none → WAt K c H' x l g ps os0 gv0 → Q .non H'
theorem scWI : FnScope ["self", "inputs", "name", "behind"] ["self", "inputs"] (defScope pWI) := ⟨rfl, rfl, rfl, by decide +kernel, rfl, by decide +kernel, by decide +kernel⟩
theorem ok_WI (g : Glb9 mg) (z : CsD K c) (tf : TreeG K mg "GIVEN_FUNCTIONS" gfD) (tc : TreeG K mg "GIVEN_CLASSES" gcD) (M : MkDef P w K mg base "Given" c.G ["self", "name"] 1 (spGvI c.G)) (F : Fun K "__init__" "World.__init__" pWI f fd) (dA : Def P w K mg base "added" ["world", "thing"] 1 (spAdd K c)) (dN : Def P w K mg base "new_class" ["world", "name", "behind", "fields", "is_given"] 3 (spNew K c)) : FnOk P w K mg base CX0 4 f fd ["self", "inputs"] (spWI K c) := by
  refine F.okI scWI (fun vs H Q E h => ?_) (fun cdv A outer s H vs Q E hr h => ?_)
  · obtain ⟨_, _, _, rfl, _⟩ := h; rfl
  obtain ⟨x, dx, qi, rfl, hx, hq, q⟩ := h
  obtain ⟨pf, vf, mf, af⟩ := tf
  obtain ⟨pc, vc, mc, ac⟩ := tc
  refine ⟨_, pss_cons (L3.ps_fld (pv 0) (pe_lst pa_nil))
    (pss_cons (L3.ps_fld (pv 0) (pe_callTy call_list_of rfl g.nList b9List (pa_cons (pv 1) pa_nil)))
    (pss_cons (L3.ps_fld (pv 0) (pe_lst pa_nil))
    (pss_cons (L3.ps_fld (pv 0) (.mk L2.pe_dnewK))
    (pss_cons (ps_for PassesOwn.never rfl (pi_tup (pe_glob (v := .ref pf) rfl mf rfl)) (pg_name (i := 2) scWI.nd rfl (Or.inl rfl))
      (pss_one (.mk (L2.ps_dput (hu_of hr) (LE.out (L3.pe_fld (pv 0))) (LE.out (pv 2)) (LE.out (L3.pe_def dA hr (by decide) rfl (pa_cons (pv 0) (pa_cons (L3.pe_mk M hr (by decide) rfl (pa_cons (pv 2) pa_nil)) pa_nil)))) rfl))))
    (pss_one (ps_for PassesOwn.never rfl (pi_tup (pe_glob (v := .ref pc) rfl mc rfl)) (pg_tup rfl (pgs_cons (pg_name (i := 2) scWI.nd rfl (Or.inl rfl)) (pgs_cons (pg_name (i := 3) scWI.nd rfl (Or.inl rfl)) pgs_nil)))
      (pss_one (.mk (L2.ps_dput (hu_of hr) (LE.out (L3.pe_fld (pv 0))) (LE.out (pv 2)) (LE.out (L3.pe_def dN hr (by decide) rfl (pa_cons (pv 0) (pa_cons (pv 2) (pa_cons (.mk (L2.pe_compG (cl := [("self", s.heap.objs.size + 1)]) (Xs := ["elder"]) (Nf := ["self"]) (js := [0]) ?k rfl (LI.out (pi_tup (pv 3))) (fun C s0 H0 fp => LG.out (pg_name (i := 0) (show (["elder", "self"] : List Str).Nodup by decide +kernel) rfl (Or.inl rfl))) (fun C s0 H0 fp => pts_nil) (fun C s0 H0 fp => LE.out (L3.pe_dget (hu_of hr) (L3.pe_fldK (K := K) rfl (pv 1)) (pv 0))))) (pa_cons (.mk L2.pe_dnewK) (pa_cons pe_bl pa_nil))))))) rfl)))))))))  , ?main⟩
  case k =>
    refine ⟨rfl, by decide +kernel, rfl, by decide +kernel, fun y c h => ?_, fun y hy => ?_, rfl, fun j y h => ?_⟩
    · obtain ⟨rfl, rfl⟩ := look1 h; rfl
    · have hy' : ([(".0", .local), ("elder", .local), ("self", .cell)] : List (Str × NameKind)).lookup y = some .cell ∨ ([(".0", .local), ("elder", .local), ("self", .cell)] : List (Str × NameKind)).lookup y = some .free := hy
      rcases hy' with z | z
      · have m := PySem.mem_of_lookup z
        simp at m
        subst m
        exact ⟨_, rfl⟩
      · have m := PySem.mem_of_lookup z
        simp at m
    · match j, h with
      | 0, h => cases h; exact ⟨0, rfl, rfl, rfl, .inl rfl⟩
      | j + 1, h => simp at h
  case main =>
    have nx : ∀ {p o} {H' : Hp}, But9 x H H' → H' x = some o → H' p = none → H p = none := fun {p o H'} b e1 e2 => by
      cases e : H p with
      | none => rfl
      | some u =>
        by_cases hpx : p = x
        · rw [hpx, e1] at e2; cases e2
        · rw [b _ _ hpx e] at e2; cases e2
    have e1 : ∀ v1 : V, putF "lines" v1 ([] : List (Str × V)) = ([("lines", v1)] : List (Str × V)) := fun _ => rfl
    have e2 : ∀ v1 v2 : V, putF "left" v2 ([("lines", v1)] : List (Str × V)) = ([("lines", v1), ("left", v2)] : List (Str × V)) := fun _ _ => by rw [putF_ne (by decide +kernel)]; rfl
    have e3 : ∀ v1 v2 v3 : V, putF "things" v3 ([("lines", v1), ("left", v2)] : List (Str × V)) = ([("lines", v1), ("left", v2), ("things", v3)] : List (Str × V)) := fun _ _ _ => by rw [putF_ne (by decide +kernel), putF_ne (by decide +kernel)]; rfl
    have e4 : ∀ (v1 v2 : V) (l g : Addr), putF "given" (.ref g) ([("lines", v1), ("left", v2), ("things", .ref l)] : List (Str × V)) = wF v1 v2 l g := fun _ _ _ _ => by rw [putF_ne (by decide +kernel), putF_ne (by decide +kernel), putF_ne (by decide +kernel)]; rfl
    have pt : ∀ {H' : Hp} {o : HO}, But9 x H H' → But9 x H (upd H' x o) := fun b => b.trans (But9.put _ _)
    refine ⟨Nat.zero_le _, fun p1 hp1 => ?_⟩
    have b1 : But9 x H (upd H p1 (.lst [])) := Same.but x (same_new hp1 _)
    have x1 : upd H p1 (.lst []) x = some (.ins c.W dx []) := same_new hp1 _ _ _ hx
    revert b1 x1
    generalize upd H p1 (.lst []) = H1
    intro b1 x1
    refine ⟨_, rfl, x, c.W, dx, _, rfl, x1, z.wc, z.w1, by decide, ?_⟩
    rw [e1]
    have b2 := pt (o := .ins c.W dx [("lines", .ref p1)]) b1
    have x2 : upd H1 x (.ins c.W dx [("lines", .ref p1)]) x = some (.ins c.W dx [("lines", .ref p1)]) := upd_same
    revert b2 x2
    generalize upd H1 x (.ins c.W dx [("lines", .ref p1)]) = H2
    intro b2 x2
    have hq2 : SqL K H2 qi [] := by
      rcases hq with (h | ⟨o, h⟩) | h
      · exact .inl (.inl (b2 _ _ (fun y => by rw [y, hx] at h; cases h) h))
      · exact .inl (.inr ⟨o, b2 _ _ (fun y => by rw [y, hx] at h; cases h) h⟩)
      · exact .inr h
    refine ⟨_, rfl, qi, [], rfl, .inl hq2, fun p2 hp2 => ?_⟩
    have b3 : But9 x H (upd H2 p2 (.lst [])) := b2.trans (Same.but x (same_new hp2 _))
    have x3 : upd H2 p2 (.lst []) x = some (.ins c.W dx [("lines", .ref p1)]) := same_new hp2 _ _ _ x2
    revert b3 x3
    generalize upd H2 p2 (.lst []) = H3
    intro b3 x3
    refine ⟨_, rfl, x, c.W, dx, _, rfl, x3, z.wc, z.w2, Nat.lt_of_lt_of_le (Nat.lt_succ_self 1) (by decide), ?_⟩
    rw [e2]
    have b4 := pt (o := .ins c.W dx [("lines", .ref p1), ("left", .ref p2)]) b3
    have x4 : upd H3 x (.ins c.W dx [("lines", .ref p1), ("left", .ref p2)]) x = some (.ins c.W dx [("lines", .ref p1), ("left", .ref p2)]) := upd_same
    revert b4 x4
    generalize upd H3 x (.ins c.W dx [("lines", .ref p1), ("left", .ref p2)]) = H4
    intro b4 x4
    refine ⟨Nat.zero_le _, fun l hl => ?_⟩
    have hl0 : H l = none := nx b4 x4 hl
    have b5 : But9 x H (upd H4 l (.lst [])) := b4.trans (Same.but x (same_new hl _))
    have x5 : upd H4 l (.lst []) x = some (.ins c.W dx [("lines", .ref p1), ("left", .ref p2)]) := same_new hl _ _ _ x4
    have l5 : upd H4 l (.lst []) l = some (.lst []) := upd_same
    have nlx : l ≠ x := fun y => by rw [y, x4] at hl; cases hl
    revert b5 x5 l5
    generalize upd H4 l (.lst []) = H5
    intro b5 x5 l5
    refine ⟨_, rfl, x, c.W, dx, _, rfl, x5, z.wc, z.w3, Nat.lt_of_lt_of_le (Nat.lt_succ_self 2) (by decide), ?_⟩
    rw [e3]
    have b6 := pt (o := .ins c.W dx [("lines", .ref p1), ("left", .ref p2), ("things", .ref l)]) b5
    have x6 : upd H5 x (.ins c.W dx [("lines", .ref p1), ("left", .ref p2), ("things", .ref l)]) x = some (.ins c.W dx [("lines", .ref p1), ("left", .ref p2), ("things", .ref l)]) := upd_same
    have l6 : upd H5 x (.ins c.W dx [("lines", .ref p1), ("left", .ref p2), ("things", .ref l)]) l = some (.lst []) := by rw [upd_ne nlx]; exact l5
    revert b6 x6 l6
    generalize upd H5 x (.ins c.W dx [("lines", .ref p1), ("left", .ref p2), ("things", .ref l)]) = H6
    intro b6 x6 l6
    intro gd hgd
    have hg0 : H gd = none := nx b6 x6 hgd
    have b7 : But9 x H (upd H6 gd (.dK [])) := b6.trans (Same.but x (same_new hgd _))
    have x7 : upd H6 gd (.dK []) x = some (.ins c.W dx [("lines", .ref p1), ("left", .ref p2), ("things", .ref l)]) := same_new hgd _ _ _ x6
    have l7 : upd H6 gd (.dK []) l = some (.lst []) := same_new hgd _ _ _ l6
    have g7 : upd H6 gd (.dK []) gd = some (.dK []) := upd_same
    have ngx : gd ≠ x := fun y => by rw [y, x6] at hgd; cases hgd
    revert b7 x7 l7 g7
    generalize upd H6 gd (.dK []) = H7
    intro b7 x7 l7 g7
    refine ⟨_, rfl, x, c.W, dx, _, rfl, x7, z.wc, z.w4, Nat.lt_of_lt_of_le (Nat.lt_succ_self 3) (by decide), ?_⟩
    rw [e4]
    have b8 := pt (o := .ins c.W dx (wF (.ref p1) (.ref p2) l gd)) b7
    have x8 : upd H7 x (.ins c.W dx (wF (.ref p1) (.ref p2) l gd)) x = some (.ins c.W dx (wF (.ref p1) (.ref p2) l gd)) := upd_same
    have l8 : upd H7 x (.ins c.W dx (wF (.ref p1) (.ref p2) l gd)) l = some (.lst []) := by rw [upd_ne nlx]; exact l7
    have g8 : upd H7 x (.ins c.W dx (wF (.ref p1) (.ref p2) l gd)) gd = some (.dK []) := by rw [upd_ne ngx]; exact g7
    revert b8 x8 l8 g8
    generalize upd H7 x (.ins c.W dx (wF (.ref p1) (.ref p2) l gd)) = H8
    intro b8 x8 l8 g8
    have w8 : WAt K c H8 x l gd [] (os0.take 0) (gv0.take 0) := ⟨⟨dx, _, _, x8⟩, l8, rfl, List.nodup_nil, fun i v o e => by simp at e, fun i k e => by simp at e, [], g8, Nat.zero_le _, fun n i h => by simp at h⟩
    clear e1 e2 e3 e4 pt nx
    have lf : vf.length = 8 := (af H8).2.len
    have lc : vc.length = 12 := (ac H8).2.len
    have l20 : os0.length = 20 := os0_len
    refine ⟨pf, rfl, ⟨vf, (af H8).1⟩, for_tup (K := K) (a := pf) (xs := vf) (fun i σ H' => (∃ o2 o3, σ = [some (.ref x), some (.ref qi), o2, o3]) ∧ But9 x H H' ∧ ∃ ps, WAt K c H' x l gd ps (os0.take i) (gv0.take i)) ⟨⟨_, _, rfl⟩, b8, _, w8⟩ (fun i σ H' _ _ => (af H').1) ?t1 ?s1⟩
    case t1 =>
      rintro i n σ H' hn ⟨⟨o2, o3, rfl⟩, bH, ps, wH⟩
      have hi : i < 8 := by rw [← lf]; exact (List.getElem?_eq_some_iff.mp hn).1
      obtain ⟨v', hv', hAi⟩ := AtAll.get (i := i) (af H').2 (d := .str (gfN.getD i "")) (by
        unfold gfD
        rw [List.getElem?_map, gfN_at i hi]; rfl)
      have en : n = .str (gfN.getD i "") := by rw [hn] at hv'; cases hv'; exact At_str.mp hAi
      subst en
      refine ⟨_, rfl, _, rfl, fun y dy hy hdy hne => ?_⟩
      obtain ⟨s1, c1⟩ := new_ins (C := c.G) hy hdy hne
      revert s1 c1
      generalize upd (upd H' dy (.own y)) y (.ins c.G dy []) = H1
      intro s1 c1
      refine ⟨y, dy, _, rfl, c1, fun H2 hB hy2 => ⟨rfl, ?_⟩⟩
      have s2 : Same H' H2 := fun p o e => by
        rw [hB p (fun z => by rw [z, hy] at e; cases e)]; exact s1 _ _ e
      have ltk : (os0.take i).length = i := by rw [List.length_take, l20]; omega
      refine ⟨x, l, gd, ps, os0.take i, gv0.take i, .gvn (gfN.getD i ""), y, rfl, wH.same s2, ⟨dy, hy2⟩, wH.fresh hy, fun k e => (nomatch e), by omega, fun r H3 b3 w3 a3 => ?_⟩
      rw [ltk] at a3
      obtain ⟨kvs, hk3, lk3, wv⟩ := w3.give
      obtain ⟨dx3, a', b', h3⟩ := w3.w
      have gj := gv_f i hi
      refine ⟨_, rfl, x, c.W, dx3, _, _, rfl, h3, z.wc, z.w4, wF_given .., _, rfl, gd, _, rfl, DPut.k (k := .inr (gfN.getD i "")) hk3 ?_, ⟨_, _, rfl⟩, fun p o ne e => ?_, ps ++ [y], ?_⟩
      · rw [List.length_take] at lk3; exact small1000 (by omega)
      · rw [upd_ne (fun z => by rw [z, hg0] at e; cases e)]
        exact b3 _ _ (fun z => by rw [z, hl0] at e; cases e) (s2 _ _ (bH _ _ ne e))
      · have := wv r _ i a3 (gv_new gj)
        rw [List.take_add_one, os_f i hi, List.take_add_one, gj]
        exact this
    case s1 =>
      rintro σ H' ⟨⟨o2, o3, rfl⟩, bH, ps, wH⟩
      rw [lf] at wH
      refine ⟨pc, rfl, ⟨vc, (ac H').1⟩, for_tup (K := K) (a := pc) (xs := vc) (fun i σ H' => (∃ o2 o3, σ = [some (.ref x), some (.ref qi), o2, o3]) ∧ But9 x H H' ∧ ∃ ps, WAt K c H' x l gd ps (os0.take (8 + i)) (gv0.take (8 + i))) ⟨⟨_, _, rfl⟩, bH, ps, wH⟩ (fun i σ H' _ _ => (ac H').1) ?t2 ?s2⟩
      case s2 =>
        rintro σ H' ⟨⟨o2, o3, rfl⟩, bH, ps, wH⟩
        rw [lc, List.take_of_length_le (by rw [l20]; decide), List.take_of_length_le (by decide +kernel)] at wH
        exact q H' l gd ps bH hl0 hg0 wH
      case t2 =>
        clear wH bH
        rintro i n σ H' hn ⟨⟨o2, o3, rfl⟩, bH, ps, wH⟩
        have hi : i < 12 := by rw [← lc]; exact (List.getElem?_eq_some_iff.mp hn).1
        obtain ⟨v', hv', hAi⟩ := AtAll.get (i := i) (ac H').2 (d := .tup [.str (gcN.getD i ("", [])).1, .tup ((gcN.getD i ("", [])).2.map D.str)]) (by
          unfold gcD
          rw [List.getElem?_map, gcN_at i hi]; rfl)
        rw [hn] at hv'
        cases hv'
        have hok := gc_ok i hi
        have hos := os_ok i hi
        have gj := gv_c i hi
        have lb : (gcN.getD i ("", [])).2.length ≤ 3 := (show ∀ j, j < 12 → (gcN.getD j ("", [])).2.length ≤ 3 by decide +kernel) i hi
        generalize gcN.getD i ("", []) = nb at *
        obtain ⟨nm, bs⟩ := nb
        obtain ⟨ap, avs, rfl, sqa, hAa⟩ := At_tup.mp hAi
        obtain ⟨u1, r1, rfl, hu1, hr1⟩ := AtAll_cons.mp hAa
        obtain ⟨u2, r2, rfl, hu2, hr2⟩ := AtAll_cons.mp hr1
        rw [AtAll_nil.mp hr2] at sqa
        rw [At_str.mp hu1] at sqa
        obtain ⟨bp, bvs, rfl, sqb, hAb⟩ := At_tup.mp hu2
        have lbv := hAb.len
        rw [List.length_map] at lbv
        replace lbv : bvs.length = bs.length := lbv
        replace lb : bs.length ≤ 3 := lb
        refine ⟨ap, _, rfl, sqa, rfl, _, _, rfl, _, _, rfl, rfl, ?_⟩
        obtain ⟨kv0, hk0, lk0, hv0⟩ := wH.v
        obtain ⟨dx0, a0, b0, hx0⟩ := wH.w
        refine ⟨_, rfl, _, rfl, _, rfl, bp, rfl, ⟨bvs, sqb⟩, [.ref x], ⟨rfl, fun j i h => ?_⟩, compG_one (vs := [.ref x]) (tc := tTrue) bvs.length (fun i => bvs.getD i .non) (fun _ => true) (fun i v H' => At K H' (thD (ixN9 (bs.getD i ""))) v) (fun _ _ _ _ s z => At.same s _ _ z) (by omega) (itt_stop sqb) (itt_go sqb) (itt_yld sqb) (fun i H2 Q' hi s2 k => k H2 (Same.refl _)) (fun j H1 D l' Q' hj _ s1 _ hDl k => ?_) fun D H1 ys hD s1 hl1 hP => ?_⟩
        · match j, h with
          | 0, h => cases h; exact ⟨_, rfl, rfl⟩
          | j + 1, h => simp at h
        · have hj' : j < bs.length := by omega
          have ej : bs[j]? = some bs[j] := List.getElem?_eq_getElem hj'
          have eo : bs.getD j "" = bs[j] := by rw [List.getD_eq_getElem?_getD, ej]; rfl
          obtain ⟨v', hv', hAj⟩ := AtAll.get (i := j) hAb (d := .str bs[j]) (by rw [List.getElem?_map, ej]; rfl)
          have ev : bvs.getD j .non = .str bs[j] := by rw [List.getD_eq_getElem?_getD, hv']; exact At_str.mp hAj
          rw [eo] at k
          rw [ev]
          obtain ⟨v, e, hA⟩ := hv0 _ _ (hok bs[j] (List.getElem_mem hj'))
          refine ⟨_, rfl, x, c.W, dx0, _, _, rfl, s1 _ _ hx0, z.wc, z.w4, wF_given .., _, rfl, gd, v, rfl, ?_, k v H1 (Same.refl _) (At.wo hDl _ _ (At.same s1 _ _ hA))⟩
          rw [← e]
          exact DGet.k (k := .inr bs[j]) (s1 _ _ hk0)
        · have hAy := (hP.mono (fun i v z => At.same (wo_same H1 D) _ _ z)).at
          rw [List.filter_eq_self.mpr (fun _ _ => rfl), lbv, range_map bs "" (fun e => thD (ixN9 e))] at hAy
          intro dn hdn
          have s2 : Same H1 (upd H1 dn (.dK [])) := same_new hdn _
          have d2 : upd H1 dn (.dK []) dn = some (.dK []) := upd_same
          revert s2 d2
          generalize upd H1 dn (.dK []) = H2
          intro s2 d2
          have s12 := s1.trans s2
          have ltk : (os0.take (8 + i)).length = 8 + i := by rw [List.length_take, l20]; omega
          have eT : bs.map (fun e => thD (ixN9 e)) = (bs.map ixN9).map thD := by rw [List.map_map]; rfl
          refine ⟨x, l, gd, ps, os0.take (8 + i), gv0.take (8 + i), _, .ref D, _, dn, [], bs.map ixN9, rfl, wH.same s12, by omega, ⟨D, ys, rfl, .inl (SqL.of (s2 _ _ hl1)), ?_⟩, by rw [List.length_map]; omega, d2, fun r H3 p3 b3 w3 a3 => ?_⟩
          · rw [← eT]
            exact AtAll.same s2 _ _ hAy
          rw [ltk] at a3 w3
          obtain ⟨kvs, hk3, lk3, wv⟩ := w3.give
          obtain ⟨dx3, a', b', h3⟩ := w3.w
          refine ⟨_, rfl, x, c.W, dx3, _, _, rfl, h3, z.wc, z.w4, wF_given .., _, rfl, gd, _, rfl, DPut.k (k := .inr nm) hk3 ?_, ⟨_, _, rfl⟩, fun p o ne e => ?_, ps ++ [p3], ?_⟩
          · rw [List.length_take] at lk3; exact small1000 (by omega)
          · rw [upd_ne (fun z => by rw [z, hg0] at e; cases e)]
            exact b3 _ _ (fun z => by rw [z, hl0] at e; cases e) (s12 _ _ (bH _ _ ne e))
          · have := wv r _ (8 + i) a3 (gv_new gj)
            rw [show 8 + (i + 1) = 8 + i + 1 from rfl, List.take_add_one, hos, List.take_add_one, gj]
            exact this
end
end GS
set_option Elab.async false
set_option linter.all false
set_option maxRecDepth 100000
set_option maxHeartbeats 4000000
namespace GS
open PySem PyProof.Rows
open L2 hiding pe_int pe_bl pe_non pe_str pv pe_glob pe_op pe_cmpR pe_one pe_and pe_ifExp pe_ix po_none po_some pe_slice pa_nil pa_cons pe_lst pe_tup pe_dnewK pe_callB pe_callTy pe_bm pt_cmpR pt_val pt_not pw_and1 pw_or1 pw_and pw_or pg_name pgs_nil pgs_cons pg_tup pi_list pi_tup pi_range1 ps_ret ps_expr ps_set ps_asg ps_if ps_for pss_nil pss_cons pss_one
open L3
abbrev sAt9 : Stmt := topd 63
abbrev sCell9 : Stmt := topd 64
theorem atI_mem9 {α : Type} {xs : List α} {k : Int} (h0 : 0 ≤ k) (h1 : k < (xs.length : Nat)) : ∃ v, v ∈ xs ∧ atI xs k = some v := by
  obtain ⟨n, rfl⟩ : ∃ n : Nat, k = (n : Int) := ⟨k.toNat, by omega⟩
  have hn : n < xs.length := by omega
  exact ⟨xs[n], List.getElem_mem hn, atI_nat (by simp [hn])⟩
theorem But9.sqL {K : PySem.W.Frag} {a b : Addr} {H H' : Hp} {xs : List V} (h : But9 b H H') (ne : a ≠ b) (hs : SqL K H a xs) : SqL K H' a xs := by
  rcases hs with (e | ⟨o', e⟩) | e
  · exact .inl (.inl (h _ _ ne e))
  · exact .inl (.inr ⟨o', h _ _ ne e⟩)
  · exact .inr e
section
variable {P : Program} {w : World} {K : PySem.W.Frag} {mg : Str → Option Value} {base : Heap} {f : Addr} {fd : FuncData}
/-! ### _law_cell_at -/
def spAt9 (K : PySem.W.Frag) : Sp := fun vs H Q _ => ∃ (a : Addr) (ns : List Int) (k : Nat), vs = [.ref a, .int (k : Nat)] ∧ SqL K H a (ns.map V.int) ∧ ∀ i : Int, Q (.int i) H
theorem scAt9 : FnScope ["_law_script", "_law_k"] ["_law_script", "_law_k"] (defScope sAt9) := ⟨rfl, rfl, rfl, by decide +kernel, rfl, by decide +kernel, by decide +kernel⟩
theorem ok_At9 (g : Glb9 mg) (F : Fun K "_law_cell_at" "_law_cell_at" sAt9 f fd) : FnOk P w K mg base CX0 1 f fd ["_law_script", "_law_k"] (spAt9 K) := by
  refine F.okI scAt9 (fun vs H Q E h => ?_) (fun cdv A outer s H vs Q E hr h => ?_)
  · obtain ⟨_, _, _, rfl, _⟩ := h; rfl
  obtain ⟨a, ns, k, rfl, hS, q⟩ := h
  refine ⟨_, pss_cons (ps_if (pt_cmpR op_lt (pv 1) (pe_callB call_len_seq rfl g.nLen b9Len (pa_cons (pv 0) pa_nil)) (nomark _)) (pss_one (ps_ret (pe_ix (r := rIxL K) ix_list (pv 0) (pv 1) (fun _ _ => rfl)))) pss_nil)
    (pss_one (ps_ret pe_int)), ?_⟩
  refine ⟨_, rfl, _, rfl, a, _, rfl, .inl hS, _, _, rfl, rfl, _, rfl, ?_⟩
  refine ite_b9 (fun e => ?_) (fun e => q 0)
  have h1 := of_decide_eq_true e
  obtain ⟨v, hv, hat⟩ := atI_mem9 (k := (k : Nat)) (by omega) h1
  obtain ⟨i, _, rfl⟩ := List.mem_map.mp hv
  exact ⟨_, rfl, _, rfl, a, _, _, _, rfl, rfl, hS, hat, q i⟩
/-! ### _law_cell -/
structure Spot9 (K : PySem.W.Frag) (H : Hp) (a b : Addr) (n : Nat) : Prop where
  cells : ∃ ns : List Int, SqL K H a (ns.map V.int) ∧ ns.length ≤ 63
  ne : a ≠ b
  spot : H b = some (.lst [.int (n : Nat)])
def spCell9 (K : PySem.W.Frag) : Sp := fun vs H Q _ => ∃ (a b : Addr) (n : Nat), vs = [.ref a, .ref b] ∧ Spot9 K H a b n ∧ n ≤ 1000000000000 ∧
  ∀ i H', 0 ≤ i → i < 306783380 → But9 b H H' → H' b = some (.lst [.int ((n + 1 : Nat) : Int)]) → Q (.int i) H'
theorem scCell9 : FnScope ["_law_cells", "_law_spot", "_law_k", "_law_base"] ["_law_cells", "_law_spot"] (defScope sCell9) := ⟨rfl, rfl, rfl, by decide +kernel, rfl, by decide +kernel, by decide +kernel⟩
theorem ok_Cell9 (g : Glb9 mg) (F : Fun K "_law_cell" "_law_cell" sCell9 f fd) : FnOk P w K mg base CX0 1 f fd ["_law_cells", "_law_spot"] (spCell9 K) := by
  refine F.okI scCell9 (fun vs H Q E h => ?_) (fun cdv A outer s H vs Q E hr h => ?_)
  · obtain ⟨a, b, n, rfl, _⟩ := h; rfl
  obtain ⟨a, b, n, rfl, ⟨⟨ns, hS, h63⟩, hab, hb⟩, hn, q⟩ := h
  refine ⟨_, pss_cons (ps_asg (pe_op op_add (pe_ix ix_list (pv 1) pe_int (fun _ _ => rfl)) pe_int) (.mk (L2.pg_sub (L2.pv 1) L2.pe_int set_list)))
    (pss_cons (ps_set (i := 2) scCell9.nd rfl (Or.inl rfl) (pe_ix ix_list (pv 1) pe_int (fun _ _ => rfl)))
    (pss_cons (ps_set (i := 3) scCell9.nd rfl (Or.inl rfl) (pe_op op_add (pe_op op_mul (pe_op op_mul pe_int (pv 2)) (pv 2)) (pe_op op_mul pe_int (pv 2))))
    (pss_cons (ps_if (pt_cmpR op_gt (pe_callB call_len_seq rfl g.nLen b9Len (pa_cons (pv 0) pa_nil)) pe_int (nomark _))
      (pss_one (ps_set (i := 3) scCell9.nd rfl (Or.inl rfl) (pe_op op_add (pv 3) (pe_op op_mul (pe_ix ix_list (pv 0) (pe_op op_mod (pv 2) (pe_callB call_len_seq rfl g.nLen b9Len (pa_cons (pv 0) pa_nil))) (fun _ _ => rfl)) (pe_op op_add pe_int (pe_op op_fdiv (pv 2) (pe_callB call_len_seq rfl g.nLen b9Len (pa_cons (pv 0) pa_nil)))))))) pss_nil)
    (pss_one (ps_ret (pe_op op_fdiv (pe_op op_mod (pe_op op_mul (pv 3) pe_int) pe_int) pe_int)))))), ?_⟩
  have hS' : ∀ o, SqL K (upd H b o) a (ns.map V.int) := fun o => (But9.put H o).sqL hab hS
  have hix : ixN [V.int (n : Int)].length 0 = some 0 := by
    unfold ixN
    rw [if_pos (by decide), if_pos (by show (0 : Int) < ((1 : Nat) : Int); decide)]
    rfl
  refine ⟨_, rfl, b, _, _, _, rfl, rfl, SqL.of hb, atI_nat (j := 0) rfl, _, _, rfl, rfl, _, rfl, b, _, _, 0, rfl, rfl, hb, hix, ?_⟩
  have e1 : ((n : Int) + 1) = ((n + 1 : Nat) : Int) := by omega
  refine ⟨_, rfl, b, _, _, _, rfl, rfl, SqL.of upd_same, atI_nat (j := 0) rfl, ?_⟩
  dsimp only
  show tSeq _ _ _ _ (upd H b (.lst [V.int ((n : Int) + 1)]))
  rw [e1]
  generalize hm : n + 1 = m at q
  have hm1 : m ≤ 1000000000001 := by omega
  have fin : ∀ B : Int, 0 ≤ B * 48271 % 2147483647 / 7 ∧ B * 48271 % 2147483647 / 7 < 306783380 := fun B => by
    have := Int.emod_nonneg (B * 48271) (b := 2147483647) (by decide)
    have := Int.emod_lt_of_pos (B * 48271) (b := 2147483647) (by decide)
    omega
  refine ⟨_, rfl, _, _, rfl, rfl, .inl ⟨by decide, by decide⟩, _, rfl, _, _, rfl, rfl, .inr ⟨by omega, by omega⟩, _, rfl, _, _, rfl, rfl, .inl ⟨by decide, by decide⟩, _, _, rfl, rfl, ?_⟩
  refine ⟨_, rfl, a, _, rfl, .inl (hS' _), _, _, rfl, rfl, _, rfl, ?_⟩
  refine ite_b9 (fun e => ?_) (fun e => ?_)
  · have h0 : (0 : Int) < ((ns.map V.int).length : Nat) := of_decide_eq_true e
    have hlen : ((ns.map V.int).length : Nat) ≤ 63 := by rw [List.length_map]; exact h63
    have k0 := Int.emod_nonneg (m : Int) (b := ((ns.map V.int).length : Nat)) (by omega)
    have k1 := Int.emod_lt_of_pos (m : Int) (b := ((ns.map V.int).length : Nat)) h0
    obtain ⟨v, hv, hat⟩ := atI_mem9 k0 k1
    obtain ⟨z, _, rfl⟩ := List.mem_map.mp hv
    have d0 : 0 ≤ (m : Int) / ((ns.map V.int).length : Nat) := Int.ediv_nonneg (by omega) (by omega)
    have d1 : (m : Int) / ((ns.map V.int).length : Nat) ≤ m := Int.ediv_le_self _ (by omega)
    refine ⟨_, rfl, _, rfl, _, rfl, _, rfl, a, _, rfl, .inl (hS' _), _, _, rfl, rfl, h0, a, _, _, _, rfl, rfl, hS' _, hat, _, rfl, _, rfl, a, _, rfl, .inl (hS' _), _, _, rfl, rfl, ⟨h0, by show _ < (1073741824 : Int); omega⟩, _, _, rfl, rfl, _, _, rfl, rfl, .inr ⟨by show _ < 1 + (m : Int) / _; omega, by show 1 + (m : Int) / _ < _; omega⟩, _, _, rfl, rfl, ?_⟩
    refine ⟨_, rfl, _, _, rfl, rfl, .inr ⟨by decide, by decide⟩, _, _, rfl, rfl, (by show (0 : Int) < 2147483647; decide), _, _, rfl, rfl, ⟨by decide, by decide⟩, ?_⟩
    exact q _ _ (fin _).1 (fin _).2 (But9.put H _) upd_same
  · refine ⟨_, rfl, _, _, rfl, rfl, .inr ⟨by decide, by decide⟩, _, _, rfl, rfl, (by show (0 : Int) < 2147483647; decide), _, _, rfl, rfl, ⟨by decide, by decide⟩, ?_⟩
    exact q _ _ (fin _).1 (fin _).2 (But9.put H _) upd_same
end
end GS
set_option Elab.async false
set_option linter.all false
set_option maxRecDepth 100000
set_option maxHeartbeats 4000000
namespace GS
open PySem PyProof.Rows
open L2 hiding pe_int pe_bl pe_non pe_str pv pe_glob pe_op pe_cmpR pe_one pe_and pe_ifExp pe_ix po_none po_some pe_slice pa_nil pa_cons pe_lst pe_tup pe_dnewK pe_callB pe_callTy pe_bm pt_cmpR pt_val pt_not pw_and1 pw_or1 pw_and pw_or pg_name pgs_nil pgs_cons pg_tup pi_list pi_tup pi_range1 ps_ret ps_expr ps_set ps_asg ps_if ps_for pss_nil pss_cons pss_one
open L3
/-! ### the law's table of givers -/
structure Rec where
  fr : V
  st : Str
  m : Int
  h : Int
def OneAt (K : PySem.W.Frag) (H : Hp) (d : Addr) (i : Nat) (r : Rec) : Prop := ∃ (kvs : List (Key × V)) (gvv : V), H d = some (.dK kvs) ∧ kvs.length ≤ 10 ∧ valV kvs (.inr "giver") = some gvv ∧ At K H (thD i) gvv ∧ valV kvs (.inr "frame") = some r.fr ∧ valV kvs (.inr "state") = some (.str r.st) ∧ (r.fr = .non → valV kvs (.inr "at") = some (.int r.h) ∧ valV kvs (.inr "end") = some (.int r.m))
theorem dget_of {H : Hp} {d : Addr} {kvs : List (Key × V)} {n : Str} {v : V} (h : H d = some (.dK kvs)) (e : valV kvs (.inr n) = some v) : DGet H d (.str n) (some v) := by
  have := DGet.k (k := .inr n) h
  rw [e] at this; exact this
theorem len_put {kvs : List (Key × V)} {k : Key} {v y : V} (h : valV kvs k = some y) : (putK kvs k v).length = kvs.length := by
  unfold putK
  rw [valV_any, h, if_pos (show (some y).isSome = true from rfl), List.length_map]
section
variable {K : PySem.W.Frag} {H H' : Hp} {d : Addr} {i : Nat} {r : Rec}
theorem OneAt.keep (e : H' d = H d) (f : Fx H H') (h : OneAt K H d i r) : OneAt K H' d i r := by
  obtain ⟨kvs, gvv, h1, h2, h3, h4, h5⟩ := h
  exact ⟨kvs, gvv, e.trans h1, h2, h3, At.fx f _ _ h4, h5⟩
theorem OneAt.giver (h : OneAt K H d i r) : ∃ v, DGet H d (.str "giver") (some v) ∧ At K H (thD i) v := by
  obtain ⟨kvs, gvv, h1, h2, h3, h4, h5⟩ := h
  exact ⟨gvv, dget_of h1 h3, h4⟩
theorem OneAt.state (h : OneAt K H d i r) : DGet H d (.str "state") (some (.str r.st)) := by
  obtain ⟨kvs, gvv, h1, h2, h3, h4, h5, h6, h7⟩ := h
  exact dget_of h1 h6
theorem OneAt.frame (h : OneAt K H d i r) : DGet H d (.str "frame") (some r.fr) := by
  obtain ⟨kvs, gvv, h1, h2, h3, h4, h5, h6, h7⟩ := h
  exact dget_of h1 h5
theorem OneAt.at (h : OneAt K H d i r) (e : r.fr = .non) : DGet H d (.str "at") (some (.int r.h)) ∧ DGet H d (.str "end") (some (.int r.m)) := by
  obtain ⟨kvs, gvv, h1, h2, h3, h4, h5, h6, h7⟩ := h
  exact ⟨dget_of h1 (h7 e).1, dget_of h1 (h7 e).2⟩
theorem OneAt.putSt (h : OneAt K H d i r) (st' : Str) : ∃ kvs, H d = some (.dK kvs) ∧ kvs.length < sizeLine ∧ OneAt K (upd H d (.dK (putK kvs (.inr "state") (.str st')))) d i ⟨r.fr, st', r.m, r.h⟩ := by
  obtain ⟨kvs, gvv, h1, h2, h3, h4, h5, h6, h7⟩ := h
  refine ⟨kvs, h1, small1000 (by omega), _, gvv, upd_same, by rw [len_put h6]; exact h2, ?_, At.fx (Fx.put h1 rfl) _ _ h4, ?_, ?_, fun e => ⟨?_, ?_⟩⟩
  · rw [valV_put, if_neg (by decide +kernel)]; exact h3
  · rw [valV_put, if_neg (by decide +kernel)]; exact h5
  · rw [valV_put, if_pos rfl]
  · rw [valV_put, if_neg (by decide +kernel)]; exact (h7 e).1
  · rw [valV_put, if_neg (by decide +kernel)]; exact (h7 e).2
theorem OneAt.putAt (h : OneAt K H d i r) (e0 : r.fr = .non) (h' : Int) : ∃ kvs, H d = some (.dK kvs) ∧ kvs.length < sizeLine ∧ OneAt K (upd H d (.dK (putK kvs (.inr "at") (.int h')))) d i ⟨r.fr, r.st, r.m, h'⟩ := by
  obtain ⟨kvs, gvv, h1, h2, h3, h4, h5, h6, h7⟩ := h
  refine ⟨kvs, h1, small1000 (by omega), _, gvv, upd_same, by rw [len_put (h7 e0).1]; exact h2, ?_, At.fx (Fx.put h1 rfl) _ _ h4, ?_, ?_, fun e => ⟨?_, ?_⟩⟩
  · rw [valV_put, if_neg (by decide +kernel)]; exact h3
  · rw [valV_put, if_neg (by decide +kernel)]; exact h5
  · rw [valV_put, if_neg (by decide +kernel)]; exact h6
  · rw [valV_put, if_pos rfl]
  · rw [valV_put, if_neg (by decide +kernel)]; exact (h7 e).2
end
/-- where the law has its things -/
structure Lw where
  W : Addr
  l : Addr
  g : Addr
  gl : Addr
  a : Addr
  b : Addr
  sc : Addr
/-- a list that stays -/
def Stay (L : Lw) (p : Addr) : Prop := p ≠ L.l ∧ p ≠ L.b
def FrOk (K : PySem.W.Frag) (H : Hp) (L : Lw) (v : V) : Prop := (∃ d, At K H d v ∧ dep d ≤ 60) ∨ ∃ p xs, v = .ref p ∧ H p = some (.lst xs) ∧ Stay L p ∧ p ≠ L.gl
structure TabI (K : PySem.W.Frag) (H : Hp) (L : Lw) (ds : List Addr) (is : List Nat) (rs : List Rec) (ns : List Int) (n : Nat) : Prop where
  gl : H L.gl = some (.lst (ds.map V.ref))
  n1 : ds.length = is.length
  n2 : rs.length = is.length
  dn : ds.Nodup
  t : ∀ (j : Nat) (d : Addr) (i : Nat) (r : Rec), ds[j]? = some d → is[j]? = some i → rs[j]? = some r → OneAt K H d i r ∧ FrOk K H L r.fr
  gd : ∀ d ∈ ds, d ≠ L.g
  ce : ∃ cs : List Int, SqL K H L.a (cs.map V.int) ∧ cs.length ≤ 63
  sc : (Stay L L.sc ∧ L.sc ≠ L.gl ∧ SqL K H L.sc (ns.map V.int)) ∨ ∀ H', SqL K H' L.sc (ns.map V.int)
  b : H L.b = some (.lst [.int (n : Nat)])
  s1 : Stay L L.gl
  s2 : Stay L L.a
  s4 : L.b ≠ L.l
  s5 : L.a ≠ L.gl
theorem SqL.keepS {K : PySem.W.Frag} {H H' : Hp} {p : Addr} {xs : List V} (k : ∀ ys, H p = some (.lst ys) → H' p = some (.lst ys)) (k2 : ∀ o u, H p = some (.frz o u) → H' p = some (.frz o u)) (h : SqL K H p xs) : SqL K H' p xs := by
  rcases h with (h | ⟨o, h⟩) | h
  · exact .inl (.inl (k _ h))
  · exact .inl (.inr ⟨o, k2 _ _ h⟩)
  · exact .inr h
section
variable {K : PySem.W.Frag} {H H' : Hp} {L : Lw} {ds : List Addr} {is : List Nat} {rs : List Rec} {ns : List Int} {n : Nat}
theorem FrOk.keep {v : V} (f : Fx H H') (k : ∀ p ys, Stay L p → p ≠ L.gl → H p = some (.lst ys) → H' p = some (.lst ys)) (h : FrOk K H L v) : FrOk K H' L v := by
  rcases h with ⟨d, h1, h2⟩ | ⟨p, xs, h1, h2, h3, h4⟩
  · exact .inl ⟨d, At.fx f _ _ h1, h2⟩
  · exact .inr ⟨p, xs, h1, k _ _ h3 h4 h2, h3, h4⟩
/-- the table stays where its dicts, the tuples and all lists but those two stay -/
theorem TabI.keep {n' : Nat} (f : Fx H H') (k : ∀ p ys, Stay L p → H p = some (.lst ys) → H' p = some (.lst ys)) (kd : ∀ d ∈ ds, H' d = H d) (hb : H' L.b = some (.lst [.int (n' : Nat)])) (h : TabI K H L ds is rs ns n) : TabI K H' L ds is rs ns n' := by
  obtain ⟨h1, h2, h3, h4, h5, h6, ⟨cs, h7, h7'⟩, h8, h9, h10, h11, h13, h14⟩ := h
  refine ⟨k _ _ h10 h1, h2, h3, h4, fun j d i r e1 e2 e3 => ?_, h6, ⟨cs, SqL.keepS (fun ys => k _ _ h11) (fun o u e => f _ _ e rfl) h7, h7'⟩, h8.imp (fun z => ⟨z.1, z.2.1, SqL.keepS (fun ys => k _ _ z.1) (fun o u e => f _ _ e rfl) z.2.2⟩) id, hb, h10, h11, h13, h14⟩
  obtain ⟨a, b⟩ := h5 j d i r e1 e2 e3
  exact ⟨a.keep (kd d (List.mem_of_getElem? e1)) f, b.keep f fun p ys s _ => k p ys s⟩
theorem TabI.dict (h : TabI K H L ds is rs ns n) {d : Addr} (m : d ∈ ds) : ∃ kvs, H d = some (.dK kvs) := by
  obtain ⟨j, hj, e⟩ := List.getElem_of_mem m
  have h1 : j < is.length := by rw [← h.n1]; exact hj
  have h2 : j < rs.length := by rw [h.n2]; exact h1
  obtain ⟨⟨kvs, _, a, _⟩, _⟩ := h.t j d is[j] rs[j] (by rw [List.getElem?_eq_getElem hj, e]) (List.getElem?_eq_getElem h1) (List.getElem?_eq_getElem h2)
  exact ⟨kvs, a⟩
theorem TabI.same (s : Same H H') (h : TabI K H L ds is rs ns n) : TabI K H' L ds is rs ns n :=
  h.keep (Same.fx s) (fun p ys _ e => s _ _ e) (fun d m => let ⟨kvs, e⟩ := h.dict m; by rw [s _ _ e, e]) (s _ _ h.b)
theorem TabI.chg {c : ClD} {xs : List V} (s : Chg c L.l H H') (hl : H L.l = some (.lst xs)) (h : TabI K H L ds is rs ns n) : TabI K H' L ds is rs ns n :=
  h.keep (s.fx hl) (fun p ys z e => s.lst z.1 e) (fun d m => let ⟨kvs, e⟩ := h.dict m; by rw [s.dict hl e, e]) (s.lst h.s4 h.b)
theorem TabI.spot {n' : Nat} (s : But9 L.b H H') (hb : H' L.b = some (.lst [.int (n' : Nat)])) (h : TabI K H L ds is rs ns n) : TabI K H' L ds is rs ns n' :=
  h.keep (s.fx h.b rfl) (fun p ys z e => s _ _ z.2 e) (fun d m => let ⟨kvs, e⟩ := h.dict m; by rw [s _ _ (fun y => by rw [y, h.b] at e; cases e) e, e]) hb
theorem TabI.put {j : Nat} {d : Addr} {i : Nat} {r r' : Rec} {kvs : List (Key × V)} {o : HO} (h : TabI K H L ds is rs ns n) (e1 : ds[j]? = some d) (e2 : is[j]? = some i) (e3 : rs[j]? = some r) (hd : H d = some (.dK kvs)) (ho : OneAt K (upd H d o) d i r') (ef : r'.fr = r.fr) : TabI K (upd H d o) L ds is (rs.set j r') ns n := by
  have f : Fx H (upd H d o) := Fx.put hd rfl
  have k : ∀ p ys, H p = some (.lst ys) → upd H d o p = some (.lst ys) := fun p ys e => by rw [upd_ne (fun y => by rw [y, hd] at e; cases e)]; exact e
  obtain ⟨h1, h2, h3, h4, h5, h6, ⟨cs, h7, h7'⟩, h8, h9, h10, h11, h13, h14⟩ := h
  refine ⟨k _ _ h1, h2, by rw [List.length_set]; exact h3, h4, fun j' d' i' r0 x1 x2 x3 => ?_, h6, ⟨cs, SqL.keepS (fun ys => k _ _) (fun o u e => f _ _ e rfl) h7, h7'⟩, h8.imp (fun z => ⟨z.1, z.2.1, SqL.keepS (fun ys => k _ _) (fun o u e => f _ _ e rfl) z.2.2⟩) id, k _ _ h9, h10, h11, h13, h14⟩
  by_cases hj : j' = j
  · subst hj
    rw [e1] at x1; cases x1
    rw [e2] at x2; cases x2
    rw [List.getElem?_set_self (lt_of_some e3)] at x3; cases x3
    refine ⟨ho, ?_⟩
    rw [ef]
    exact (h5 j' d i r e1 e2 e3).2.keep f fun p ys _ _ => k p ys
  · rw [List.getElem?_set_ne (Ne.symm hj)] at x3
    obtain ⟨a, b⟩ := h5 j' d' i' r0 x1 x2 x3
    refine ⟨a.keep (upd_ne fun y => hj ?_) f, b.keep f fun p ys _ _ => k p ys⟩
    subst y
    exact (List.getElem?_inj (lt_of_some x1) h4).mp (x1.trans e1.symm)
end
/-- the table tells what the world has -/
structure Sync (os : List Th) (is : List Nat) (rs : List Rec) : Prop where
  pre : ∀ i, i < 20 → os[i]? = os0[i]?
  ge : ∀ i ∈ is, 20 ≤ i
  nd : is.Nodup
  s : ∀ (j i : Nat) (r : Rec), is[j]? = some i → rs[j]? = some r → os[i]? = some (.gr r.fr r.st r.m r.h)
theorem Sync.add {os : List Th} {is : List Nat} {rs : List Rec} (h : Sync os is rs) (o : Th) : Sync (os ++ [o]) is rs := by
  have h19 : 19 < os.length := by
    have := h.pre 19 (by decide)
    have e : os0[19]? ≠ none := by
      rw [List.getElem?_eq_getElem (by rw [os0_len]; decide)]; exact fun z => nomatch z
    rw [← this] at e
    cases z : os[19]? with
    | none => exact absurd z e
    | some o => exact lt_of_some z
  refine ⟨fun i hi => ?_, h.ge, h.nd, fun j i r e1 e2 => snoc_old (h.s j i r e1 e2)⟩
  rw [List.getElem?_append_left (by omega)]
  exact h.pre i hi
theorem Sync.put {os : List Th} {is : List Nat} {rs : List Rec} (h : Sync os is rs) {j i : Nat} {r : Rec} {r' : Rec} (e1 : is[j]? = some i) (e2 : rs[j]? = some r) : Sync (os.set i (.gr r'.fr r'.st r'.m r'.h)) is (rs.set j r') := by
  have hi := lt_of_some (h.s j i r e1 e2)
  have h20 := h.ge i (List.mem_of_getElem? e1)
  refine ⟨fun k hk => ?_, h.ge, h.nd, fun j' i' r0 x1 x2 => ?_⟩
  · rw [List.getElem?_set_ne (by omega)]; exact h.pre k hk
  · by_cases hj : j' = j
    · subst hj
      rw [e1] at x1; cases x1
      rw [List.getElem?_set_self (lt_of_some e2)] at x2; cases x2
      exact List.getElem?_set_self hi
    · rw [List.getElem?_set_ne (Ne.symm hj)] at x2
      rw [List.getElem?_set_ne fun y => hj ?_]
      · exact h.s j' i' r0 x1 x2
      · subst y
        exact (List.getElem?_inj (lt_of_some x1) h.nd).mp (x1.trans e1.symm)
structure LawI (K : PySem.W.Frag) (c : ClD) (H : Hp) (L : Lw) (ps : List Addr) (os : List Th) (ds : List Addr) (is : List Nat) (rs : List Rec) (ns : List Int) (n : Nat) : Prop where
  w : WAt K c H L.W L.l L.g ps os gv0
  t : TabI K H L ds is rs ns n
  s : Sync os is rs
section
variable {K : PySem.W.Frag} {c : ClD} {H H' : Hp} {L : Lw} {ps : List Addr} {os : List Th} {ds : List Addr} {is : List Nat} {rs : List Rec} {ns : List Int} {n : Nat}
theorem LawI.same (s : Same H H') (h : LawI K c H L ps os ds is rs ns n) : LawI K c H' L ps os ds is rs ns n := ⟨h.w.same s, h.t.same s, h.s⟩
theorem LawI.chg {ps' : List Addr} {os' : List Th} (s : Chg c L.l H H') (w : WAt K c H' L.W L.l L.g ps' os' gv0) (y : Sync os' is rs) (h : LawI K c H L ps os ds is rs ns n) : LawI K c H' L ps' os' ds is rs ns n := ⟨w, h.t.chg s h.w.t, y⟩
/-- the j-th of the table -/
structure Row (ds : List Addr) (is : List Nat) (rs : List Rec) (j : Nat) (d : Addr) (i : Nat) (r : Rec) : Prop where
  d : ds[j]? = some d
  i : is[j]? = some i
  r : rs[j]? = some r
theorem LawI.one (h : LawI K c H L ps os ds is rs ns n) {j i : Nat} {d : Addr} {r : Rec} (o : Row ds is rs j d i r) : OneAt K H d i r := (h.t.t j d i r o.d o.i o.r).1
theorem LawI.osI (h : LawI K c H L ps os ds is rs ns n) {j i : Nat} {d : Addr} {r : Rec} (o : Row ds is rs j d i r) : os[i]? = some (.gr r.fr r.st r.m r.h) := h.s.s j i r o.i o.r
/-- the world has put a state, the table puts it, too -/
theorem TabI.st {j i : Nat} {d : Addr} {r : Rec} (t : TabI K H L ds is rs ns n) (o : Row ds is rs j d i r) (st' : Str) : ∃ kvs, H d = some (.dK kvs) ∧ kvs.length < sizeLine ∧ TabI K (upd H d (.dK (putK kvs (.inr "state") (.str st')))) L ds is (rs.set j ⟨r.fr, st', r.m, r.h⟩) ns n := by
  obtain ⟨kvs, a, b, e⟩ := (t.t j d i r o.d o.i o.r).1.putSt st'
  exact ⟨kvs, a, b, t.put o.d o.i o.r a e rfl⟩
theorem TabI.ad {j i : Nat} {d : Addr} {r : Rec} (t : TabI K H L ds is rs ns n) (o : Row ds is rs j d i r) (e0 : r.fr = .non) (h' : Int) : ∃ kvs, H d = some (.dK kvs) ∧ kvs.length < sizeLine ∧ TabI K (upd H d (.dK (putK kvs (.inr "at") (.int h')))) L ds is (rs.set j ⟨r.fr, r.st, r.m, h'⟩) ns n := by
  obtain ⟨kvs, a, b, e⟩ := (t.t j d i r o.d o.i o.r).1.putAt e0 h'
  exact ⟨kvs, a, b, t.put o.d o.i o.r a e rfl⟩
theorem Row.set {j i : Nat} {d : Addr} {r r' : Rec} (o : Row ds is rs j d i r) : Row ds is (rs.set j r') j d i r' := ⟨o.d, o.i, List.getElem?_set_self (lt_of_some o.r)⟩
end
end GS
set_option Elab.async false
set_option linter.all false
set_option maxRecDepth 100000
set_option maxHeartbeats 4000000
namespace GS
open PySem PyProof.Rows
open L2 hiding pe_int pe_bl pe_non pe_str pv pe_glob pe_op pe_cmpR pe_one pe_and pe_ifExp pe_ix po_none po_some pe_slice pa_nil pa_cons pe_lst pe_tup pe_dnewK pe_callB pe_callTy pe_bm pt_cmpR pt_val pt_not pw_and1 pw_or1 pw_and pw_or pg_name pgs_nil pgs_cons pg_tup pi_list pi_tup pi_range1 ps_ret ps_expr ps_set ps_asg ps_if ps_for pss_nil pss_cons pss_one
open L3
abbrev pCtd : Stmt := topd 53
abbrev pSG : Stmt := topd 54
abbrev pGo : Stmt := topd 55
abbrev pThr : Stmt := topd 56
abbrev pSht : Stmt := topd 57
abbrev pAsk : Stmt := topd 60
abbrev pCon : Stmt := topd 61
/-! ### what is told -/
def kF : D := .tup [.str "fault", .str "KindFault"]
def eF : D := .tup [.str "fault", .str "EndFault"]
def noD : D := .tup [.str "none"]
def stG : Option Th → Option Str
  | some (.gr _ st _ _) => if st = "goes" then none else some st
  | _ => none
def frN : Option Th → Bool
  | some (.gr fr _ _ _) => decide (fr = .non)
  | _ => true
def oV : Option Str → V
  | none => .non
  | some s => .str s
def goR (o : Option Th) (g v : D) : D := match stG o with
  | none => kF
  | some st => if st = "over" then eF else if (decide (st = "new") && (!eqD v noD && !frN o)) = true then kF else .tup [.str "go", g, v]
def thR (o : Option Th) (b : Bool) (g f : D) : D := match stG o with
  | none => kF
  | some st => if b = false then kF else if st = "over" then .tup [.str "raise", f] else .tup [.str "throw", g, f]
def shR (o : Option Th) (g : D) : D := match stG o with
  | none => kF
  | some st => if st = "waits" then .tup [.str "shut", g] else .tup [.str "value", noD]
def ixO : D → Nat
  | .tup [_, .int i] => i.toNat
  | _ => 0
def shO (os : List Th) (g : D) : List Th := match thO os g with
  | some (.gr fr st m h) => if st = "goes" ∨ st = "waits" then os else os.set (ixO g) (.gr fr "over" m h)
  | _ => os
def asR (o : Option Th) (g : D) : D := match stG o with
  | none => kF
  | some st => if st = "over" then .tup [.str "over"] else .tup [.str "go", g, noD]
theorem ixO_th (i : Nat) : ixO (thD i) = i := by
  show ((i : Nat) : Int).toNat = i
  omega
theorem Vd.cases {os : List Th} {d : D} (h : Vd os d) : thO os d = none ∨ ∃ i o, d = thD i ∧ os[i]? = some o ∧ thO os d = some o := by
  obtain ⟨k, r, rfl, h⟩ := h
  by_cases hk : k = "thing"
  · obtain ⟨i, rfl, hi⟩ := h hk
    subst hk
    exact .inr ⟨i, os[i], rfl, List.getElem?_eq_getElem hi, (thO_th os i).trans (List.getElem?_eq_getElem hi)⟩
  · exact .inl (thO_no os r hk)
theorem TreeG.at {K : PySem.W.Frag} {p : Addr} {vs : List V} {ds : List D} (a : ∀ H, SqT K H p vs ∧ AtAll K H ds vs) (H : Hp) : At K H (.tup ds) (.ref p) := At_tup.mpr ⟨p, vs, rfl, (a H).1, (a H).2⟩
section
variable {P : Program} {w : World} {K : PySem.W.Frag} {mg : Str → Option Value} {base : Heap} {f : Addr} {fd : FuncData} {c : ClD}
/-! ### state_to_go -/
def spSG (K : PySem.W.Frag) (c : ClD) : Sp := fun vs H Q _ => ∃ (W l gd : Addr) (ps : List Addr) (os : List Th) (gv : List (Str × Nat)) (x : V) (d : D), vs = [.ref W, x] ∧ WAt K c H W l gd ps os gv ∧ At K H d x ∧ Vd os d ∧ Q (oV (stG (thO os d))) H
theorem scSG : FnScope ["world", "g", "state"] ["world", "g"] (defScope pSG) := ⟨rfl, rfl, rfl, by decide +kernel, rfl, by decide +kernel, by decide +kernel⟩
theorem ok_SG (F : Fun K "state_to_go" "state_to_go" pSG f fd) (dG : Def P w K mg base "is_giver" ["world", "a"] 2 (spIs K c false false false true)) (dS : Def P w K mg base "state_of" ["world", "g"] 2 (spStO K c)) : FnOk P w K mg base CX0 3 f fd ["world", "g"] (spSG K c) := by
  refine F.okI scSG (fun vs H Q E h => ?_) (fun cdv A outer s H vs Q E hr h => ?_)
  · obtain ⟨_, _, _, _, _, _, _, _, rfl, _⟩ := h; rfl
  obtain ⟨W, l, gd, ps, os, gv, x, d, rfl, hw, hx, hv, q⟩ := h
  refine ⟨_, pss_cons (ps_set (i := 2) scSG.nd rfl (Or.inl rfl) (pe_ifExp (pt_val (L3.pe_def dG hr (by decide) rfl (pa_cons (pv 0) (pa_cons (pv 1) pa_nil)))) (L3.pe_def dS hr (by decide) rfl (pa_cons (pv 0) (pa_cons (pv 1) pa_nil))) pe_non))
    (pss_one (ps_ret (pe_ifExp (pt_cmpR op_eq (pv 2) pe_str (nomark _)) pe_non (pv 2)))), ?_⟩
  refine ⟨_, rfl, _, rfl, W, l, gd, ps, os, gv, x, d, rfl, hw, hx, hv, _, rfl, ?_⟩
  have no : ∀ H, (stG (thO os d) = none → Q .non H) → tagB false false false true (thO os d) = false → Q .non H := fun H q e => by
    refine q ?_
    cases ho : thO os d with
    | none => rfl
    | some o => rw [ho] at e; cases o <;> first | rfl | cases e
  refine ite_b9 (fun e => ?_) (fun e => ?_)
  · rcases hv.cases with h0 | ⟨i, o, rfl, ho, h0⟩
    · rw [h0] at e; cases e
    rw [h0] at e q
    cases o with
    | gr fr st m hh =>
      refine ⟨_, rfl, _, rfl, W, l, gd, ps, os, gv, x, i, fr, st, m, hh, rfl, hw, hx, ho, ?_⟩
      refine ⟨_, rfl, rfl, _, rfl, ?_⟩
      rw [decS]
      have q' : Q (oV (if st = "goes" then none else some st)) H := q
      by_cases hs : st = "goes"
      · rw [if_pos hs] at q'
        rw [decide_eq_true hs]
        exact iteT q'
      · rw [if_neg hs] at q'
        rw [decide_eq_false hs]
        exact iteF ⟨_, rfl, q'⟩
    | gvn n => cases e
    | kd n => cases e
    | ob n => cases e
  · refine ⟨_, rfl, rfl, _, rfl, ?_⟩
    have q' : Q .non H := no H (fun z => by rw [z] at q; exact q) e
    exact iteF ⟨_, rfl, q'⟩
/-! ### gone_on -/
def spGo (K : PySem.W.Frag) (c : ClD) : Sp := fun vs H Q _ => ∃ (W l gd : Addr) (ps : List Addr) (os : List Th) (gv : List (Str × Nat)) (x y : V) (g v : D), vs = [.ref W, x, y] ∧ WAt K c H W l gd ps os gv ∧ At K H g x ∧ Vd os g ∧ At K H v y ∧ dep v ≤ 60 ∧ ∀ r H', Same H H' → At K H' (goR (thO os g) g v) r → Q r H'
theorem scGo : FnScope ["world", "g", "v", "state"] ["world", "g", "v"] (defScope pGo) := ⟨rfl, rfl, rfl, by decide +kernel, rfl, by decide +kernel, by decide +kernel⟩
theorem ok_Go (tN : TreeG K mg "NONE" [.str "none"]) (tK : TreeG K mg "KIND_FAULT" [.str "fault", .str "KindFault"]) (F : Fun K "gone_on" "gone_on" pGo f fd) (dS : Def P w K mg base "state_to_go" ["world", "g"] 3 (spSG K c)) (dF : Def P w K mg base "frame_of" ["world", "g"] 2 (spFrO K c)) : FnOk P w K mg base CX0 4 f fd ["world", "g", "v"] (spGo K c) := by
  refine F.okI scGo (fun vs H Q E h => ?_) (fun cdv A outer s H vs Q E hr h => ?_)
  · obtain ⟨_, _, _, _, _, _, _, _, _, _, rfl, _⟩ := h; rfl
  obtain ⟨W, l, gd, ps, os, gv, x, y, g, v, rfl, hw, hx, hv, hy, hd, q⟩ := h
  obtain ⟨pN, vN, mN, aN⟩ := tN
  obtain ⟨pK, vK, mK, aK⟩ := tK
  refine ⟨_, pss_cons (ps_set (i := 3) scGo.nd rfl (Or.inl rfl) (L3.pe_def dS hr (by decide) rfl (pa_cons (pv 0) (pa_cons (pv 1) pa_nil))))
    (pss_cons (ps_if (pt_cmpR op_isN (pv 3) pe_non (nomark _)) (pss_one (ps_ret (pe_glob (v := .ref pK) rfl mK rfl))) pss_nil)
    (pss_cons (ps_if (pt_cmpR op_eq (pv 3) pe_str (nomark _)) (pss_one (ps_ret (pe_tup (pa_cons pe_str (pa_cons pe_str pa_nil))))) pss_nil)
    (pss_cons (ps_if (LW.pt (pw_and (pt_cmpR op_eq (pv 3) pe_str (nomark _)) (pw_and (pt_cmpR (op_neD hr) (pv 2) (pe_glob (v := .ref pN) rfl mN rfl) (nomark _)) (pw_and1 (pt_cmpR op_notN (L3.pe_def dF hr (by decide) rfl (pa_cons (pv 0) (pa_cons (pv 1) pa_nil))) pe_non (nomark _)))))) (pss_one (ps_ret (pe_glob (v := .ref pK) rfl mK rfl))) pss_nil)
    (pss_one (ps_ret (pe_tup (pa_cons pe_str (pa_cons (pv 1) (pa_cons (pv 2) pa_nil))))))))), ?_⟩
  refine ⟨_, rfl, _, rfl, W, l, gd, ps, os, gv, x, g, rfl, hw, hx, hv, ?_⟩
  unfold goR at q
  refine ⟨_, rfl, rfl, _, rfl, ?_⟩
  cases hs : stG (thO os g) with
  | none =>
    rw [hs] at q
    exact iteT (q _ _ (Same.refl _) (TreeG.at aK H))
  | some st =>
    rw [hs] at q
    refine iteF ⟨_, rfl, rfl, _, rfl, ?_⟩
    obtain ⟨i, fr, m, hh, rfl, ho, h0, hs'⟩ : ∃ i fr m hh, g = thD i ∧ os[i]? = some (.gr fr st m hh) ∧ thO os g = some (.gr fr st m hh) ∧ st ≠ "goes" := by
      rcases hv.cases with h0 | ⟨i, o, rfl, ho, h0⟩
      · rw [h0] at hs; cases hs
      rw [h0] at hs
      cases o with
      | gr fr st' m hh =>
        have hs2 : (if st' = "goes" then none else some st') = some st := hs
        by_cases e : st' = "goes"
        · rw [if_pos e] at hs2; cases hs2
        · rw [if_neg e] at hs2
          injection hs2 with hs2
          subst hs2
          exact ⟨i, fr, m, hh, rfl, ho, h0, e⟩
      | _ => cases hs
    rw [h0] at q
    rw [show oV (some st) = V.str st from rfl, decS]
    have q1 : ∀ r H', Same H H' → At K H' (if st = "over" then eF else if (decide (st = "new") && (!eqD v noD && !frN (some (.gr fr st m hh)))) = true then kF else .tup [.str "go", thD i, v]) r → Q r H' := q
    by_cases e1 : st = "over"
    · rw [decide_eq_true e1]
      rw [if_pos e1] at q1
      refine iteT ⟨by show 2 ≤ sizeLine; decide, fun p hp => q1 _ _ (same_new hp _) (At.new hp (AtAll2 (At_str.mpr rfl) (At_str.mpr rfl)))⟩
    · rw [decide_eq_false e1]
      rw [if_neg e1] at q1
      have fin : (decide (st = "new") && (!eqD v noD && !frN (some (.gr fr st m hh)))) = false → (tSeq tNext (tRet (tTup (tCons (tC (.str "go")) (tCons (tVar 1) (tCons (tVar 2) tNil)))))) { nx := fun _ H' => Q .non H', rt := Q } [some (.ref W), some x, some y, some (.str st)] H := fun e => by
        rw [if_neg (by rw [e]; exact Bool.false_ne_true)] at q1
        exact ⟨_, rfl, _, rfl, by show 3 ≤ sizeLine; decide, fun p hp => q1 _ _ (same_new hp _) (At.new hp (AtAll3 (At_str.mpr rfl) hx hy))⟩
      refine iteF ⟨_, rfl, rfl, _, rfl, ?_⟩
      rw [decS]
      by_cases e2 : st = "new"
      · rw [decide_eq_true e2]
        refine iteT ⟨_, rfl, v, noD, hy, TreeG.at aN H, hd, _, rfl, ?_⟩
        cases e3 : eqD v noD with
        | true =>
          refine iteF (iteF (fin ?_))
          rw [e3]; simp
        | false =>
          refine iteT ⟨_, rfl, _, rfl, W, l, gd, ps, os, gv, x, i, fr, st, m, hh, rfl, hw, hx, ho, rfl, _, rfl, ?_⟩
          by_cases e4 : fr = .non
          · rw [decide_eq_true e4]
            refine iteF (fin ?_)
            rw [e3]
            show (decide (st = "new") && (!false && !decide (fr = .non))) = false
            rw [decide_eq_true e4]; simp
          · rw [decide_eq_false e4]
            rw [if_pos (by rw [e3]; show (decide (st = "new") && (!false && !decide (fr = .non))) = true; rw [decide_eq_false e4, decide_eq_true e2]; rfl)] at q1
            exact iteT (q1 _ _ (Same.refl _) (TreeG.at aK H))
      · rw [decide_eq_false e2]
        refine iteF (iteF (fin ?_))
        rw [decide_eq_false e2]; rfl
/-! ### thrown -/
def spThr (K : PySem.W.Frag) (c : ClD) : Sp := fun vs H Q _ => ∃ (W l gd : Addr) (ps : List Addr) (os : List Th) (gv : List (Str × Nat)) (x y : V) (g v : D), vs = [.ref W, x, y] ∧ WAt K c H W l gd ps os gv ∧ At K H g x ∧ Vd os g ∧ At K H v y ∧ Vd os v ∧ ((("Fault" : Str), 9) : Str × Nat) ∈ gv ∧ ∀ r H', Same H H' → At K H' (thR (thO os g) (isF os (thO os v)) g v) r → Q r H'
theorem scThr : FnScope ["world", "g", "fault", "state"] ["world", "g", "fault"] (defScope pThr) := ⟨rfl, rfl, rfl, by decide +kernel, rfl, by decide +kernel, by decide +kernel⟩
theorem ok_Thr (tK : TreeG K mg "KIND_FAULT" [.str "fault", .str "KindFault"]) (F : Fun K "thrown" "thrown" pThr f fd) (dS : Def P w K mg base "state_to_go" ["world", "g"] 3 (spSG K c)) (dF : Def P w K mg base "is_fault" ["world", "a"] 4 (spFlt K c)) : FnOk P w K mg base CX0 5 f fd ["world", "g", "fault"] (spThr K c) := by
  refine F.okI scThr (fun vs H Q E h => ?_) (fun cdv A outer s H vs Q E hr h => ?_)
  · obtain ⟨_, _, _, _, _, _, _, _, _, _, rfl, _⟩ := h; rfl
  obtain ⟨W, l, gd, ps, os, gv, x, y, g, v, rfl, hw, hx, hv, hy, hd, hg, q⟩ := h
  obtain ⟨pK, vK, mK, aK⟩ := tK
  refine ⟨_, pss_cons (ps_set (i := 3) scThr.nd rfl (Or.inl rfl) (L3.pe_def dS hr (by decide) rfl (pa_cons (pv 0) (pa_cons (pv 1) pa_nil))))
    (pss_cons (ps_if (LW.pt (pw_or (pt_cmpR op_isN (pv 3) pe_non (nomark _)) (pw_or1 (pt_not (pt_val (L3.pe_def dF hr (by decide) rfl (pa_cons (pv 0) (pa_cons (pv 2) pa_nil)))))))) (pss_one (ps_ret (pe_glob (v := .ref pK) rfl mK rfl))) pss_nil)
    (pss_one (ps_ret (pe_ifExp (pt_cmpR op_eq (pv 3) pe_str (nomark _)) (pe_tup (pa_cons pe_str (pa_cons (pv 2) pa_nil))) (pe_tup (pa_cons pe_str (pa_cons (pv 1) (pa_cons (pv 2) pa_nil)))))))), ?_⟩
  refine ⟨_, rfl, _, rfl, W, l, gd, ps, os, gv, x, g, rfl, hw, hx, hv, ?_⟩
  unfold thR at q
  refine ⟨_, rfl, rfl, _, rfl, ?_⟩
  cases hs : stG (thO os g) with
  | none =>
    rw [hs] at q
    exact iteT (iteT (q _ _ (Same.refl _) (TreeG.at aK H)))
  | some st =>
    rw [hs] at q
    refine iteF ⟨_, rfl, _, rfl, W, l, gd, ps, os, gv, y, v, rfl, hw, hy, hd, hg, _, rfl, ?_⟩
    have q1 : ∀ r H', Same H H' → At K H' (if isF os (thO os v) = false then kF else if st = "over" then .tup [.str "raise", v] else .tup [.str "throw", g, v]) r → Q r H' := q
    cases hb : isF os (thO os v) with
    | false =>
      rw [if_pos hb] at q1
      exact iteT (q1 _ _ (Same.refl _) (TreeG.at aK H))
    | true =>
      rw [if_neg (by rw [hb]; exact Bool.noConfusion)] at q1
      refine iteF ⟨_, rfl, rfl, _, rfl, ?_⟩
      rw [show oV (some st) = V.str st from rfl, decS]
      by_cases e1 : st = "over"
      · rw [decide_eq_true e1]
        rw [if_pos e1] at q1
        exact iteT ⟨_, rfl, by show 2 ≤ sizeLine; decide, fun p hp => q1 _ _ (same_new hp _) (At.new hp (AtAll2 (At_str.mpr rfl) hy))⟩
      · rw [decide_eq_false e1]
        rw [if_neg e1] at q1
        exact iteF ⟨_, rfl, _, rfl, by show 3 ≤ sizeLine; decide, fun p hp => q1 _ _ (same_new hp _) (At.new hp (AtAll3 (At_str.mpr rfl) hx hy))⟩
/-! ### shut_down -/
def spSht (K : PySem.W.Frag) (c : ClD) : Sp := fun vs H Q _ => ∃ (W l gd : Addr) (ps : List Addr) (os : List Th) (gv : List (Str × Nat)) (x : V) (g : D), vs = [.ref W, x] ∧ WAt K c H W l gd ps os gv ∧ At K H g x ∧ Vd os g ∧ ∀ r H', Chg c l H H' → WAt K c H' W l gd ps (shO os g) gv → At K H' (shR (thO os g) g) r → Q r H'
theorem scSht : FnScope ["world", "g", "state"] ["world", "g"] (defScope pSht) := ⟨rfl, rfl, rfl, by decide +kernel, rfl, by decide +kernel, by decide +kernel⟩
theorem ok_Sht (tN : TreeG K mg "NONE" [.str "none"]) (tK : TreeG K mg "KIND_FAULT" [.str "fault", .str "KindFault"]) (F : Fun K "shut_down" "shut_down" pSht f fd) (dS : Def P w K mg base "state_to_go" ["world", "g"] 3 (spSG K c)) (dP : Def P w K mg base "set_state" ["world", "g", "state"] 2 (spStS K c)) : FnOk P w K mg base CX0 4 f fd ["world", "g"] (spSht K c) := by
  refine F.okI scSht (fun vs H Q E h => ?_) (fun cdv A outer s H vs Q E hr h => ?_)
  · obtain ⟨_, _, _, _, _, _, _, _, rfl, _⟩ := h; rfl
  obtain ⟨W, l, gd, ps, os, gv, x, g, rfl, hw, hx, hv, q⟩ := h
  obtain ⟨pN, vN, mN, aN⟩ := tN
  obtain ⟨pK, vK, mK, aK⟩ := tK
  refine ⟨_, pss_cons (ps_set (i := 2) scSht.nd rfl (Or.inl rfl) (L3.pe_def dS hr (by decide) rfl (pa_cons (pv 0) (pa_cons (pv 1) pa_nil))))
    (pss_cons (ps_if (pt_cmpR op_isN (pv 2) pe_non (nomark _)) (pss_one (ps_ret (pe_glob (v := .ref pK) rfl mK rfl))) pss_nil)
    (pss_cons (ps_if (pt_cmpR op_eq (pv 2) pe_str (nomark _)) (pss_one (ps_ret (pe_tup (pa_cons pe_str (pa_cons (pv 1) pa_nil))))) pss_nil)
    (pss_cons (ps_expr (L3.pe_def dP hr (by decide) rfl (pa_cons (pv 0) (pa_cons (pv 1) (pa_cons pe_str pa_nil)))))
    (pss_one (ps_ret (pe_tup (pa_cons pe_str (pa_cons (pe_glob (v := .ref pN) rfl mN rfl) pa_nil)))))))), ?_⟩
  refine ⟨_, rfl, _, rfl, W, l, gd, ps, os, gv, x, g, rfl, hw, hx, hv, ?_⟩
  refine ⟨_, rfl, rfl, _, rfl, ?_⟩
  rcases hv.cases with h0 | ⟨i, o, rfl, ho, h0⟩
  · unfold shR shO at q
    rw [h0] at q ⊢
    exact iteT (q _ _ (Same.chg (Same.refl _)) hw (TreeG.at aK H))
  unfold shR shO at q
  rw [h0] at q ⊢
  cases o with
  | gr fr st m hh =>
    rw [ixO_th] at q
    have q0 : ∀ r H', Chg c l H H' → WAt K c H' W l gd ps (if st = "goes" ∨ st = "waits" then os else os.set i (.gr fr "over" m hh)) gv → At K H' (match (if st = "goes" then none else some st) with | none => kF | some st => if st = "waits" then .tup [.str "shut", thD i] else .tup [.str "value", noD]) r → Q r H' := q
    show if decide (oV (if st = "goes" then none else some st) = .non) = true then _ else _
    by_cases e : st = "goes"
    · rw [if_pos e]
      rw [if_pos e, if_pos (.inl e)] at q0
      exact iteT (q0 _ _ (Same.chg (Same.refl _)) hw (TreeG.at aK H))
    · rw [if_neg e]
      rw [if_neg e] at q0
      refine iteF ⟨_, rfl, ?_, _, rfl, ?_⟩
      · show scal (oV (if st = "goes" then none else some st)) _ = true
        rw [if_neg e]; rfl
      show if decide (oV (if st = "goes" then none else some st) = V.str "waits") = true then _ else _
      rw [if_neg e, show oV (some st) = V.str st from rfl, decS]
      by_cases e2 : st = "waits"
      · rw [decide_eq_true e2]
        rw [if_pos (.inr e2)] at q0
        have q1 : ∀ r H', Chg c l H H' → WAt K c H' W l gd ps os gv → At K H' (if st = "waits" then .tup [.str "shut", thD i] else .tup [.str "value", noD]) r → Q r H' := q0
        rw [if_pos e2] at q1
        exact iteT ⟨_, rfl, by show 2 ≤ sizeLine; decide, fun p hp => q1 _ _ (Same.chg (same_new hp _)) (hw.same (same_new hp _)) (At.new hp (AtAll2 (At_str.mpr rfl) hx))⟩
      · rw [decide_eq_false e2]
        rw [if_neg (fun z => z.elim e e2)] at q0
        have q1 : ∀ r H', Chg c l H H' → WAt K c H' W l gd ps (os.set i (.gr fr "over" m hh)) gv → At K H' (if st = "waits" then .tup [.str "shut", thD i] else .tup [.str "value", noD]) r → Q r H' := q0
        rw [if_neg e2] at q1
        refine iteF ⟨_, rfl, _, rfl, W, l, gd, ps, os, gv, x, i, fr, st, "over", m, hh, rfl, hw, hx, ho, fun H1 c1 w1 => ?_⟩
        exact ⟨by show 2 ≤ sizeLine; decide, fun p hp => q1 _ _ (c1.trans (Same.chg (same_new hp _))) (w1.same (same_new hp _)) (At.new hp (AtAll2 (At_str.mpr rfl) (TreeG.at aN _)))⟩
  | gvn n => exact iteT (q _ _ (Same.chg (Same.refl _)) hw (TreeG.at aK H))
  | kd n => exact iteT (q _ _ (Same.chg (Same.refl _)) hw (TreeG.at aK H))
  | ob n => exact iteT (q _ _ (Same.chg (Same.refl _)) hw (TreeG.at aK H))
/-! ### asked -/
def spAsk (K : PySem.W.Frag) (c : ClD) : Sp := fun vs H Q _ => ∃ (W l gd : Addr) (ps : List Addr) (os : List Th) (gv : List (Str × Nat)) (x : V) (g : D), vs = [.ref W, x] ∧ WAt K c H W l gd ps os gv ∧ At K H g x ∧ Vd os g ∧ ∀ r H', Same H H' → At K H' (asR (thO os g) g) r → Q r H'
theorem scAsk : FnScope ["world", "g", "state"] ["world", "g"] (defScope pAsk) := ⟨rfl, rfl, rfl, by decide +kernel, rfl, by decide +kernel, by decide +kernel⟩
theorem ok_Ask (tN : TreeG K mg "NONE" [.str "none"]) (tK : TreeG K mg "KIND_FAULT" [.str "fault", .str "KindFault"]) (F : Fun K "asked" "asked" pAsk f fd) (dS : Def P w K mg base "state_to_go" ["world", "g"] 3 (spSG K c)) : FnOk P w K mg base CX0 4 f fd ["world", "g"] (spAsk K c) := by
  refine F.okI scAsk (fun vs H Q E h => ?_) (fun cdv A outer s H vs Q E hr h => ?_)
  · obtain ⟨_, _, _, _, _, _, _, _, rfl, _⟩ := h; rfl
  obtain ⟨W, l, gd, ps, os, gv, x, g, rfl, hw, hx, hv, q⟩ := h
  obtain ⟨pN, vN, mN, aN⟩ := tN
  obtain ⟨pK, vK, mK, aK⟩ := tK
  refine ⟨_, pss_cons (ps_set (i := 2) scAsk.nd rfl (Or.inl rfl) (L3.pe_def dS hr (by decide) rfl (pa_cons (pv 0) (pa_cons (pv 1) pa_nil))))
    (pss_cons (ps_if (pt_cmpR op_isN (pv 2) pe_non (nomark _)) (pss_one (ps_ret (pe_glob (v := .ref pK) rfl mK rfl))) pss_nil)
    (pss_one (ps_ret (pe_ifExp (pt_cmpR op_eq (pv 2) pe_str (nomark _)) (pe_tup (pa_cons pe_str pa_nil)) (pe_tup (pa_cons pe_str (pa_cons (pv 1) (pa_cons (pe_glob (v := .ref pN) rfl mN rfl) pa_nil)))))))), ?_⟩
  refine ⟨_, rfl, _, rfl, W, l, gd, ps, os, gv, x, g, rfl, hw, hx, hv, ?_⟩
  unfold asR at q
  refine ⟨_, rfl, rfl, _, rfl, ?_⟩
  cases hs : stG (thO os g) with
  | none =>
    rw [hs] at q
    exact iteT (q _ _ (Same.refl _) (TreeG.at aK H))
  | some st =>
    rw [hs] at q
    refine iteF ⟨_, rfl, rfl, _, rfl, ?_⟩
    rw [show oV (some st) = V.str st from rfl, decS]
    have q1 : ∀ r H', Same H H' → At K H' (if st = "over" then .tup [.str "over"] else .tup [.str "go", g, noD]) r → Q r H' := q
    by_cases e1 : st = "over"
    · rw [decide_eq_true e1]
      rw [if_pos e1] at q1
      exact iteT ⟨by show 1 ≤ sizeLine; decide, fun p hp => q1 _ _ (same_new hp _) (At.new hp (AtAll.one1 (At_str.mpr rfl)))⟩
    · rw [decide_eq_false e1]
      rw [if_neg e1] at q1
      exact iteF ⟨_, rfl, by show 3 ≤ sizeLine; decide, fun p hp => q1 _ _ (same_new hp _) (At.new hp (AtAll3 (At_str.mpr rfl) hx (TreeG.at aN _)))⟩
/-! ### counted_on -/
def spCon (K : PySem.W.Frag) (c : ClD) : Sp := fun vs H Q _ => ∃ (W l gd : Addr) (ps : List Addr) (os : List Th) (gv : List (Str × Nat)) (x : V) (i : Nat) (fr : V) (st : Str) (m h : Int), vs = [.ref W, x] ∧ WAt K c H W l gd ps os gv ∧ At K H (thD i) x ∧ os[i]? = some (.gr fr st m h) ∧
  (m ≤ h → ∀ r H', Chg c l H H' → WAt K c H' W l gd ps (os.set i (.gr fr "over" m h)) gv → At K H' (.tup [.str "over"]) r → Q r H') ∧
  (h < m → ∀ r H', Chg c l H H' → WAt K c H' W l gd ps (os.set i (.gr fr "waits" m (h + 1))) gv → At K H' (.tup [.str "value", .tup [.str "number", .int h]]) r → Q r H')
theorem scCon : FnScope ["world", "g", "count", "n"] ["world", "g"] (defScope pCon) := ⟨rfl, rfl, rfl, by decide +kernel, rfl, by decide +kernel, by decide +kernel⟩
theorem ok_Con (z : CsD K c) (F : Fun K "counted_on" "counted_on" pCon f fd) (dT : Def P w K mg base "thing_of" ["world", "a"] 1 (spTh K c)) (dP : Def P w K mg base "set_state" ["world", "g", "state"] 2 (spStS K c)) : FnOk P w K mg base CX0 3 f fd ["world", "g"] (spCon K c) := by
  refine F.okI scCon (fun vs H Q E h => ?_) (fun cdv A outer s H vs Q E hr h => ?_)
  · obtain ⟨_, _, _, _, _, _, _, _, _, _, _, _, rfl, _⟩ := h; rfl
  obtain ⟨W, l, gd, ps, os, gv, x, i, fr, st, m, hh, rfl, hw, hx, ho, q1, q2⟩ := h
  refine ⟨_, pss_cons (ps_set (i := 2) scCon.nd rfl (Or.inl rfl) (L3.pe_def dT hr (by decide) rfl (pa_cons (pv 0) (pa_cons (pv 1) pa_nil))))
    (pss_cons (ps_if (pt_cmpR op_ge (L3.pe_fld (pv 2)) (L3.pe_fld (pv 2)) (nomark _)) (pss_cons (ps_expr (L3.pe_def dP hr (by decide) rfl (pa_cons (pv 0) (pa_cons (pv 1) (pa_cons pe_str pa_nil))))) (pss_one (ps_ret (pe_tup (pa_cons pe_str pa_nil))))) pss_nil)
    (pss_cons (ps_set (i := 3) scCon.nd rfl (Or.inl rfl) (L3.pe_fld (pv 2)))
    (pss_cons (L3.ps_fld (pv 2) (pe_op op_add (pv 3) pe_int))
    (pss_cons (ps_expr (L3.pe_def dP hr (by decide) rfl (pa_cons (pv 0) (pa_cons (pv 1) (pa_cons pe_str pa_nil)))))
    (pss_one (ps_ret (pe_tup (pa_cons pe_str (pa_cons (pe_tup (pa_cons pe_str (pa_cons (pv 3) pa_nil))) pa_nil))))))))), ?_⟩
  refine ⟨_, rfl, _, rfl, W, l, gd, ps, os, gv, x, thD i, rfl, hw, hx, Vd.th (lt_of_some ho), fun v t => ?_⟩
  obtain ⟨p, ep, rfl, dx, v1, hp⟩ := t.th ho
  refine ⟨_, rfl, p, c.Gr, dx, _, _, rfl, hp, z.rc, z.r5, grF_handed .., _, rfl, p, c.Gr, dx, _, _, rfl, hp, z.rc, z.r4, grF_many .., _, _, rfl, rfl, _, rfl, ?_⟩
  refine ite_b9 (fun e => ?_) (fun e => ?_)
  · have e' := of_decide_eq_true e
    refine ⟨_, rfl, _, rfl, W, l, gd, ps, os, gv, x, i, fr, st, "over", m, hh, rfl, hw, hx, ho, fun H1 c1 w1 => ?_⟩
    exact ⟨by show 1 ≤ sizeLine; decide, fun t ht => q1 (by omega) _ _ (c1.trans (Same.chg (same_new ht _))) (w1.same (same_new ht _)) (At.new ht (AtAll.one1 (At_str.mpr rfl)))⟩
  · have e' := of_decide_eq_false e
    refine ⟨_, rfl, p, c.Gr, dx, _, _, rfl, hp, z.rc, z.r5, grF_handed .., ?_⟩
    refine ⟨_, rfl, _, _, rfl, rfl, _, rfl, p, c.Gr, dx, _, rfl, hp, z.rc, z.r5, by show 5 < 1000; decide, ?_⟩
    rw [grF_ph]
    have h2 := hw.put z.nWR (fr' := fr) (st' := st) (m' := m) (h' := hh + 1) ep ho hp
    have hx1 : At K (upd H p (.ins c.Gr dx (grF v1 fr st m (hh + 1)))) (thD i) x := At.fx (h2.2.fx hw.t) _ _ hx
    revert h2 hx1
    generalize upd H p (.ins c.Gr dx (grF v1 fr st m (hh + 1))) = H1
    intro h2 hx1
    refine ⟨_, rfl, _, rfl, W, l, gd, ps, _, gv, x, i, fr, st, "waits", m, hh + 1, rfl, h2.1, hx1, List.getElem?_set_self (lt_of_some ho), fun H3 c3 w3 => ?_⟩
    rw [List.set_set] at w3
    refine ⟨_, rfl, by show 2 ≤ sizeLine; decide, fun t ht => ⟨by show 2 ≤ sizeLine; decide, fun t2 ht2 => ?_⟩⟩
    have s3 := same_new ht (.tup [.str "number", .int hh])
    have s4 := s3.trans (same_new ht2 (.tup [.str "value", .ref t]))
    exact q2 (by omega) _ _ ((h2.2.trans c3).trans (Same.chg s4)) (w3.same s4) (At.new ht2 (AtAll2 (At_str.mpr rfl) (At.new ht (AtAll2 (At_str.mpr rfl) (At_int.mpr rfl)))))
/-! ### counted -/
def spCtd (K : PySem.W.Frag) (c : ClD) : Sp := fun vs H Q _ => ∃ (W l g : Addr) (ps : List Addr) (os : List Th) (gv : List (Str × Nat)) (x : V) (m : Int), vs = [.ref W, x] ∧ WAt K c H W l g ps os gv ∧ At K H (.tup [.str "number", .int m]) x ∧ m ≤ 10000 ∧ os.length ≤ 1000 ∧
  ∀ r H' p, Chg c l H H' → WAt K c H' W l g (ps ++ [p]) (os ++ [.gr .non "new" m 0]) gv → At K H' (.tup [.str "value", thD os.length]) r → Q r H'
theorem scCtd : FnScope ["world", "n"] ["world", "n"] (defScope pCtd) := ⟨rfl, rfl, rfl, by decide +kernel, rfl, by decide +kernel, by decide +kernel⟩
theorem ok_Ctd (hM : ∃ t, mg "MOST_COUNT" = some (.int 10000 t)) (F : Fun K "counted" "counted" pCtd f fd) (dC : Def P w K mg base "new_count" ["world", "many"] 3 (spCnt K c)) : FnOk P w K mg base CX0 4 f fd ["world", "n"] (spCtd K c) := by
  refine F.okI scCtd (fun vs H Q E h => ?_) (fun cdv A outer s H vs Q E hr h => ?_)
  · obtain ⟨_, _, _, _, _, _, _, _, rfl, _⟩ := h; rfl
  obtain ⟨W, l, gd, ps, os, gv, x, m, rfl, hw, hx, hm, hl, q⟩ := h
  refine ⟨_, pss_cons (ps_if (pt_cmpR op_ne (pe_nth (pv 1)) pe_str (nomark _)) (pss_one ps_dead) pss_nil)
    (pss_one (ps_ret (pe_ifExp (pt_cmpR op_gt (pe_nth (pv 1)) (L3.pe_gint rfl hM) (nomark _)) pe_dead (pe_tup (pa_cons pe_str (pa_cons (L3.pe_def dC hr (by decide) rfl (pa_cons (pv 0) (pa_cons (pe_nth (pv 1)) pa_nil))) pa_nil)))))), ?_⟩
  refine ⟨_, rfl, 0, _, _, rfl, hx, rfl, fun y0 h0 => ?_⟩
  rw [At_str.mp h0]
  refine ⟨rfl, _, rfl, ?_⟩
  rw [decide_eq_true rfl]
  refine iteF ?_
  refine ⟨_, rfl, 1, _, _, rfl, hx, rfl, fun y1 h1 => ?_⟩
  rw [At_int.mp h1]
  refine ⟨_, _, rfl, rfl, _, rfl, ?_⟩
  rw [decide_eq_false (by omega)]
  refine iteF ⟨_, rfl, _, rfl, 1, _, _, rfl, hx, rfl, fun y2 h2 => ?_⟩
  rw [At_int.mp h2]
  refine ⟨W, l, gd, ps, os, gv, m, rfl, hw, hl, fun r H1 p b1 w1 a1 => ⟨by show 2 ≤ sizeLine; decide, fun t ht => ?_⟩⟩
  exact q _ _ p (But9.chg (b1.trans (Same.but l (same_new ht _)))) (w1.same (same_new ht _)) (At.new ht (AtAll2 (At_str.mpr rfl) a1))
end
end GS
set_option Elab.async false
set_option linter.all false
set_option maxRecDepth 100000
set_option maxHeartbeats 4000000
namespace GS
open PySem PyProof.Rows
open L2 hiding pe_int pe_bl pe_non pe_str pv pe_glob pe_op pe_cmpR pe_one pe_and pe_ifExp pe_ix po_none po_some pe_slice pa_nil pa_cons pe_lst pe_tup pe_dnewK pe_callB pe_callTy pe_bm pt_cmpR pt_val pt_not pw_and1 pw_or1 pw_and pw_or pg_name pgs_nil pgs_cons pg_tup pi_list pi_tup pi_range1 ps_ret ps_expr ps_set ps_asg ps_if ps_for pss_nil pss_cons pss_one
open L3
abbrev pCG : Stmt := topd 58
abbrev pCld : Stmt := topd 59
/-! ### how many values a given function takes -/
def bnds : List (Str × Nat × Nat) := [("count", 1, 1), ("go", 1, 2), ("throw", 2, 2), ("shut", 1, 1)]
def BndG (w : World) (K : PySem.W.Frag) (mg : Str → Option Value) : Prop := ∃ (a : Addr) (es : Array DictEntry) (n : Nat), mg "VALUES_OF_GIVEN" = some (.ref a) ∧ K.lookup a = some ⟨.type "dict", none, .dict es n, #[]⟩ ∧ (∀ e ∈ es, ∃ x t, e.key = .str x t ∧ e.hash = PyData.keyHash w.params x) ∧
  ∀ nm lo hi, (nm, lo, hi) ∈ bnds → ∃ u, findBy Value.isStrOf es nm = some (.ref u) ∧ ∀ H, At K H (.tup [.int (lo : Nat), .int (hi : Nat)]) (.ref u)
def tBnd (K : PySem.W.Frag) (ty : TE) : TE := fun σ H Q => ty σ H fun y H1 => ∃ (n : Str) (lo hi : Nat), y = .str n ∧ (n, lo, hi) ∈ bnds ∧ ∀ v, At K H1 (.tup [.int (lo : Nat), .int (hi : Nat)]) v → Q v H1
theorem pe_bnd {X : Cx} {i : Expr} {ty : TE} {p pos : Pos} (B : BndG X.w X.K X.mg) (hg : Gl X "VALUES_OF_GIVEN") (hi : LE X i ty) (hs : NoSl i) : LE X (.Subscript (.Name "VALUES_OF_GIVEN" p) i pos) (tBnd X.K ty) := by
  obtain ⟨a, es, n, hm, hl, hk, hf⟩ := B
  refine .mk fun pins s σ H Q I h => ?_
  have he : PE X (.Name "VALUES_OF_GIVEN" p) (tC (.ref a)) := L2.pe_glob hg hm rfl
  refine subD_of PySem.F.slot_dict_getitem.lookup hs (thn (he pins s σ H (fun x H1 => x = .ref a ∧ H1 = H) I ⟨rfl, rfl⟩) fun u s1 ⟨x, H1, I1, rx, ex, eH⟩ => ?_)
  subst ex eH
  obtain rfl : u = Value.ref a := rx
  refine thn (hi.out pins s1 σ H1 _ I1 h) fun iv s2 ⟨y, H2, I2, ry, nm, lo, hi', ey, hmem, q⟩ => ?_
  subst ey
  obtain ⟨t, rfl⟩ := ry
  obtain ⟨u, hu, hA⟩ := hf _ _ _ hmem
  have hh := I2.kIn _ _ hl
  have M : s2.heap.MapOf (strKind X.prog X.w) a (findBy (strKind X.prog X.w).is es) := by
    refine ⟨_, es, n, hh, ⟨rfl, rfl, rfl⟩, rfl, fun e he => ?_, fun k => rfl⟩
    obtain ⟨x, t, e1, e2⟩ := hk e he
    exact ⟨x, by rw [e1]; exact strKind_is .., e2⟩
  exact ⟨M.typeIs, wpAny_getItem_of (strKind_is ..) M hu ⟨.ref u, H2, I2.tok _, rfl, q _ (hA _)⟩⟩
/-! ### what a call of a given function tells -/
inductive CalN (os : List Th) : Str → List D → D → List Th → Prop
  | cnt (m : Int) : m ≤ 10000 → CalN os "count" [.tup [.str "number", .int m]] (.tup [.str "value", thD os.length]) (os ++ [.gr .non "new" m 0])
  | go1 (g : D) : Vd os g → CalN os "go" [g] (goR (thO os g) g noD) os
  | go2 (g v : D) : Vd os g → dep v ≤ 60 → CalN os "go" [g, v] (goR (thO os g) g v) os
  | thr (g v : D) : Vd os g → Vd os v → CalN os "throw" [g, v] (thR (thO os g) (isF os (thO os v)) g v) os
  | sht (g : D) : Vd os g → CalN os "shut" [g] (shR (thO os g) g) (shO os g)
def CalR (os : List Th) (n : Str) (ds : List D) (d : D) (os' : List Th) : Prop := ∃ lo hi, (n, lo, hi) ∈ bnds ∧ (((ds.length < lo ∨ hi < ds.length) ∧ d = kF ∧ os' = os) ∨ (lo ≤ ds.length ∧ ds.length ≤ hi ∧ CalN os n ds d os'))
theorem CalN.cal {os : List Th} {n : Str} {ds : List D} {d : D} {os' : List Th} (h : CalN os n ds d os') : CalR os n ds d os' := by
  cases h with
  | cnt m e => exact ⟨1, 1, by decide +kernel, .inr ⟨Nat.le_refl _, Nat.le_refl _, .cnt m e⟩⟩
  | go1 g e => exact ⟨1, 2, by decide +kernel, .inr ⟨Nat.le_refl _, by show 1 ≤ 2; decide, .go1 g e⟩⟩
  | go2 g v e e2 => exact ⟨1, 2, by decide +kernel, .inr ⟨by show 1 ≤ 2; decide, Nat.le_refl _, .go2 g v e e2⟩⟩
  | thr g v e e2 => exact ⟨2, 2, by decide +kernel, .inr ⟨Nat.le_refl _, Nat.le_refl _, .thr g v e e2⟩⟩
  | sht g e => exact ⟨1, 1, by decide +kernel, .inr ⟨Nat.le_refl _, Nat.le_refl _, .sht g e⟩⟩
section
variable {P : Program} {w : World} {K : PySem.W.Frag} {mg : Str → Option Value} {base : Heap} {f : Addr} {fd : FuncData} {c : ClD}
/-! ### called_given -/
def spCG (K : PySem.W.Frag) (c : ClD) : Sp := fun vs H Q _ => ∃ (W l gd : Addr) (ps : List Addr) (os : List Th) (gv : List (Str × Nat)) (n : Str) (y : V) (ds : List D) (d : D) (os' : List Th), vs = [.ref W, .str n, y] ∧ WAt K c H W l gd ps os gv ∧ At K H (.tup ds) y ∧ CalR os n ds d os' ∧ ((("Fault" : Str), 9) : Str × Nat) ∈ gv ∧ os.length ≤ 1000 ∧
  ∀ r H' ps', Chg c l H H' → WAt K c H' W l gd ps' os' gv → At K H' d r → Q r H'
theorem scCG : FnScope ["world", "name", "values", "bounds"] ["world", "name", "values"] (defScope pCG) := ⟨rfl, rfl, rfl, by decide +kernel, rfl, by decide +kernel, by decide +kernel⟩
theorem ok_CG (g : Glb9 mg) (B : BndG w K mg) (tN : TreeG K mg "NONE" [.str "none"]) (tK : TreeG K mg "KIND_FAULT" [.str "fault", .str "KindFault"]) (F : Fun K "called_given" "called_given" pCG f fd) (dC : Def P w K mg base "counted" ["world", "n"] 4 (spCtd K c)) (dG : Def P w K mg base "gone_on" ["world", "g", "v"] 4 (spGo K c)) (dT : Def P w K mg base "thrown" ["world", "g", "fault"] 5 (spThr K c)) (dS : Def P w K mg base "shut_down" ["world", "g"] 4 (spSht K c)) : FnOk P w K mg base CX0 6 f fd ["world", "name", "values"] (spCG K c) := by
  refine F.okI scCG (fun vs H Q E h => ?_) (fun cdv A outer s H vs Q E hr h => ?_)
  · obtain ⟨_, _, _, _, _, _, _, _, _, _, _, rfl, _⟩ := h; rfl
  obtain ⟨W, l, gd, ps, os, gv, n, y, ds, d, os', rfl, hw, hy, ⟨lo, hi, hb, hR⟩, hF, hl, q⟩ := h
  obtain ⟨pN, vN, mN, aN⟩ := tN
  obtain ⟨pK, vK, mK, aK⟩ := tK
  refine ⟨_, pss_cons (ps_set (i := 3) scCG.nd rfl (Or.inl rfl) (pe_bnd B rfl (pv 1) (fun _ _ => rfl)))
    (pss_cons (ps_if (LW.pt (pw_or (pt_cmpR op_lt (pe_callB call_len_seq rfl g.nLen b9Len (pa_cons (pv 2) pa_nil)) (pe_nth (pv 3)) (nomark _)) (pw_or1 (pt_cmpR op_gt (pe_callB call_len_seq rfl g.nLen b9Len (pa_cons (pv 2) pa_nil)) (pe_nth (pv 3)) (nomark _))))) (pss_one (ps_ret (pe_glob (v := .ref pK) rfl mK rfl))) pss_nil)
    (pss_cons (ps_if (pt_cmpR op_eq (pv 1) pe_str (nomark _)) (pss_one ps_dead) pss_nil)
    (pss_cons (ps_if (pt_cmpR op_eq (pv 1) pe_str (nomark _)) (pss_one ps_dead) pss_nil)
    (pss_cons (ps_if (pt_cmpR op_eq (pv 1) pe_str (nomark _)) (pss_one ps_dead) pss_nil)
    (pss_cons (ps_if (pt_cmpR op_eq (pv 1) pe_str (nomark _)) (pss_one ps_dead) pss_nil)
    (pss_cons (ps_if (pt_cmpR op_eq (pv 1) pe_str (nomark _)) (pss_one (ps_ret (L3.pe_def dC hr (by decide) rfl (pa_cons (pv 0) (pa_cons (pe_nth (pv 2)) pa_nil))))) pss_nil)
    (pss_cons (ps_if (pt_cmpR op_eq (pv 1) pe_str (nomark _)) (pss_one (ps_ret (L3.pe_def dG hr (by decide) rfl (pa_cons (pv 0) (pa_cons (pe_nth (pv 2)) (pa_cons (pe_ifExp (pt_cmpR op_gt (pe_callB call_len_seq rfl g.nLen b9Len (pa_cons (pv 2) pa_nil)) pe_int (nomark _)) (pe_nth (pv 2)) (pe_glob (v := .ref pN) rfl mN rfl)) pa_nil)))))) pss_nil)
    (pss_cons (ps_if (pt_cmpR op_eq (pv 1) pe_str (nomark _)) (pss_one (ps_ret (L3.pe_def dT hr (by decide) rfl (pa_cons (pv 0) (pa_cons (pe_nth (pv 2)) (pa_cons (pe_nth (pv 2)) pa_nil)))))) pss_nil)
    (pss_one (ps_ret (L3.pe_def dS hr (by decide) rfl (pa_cons (pv 0) (pa_cons (pe_nth (pv 2)) pa_nil))))))))))))), ?_⟩
  refine ⟨_, rfl, n, lo, hi, rfl, hb, fun vb hvb => ?_⟩
  obtain ⟨py, vy, rfl, sq, hA⟩ := At_tup.mp hy
  have hlen := hA.len
  refine ⟨_, rfl, py, vy, rfl, .inr sq, _, rfl, 0, _, _, rfl, hvb, rfl, fun y0 h0 => ?_⟩
  rw [At_int.mp h0]
  refine ⟨_, _, rfl, rfl, _, rfl, ?_⟩
  rcases hR with ⟨hout, rfl, rfl⟩ | ⟨h1, h2, hN⟩
  · refine ite_b9 (fun _ => iteT (q _ _ ps (Same.chg (Same.refl _)) hw (TreeG.at aK H))) (fun e => ⟨_, rfl, py, vy, rfl, .inr sq, _, rfl, 1, _, _, rfl, hvb, rfl, fun y1 h1 => ?_⟩)
    have e' := of_decide_eq_false e
    rw [At_int.mp h1]
    refine ⟨_, _, rfl, rfl, _, rfl, ?_⟩
    rw [decide_eq_true (by omega)]
    exact iteT (q _ _ ps (Same.chg (Same.refl _)) hw (TreeG.at aK H))
  · rw [decide_eq_false (by omega)]
    refine iteF ⟨_, rfl, py, vy, rfl, .inr sq, _, rfl, 1, _, _, rfl, hvb, rfl, fun y1 h1 => ?_⟩
    rw [At_int.mp h1]
    refine ⟨_, _, rfl, rfl, _, rfl, ?_⟩
    rw [decide_eq_false (by omega)]
    refine iteF ?_
    clear h1 y1
    cases hN with
    | cnt m e =>
      refine ⟨_, rfl, rfl, _, rfl, ?_⟩
      rw [decN (by decide +kernel)]
      refine iteF ⟨_, rfl, rfl, _, rfl, ?_⟩
      rw [decN (by decide +kernel)]
      refine iteF ⟨_, rfl, rfl, _, rfl, ?_⟩
      rw [decN (by decide +kernel)]
      refine iteF ⟨_, rfl, rfl, _, rfl, ?_⟩
      rw [decN (by decide +kernel)]
      refine iteF ⟨_, rfl, rfl, _, rfl, ?_⟩
      rw [decide_eq_true rfl]
      refine iteT ⟨_, rfl, _, rfl, 0, _, _, rfl, hy, rfl, fun y1 h1 => ?_⟩
      exact ⟨W, l, gd, ps, os, gv, y1, m, rfl, hw, h1, e, hl, fun r H' p c1 w1 a1 => q r H' _ c1 w1 a1⟩
    | go1 g0 hv =>
      refine ⟨_, rfl, rfl, _, rfl, ?_⟩
      rw [decN (by decide +kernel)]
      refine iteF ⟨_, rfl, rfl, _, rfl, ?_⟩
      rw [decN (by decide +kernel)]
      refine iteF ⟨_, rfl, rfl, _, rfl, ?_⟩
      rw [decN (by decide +kernel)]
      refine iteF ⟨_, rfl, rfl, _, rfl, ?_⟩
      rw [decN (by decide +kernel)]
      refine iteF ⟨_, rfl, rfl, _, rfl, ?_⟩
      rw [decN (by decide +kernel)]
      refine iteF ⟨_, rfl, rfl, _, rfl, ?_⟩
      rw [decide_eq_true rfl]
      refine iteT ⟨_, rfl, _, rfl, 0, _, _, rfl, hy, rfl, fun y1 h1 => ?_⟩
      refine ⟨_, rfl, py, vy, rfl, .inr sq, _, _, rfl, rfl, _, rfl, ?_⟩
      rw [decide_eq_false (by rw [hlen]; show ¬ ((1 : Int) < ((1 : Nat) : Int)); decide)]
      refine iteF ?_
      exact ⟨W, l, gd, ps, os, gv, y1, _, g0, noD, rfl, hw, h1, hv, TreeG.at aN H, by decide +kernel, fun r H' s1 a1 => q r H' ps (Same.chg s1) (hw.same s1) a1⟩
    | go2 g0 v hv hd =>
      refine ⟨_, rfl, rfl, _, rfl, ?_⟩
      rw [decN (by decide +kernel)]
      refine iteF ⟨_, rfl, rfl, _, rfl, ?_⟩
      rw [decN (by decide +kernel)]
      refine iteF ⟨_, rfl, rfl, _, rfl, ?_⟩
      rw [decN (by decide +kernel)]
      refine iteF ⟨_, rfl, rfl, _, rfl, ?_⟩
      rw [decN (by decide +kernel)]
      refine iteF ⟨_, rfl, rfl, _, rfl, ?_⟩
      rw [decN (by decide +kernel)]
      refine iteF ⟨_, rfl, rfl, _, rfl, ?_⟩
      rw [decide_eq_true rfl]
      refine iteT ⟨_, rfl, _, rfl, 0, _, _, rfl, hy, rfl, fun y1 h1 => ?_⟩
      refine ⟨_, rfl, py, vy, rfl, .inr sq, _, _, rfl, rfl, _, rfl, ?_⟩
      rw [decide_eq_true (by rw [hlen]; show (1 : Int) < ((2 : Nat) : Int); decide)]
      refine iteT ⟨_, rfl, 1, _, _, rfl, hy, rfl, fun y2 h2 => ?_⟩
      exact ⟨W, l, gd, ps, os, gv, y1, y2, g0, v, rfl, hw, h1, hv, h2, hd, fun r H' s1 a1 => q r H' ps (Same.chg s1) (hw.same s1) a1⟩
    | thr g0 v hv hd =>
      refine ⟨_, rfl, rfl, _, rfl, ?_⟩
      rw [decN (by decide +kernel)]
      refine iteF ⟨_, rfl, rfl, _, rfl, ?_⟩
      rw [decN (by decide +kernel)]
      refine iteF ⟨_, rfl, rfl, _, rfl, ?_⟩
      rw [decN (by decide +kernel)]
      refine iteF ⟨_, rfl, rfl, _, rfl, ?_⟩
      rw [decN (by decide +kernel)]
      refine iteF ⟨_, rfl, rfl, _, rfl, ?_⟩
      rw [decN (by decide +kernel)]
      refine iteF ⟨_, rfl, rfl, _, rfl, ?_⟩
      rw [decN (by decide +kernel)]
      refine iteF ⟨_, rfl, rfl, _, rfl, ?_⟩
      rw [decide_eq_true rfl]
      refine iteT ⟨_, rfl, _, rfl, 0, _, _, rfl, hy, rfl, fun y1 h1 => ⟨_, rfl, 1, _, _, rfl, hy, rfl, fun y2 h2 => ?_⟩⟩
      exact ⟨W, l, gd, ps, os, gv, y1, y2, g0, v, rfl, hw, h1, hv, h2, hd, hF, fun r H' s1 a1 => q r H' ps (Same.chg s1) (hw.same s1) a1⟩
    | sht g0 hv =>
      refine ⟨_, rfl, rfl, _, rfl, ?_⟩
      rw [decN (by decide +kernel)]
      refine iteF ⟨_, rfl, rfl, _, rfl, ?_⟩
      rw [decN (by decide +kernel)]
      refine iteF ⟨_, rfl, rfl, _, rfl, ?_⟩
      rw [decN (by decide +kernel)]
      refine iteF ⟨_, rfl, rfl, _, rfl, ?_⟩
      rw [decN (by decide +kernel)]
      refine iteF ⟨_, rfl, rfl, _, rfl, ?_⟩
      rw [decN (by decide +kernel)]
      refine iteF ⟨_, rfl, rfl, _, rfl, ?_⟩
      rw [decN (by decide +kernel)]
      refine iteF ⟨_, rfl, rfl, _, rfl, ?_⟩
      rw [decN (by decide +kernel)]
      refine iteF ⟨_, rfl, _, rfl, 0, _, _, rfl, hy, rfl, fun y1 h1 => ?_⟩
      exact ⟨W, l, gd, ps, os, gv, y1, g0, rfl, hw, h1, hv, fun r H' c1 w1 a1 => q r H' ps c1 w1 a1⟩
/-! ### called -/
def spCld (K : PySem.W.Frag) (c : ClD) : Sp := fun vs H Q _ => ∃ (W l gd : Addr) (ps : List Addr) (os : List Th) (gv : List (Str × Nat)) (x y : V) (i : Nat) (n : Str) (ds : List D) (d : D) (os' : List Th), vs = [.ref W, x, y] ∧ WAt K c H W l gd ps os gv ∧ At K H (thD i) x ∧ os[i]? = some (.gvn n) ∧ At K H (.tup ds) y ∧ CalR os n ds d os' ∧ ((("Fault" : Str), 9) : Str × Nat) ∈ gv ∧ os.length ≤ 1000 ∧
  ∀ r H' ps', Chg c l H H' → WAt K c H' W l gd ps' os' gv → At K H' d r → Q r H'
theorem scCld : FnScope ["world", "a", "values", "thing"] ["world", "a", "values"] (defScope pCld) := ⟨rfl, rfl, rfl, by decide +kernel, rfl, by decide +kernel, by decide +kernel⟩
theorem ok_Cld (g : Glb9 mg) (z : CsD K c) (hF : mg "Function" = some (.ref c.F)) (hM : mg "Method" = some (.ref c.M)) (hK : mg "Kind" = some (.ref c.Kd)) (hG : mg "Given" = some (.ref c.G)) (F : Fun K "called" "called" pCld f fd) (dT : Def P w K mg base "thing_of" ["world", "a"] 1 (spTh K c)) (dC : Def P w K mg base "called_given" ["world", "name", "values"] 6 (spCG K c)) : FnOk P w K mg base CX0 7 f fd ["world", "a", "values"] (spCld K c) := by
  refine F.okI scCld (fun vs H Q E h => ?_) (fun cdv A outer s H vs Q E hr h => ?_)
  · obtain ⟨_, _, _, _, _, _, _, _, _, _, _, _, _, rfl, _⟩ := h; rfl
  obtain ⟨W, l, gd, ps, os, gv, x, y, i, n, ds, d, os', rfl, hw, hx, ho, hy, hR, hf, hl, q⟩ := h
  refine ⟨_, pss_cons (ps_set (i := 3) scCld.nd rfl (Or.inl rfl) (L3.pe_def dT hr (by decide) rfl (pa_cons (pv 0) (pa_cons (pv 1) pa_nil))))
    (pss_cons (ps_if (pt_val (pe_callB call_isO rfl g.nIsi b9Isi (pa_cons (pv 3) (pa_cons (pe_glob (v := .ref c.F) rfl hF rfl) pa_nil)))) (pss_one ps_dead) pss_nil)
    (pss_cons (ps_if (pt_val (pe_callB call_isO rfl g.nIsi b9Isi (pa_cons (pv 3) (pa_cons (pe_glob (v := .ref c.M) rfl hM rfl) pa_nil)))) (pss_one ps_dead) pss_nil)
    (pss_cons (ps_if (pt_val (pe_callB call_isO rfl g.nIsi b9Isi (pa_cons (pv 3) (pa_cons (pe_glob (v := .ref c.Kd) rfl hK rfl) pa_nil)))) (pss_one ps_dead) pss_nil)
    (pss_one (ps_ret (pe_ifExp (pt_val (pe_callB call_isO rfl g.nIsi b9Isi (pa_cons (pv 3) (pa_cons (pe_glob (v := .ref c.G) rfl hG rfl) pa_nil)))) (L3.pe_def dC hr (by decide) rfl (pa_cons (pv 0) (pa_cons (L3.pe_fld (pv 3)) (pa_cons (pv 2) pa_nil)))) pe_dead)))))), ?_⟩
  refine ⟨_, rfl, _, rfl, W, l, gd, ps, os, gv, x, thD i, rfl, hw, hx, Vd.th (lt_of_some ho), fun v t => ?_⟩
  have e0 : thO os (thD i) = some (.gvn n) := (thO_th os i).trans ho
  have i1 := t.is z z.tF
  have i2 := t.is z z.tM
  have i3 := t.is z z.tK
  have i4 := t.is z z.tG
  rw [e0] at i1 i2 i3 i4
  obtain ⟨p, ep, rfl, dx, hp⟩ := t.th ho
  refine ⟨_, rfl, _, c.F, _, rfl, i1, _, rfl, iteF ?_⟩
  refine ⟨_, rfl, _, c.M, _, rfl, i2, _, rfl, iteF ?_⟩
  refine ⟨_, rfl, _, c.Kd, _, rfl, i3, _, rfl, iteF ?_⟩
  refine ⟨_, rfl, _, c.G, _, rfl, i4, _, rfl, iteT ?_⟩
  refine ⟨_, rfl, _, rfl, p, c.G, dx, _, _, rfl, hp, z.gc, z.g1, rfl, _, rfl, ?_⟩
  exact ⟨W, l, gd, ps, os, gv, n, y, ds, d, os', rfl, hw, hy, hR, hf, hl, q⟩
end
end GS
set_option Elab.async false
set_option linter.all false
set_option maxRecDepth 100000
set_option maxHeartbeats 4000000
namespace GS
open PySem PyProof.Rows
open L2 hiding pe_int pe_bl pe_non pe_str pv pe_glob pe_op pe_cmpR pe_one pe_and pe_ifExp pe_ix po_none po_some pe_slice pa_nil pa_cons pe_lst pe_tup pe_dnewK pe_callB pe_callTy pe_bm pt_cmpR pt_val pt_not pw_and1 pw_or1 pw_and pw_or pg_name pgs_nil pgs_cons pg_tup pi_list pi_tup pi_range1 ps_ret ps_expr ps_set ps_asg ps_if ps_for pss_nil pss_cons pss_one
open L3
abbrev sPl : Stmt := topd 65
abbrev sLgo : Stmt := topd 67
abbrev sLc : Stmt := topd 68
/-! ### plain values -/
def PlD (d : D) : Prop := (∃ i, d = .tup [.str "number", .int i]) ∨ (∃ t, d = .tup [.str "text", .str t]) ∨ (∃ b, d = .tup [.str "truth", .bl b]) ∨ d = noD
theorem PlD.dep {d : D} (h : PlD d) : GS.dep d ≤ 1 := by
  rcases h with ⟨i, rfl⟩ | ⟨t, rfl⟩ | ⟨b, rfl⟩ | rfl
  · rw [GS.dep, deps, deps, deps, dep_str, dep_int]; decide
  · rw [GS.dep, deps, deps, deps, dep_str, dep_str]; decide
  · rw [GS.dep, deps, deps, deps, dep_str, dep_bl]; decide
  · rw [noD, GS.dep, deps, deps, dep_str]; decide
theorem PlD.vd {d : D} (os : List Th) (h : PlD d) : Vd os d ∧ thO os d = none := by
  rcases h with ⟨i, rfl⟩ | ⟨t, rfl⟩ | ⟨b, rfl⟩ | rfl
  · exact ⟨Vd.no (by decide +kernel), thO_no _ _ (by decide +kernel)⟩
  · exact ⟨Vd.no (by decide +kernel), thO_no _ _ (by decide +kernel)⟩
  · exact ⟨Vd.no (by decide +kernel), thO_no _ _ (by decide +kernel)⟩
  · exact ⟨Vd.no (by decide +kernel), thO_no _ _ (by decide +kernel)⟩
theorem PlD.none {d : D} (h : PlD d) (e : eqD d noD = true) : d = noD := by
  rcases h with ⟨i, rfl⟩ | ⟨t, rfl⟩ | ⟨b, rfl⟩ | rfl
  · simp [noD, eqD, eqDs] at e
  · simp [noD, eqD, eqDs] at e
  · simp [noD, eqD, eqDs] at e
  · rfl
theorem atI_mem4 {a b c d : V} {k : Int} (h0 : 0 ≤ k) (h1 : k < 4) : ∃ v, atI [a, b, c, d] k = some v ∧ (v = a ∨ v = b ∨ v = c ∨ v = d) := by
  obtain ⟨v, hv, e⟩ := atI_mem9 (xs := [a, b, c, d]) h0 h1
  simp at hv
  exact ⟨v, e, hv⟩
def tPl (K : PySem.W.Frag) : TE := fun σ H Q => ∃ n, σ[0]? = some (some (.int n)) ∧ ∀ d v H', PlD d → Same H H' → At K H' d v → Q v H'
section
variable {P : Program} {w : World} {K : PySem.W.Frag} {mg : Str → Option Value} {base : Heap} {f : Addr} {fd : FuncData} {c : ClD}
def spPl (K : PySem.W.Frag) : Sp := fun vs H Q _ => ∃ n : Int, vs = [.int n] ∧ ∀ d v H', PlD d → Same H H' → At K H' d v → Q v H'
theorem scPl : FnScope ["_law_n", "_law_some"] ["_law_n"] (defScope sPl) := ⟨rfl, rfl, rfl, by decide +kernel, rfl, by decide +kernel, by decide +kernel⟩
theorem ok_Pl (F : Fun K "_law_plain" "_law_plain" sPl f fd) : FnOk P w K mg base CX0 1 f fd ["_law_n"] (spPl K) := by
  refine F.okI scPl (fun vs H Q E h => ?_) (fun cdv A outer s H vs Q E hr h => ?_)
  · obtain ⟨_, rfl, _⟩ := h; rfl
  obtain ⟨n, rfl, q⟩ := h
  refine ⟨_, pss_cons (ps_set (i := 1) scPl.nd rfl (Or.inl rfl) (pe_lst (pa_cons (le_imp (t' := tPl K) (pe_tup (pa_cons pe_str (pa_cons (pe_op op_sub (pe_op op_mod (pe_op op_fdiv (pv 0) pe_int) pe_int) pe_int) pa_nil))) ?e1)
      (pa_cons (le_imp (t' := tPl K) (pe_tup (pa_cons pe_str (pa_cons (pe_slice sl_str pe_str po_none (po_some (pe_op op_mod (pe_op op_fdiv (pv 0) pe_int) pe_int))) pa_nil))) ?e2)
      (pa_cons (le_imp (t' := tPl K) (pe_tup (pa_cons pe_str (pa_cons (pe_cmpR op_eq (pe_op op_mod (pe_op op_fdiv (pv 0) pe_int) pe_int) pe_int (nomark _)) pa_nil))) ?e3)
      (pa_cons (le_imp (t' := tPl K) (pe_tup (pa_cons pe_str pa_nil)) ?e4) pa_nil))))))
    (pss_one (ps_ret (pe_ifExp (pt_cmpR op_gt (pe_op op_mod (pe_op op_fdiv (pv 0) pe_int) pe_int) pe_int (nomark _)) (pe_ix (r := rIxL K) ix_list (pv 1) (pe_op op_mod (pv 0) pe_int) (fun _ _ => rfl))
      (le_imp (t' := tPl K) (pe_tup (pa_cons pe_str (pa_cons (pe_op op_mod (pe_op op_fdiv (pv 0) pe_int) (pe_op op_pow pe_int pe_int)) pa_nil))) ?e5)))), ?main⟩
  case e1 =>
    rintro σ H Q ⟨n, e0, q⟩
    exact ⟨_, e0, _, _, rfl, rfl, ⟨by decide, by decide⟩, _, _, rfl, rfl, (show (0 : Int) < _ by decide), _, _, rfl, rfl, by show 2 ≤ sizeLine; decide, fun p hp => q _ _ _ (.inl ⟨_, rfl⟩) (same_new hp _) (At.new hp (AtAll2 (At_str.mpr rfl) (At_int.mpr rfl)))⟩
  case e2 =>
    rintro σ H Q ⟨n, e0, q⟩
    exact ⟨_, e0, _, _, rfl, rfl, ⟨by decide, by decide⟩, _, _, rfl, rfl, (show (0 : Int) < _ by decide), _, rfl, _, rfl, by show 2 ≤ sizeLine; decide, by show 2 ≤ sizeLine; decide, fun p hp => q _ _ _ (.inr (.inl ⟨_, rfl⟩)) (same_new hp _) (At.new hp (AtAll2 (At_str.mpr rfl) (At_str.mpr rfl)))⟩
  case e3 =>
    rintro σ H Q ⟨n, e0, q⟩
    exact ⟨_, e0, _, _, rfl, rfl, ⟨by decide, by decide⟩, _, _, rfl, rfl, (show (0 : Int) < _ by decide), rfl, by show 2 ≤ sizeLine; decide, fun p hp => q _ _ _ (.inr (.inr (.inl ⟨_, rfl⟩))) (same_new hp _) (At.new hp (AtAll2 (At_str.mpr rfl) (At_bl.mpr rfl)))⟩
  case e4 =>
    rintro σ H Q ⟨n, e0, q⟩
    exact ⟨by show 1 ≤ sizeLine; decide, fun p hp => q noD _ _ (.inr (.inr (.inr rfl))) (same_new hp _) (At.new hp (AtAll.one1 (At_str.mpr rfl)))⟩
  case e5 =>
    rintro σ H Q ⟨n, e0, q⟩
    exact ⟨_, e0, _, _, rfl, rfl, ⟨by decide, by decide⟩, _, _, rfl, rfl, ⟨by decide, by decide, by decide⟩, _, _, rfl, rfl, by show (0 : Int) < 10 ^ (Int.toNat 9); decide, by show 2 ≤ sizeLine; decide, fun p hp => q _ _ _ (.inl ⟨_, rfl⟩) (same_new hp _) (At.new hp (AtAll2 (At_str.mpr rfl) (At_int.mpr rfl)))⟩
  case main =>
    refine ⟨n, rfl, fun d1 v1 H1 p1 s1 a1 => ⟨n, rfl, fun d2 v2 H2 p2 s2 a2 => ⟨n, rfl, fun d3 v3 H3 p3 s3 a3 => ⟨n, rfl, fun d4 v4 H4 p4 s4 a4 => ⟨by show 4 ≤ sizeLine; decide, fun pl hpl => ?_⟩⟩⟩⟩⟩
    have s5 : Same H4 (upd H4 pl (.lst [v1, v2, v3, v4])) := same_new hpl _
    have l5 : upd H4 pl (.lst [v1, v2, v3, v4]) pl = some (.lst [v1, v2, v3, v4]) := upd_same
    revert s5 l5
    generalize upd H4 pl (.lst [v1, v2, v3, v4]) = H5
    intro s5 l5
    have t4 := s4.trans s5
    have t3 := s3.trans t4
    have t2 := s2.trans t3
    have t1 := s1.trans t2
    refine ⟨_, rfl, _, _, rfl, rfl, ⟨by decide, by decide⟩, _, _, rfl, rfl, (show (0 : Int) < _ by decide), _, _, rfl, rfl, _, rfl, ite_b9 (fun _ => ?_) (fun _ => ⟨n, rfl, fun d v H' p s a => q d v H' p (t1.trans s) a⟩)⟩
    have k0 := Int.emod_nonneg n (b := 4) (by decide)
    have k1 := Int.emod_lt_of_pos n (b := 4) (by decide)
    obtain ⟨v, e, hv⟩ := atI_mem4 (a := v1) (b := v2) (c := v3) (d := v4) k0 k1
    refine ⟨_, rfl, _, rfl, _, _, rfl, rfl, (show (0 : Int) < _ by decide), pl, _, _, v, rfl, rfl, SqL.of l5, e, ?_⟩
    rcases hv with rfl | rfl | rfl | rfl
    · exact q _ _ _ p1 t1 (At.same t2 _ _ a1)
    · exact q _ _ _ p2 t1 (At.same t3 _ _ a2)
    · exact q _ _ _ p3 t1 (At.same t4 _ _ a3)
    · exact q _ _ _ p4 t1 (At.same s5 _ _ a4)
/-! ### _law_go -/
theorem dep3 {a b c : D} {n : Nat} (h1 : dep a ≤ n) (h2 : dep b ≤ n) (h3 : dep c ≤ n) : dep (.tup [a, b, c]) ≤ n + 1 := by
  rw [GS.dep, deps, deps, deps, deps]; omega
theorem dep2 {a b : D} {n : Nat} (h1 : dep a ≤ n) (h2 : dep b ≤ n) : dep (.tup [a, b]) ≤ n + 1 := by
  rw [GS.dep, deps, deps, deps]; omega
theorem dep_s (x : Str) (n : Nat) : dep (.str x) ≤ n := by rw [dep_str]; exact Nat.zero_le _
theorem dep_t (i n : Nat) : dep (thD i) ≤ n + 1 := by rw [dep_th]; omega
def spLgo (K : PySem.W.Frag) : Sp := fun vs H Q _ => ∃ (x0 y z : V) (d : Addr) (i : Nat) (r : Rec) (v : D), vs = [x0, .ref d, y, z] ∧ OneAt K H d i r ∧ At K H v y ∧ PlD v ∧ At K H (goR (some (.gr r.fr r.st r.m r.h)) (thD i) v) z ∧ ∀ H', Same H H' → Q (.bl true) H'
theorem scLgo : FnScope ["_law_world", "_law_one", "_law_v", "_law_found"] ["_law_world", "_law_one", "_law_v", "_law_found"] (defScope sLgo) := ⟨rfl, rfl, rfl, by decide +kernel, rfl, by decide +kernel, by decide +kernel⟩
theorem ok_Lgo (F : Fun K "_law_go" "_law_go" sLgo f fd) : FnOk P w K mg base CX0 1 f fd ["_law_world", "_law_one", "_law_v", "_law_found"] (spLgo K) := by
  refine F.okI scLgo (fun vs H Q E h => ?_) (fun cdv A outer s H vs Q E hr h => ?_)
  · obtain ⟨_, _, _, _, _, _, _, rfl, _⟩ := h; rfl
  obtain ⟨x0, y, z, d, i, r, v, rfl, hO, hy, hP, hz, q⟩ := h
  refine ⟨_, pss_cons (ps_if (LW.pt (pw_or (pt_cmpR op_eq (L3.pe_dget (hu_of hr) (pv 1) pe_str) pe_str (nomark _)) (pw_or1 (LW.pt (pw_and (pt_cmpR op_eq (L3.pe_dget (hu_of hr) (pv 1) pe_str) pe_str (nomark _)) (pw_and (pt_cmpR (op_neD hr) (pv 2) (pe_tup (pa_cons pe_str pa_nil)) (nomark _)) (pw_and1 (pt_cmpR op_notN (L3.pe_dget (hu_of hr) (pv 1) pe_str) pe_non (nomark _))))))))) (pss_one (ps_ret (pe_cmpR (op_eqD hr) (pv 3) (pe_tup (pa_cons pe_str (pa_cons pe_str pa_nil))) (nomark _)))) pss_nil)
    (pss_cons (ps_if (pt_cmpR op_eq (L3.pe_dget (hu_of hr) (pv 1) pe_str) pe_str (nomark _)) (pss_one (ps_ret (pe_cmpR (op_eqD hr) (pv 3) (pe_tup (pa_cons pe_str (pa_cons pe_str pa_nil))) (nomark _)))) pss_nil)
    (pss_one (ps_ret (pe_cmpR (op_eqD hr) (pv 3) (pe_tup (pa_cons pe_str (pa_cons (L3.pe_dget (hu_of hr) (pv 1) pe_str) (pa_cons (pv 2) pa_nil)))) (nomark _))))), ?_⟩
  have hst := hO.state
  have hfr := hO.frame
  obtain ⟨vg, hgv, hAg⟩ := hO.giver
  refine ⟨_, rfl, d, _, rfl, hst, rfl, _, rfl, ?_⟩
  rw [decS]
  have hz' : At K H (match (if r.st = "goes" then none else some r.st) with | none => kF | some st => if st = "over" then eF else if (decide (st = "new") && (!eqD v noD && !decide (r.fr = .non))) = true then kF else .tup [.str "go", thD i, v]) z := hz
  by_cases e1 : r.st = "goes"
  · rw [if_pos e1] at hz'
    rw [decide_eq_true e1]
    refine iteT (iteT ⟨_, rfl, by show 2 ≤ sizeLine; decide, fun p hp => ⟨kF, kF, At.same (same_new hp _) _ _ hz', At.new hp (AtAll2 (At_str.mpr rfl) (At_str.mpr rfl)), by decide +kernel, ?_⟩⟩)
    rw [eqD_refl]
    exact q _ (same_new hp _)
  rw [if_neg e1] at hz'
  rw [decide_eq_false e1]
  have hz2 : At K H (if r.st = "over" then eF else if (decide (r.st = "new") && (!eqD v noD && !decide (r.fr = .non))) = true then kF else .tup [.str "go", thD i, v]) z := hz'
  have rest : ∀ H1, Same H H1 → (decide (r.st = "new") && (!eqD v noD && !decide (r.fr = .non))) = false → (tSeq (tIfS (tTest (tOp rEq (tDGet (tVar 1) (tC (.str "state"))) (tC (.str "over")))) (tRet (tOp (rEqD (cxOf CX0 P w K mg base ["_law_world", "_law_one", "_law_v", "_law_found"] "_law_go" (defScope sLgo) f cdv A outer s H E).nox) (tVar 3) (tTup (tCons (tC (.str "fault")) (tCons (tC (.str "EndFault")) tNil))))) tNext) (tRet (tOp (rEqD (cxOf CX0 P w K mg base ["_law_world", "_law_one", "_law_v", "_law_found"] "_law_go" (defScope sLgo) f cdv A outer s H E).nox) (tVar 3) (tTup (tCons (tC (.str "go")) (tCons (tDGet (tVar 1) (tC (.str "giver"))) (tCons (tVar 2) tNil))))))) { nx := fun _ H' => Q .non H', rt := Q } [some x0, some (.ref d), some y, some z] H1 := by
    intro H1 s1 en
    have hO1 : OneAt K H1 d i r := hO.keep (by obtain ⟨kvs, _, e, _⟩ := hO; rw [s1 _ _ e, e]) (Same.fx s1)
    refine ⟨_, rfl, d, _, rfl, hO1.state, rfl, _, rfl, ?_⟩
    rw [decS]
    by_cases e2 : r.st = "over"
    · rw [if_pos e2] at hz2
      rw [decide_eq_true e2]
      refine iteT ⟨_, rfl, by show 2 ≤ sizeLine; decide, fun p hp => ⟨eF, eF, At.same (s1.trans (same_new hp _)) _ _ hz2, At.new hp (AtAll2 (At_str.mpr rfl) (At_str.mpr rfl)), by decide +kernel, ?_⟩⟩
      rw [eqD_refl]
      exact q _ (s1.trans (same_new hp _))
    · rw [if_neg e2, if_neg (by rw [en]; exact Bool.false_ne_true)] at hz2
      rw [decide_eq_false e2]
      obtain ⟨vg1, hgv1, hAg1⟩ := hO1.giver
      refine iteF ⟨_, rfl, _, rfl, d, _, rfl, hgv1, _, rfl, by show 3 ≤ sizeLine; decide, fun p hp => ⟨_, _, At.same (s1.trans (same_new hp _)) _ _ hz2, At.new hp (AtAll3 (At_str.mpr rfl) hAg1 (At.same s1 _ _ hy)), Nat.le_trans (dep3 (n := 1) (dep_s _ _) (dep_t _ _) hP.dep) (by decide), ?_⟩⟩
      rw [eqD_refl]
      exact q _ (s1.trans (same_new hp _))
  refine iteF ⟨_, rfl, d, _, rfl, hst, rfl, _, rfl, ?_⟩
  rw [decS]
  by_cases e2 : r.st = "new"
  · rw [decide_eq_true e2]
    refine iteT ⟨_, rfl, by show 1 ≤ sizeLine; decide, fun p hp => ⟨v, noD, At.same (same_new hp _) _ _ hy, At.new hp (AtAll.one1 (At_str.mpr rfl)), Nat.le_trans hP.dep (by decide), _, rfl, ?_⟩⟩
    have s1 := same_new hp (.tup [.str "none"])
    revert s1
    generalize upd H p (.tup [.str "none"]) = H1
    intro s1
    cases e3 : eqD v noD with
    | true =>
      refine iteF (iteF (rest H1 s1 ?_))
      rw [e3]; simp
    | false =>
      have hO1 : OneAt K H1 d i r := hO.keep (by obtain ⟨kvs, _, e, _⟩ := hO; rw [s1 _ _ e, e]) (Same.fx s1)
      refine iteT ⟨_, rfl, d, _, rfl, hO1.frame, rfl, _, rfl, ?_⟩
      by_cases e4 : r.fr = .non
      · rw [decide_eq_true e4]
        refine iteF (rest H1 s1 ?_)
        rw [decide_eq_true e4]; simp
      · have ne : ¬ r.st = "over" := by rw [e2]; decide +kernel
        rw [if_neg ne, if_pos (by rw [e3, decide_eq_false e4, decide_eq_true e2]; rfl)] at hz2
        rw [decide_eq_false e4]
        refine iteT ⟨_, rfl, by show 2 ≤ sizeLine; decide, fun p hp => ⟨kF, kF, At.same (s1.trans (same_new hp _)) _ _ hz2, At.new hp (AtAll2 (At_str.mpr rfl) (At_str.mpr rfl)), by decide +kernel, ?_⟩⟩
        rw [eqD_refl]
        exact q _ (s1.trans (same_new hp _))
  · rw [decide_eq_false e2]
    refine iteF (iteF (rest H (Same.refl _) ?_))
    rw [decide_eq_false e2]; rfl
/-! ### _law_counted -/
def spLc (K : PySem.W.Frag) (c : ClD) : Sp := fun vs H Q _ => ∃ (L : Lw) (ps : List Addr) (os : List Th) (ds : List Addr) (is : List Nat) (rs : List Rec) (ns : List Int) (n j i : Nat) (d : Addr) (r : Rec), vs = [.ref L.W, .ref d] ∧ LawI K c H L ps os ds is rs ns n ∧ Row ds is rs j d i r ∧ r.fr = .non ∧ ∀ H' os' rs', LawI K c H' L ps os' ds is rs' ns n → os'.length = os.length → Q (.bl true) H'
theorem scLc : FnScope ["_law_world", "_law_one", "_law_found"] ["_law_world", "_law_one"] (defScope sLc) := ⟨rfl, rfl, rfl, by decide +kernel, rfl, by decide +kernel, by decide +kernel⟩
theorem ok_Lc (F : Fun K "_law_counted" "_law_counted" sLc f fd) (dC : Def P w K mg base "counted_on" ["world", "g"] 3 (spCon K c)) : FnOk P w K mg base CX0 4 f fd ["_law_world", "_law_one"] (spLc K c) := by
  refine F.okI scLc (fun vs H Q E h => ?_) (fun cdv A outer s H vs Q E hr h => ?_)
  · obtain ⟨_, _, _, _, _, _, _, _, _, _, _, _, rfl, _⟩ := h; rfl
  obtain ⟨L, ps, os, ds, is, rs, ns, n, j, i, d, r, rfl, hI, hR, hf, q⟩ := h
  refine ⟨_, pss_cons (ps_set (i := 2) scLc.nd rfl (Or.inl rfl) (L3.pe_def dC hr (by decide) rfl (pa_cons (pv 0) (pa_cons (L3.pe_dget (hu_of hr) (pv 1) pe_str) pa_nil))))
    (pss_cons (ps_if (pt_cmpR op_ge (L3.pe_dget (hu_of hr) (pv 1) pe_str) (L3.pe_dget (hu_of hr) (pv 1) pe_str) (nomark _)) (pss_cons (.mk (L2.ps_dput (hu_of hr) (LE.out (pv 1)) (LE.out pe_str) (LE.out pe_str) rfl)) (pss_one (ps_ret (pe_cmpR (op_eqD hr) (pv 2) (pe_tup (pa_cons pe_str pa_nil)) (nomark _))))) pss_nil)
    (pss_cons (.mk (L2.ps_dput (hu_of hr) (LE.out (pv 1)) (LE.out pe_str) (LE.out (pe_op op_add (L3.pe_dget (hu_of hr) (pv 1) pe_str) pe_int)) rfl))
    (pss_cons (.mk (L2.ps_dput (hu_of hr) (LE.out (pv 1)) (LE.out pe_str) (LE.out pe_str) rfl))
    (pss_one (ps_ret (pe_cmpR (op_eqD hr) (pv 2) (pe_tup (pa_cons pe_str (pa_cons (pe_tup (pa_cons pe_str (pa_cons (pe_op op_sub (L3.pe_dget (hu_of hr) (pv 1) pe_str) pe_int) pa_nil))) pa_nil))) (nomark _))))))), ?_⟩
  obtain ⟨vg, hgv, hAg⟩ := (hI.one hR).giver
  have ho := hI.osI hR
  have gne : d ≠ L.g := hI.t.gd d (List.mem_of_getElem? hR.d)
  have lset : ∀ o : Th, (os.set i o).length = os.length := fun o => List.length_set
  refine ⟨_, rfl, _, rfl, d, _, rfl, hgv, L.W, L.l, L.g, ps, os, gv0, vg, i, r.fr, r.st, r.m, r.h, rfl, hI.w, hAg, ho, fun hm fo H1 c1 w1 a1 => ?_, fun hm fo H1 c1 w1 a1 => ?_⟩
  · have t1 := hI.t.chg c1 hI.w.t
    have o1 := (t1.t j d i r hR.d hR.i hR.r).1
    refine ⟨_, rfl, d, _, rfl, (o1.at hf).1, _, rfl, d, _, rfl, (o1.at hf).2, _, _, rfl, rfl, _, rfl, ?_⟩
    rw [decide_eq_true hm]
    obtain ⟨kvs, hd, hl, t2⟩ := t1.st hR "over"
    refine iteT ⟨_, rfl, d, _, rfl, DPut.k (k := .inr "state") hd hl, ?_⟩
    have w2 := w1.dict (o := .dK (putK kvs (.inr "state") (.str "over"))) hd (Ne.symm gne)
    have a2 := At.fx (Fx.put (o' := .dK (putK kvs (.inr "state") (.str "over"))) hd rfl) _ _ a1
    have I2 : LawI K c _ L ps _ ds is _ ns n := ⟨w2, t2, hI.s.put (r' := ⟨r.fr, "over", r.m, r.h⟩) hR.i hR.r⟩
    refine ⟨_, rfl, by show 1 ≤ sizeLine; decide, fun p hp => ⟨_, _, At.same (same_new hp _) _ _ a2, At.new hp (AtAll.one1 (At_str.mpr rfl)), by decide +kernel, ?_⟩⟩
    rw [eqD_refl]
    exact q _ _ _ (I2.same (same_new hp _)) (lset _)
  · have t1 := hI.t.chg c1 hI.w.t
    have o1 := (t1.t j d i r hR.d hR.i hR.r).1
    refine ⟨_, rfl, d, _, rfl, (o1.at hf).1, _, rfl, d, _, rfl, (o1.at hf).2, _, _, rfl, rfl, _, rfl, ?_⟩
    rw [decide_eq_false (by omega)]
    obtain ⟨kvs, hd, hl, t2⟩ := t1.ad hR hf (r.h + 1)
    refine iteF ⟨_, rfl, d, _, rfl, (o1.at hf).1, _, _, rfl, rfl, _, rfl, d, _, rfl, DPut.k (k := .inr "at") hd hl, ?_⟩
    have w2 := w1.dict (o := .dK (putK kvs (.inr "at") (.int (r.h + 1)))) hd (Ne.symm gne)
    have a2 := At.fx (Fx.put (o' := .dK (putK kvs (.inr "at") (.int (r.h + 1)))) hd rfl) _ _ a1
    revert t2 w2 a2
    generalize upd H1 d (.dK (putK kvs (.inr "at") (.int (r.h + 1)))) = H2
    intro t2 w2 a2
    have R2 := hR.set (r' := ⟨r.fr, r.st, r.m, r.h + 1⟩)
    obtain ⟨kvs3, hd3, hl3, t3⟩ := t2.st R2 "waits"
    rw [List.set_set] at t3
    refine ⟨_, rfl, d, _, rfl, DPut.k (k := .inr "state") hd3 hl3, ?_⟩
    have w3 := w2.dict (o := .dK (putK kvs3 (.inr "state") (.str "waits"))) hd3 (Ne.symm gne)
    have a3 := At.fx (Fx.put (o' := .dK (putK kvs3 (.inr "state") (.str "waits"))) hd3 rfl) _ _ a2
    have I3 : LawI K c _ L ps _ ds is _ ns n := ⟨w3, t3, hI.s.put (r' := ⟨r.fr, "waits", r.m, r.h + 1⟩) hR.i hR.r⟩
    have o3 := I3.one (hR.set (r' := ⟨r.fr, "waits", r.m, r.h + 1⟩))
    refine ⟨_, rfl, _, rfl, d, _, rfl, (o3.at hf).1, _, _, rfl, rfl, by show 2 ≤ sizeLine; decide, fun p hp => ⟨by show 2 ≤ sizeLine; decide, fun p2 hp2 => ⟨_, .tup [.str "value", .tup [.str "number", .int r.h]], At.same ((same_new hp _).trans (same_new hp2 _)) _ _ a3, At.new hp2 (AtAll2 (At_str.mpr rfl) (At.new hp (AtAll2 (At_str.mpr rfl) (At_int.mpr (congrArg V.int ?_))))), ?_, ?_⟩⟩⟩
    · show r.h + 1 - 1 = r.h
      omega
    · exact Nat.le_trans (dep2 (n := 1) (dep_s _ _) (dep2 (n := 0) (dep_s _ _) (by rw [dep_int]; exact Nat.le_refl _))) (by decide)
    · rw [eqD_refl]
      exact q _ _ _ (I3.same ((same_new hp _).trans (same_new hp2 _))) (lset _)
end
end GS
set_option Elab.async false
set_option linter.all false
set_option maxRecDepth 100000
set_option maxHeartbeats 4000000
namespace GS
open PySem PyProof.Rows
open L2 hiding pe_int pe_bl pe_non pe_str pv pe_glob pe_op pe_cmpR pe_one pe_and pe_ifExp pe_ix po_none po_some pe_slice pa_nil pa_cons pe_lst pe_tup pe_dnewK pe_callB pe_callTy pe_bm pt_cmpR pt_val pt_not pw_and1 pw_or1 pw_and pw_or pg_name pgs_nil pgs_cons pg_tup pi_list pi_tup pi_range1 ps_ret ps_expr ps_set ps_asg ps_if ps_for pss_nil pss_cons pss_one
open L3
/-! ### the table grows -/
section
variable {K : PySem.W.Frag} {c : ClD} {H : Hp} {L : Lw} {ps : List Addr} {os : List Th} {ds : List Addr} {is : List Nat} {rs : List Rec} {ns : List Int} {n : Nat}
theorem LawI.newd {p : Addr} {kv0 : List (Key × V)} {o : HO} (h : LawI K c H L ps os ds is rs ns n) (hp : H p = some (.dK kv0)) (np : p ∉ ds) (ng : L.g ≠ p) : LawI K c (upd H p o) L ps os ds is rs ns n := by
  have k : ∀ q ys, H q = some (.lst ys) → upd H p o q = some (.lst ys) := fun q ys e => by rw [upd_ne (fun y => by rw [y, hp] at e; cases e)]; exact e
  exact ⟨h.w.dict hp ng, h.t.keep (Fx.put hp rfl) (fun q ys _ => k q ys) (fun d m => upd_ne fun y => np (y ▸ m)) (k _ _ h.t.b), h.s⟩
theorem LawI.lt (h : LawI K c H L ps os ds is rs ns n) : ∀ i ∈ is, i < os.length := fun i m => by
  obtain ⟨j, hj, e⟩ := List.getElem_of_mem m
  have h2 : j < rs.length := by rw [h.t.n2]; exact hj
  exact lt_of_some (h.s.s j i rs[j] (by rw [List.getElem?_eq_getElem hj, e]) (List.getElem?_eq_getElem h2))
theorem LawI.more {d : Addr} {i : Nat} {r : Rec} (h : LawI K c H L ps os ds is rs ns n) (ho : OneAt K H d i r) (hf : FrOk K H L r.fr) (nd : d ∉ ds) (ng : d ≠ L.g) (hos : os[i]? = some (.gr r.fr r.st r.m r.h)) (ni : i ∉ is) (h20 : 20 ≤ i) : LawI K c (upd H L.gl (.lst (ds.map V.ref ++ [.ref d]))) L ps os (ds ++ [d]) (is ++ [i]) (rs ++ [r]) ns n := by
  have hgl := h.t.gl
  have f : Fx H (upd H L.gl (.lst (ds.map V.ref ++ [.ref d]))) := Fx.put hgl rfl
  have kl : ∀ p ys, p ≠ L.gl → H p = some (.lst ys) → upd H L.gl (.lst (ds.map V.ref ++ [.ref d])) p = some (.lst ys) := fun p ys ne e => by rw [upd_ne ne]; exact e
  have kd : ∀ {p kvs}, H p = some (.dK kvs) → upd H L.gl (.lst (ds.map V.ref ++ [.ref d])) p = H p := fun {p kvs} e => upd_ne fun y => by rw [y, hgl] at e; cases e
  have ko : ∀ {d' i' r'}, OneAt K H d' i' r' → OneAt K (upd H L.gl (.lst (ds.map V.ref ++ [.ref d]))) d' i' r' := fun {d' i' r'} o => by
    obtain ⟨kvs, _, e, _⟩ := id o
    exact o.keep (kd e) f
  have kf : ∀ {v}, FrOk K H L v → FrOk K (upd H L.gl (.lst (ds.map V.ref ++ [.ref d]))) L v := fun {v} o => o.keep f fun p ys _ ne => kl p ys ne
  obtain ⟨h1, h2, h3, h4, h5, h6, ⟨cs, h7, h7'⟩, h8, h9, h10, h11, h13, h14⟩ := h.t
  refine ⟨h.w.lst hgl (Ne.symm h10.1), ⟨by rw [upd_same, List.map_append]; rfl, by rw [List.length_append, List.length_append, h2]; rfl, by rw [List.length_append, List.length_append, h3]; rfl, ?_, fun j d' i' r' e1 e2 e3 => ?_, fun d' m => ?_, ?_, ?_, kl _ _ (Ne.symm h10.2) h9, h10, h11, h13, h14⟩, h.s.pre, fun i' m => ?_, ?_, fun j i' r' e1 e2 => ?_⟩
  · rw [List.nodup_append]
    refine ⟨h4, (by simp), fun x hx y hy => ?_⟩
    rw [List.mem_singleton.mp hy]
    exact fun z => nd (z ▸ hx)
  · rcases getElem?_snoc e1 with e1 | ⟨rfl, rfl⟩
    · have hj := lt_of_some e1
      rw [List.getElem?_append_left (by omega)] at e2
      rw [List.getElem?_append_left (by omega)] at e3
      obtain ⟨a, b⟩ := h5 j d' i' r' e1 e2 e3
      exact ⟨ko a, kf b⟩
    · rw [h2, snoc_last] at e2
      rw [h2, ← h3, snoc_last] at e3
      cases e2; cases e3
      exact ⟨ko ho, kf hf⟩
  · rcases List.mem_append.mp m with m | m
    · exact h6 d' m
    · rw [List.mem_singleton.mp m]; exact ng
  · exact ⟨cs, SqL.keepS (fun ys e => kl _ _ h14 e) (fun o u e => f _ _ e rfl) h7, h7'⟩
  · exact h8.imp (fun z => ⟨z.1, z.2.1, SqL.keepS (fun ys e => kl _ _ z.2.1 e) (fun o u e => f _ _ e rfl) z.2.2⟩) id
  · rcases List.mem_append.mp m with m | m
    · exact h.s.ge i' m
    · rw [List.mem_singleton.mp m]; exact h20
  · rw [List.nodup_append]
    refine ⟨h.s.nd, (by simp), fun x hx y hy => ?_⟩
    rw [List.mem_singleton.mp hy]
    exact fun z => ni (z ▸ hx)
  · rcases getElem?_snoc e1 with e1 | ⟨rfl, rfl⟩
    · have hj := lt_of_some e1
      rw [List.getElem?_append_left (by omega)] at e2
      exact h.s.s j i' r' e1 e2
    · rw [← h3, snoc_last] at e2
      cases e2
      exact hos
end
theorem one_def {K : PySem.W.Frag} {H : Hp} {d : Addr} {i : Nat} {gv fr : V} (hd : H d = some (.dK (mergeK [] [(.inr "giver", gv), (.inr "frame", fr), (.inr "state", .str "new")]))) (hg : At K H (thD i) gv) (hf : fr ≠ .non) : OneAt K H d i ⟨fr, "new", 0, 0⟩ := by
  have e : mergeK [] [((.inr "giver" : Key), gv), (.inr "frame", fr), (.inr "state", .str "new")] = putK (putK (putK [] (.inr "giver") gv) (.inr "frame") fr) (.inr "state") (.str "new") := rfl
  rw [e] at hd
  have l1 := length_putK ([] : List (Key × V)) (.inr "giver") gv
  have l2 := length_putK (putK [] (.inr "giver") gv) ((.inr "frame") : Key) fr
  have l3 := length_putK (putK (putK [] (.inr "giver") gv) (.inr "frame") fr) ((.inr "state") : Key) (.str "new")
  refine ⟨_, gv, hd, by have : ([] : List (Key × V)).length = 0 := rfl; omega, ?_, hg, ?_, ?_, fun z => absurd z hf⟩
  · rw [valV_put, if_neg (by decide +kernel), valV_put, if_neg (by decide +kernel), valV_put, if_pos rfl]
  · rw [valV_put, if_neg (by decide +kernel), valV_put, if_pos rfl]
  · rw [valV_put, if_pos rfl]
theorem one_cnt {K : PySem.W.Frag} {H : Hp} {d : Addr} {i : Nat} {gv : V} {m : Int} (hd : H d = some (.dK (mergeK [] [(.inr "giver", gv), (.inr "frame", .non), (.inr "state", .str "new"), (.inr "at", .int 0), (.inr "end", .int m)]))) (hg : At K H (thD i) gv) : OneAt K H d i ⟨.non, "new", m, 0⟩ := by
  have e : mergeK [] [((.inr "giver" : Key), gv), (.inr "frame", .non), (.inr "state", .str "new"), (.inr "at", .int 0), (.inr "end", .int m)] = putK (putK (putK (putK (putK [] (.inr "giver") gv) (.inr "frame") .non) (.inr "state") (.str "new")) (.inr "at") (.int 0)) (.inr "end") (.int m) := rfl
  rw [e] at hd
  have l1 := length_putK ([] : List (Key × V)) (.inr "giver") gv
  have l2 := length_putK (putK [] (.inr "giver") gv) ((.inr "frame") : Key) .non
  have l3 := length_putK (putK (putK [] (.inr "giver") gv) (.inr "frame") .non) ((.inr "state") : Key) (.str "new")
  have l4 := length_putK (putK (putK (putK [] (.inr "giver") gv) (.inr "frame") .non) (.inr "state") (.str "new")) ((.inr "at") : Key) (.int 0)
  have l5 := length_putK (putK (putK (putK (putK [] (.inr "giver") gv) (.inr "frame") .non) (.inr "state") (.str "new")) (.inr "at") (.int 0)) ((.inr "end") : Key) (.int m)
  refine ⟨_, gv, hd, by have : ([] : List (Key × V)).length = 0 := rfl; omega, ?_, hg, ?_, ?_, fun _ => ⟨?_, ?_⟩⟩
  · rw [valV_put, if_neg (by decide +kernel), valV_put, if_neg (by decide +kernel), valV_put, if_neg (by decide +kernel), valV_put, if_neg (by decide +kernel), valV_put, if_pos rfl]
  · rw [valV_put, if_neg (by decide +kernel), valV_put, if_neg (by decide +kernel), valV_put, if_neg (by decide +kernel), valV_put, if_pos rfl]
  · rw [valV_put, if_neg (by decide +kernel), valV_put, if_neg (by decide +kernel), valV_put, if_pos rfl]
  · rw [valV_put, if_neg (by decide +kernel), valV_put, if_pos rfl]
  · rw [valV_put, if_pos rfl]
/-! ### two more rules -/
section
variable {X : Cx}
theorem fin_bl9 {pins : List (Addr × Obj)} {σ : L2.St} {H : Hp} {s : Shared} {Q : VK} {b b' : Bool} (I : Inv X pins σ H s) (q : Q (.bl b) H) (e : b' = b) : EP X pins σ Q (.bool b') s := by
  subst e
  exact ⟨.bl b', H, I, rfl, q⟩
def rNeS (K : PySem.W.Frag) : R2 := fun x y H Q => ∃ p xs, x = .ref p ∧ y = .ref p ∧ SqL K H p xs ∧ Q (.bl false) H
theorem op_neS {k : Nat} (hr : Room k X.A) : OpR X (compareOp .NotEq) (rNeS X.K) := by
  intro pins s σ H x y v u Q I rx ry h
  obtain ⟨p, xs, rfl, rfl, hp, hQ⟩ := h
  cases rx; cases ry
  obtain ⟨its, r1, p1, z1⟩ := I.list hp
  have hu := hr.units
  have e : (!(List.range its.toArray.size).all fun _ => true) = false := by
    rw [List.all_eq_true.mpr fun _ _ => rfl]; rfl
  exact SeqAt.RcNeAt.lists (e := fun _ => true) p1.isList p1.isList rfl (by omega) (fun j k1 k2 => SeqAt.EqAt.same _) _ _ _ _ (fin_bl9 I hQ e)
theorem op_isB : OpR X (compareOp .Is) (fun x y H Q => ∃ a b, x = .bl a ∧ y = .bl b ∧ Q (.bl (a == b)) H) := by
  intro pins s σ H x y v u Q I rx ry h
  obtain ⟨a, b, rfl, rfl, q⟩ := h
  cases rx; cases ry
  exact is_bool (fin_bl9 I q rfl)
end
end GS
set_option Elab.async false
set_option linter.all false
set_option maxRecDepth 100000
set_option maxHeartbeats 4000000
namespace GS
open PySem PyProof.Rows
open L2 hiding pe_int pe_bl pe_non pe_str pv pe_glob pe_op pe_cmpR pe_one pe_and pe_ifExp pe_ix po_none po_some pe_slice pa_nil pa_cons pe_lst pe_tup pe_dnewK pe_callB pe_callTy pe_bm pt_cmpR pt_val pt_not pw_and1 pw_or1 pw_and pw_or pg_name pgs_nil pgs_cons pg_tup pi_list pi_tup pi_range1 ps_ret ps_expr ps_set ps_asg ps_if ps_for pss_nil pss_cons pss_one
open L3
abbrev sLt : Stmt := topd 70
abbrev sLs : Stmt := topd 71
theorem gv_go : (("go" : Str), 5) ∈ gv0 := by decide +kernel
theorem gv_throw : (("throw" : Str), 6) ∈ gv0 := by decide +kernel
theorem gv_shut : (("shut" : Str), 7) ∈ gv0 := by decide +kernel
theorem gv_count : (("count" : Str), 4) ∈ gv0 := by decide +kernel
theorem gv_fault : (("Fault" : Str), 9) ∈ gv0 := by decide +kernel
theorem Sync.fn {os : List Th} {is : List Nat} {rs : List Rec} (h : Sync os is rs) (i : Nat) (hi : i < 8) : os[i]? = some (.gvn (gfN.getD i "")) := by rw [h.pre i (by omega), os_f i hi]
section
variable {P : Program} {w : World} {K : PySem.W.Frag} {mg : Str → Option Value} {base : Heap} {f : Addr} {fd : FuncData} {c : ClD}
/-! ### _law_thrown -/
def spLt (K : PySem.W.Frag) (c : ClD) : Sp := fun vs H Q _ => ∃ (L : Lw) (ps : List Addr) (os : List Th) (ds : List Addr) (is : List Nat) (rs : List Rec) (ns : List Int) (n j i fi : Nat) (d : Addr) (r : Rec) (y : V), vs = [.ref L.W, .ref d, y] ∧ LawI K c H L ps os ds is rs ns n ∧ Row ds is rs j d i r ∧ At K H (thD fi) y ∧ fi < os.length ∧ isF os os[fi]? = true ∧ os.length ≤ 1000 ∧ ∀ H' ps', LawI K c H' L ps' os ds is rs ns n → Q (.bl true) H'
theorem scLt : FnScope ["_law_world", "_law_one", "_law_fault", "_law_found"] ["_law_world", "_law_one", "_law_fault"] (defScope sLt) := ⟨rfl, rfl, rfl, by decide +kernel, rfl, by decide +kernel, by decide +kernel⟩
theorem ok_Lt (F : Fun K "_law_thrown" "_law_thrown" sLt f fd) (dK : Def P w K mg base "known" ["world", "name"] 1 (spKn K c)) (dC : Def P w K mg base "called" ["world", "a", "values"] 7 (spCld K c)) : FnOk P w K mg base CX0 8 f fd ["_law_world", "_law_one", "_law_fault"] (spLt K c) := by
  refine F.okI scLt (fun vs H Q E h => ?_) (fun cdv A outer s H vs Q E hr h => ?_)
  · obtain ⟨_, _, _, _, _, _, _, _, _, _, _, _, _, _, rfl, _⟩ := h; rfl
  obtain ⟨L, ps, os, ds, is, rs, ns, n, j, i, fi, d, r, y, rfl, hI, hR, hy, hfi, hF, hl, q⟩ := h
  refine ⟨_, pss_cons (ps_set (i := 3) scLt.nd rfl (Or.inl rfl) (L3.pe_def dC hr (by decide) rfl (pa_cons (pv 0) (pa_cons (L3.pe_def dK hr (by decide) rfl (pa_cons (pv 0) (pa_cons pe_str pa_nil))) (pa_cons (pe_tup (pa_cons (L3.pe_dget (hu_of hr) (pv 1) pe_str) (pa_cons (pv 2) pa_nil))) pa_nil)))))
    (pss_cons (ps_if (pt_cmpR op_eq (L3.pe_dget (hu_of hr) (pv 1) pe_str) pe_str (nomark _)) (pss_one (ps_ret (pe_cmpR (op_eqD hr) (pv 3) (pe_tup (pa_cons pe_str (pa_cons pe_str pa_nil))) (nomark _)))) pss_nil)
    (pss_cons (ps_if (pt_cmpR op_eq (L3.pe_dget (hu_of hr) (pv 1) pe_str) pe_str (nomark _)) (pss_one (ps_ret (pe_cmpR (op_eqD hr) (pv 3) (pe_tup (pa_cons pe_str (pa_cons (pv 2) pa_nil))) (nomark _)))) pss_nil)
    (pss_one (ps_ret (pe_cmpR (op_eqD hr) (pv 3) (pe_tup (pa_cons pe_str (pa_cons (L3.pe_dget (hu_of hr) (pv 1) pe_str) (pa_cons (pv 2) pa_nil)))) (nomark _)))))), ?_⟩
  obtain ⟨vg, hgv, hAg⟩ := (hI.one hR).giver
  have ho := hI.osI hR
  refine ⟨_, rfl, _, rfl, L.W, L.l, L.g, ps, os, gv0, "throw", 6, rfl, hI.w, gv_throw, fun vk hvk => ⟨_, rfl, d, _, rfl, hgv, _, rfl, by show 2 ≤ sizeLine; decide, fun tp htp => ?_⟩⟩
  have s1 := same_new htp (.tup [vg, y])
  have a1 : At K (upd H tp (.tup [vg, y])) (.tup [thD i, thD fi]) (.ref tp) := At.new htp (AtAll2 hAg hy)
  revert s1 a1
  generalize upd H tp (.tup [vg, y]) = H1
  intro s1 a1
  have I1 := hI.same s1
  refine ⟨L.W, L.l, L.g, ps, os, gv0, vk, .ref tp, 6, "throw", _, _, _, rfl, I1.w, At.same s1 _ _ hvk, hI.s.fn 6 (by decide), a1, (CalN.thr (thD i) (thD fi) (Vd.th (lt_of_some ho)) (Vd.th hfi)).cal, gv_fault, hl, fun fo H2 ps2 c2 w2 a2 => ?_⟩
  rw [thO_th, thO_th, ho, hF] at a2
  have I2 := I1.chg c2 w2 hI.s
  have o2 := I2.one hR
  have hy2 : At K H2 (thD fi) y := At.fx (c2.fx I1.w.t) _ _ (At.same s1 _ _ hy)
  refine ⟨_, rfl, d, _, rfl, o2.state, rfl, _, rfl, ?_⟩
  rw [decS]
  have a3 : At K H2 (match (if r.st = "goes" then none else some r.st) with | none => kF | some st => if true = false then kF else if st = "over" then .tup [.str "raise", thD fi] else .tup [.str "throw", thD i, thD fi]) fo := a2
  by_cases e1 : r.st = "goes"
  · rw [if_pos e1] at a3
    rw [decide_eq_true e1]
    refine iteT ⟨_, rfl, by show 2 ≤ sizeLine; decide, fun p hp => ⟨kF, kF, At.same (same_new hp _) _ _ a3, At.new hp (AtAll2 (At_str.mpr rfl) (At_str.mpr rfl)), by decide +kernel, ?_⟩⟩
    rw [eqD_refl]
    exact q _ _ (I2.same (same_new hp _))
  rw [if_neg e1] at a3
  rw [decide_eq_false e1]
  refine iteF ⟨_, rfl, d, _, rfl, o2.state, rfl, _, rfl, ?_⟩
  rw [decS]
  have a4 : At K H2 (if true = false then kF else if r.st = "over" then .tup [.str "raise", thD fi] else .tup [.str "throw", thD i, thD fi]) fo := a3
  rw [if_neg (fun z => nomatch z)] at a4
  by_cases e2 : r.st = "over"
  · rw [if_pos e2] at a4
    rw [decide_eq_true e2]
    refine iteT ⟨_, rfl, _, rfl, by show 2 ≤ sizeLine; decide, fun p hp => ⟨_, _, At.same (same_new hp _) _ _ a4, At.new hp (AtAll2 (At_str.mpr rfl) hy2), Nat.le_trans (dep2 (n := 1) (dep_s _ _) (dep_t _ _)) (by decide), ?_⟩⟩
    rw [eqD_refl]
    exact q _ _ (I2.same (same_new hp _))
  · rw [if_neg e2] at a4
    rw [decide_eq_false e2]
    obtain ⟨vg2, hgv2, hAg2⟩ := o2.giver
    refine iteF ⟨_, rfl, _, rfl, d, _, rfl, hgv2, _, rfl, by show 3 ≤ sizeLine; decide, fun p hp => ⟨_, _, At.same (same_new hp _) _ _ a4, At.new hp (AtAll3 (At_str.mpr rfl) hAg2 hy2), Nat.le_trans (dep3 (n := 1) (dep_s _ _) (dep_t _ _) (dep_t _ _)) (by decide), ?_⟩⟩
    rw [eqD_refl]
    exact q _ _ (I2.same (same_new hp _))
/-! ### _law_shut -/
def spLs (K : PySem.W.Frag) (c : ClD) : Sp := fun vs H Q _ => ∃ (L : Lw) (ps : List Addr) (os : List Th) (ds : List Addr) (is : List Nat) (rs : List Rec) (ns : List Int) (n j i : Nat) (d : Addr) (r : Rec), vs = [.ref L.W, .ref d] ∧ LawI K c H L ps os ds is rs ns n ∧ Row ds is rs j d i r ∧ os.length ≤ 1000 ∧ ∀ H' ps' os' rs', LawI K c H' L ps' os' ds is rs' ns n → os'.length = os.length → Q (.bl true) H'
theorem scLs : FnScope ["_law_world", "_law_one", "_law_found"] ["_law_world", "_law_one"] (defScope sLs) := ⟨rfl, rfl, rfl, by decide +kernel, rfl, by decide +kernel, by decide +kernel⟩
theorem ok_Ls (F : Fun K "_law_shut" "_law_shut" sLs f fd) (dK : Def P w K mg base "known" ["world", "name"] 1 (spKn K c)) (dC : Def P w K mg base "called" ["world", "a", "values"] 7 (spCld K c)) : FnOk P w K mg base CX0 8 f fd ["_law_world", "_law_one"] (spLs K c) := by
  refine F.okI scLs (fun vs H Q E h => ?_) (fun cdv A outer s H vs Q E hr h => ?_)
  · obtain ⟨_, _, _, _, _, _, _, _, _, _, _, _, rfl, _⟩ := h; rfl
  obtain ⟨L, ps, os, ds, is, rs, ns, n, j, i, d, r, rfl, hI, hR, hl, q⟩ := h
  refine ⟨_, pss_cons (ps_set (i := 2) scLs.nd rfl (Or.inl rfl) (L3.pe_def dC hr (by decide) rfl (pa_cons (pv 0) (pa_cons (L3.pe_def dK hr (by decide) rfl (pa_cons (pv 0) (pa_cons pe_str pa_nil))) (pa_cons (pe_tup (pa_cons (L3.pe_dget (hu_of hr) (pv 1) pe_str) pa_nil)) pa_nil)))))
    (pss_cons (ps_if (pt_cmpR op_eq (L3.pe_dget (hu_of hr) (pv 1) pe_str) pe_str (nomark _)) (pss_one (ps_ret (pe_cmpR (op_eqD hr) (pv 2) (pe_tup (pa_cons pe_str (pa_cons pe_str pa_nil))) (nomark _)))) pss_nil)
    (pss_cons (ps_if (pt_cmpR op_eq (L3.pe_dget (hu_of hr) (pv 1) pe_str) pe_str (nomark _)) (pss_one (ps_ret (pe_cmpR (op_eqD hr) (pv 2) (pe_tup (pa_cons pe_str (pa_cons (L3.pe_dget (hu_of hr) (pv 1) pe_str) pa_nil))) (nomark _)))) pss_nil)
    (pss_cons (.mk (L2.ps_dput (hu_of hr) (LE.out (pv 1)) (LE.out pe_str) (LE.out pe_str) rfl))
    (pss_one (ps_ret (pe_cmpR (op_eqD hr) (pv 2) (pe_tup (pa_cons pe_str (pa_cons (pe_tup (pa_cons pe_str pa_nil)) pa_nil))) (nomark _))))))), ?_⟩
  obtain ⟨vg, hgv, hAg⟩ := (hI.one hR).giver
  have ho := hI.osI hR
  have gne : d ≠ L.g := hI.t.gd d (List.mem_of_getElem? hR.d)
  refine ⟨_, rfl, _, rfl, L.W, L.l, L.g, ps, os, gv0, "shut", 7, rfl, hI.w, gv_shut, fun vk hvk => ⟨_, rfl, d, _, rfl, hgv, by show 1 ≤ sizeLine; decide, fun tp htp => ?_⟩⟩
  have s1 := same_new htp (.tup [vg])
  have a1 : At K (upd H tp (.tup [vg])) (.tup [thD i]) (.ref tp) := At.new htp (AtAll.one1 hAg)
  revert s1 a1
  generalize upd H tp (.tup [vg]) = H1
  intro s1 a1
  have I1 := hI.same s1
  refine ⟨L.W, L.l, L.g, ps, os, gv0, vk, .ref tp, 7, "shut", _, _, _, rfl, I1.w, At.same s1 _ _ hvk, hI.s.fn 7 (by decide), a1, (CalN.sht (thD i) (Vd.th (lt_of_some ho))).cal, gv_fault, hl, fun fo H2 ps2 c2 w2 a2 => ?_⟩
  unfold shO at w2
  rw [thO_th, ho] at a2 w2
  rw [ixO_th] at w2
  have t2 := I1.t.chg c2 I1.w.t
  have o2 := (t2.t j d i r hR.d hR.i hR.r).1
  have w3 : WAt K c H2 L.W L.l L.g ps2 (if r.st = "goes" ∨ r.st = "waits" then os else os.set i (.gr r.fr "over" r.m r.h)) gv0 := w2
  refine ⟨_, rfl, d, _, rfl, o2.state, rfl, _, rfl, ?_⟩
  rw [decS]
  have a3 : At K H2 (match (if r.st = "goes" then none else some r.st) with | none => kF | some st => if st = "waits" then .tup [.str "shut", thD i] else .tup [.str "value", noD]) fo := a2
  by_cases e1 : r.st = "goes"
  · rw [if_pos e1] at a3
    rw [if_pos (.inl e1)] at w3
    rw [decide_eq_true e1]
    refine iteT ⟨_, rfl, by show 2 ≤ sizeLine; decide, fun p hp => ⟨kF, kF, At.same (same_new hp _) _ _ a3, At.new hp (AtAll2 (At_str.mpr rfl) (At_str.mpr rfl)), by decide +kernel, ?_⟩⟩
    rw [eqD_refl]
    exact q _ _ _ _ (LawI.same (same_new hp _) ⟨w3, t2, hI.s⟩) rfl
  rw [if_neg e1] at a3
  rw [decide_eq_false e1]
  refine iteF ⟨_, rfl, d, _, rfl, o2.state, rfl, _, rfl, ?_⟩
  rw [decS]
  have a4 : At K H2 (if r.st = "waits" then .tup [.str "shut", thD i] else .tup [.str "value", noD]) fo := a3
  by_cases e2 : r.st = "waits"
  · rw [if_pos e2] at a4
    rw [if_pos (.inr e2)] at w3
    rw [decide_eq_true e2]
    obtain ⟨vg2, hgv2, hAg2⟩ := o2.giver
    refine iteT ⟨_, rfl, _, rfl, d, _, rfl, hgv2, by show 2 ≤ sizeLine; decide, fun p hp => ⟨_, _, At.same (same_new hp _) _ _ a4, At.new hp (AtAll2 (At_str.mpr rfl) hAg2), Nat.le_trans (dep2 (n := 1) (dep_s _ _) (dep_t _ _)) (by decide), ?_⟩⟩
    rw [eqD_refl]
    exact q _ _ _ _ (LawI.same (same_new hp _) ⟨w3, t2, hI.s⟩) rfl
  · rw [if_neg e2] at a4
    rw [if_neg (fun z => z.elim e1 e2)] at w3
    rw [decide_eq_false e2]
    obtain ⟨kvs, hd, hk, t3⟩ := t2.st hR "over"
    refine iteF ⟨_, rfl, d, _, rfl, DPut.k (k := .inr "state") hd hk, ?_⟩
    have w4 := w3.dict (o := .dK (putK kvs (.inr "state") (.str "over"))) hd (Ne.symm gne)
    have a5 := At.fx (Fx.put (o' := .dK (putK kvs (.inr "state") (.str "over"))) hd rfl) _ _ a4
    have I3 : LawI K c _ L ps2 _ ds is _ ns n := ⟨w4, t3, hI.s.put (r' := ⟨r.fr, "over", r.m, r.h⟩) hR.i hR.r⟩
    refine ⟨_, rfl, by show 1 ≤ sizeLine; decide, fun p hp => ⟨by show 2 ≤ sizeLine; decide, fun p2 hp2 => ⟨_, .tup [.str "value", noD], At.same ((same_new hp _).trans (same_new hp2 _)) _ _ a5, At.new hp2 (AtAll2 (At_str.mpr rfl) (At.new hp (AtAll.one1 (At_str.mpr rfl)))), by decide +kernel, ?_⟩⟩⟩
    rw [eqD_refl]
    exact q _ _ _ _ (I3.same ((same_new hp _).trans (same_new hp2 _))) List.length_set
end
end GS
set_option Elab.async false
set_option linter.all false
set_option maxRecDepth 100000
set_option maxHeartbeats 4000000
namespace GS
open PySem PyProof.Rows
open L2 hiding pe_int pe_bl pe_non pe_str pv pe_glob pe_op pe_cmpR pe_one pe_and pe_ifExp pe_ix po_none po_some pe_slice pa_nil pa_cons pe_lst pe_tup pe_dnewK pe_callB pe_callTy pe_bm pt_cmpR pt_val pt_not pw_and1 pw_or1 pw_and pw_or pg_name pgs_nil pgs_cons pg_tup pi_list pi_tup pi_range1 ps_ret ps_expr ps_set ps_asg ps_if ps_for pss_nil pss_cons pss_one
open L3
abbrev sLw : Stmt := topd 66
/-! ### calls that are wrong -/
def wrs (i fi : Nat) : List (Str × List D) := [("go", []), ("go", [thD i, thD i, thD i]), ("go", [thD fi]), ("throw", [thD i]), ("throw", [thD i, thD i]), ("throw", [thD fi, thD fi]), ("shut", []), ("shut", [thD i, thD i]), ("shut", [thD fi]), ("throw", [thD i, noD]), ("go", [.tup [.str "number", .int 1], thD i]), ("throw", [thD i, thD 9])]
def prD (p : Str × List D) : D := .tup [.str p.1, .tup p.2]
theorem thR_false (o : Option Th) (g v : D) : thR o false g v = kF := by
  unfold thR
  split
  · rfl
  · rw [if_pos rfl]
theorem bn_go : (("go" : Str), 1, 2) ∈ bnds := by decide +kernel
theorem bn_throw : (("throw" : Str), 2, 2) ∈ bnds := by decide +kernel
theorem bn_shut : (("shut" : Str), 1, 1) ∈ bnds := by decide +kernel
theorem wr_ok {os : List Th} {i fi k : Nat} {fr : V} {st : Str} {m h : Int} {ns : List Nat} (hi : os[i]? = some (.gr fr st m h)) (hf : os[fi]? = some (.ob k)) (h9 : os[9]? = some (.kd ns)) : ∀ p ∈ wrs i fi, ∃ k, (p.1, k) ∈ gv0 ∧ k < 8 ∧ gfN.getD k "" = p.1 ∧ CalR os p.1 p.2 kF os := by
  have vi := Vd.th (lt_of_some hi)
  have vf := Vd.th (lt_of_some hf)
  have v9 := Vd.th (lt_of_some h9)
  have ti := (thO_th os i).trans hi
  have tf := (thO_th os fi).trans hf
  have t9 := (thO_th os 9).trans h9
  intro p hp
  simp only [wrs, List.mem_cons, List.not_mem_nil, or_false] at hp
  rcases hp with rfl | rfl | rfl | rfl | rfl | rfl | rfl | rfl | rfl | rfl | rfl | rfl
  · exact ⟨5, gv_go, by decide, rfl, 1, 2, bn_go, .inl ⟨.inl (by decide), rfl, rfl⟩⟩
  · exact ⟨5, gv_go, by decide, rfl, 1, 2, bn_go, .inl ⟨.inr (by show 2 < 3; decide), rfl, rfl⟩⟩
  · have := (CalN.go1 (os := os) (thD fi) vf).cal
    rw [tf] at this
    exact ⟨5, gv_go, by decide, rfl, this⟩
  · exact ⟨6, gv_throw, by decide, rfl, 2, 2, bn_throw, .inl ⟨.inl (by show 1 < 2; decide), rfl, rfl⟩⟩
  · have := (CalN.thr (os := os) (thD i) (thD i) vi vi).cal
    rw [ti, show isF os (some (.gr fr st m h)) = false from rfl, thR_false] at this
    exact ⟨6, gv_throw, by decide, rfl, this⟩
  · have := (CalN.thr (os := os) (thD fi) (thD fi) vf vf).cal
    rw [tf] at this
    exact ⟨6, gv_throw, by decide, rfl, this⟩
  · exact ⟨7, gv_shut, by decide, rfl, 1, 1, bn_shut, .inl ⟨.inl (by decide), rfl, rfl⟩⟩
  · exact ⟨7, gv_shut, by decide, rfl, 1, 1, bn_shut, .inl ⟨.inr (by show 1 < 2; decide), rfl, rfl⟩⟩
  · have := (CalN.sht (os := os) (thD fi) vf).cal
    unfold shO at this
    rw [tf] at this
    exact ⟨7, gv_shut, by decide, rfl, this⟩
  · have := (CalN.thr (os := os) (thD i) noD vi (Vd.no (by decide +kernel))).cal
    rw [show thO os noD = none from thO_no os [] (by decide +kernel), show isF os none = false from rfl, thR_false] at this
    exact ⟨6, gv_throw, by decide, rfl, this⟩
  · have := (CalN.go2 (os := os) (.tup [.str "number", .int 1]) (thD i) (Vd.no (by decide +kernel)) (by rw [dep_th]; decide)).cal
    rw [show thO os (.tup [.str "number", .int 1]) = none from thO_no os _ (by decide +kernel)] at this
    exact ⟨5, gv_go, by decide, rfl, this⟩
  · have := (CalN.thr (os := os) (thD i) (thD 9) vi v9).cal
    rw [t9, show isF os (some (.kd ns)) = false from rfl, thR_false] at this
    exact ⟨6, gv_throw, by decide, rfl, this⟩
theorem AtAll.app {K : PySem.W.Frag} {H : Hp} : ∀ {ds es : List D} {vs ws : List V}, AtAll K H ds vs → AtAll K H es ws → AtAll K H (ds ++ es) (vs ++ ws)
  | [], es, vs, ws, h, g => by rw [AtAll_nil.mp h]; exact g
  | d :: ds, es, vs, ws, h, g => by
    obtain ⟨v, r, rfl, h1, h2⟩ := AtAll_cons.mp h
    exact AtAll_cons.mpr ⟨v, r ++ ws, rfl, h1, AtAll.app h2 g⟩
/-- one of the list; a list of them -/
def tEl (K : PySem.W.Frag) (i fi : Nat) (p : Str × List D) : TE := fun σ H Q => ∃ gv fv, σ[4]? = some (some gv) ∧ σ[3]? = some (some fv) ∧ At K H (thD i) gv ∧ At K H (thD fi) fv ∧ ∀ v H', Same H H' → At K H' (prD p) v → Q v H'
def tEs (K : PySem.W.Frag) (i fi : Nat) (es : List (Str × List D)) : TA := fun σ H Q => ∃ gv fv, σ[4]? = some (some gv) ∧ σ[3]? = some (some fv) ∧ At K H (thD i) gv ∧ At K H (thD fi) fv ∧ ∀ vs H', Same H H' → AtAll K H' (es.map prD) vs → Q vs H'
theorem la_imp {X : Cx} {es : List Expr} {t t' : TA} (h : LA X es t) (hi : ∀ σ H Q, t' σ H Q → t σ H Q) : LA X es t' := .mk fun pos pins s σ H Q I q => h.out pos pins s σ H Q I (hi σ H Q q)
theorem tEs_nil {K : PySem.W.Frag} {i fi : Nat} (σ : L2.St) (H : Hp) (Q : List V → Hp → Prop) (h : tEs K i fi [] σ H Q) : tNil σ H Q := by
  obtain ⟨gv, fv, _, _, _, _, q⟩ := h
  exact q [] H (Same.refl _) (AtAll_nil.mpr rfl)
theorem tEs_cons {K : PySem.W.Frag} {i fi : Nat} {p : Str × List D} {es : List (Str × List D)} (σ : L2.St) (H : Hp) (Q : List V → Hp → Prop) (h : tEs K i fi (p :: es) σ H Q) : tCons (tEl K i fi p) (tEs K i fi es) σ H Q := by
  obtain ⟨gv, fv, e4, e3, hg, hf, q⟩ := h
  exact ⟨gv, fv, e4, e3, hg, hf, fun v H1 s1 a1 => ⟨gv, fv, e4, e3, At.same s1 _ _ hg, At.same s1 _ _ hf, fun vs H2 s2 a2 => q _ _ (s1.trans s2) (AtAll_cons.mpr ⟨v, vs, rfl, At.same s2 _ _ a1, a2⟩)⟩⟩
section
variable {P : Program} {w : World} {K : PySem.W.Frag} {mg : Str → Option Value} {base : Heap} {f : Addr} {fd : FuncData} {c : ClD}
def spLw (K : PySem.W.Frag) (c : ClD) : Sp := fun vs H Q _ => ∃ (L : Lw) (ps : List Addr) (os : List Th) (ds : List Addr) (is : List Nat) (rs : List Rec) (ns : List Int) (n j i fi k : Nat) (d : Addr) (r : Rec) (y : V) (n0 : Int), vs = [.ref L.W, .int n0, .ref d, y] ∧ LawI K c H L ps os ds is rs ns n ∧ Row ds is rs j d i r ∧ At K H (thD fi) y ∧ os[fi]? = some (.ob k) ∧ os.length ≤ 1000 ∧ ∀ H' ps', LawI K c H' L ps' os ds is rs ns n → Q (.bl true) H'
theorem scLw : FnScope ["_law_world", "_law_n", "_law_one", "_law_fault", "_law_g", "_law_some", "_law_word", "_law_values"] ["_law_world", "_law_n", "_law_one", "_law_fault"] (defScope sLw) := ⟨rfl, rfl, rfl, by decide +kernel, rfl, by decide +kernel, by decide +kernel⟩
theorem ok_Lw (F : Fun K "_law_wrong" "_law_wrong" sLw f fd) (dK : Def P w K mg base "known" ["world", "name"] 1 (spKn K c)) (dC : Def P w K mg base "called" ["world", "a", "values"] 7 (spCld K c)) : FnOk P w K mg base CX0 8 f fd ["_law_world", "_law_n", "_law_one", "_law_fault"] (spLw K c) := by
  refine F.okI scLw (fun vs H Q E h => ?_) (fun cdv A outer s H vs Q E hr h => ?_)
  · obtain ⟨_, _, _, _, _, _, _, _, _, _, _, _, _, _, _, _, rfl, _⟩ := h; rfl
  obtain ⟨L, ps, os, ds, is, rs, ns, n, j, i, fi, k, d, r, y, n0, rfl, hI, hR, hy, hfi, hl, q⟩ := h
  refine ⟨_, pss_cons (ps_set (i := 4) scLw.nd rfl (Or.inl rfl) (L3.pe_dget (hu_of hr) (pv 2) pe_str))
    (pss_cons (ps_set (i := 5) scLw.nd rfl (Or.inl rfl) (pe_lst (la_imp (t' := tEs K i fi ((wrs i fi).take 5)) (pa_cons (le_imp (t' := tEl K i fi ("go", [])) (pe_tup (pa_cons pe_str (pa_cons (pe_tup pa_nil) pa_nil))) ?e1)
      (la_imp (t' := tEs K i fi (((wrs i fi).take 5).drop 1)) (pa_cons (le_imp (t' := tEl K i fi ("go", [thD i, thD i, thD i])) (pe_tup (pa_cons pe_str (pa_cons (pe_tup (pa_cons (pv 4) (pa_cons (pv 4) (pa_cons (pv 4) pa_nil)))) pa_nil))) ?e2)
      (la_imp (t' := tEs K i fi (((wrs i fi).take 5).drop 2)) (pa_cons (le_imp (t' := tEl K i fi ("go", [thD fi])) (pe_tup (pa_cons pe_str (pa_cons (pe_tup (pa_cons (pv 3) pa_nil)) pa_nil))) ?e3)
      (la_imp (t' := tEs K i fi (((wrs i fi).take 5).drop 3)) (pa_cons (le_imp (t' := tEl K i fi ("throw", [thD i])) (pe_tup (pa_cons pe_str (pa_cons (pe_tup (pa_cons (pv 4) pa_nil)) pa_nil))) ?e4)
      (la_imp (t' := tEs K i fi (((wrs i fi).take 5).drop 4)) (pa_cons (le_imp (t' := tEl K i fi ("throw", [thD i, thD i])) (pe_tup (pa_cons pe_str (pa_cons (pe_tup (pa_cons (pv 4) (pa_cons (pv 4) pa_nil))) pa_nil))) ?e5)
      (la_imp (t' := tEs K i fi []) pa_nil tEs_nil)) tEs_cons)) tEs_cons)) tEs_cons)) tEs_cons)) tEs_cons)))
    (pss_cons (ps_set (i := 5) scLw.nd rfl (Or.inl rfl) (pe_op op_cat (pv 5) (pe_lst (la_imp (t' := tEs K i fi (((wrs i fi).drop 5).take 4)) (pa_cons (le_imp (t' := tEl K i fi ("throw", [thD fi, thD fi])) (pe_tup (pa_cons pe_str (pa_cons (pe_tup (pa_cons (pv 3) (pa_cons (pv 3) pa_nil))) pa_nil))) ?e6)
      (la_imp (t' := tEs K i fi ((((wrs i fi).drop 5).take 4).drop 1)) (pa_cons (le_imp (t' := tEl K i fi ("shut", [])) (pe_tup (pa_cons pe_str (pa_cons (pe_tup pa_nil) pa_nil))) ?e7)
      (la_imp (t' := tEs K i fi ((((wrs i fi).drop 5).take 4).drop 2)) (pa_cons (le_imp (t' := tEl K i fi ("shut", [thD i, thD i])) (pe_tup (pa_cons pe_str (pa_cons (pe_tup (pa_cons (pv 4) (pa_cons (pv 4) pa_nil))) pa_nil))) ?e8)
      (la_imp (t' := tEs K i fi ((((wrs i fi).drop 5).take 4).drop 3)) (pa_cons (le_imp (t' := tEl K i fi ("shut", [thD fi])) (pe_tup (pa_cons pe_str (pa_cons (pe_tup (pa_cons (pv 3) pa_nil)) pa_nil))) ?e9)
      (la_imp (t' := tEs K i fi []) pa_nil tEs_nil)) tEs_cons)) tEs_cons)) tEs_cons)) tEs_cons))))
    (pss_cons (ps_set (i := 5) scLw.nd rfl (Or.inl rfl) (pe_op op_cat (pv 5) (pe_lst (la_imp (t' := tEs K i fi (((wrs i fi).drop 9).take 2)) (pa_cons (le_imp (t' := tEl K i fi ("throw", [thD i, noD])) (pe_tup (pa_cons pe_str (pa_cons (pe_tup (pa_cons (pv 4) (pa_cons (pe_tup (pa_cons pe_str pa_nil)) pa_nil))) pa_nil))) ?e10)
      (la_imp (t' := tEs K i fi ((((wrs i fi).drop 9).take 2).drop 1)) (pa_cons (le_imp (t' := tEl K i fi ("go", [.tup [.str "number", .int 1], thD i])) (pe_tup (pa_cons pe_str (pa_cons (pe_tup (pa_cons (pe_tup (pa_cons pe_str (pa_cons pe_int pa_nil))) (pa_cons (pv 4) pa_nil))) pa_nil))) ?e11)
      (la_imp (t' := tEs K i fi []) pa_nil tEs_nil)) tEs_cons)) tEs_cons))))
    (pss_cons (ps_expr (pe_bm PySem.F.plainAttrs_list PySem.F.slot_list_append PySem.F.type_list_append mt_append (pv 5) (pa_cons (pe_tup (pa_cons pe_str (pa_cons (pe_tup (pa_cons (pv 4) (pa_cons (L3.pe_def dK hr (by decide) rfl (pa_cons (pv 0) (pa_cons pe_str pa_nil))) pa_nil))) pa_nil))) pa_nil)))
    (pss_cons (ps_asg (pe_ix (r := rIxL K) ix_list (pv 5) (pe_op op_mod (pv 1) pe_int) (fun _ _ => rfl)) (pg_tup rfl (pgs_cons (pg_name (i := 6) scLw.nd rfl (Or.inl rfl)) (pgs_cons (pg_name (i := 7) scLw.nd rfl (Or.inl rfl)) pgs_nil))))
    (pss_one (ps_ret (pe_cmpR (op_eqD hr) (L3.pe_def dC hr (by decide) rfl (pa_cons (pv 0) (pa_cons (L3.pe_def dK hr (by decide) rfl (pa_cons (pv 0) (pa_cons (pv 6) pa_nil))) (pa_cons (pv 7) pa_nil)))) (pe_tup (pa_cons pe_str (pa_cons pe_str pa_nil))) (nomark _))))))))), ?main⟩
  case e1 | e7 =>
    rintro σ H Q ⟨gv, fv, e4, e3, hg, hf, q⟩
    exact ⟨Nat.zero_le _, fun p hp => ⟨by show 2 ≤ sizeLine; decide, fun p2 hp2 => q _ _ ((same_new hp _).trans (same_new hp2 _)) (At.new hp2 (AtAll2 (At_str.mpr rfl) (At.new hp (AtAll_nil.mpr rfl))))⟩⟩
  case e2 =>
    rintro σ H Q ⟨gv, fv, e4, e3, hg, hf, q⟩
    exact ⟨_, e4, _, e4, _, e4, by show 3 ≤ sizeLine; decide, fun p hp => ⟨by show 2 ≤ sizeLine; decide, fun p2 hp2 => q _ _ ((same_new hp _).trans (same_new hp2 _)) (At.new hp2 (AtAll2 (At_str.mpr rfl) (At.new hp (AtAll3 hg hg hg))))⟩⟩
  case e3 | e9 =>
    rintro σ H Q ⟨gv, fv, e4, e3, hg, hf, q⟩
    exact ⟨_, e3, by show 1 ≤ sizeLine; decide, fun p hp => ⟨by show 2 ≤ sizeLine; decide, fun p2 hp2 => q _ _ ((same_new hp _).trans (same_new hp2 _)) (At.new hp2 (AtAll2 (At_str.mpr rfl) (At.new hp (AtAll.one1 hf))))⟩⟩
  case e4 =>
    rintro σ H Q ⟨gv, fv, e4, e3, hg, hf, q⟩
    exact ⟨_, e4, by show 1 ≤ sizeLine; decide, fun p hp => ⟨by show 2 ≤ sizeLine; decide, fun p2 hp2 => q _ _ ((same_new hp _).trans (same_new hp2 _)) (At.new hp2 (AtAll2 (At_str.mpr rfl) (At.new hp (AtAll.one1 hg))))⟩⟩
  case e5 | e8 =>
    rintro σ H Q ⟨gv, fv, e4, e3, hg, hf, q⟩
    exact ⟨_, e4, _, e4, by show 2 ≤ sizeLine; decide, fun p hp => ⟨by show 2 ≤ sizeLine; decide, fun p2 hp2 => q _ _ ((same_new hp _).trans (same_new hp2 _)) (At.new hp2 (AtAll2 (At_str.mpr rfl) (At.new hp (AtAll2 hg hg))))⟩⟩
  case e6 =>
    rintro σ H Q ⟨gv, fv, e4, e3, hg, hf, q⟩
    exact ⟨_, e3, _, e3, by show 2 ≤ sizeLine; decide, fun p hp => ⟨by show 2 ≤ sizeLine; decide, fun p2 hp2 => q _ _ ((same_new hp _).trans (same_new hp2 _)) (At.new hp2 (AtAll2 (At_str.mpr rfl) (At.new hp (AtAll2 hf hf))))⟩⟩
  case e10 =>
    rintro σ H Q ⟨gv, fv, e4, e3, hg, hf, q⟩
    exact ⟨_, e4, by show 1 ≤ sizeLine; decide, fun p0 hp0 => ⟨by show 2 ≤ sizeLine; decide, fun p hp => ⟨by show 2 ≤ sizeLine; decide, fun p2 hp2 => q _ _ ((same_new hp0 _).trans ((same_new hp _).trans (same_new hp2 _))) (At.new hp2 (AtAll2 (At_str.mpr rfl) (At.new hp (AtAll2 (At.same (same_new hp0 _) _ _ hg) (At.new hp0 (AtAll.one1 (At_str.mpr rfl)))))))⟩⟩⟩
  case e11 =>
    rintro σ H Q ⟨gv, fv, e4, e3, hg, hf, q⟩
    exact ⟨by show 2 ≤ sizeLine; decide, fun p0 hp0 => ⟨_, e4, by show 2 ≤ sizeLine; decide, fun p hp => ⟨by show 2 ≤ sizeLine; decide, fun p2 hp2 => q _ _ ((same_new hp0 _).trans ((same_new hp _).trans (same_new hp2 _))) (At.new hp2 (AtAll2 (At_str.mpr rfl) (At.new hp (AtAll2 (At.new hp0 (AtAll2 (At_str.mpr rfl) (At_int.mpr rfl))) (At.same (same_new hp0 _) _ _ hg)))))⟩⟩⟩
  case main =>
    obtain ⟨vg, hgv, hAg⟩ := (hI.one hR).giver
    have ho := hI.osI hR
    refine ⟨_, rfl, d, _, rfl, hgv, ?_⟩
    refine ⟨vg, y, rfl, rfl, hAg, hy, fun vs1 H1 s1 a1 => ⟨?_, fun l1 hl1 => ?_⟩⟩
    · rw [a1.len]; exact small (by show 5 ≤ 1000000; decide)
    have s2 := same_new hl1 (.lst vs1)
    have b2 : upd H1 l1 (.lst vs1) l1 = some (.lst vs1) := upd_same
    revert s2 b2
    generalize upd H1 l1 (.lst vs1) = H2
    intro s2 b2
    have t2 := s1.trans s2
    refine ⟨_, rfl, vg, y, rfl, rfl, At.same t2 _ _ hAg, At.same t2 _ _ hy, fun vs2 H3 s3 a3 => ⟨?_, fun l2 hl2 => ?_⟩⟩
    · rw [a3.len]; exact small (by show 4 ≤ 1000000; decide)
    have s4 := same_new hl2 (.lst vs2)
    have b4 : upd H3 l2 (.lst vs2) l2 = some (.lst vs2) := upd_same
    revert s4 b4
    generalize upd H3 l2 (.lst vs2) = H4
    intro s4 b4
    have n1 : vs1.length = 5 := a1.len
    have n2 : vs2.length = 4 := a3.len
    refine ⟨l1, l2, vs1, vs2, rfl, rfl, s4 _ _ (s3 _ _ b2), b4, by rw [n1, n2]; exact small (by decide), fun l3 hl3 => ?_⟩
    have s5 := same_new hl3 (.lst (vs1 ++ vs2))
    have b5 : upd H4 l3 (.lst (vs1 ++ vs2)) l3 = some (.lst (vs1 ++ vs2)) := upd_same
    revert s5 b5
    generalize upd H4 l3 (.lst (vs1 ++ vs2)) = H5
    intro s5 b5
    have t35 := s3.trans (s4.trans s5)
    have t5 := t2.trans t35
    have a5 : AtAll K H5 (((wrs i fi).take 5).map prD ++ (((wrs i fi).drop 5).take 4).map prD) (vs1 ++ vs2) := AtAll.app (AtAll.same (s2.trans t35) _ _ a1) (AtAll.same (s4.trans s5) _ _ a3)
    refine ⟨_, rfl, vg, y, rfl, rfl, At.same t5 _ _ hAg, At.same t5 _ _ hy, fun vs3 H6 s6 a6 => ⟨?_, fun l4 hl4 => ?_⟩⟩
    · rw [a6.len]; exact small (by show 2 ≤ 1000000; decide)
    have s7 := same_new hl4 (.lst vs3)
    have b7 : upd H6 l4 (.lst vs3) l4 = some (.lst vs3) := upd_same
    revert s7 b7
    generalize upd H6 l4 (.lst vs3) = H7
    intro s7 b7
    have n3 : vs3.length = 2 := a6.len
    refine ⟨l3, l4, vs1 ++ vs2, vs3, rfl, rfl, s7 _ _ (s6 _ _ b5), b7, by rw [List.length_append, n1, n2, n3]; exact small (by decide), fun l5 hl5 => ?_⟩
    have s8 := same_new hl5 (.lst (vs1 ++ vs2 ++ vs3))
    have b8 : upd H7 l5 (.lst (vs1 ++ vs2 ++ vs3)) l5 = some (.lst (vs1 ++ vs2 ++ vs3)) := upd_same
    have ln5 : H l5 = none := (t5.trans (s6.trans s7)).free hl5
    revert s8 b8
    generalize upd H7 l5 (.lst (vs1 ++ vs2 ++ vs3)) = H8
    intro s8 b8
    have t68 := s6.trans (s7.trans s8)
    have t8 := t5.trans t68
    have a8 : AtAll K H8 (((wrs i fi).take 5).map prD ++ (((wrs i fi).drop 5).take 4).map prD ++ (((wrs i fi).drop 9).take 2).map prD) (vs1 ++ vs2 ++ vs3) := AtAll.app (AtAll.same t68 _ _ a5) (AtAll.same (s7.trans s8) _ _ a6)
    refine ⟨_, rfl, .inl ⟨rfl, _, SqL.of b8⟩, ?_⟩
    refine ⟨_, rfl, _, rfl, L.W, L.l, L.g, ps, os, gv0, "Fault", 9, rfl, hI.w.same t8, gv_fault, fun vk hvk => ⟨by show 2 ≤ sizeLine; decide, fun q1 hq1 => ⟨by show 2 ≤ sizeLine; decide, fun q2 hq2 => ?_⟩⟩⟩
    have s9 := (same_new hq1 (.tup [vg, vk])).trans (same_new hq2 (.tup [.str "throw", .ref q1]))
    have a9 : At K (upd (upd H8 q1 (.tup [vg, vk])) q2 (.tup [.str "throw", .ref q1])) (prD ("throw", [thD i, thD 9])) (.ref q2) := At.new hq2 (AtAll2 (At_str.mpr rfl) (At.new hq1 (AtAll2 (At.same t8 _ _ hAg) hvk)))
    revert s9 a9
    generalize upd (upd H8 q1 (.tup [vg, vk])) q2 (.tup [.str "throw", .ref q1]) = H9
    intro s9 a9
    have t9 := t8.trans s9
    have b9 := s9 _ _ b8
    refine ⟨l5, _, _, rfl, rfl, b9, small1000 (by rw [List.length_append, List.length_append, n1, n2, n3]; decide), ?_⟩
    have fx : Fx H9 (upd H9 l5 (.lst (vs1 ++ vs2 ++ vs3 ++ [.ref q2]))) := Fx.put b9 rfl
    have t10 : Same H (upd H9 l5 (.lst (vs1 ++ vs2 ++ vs3 ++ [.ref q2]))) := same_upd t9 ln5 _
    have a10 : AtAll K (upd H9 l5 (.lst (vs1 ++ vs2 ++ vs3 ++ [.ref q2]))) ((wrs i fi).map prD) (vs1 ++ vs2 ++ vs3 ++ [.ref q2]) := AtAll.app (AtAll.fx fx _ _ (AtAll.same s9 _ _ a8)) (AtAll.one1 (At.fx fx _ _ a9))
    have b10 : upd H9 l5 (.lst (vs1 ++ vs2 ++ vs3 ++ [.ref q2])) l5 = some (.lst (vs1 ++ vs2 ++ vs3 ++ [.ref q2])) := upd_same
    revert t10 a10 b10
    generalize upd H9 l5 (.lst (vs1 ++ vs2 ++ vs3 ++ [.ref q2])) = HA
    intro t10 a10 b10
    have k0 := Int.emod_nonneg n0 (b := 12) (by decide)
    have k1 := Int.emod_lt_of_pos n0 (b := 12) (by decide)
    obtain ⟨t, ht⟩ : ∃ t : Nat, n0 % 12 = (t : Nat) := ⟨(n0 % 12).toNat, by omega⟩
    have htl : t < (wrs i fi).length := by show t < 12; omega
    obtain ⟨v, hv, hvA⟩ := AtAll.get (i := t) a10 (d := prD (wrs i fi)[t]) (by rw [List.getElem?_map, List.getElem?_eq_getElem htl]; rfl)
    obtain ⟨k8, h81, h82, h83, h84⟩ := wr_ok ho hfi (by rw [hI.s.pre 9 (by decide)]; exact os_ok 1 (by decide)) _ (List.getElem_mem htl)
    revert hvA h81 h83 h84
    generalize (wrs i fi)[t] = wp
    obtain ⟨wn, wd⟩ := wp
    intro hvA h81 h83 h84
    obtain ⟨ap, avs, rfl, sqa, hAa⟩ := At_tup.mp hvA
    obtain ⟨u1, r1, rfl, hu1, hr1⟩ := AtAll_cons.mp hAa
    obtain ⟨u2, r2, rfl, hu2, hr2⟩ := AtAll_cons.mp hr1
    rw [AtAll_nil.mp hr2] at sqa
    rw [At_str.mp hu1] at sqa
    have h12 : rIxL K (.ref l5) (.int (n0 % 12)) HA (fun v' H' => v' = .ref ap ∧ H' = HA) := ⟨l5, _, _, .ref ap, rfl, rfl, SqL.of b10, by rw [ht]; exact atI_nat hv, rfl, rfl⟩
    refine ⟨_, rfl, _, rfl, _, _, rfl, rfl, (show (0 : Int) < _ by decide), l5, _, _, .ref ap, rfl, rfl, SqL.of b10, by rw [ht]; exact atI_nat hv, ap, _, rfl, sqa, rfl, _, _, rfl, _, _, rfl, rfl, ?_⟩
    have IA := hI.same t10
    refine ⟨_, rfl, _, rfl, _, rfl, L.W, L.l, L.g, ps, os, gv0, wn, k8, rfl, IA.w, h81, fun vf hvf => ⟨_, rfl, ?_⟩⟩
    refine ⟨L.W, L.l, L.g, ps, os, gv0, vf, u2, k8, wn, wd, kF, os, rfl, IA.w, hvf, ?_, hu2, h84, gv_fault, hl, fun fo HB psB cB wB aB => ?_⟩
    · rw [hI.s.fn k8 h82, h83]
    have IB := IA.chg cB wB hI.s
    refine ⟨by show 2 ≤ sizeLine; decide, fun p hp => ⟨kF, kF, At.same (same_new hp _) _ _ aB, At.new hp (AtAll2 (At_str.mpr rfl) (At_str.mpr rfl)), by decide +kernel, ?_⟩⟩
    rw [eqD_refl]
    exact q _ _ (IB.same (same_new hp _))
end
end GS
set_option Elab.async false
set_option linter.all false
set_option maxRecDepth 100000
set_option maxHeartbeats 4000000
namespace GS
open PySem PyProof.Rows
open L2 hiding pe_int pe_bl pe_non pe_str pv pe_glob pe_op pe_cmpR pe_one pe_and pe_ifExp pe_ix po_none po_some pe_slice pa_nil pa_cons pe_lst pe_tup pe_dnewK pe_callB pe_callTy pe_bm pt_cmpR pt_val pt_not pw_and1 pw_or1 pw_and pw_or pg_name pgs_nil pgs_cons pg_tup pi_list pi_tup pi_range1 ps_ret ps_expr ps_set ps_asg ps_if ps_for pss_nil pss_cons pss_one
open L3
abbrev sLg : Stmt := topd 69
theorem OneAt.same {K : PySem.W.Frag} {H H' : Hp} {d : Addr} {i : Nat} {r : Rec} (s : Same H H') (h : OneAt K H d i r) : OneAt K H' d i r := h.keep (by obtain ⟨kvs, _, e, _⟩ := h; rw [s _ _ e, e]) (Same.fx s)
def tV (K : PySem.W.Frag) : TE := fun σ H Q => ∃ n, σ[2]? = some (some (.int n)) ∧ ∀ d v H', PlD d → Same H H' → At K H' d v → Q v H'
def tDue (K : PySem.W.Frag) : TE := fun σ H Q => ∃ d i r, σ[1]? = some (some (.ref d)) ∧ OneAt K H d i r ∧ ∀ z H', Same H H' → At K H' (asR (some (.gr r.fr r.st r.m r.h)) (thD i)) z → Q z H'
def tVals (K : PySem.W.Frag) : TE := fun σ H Q => ∃ d i r y v n0, σ[1]? = some (some (.ref d)) ∧ σ[3]? = some (some y) ∧ σ[2]? = some (some (.int n0)) ∧ OneAt K H d i r ∧ At K H v y ∧ PlD v ∧ (∀ z H', Same H H' → At K H' (.tup [thD i, v]) z → Q z H') ∧ (eqD v noD = true → ∀ z H', Same H H' → At K H' (.tup [thD i]) z → Q z H')
def sAsk (K : PySem.W.Frag) (c : ClD) (L : Lw) (os : List Th) (ds : List Addr) (is : List Nat) (rs : List Rec) (ns : List Int) (n j i : Nat) (d : Addr) (r : Rec) : TS := fun D0 σ H => ∃ (ps : List Addr) (n0 : Int) (y : V) (v : D), σ = [some (.ref L.W), some (.ref d), some (.int n0), some y, none, none, none, none] ∧ LawI K c H L ps os ds is rs ns n ∧ Row ds is rs j d i r ∧ os.length ≤ 1000 ∧ PlD v ∧ At K H v y ∧
  ∀ ps' H' x5 x7 fo k rr, LawI K c H' L ps' os ds is rs ns n → At K H' (.tup (.str k :: rr)) fo → D0.nx [some (.ref L.W), some (.ref d), some (.int n0), some y, some fo, x5, some (.bl true), x7] H'
theorem asR_hd (o : Option Th) (g : D) : ∃ k rr, asR o g = .tup (.str k :: rr) ∧ (dep g ≤ 1 → dep (asR o g) ≤ 60) := by
  unfold asR
  split
  · exact ⟨_, _, rfl, fun _ => by decide +kernel⟩
  · split
    · exact ⟨_, _, rfl, fun _ => by decide +kernel⟩
    · exact ⟨_, _, rfl, fun h => Nat.le_trans (dep3 (n := 1) (dep_s _ _) h (by decide +kernel)) (by decide)⟩
theorem goR_hd (o : Option Th) (g v : D) : ∃ k rr, goR o g v = .tup (.str k :: rr) := by
  unfold goR
  split
  · exact ⟨_, _, rfl⟩
  · split
    · exact ⟨_, _, rfl⟩
    · split <;> exact ⟨_, _, rfl⟩
section
variable {P : Program} {w : World} {K : PySem.W.Frag} {mg : Str → Option Value} {base : Heap} {f : Addr} {fd : FuncData} {c : ClD}
def spLg (K : PySem.W.Frag) (c : ClD) : Sp := fun vs H Q _ => ∃ (L : Lw) (ps : List Addr) (os : List Th) (ds : List Addr) (is : List Nat) (rs : List Rec) (ns : List Int) (n j i : Nat) (d : Addr) (r : Rec) (n0 : Int), vs = [.ref L.W, .ref d, .int n0] ∧ LawI K c H L ps os ds is rs ns n ∧ Row ds is rs j d i r ∧ os.length ≤ 1000 ∧ ∀ H' ps' os' rs', LawI K c H' L ps' os' ds is rs' ns n → os'.length = os.length → Q (.bl true) H'
theorem scLg : FnScope ["_law_world", "_law_one", "_law_n", "_law_v", "_law_found", "_law_due", "_law_right", "_law_values"] ["_law_world", "_law_one", "_law_n"] (defScope sLg) := ⟨rfl, rfl, rfl, by decide +kernel, rfl, by decide +kernel, by decide +kernel⟩
theorem ok_Lg (F : Fun K "_law_goes_on" "_law_goes_on" sLg f fd) (dPl : Def P w K mg base "_law_plain" ["_law_n"] 1 (spPl K)) (dA : Def P w K mg base "asked" ["world", "g"] 4 (spAsk K c)) (dK : Def P w K mg base "known" ["world", "name"] 1 (spKn K c)) (dC : Def P w K mg base "called" ["world", "a", "values"] 7 (spCld K c)) (dGo : Def P w K mg base "_law_go" ["_law_world", "_law_one", "_law_v", "_law_found"] 1 (spLgo K)) (dLc : Def P w K mg base "_law_counted" ["_law_world", "_law_one"] 4 (spLc K c)) (dP : Def P w K mg base "set_state" ["world", "g", "state"] 2 (spStS K c)) : FnOk P w K mg base CX0 8 f fd ["_law_world", "_law_one", "_law_n"] (spLg K c) := by
  refine F.okI scLg (fun vs H Q E h => ?_) (fun cdv A outer s H vs Q E hr h => ?_)
  · obtain ⟨_, _, _, _, _, _, _, _, _, _, _, _, _, rfl, _⟩ := h; rfl
  obtain ⟨L, ps, os, ds, is, rs, ns, n, j, i, d, r, n0, rfl, hI, hR, hl, q⟩ := h
  refine ⟨_, pss_cons (ps_set (i := 3) scLg.nd rfl (Or.inl rfl) (le_imp (t' := tV K) (pe_ifExp (pt_cmpR op_eq (pe_op op_mod (pv 2) pe_int) pe_int (nomark _)) (L3.pe_def dPl hr (by decide) rfl (pa_cons (pe_op op_fdiv (pv 2) pe_int) pa_nil)) (pe_tup (pa_cons pe_str pa_nil))) ?v))
    (pss_cons (ps_imp (t' := sAsk K c L os ds is rs ns n j i d r) (ps_if (pt_cmpR op_eq (pe_op op_mod (pv 2) pe_int) pe_int (nomark _))
      (pss_cons (ps_set (i := 4) scLg.nd rfl (Or.inl rfl) (L3.pe_def dA hr (by decide) rfl (pa_cons (pv 0) (pa_cons (L3.pe_dget (hu_of hr) (pv 1) pe_str) pa_nil))))
      (pss_cons (ps_set (i := 5) scLg.nd rfl (Or.inl rfl) (le_imp (t' := tDue K) (L3.pe_dget2 (hu_of hr) (L3.pe_disp (L3.pps_cons pe_str (pe_tup (pa_cons pe_str (pa_cons pe_str pa_nil))) (L3.pps_cons pe_str (pe_tup (pa_cons pe_str pa_nil)) L3.pps_nil))) (L3.pe_dget (hu_of hr) (pv 1) pe_str) (pe_tup (pa_cons pe_str (pa_cons (L3.pe_dget (hu_of hr) (pv 1) pe_str) (pa_cons (pe_tup (pa_cons pe_str pa_nil)) pa_nil))))) ?due))
      (pss_one (ps_set (i := 6) scLg.nd rfl (Or.inl rfl) (pe_cmpR (op_eqD hr) (pv 4) (pv 5) (nomark _))))))
      (pss_cons (ps_set (i := 7) scLg.nd rfl (Or.inl rfl) (le_imp (t' := tVals K) (pe_ifExp (LW.pt (pw_or (pt_cmpR (op_neD hr) (pv 3) (pe_tup (pa_cons pe_str pa_nil)) (nomark _)) (pw_or1 (pt_cmpR op_eq (pe_op op_mod (pe_op op_fdiv (pv 2) pe_int) pe_int) pe_int (nomark _))))) (pe_tup (pa_cons (L3.pe_dget (hu_of hr) (pv 1) pe_str) (pa_cons (pv 3) pa_nil))) (pe_tup (pa_cons (L3.pe_dget (hu_of hr) (pv 1) pe_str) pa_nil))) ?vals))
      (pss_cons (ps_set (i := 4) scLg.nd rfl (Or.inl rfl) (L3.pe_def dC hr (by decide) rfl (pa_cons (pv 0) (pa_cons (L3.pe_def dK hr (by decide) rfl (pa_cons (pv 0) (pa_cons pe_str pa_nil))) (pa_cons (pv 7) pa_nil)))))
      (pss_one (ps_set (i := 6) scLg.nd rfl (Or.inl rfl) (L3.pe_def dGo hr (by decide) rfl (pa_cons (pv 0) (pa_cons (pv 1) (pa_cons (pv 3) (pa_cons (pv 4) pa_nil))))))))))
      ?ask)
    (pss_cons (ps_if (LW.pt (pw_and (pt_val (pv 6)) (pw_and (pt_cmpR op_eq (pe_nth (pv 4)) pe_str (nomark _)) (pw_and1 (pt_cmpR op_isN (L3.pe_dget (hu_of hr) (pv 1) pe_str) pe_non (nomark _)))))) (pss_one (ps_ret (L3.pe_def dLc hr (by decide) rfl (pa_cons (pv 0) (pa_cons (pv 1) pa_nil))))) pss_nil)
    (pss_cons (ps_if (LW.pt (pw_and (pt_val (pv 6)) (pw_and1 (pt_cmpR op_eq (pe_nth (pv 4)) pe_str (nomark _))))) (pss_cons (.mk (L2.ps_dput (hu_of hr) (LE.out (pv 1)) (LE.out pe_str) (LE.out (pe_ix (r := rIxL K) ix_list (pe_lst (pa_cons pe_str (pa_cons pe_str (pa_cons pe_str pa_nil)))) (pe_op op_mod (pe_op op_fdiv (pv 2) pe_int) pe_int) (fun _ _ => rfl))) rfl)) (pss_one (ps_expr (L3.pe_def dP hr (by decide) rfl (pa_cons (pv 0) (pa_cons (L3.pe_dget (hu_of hr) (pv 1) pe_str) (pa_cons (L3.pe_dget (hu_of hr) (pv 1) pe_str) pa_nil))))))) pss_nil)
    (pss_one (ps_ret (pv 6)))))), ?main⟩
  case v =>
    rintro σ H Q ⟨n0, e0, q⟩
    refine ⟨_, e0, _, _, rfl, rfl, (show (0 : Int) < _ by decide), rfl, _, rfl, ite_b9 (fun _ => ⟨_, e0, _, _, rfl, rfl, ⟨by decide, by decide⟩, _, rfl, fun d v H' p s a => q d v H' p s a⟩) (fun _ => ⟨by show 1 ≤ sizeLine; decide, fun p hp => q noD _ _ (.inr (.inr (.inr rfl))) (same_new hp _) (At.new hp (AtAll.one1 (At_str.mpr rfl)))⟩)⟩
  case due =>
    rintro σ H Q ⟨d, i, r, e1, hO, q⟩
    intro p hp
    refine ⟨by show 2 ≤ sizeLine; decide, fun t1 ht1 => ⟨by show 1 ≤ sizeLine; decide, fun t2 ht2 => ?_⟩⟩
    have s3a := (same_new ht1 (.tup [.str "fault", .str "KindFault"])).trans (same_new ht2 (.tup [.str "over"]))
    have x1 : At K (upd (upd (upd H p (.dK [])) t1 (.tup [.str "fault", .str "KindFault"])) t2 (.tup [.str "over"])) kF (.ref t1) := At.same (same_new ht2 _) _ _ (At.new ht1 (AtAll2 (At_str.mpr rfl) (At_str.mpr rfl)))
    have x2 : At K (upd (upd (upd H p (.dK [])) t1 (.tup [.str "fault", .str "KindFault"])) t2 (.tup [.str "over"])) (.tup [.str "over"]) (.ref t2) := At.new ht2 (AtAll.one1 (At_str.mpr rfl))
    revert s3a x1 x2
    generalize upd (upd (upd H p (.dK [])) t1 (.tup [.str "fault", .str "KindFault"])) t2 (.tup [.str "over"]) = H3
    intro s3a x1 x2
    have s3 : Same H H3 := (same_new hp _).trans s3a
    have p3 : H3 p = some (.dK []) := s3a _ _ upd_same
    refine ⟨p3, [(.inr "goes", .ref t1), (.inr "over", .ref t2)], rfl, by show 2 ≤ 15; decide, ?_⟩
    have ev : ∀ st : Str, valV (mergeK [] [(.inr "goes", .ref t1), (.inr "over", .ref t2)]) (.inr st : Key) = if st = "over" then some (.ref t2) else if st = "goes" then some (.ref t1) else none := fun st => by
      show valV (putK (putK [] (.inr "goes") (.ref t1)) (.inr "over") (.ref t2)) (.inr st : Key) = _
      rw [valV_put, valV_put]
      by_cases e1 : st = "over"
      · rw [if_pos (by rw [e1]), if_pos e1]
      · rw [if_neg (fun z => e1 (by injection z)), if_neg e1]
        by_cases e2 : st = "goes"
        · rw [if_pos (by rw [e2]), if_pos e2]
        · rw [if_neg (fun z => e2 (by injection z)), if_neg e2]; rfl
    generalize mergeK [] [((.inr "goes" : Key), V.ref t1), (.inr "over", .ref t2)] = kv at ev
    have f4 : Fx H3 (upd H3 p (.dK kv)) := Fx.put p3 rfl
    have s4 : Same H (upd H3 p (.dK kv)) := same_upd s3 hp _
    have p4 : upd H3 p (.dK kv) p = some (.dK kv) := upd_same
    revert f4 s4 p4
    generalize upd H3 p (.dK kv) = H4
    intro f4 s4 p4
    have hO4 := hO.same s4
    obtain ⟨vg, hgv, hAg⟩ := hO4.giver
    refine ⟨p, rfl, .inl ⟨kv, .inl p4⟩, _, e1, d, _, rfl, hO4.state, _, e1, d, vg, rfl, hgv, by show 1 ≤ sizeLine; decide, fun t3 ht3 => ⟨by show 3 ≤ sizeLine; decide, fun t4 ht4 => ?_⟩⟩
    have s5 := (same_new ht3 (.tup [.str "none"])).trans (same_new ht4 (.tup [.str "go", vg, .ref t3]))
    have x5 : At K (upd (upd H4 t3 (.tup [.str "none"])) t4 (.tup [.str "go", vg, .ref t3])) (.tup [.str "go", thD i, noD]) (.ref t4) := At.new ht4 (AtAll3 (At_str.mpr rfl) (At.same (same_new ht3 _) _ _ hAg) (At.new ht3 (AtAll.one1 (At_str.mpr rfl))))
    revert s5 x5
    generalize upd (upd H4 t3 (.tup [.str "none"])) t4 (.tup [.str "go", vg, .ref t3]) = H5
    intro s5 x5
    refine ⟨_, DGet.k (k := .inr r.st) (s5 _ _ p4), ?_⟩
    rw [ev]
    have q2 : ∀ z H', Same H H' → At K H' (match (if r.st = "goes" then none else some r.st) with | none => kF | some st => if st = "over" then .tup [.str "over"] else .tup [.str "go", thD i, noD]) z → Q z H' := q
    by_cases e2 : r.st = "over"
    · have e3 : ¬ r.st = "goes" := by rw [e2]; decide +kernel
      rw [if_neg e3] at q2
      have q3 : ∀ z H', Same H H' → At K H' (if r.st = "over" then .tup [.str "over"] else .tup [.str "go", thD i, noD]) z → Q z H' := q2
      rw [if_pos e2] at q3
      rw [if_pos e2]
      exact q3 _ _ (s4.trans s5) (At.same s5 _ _ (At.fx f4 _ _ x2))
    · rw [if_neg e2]
      by_cases e3 : r.st = "goes"
      · rw [if_pos e3] at q2
        rw [if_pos e3]
        exact q2 _ _ (s4.trans s5) (At.same s5 _ _ (At.fx f4 _ _ x1))
      · rw [if_neg e3] at q2
        have q3 : ∀ z H', Same H H' → At K H' (if r.st = "over" then .tup [.str "over"] else .tup [.str "go", thD i, noD]) z → Q z H' := q2
        rw [if_neg e2] at q3
        rw [if_neg e3]
        exact q3 _ _ (s4.trans s5) x5
  case vals =>
    rintro σ H Q ⟨d, i, r, y, v, n0, e1, e3, e2, hO, hy, hP, q1, q2⟩
    refine ⟨_, e3, by show 1 ≤ sizeLine; decide, fun p hp => ⟨v, noD, At.same (same_new hp _) _ _ hy, At.new hp (AtAll.one1 (At_str.mpr rfl)), Nat.le_trans hP.dep (by decide), _, rfl, ?_⟩⟩
    have s1 := same_new hp (.tup [.str "none"])
    revert s1
    generalize upd H p (.tup [.str "none"]) = H1
    intro s1
    have hO1 := hO.same s1
    obtain ⟨vg, hgv, hAg⟩ := hO1.giver
    have two : ∀ t, H1 t = none → Q (.ref t) (upd H1 t (.tup [vg, y])) := fun t ht => q1 _ _ (s1.trans (same_new ht _)) (At.new ht (AtAll2 hAg (At.same s1 _ _ hy)))
    cases ev : eqD v noD with
    | false => exact iteT (iteT ⟨_, e1, d, _, rfl, hgv, _, e3, by show 2 ≤ sizeLine; decide, two⟩)
    | true =>
      refine iteF ⟨_, e2, _, _, rfl, rfl, ⟨by decide, by decide⟩, _, _, rfl, rfl, (show (0 : Int) < _ by decide), rfl, _, rfl, ite_b9 (fun _ => ⟨_, e1, d, _, rfl, hgv, _, e3, by show 2 ≤ sizeLine; decide, two⟩) (fun _ => ⟨_, e1, d, _, rfl, hgv, by show 1 ≤ sizeLine; decide, fun t ht => q2 ev _ _ (s1.trans (same_new ht _)) (At.new ht (AtAll.one1 hAg))⟩)⟩
  case ask =>
    rintro D0 σ H ⟨ps, n0, y, v, rfl, hI, hR, hl, hP, hy, q⟩
    have ho := hI.osI hR
    refine ⟨_, rfl, _, _, rfl, rfl, (show (0 : Int) < _ by decide), rfl, _, rfl, ite_b9 (fun _ => ?_) (fun _ => ?_)⟩
    · obtain ⟨vg, hgv, hAg⟩ := (hI.one hR).giver
      refine ⟨_, rfl, _, rfl, d, _, rfl, hgv, L.W, L.l, L.g, ps, os, gv0, vg, thD i, rfl, hI.w, hAg, Vd.th (lt_of_some ho), fun fo H1 s1 a1 => ?_⟩
      rw [thO_th, ho] at a1
      have I1 := hI.same s1
      refine ⟨d, i, r, rfl, I1.one hR, fun z H2 s2 a2 => ?_⟩
      obtain ⟨k, rr, e, dp⟩ := asR_hd (some (.gr r.fr r.st r.m r.h)) (thD i)
      refine ⟨_, rfl, _, rfl, _, _, At.same s2 _ _ a1, a2, dp (by rw [dep_th]; exact Nat.le_refl _), ?_⟩
      rw [eqD_refl]
      exact q ps H2 _ _ fo k rr (I1.same s2) (by rw [← e]; exact At.same s2 _ _ a1)
    · refine ⟨d, i, r, y, v, n0, rfl, rfl, rfl, hI.one hR, hy, hP, fun z H1 s1 a1 => ?_, fun ev z H1 s1 a1 => ?_⟩
      · have I1 := hI.same s1
        refine ⟨_, rfl, _, rfl, L.W, L.l, L.g, ps, os, gv0, "go", 5, rfl, I1.w, gv_go, fun vk hvk => ⟨_, rfl, ?_⟩⟩
        refine ⟨L.W, L.l, L.g, ps, os, gv0, vk, z, 5, "go", _, _, _, rfl, I1.w, hvk, hI.s.fn 5 (by decide), a1, (CalN.go2 (thD i) v (Vd.th (lt_of_some ho)) (Nat.le_trans hP.dep (by decide))).cal, gv_fault, hl, fun fo H2 ps2 c2 w2 a2 => ?_⟩
        rw [thO_th, ho] at a2
        have I2 := I1.chg c2 w2 hI.s
        refine ⟨_, rfl, _, rfl, _, rfl, _, rfl, .ref L.W, y, fo, d, i, r, v, rfl, I2.one hR, At.fx (c2.fx I1.w.t) _ _ (At.same s1 _ _ hy), hP, a2, fun H3 s3 => ?_⟩
        obtain ⟨k, rr, e⟩ := goR_hd (some (.gr r.fr r.st r.m r.h)) (thD i) v
        exact q ps2 H3 _ _ fo k rr (I2.same s3) (by rw [← e]; exact At.same s3 _ _ a2)
      · have I1 := hI.same s1
        have ev' := hP.none ev
        subst ev'
        refine ⟨_, rfl, _, rfl, L.W, L.l, L.g, ps, os, gv0, "go", 5, rfl, I1.w, gv_go, fun vk hvk => ⟨_, rfl, ?_⟩⟩
        refine ⟨L.W, L.l, L.g, ps, os, gv0, vk, z, 5, "go", _, _, _, rfl, I1.w, hvk, hI.s.fn 5 (by decide), a1, (CalN.go1 (thD i) (Vd.th (lt_of_some ho))).cal, gv_fault, hl, fun fo H2 ps2 c2 w2 a2 => ?_⟩
        rw [thO_th, ho] at a2
        have I2 := I1.chg c2 w2 hI.s
        refine ⟨_, rfl, _, rfl, _, rfl, _, rfl, .ref L.W, y, fo, d, i, r, noD, rfl, I2.one hR, At.fx (c2.fx I1.w.t) _ _ (At.same s1 _ _ hy), hP, a2, fun H3 s3 => ?_⟩
        obtain ⟨k, rr, e⟩ := goR_hd (some (.gr r.fr r.st r.m r.h)) (thD i) noD
        exact q ps2 H3 _ _ fo k rr (I2.same s3) (by rw [← e]; exact At.same s3 _ _ a2)
  case main =>
    refine ⟨n0, rfl, fun v y H1 hP s1 a1 => ?_⟩
    refine ⟨ps, n0, y, v, rfl, hI.same s1, hR, hl, hP, a1, fun ps2 H2 x5 x7 fo k rr I2 a2 => ?_⟩
    have o2 := I2.one hR
    have ho := hI.osI hR
    have gne : d ≠ L.g := hI.t.gd d (List.mem_of_getElem? hR.d)
    have last : (tSeq (tIfS (tAnd (tB (tVar 6)) (tTest (tOp rEq (tOp (rNth K) (tVar 4) (tC (.int 0))) (tC (.str "go"))))) (tSeq (sDPut (tVar 1) (tC (.str "state")) (tOp (rIxL K) (tLst (tCons (tC (.str "goes")) (tCons (tC (.str "waits")) (tCons (tC (.str "over")) tNil)))) (tOp (rI (fun _ j => 0 < j) fun i j => .int (i % j)) (tOp (rI CDiv fun i j => .int (i / j)) (tVar 2) (tC (.int 16))) (tC (.int 3))))) (tDrop (tCall (spStS K c) [] E0 (tCons (tVar 0) (tCons (tDGet (tVar 1) (tC (.str "giver"))) (tCons (tDGet (tVar 1) (tC (.str "state"))) tNil)))))) tNext) (tRet (tVar 6))) { nx := fun _ H' => Q .non H', rt := Q } [some (.ref L.W), some (.ref d), some (.int n0), some y, some fo, x5, some (.bl true), x7] H2 := by
      refine ⟨_, rfl, true, rfl, iteT ⟨_, rfl, 0, _, _, rfl, a2, rfl, fun y0 h0 => ?_⟩⟩
      rw [At_str.mp h0]
      refine ⟨rfl, _, rfl, ite_b9 (fun _ => ?_) (fun _ => ⟨_, rfl, q _ _ _ _ I2 rfl⟩)⟩
      refine ⟨by show 3 ≤ sizeLine; decide, fun lp hlp => ?_⟩
      have s3 := same_new hlp (.lst [.str "goes", .str "waits", .str "over"])
      have b3 : upd H2 lp (.lst [.str "goes", .str "waits", .str "over"]) lp = some (.lst [.str "goes", .str "waits", .str "over"]) := upd_same
      revert s3 b3
      generalize upd H2 lp (.lst [.str "goes", .str "waits", .str "over"]) = H3
      intro s3 b3
      have I3 := I2.same s3
      have k0 := Int.emod_nonneg (n0 / 16) (b := 3) (by decide)
      have k1 := Int.emod_lt_of_pos (n0 / 16) (b := 3) (by decide)
      obtain ⟨sv, hsv, hat⟩ := atI_mem9 (xs := [V.str "goes", .str "waits", .str "over"]) k0 k1
      obtain ⟨st', rfl⟩ : ∃ st', sv = .str st' := by
        simp at hsv
        rcases hsv with rfl | rfl | rfl <;> exact ⟨_, rfl⟩
      obtain ⟨kvs, hd, hk, t4⟩ := I3.t.st hR st'
      refine ⟨_, rfl, _, _, rfl, rfl, ⟨by decide, by decide⟩, _, _, rfl, rfl, (show (0 : Int) < _ by decide), lp, _, _, _, rfl, rfl, SqL.of b3, hat, _, rfl, d, _, rfl, DPut.k (k := .inr "state") hd hk, ?_⟩
      have w4 := I3.w.dict (o := .dK (putK kvs (.inr "state") (.str st'))) hd (Ne.symm gne)
      revert t4 w4
      generalize upd H3 d (.dK (putK kvs (.inr "state") (.str st'))) = H4
      intro t4 w4
      have R4 := hR.set (r' := ⟨r.fr, st', r.m, r.h⟩)
      have o4 := (t4.t j d i _ R4.d R4.i R4.r).1
      obtain ⟨vg, hgv, hAg⟩ := o4.giver
      refine ⟨_, rfl, _, rfl, d, _, rfl, hgv, _, rfl, d, _, rfl, o4.state, L.W, L.l, L.g, ps2, os, gv0, vg, i, r.fr, r.st, st', r.m, r.h, rfl, w4, hAg, ho, fun H5 c5 w5 => ⟨_, rfl, ?_⟩⟩
      exact q _ _ _ _ ⟨w5, t4.chg c5 w4.t, hI.s.put (r' := ⟨r.fr, st', r.m, r.h⟩) hR.i hR.r⟩ List.length_set
    refine ⟨_, rfl, true, rfl, iteT ⟨_, rfl, 0, _, _, rfl, a2, rfl, fun y0 h0 => ?_⟩⟩
    rw [At_str.mp h0]
    refine ⟨rfl, _, rfl, ite_b9 (fun _ => ?_) (fun _ => iteF last)⟩
    refine ⟨_, rfl, d, _, rfl, o2.frame, rfl, _, rfl, ?_⟩
    by_cases e : r.fr = .non
    · rw [decide_eq_true e]
      refine iteT ⟨_, rfl, _, rfl, L, ps2, os, ds, is, rs, ns, n, j, i, d, r, rfl, I2, hR, e, fun H5 os5 rs5 I5 l5 => q _ _ _ _ I5 l5⟩
    · rw [decide_eq_false e]
      exact iteF last
end
end GS
set_option Elab.async false
set_option linter.all false
set_option maxRecDepth 100000
set_option maxHeartbeats 4000000
namespace GS
open PySem PyProof.Rows
open L2 hiding pe_int pe_bl pe_non pe_str pv pe_glob pe_op pe_cmpR pe_one pe_and pe_ifExp pe_ix po_none po_some pe_slice pa_nil pa_cons pe_lst pe_tup pe_dnewK pe_callB pe_callTy pe_bm pt_cmpR pt_val pt_not pw_and1 pw_or1 pw_and pw_or pg_name pgs_nil pgs_cons pg_tup pi_list pi_tup pi_range1 ps_ret ps_expr ps_set ps_asg ps_if ps_for pss_nil pss_cons pss_one
open L3
abbrev sLd : Stmt := topd 72
theorem WAt.but {K : PySem.W.Frag} {c : ClD} {H H' : Hp} {W l g b : Addr} {ps : List Addr} {os : List Th} {gv : List (Str × Nat)} {xs : List V} (h : WAt K c H W l g ps os gv) (B : But9 b H H') (hb : H b = some (.lst xs)) (ne : l ≠ b) : WAt K c H' W l g ps os gv := by
  obtain ⟨⟨dx, a, b', h1⟩, h2, h3, h4, h5, h6, kvs, h7, h8, h9⟩ := h
  have f : Fx H H' := B.fx hb rfl
  refine ⟨⟨dx, a, b', B _ _ (fun y => by rw [y, hb] at h1; cases h1) h1⟩, B _ _ ne h2, h3, h4, fun i p o e1 e2 => ?_, h6, kvs, B _ _ (fun y => by rw [y, hb] at h7; cases h7) h7, h8, fun n i e => let ⟨v, a, b⟩ := h9 n i e; ⟨v, a, At.fx f _ _ b⟩⟩
  have := h5 i p o e1 e2
  obtain ⟨C, dx, fs, e⟩ := this.ins
  exact this.keep (by rw [B _ _ (fun y => by rw [y, hb] at e; cases e) e, e]) f
theorem LawI.cell {K : PySem.W.Frag} {c : ClD} {H H' : Hp} {L : Lw} {ps : List Addr} {os : List Th} {ds : List Addr} {is : List Nat} {rs : List Rec} {ns : List Int} {n n' : Nat} (h : LawI K c H L ps os ds is rs ns n) (B : But9 L.b H H') (hb : H' L.b = some (.lst [.int (n' : Nat)])) : LawI K c H' L ps os ds is rs ns n' := ⟨h.w.but B h.t.b (Ne.symm h.t.s4), h.t.spot B hb, h.s⟩
theorem TabI.spot9 {K : PySem.W.Frag} {H : Hp} {L : Lw} {ds : List Addr} {is : List Nat} {rs : List Rec} {ns : List Int} {n : Nat} (t : TabI K H L ds is rs ns n) : Spot9 K H L.a L.b n := ⟨t.ce, t.s2.2, t.b⟩
theorem fc_ok : isFC os0[9]? = true ∧ isFC os0[16]? = true ∧ isFC os0[17]? = true := by decide +kernel
theorem gv_end : (("EndFault" : Str), 16) ∈ gv0 := by decide +kernel
theorem gv_sht : (("ShutFault" : Str), 17) ∈ gv0 := by decide +kernel
theorem TabI.row {K : PySem.W.Frag} {H : Hp} {L : Lw} {ds : List Addr} {is : List Nat} {rs : List Rec} {ns : List Int} {n j : Nat} (t : TabI K H L ds is rs ns n) (h : j < ds.length) : ∃ d i r, Row ds is rs j d i r := by
  have h1 : j < is.length := by rw [← t.n1]; exact h
  have h2 : j < rs.length := by rw [t.n2]; exact h1
  exact ⟨_, _, _, List.getElem?_eq_getElem h, List.getElem?_eq_getElem h1, List.getElem?_eq_getElem h2⟩
section
variable {P : Program} {w : World} {K : PySem.W.Frag} {mg : Str → Option Value} {base : Heap} {f : Addr} {fd : FuncData} {c : ClD}
def spLd (K : PySem.W.Frag) (c : ClD) : Sp := fun vs H Q _ => ∃ (L : Lw) (ps : List Addr) (os : List Th) (ds : List Addr) (is : List Nat) (rs : List Rec) (ns : List Int) (n : Nat), vs = [.ref L.W, .ref L.gl, .ref L.a, .ref L.b] ∧ LawI K c H L ps os ds is rs ns n ∧ n ≤ 1000 ∧ 0 < ds.length ∧ os.length ≤ 900 ∧ ∀ H' ps' os' rs', LawI K c H' L ps' os' ds is rs' ns (n + 1) → os'.length = os.length + 1 → Q (.bl true) H'
theorem scLd : FnScope ["_law_world", "_law_givers", "_law_cells", "_law_spot", "_law_n", "_law_one", "_law_more", "_law_fault"] ["_law_world", "_law_givers", "_law_cells", "_law_spot"] (defScope sLd) := ⟨rfl, rfl, rfl, by decide +kernel, rfl, by decide +kernel, by decide +kernel⟩
theorem ok_Ld (g : Glb9 mg) (F : Fun K "_law_deed" "_law_deed" sLd f fd) (dCe : Def P w K mg base "_law_cell" ["_law_cells", "_law_spot"] 1 (spCell9 K)) (dM : DefN P w K mg base "made" ["world", "name", "word"] 5 (spMade K c)) (dLg : Def P w K mg base "_law_goes_on" ["_law_world", "_law_one", "_law_n"] 8 (spLg K c)) (dLt : Def P w K mg base "_law_thrown" ["_law_world", "_law_one", "_law_fault"] 8 (spLt K c)) (dLs : Def P w K mg base "_law_shut" ["_law_world", "_law_one"] 8 (spLs K c)) (dLw : Def P w K mg base "_law_wrong" ["_law_world", "_law_n", "_law_one", "_law_fault"] 8 (spLw K c)) (dP : Def P w K mg base "set_state" ["world", "g", "state"] 2 (spStS K c)) (dG : Def P w K mg base "is_giver" ["world", "a"] 2 (spIs K c false false false true)) (dPl : Def P w K mg base "_law_plain" ["_law_n"] 1 (spPl K)) : FnOk P w K mg base CX0 9 f fd ["_law_world", "_law_givers", "_law_cells", "_law_spot"] (spLd K c) := by
  refine F.okI scLd (fun vs H Q E h => ?_) (fun cdv A outer s H vs Q E hr h => ?_)
  · obtain ⟨_, _, _, _, _, _, _, _, rfl, _⟩ := h; rfl
  obtain ⟨L, ps, os, ds, is, rs, ns, n, rfl, hI, hn, hds, hl, q⟩ := h
  refine ⟨_, pss_cons (ps_set (i := 4) scLd.nd rfl (Or.inl rfl) (L3.pe_def dCe hr (by decide) rfl (pa_cons (pv 2) (pa_cons (pv 3) pa_nil))))
    (pss_cons (ps_set (i := 5) scLd.nd rfl (Or.inl rfl) (pe_ix (r := rIxL K) ix_list (pv 1) (pe_op op_mod (pv 4) (pe_callB call_len_seq rfl g.nLen b9Len (pa_cons (pv 1) pa_nil))) (fun _ _ => rfl)))
    (pss_cons (ps_set (i := 6) scLd.nd rfl (Or.inl rfl) (pe_op op_fdiv (pv 4) pe_int))
    (pss_cons (ps_set (i := 7) scLd.nd rfl (Or.inl rfl) (pe_defN dM hr (by decide) rfl (pa_cons (pv 0) (pa_cons (pe_ix (r := rIxL K) ix_list (pe_lst (pa_cons pe_str (pa_cons pe_str (pa_cons pe_str pa_nil)))) (pe_op op_mod (pv 6) pe_int) (fun _ _ => rfl)) pa_nil))))
    (pss_cons (ps_if (pt_cmpR op_lt (pe_op op_mod (pv 6) pe_int) pe_int (nomark _)) (pss_one (ps_ret (L3.pe_def dLg hr (by decide) rfl (pa_cons (pv 0) (pa_cons (pv 5) (pa_cons (pe_op op_fdiv (pv 6) pe_int) pa_nil)))))) pss_nil)
    (pss_cons (ps_if (pt_cmpR op_eq (pe_op op_mod (pv 6) pe_int) pe_int (nomark _)) (pss_one (ps_ret (L3.pe_def dLt hr (by decide) rfl (pa_cons (pv 0) (pa_cons (pv 5) (pa_cons (pv 7) pa_nil)))))) pss_nil)
    (pss_cons (ps_if (pt_cmpR op_eq (pe_op op_mod (pv 6) pe_int) pe_int (nomark _)) (pss_one (ps_ret (L3.pe_def dLs hr (by decide) rfl (pa_cons (pv 0) (pa_cons (pv 5) pa_nil))))) pss_nil)
    (pss_cons (ps_if (pt_cmpR op_eq (pe_op op_mod (pv 6) pe_int) pe_int (nomark _)) (pss_one (ps_ret (L3.pe_def dLw hr (by decide) rfl (pa_cons (pv 0) (pa_cons (pe_op op_fdiv (pv 6) pe_int) (pa_cons (pv 5) (pa_cons (pv 7) pa_nil))))))) pss_nil)
    (pss_cons (.mk (L2.ps_dput (hu_of hr) (LE.out (pv 5)) (LE.out pe_str) (LE.out (pe_ix (r := rIxL K) ix_list (pe_lst (pa_cons pe_str (pa_cons pe_str (pa_cons pe_str (pa_cons pe_str pa_nil))))) (pe_op op_mod (pe_op op_fdiv (pv 6) pe_int) pe_int) (fun _ _ => rfl))) rfl))
    (pss_cons (ps_expr (L3.pe_def dP hr (by decide) rfl (pa_cons (pv 0) (pa_cons (L3.pe_dget (hu_of hr) (pv 5) pe_str) (pa_cons (L3.pe_dget (hu_of hr) (pv 5) pe_str) pa_nil)))))
    (pss_one (ps_ret (pe_and (.mk (L2.pe_not (LE.out (L3.pe_def dG hr (by decide) rfl (pa_cons (pv 0) (pa_cons (pv 7) pa_nil)))))) (pe_one (.mk (L2.pe_not (LE.out (L3.pe_def dG hr (by decide) rfl (pa_cons (pv 0) (pa_cons (L3.pe_def dPl hr (by decide) rfl (pa_cons (pv 6) pa_nil)) pa_nil))))))))))))))))))), ?_⟩
  refine ⟨_, rfl, _, rfl, L.a, L.b, n, rfl, hI.t.spot9, by omega, fun n0 H1 h0 h1 B1 b1 => ?_⟩
  have I1 := hI.cell B1 b1
  have dl : (ds.map V.ref).length = ds.length := List.length_map ..
  have k0 := Int.emod_nonneg n0 (b := ((ds.map V.ref).length : Nat)) (by omega)
  have k1 := Int.emod_lt_of_pos n0 (b := ((ds.map V.ref).length : Nat)) (by omega)
  obtain ⟨j, hj⟩ : ∃ j : Nat, n0 % ((ds.map V.ref).length : Nat) = (j : Nat) := ⟨(n0 % ((ds.map V.ref).length : Nat)).toNat, by omega⟩
  obtain ⟨d, i, r, hR⟩ := I1.t.row (j := j) (by omega)
  refine ⟨_, rfl, _, rfl, _, rfl, L.gl, _, rfl, .inl (SqL.of I1.t.gl), _, _, rfl, rfl, by show (0 : Int) < ((ds.map V.ref).length : Nat); omega, L.gl, _, _, .ref d, rfl, rfl, SqL.of I1.t.gl, ?_, ?_⟩
  · rw [hj]
    exact atI_nat (by rw [List.getElem?_map, hR.d]; rfl)
  refine ⟨_, rfl, _, _, rfl, rfl, ⟨by decide, by decide⟩, ?_⟩
  refine ⟨_, rfl, by show 3 ≤ sizeLine; decide, fun lp hlp => ?_⟩
  have s2 := same_new hlp (.lst [.str "Fault", .str "EndFault", .str "ShutFault"])
  have b2 : upd H1 lp (.lst [.str "Fault", .str "EndFault", .str "ShutFault"]) lp = some (.lst [.str "Fault", .str "EndFault", .str "ShutFault"]) := upd_same
  revert s2 b2
  generalize upd H1 lp (.lst [.str "Fault", .str "EndFault", .str "ShutFault"]) = H2
  intro s2 b2
  have I2 := I1.same s2
  have m0n := Int.emod_nonneg (n0 / 5) (b := 3) (by decide)
  have m1n := Int.emod_lt_of_pos (n0 / 5) (b := 3) (by decide)
  obtain ⟨sv, hsv, hat⟩ := atI_mem9 (xs := [V.str "Fault", .str "EndFault", .str "ShutFault"]) m0n m1n
  obtain ⟨fn, kf, rfl, hkf, hfc⟩ : ∃ fn kf, sv = .str fn ∧ (fn, kf) ∈ gv0 ∧ isFC os[kf]? = true := by
    simp at hsv
    rcases hsv with rfl | rfl | rfl
    · exact ⟨_, 9, rfl, gv_fault, by rw [hI.s.pre 9 (by decide)]; exact fc_ok.1⟩
    · exact ⟨_, 16, rfl, gv_end, by rw [hI.s.pre 16 (by decide)]; exact fc_ok.2.1⟩
    · exact ⟨_, 17, rfl, gv_sht, by rw [hI.s.pre 17 (by decide)]; exact fc_ok.2.2⟩
  refine ⟨_, rfl, _, _, rfl, rfl, (show (0 : Int) < _ by decide), lp, _, _, _, rfl, rfl, SqL.of b2, hat, L.W, L.l, L.g, ps, os, gv0, fn, kf, rfl, I2.w, hkf, hfc, gv_fault, by omega, fun fv H3 p3 B3 w3 a3 => ?_⟩
  have I3 : LawI K c H3 L (ps ++ [p3]) (os ++ [.ob kf]) ds is rs ns (n + 1) := I2.chg (But9.chg B3) w3 (hI.s.add _)
  have l3 : (os ++ [Th.ob kf]).length = os.length + 1 := by rw [List.length_append]; rfl
  have f3 : (os ++ [Th.ob kf])[os.length]? = some (.ob kf) := snoc_last
  have F3 : isF (os ++ [.ob kf]) (os ++ [Th.ob kf])[os.length]? = true := by
    rw [f3]
    show isFC (os ++ [Th.ob kf])[kf]? = true
    cases e : os[kf]? with
    | none => rw [e] at hfc; cases hfc
    | some o => rw [snoc_old e, ← e]; exact hfc
  revert I3 l3 f3 F3
  generalize os ++ [Th.ob kf] = os3
  intro I3 l3 f3 F3
  have hl3 : os3.length ≤ 1000 := by omega
  refine ⟨_, rfl, _, _, rfl, rfl, (show (0 : Int) < _ by decide), _, _, rfl, rfl, _, rfl, ite_b9 (fun _ => ?_) (fun _ => ?_)⟩
  · exact ⟨_, rfl, _, rfl, _, rfl, _, _, rfl, rfl, ⟨by decide, by decide⟩, L, _, os3, ds, is, rs, ns, n + 1, j, i, d, r, _, rfl, I3, hR, hl3, fun H4 ps4 os4 rs4 I4 l4 => q _ _ _ _ I4 (l4.trans l3)⟩
  refine ⟨_, rfl, _, _, rfl, rfl, (show (0 : Int) < _ by decide), rfl, _, rfl, ite_b9 (fun _ => ?_) (fun _ => ?_)⟩
  · exact ⟨_, rfl, _, rfl, _, rfl, L, _, os3, ds, is, rs, ns, n + 1, j, i, os.length, d, r, fv, rfl, I3, hR, a3, lt_of_some f3, F3, hl3, fun H4 ps4 I4 => q _ _ _ _ I4 l3⟩
  refine ⟨_, rfl, _, _, rfl, rfl, (show (0 : Int) < _ by decide), rfl, _, rfl, ite_b9 (fun _ => ?_) (fun _ => ?_)⟩
  · exact ⟨_, rfl, _, rfl, L, _, os3, ds, is, rs, ns, n + 1, j, i, d, r, rfl, I3, hR, hl3, fun H4 ps4 os4 rs4 I4 l4 => q _ _ _ _ I4 (l4.trans l3)⟩
  refine ⟨_, rfl, _, _, rfl, rfl, (show (0 : Int) < _ by decide), rfl, _, rfl, ite_b9 (fun _ => ?_) (fun _ => ?_)⟩
  · exact ⟨_, rfl, _, rfl, _, _, rfl, rfl, ⟨by decide, by decide⟩, _, rfl, _, rfl, L, _, os3, ds, is, rs, ns, n + 1, j, i, os.length, kf, d, r, fv, _, rfl, I3, hR, a3, f3, hl3, fun H4 ps4 I4 => q _ _ _ _ I4 l3⟩
  refine ⟨by show 4 ≤ sizeLine; decide, fun lq hlq => ?_⟩
  have s4 := same_new hlq (.lst [.str "new", .str "waits", .str "goes", .str "over"])
  have b4 : upd H3 lq (.lst [.str "new", .str "waits", .str "goes", .str "over"]) lq = some (.lst [.str "new", .str "waits", .str "goes", .str "over"]) := upd_same
  revert s4 b4
  generalize upd H3 lq (.lst [.str "new", .str "waits", .str "goes", .str "over"]) = H4
  intro s4 b4
  have I4 := I3.same s4
  have u0 := Int.emod_nonneg ((n0 / 5) / 7) (b := 4) (by decide)
  have u1 := Int.emod_lt_of_pos ((n0 / 5) / 7) (b := 4) (by decide)
  obtain ⟨sv, hsv, hat⟩ := atI_mem9 (xs := [V.str "new", .str "waits", .str "goes", .str "over"]) u0 u1
  obtain ⟨st', rfl⟩ : ∃ st', sv = .str st' := by
    simp at hsv
    rcases hsv with rfl | rfl | rfl | rfl <;> exact ⟨_, rfl⟩
  obtain ⟨kvs, hd, hk, t5⟩ := I4.t.st hR st'
  have gne : d ≠ L.g := hI.t.gd d (List.mem_of_getElem? hR.d)
  refine ⟨_, rfl, _, _, rfl, rfl, ⟨by decide, by decide⟩, _, _, rfl, rfl, (show (0 : Int) < _ by decide), lq, _, _, _, rfl, rfl, SqL.of b4, hat, _, rfl, d, _, rfl, DPut.k (k := .inr "state") hd hk, ?_⟩
  have w5 := I4.w.dict (o := .dK (putK kvs (.inr "state") (.str st'))) hd (Ne.symm gne)
  have a5 := At.fx (Fx.put (o' := .dK (putK kvs (.inr "state") (.str st'))) hd rfl) _ _ (At.same s4 _ _ a3)
  revert t5 w5 a5
  generalize upd H4 d (.dK (putK kvs (.inr "state") (.str st'))) = H5
  intro t5 w5 a5
  have R5 := hR.set (r' := ⟨r.fr, st', r.m, r.h⟩)
  have o5 := (t5.t j d i _ R5.d R5.i R5.r).1
  obtain ⟨vg, hgv, hAg⟩ := o5.giver
  refine ⟨_, rfl, _, rfl, d, _, rfl, hgv, _, rfl, d, _, rfl, o5.state, L.W, L.l, L.g, _, os3, gv0, vg, i, r.fr, r.st, st', r.m, r.h, rfl, w5, hAg, I3.osI hR, fun H6 c6 w6 => ?_⟩
  have I6 : LawI K c H6 L _ _ ds is _ ns (n + 1) := ⟨w6, t5.chg c6 w5.t, I3.s.put (r' := ⟨r.fr, st', r.m, r.h⟩) hR.i hR.r⟩
  have nf : os.length ≠ i := fun e => by rw [e, I3.osI hR] at f3; cases f3
  have f6 : (os3.set i (.gr r.fr st' r.m r.h))[os.length]? = some (.ob kf) := by rw [List.getElem?_set_ne (Ne.symm nf)]; exact f3
  refine ⟨_, rfl, _, rfl, L.W, L.l, L.g, _, _, gv0, fv, thD os.length, rfl, w6, At.fx (c6.fx w5.t) _ _ a5, Vd.th (lt_of_some f6), _, rfl, ?_⟩
  rw [thO_th, f6]
  refine ⟨true, rfl, iteT ⟨_, rfl, _, rfl, _, rfl, fun dd v H7 hP s7 a7 => ?_⟩⟩
  have I7 := I6.same s7
  refine ⟨L.W, L.l, L.g, _, _, gv0, v, dd, rfl, I7.w, a7, (hP.vd _).1, _, rfl, ?_⟩
  rw [(hP.vd _).2]
  exact q _ _ _ _ I7 (List.length_set.trans l3)
end
end GS
set_option Elab.async false
set_option linter.all false
set_option maxRecDepth 100000
set_option maxHeartbeats 4000000
namespace GS
open PySem PyProof.Rows
open L2 hiding pe_int pe_bl pe_non pe_str pv pe_glob pe_op pe_cmpR pe_one pe_and pe_ifExp pe_ix po_none po_some pe_slice pa_nil pa_cons pe_lst pe_tup pe_dnewK pe_callB pe_callTy pe_bm pt_cmpR pt_val pt_not pw_and1 pw_or1 pw_and pw_or pg_name pgs_nil pgs_cons pg_tup pi_list pi_tup pi_range1 ps_ret ps_expr ps_set ps_asg ps_if ps_for pss_nil pss_cons pss_one
open L3
abbrev sFar : Stmt := topd 73
theorem set_last {α : Type} (xs : List α) (x y : α) : (xs ++ [x]).set xs.length y = xs ++ [y] := by
  rw [List.set_append_right _ _ (Nat.le_refl _), Nat.sub_self]; rfl
section
variable {P : Program} {w : World} {K : PySem.W.Frag} {mg : Str → Option Value} {base : Heap} {f : Addr} {fd : FuncData} {c : ClD}
def spFar (K : PySem.W.Frag) (c : ClD) : Sp := fun vs H Q _ => ∃ (L : Lw) (ps : List Addr) (os : List Th) (ds : List Addr) (is : List Nat) (rs : List Rec) (ns : List Int) (n : Nat) (e : Int), vs = [.ref L.W, .int e] ∧ LawI K c H L ps os ds is rs ns n ∧ 0 ≤ e ∧ e ≤ 10000 ∧ os.length ≤ 1000 ∧ ∀ H' ps' os', LawI K c H' L ps' os' ds is rs ns n → Q (.bl true) H'
theorem scFar : FnScope ["_law_world", "_law_end", "_law_g", "_law_k"] ["_law_world", "_law_end"] (defScope sFar) := ⟨rfl, rfl, rfl, by decide +kernel, rfl, by decide +kernel, by decide +kernel⟩
theorem ok_Far (g : Glb9 mg) (F : Fun K "_law_far_right" "_law_far_right" sFar f fd) (dK : Def P w K mg base "known" ["world", "name"] 1 (spKn K c)) (dC : Def P w K mg base "called" ["world", "a", "values"] 7 (spCld K c)) (dA : Def P w K mg base "asked" ["world", "g"] 4 (spAsk K c)) (dCo : Def P w K mg base "counted_on" ["world", "g"] 3 (spCon K c)) (dS : Def P w K mg base "state_of" ["world", "g"] 2 (spStO K c)) : FnOk P w K mg base CX0 8 f fd ["_law_world", "_law_end"] (spFar K c) := by
  refine F.okI scFar (fun vs H Q E h => ?_) (fun cdv A outer s H vs Q E hr h => ?_)
  · obtain ⟨_, _, _, _, _, _, _, _, _, rfl, _⟩ := h; rfl
  obtain ⟨L, ps, os, ds, is, rs, ns, n, e, rfl, hI, he0, he1, hl, q⟩ := h
  refine ⟨_, pss_cons (ps_set (i := 2) scFar.nd rfl (Or.inl rfl) (pe_nth (L3.pe_def dC hr (by decide) rfl (pa_cons (pv 0) (pa_cons (L3.pe_def dK hr (by decide) rfl (pa_cons (pv 0) (pa_cons pe_str pa_nil))) (pa_cons (pe_tup (pa_cons (pe_tup (pa_cons pe_str (pa_cons (pv 1) pa_nil))) pa_nil)) pa_nil))))))
    (pss_cons (ps_for PassesOwn.never rfl (pi_range1 rfl g.nRange (pa_cons (pv 1) pa_nil)) (pg_name (i := 3) scFar.nd rfl (Or.inl rfl))
      (pss_one (ps_if (LW.pt (pw_or (pt_cmpR (op_neD hr) (L3.pe_def dA hr (by decide) rfl (pa_cons (pv 0) (pa_cons (pv 2) pa_nil))) (pe_tup (pa_cons pe_str (pa_cons (pv 2) (pa_cons (pe_tup (pa_cons pe_str pa_nil)) pa_nil)))) (nomark _)) (pw_or1 (pt_cmpR (op_neD hr) (L3.pe_def dCo hr (by decide) rfl (pa_cons (pv 0) (pa_cons (pv 2) pa_nil))) (pe_tup (pa_cons pe_str (pa_cons (pe_tup (pa_cons pe_str (pa_cons (pv 3) pa_nil))) pa_nil))) (nomark _))))) (pss_one (ps_ret pe_bl)) pss_nil)))
    (pss_one (ps_ret (pe_and (pe_cmpR (op_eqD hr) (L3.pe_def dCo hr (by decide) rfl (pa_cons (pv 0) (pa_cons (pv 2) pa_nil))) (pe_tup (pa_cons pe_str pa_nil)) (nomark _)) (pe_and (pe_cmpR (op_eqD hr) (L3.pe_def dA hr (by decide) rfl (pa_cons (pv 0) (pa_cons (pv 2) pa_nil))) (pe_tup (pa_cons pe_str pa_nil)) (nomark _)) (pe_one (pe_cmpR op_eq (L3.pe_def dS hr (by decide) rfl (pa_cons (pv 0) (pa_cons (pv 2) pa_nil))) pe_str (nomark _)))))))), ?_⟩
  refine ⟨_, rfl, _, rfl, L.W, L.l, L.g, ps, os, gv0, "count", 4, rfl, hI.w, gv_count, fun vk hvk => ⟨_, rfl, by show 2 ≤ sizeLine; decide, fun t1 ht1 => ⟨by show 1 ≤ sizeLine; decide, fun t2 ht2 => ?_⟩⟩⟩
  have s1 := (same_new ht1 (.tup [.str "number", .int e])).trans (same_new ht2 (.tup [.ref t1]))
  have a1 : At K (upd (upd H t1 (.tup [.str "number", .int e])) t2 (.tup [.ref t1])) (.tup [.tup [.str "number", .int e]]) (.ref t2) := At.new ht2 (AtAll.one1 (At.new ht1 (AtAll2 (At_str.mpr rfl) (At_int.mpr rfl))))
  revert s1 a1
  generalize upd (upd H t1 (.tup [.str "number", .int e])) t2 (.tup [.ref t1]) = H1
  intro s1 a1
  have I1 := hI.same s1
  refine ⟨L.W, L.l, L.g, ps, os, gv0, vk, .ref t2, 4, "count", _, _, _, rfl, I1.w, At.same s1 _ _ hvk, hI.s.fn 4 (by decide), a1, (CalN.cnt e he1).cal, gv_fault, hl, fun fo H2 ps2 c2 w2 a2 => ?_⟩
  have I2 := I1.chg c2 w2 (hI.s.add _)
  refine ⟨1, _, _, rfl, a2, rfl, fun vg hvg => ?_⟩
  refine ⟨_, rfl, e, rfl, by omega, by omega, for_range (n := e.toNat) (fun k σ H' => ∃ (o3 : Option V) (st : Str) (ps' : List Addr), σ = [some (.ref L.W), some (.int e), some vg, o3] ∧ At K H' (thD os.length) vg ∧ (st = "new" ∨ st = "waits") ∧ LawI K c H' L ps' (os ++ [.gr .non st e (k : Nat)]) ds is rs ns n) ⟨none, "new", ps2, rfl, hvg, .inl rfl, I2⟩ ?turn ?stop⟩
  case turn =>
    rintro k σ H3 hk ⟨o3, st, ps3, rfl, hv3, hst, I3⟩
    have ng : ¬ st = "goes" := by rcases hst with rfl | rfl <;> decide +kernel
    have no : ¬ st = "over" := by rcases hst with rfl | rfl <;> decide +kernel
    have vd : Vd (os ++ [.gr .non st e (k : Nat)]) (thD os.length) := Vd.th (lt_of_some snoc_last)
    refine ⟨_, rfl, _, rfl, L.W, L.l, L.g, ps3, _, gv0, vg, thD os.length, rfl, I3.w, hv3, vd, fun fo H4 s4 a4 => ?_⟩
    rw [thO_th, snoc_last] at a4
    have a4' : At K H4 (match (if st = "goes" then none else some st) with | none => kF | some st => if st = "over" then .tup [.str "over"] else .tup [.str "go", thD os.length, noD]) fo := a4
    rw [if_neg ng] at a4'
    have a5 : At K H4 (if st = "over" then .tup [.str "over"] else .tup [.str "go", thD os.length, noD]) fo := a4'
    rw [if_neg no] at a5
    refine ⟨_, rfl, by show 1 ≤ sizeLine; decide, fun t1 ht1 => ⟨by show 3 ≤ sizeLine; decide, fun t2 ht2 => ⟨_, .tup [.str "go", thD os.length, noD], At.same ((same_new ht1 _).trans (same_new ht2 _)) _ _ a5, At.new ht2 (AtAll3 (At_str.mpr rfl) (At.same (s4.trans (same_new ht1 _)) _ _ hv3) (At.new ht1 (AtAll.one1 (At_str.mpr rfl)))), Nat.le_trans (dep3 (n := 1) (dep_s _ _) (dep_t _ _) (by decide +kernel)) (by decide), _, rfl, ?_⟩⟩⟩
    rw [eqD_refl]
    have s5 := s4.trans ((same_new ht1 (.tup [.str "none"])).trans (same_new ht2 (.tup [.str "go", vg, .ref t1])))
    revert s5
    generalize upd (upd H4 t1 (.tup [.str "none"])) t2 (.tup [.str "go", vg, .ref t1]) = H5
    intro s5
    have I5 := I3.same s5
    have hv5 := At.same s5 _ _ hv3
    refine iteF ⟨_, rfl, _, rfl, L.W, L.l, L.g, ps3, _, gv0, vg, os.length, .non, st, e, (k : Nat), rfl, I5.w, hv5, snoc_last, fun hm => absurd hm (by omega), fun hm fo H6 c6 w6 a6 => ?_⟩
    rw [set_last] at w6
    have I6 := I5.chg c6 w6 (hI.s.add _)
    have hv6 : At K H6 (thD os.length) vg := At.fx (c6.fx I5.w.t) _ _ hv5
    refine ⟨_, rfl, by show 2 ≤ sizeLine; decide, fun t3 ht3 => ⟨by show 2 ≤ sizeLine; decide, fun t4 ht4 => ⟨_, .tup [.str "value", .tup [.str "number", .int (k : Nat)]], At.same ((same_new ht3 _).trans (same_new ht4 _)) _ _ a6, At.new ht4 (AtAll2 (At_str.mpr rfl) (At.new ht3 (AtAll2 (At_str.mpr rfl) (At_int.mpr (congrArg V.int ?_))))), Nat.le_trans (dep2 (n := 1) (dep_s _ _) (dep2 (n := 0) (dep_s _ _) (by rw [dep_int]; exact Nat.le_refl _))) (by decide), _, rfl, ?_⟩⟩⟩
    · omega
    rw [eqD_refl]
    have s7 := (same_new ht3 (.tup [.str "number", .int (0 + (k : Nat))])).trans (same_new ht4 (.tup [.str "value", .ref t3]))
    exact iteF ⟨_, "waits", ps3, rfl, At.same s7 _ _ hv6, .inr rfl, I6.same s7⟩
  case stop =>
    rintro σ H3 ⟨o3, st, ps3, rfl, hv3, hst, I3⟩
    refine ⟨_, rfl, _, rfl, L.W, L.l, L.g, ps3, _, gv0, vg, os.length, .non, st, e, (e.toNat : Nat), rfl, I3.w, hv3, snoc_last, fun hm fo H4 c4 w4 a4 => ?_, fun hm => absurd hm (by omega)⟩
    rw [set_last] at w4
    have I4 := I3.chg c4 w4 (hI.s.add _)
    have hv4 : At K H4 (thD os.length) vg := At.fx (c4.fx I3.w.t) _ _ hv3
    refine ⟨by show 1 ≤ sizeLine; decide, fun t1 ht1 => ⟨_, _, At.same (same_new ht1 _) _ _ a4, At.new ht1 (AtAll.one1 (At_str.mpr rfl)), by decide +kernel, ?_⟩⟩
    rw [eqD_refl]
    have s5 := same_new ht1 (.tup [.str "over"])
    revert s5
    generalize upd H4 t1 (.tup [.str "over"]) = H5
    intro s5
    have I5 := I4.same s5
    have hv5 := At.same s5 _ _ hv4
    refine ⟨true, rfl, iteT ⟨_, rfl, _, rfl, L.W, L.l, L.g, ps3, _, gv0, vg, thD os.length, rfl, I5.w, hv5, Vd.th (lt_of_some snoc_last), fun fo H6 s6 a6 => ?_⟩⟩
    rw [thO_th, snoc_last] at a6
    have a7 : At K H6 (.tup [.str "over"]) fo := a6
    refine ⟨by show 1 ≤ sizeLine; decide, fun t1 ht1 => ⟨_, _, At.same (same_new ht1 _) _ _ a7, At.new ht1 (AtAll.one1 (At_str.mpr rfl)), by decide +kernel, ?_⟩⟩
    rw [eqD_refl]
    have s7 := s6.trans (same_new ht1 (.tup [.str "over"]))
    revert s7
    generalize upd H6 t1 (.tup [.str "over"]) = H7
    intro s7
    have I7 := I5.same s7
    refine ⟨true, rfl, iteT ⟨_, rfl, _, rfl, L.W, L.l, L.g, ps3, _, gv0, vg, os.length, .non, "over", e, _, rfl, I7.w, At.same s7 _ _ hv5, snoc_last, rfl, ?_⟩⟩
    rw [decide_eq_true rfl]
    exact q _ _ _ I7
end
end GS
set_option Elab.async false
set_option linter.all false
set_option maxRecDepth 100000
set_option maxHeartbeats 4000000
namespace GS
open PySem PyProof.Rows
open L2 hiding pe_int pe_bl pe_non pe_str pv pe_glob pe_op pe_cmpR pe_one pe_and pe_ifExp pe_ix po_none po_some pe_slice pa_nil pa_cons pe_lst pe_tup pe_dnewK pe_callB pe_callTy pe_bm pt_cmpR pt_val pt_not pw_and1 pw_or1 pw_and pw_or pg_name pgs_nil pgs_cons pg_tup pi_list pi_tup pi_range1 ps_ret ps_expr ps_set ps_asg ps_if ps_for pss_nil pss_cons pss_one
open L3
abbrev sLaw : Stmt := topd 74
theorem b9Int : bootBuiltins "int" = some (.type "int") := by decide +kernel
abbrev lawN : List Str := ["_law_script", "_law_cells", "_law_spot", "_law_world", "_law_givers", "_law_k", "_law_frame", "_law_end", "_law_found", "_law_turn", "_law_one", "_law_n"]
def strI (i : Int) : Str := Str.ofString (toString i)
theorem str_len : ∀ k, k < 4 → (strI (0 + (k : Nat))).length ≤ 10 := by decide +kernel
theorem log_small {k : Nat} (h : k < 42) : ((0 : Int) + (k : Nat)).natAbs.log2 < 1920 := by
  have e : ((0 : Int) + (k : Nat)).natAbs = k := by omega
  rw [e]
  exact Nat.lt_of_le_of_lt (Nat.log2_le_self k) (by omega)
theorem cut_from {xs : List V} (i j : Nat) : cutV xs (some (i : Nat)) (some (j : Nat)) = (xs.drop i).take (j - i) := by
  unfold cutV
  rw [HT.sIx_nat, HT.sIx_nat]
  by_cases h : i ≤ xs.length
  · rw [Nat.min_eq_left h]
    by_cases h2 : j ≤ xs.length
    · rw [Nat.min_eq_left h2]
    · rw [Nat.min_eq_right (by omega), List.take_of_length_le (by rw [List.length_drop]; omega), List.take_of_length_le (by rw [List.length_drop]; omega)]
  · rw [Nat.min_eq_right (by omega : xs.length ≤ i), List.drop_eq_nil_iff.mpr (Nat.le_refl _), List.drop_eq_nil_iff.mpr (by omega)]; simp
def FrV (K : PySem.W.Frag) (H H' : Hp) (v : V) : Prop := v ≠ .non ∧ ((∃ d, At K H' d v ∧ dep d ≤ 60) ∨ ∃ p xs, v = .ref p ∧ H p = none ∧ H' p = some (.lst xs))
def tFr (K : PySem.W.Frag) : TE := fun σ H Q => ∃ k : Nat, σ[5]? = some (some (.int (0 + (k : Nat)))) ∧ k < 4 ∧ ∀ v H', Same H H' → FrV K H H' v → Q v H'
def tEnd : TE := fun σ H Q => ∃ n, σ[11]? = some (some (.int n)) ∧ ∀ e H', 0 ≤ e → e ≤ 10000 → Same H H' → Q (.int e) H'
def sg (L : Lw) (r : List (Option V)) : L2.St := some (.ref L.sc) :: some (.ref L.a) :: some (.ref L.b) :: some (.ref L.W) :: some (.ref L.gl) :: r
theorem TabI.scr {K : PySem.W.Frag} {H : Hp} {L : Lw} {ds : List Addr} {is : List Nat} {rs : List Rec} {ns : List Int} {n : Nat} (t : TabI K H L ds is rs ns n) : SqL K H L.sc (ns.map V.int) := t.sc.elim (fun z => z.2.2) (fun z => z H)
def sOne (K : PySem.W.Frag) (c : ClD) (ns : List Int) : TS := fun D σ H => ∃ L ps, σ = sg L [none, none, none, none, none, none, none] ∧ LawI K c H L ps os0 [] [] [] ns 0 ∧ ∀ o5 o6 H' ps' os' ds is rs, LawI K c H' L ps' os' ds is rs ns 0 → os'.length ≤ 24 → ds.length ≤ 4 → D.nx (sg L [o5, o6, none, none, none, none, none]) H'
def sTwo (K : PySem.W.Frag) (c : ClD) (ns : List Int) : TS := fun D σ H => ∃ L o5 o6 ps os ds is rs, σ = sg L [o5, o6, none, none, none, none, none] ∧ LawI K c H L ps os ds is rs ns 0 ∧ os.length ≤ 24 ∧ ds.length ≤ 4 ∧ ∀ o5 o7 o8 H' ps' os' ds is rs, LawI K c H' L ps' os' ds is rs ns 2 → os'.length ≤ 26 → 0 < ds.length → ds.length ≤ 6 → D.nx (sg L [o5, o6, o7, o8, none, none, none]) H'
def sTri (K : PySem.W.Frag) (c : ClD) (ns : List Int) : TS := fun D σ H => ∃ L o5 o6 o7 o8 ps os ds is rs, σ = sg L [o5, o6, o7, o8, none, none, none] ∧ LawI K c H L ps os ds is rs ns 2 ∧ os.length ≤ 26 ∧ 0 < ds.length ∧ ∀ o9 o10 H' ps' os' rs' n', LawI K c H' L ps' os' ds is rs' ns n' → os'.length ≤ 56 → D.nx (sg L [o5, o6, o7, o8, o9, o10, none]) H'
section
variable {P : Program} {w : World} {K : PySem.W.Frag} {mg : Str → Option Value} {base : Heap} {f : Addr} {fd : FuncData} {c : ClD}
def spLaw (K : PySem.W.Frag) : Sp := fun vs H Q _ => ∃ (a : Addr) (ns : List Int), vs = [.ref a] ∧ SqL K H a (ns.map V.int) ∧ ns.length ≤ 63 ∧ ∀ H', Q (.bl true) H'
theorem scLaw : FnScope lawN ["_law_script"] (defScope sLaw) := ⟨rfl, rfl, rfl, by decide +kernel, rfl, by decide +kernel, by decide +kernel⟩
theorem ok_Law (g : Glb9 mg) (F : Fun K "law" "law" sLaw f fd) (dAt : Def P w K mg base "_law_cell_at" ["_law_script", "_law_k"] 1 (spAt9 K)) (dCe : Def P w K mg base "_law_cell" ["_law_cells", "_law_spot"] 1 (spCell9 K)) (MW : MkDef P w K mg base "World" c.W ["self", "inputs"] 4 (spWI K c)) (dGi : Def P w K mg base "giver" ["world", "name", "frame"] 3 (spGiv K c)) (dK : Def P w K mg base "known" ["world", "name"] 1 (spKn K c)) (dC : Def P w K mg base "called" ["world", "a", "values"] 7 (spCld K c))
    (dLd : Def P w K mg base "_law_deed" ["_law_world", "_law_givers", "_law_cells", "_law_spot"] 9 (spLd K c)) (dS : Def P w K mg base "state_of" ["world", "g"] 2 (spStO K c)) (dF : Def P w K mg base "frame_of" ["world", "g"] 2 (spFrO K c)) (dFar : Def P w K mg base "_law_far_right" ["_law_world", "_law_end"] 8 (spFar K c)) (dG : Def P w K mg base "is_giver" ["world", "a"] 2 (spIs K c false false false true)) : FnOk P w K mg base CX0 10 f fd ["_law_script"] (spLaw K) := by
  refine F.okI scLaw (fun vs H Q E h => ?_) (fun cdv A outer s H vs Q E hr h => ?_)
  · obtain ⟨_, _, rfl, _⟩ := h; rfl
  obtain ⟨sc, ns, rfl, hS, h63, q⟩ := h
  refine ⟨_, pss_cons (ps_set (i := 1) scLaw.nd rfl (Or.inl rfl) (pe_slice sl_list (pv 0) (po_some pe_int) (po_some pe_int)))
    (pss_cons (ps_set (i := 2) scLaw.nd rfl (Or.inl rfl) (pe_lst (pa_cons pe_int pa_nil)))
    (pss_cons (ps_set (i := 3) scLaw.nd rfl (Or.inr rfl) (L3.pe_mk MW hr (by decide) rfl (pa_cons (pe_lst pa_nil) pa_nil)))
    (pss_cons (ps_set (i := 4) scLaw.nd rfl (Or.inl rfl) (pe_lst pa_nil))
    (pss_cons (ps_imp (t' := sOne K c ns) (ps_for PassesOwn.never rfl (pi_range1 rfl g.nRange (pa_cons (pe_op op_add pe_int (pe_op op_mod (L3.pe_def dAt hr (by decide) rfl (pa_cons (pv 0) (pa_cons pe_int pa_nil))) pe_int)) pa_nil)) (pg_name (i := 5) scLaw.nd rfl (Or.inl rfl))
      (pss_cons (ps_set (i := 6) scLaw.nd rfl (Or.inl rfl) (le_imp (t' := tFr K) (pe_ix (r := rIxL K) ix_list (pe_lst (pa_cons (pe_lst (pa_cons pe_str (pa_cons (pe_lst (pa_cons pe_int pa_nil)) pa_nil))) (pa_cons (pe_tup (pa_cons pe_str pa_nil)) (pa_cons pe_int (pa_cons pe_str pa_nil))))) (pv 5) (fun _ _ => rfl)) ?fr))
      (pss_one (ps_expr (pe_bm PySem.F.plainAttrs_list PySem.F.slot_list_append PySem.F.type_list_append mt_append (pv 4) (pa_cons (L3.pe_disp (L3.pps_cons pe_str (L3.pe_def dGi hr (by decide) rfl (pa_cons (pv 3) (pa_cons (pe_op op_add_str pe_str (pe_callTy call_str_int rfl g.nStr b9Str (pa_cons (pv 5) pa_nil))) (pa_cons (pv 6) pa_nil)))) (L3.pps_cons pe_str (pv 6) (L3.pps_cons pe_str pe_str L3.pps_nil)))) pa_nil)))))) ?one)
    (pss_cons (ps_imp (t' := sTwo K c ns) (ps_for PassesOwn.never rfl (pi_range1 rfl g.nRange (pa_cons pe_int pa_nil)) (pg_name (i := 5) scLaw.nd rfl (Or.inl rfl))
      (pss_cons (ps_set (i := 7) scLaw.nd rfl (Or.inl rfl) (pe_op op_sub (pe_op op_mod (L3.pe_def dCe hr (by decide) rfl (pa_cons (pv 1) (pa_cons (pv 2) pa_nil))) pe_int) pe_int))
      (pss_cons (ps_set (i := 8) scLaw.nd rfl (Or.inl rfl) (L3.pe_def dC hr (by decide) rfl (pa_cons (pv 3) (pa_cons (L3.pe_def dK hr (by decide) rfl (pa_cons (pv 3) (pa_cons pe_str pa_nil))) (pa_cons (pe_tup (pa_cons (pe_tup (pa_cons pe_str (pa_cons (pv 7) pa_nil))) pa_nil)) pa_nil)))))
      (pss_one (ps_expr (pe_bm PySem.F.plainAttrs_list PySem.F.slot_list_append PySem.F.type_list_append mt_append (pv 4) (pa_cons (L3.pe_disp (L3.pps_cons pe_str (pe_nth (pv 8)) (L3.pps_cons pe_str pe_non (L3.pps_cons pe_str pe_str (L3.pps_cons pe_str pe_int (L3.pps_cons pe_str (pv 7) L3.pps_nil)))))) pa_nil))))))) ?two)
    (pss_cons (ps_imp (t' := sTri K c ns) (ps_for PassesOwn.never rfl (pi_range1 rfl g.nRange (pa_cons pe_int pa_nil)) (pg_name (i := 9) scLaw.nd rfl (Or.inl rfl))
      (pss_cons (ps_if (pt_not (pt_val (L3.pe_def dLd hr (by decide) rfl (pa_cons (pv 3) (pa_cons (pv 4) (pa_cons (pv 1) (pa_cons (pv 2) pa_nil))))))) (pss_one (ps_ret pe_bl)) pss_nil)
      (pss_one (ps_for PassesOwn.never rfl (pi_list (pv 4)) (pg_name (i := 10) scLaw.nd rfl (Or.inl rfl)) (pss_one (ps_if (LW.pt (pw_or (pt_cmpR op_ne (L3.pe_def dS hr (by decide) rfl (pa_cons (pv 3) (pa_cons (L3.pe_dget (hu_of hr) (pv 10) pe_str) pa_nil))) (L3.pe_dget (hu_of hr) (pv 10) pe_str) (nomark _)) (pw_or1 (pt_cmpR (OpR.or (op_neD hr) (op_neS hr)) (L3.pe_def dF hr (by decide) rfl (pa_cons (pv 3) (pa_cons (L3.pe_dget (hu_of hr) (pv 10) pe_str) pa_nil))) (L3.pe_dget (hu_of hr) (pv 10) pe_str) (nomark _))))) (pss_one (ps_ret pe_bl)) pss_nil)))))) ?tri)
    (pss_cons (ps_set (i := 11) scLaw.nd rfl (Or.inl rfl) (L3.pe_def dAt hr (by decide) rfl (pa_cons (pv 0) (pa_cons pe_int pa_nil))))
    (pss_cons (ps_if (pt_not (pt_val (L3.pe_def dFar hr (by decide) rfl (pa_cons (pv 3) (pa_cons (le_imp (t' := tEnd) (pe_ix (r := rIxL K) ix_list (pe_lst (pa_cons (pe_op op_add pe_int (pe_op op_mod (pe_op op_fdiv (pv 11) pe_int) pe_int)) (pa_cons pe_int pa_nil))) (pe_callTy call_int1 rfl g.nInt b9Int (pa_cons (pe_cmpR op_eq (pe_op op_mod (pe_op op_fdiv (pv 11) pe_int) pe_int) pe_int (nomark _)) pa_nil)) (fun _ _ => rfl)) ?en) pa_nil))))) (pss_one (ps_ret pe_bl)) pss_nil)
    (pss_one (ps_ret (pe_and (pe_callB (call_all rfl) rfl g.nAll b9All (pa_cons (.mk (L2.pe_compG (cl := [("_law_world", s.heap.objs.size + 1)]) (Xs := ["_law_one"]) (Nf := ["_law_world"]) (js := [3]) ?k rfl (LI.out (pi_list (pv 4))) (fun C s0 H0 fp => LG.out (pg_name (i := 0) (show (["_law_one", "_law_world"] : List Str).Nodup by decide +kernel) rfl (Or.inl rfl))) (fun C s0 H0 fp => pts_nil) (fun C s0 H0 fp => LE.out (pe_cmpR op_isB (L3.pe_def dG hr (by decide) rfl (pa_cons (pv 1) (pa_cons (L3.pe_dget (hu_of hr) (pv 0) pe_str) pa_nil))) pe_bl (nomark _))))) pa_nil)) (pe_one (pe_cmpR op_isB (L3.pe_def dG hr (by decide) rfl (pa_cons (pv 3) (pa_cons (pe_tup (pa_cons pe_str pa_nil)) pa_nil))) pe_bl (nomark _)))))))))))))), ?main⟩
  case fr =>
    rintro σ H Q ⟨k, e5, hk, q⟩
    refine ⟨by show 1 ≤ sizeLine; decide, fun p1 hp1 => ⟨by show 2 ≤ sizeLine; decide, fun p2 hp2 => ⟨by show 1 ≤ sizeLine; decide, fun p3 hp3 => ⟨by show 4 ≤ sizeLine; decide, fun p4 hp4 => ?_⟩⟩⟩⟩
    have n2 : H p2 = none := (same_new hp1 _).free hp2
    have s34 := (same_new hp3 (.tup [.str "b"])).trans (same_new hp4 (.lst [.ref p2, .ref p3, .int 5, .str "x"]))
    have sall := ((same_new hp1 (.lst [.int 1])).trans (same_new hp2 (.lst [.str "a", .ref p1]))).trans s34
    have b2 := s34 p2 _ upd_same
    have a3 : At K _ (.tup [.str "b"]) (.ref p3) := At.same (same_new hp4 (.lst [.ref p2, .ref p3, .int 5, .str "x"])) _ _ (At.new hp3 (AtAll.one1 (At_str.mpr rfl)))
    have b4 : upd (upd (upd (upd H p1 (.lst [.int 1])) p2 (.lst [.str "a", .ref p1])) p3 (.tup [.str "b"])) p4 (.lst [.ref p2, .ref p3, .int 5, .str "x"]) p4 = some (.lst [.ref p2, .ref p3, .int 5, .str "x"]) := upd_same
    revert sall b2 a3 b4
    generalize upd (upd (upd (upd H p1 (.lst [.int 1])) p2 (.lst [.str "a", .ref p1])) p3 (.tup [.str "b"])) p4 (.lst [.ref p2, .ref p3, .int 5, .str "x"]) = H4
    intro sall b2 a3 b4
    have ek : (0 : Int) + (k : Nat) = (k : Nat) := by omega
    refine ⟨_, e5, p4, _, _, _, rfl, rfl, SqL.of b4, by rw [ek]; exact atI_nat (List.getElem?_eq_getElem (show k < 4 from hk)), ?_⟩
    match k, hk with
    | 0, _ => exact q _ _ sall ⟨fun z => (nomatch z), .inr ⟨p2, _, rfl, n2, b2⟩⟩
    | 1, _ => exact q _ _ sall ⟨fun z => (nomatch z), .inl ⟨_, a3, by decide +kernel⟩⟩
    | 2, _ => exact q _ _ sall ⟨fun z => (nomatch z), .inl ⟨.int 5, At_int.mpr rfl, by rw [dep_int]; decide⟩⟩
    | 3, _ => exact q _ _ sall ⟨fun z => (nomatch z), .inl ⟨.str "x", At_str.mpr rfl, by rw [dep_str]; decide⟩⟩
  case one =>
    rintro D0 σ H ⟨L, ps, rfl, hI, q⟩
    refine ⟨_, rfl, L.sc, ns, 0, rfl, hI.t.scr, fun m => ⟨_, _, rfl, rfl, (show (0 : Int) < _ by decide), _, _, rfl, rfl, _, rfl, ?_⟩⟩
    have m0 := Int.emod_nonneg m (b := 4) (by decide)
    have m1 := Int.emod_lt_of_pos m (b := 4) (by decide)
    refine ⟨by show -(2 ^ 62) ≤ 1 + m % 4; omega, by show 1 + m % 4 < 2 ^ 62; omega, for_range (n := (1 + m % 4).toNat) (fun k σ H' => ∃ o5 o6 ps' os' ds is rs, σ = sg L [o5, o6, none, none, none, none, none] ∧ LawI K c H' L ps' os' ds is rs ns 0 ∧ os'.length = 20 + k ∧ ds.length = k) ⟨none, none, ps, os0, [], [], [], rfl, hI, rfl, rfl⟩ ?turn ?stop⟩
    case stop =>
      rintro σ H1 ⟨o5, o6, ps1, os1, ds, is, rs, rfl, I1, l1, l2⟩
      exact q o5 o6 H1 ps1 os1 ds is rs I1 (by omega) (by omega)
    case turn =>
      rintro k σ H0 hk ⟨o5, o6, ps0, os1, ds, is, rs, rfl, I0, l1, l2⟩
      refine ⟨k, rfl, by omega, fun fv H1 s1 hfv => ?_⟩
      have I1 := I0.same s1
      refine ⟨_, rfl, .inl ⟨rfl, _, SqL.of I1.t.gl⟩, ?_⟩
      intro p hp
      have sd := same_new hp (.dK [])
      have pd : upd H1 p (.dK []) p = some (.dK []) := upd_same
      revert sd pd
      generalize upd H1 p (.dK []) = H2
      intro sd pd
      have I2 := I1.same sd
      have slen := str_len k (by omega)
      have l1f : ("f" : Str).length = 1 := by decide +kernel
      refine ⟨_, rfl, _, rfl, _, rfl, log_small (by omega), ("f" : Str), strI (0 + (k : Nat)), rfl, rfl, small (by omega), _, rfl, ?_⟩
      refine ⟨L.W, L.l, L.g, ps0, os1, gv0, _, fv, rfl, I2.w, by omega, fun gr H3 p3 B3 w3 a3 => ?_⟩
      have I3 : LawI K c H3 L (ps0 ++ [p3]) (os1 ++ [.gr fv "new" 0 0]) ds is rs ns 0 := I2.chg (But9.chg B3) w3 (I0.s.add _)
      have npl : p ≠ L.l := fun z => by rw [z, I2.w.t] at pd; cases pd
      have pd3 := B3 _ _ npl pd
      have np : p ∉ ds := fun z => by
        obtain ⟨kvs, e⟩ := I1.t.dict z
        rw [hp] at e; cases e
      have ng : L.g ≠ p := fun z => by
        obtain ⟨kvs, e, _⟩ := I1.w.v
        rw [z, hp] at e; cases e
      refine ⟨_, rfl, pd3, [(.inr "giver", gr), (.inr "frame", fv), (.inr "state", .str "new")], rfl, by show 3 ≤ 15; decide, ?_⟩
      have I4 := I3.newd (o := .dK (mergeK [] [(.inr "giver", gr), (.inr "frame", fv), (.inr "state", .str "new")])) pd3 np ng
      have o4 : OneAt K (upd H3 p (.dK (mergeK [] [(.inr "giver", gr), (.inr "frame", fv), (.inr "state", .str "new")]))) p os1.length ⟨fv, "new", 0, 0⟩ := one_def upd_same (At.fx (Fx.put pd3 rfl) _ _ a3) hfv.1
      have f4 : FrOk K (upd H3 p (.dK (mergeK [] [(.inr "giver", gr), (.inr "frame", fv), (.inr "state", .str "new")]))) L fv := by
        rcases hfv.2 with ⟨d, h1, h2⟩ | ⟨pl, xs, h1, h2, h3⟩
        · exact .inl ⟨d, At.fx (Fx.put pd3 rfl) _ _ (At.fx (B3.fx I2.w.t rfl) _ _ (At.same sd _ _ h1)), h2⟩
        · have e1 : pl ≠ L.l := fun z => by rw [z, I0.w.t] at h2; cases h2
          have e2 : pl ≠ L.b := fun z => by rw [z, I0.t.b] at h2; cases h2
          have e3 : pl ≠ L.gl := fun z => by rw [z, I0.t.gl] at h2; cases h2
          have h4 := B3 _ _ e1 (sd _ _ h3)
          refine .inr ⟨pl, xs, h1, ?_, ⟨e1, e2⟩, e3⟩
          rw [upd_ne (fun z => by rw [z, pd3] at h4; cases h4)]; exact h4
      revert I4 o4 f4
      generalize upd H3 p (.dK (mergeK [] [(.inr "giver", gr), (.inr "frame", fv), (.inr "state", .str "new")])) = H4
      intro I4 o4 f4
      refine ⟨L.gl, _, _, rfl, rfl, I4.t.gl, small1000 (by rw [List.length_map]; omega), ?_⟩
      refine ⟨_, _, _, _, ds ++ [p], is ++ [os1.length], rs ++ [⟨fv, "new", 0, 0⟩], rfl, I4.more o4 f4 np (Ne.symm ng) snoc_last (fun z => Nat.lt_irrefl _ (I0.lt _ z)) (by omega), by rw [List.length_append, List.length_singleton]; omega, by rw [List.length_append, List.length_singleton]; omega⟩
  case two =>
    rintro D0 σ H ⟨L, o5, o6, ps, os, ds, is, rs, rfl, hI, hl, hd, q⟩
    refine ⟨2, rfl, by decide, by decide, for_range (n := 2) (fun k σ H' => ∃ o5 o7 o8 ps' os' ds is rs, σ = sg L [o5, o6, o7, o8, none, none, none] ∧ LawI K c H' L ps' os' ds is rs ns k ∧ os'.length ≤ 24 + k ∧ ds.length ≤ 4 + k ∧ k ≤ ds.length) ⟨o5, none, none, ps, os, ds, is, rs, rfl, hI, hl, hd, Nat.zero_le _⟩ ?turn ?stop⟩
    case stop =>
      rintro σ H1 ⟨o5, o7, o8, ps1, os1, ds, is, rs, rfl, I1, l1, l2, l3⟩
      exact q o5 o7 o8 H1 ps1 os1 ds is rs I1 l1 (by omega) l2
    case turn =>
      clear hI hl hd
      rintro k σ H0 hk ⟨o5, o7, o8, ps0, os1, ds, is, rs, rfl, I0, l1, l2, l3⟩
      refine ⟨_, rfl, _, rfl, L.a, L.b, k, rfl, I0.t.spot9, by omega, fun ce H1 h0 h1 B1 b1 => ?_⟩
      have I1 := I0.cell B1 b1
      refine ⟨_, _, rfl, rfl, (show (0 : Int) < _ by decide), _, _, rfl, rfl, ?_⟩
      have c0 := Int.emod_nonneg ce (b := 8) (by decide)
      have c1 := Int.emod_lt_of_pos ce (b := 8) (by decide)
      have he : ce % 8 - 2 ≤ 10000 := by omega
      dsimp only
      generalize ce % 8 - 2 = en at he ⊢
      refine ⟨_, rfl, _, rfl, L.W, L.l, L.g, ps0, os1, gv0, "count", 4, rfl, I1.w, gv_count, fun vk hvk => ⟨_, rfl, by show 2 ≤ sizeLine; decide, fun t1 ht1 => ⟨by show 1 ≤ sizeLine; decide, fun t2 ht2 => ?_⟩⟩⟩
      have s2 := (same_new ht1 (.tup [.str "number", .int en])).trans (same_new ht2 (.tup [.ref t1]))
      have a2 : At K (upd (upd H1 t1 (.tup [.str "number", .int en])) t2 (.tup [.ref t1])) (.tup [.tup [.str "number", .int en]]) (.ref t2) := At.new ht2 (AtAll.one1 (At.new ht1 (AtAll2 (At_str.mpr rfl) (At_int.mpr rfl))))
      revert s2 a2
      generalize upd (upd H1 t1 (.tup [.str "number", .int en])) t2 (.tup [.ref t1]) = H2
      intro s2 a2
      have I2 := I1.same s2
      refine ⟨L.W, L.l, L.g, ps0, os1, gv0, vk, .ref t2, 4, "count", _, _, _, rfl, I2.w, At.same s2 _ _ hvk, I0.s.fn 4 (by decide), a2, (CalN.cnt en he).cal, gv_fault, by omega, fun fo H3 ps3 c3 w3 a3 => ?_⟩
      have I3 := I2.chg c3 w3 (I0.s.add _)
      refine ⟨_, rfl, .inl ⟨rfl, _, SqL.of I3.t.gl⟩, ?_⟩
      intro p hp
      have sd := same_new hp (.dK [])
      have pd : upd H3 p (.dK []) p = some (.dK []) := upd_same
      revert sd pd
      generalize upd H3 p (.dK []) = H4
      intro sd pd
      have I4 := I3.same sd
      refine ⟨_, rfl, 1, _, _, rfl, At.same sd _ _ a3, rfl, fun vg hvg => ?_⟩
      have np : p ∉ ds := fun z => by
        obtain ⟨kvs, e⟩ := I3.t.dict z
        rw [hp] at e; cases e
      have ng : L.g ≠ p := fun z => by
        obtain ⟨kvs, e, _⟩ := I3.w.v
        rw [z, hp] at e; cases e
      refine ⟨_, rfl, pd, [(.inr "giver", vg), (.inr "frame", .non), (.inr "state", .str "new"), (.inr "at", .int 0), (.inr "end", .int en)], rfl, by show 5 ≤ 15; decide, ?_⟩
      have I5 := I4.newd (o := .dK (mergeK [] [(.inr "giver", vg), (.inr "frame", .non), (.inr "state", .str "new"), (.inr "at", .int 0), (.inr "end", .int en)])) pd np ng
      have o5 : OneAt K (upd H4 p (.dK (mergeK [] [(.inr "giver", vg), (.inr "frame", .non), (.inr "state", .str "new"), (.inr "at", .int 0), (.inr "end", .int en)]))) p os1.length ⟨.non, "new", en, 0⟩ := one_cnt upd_same (At.fx (Fx.put pd rfl) _ _ hvg)
      have f5 : FrOk K (upd H4 p (.dK (mergeK [] [(.inr "giver", vg), (.inr "frame", .non), (.inr "state", .str "new"), (.inr "at", .int 0), (.inr "end", .int en)]))) L .non := .inl ⟨.non, At_non.mpr rfl, by rw [dep_non]; decide⟩
      revert I5 o5 f5
      generalize upd H4 p (.dK (mergeK [] [(.inr "giver", vg), (.inr "frame", .non), (.inr "state", .str "new"), (.inr "at", .int 0), (.inr "end", .int en)])) = H5
      intro I5 o5 f5
      have h20 : 20 ≤ os1.length := by
        have := I0.s.pre 19 (by decide)
        cases z : os1[19]? with
        | none => rw [z] at this; cases this
        | some o => have := lt_of_some z; omega
      refine ⟨L.gl, _, _, rfl, rfl, I5.t.gl, small1000 (by rw [List.length_map]; omega), ?_⟩
      refine ⟨_, _, _, _, _, ds ++ [p], is ++ [os1.length], rs ++ [⟨.non, "new", en, 0⟩], rfl, I5.more o5 f5 np (Ne.symm ng) snoc_last (fun z => Nat.lt_irrefl _ (I0.lt _ z)) h20, by rw [List.length_append, List.length_singleton]; omega, by rw [List.length_append, List.length_singleton]; omega, by rw [List.length_append, List.length_singleton]; omega⟩
  case tri =>
    rintro D0 σ H ⟨L, o5, o6, o7, o8, ps, os, ds, is, rs, rfl, hI, hl, hd, q⟩
    refine ⟨30, rfl, by decide, by decide, for_range (n := 30) (fun k σ H' => ∃ o9 o10 ps' os' rs', σ = sg L [o5, o6, o7, o8, o9, o10, none] ∧ LawI K c H' L ps' os' ds is rs' ns (2 + k) ∧ os'.length ≤ 26 + k) ⟨none, none, ps, os, rs, rfl, hI, hl⟩ ?turn ?stop⟩
    case stop =>
      rintro σ H1 ⟨o9, o10, ps1, os1, rs1, rfl, I1, l1⟩
      exact q o9 o10 H1 ps1 os1 rs1 _ I1 l1
    case turn =>
      rintro k σ H0 hk ⟨o9, o10, ps0, os1, rs0, rfl, I0, l1⟩
      refine ⟨_, rfl, _, rfl, _, rfl, _, rfl, L, ps0, os1, ds, is, rs0, ns, 2 + k, rfl, I0, by omega, hd, by omega, fun H1 ps1 os2 rs1 I1 l2 => ⟨true, rfl, iteF ?_⟩⟩
      refine ⟨_, rfl, L.gl, rfl, ⟨_, SqL.of I1.t.gl⟩, for_list (K := K) (a := L.gl) (xs := ds.map V.ref) (fun j σ H' => ∃ o9 o10, σ = sg L [o5, o6, o7, o8, o9, o10, none] ∧ LawI K c H' L ps1 os2 ds is rs1 ns (2 + k + 1)) ⟨_, _, rfl, I1⟩ (fun j σ H' _ z => by obtain ⟨_, _, _, I⟩ := z; exact SqL.of I.t.gl) ?t2 ?s2⟩
      case s2 =>
        rintro σ H2 ⟨o9, o10, rfl, I2⟩
        exact ⟨o9, o10, ps1, os2, rs1, rfl, I2, by omega⟩
      case t2 =>
        rintro j x σ H2 hx ⟨o9, o10, rfl, I2⟩
        have hj : j < ds.length := by have := lt_of_some hx; rw [List.length_map] at this; exact this
        obtain ⟨d, i, r, hR⟩ := I2.t.row hj
        have ex : x = .ref d := by rw [List.getElem?_map, hR.d] at hx; cases hx; rfl
        subst ex
        have o2 := I2.one hR
        obtain ⟨vg, hgv, hAg⟩ := o2.giver
        have ho := I2.osI hR
        refine ⟨_, rfl, _, rfl, d, _, rfl, hgv, L.W, L.l, L.g, ps1, os2, gv0, vg, i, r.fr, r.st, r.m, r.h, rfl, I2.w, hAg, ho, _, rfl, d, _, rfl, o2.state, rfl, _, rfl, ?_⟩
        rw [decide_eq_true rfl]
        refine iteF ⟨_, rfl, _, rfl, d, _, rfl, hgv, L.W, L.l, L.g, ps1, os2, gv0, vg, i, r.fr, r.st, r.m, r.h, rfl, I2.w, hAg, ho, _, rfl, d, _, rfl, o2.frame, ?_⟩
        rcases (I2.t.t j d i r hR.d hR.i hR.r).2 with ⟨dd, h1, h2⟩ | ⟨pl, xs, h1, h2, _⟩
        · refine .inl ⟨dd, dd, h1, h1, h2, _, rfl, ?_⟩
          rw [eqD_refl]
          exact iteF ⟨_, _, rfl, I2⟩
        · exact .inr ⟨pl, xs, h1, h1, SqL.of h2, _, rfl, iteF ⟨_, _, rfl, I2⟩⟩
  case en =>
    rintro σ H Q ⟨n, e11, q⟩
    have c0 := Int.emod_nonneg (n / 4) (b := 900) (by decide)
    have c1 := Int.emod_lt_of_pos (n / 4) (b := 900) (by decide)
    refine ⟨_, e11, _, _, rfl, rfl, ⟨by decide, by decide⟩, _, _, rfl, rfl, (show (0 : Int) < _ by decide), _, _, rfl, rfl, by show 2 ≤ sizeLine; decide, fun p hp => ?_⟩
    refine ⟨_, e11, _, _, rfl, rfl, ⟨by decide, by decide⟩, _, _, rfl, rfl, (show (0 : Int) < _ by decide), rfl, .inr ⟨_, rfl, ?_⟩⟩
    cases decide (V.int (n / 4 % 9) = V.int 1) with
    | true => exact ⟨p, _, _, _, rfl, rfl, SqL.of upd_same, atI_nat (j := 1) rfl, q _ _ (by decide) (by decide) (same_new hp _)⟩
    | false => exact ⟨p, _, _, _, rfl, rfl, SqL.of upd_same, atI_nat (j := 0) rfl, q _ _ (by show 0 ≤ 210 + n / 4 % 900; omega) (by show 210 + n / 4 % 900 ≤ 10000; omega) (same_new hp _)⟩
  case k =>
    refine ⟨rfl, by decide +kernel, rfl, by decide +kernel, fun y c h => ?_, fun y hy => ?_, rfl, fun j y h => ?_⟩
    · obtain ⟨rfl, rfl⟩ := look1 h; rfl
    · have hy' : ([(".0", .local), ("_law_one", .local), ("is_giver", .globalImplicit), ("_law_world", .cell)] : List (Str × NameKind)).lookup y = some .cell ∨ ([(".0", .local), ("_law_one", .local), ("is_giver", .globalImplicit), ("_law_world", .cell)] : List (Str × NameKind)).lookup y = some .free := hy
      rcases hy' with z | z
      · have m := PySem.mem_of_lookup z
        simp at m
        subst m
        exact ⟨_, rfl⟩
      · have m := PySem.mem_of_lookup z
        simp at m
    · match j, h with
      | 0, h => cases h; exact ⟨3, rfl, rfl, rfl, .inl rfl⟩
      | j + 1, h => simp at h
  case main =>
    refine ⟨_, rfl, 1, rfl, 40, rfl, sc, _, rfl, hS, fun a ha => ⟨by show 1 ≤ sizeLine; decide, fun b hb => ?_⟩⟩
    have ec : cutV (ns.map V.int) (some 1) (some 40) = ((ns.drop 1).take 39).map V.int := by
      rw [List.map_take, List.map_drop]
      exact cut_from 1 40
    rw [ec] at hb ⊢
    have nsa : ∀ {o}, H sc = some o → sc ≠ a ∧ sc ≠ b := fun {o} e => ⟨fun z => (by rw [z, ha] at e; cases e), fun z => (by rw [← z, same_new ha _ _ _ e] at hb; cases hb)⟩
    have s1 : Same H (upd (upd H a (.lst (((ns.drop 1).take 39).map V.int))) b (.lst [.int 0])) := (same_new ha _).trans (same_new hb _)
    have nab : a ≠ b := fun z => by rw [← z, upd_same] at hb; cases hb
    have a1 : upd (upd H a (.lst (((ns.drop 1).take 39).map V.int))) b (.lst [.int 0]) a = some (.lst (((ns.drop 1).take 39).map V.int)) := by rw [upd_ne nab]; exact upd_same
    have b1 : upd (upd H a (.lst (((ns.drop 1).take 39).map V.int))) b (.lst [.int 0]) b = some (.lst [.int (0 : Nat)]) := upd_same
    revert s1 a1 b1
    generalize upd (upd H a (.lst (((ns.drop 1).take 39).map V.int))) b (.lst [.int 0]) = H1
    intro s1 a1 b1
    refine ⟨Nat.zero_le _, fun el hel W dx hW hdx ndx => ?_⟩
    have nWl : W ≠ el := fun z => by rw [z, upd_same] at hW; cases hW
    have ndl : dx ≠ el := fun z => by rw [z, upd_same] at hdx; cases hdx
    refine ⟨W, dx, el, rfl, upd_same, SqL.of (by rw [upd_ne (Ne.symm nWl), upd_ne (Ne.symm ndl)]; exact upd_same), fun H3 l g0 ps3 fr hl0 hg0 hw => ⟨rfl, ?_⟩⟩
    have sW : Same H1 (upd (upd (upd H1 el (.lst [])) dx (.own W)) W (.ins c.W dx [])) := (same_new hel _).trans (new_ins hW hdx ndx).1
    have s13 : Same H1 H3 := fun p o e => fr p o (fun z => by rw [z] at e; rw [same_new hel _ _ _ e] at hW; cases hW) (sW _ _ e)
    have hl1 : H1 l = none := sW.free hl0
    have hg1 : H1 g0 = none := sW.free hg0
    have nl : ∀ {p o}, H1 p = some o → p ≠ l := fun {p o} e z => by rw [z, hl1] at e; cases e
    refine ⟨Nat.zero_le _, fun gl hgl => ?_⟩
    have s4 := same_new hgl (.lst [])
    have g4 : upd H3 gl (.lst []) gl = some (.lst []) := upd_same
    revert s4 g4
    generalize upd H3 gl (.lst []) = H4
    intro s4 g4
    have ngl : ∀ {p o}, H3 p = some o → p ≠ gl := fun {p o} e z => by rw [z, hgl] at e; cases e
    have s14 := s13.trans s4
    have I4 : LawI K c H4 ⟨W, l, g0, gl, a, b, sc⟩ ps3 os0 [] [] [] ns 0 := by
      refine ⟨hw.same s4, ⟨g4, rfl, rfl, List.nodup_nil, fun j d i r e => by simp at e, fun d m => by simp at m, ⟨_, SqL.of (s14 _ _ a1), by rw [List.length_take, List.length_drop]; omega⟩, ?_, s14 _ _ b1, ⟨Ne.symm (ngl hw.t), Ne.symm (ngl (s13 _ _ b1))⟩, ⟨nl a1, nab⟩, nl b1, ngl (s13 _ _ a1)⟩, fun i _ => rfl, fun i m => by simp at m, List.nodup_nil, fun j i r e => by simp at e⟩
      rcases hS with (e | ⟨o, e⟩) | e
      · exact .inl ⟨⟨nl (s1 _ _ e), (nsa e).2⟩, ngl (s13 _ _ (s1 _ _ e)), SqL.of (s14 _ _ (s1 _ _ e))⟩
      · exact .inl ⟨⟨nl (s1 _ _ e), (nsa e).2⟩, ngl (s13 _ _ (s1 _ _ e)), .inl (.inr ⟨o, s14 _ _ (s1 _ _ e)⟩)⟩
      · exact .inr fun H' => .inr e
    refine ⟨⟨W, l, g0, gl, a, b, sc⟩, ps3, rfl, I4, fun o5 o6 H5 ps5 os5 ds is rs I5 l5 d5 => ?_⟩
    refine ⟨_, o5, o6, ps5, os5, ds, is, rs, rfl, I5, l5, d5, fun o5 o7 o8 H6 ps6 os6 ds is rs I6 l6 d6 d66 => ?_⟩
    refine ⟨_, o5, o6, o7, o8, ps6, os6, ds, is, rs, rfl, I6, l6, d6, fun o9 o10 H7 ps7 os7 rs7 n7 I7 l7 => ?_⟩
    refine ⟨_, rfl, sc, ns, 0, rfl, I7.t.scr, fun m => ?_⟩
    refine ⟨_, rfl, m, rfl, fun e H8 e0 e1 s8 => ?_⟩
    have I8 := I7.same s8
    refine ⟨_, ps7, os7, ds, is, rs7, ns, n7, e, rfl, I8, e0, e1, by omega, fun H9 ps9 os9 I9 => ⟨true, rfl, iteF ?_⟩⟩
    have gw : ∀ i, i < ds.length → (ds.map V.ref).getD i .non = .ref (ds.getD i 0) := fun i hi => by
      rw [List.getD_eq_getElem?_getD, List.getD_eq_getElem?_getD, List.getElem?_map, List.getElem?_eq_getElem hi]; rfl
    have hgl9 := SqL.of (K := K) I9.t.gl
    refine ⟨_, rfl, gl, rfl, ⟨_, hgl9⟩, [.ref W], ⟨rfl, fun j i h => ?_⟩, compG_one (vs := [.ref W]) (tc := tTrue) (ds.map V.ref).length (fun i => (ds.map V.ref).getD i .non) (fun _ => true) (fun i v H' => v = .bl true) (fun _ _ _ _ s z => z) ?_ (itl_stop hgl9) (itl_go hgl9) (itl_yld hgl9) (fun i H4 Q' hi s4 k => k H4 (Same.refl _)) (fun j HA D l' Q' hj _ sA _ hDl k => ?_) fun rl HA ys hrl sA rA hP => ?_⟩
    · match j, h with
      | 0, h => cases h; exact ⟨_, rfl, rfl⟩
      | j + 1, h => simp at h
    · rw [List.length_map]; omega
    · rw [List.length_map] at hj
      rw [gw j hj]
      have IA := I9.same sA
      obtain ⟨d, i, r, hR⟩ := IA.t.row hj
      have ed : ds.getD j 0 = d := by rw [List.getD_eq_getElem?_getD, hR.d]; rfl
      rw [ed]
      obtain ⟨vg, hgv, hAg⟩ := (IA.one hR).giver
      have ho := IA.osI hR
      refine ⟨_, rfl, _, rfl, d, _, rfl, hgv, W, l, g0, ps9, os9, gv0, vg, thD i, rfl, IA.w, hAg, Vd.th (lt_of_some ho), _, true, rfl, rfl, ?_⟩
      rw [thO_th, ho]
      exact k _ _ (Same.refl _) rfl
    · rw [List.filter_eq_self.mpr (fun _ _ => rfl)] at hP
      have ey := hP.eq (f := fun _ => V.bl true)
      refine ⟨rl, (List.range (ds.map V.ref).length).map (fun _ => true), rfl, ?_, true, ?_, iteT ?_⟩
      · rw [List.map_map]
        have : ys = (List.range (ds.map V.ref).length).map (V.bl ∘ fun _ => true) := ey
        rw [← this]
        exact SqL.of rA
      · congr 1
        rw [List.all_map]
        exact List.all_eq_true.mpr fun _ _ => rfl
      · refine ⟨_, rfl, by show 1 ≤ sizeLine; decide, fun p hp => ?_⟩
        have IB := (I9.same sA).same (same_new hp (.tup [.str "none"]))
        refine ⟨W, l, g0, ps9, os9, gv0, .ref p, noD, rfl, IB.w, At.new hp (AtAll.one1 (At_str.mpr rfl)), Vd.no (by decide +kernel), _, false, rfl, rfl, ?_⟩
        rw [show thO os9 noD = none from thO_no os9 [] (by decide +kernel)]
        exact q _
end
end GS
set_option Elab.async false
set_option linter.all false
set_option maxRecDepth 100000
set_option maxHeartbeats 4000000
namespace GS
open PySem PyProof.Rows
open L2 hiding pe_int pe_bl pe_non pe_str pv pe_glob pe_op pe_cmpR pe_one pe_and pe_ifExp pe_ix po_none po_some pe_slice pa_nil pa_cons pe_lst pe_tup pe_dnewK pe_callB pe_callTy pe_bm pt_cmpR pt_val pt_not pw_and1 pw_or1 pw_and pw_or pg_name pgs_nil pgs_cons pg_tup pi_list pi_tup pi_range1 ps_ret ps_expr ps_set ps_asg ps_if ps_for pss_nil pss_cons pss_one
open L3
/-! ### what the top has written -/
def FunAt9 (K : PySem.W.Frag) (mg : Str → Option Value) (name : Str) (st : Stmt) : Prop := ∃ (f : Addr) (fd : FuncData), mg name = some (.ref f) ∧ Fun K name name st f fd
theorem fun_at9 {K : PySem.W.Frag} {h : Heap} {mg : Str → Option Value} {name : Str} {st : Stmt} {f : Addr} {oc : Value} {od an : Option Addr} {osl : Array (Option Value)} {kV doc pm cdv ct : Value} (X : K.In h) (G : h.Ns mainGlobals mg)
    (a : PySem.W.nsIn K mainGlobals name = some (some (.ref f))) (l : K.lookup f = some ⟨oc, od, .func (PySem.W.fnOf name name (defArgs st) (defBody st) (defScope st) .none kV doc pm an cdv ct), osl⟩)
    (c : PySem.W.codeIn K cdv name = true) (k : PySem.W.keepIn K (.ref f) = true) : FunAt9 K mg name st := ⟨f, _, PySem.W.mg_of X G a, fun_mk l c k⟩
def MadeAt (K : PySem.W.Frag) (mg : Str → Option Value) : Prop := ∃ (f : Addr) (fd : FuncData) (dV : Value), mg "made" = some (.ref f) ∧ FunV K "made" "made" pMade f fd dV ∧ Binds K fd ["world", "name", "word"] [.none]
theorem made_at {K : PySem.W.Frag} {h : Heap} {mg : Str → Option Value} {f T : Addr} {oc tc : Value} {od an td : Option Addr} {osl tsl : Array (Option Value)} {kV doc pm cdv ct : Value} {n : Nat} (X : K.In h) (G : h.Ns mainGlobals mg)
    (a : PySem.W.nsIn K mainGlobals "made" = some (some (.ref f))) (l : K.lookup f = some ⟨oc, od, .func (PySem.W.fnOf "made" "made" (defArgs pMade) (defBody pMade) (defScope pMade) (.ref T) kV doc pm an cdv ct), osl⟩)
    (c : PySem.W.codeIn K cdv "made" = true) (k : PySem.W.keepIn K (.ref f) = true) (t : K.lookup T = some ⟨tc, td, .seq #[.none] n, tsl⟩) : MadeAt K mg :=
  ⟨f, _, .ref T, PySem.W.mg_of X G a, ⟨⟨oc, od, kV, doc, pm, an, cdv, ct, osl, rfl, l, c⟩, k⟩, fun s us XK hl => by
    have h2 : us.length = 2 := by simpa using hl
    match us, h2 with
    | [_, _], _ => exact PySem.W.binds_K XK rfl t rfl rfl rfl⟩
def IniAt9 (K : PySem.W.Frag) (mg : Str → Option Value) (name qual : Str) (st : Stmt) (C : Addr) : Prop := ∃ (f : Addr) (fd : FuncData), mg name = some (.ref C) ∧ Mk K C f ∧ Fun K "__init__" qual st f fd
theorem ini_at9 {K : PySem.W.Frag} {h : Heap} {mg : Str → Option Value} {name qual : Str} {st : Stmt} {C f : Addr} {oc : Value} {od an : Option Addr} {osl : Array (Option Value)} {kV doc pm cdv ct : Value} (X : K.In h) (G : h.Ns mainGlobals mg)
    (a : PySem.W.nsIn K mainGlobals name = some (some (.ref C))) (m : Mk K C f) (l : K.lookup f = some ⟨oc, od, .func (PySem.W.fnOf "__init__" qual (defArgs st) (defBody st) (defScope st) .none kV doc pm an cdv ct), osl⟩) (cc : PySem.W.codeIn K cdv qual = true) (k : PySem.W.keepIn K (.ref f) = true) : IniAt9 K mg name qual st C :=
  ⟨f, _, PySem.W.mg_of X G a, m, fun_mk l cc k⟩
structure Cz (K : PySem.W.Frag) (mg : Str → Option Value) (c : ClD) : Prop where
  z : CsD K c
  mF : mg "Function" = some (.ref c.F)
  mM : mg "Method" = some (.ref c.M)
  iG : IniAt9 K mg "Given" "Given.__init__" pGvI c.G
  iK : IniAt9 K mg "Kind" "Kind.__init__" pKdI c.Kd
  iO : IniAt9 K mg "Object" "Object.__init__" pObI c.O
  iR : IniAt9 K mg "Giver" "Giver.__init__" pGrI c.Gr
  iW : IniAt9 K mg "World" "World.__init__" pWI c.W
theorem mg_at {K : PySem.W.Frag} {h : Heap} {mg : Str → Option Value} {name : Str} {C : Addr} (X : K.In h) (G : h.Ns mainGlobals mg) (a : PySem.W.nsIn K mainGlobals name = some (some (.ref C))) : mg name = some (.ref C) := PySem.W.mg_of X G a
theorem cz_at {K : PySem.W.Frag} {mg : Str → Option Value} {F G M Kd O Gr W : Addr} (mF : mg "Function" = some (.ref F)) (mM : mg "Method" = some (.ref M)) (jG : IniAt9 K mg "Given" "Given.__init__" pGvI G) (jK : IniAt9 K mg "Kind" "Kind.__init__" pKdI Kd) (jO : IniAt9 K mg "Object" "Object.__init__" pObI O) (jR : IniAt9 K mg "Giver" "Giver.__init__" pGrI Gr) (jW : IniAt9 K mg "World" "World.__init__" pWI W) (z : CsD K ⟨F, G, M, Kd, O, Gr, W⟩) : ∃ c, Cz K mg c := ⟨⟨F, G, M, Kd, O, Gr, W⟩, z, mF, mM, jG, jK, jO, jR, jW⟩
/-! ### tuples that the top wrote -/
def strVs : List Str → List Value → Bool
  | [], [] => true
  | x :: xs, .str y _ :: vs => x == y && strVs xs vs
  | _, _ => false
def itsK (K : PySem.W.Frag) : Value → Option (List Value)
  | .ref a => match K.lookup a with
    | some ⟨.type "tuple", _, .seq its _, _⟩ => if its.size ≤ sizeLine then some its.toList else none
    | _ => none
  | _ => none
def strsK (K : PySem.W.Frag) (xs : List Str) (v : Value) : Bool := match itsK K v with
  | some vs => strVs xs vs
  | none => false
def pairK (K : PySem.W.Frag) (x : Str × List Str) (v : Value) : Bool := match itsK K v with
  | some [.str y _, u] => x.1 == y && strsK K x.2 u
  | _ => false
def pairVs (K : PySem.W.Frag) : List (Str × List Str) → List Value → Bool
  | [], [] => true
  | x :: xs, v :: vs => pairK K x v && pairVs K xs vs
  | _, _ => false
def pairsK (K : PySem.W.Frag) (xs : List (Str × List Str)) (v : Value) : Bool := match itsK K v with
  | some vs => pairVs K xs vs
  | none => false
theorem itsK_sq {K : PySem.W.Frag} {v : Value} {vs : List Value} (h : itsK K v = some vs) : ∃ a, v = .ref a ∧ ∀ (H : Hp) (us : List V), Vals us vs → SqT K H a us := by
  unfold itsK at h
  split at h
  · rename_i a
    refine ⟨a, rfl, fun H us r => ?_⟩
    split at h
    · rename_i d its n sl hl
      split at h
      · rename_i hz
        injection h with h
        exact .inr ⟨_, its, n, hl, rfl, rfl, hz, by rw [h]; exact r⟩
      · cases h
    · cases h
  · cases h
theorem strVs_at {K : PySem.W.Frag} : ∀ {xs : List Str} {vs : List Value}, strVs xs vs = true → Vals (xs.map V.str) vs
  | [], [], _ => .nil
  | [], _ :: _, h => by simp [strVs] at h
  | x :: xs, [], h => by simp [strVs] at h
  | x :: xs, v :: vs, h => by
    cases v with
    | str y t =>
      rw [strVs, Bool.and_eq_true] at h
      exact .cons ⟨t, by rw [eq_of_beq h.1]⟩ (strVs_at (K := K) h.2)
    | _ => simp [strVs] at h
theorem strs_all {K : PySem.W.Frag} {H : Hp} : ∀ (xs : List Str), AtAll K H (xs.map D.str) (xs.map V.str)
  | [] => AtAll_nil.mpr rfl
  | x :: xs => AtAll_cons.mpr ⟨_, _, rfl, At_str.mpr rfl, strs_all xs⟩
theorem strsK_at {K : PySem.W.Frag} {xs : List Str} {v : Value} (h : strsK K xs v = true) : ∃ a, v = .ref a ∧ ∀ H, SqT K H a (xs.map V.str) := by
  unfold strsK at h
  split at h
  · rename_i vs e
    obtain ⟨a, rfl, q⟩ := itsK_sq e
    exact ⟨a, rfl, fun H => q H _ (strVs_at (K := K) h)⟩
  · cases h
theorem pairK_at {K : PySem.W.Frag} {x : Str × List Str} {v : Value} (h : pairK K x v = true) : ∃ a, v = .ref a ∧ ∀ H, At K H (.tup [.str x.1, .tup (x.2.map D.str)]) (.ref a) := by
  unfold pairK at h
  split at h
  · rename_i y t u e
    rw [Bool.and_eq_true] at h
    obtain ⟨a, rfl, q⟩ := itsK_sq e
    obtain ⟨b, rfl, q2⟩ := strsK_at h.2
    refine ⟨a, rfl, fun H => At_tup.mpr ⟨a, [.str x.1, .ref b], rfl, q H _ (.cons ⟨t, by rw [eq_of_beq h.1]⟩ (.cons rfl .nil)), AtAll2 (At_str.mpr rfl) (At_tup.mpr ⟨b, _, rfl, q2 H, strs_all x.2⟩)⟩⟩
  · cases h
theorem pairVs_at {K : PySem.W.Frag} : ∀ {xs : List (Str × List Str)} {vs : List Value}, pairVs K xs vs = true → ∃ us : List V, Vals us vs ∧ ∀ H, AtAll K H (xs.map fun x => .tup [.str x.1, .tup (x.2.map D.str)]) us
  | [], [], _ => ⟨[], .nil, fun _ => AtAll_nil.mpr rfl⟩
  | [], _ :: _, h => by simp [pairVs] at h
  | x :: xs, [], h => by simp [pairVs] at h
  | x :: xs, v :: vs, h => by
    rw [pairVs, Bool.and_eq_true] at h
    obtain ⟨a, rfl, q⟩ := pairK_at h.1
    obtain ⟨us, r, q2⟩ := pairVs_at h.2
    exact ⟨.ref a :: us, .cons rfl r, fun H => AtAll_cons.mpr ⟨_, _, rfl, q H, q2 H⟩⟩
theorem tree_s {K : PySem.W.Frag} {h : Heap} {mg : Str → Option Value} {p : Addr} {x : Str} (xs : List Str) (X : K.In h) (G : h.Ns mainGlobals mg) (a : PySem.W.nsIn K mainGlobals x = some (some (.ref p))) (e : strsK K xs (.ref p) = true) : TreeG K mg x (xs.map D.str) := by
  obtain ⟨q, eq, r⟩ := strsK_at e
  cases eq
  exact ⟨p, _, PySem.W.mg_of X G a, fun H => ⟨r H, strs_all xs⟩⟩
theorem tree_c {K : PySem.W.Frag} {h : Heap} {mg : Str → Option Value} {p : Addr} (X : K.In h) (G : h.Ns mainGlobals mg) (a : PySem.W.nsIn K mainGlobals "GIVEN_CLASSES" = some (some (.ref p))) (e : pairsK K gcN (.ref p) = true) : TreeG K mg "GIVEN_CLASSES" gcD := by
  unfold pairsK at e
  split at e
  · rename_i vs ev
    obtain ⟨q, eq, r⟩ := itsK_sq ev
    cases eq
    obtain ⟨us, r1, r2⟩ := pairVs_at e
    exact ⟨p, us, PySem.W.mg_of X G a, fun H => ⟨r H us r1, r2 H⟩⟩
  · cases e
theorem int_at9 {K : PySem.W.Frag} {h : Heap} {mg : Str → Option Value} {name : Str} {x z : Int} {t : Tok} (X : K.In h) (G : h.Ns mainGlobals mg) (a : PySem.W.nsIn K mainGlobals name = some (some (.int x t))) (e : x = z) : ∃ t, mg name = some (.int z t) := ⟨t, by rw [← e]; exact PySem.W.mg_of X G a⟩
/-! ### the dict that the top wrote -/
def keysOk (P : Params) : List DictEntry → Prop
  | [] => True
  | e :: r => (∃ x t, e.key = .str x t ∧ e.hash = PyData.keyHash P x) ∧ keysOk P r
theorem keysOk.all {P : Params} : ∀ {l : List DictEntry}, keysOk P l → ∀ e ∈ l, ∃ x t, e.key = .str x t ∧ e.hash = PyData.keyHash P x
  | [], _, e, m => by simp at m
  | a :: l, h, e, m => by
    rcases List.mem_cons.mp m with rfl | m
    · exact h.1
    · exact keysOk.all h.2 e m
def twoK (K : PySem.W.Frag) (lo hi : Nat) (v : Value) : Bool := match itsK K v with
  | some [.int a _, .int b _] => decide (a = (lo : Nat)) && decide (b = (hi : Nat))
  | _ => false
def bndK (K : PySem.W.Frag) (es : Array DictEntry) (p : Str × Nat × Nat) : Bool := match findBy Value.isStrOf es p.1 with
  | some v => twoK K p.2.1 p.2.2 v
  | none => false
theorem twoK_at {K : PySem.W.Frag} {lo hi : Nat} {v : Value} (h : twoK K lo hi v = true) : ∃ a, v = .ref a ∧ ∀ H, At K H (.tup [.int (lo : Nat), .int (hi : Nat)]) (.ref a) := by
  unfold twoK at h
  split at h
  · rename_i a t b u e
    rw [Bool.and_eq_true] at h
    obtain ⟨p, rfl, q⟩ := itsK_sq e
    have h1 := of_decide_eq_true h.1
    have h2 := of_decide_eq_true h.2
    subst h1 h2
    exact ⟨p, rfl, fun H => At_tup.mpr ⟨p, [.int (lo : Nat), .int (hi : Nat)], rfl, q H _ (.cons ⟨t, rfl⟩ (.cons ⟨u, rfl⟩ .nil)), AtAll2 (At_int.mpr rfl) (At_int.mpr rfl)⟩⟩
  · cases h
theorem bnd_at {w : World} {K : PySem.W.Frag} {h : Heap} {mg : Str → Option Value} {a : Addr} {es : Array DictEntry} {n : Nat} (X : K.In h) (G : h.Ns mainGlobals mg) (e0 : PySem.W.nsIn K mainGlobals "VALUES_OF_GIVEN" = some (some (.ref a))) (l : K.lookup a = some ⟨.type "dict", none, .dict es n, #[]⟩) (hk : keysOk w.params es.toList) (hb : bnds.all (bndK K es) = true) : BndG w K mg := by
  refine ⟨a, es, n, PySem.W.mg_of X G e0, l, fun e he => hk.all e (by simpa using he), fun nm lo hi hm => ?_⟩
  have := List.all_eq_true.mp hb _ hm
  unfold bndK at this
  split at this
  · rename_i v ev
    obtain ⟨u, rfl, q⟩ := twoK_at this
    exact ⟨u, ev, q⟩
  · cases this
section
variable {P : Program} {w : World} {K : PySem.W.Frag} {mg : Str → Option Value}
theorem law_ofD (g : Glb9 mg) (cz : ∃ c, Cz K mg c) (tN : TreeG K mg "NONE" [.str "none"]) (tf : TreeG K mg "GIVEN_FUNCTIONS" gfD) (tc : TreeG K mg "GIVEN_CLASSES" gcD) (tF : TreeG K mg "FAULT_FIELDS" (fldN.map D.str)) (tK : TreeG K mg "KIND_FAULT" [.str "fault", .str "KindFault"]) (hM : ∃ t, mg "MOST_COUNT" = some (.int 10000 t)) (B : BndG w K mg) (fm : MadeAt K mg) (f1 : FunAt9 K mg "added" pAdd) (f2 : FunAt9 K mg "thing_of" pTh) (f3 : FunAt9 K mg "known" pKn) (f4 : FunAt9 K mg "new_class" pNew) (f5 : FunAt9 K mg "is_class" pIsC) (f6 : FunAt9 K mg "is_fault_class" pIsF) (f7 : FunAt9 K mg "new_object" pObj) (f8 : FunAt9 K mg "giver" pGiv) (f9 : FunAt9 K mg "new_count" pCnt) (f10 : FunAt9 K mg "is_giver" pIsG) (f11 : FunAt9 K mg "frame_of" pFrO) (f12 : FunAt9 K mg "state_of" pStO) (f13 : FunAt9 K mg "set_state" pStS) (f14 : FunAt9 K mg "is_fault" pFlt) (f15 : FunAt9 K mg "counted" pCtd) (f16 : FunAt9 K mg "state_to_go" pSG) (f17 : FunAt9 K mg "gone_on" pGo) (f18 : FunAt9 K mg "thrown" pThr) (f19 : FunAt9 K mg "shut_down" pSht) (f20 : FunAt9 K mg "called_given" pCG) (f21 : FunAt9 K mg "called" pCld) (f22 : FunAt9 K mg "asked" pAsk) (f23 : FunAt9 K mg "counted_on" pCon) (f24 : FunAt9 K mg "_law_cell_at" sAt9) (f25 : FunAt9 K mg "_law_cell" sCell9) (f26 : FunAt9 K mg "_law_plain" sPl) (f27 : FunAt9 K mg "_law_wrong" sLw) (f28 : FunAt9 K mg "_law_go" sLgo) (f29 : FunAt9 K mg "_law_counted" sLc) (f30 : FunAt9 K mg "_law_goes_on" sLg) (f31 : FunAt9 K mg "_law_thrown" sLt) (f32 : FunAt9 K mg "_law_shut" sLs) (f33 : FunAt9 K mg "_law_deed" sLd) (f34 : FunAt9 K mg "_law_far_right" sFar) (f35 : FunAt9 K mg "law" sLaw)
    {fa : Addr} (hfa : mg "law" = some (.ref fa)) :
    ∃ fd : FuncData, (∀ (s : Shared) (v : Value), BindsTo s fd ⟨[v], []⟩ [("_law_script", v)]) ∧ ∀ base : Heap, FnOk P w K mg base CX0 10 fa fd ["_law_script"] (spLaw K) := by
  obtain ⟨c, z, mcF, mcM, ⟨aG, dG, mG, kG, FG⟩, ⟨aK, dK, mK, kK, FK⟩, ⟨aO, dO, mO, kO, FO⟩, ⟨aR, dR, mR, kR, FR⟩, ⟨aW, dW, mW, kW, FW⟩⟩ := cz
  obtain ⟨am, dm, dVm, mm, Fm, bm⟩ := fm
  obtain ⟨a1, d1, m1, F1⟩ := f1
  obtain ⟨a2, d2, m2, F2⟩ := f2
  obtain ⟨a3, d3, m3, F3⟩ := f3
  obtain ⟨a4, d4, m4, F4⟩ := f4
  obtain ⟨a5, d5, m5, F5⟩ := f5
  obtain ⟨a6, d6, m6, F6⟩ := f6
  obtain ⟨a7, d7, m7, F7⟩ := f7
  obtain ⟨a8, d8, m8, F8⟩ := f8
  obtain ⟨a9, d9, m9, F9⟩ := f9
  obtain ⟨a10, d10, m10, F10⟩ := f10
  obtain ⟨a11, d11, m11, F11⟩ := f11
  obtain ⟨a12, d12, m12, F12⟩ := f12
  obtain ⟨a13, d13, m13, F13⟩ := f13
  obtain ⟨a14, d14, m14, F14⟩ := f14
  obtain ⟨a15, d15, m15, F15⟩ := f15
  obtain ⟨a16, d16, m16, F16⟩ := f16
  obtain ⟨a17, d17, m17, F17⟩ := f17
  obtain ⟨a18, d18, m18, F18⟩ := f18
  obtain ⟨a19, d19, m19, F19⟩ := f19
  obtain ⟨a20, d20, m20, F20⟩ := f20
  obtain ⟨a21, d21, m21, F21⟩ := f21
  obtain ⟨a22, d22, m22, F22⟩ := f22
  obtain ⟨a23, d23, m23, F23⟩ := f23
  obtain ⟨a24, d24, m24, F24⟩ := f24
  obtain ⟨a25, d25, m25, F25⟩ := f25
  obtain ⟨a26, d26, m26, F26⟩ := f26
  obtain ⟨a27, d27, m27, F27⟩ := f27
  obtain ⟨a28, d28, m28, F28⟩ := f28
  obtain ⟨a29, d29, m29, F29⟩ := f29
  obtain ⟨a30, d30, m30, F30⟩ := f30
  obtain ⟨a31, d31, m31, F31⟩ := f31
  obtain ⟨a32, d32, m32, F32⟩ := f32
  obtain ⟨a33, d33, m33, F33⟩ := f33
  obtain ⟨a34, d34, m34, F34⟩ := f34
  obtain ⟨a35, d35, m35, F35⟩ := f35
  rw [m35] at hfa
  have ea : a35 = fa := by injection hfa with e; injection e
  subst ea
  refine ⟨d35, fun s v => ?_, fun base => ?_⟩
  · obtain ⟨oc, od, kV, doc, pm, an, cdv, ct, osl, rfl, lk, hcd⟩ := F35.ex
    exact .of_eq rfl
  have D1 : Def P w K mg base "added" ["world", "thing"] 1 (spAdd K c) := def_mk F1 m1 (F1.binds fun _ _ _ _ _ _ us hl => match us, hl with | [_, _], _ => rfl) (ok_Add g z F1)
  have D2 : Def P w K mg base "thing_of" ["world", "a"] 1 (spTh K c) := def_mk F2 m2 (F2.binds fun _ _ _ _ _ _ us hl => match us, hl with | [_, _], _ => rfl) (ok_Th z F2)
  have D3 : Def P w K mg base "known" ["world", "name"] 1 (spKn K c) := def_mk F3 m3 (F3.binds fun _ _ _ _ _ _ us hl => match us, hl with | [_, _], _ => rfl) (ok_Kn z F3)
  have MG : MkDef P w K mg base "Given" c.G ["self", "name"] 1 (spGvI c.G) := ⟨aG, dG, mG, kG, (FG.binds fun _ _ _ _ _ _ us hl => match us, hl with | [_, _], _ => rfl), ok_GvI z FG⟩
  have MK : MkDef P w K mg base "Kind" c.Kd ["self", "name", "order", "fields", "is_given"] 1 (spKdI c.Kd) := ⟨aK, dK, mK, kK, (FK.binds fun _ _ _ _ _ _ us hl => match us, hl with | [_, _, _, _, _], _ => rfl), ok_KdI z FK⟩
  have MO : MkDef P w K mg base "Object" c.O ["self", "kind", "fields"] 1 (spObI c.O) := ⟨aO, dO, mO, kO, (FO.binds fun _ _ _ _ _ _ us hl => match us, hl with | [_, _, _], _ => rfl), ok_ObI z FO⟩
  have MR : MkDef P w K mg base "Giver" c.Gr ["self", "name", "frame", "many"] 1 (spGrI c.Gr) := ⟨aR, dR, mR, kR, (FR.binds fun _ _ _ _ _ _ us hl => match us, hl with | [_, _, _, _], _ => rfl), ok_GrI z FR⟩
  have D4 : Def P w K mg base "new_class" ["world", "name", "behind", "fields", "is_given"] 3 (spNew K c) := def_mk F4 m4 (F4.binds fun _ _ _ _ _ _ us hl => match us, hl with | [_, _, _, _, _], _ => rfl) (ok_New g z MK F4 D1)
  have D5 : Def P w K mg base "is_class" ["world", "a"] 2 (spIs K c false true false false) := def_mk F5 m5 (F5.binds fun _ _ _ _ _ _ us hl => match us, hl with | [_, _], _ => rfl) (ok_IsC g z mK F5 D2)
  have D6 : Def P w K mg base "is_fault_class" ["world", "a"] 3 (spFC K c) := def_mk F6 m6 (F6.binds fun _ _ _ _ _ _ us hl => match us, hl with | [_, _], _ => rfl) (ok_FC z F6 D5 D3 D2)
  have D7 : Def P w K mg base "new_object" ["world", "kind"] 4 (spObj K c) := def_mk F7 m7 (F7.binds fun _ _ _ _ _ _ us hl => match us, hl with | [_, _], _ => rfl) (ok_Obj g z tN tF MO F7 D6 D1)
  have D8 : Def P w K mg base "giver" ["world", "name", "frame"] 3 (spGiv K c) := def_mk F8 m8 (F8.binds fun _ _ _ _ _ _ us hl => match us, hl with | [_, _, _], _ => rfl) (ok_Giv MR F8 D1)
  have D9 : Def P w K mg base "new_count" ["world", "many"] 3 (spCnt K c) := def_mk F9 m9 (F9.binds fun _ _ _ _ _ _ us hl => match us, hl with | [_, _], _ => rfl) (ok_Cnt MR F9 D1)
  have D10 : Def P w K mg base "is_giver" ["world", "a"] 2 (spIs K c false false false true) := def_mk F10 m10 (F10.binds fun _ _ _ _ _ _ us hl => match us, hl with | [_, _], _ => rfl) (ok_IsG g z mR F10 D2)
  have D11 : Def P w K mg base "frame_of" ["world", "g"] 2 (spFrO K c) := def_mk F11 m11 (F11.binds fun _ _ _ _ _ _ us hl => match us, hl with | [_, _], _ => rfl) (ok_FrO z F11 D2)
  have D12 : Def P w K mg base "state_of" ["world", "g"] 2 (spStO K c) := def_mk F12 m12 (F12.binds fun _ _ _ _ _ _ us hl => match us, hl with | [_, _], _ => rfl) (ok_StO z F12 D2)
  have D13 : Def P w K mg base "set_state" ["world", "g", "state"] 2 (spStS K c) := def_mk F13 m13 (F13.binds fun _ _ _ _ _ _ us hl => match us, hl with | [_, _, _], _ => rfl) (ok_StS z F13 D2)
  have D14 : Def P w K mg base "is_fault" ["world", "a"] 4 (spFlt K c) := def_mk F14 m14 (F14.binds fun _ _ _ _ _ _ us hl => match us, hl with | [_, _], _ => rfl) (ok_Flt g z mO F14 D6 D2)
  have DM : DefN P w K mg base "made" ["world", "name", "word"] 5 (spMade K c) := ⟨am, dm, mm, Fm.kp, bm, ok_Made Fm D7 D3 D2⟩
  have D15 : Def P w K mg base "counted" ["world", "n"] 4 (spCtd K c) := def_mk F15 m15 (F15.binds fun _ _ _ _ _ _ us hl => match us, hl with | [_, _], _ => rfl) (ok_Ctd hM F15 D9)
  have D16 : Def P w K mg base "state_to_go" ["world", "g"] 3 (spSG K c) := def_mk F16 m16 (F16.binds fun _ _ _ _ _ _ us hl => match us, hl with | [_, _], _ => rfl) (ok_SG F16 D10 D12)
  have D17 : Def P w K mg base "gone_on" ["world", "g", "v"] 4 (spGo K c) := def_mk F17 m17 (F17.binds fun _ _ _ _ _ _ us hl => match us, hl with | [_, _, _], _ => rfl) (ok_Go tN tK F17 D16 D11)
  have D18 : Def P w K mg base "thrown" ["world", "g", "fault"] 5 (spThr K c) := def_mk F18 m18 (F18.binds fun _ _ _ _ _ _ us hl => match us, hl with | [_, _, _], _ => rfl) (ok_Thr tK F18 D16 D14)
  have D19 : Def P w K mg base "shut_down" ["world", "g"] 4 (spSht K c) := def_mk F19 m19 (F19.binds fun _ _ _ _ _ _ us hl => match us, hl with | [_, _], _ => rfl) (ok_Sht tN tK F19 D16 D13)
  have D20 : Def P w K mg base "called_given" ["world", "name", "values"] 6 (spCG K c) := def_mk F20 m20 (F20.binds fun _ _ _ _ _ _ us hl => match us, hl with | [_, _, _], _ => rfl) (ok_CG g B tN tK F20 D15 D17 D18 D19)
  have D21 : Def P w K mg base "called" ["world", "a", "values"] 7 (spCld K c) := def_mk F21 m21 (F21.binds fun _ _ _ _ _ _ us hl => match us, hl with | [_, _, _], _ => rfl) (ok_Cld g z mcF mcM mK mG F21 D2 D20)
  have D22 : Def P w K mg base "asked" ["world", "g"] 4 (spAsk K c) := def_mk F22 m22 (F22.binds fun _ _ _ _ _ _ us hl => match us, hl with | [_, _], _ => rfl) (ok_Ask tN tK F22 D16)
  have D23 : Def P w K mg base "counted_on" ["world", "g"] 3 (spCon K c) := def_mk F23 m23 (F23.binds fun _ _ _ _ _ _ us hl => match us, hl with | [_, _], _ => rfl) (ok_Con z F23 D2 D13)
  have D24 : Def P w K mg base "_law_cell_at" ["_law_script", "_law_k"] 1 (spAt9 K) := def_mk F24 m24 (F24.binds fun _ _ _ _ _ _ us hl => match us, hl with | [_, _], _ => rfl) (ok_At9 g F24)
  have D25 : Def P w K mg base "_law_cell" ["_law_cells", "_law_spot"] 1 (spCell9 K) := def_mk F25 m25 (F25.binds fun _ _ _ _ _ _ us hl => match us, hl with | [_, _], _ => rfl) (ok_Cell9 g F25)
  have D26 : Def P w K mg base "_law_plain" ["_law_n"] 1 (spPl K) := def_mk F26 m26 (F26.binds fun _ _ _ _ _ _ us hl => match us, hl with | [_], _ => rfl) (ok_Pl F26)
  have D27 : Def P w K mg base "_law_wrong" ["_law_world", "_law_n", "_law_one", "_law_fault"] 8 (spLw K c) := def_mk F27 m27 (F27.binds fun _ _ _ _ _ _ us hl => match us, hl with | [_, _, _, _], _ => rfl) (ok_Lw F27 D3 D21)
  have D28 : Def P w K mg base "_law_go" ["_law_world", "_law_one", "_law_v", "_law_found"] 1 (spLgo K) := def_mk F28 m28 (F28.binds fun _ _ _ _ _ _ us hl => match us, hl with | [_, _, _, _], _ => rfl) (ok_Lgo F28)
  have D29 : Def P w K mg base "_law_counted" ["_law_world", "_law_one"] 4 (spLc K c) := def_mk F29 m29 (F29.binds fun _ _ _ _ _ _ us hl => match us, hl with | [_, _], _ => rfl) (ok_Lc F29 D23)
  have D30 : Def P w K mg base "_law_goes_on" ["_law_world", "_law_one", "_law_n"] 8 (spLg K c) := def_mk F30 m30 (F30.binds fun _ _ _ _ _ _ us hl => match us, hl with | [_, _, _], _ => rfl) (ok_Lg F30 D26 D22 D3 D21 D28 D29 D13)
  have D31 : Def P w K mg base "_law_thrown" ["_law_world", "_law_one", "_law_fault"] 8 (spLt K c) := def_mk F31 m31 (F31.binds fun _ _ _ _ _ _ us hl => match us, hl with | [_, _, _], _ => rfl) (ok_Lt F31 D3 D21)
  have D32 : Def P w K mg base "_law_shut" ["_law_world", "_law_one"] 8 (spLs K c) := def_mk F32 m32 (F32.binds fun _ _ _ _ _ _ us hl => match us, hl with | [_, _], _ => rfl) (ok_Ls F32 D3 D21)
  have D33 : Def P w K mg base "_law_deed" ["_law_world", "_law_givers", "_law_cells", "_law_spot"] 9 (spLd K c) := def_mk F33 m33 (F33.binds fun _ _ _ _ _ _ us hl => match us, hl with | [_, _, _, _], _ => rfl) (ok_Ld g F33 D25 DM D30 D31 D32 D27 D13 D10 D26)
  have D34 : Def P w K mg base "_law_far_right" ["_law_world", "_law_end"] 8 (spFar K c) := def_mk F34 m34 (F34.binds fun _ _ _ _ _ _ us hl => match us, hl with | [_, _], _ => rfl) (ok_Far g F34 D3 D21 D22 D23 D12)
  have MW : MkDef P w K mg base "World" c.W ["self", "inputs"] 4 (spWI K c) := ⟨aW, dW, mW, kW, (FW.binds fun _ _ _ _ _ _ us hl => match us, hl with | [_, _], _ => rfl), ok_WI g z tf tc MG FW D1 D4⟩
  exact ok_Law g F35 D24 D25 MW D8 D3 D21 D33 D12 D11 D34 D10
end
theorem walkD {l : PySem.W.OpenLaw} {q : Program} {loose : List Str} {XP : (Str → Option Value) → Heap → Prop} {YP : World → Heap → Prop} {d : DefRec} {K : Params → PySem.W.Frag} (hn : l.most = some 63) (hdf : d.params.defaults = [])
    (hY : ∀ (w : World) (h : Heap), YP w h → (K w.params).In h)
    (F : ∀ (w : World) (mg : Str → Option Value) (fa : Addr) (h : Heap), (K w.params).In h → h.Ns mainGlobals mg → mg d.name = some (.ref fa) →
      ∃ fd : FuncData, (∀ (s : Shared) (u : Value), BindsTo s fd ⟨[u], []⟩ [("_law_script", u)]) ∧ ∀ base : Heap, FnOk l.prog w (K w.params) mg base CX0 10 fa fd ["_law_script"] (spLaw (K w.params))) :
    PySem.W.WalkO q loose XP YP l.row.toRowW d [] (fun f vs => PySem.call f vs) :=
  L2.walk_of (n := 63) (k := 10) (x := "_law_script") (CX := fun _ => CX0) (sp := fun w => spLaw (K w.params)) hn (by decide) hdf ⟨rfl, by decide, by decide, rfl⟩ hY (fun w mg fa h a b c => let ⟨fd, p, q⟩ := F w mg fa h a b c; ⟨fd, p, fun base _ _ => q base⟩) (fun _ _ a ns hl _ hS => ⟨a, ns, rfl, hS, hl, fun _ => rfl⟩) fun _ _ _ _ _ z => z
end GS
open PySem PySem.W
set_option maxRecDepth 100000 in
set_option maxHeartbeats 0 in
theorem PySem.Challenge.cw_grassnake_k13_givers_holds : PySem.Challenge.rw_grassnake_k13_givers.Holds := by
  refine holds_law GS.said9 fun said => ?_
  refine W.holds_open (q := GS.q9) (loose := GS.lo9) (Xt := fun s => xlAt GS.q9 [] s && recOk (RowW.records (OpenRow.toRowW (OpenLaw.row GS.r9))) s) (XP := XL GS.q9 []) (Yf := Hook.obs (kHook GS.K9h GS.asK9h GS.eK9h)) (Ya := Hook.val (kHook GS.K9h GS.asK9h GS.eK9h)) (YP := Hook.says (kHook GS.K9h GS.asK9h GS.eK9h)) (N := 7880) GS.left9 (Hook.of _) (Hook.keeps _) (fun s e => xl_of s (Bool.and_eq_true_iff.mp e).1) XL.keeps (by rfl) (by rfl) (by rfl) (fun s e => recFacts_of (Bool.and_eq_true_iff.mp e).2) (by rfl) said (by decide +kernel) ⟨rfl, rfl, rfl, rfl, rfl, by decide +kernel⟩ ?hw ?hc
  case hw => w_witness2
  k_fill
  refine GS.walkD (l := GS.r9) rfl rfl (fun w h Y => PySem.W.kIn_of Y) ?F
  case F =>
    intro w mg fa h KX G hmg
    have g : GS.Glb9 mg := by
      refine' ⟨?_, ?_, ?_, ?_, ?_, ?_, ?_, ?_, ?_, ?_, ?_, ?_, ?_, ?_, ?_, ?_⟩
      all_goals (refine' PySem.W.mg_none_of KX G ?a; (case a => k_is))
    have hM : ∃ t, mg "MOST_COUNT" = some (.int 10000 t) := by
      refine' GS.int_at9 KX G ?a ?e; (case a => k_is); (case e => decide)
    have tN : GS.TreeG (L2.KOf KX) mg "NONE" [.str "none"] := by
      dsimp only [L2.KOf]
      refine' GS.tree_s ["none"] KX G ?a ?e; (case a => k_is); (case e => kernel_rfl)
    have tf : GS.TreeG (L2.KOf KX) mg "GIVEN_FUNCTIONS" GS.gfD := by
      dsimp only [L2.KOf]
      refine' GS.tree_s GS.gfN KX G ?a ?e; (case a => k_is); (case e => kernel_rfl)
    have tc : GS.TreeG (L2.KOf KX) mg "GIVEN_CLASSES" GS.gcD := by
      dsimp only [L2.KOf]
      refine' GS.tree_c KX G ?a ?e; (case a => k_is); (case e => kernel_rfl)
    have tF : GS.TreeG (L2.KOf KX) mg "FAULT_FIELDS" (GS.fldN.map GS.D.str) := by
      dsimp only [L2.KOf]
      refine' GS.tree_s GS.fldN KX G ?a ?e; (case a => k_is); (case e => kernel_rfl)
    have tK : GS.TreeG (L2.KOf KX) mg "KIND_FAULT" [.str "fault", .str "KindFault"] := by
      dsimp only [L2.KOf]
      refine' GS.tree_s ["fault", "KindFault"] KX G ?a ?e; (case a => k_is); (case e => kernel_rfl)
    have B : GS.BndG w (L2.KOf KX) mg := by
      dsimp only [L2.KOf]
      refine' GS.bnd_at KX G ?a ?l ?k ?e; (case a => k_is); (case l => k_is); (case k => exact ⟨⟨_, _, rfl, rfl⟩, ⟨_, _, rfl, rfl⟩, ⟨_, _, rfl, rfl⟩, ⟨_, _, rfl, rfl⟩, ⟨_, _, rfl, rfl⟩, ⟨_, _, rfl, rfl⟩, ⟨_, _, rfl, rfl⟩, ⟨_, _, rfl, rfl⟩, True.intro⟩); (case e => kernel_rfl)
    have fm : GS.MadeAt (L2.KOf KX) mg := by
      dsimp only [L2.KOf]
      refine' GS.made_at KX G ?_ ?_ ?_ ?_ ?_; repeat any_goals k_is
    have cz : ∃ c, GS.Cz (L2.KOf KX) mg c := by
      dsimp only [L2.KOf]
      refine' GS.cz_at (GS.mg_at KX G ?_) (GS.mg_at KX G ?_) (GS.ini_at9 KX G ?_ ⟨?_, ?_, ?_, ?_⟩ ?_ ?_ ?_) (GS.ini_at9 KX G ?_ ⟨?_, ?_, ?_, ?_⟩ ?_ ?_ ?_) (GS.ini_at9 KX G ?_ ⟨?_, ?_, ?_, ?_⟩ ?_ ?_ ?_) (GS.ini_at9 KX G ?_ ⟨?_, ?_, ?_, ?_⟩ ?_ ?_ ?_) (GS.ini_at9 KX G ?_ ⟨?_, ?_, ?_, ?_⟩ ?_ ?_ ?_) ⟨⟨?_, ?_, ?_, ?_⟩, ?_, ?_, ?_, ?_, ⟨?_, ?_, ?_, ?_⟩, ?_, ?_, ?_, ?_, ⟨?_, ?_, ?_, ?_⟩, ?_, ⟨?_, ?_, ?_, ?_⟩, ?_, ?_, ⟨?_, ?_, ?_, ?_⟩, ?_, ?_, ?_, ?_, ?_, ⟨?_, ?_, ?_, ?_, ?_, ?_⟩, ⟨?_, ?_, ?_, ?_, ?_, ?_⟩, ⟨?_, ?_, ?_, ?_, ?_, ?_⟩, ⟨?_, ?_, ?_, ?_, ?_, ?_⟩, ⟨?_, ?_, ?_, ?_, ?_⟩, ⟨?_, ?_, ?_, ?_, ?_⟩, ⟨?_, ?_, ?_, ?_, ?_⟩, ⟨?_, ?_, ?_, ?_, ?_⟩, ⟨?_, ?_, ?_, ?_, ?_⟩, ⟨?_, ?_, ?_, ?_, ?_⟩, ?_⟩
      repeat any_goals first | k_is | (unfold L2.NoAttr; k_is) | rfl
      all_goals decide
    refine GS.law_ofD g cz tN tf tc tF tK hM B fm ?_ ?_ ?_ ?_ ?_ ?_ ?_ ?_ ?_ ?_ ?_ ?_ ?_ ?_ ?_ ?_ ?_ ?_ ?_ ?_ ?_ ?_ ?_ ?_ ?_ ?_ ?_ ?_ ?_ ?_ ?_ ?_ ?_ ?_ ?_ hmg
    all_goals ((try dsimp only [L2.KOf]); refine' GS.fun_at9 KX G ?_ ?_ ?_ ?_; repeat any_goals k_is)
